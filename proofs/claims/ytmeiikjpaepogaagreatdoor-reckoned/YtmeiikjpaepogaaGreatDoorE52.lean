/- fathomkeep.Reckoned is true of any two numbers: what words make of them, with any options, is what it is. The row's condition, and no other: the package-level variables lie as their text lays them. -/
import Derived.Test.YtmeiikjpaepogaaGreatDoorCards
import Derived.Test.YtmeiikjpaepogaaGreatDoorTie
import Derived.Test.YtmeiikjpaepogaaGreatDoorE23
import Derived.Test.YtmeiikjpaepogaaGreatDoorE32
import Derived.Test.YtmeiikjpaepogaaGreatDoorE51
import Derived.Test.YtmeiikjpaepogaaGreatDoorE50
import Derived.Deep.DeepWitnessRowRef
import Derived.WideKeyArgs
set_option maxRecDepth 100000
namespace Go.Proofs.YtmeiikjpaepogaaGreatDoor
open Go Go.RowKit Go.ChangeShapes Go.WideShapes Go.ChangeAt Go.Deep
theorem Tryz.read_int64:Tryz.prog.readableRec 2=true:=by kernel_rfl
theorem Tryz.row_int64:decide (2<Tryz.prog.types.size)=true:=by kernel_rfl
theorem Tryz.stand_int64:Tryz.prog.wantsStandIn 2=false:=by kernel_rfl
theorem Tryz.params11:Tryz.f11.params=#[2,2]:=by kernel_rfl
theorem Tryz.result11:Tryz.f11.resultTypes=#[4]:=by kernel_rfl
theorem contract (H:Type) (enc:TypeId×Value→H) (W:World) (base:Nat) (args:Array Value) (ds gs:List (DataW H)) (before:List MemPlace)
    (hval:∀ (j:Nat) t v,Tryz.f11.params[j]? = some t→args[j]? = some v→Value.okWide Tryz.prog W .any base t v)
    (hW:DataW.Whole enc Tryz.prog Tryz.f11.params.toList Rows.reckonedSpec.vars false W args.toList ds gs before)
    (hsz:(DataW.weightsEach Tryz.prog (Tryz.f11.params.toList++(OpenSpec.ofChange Rows.reckonedSpec).bare.plain.varTypes Tryz.prog) (ds++gs)).all (·≤reachBytes)=true) (hL:laidMetH Tryz.prog Rows.reckonedRow.laid W) :
    Calls Tryz.prog 11 args W fun e W'=>∃ v,e=.returned v∧Rows.reckonedSpec.post enc Tryz.prog Tryz.f11 false true false false W args v W':=by
  have hW':=hW
  obtain⟨p,q,hA0,hV,rfl,hfz,hnd⟩:=hW
  have hA:DataW.TrodAll enc Tryz.prog W 0 (fun _=>true) true Tryz.f11.params.toList args.toList ds p:=hA0
  rw[Tryz.params11]at hA hval hsz
  obtain⟨v0,vs0,d0,ds0,p0,q0,hargs0,rfl,rfl,h0,r0⟩:=trodAll_cons hA
  obtain⟨v1,vs1,d1,ds1,p1,q1,hargs1,rfl,rfl,h1,r1⟩:=trodAll_cons r0
  obtain⟨hend,rfl,rfl⟩:=trodAll_nil r1
  obtain rfl:args=#[v0,v1]:=by cases args;simp_all
  obtain⟨rfl,rfl⟩:=trodVars_none hV
  obtain⟨z0,hv0,hz0⟩:=open_int64 (hval 0 2 v0 rfl rfl) h0
  subst hv0
  obtain⟨z1,hv1,hz1⟩:=open_int64 (hval 1 2 v1 rfl rfl) h1
  subst hv1
  refine (reckonedK_any (fun _ _ _ _ _ _ _ h1 h2 h3 h4 h5=>chained_any _ _ _ _ _ _ _ h1 h2 h3 h4 h5) z0 z1 W (env3_of_laid hL) hz0 hz1).mono fun e W' ⟨he,hb⟩=>?_
  subst he
  have hlt0:∀ x∈p0,x.block<W.heap.size:=fun x hx=>hW'.lt x (by simp[hx])
  have hlt1:∀ x∈p1,x.block<W.heap.size:=fun x hx=>hW'.lt x (by simp[hx])
  refine⟨_,rfl,_,[],_,[],(p0++(p1++[])),[],hW',?_,?_,?_,hb.frame _,fun h=>by cases h⟩
  · rw[Tryz.result11]
    exact trodAll_cons_mk (shut_bool Tryz.underlying4 _) trodAll_mk0
  · rw[Tryz.params11]
    exact (trodAll_cons_mk (WideElems.Trod_stays Tryz.laidOut Tryz.read_int64 (of_decide_eq_true Tryz.row_int64) h0 (fun x hx=>hb.same (hlt0 x hx)) (fun x hx=>by simpa using hlt0 x hx)) (trodAll_cons_mk (WideElems.Trod_stays Tryz.laidOut Tryz.read_int64 (of_decide_eq_true Tryz.row_int64) h1 (fun x hx=>hb.same (hlt1 x hx)) (fun x hx=>by simpa using hlt1 x hx)) (trodAll_mk0 (enc:=enc) (P:=Tryz.prog) (w:=W') (base:=0) (spare:=fun b=>decide (b<W.heap.size)) (held:=true))))
  · rfl
theorem laid_met (os:Os) (args:Array Value):laidMetH Tryz.prog Rows.reckonedRow.laid ((World.doorLaid Tryz.prog 4000 os).forCall (fun _ _=>0) ⟨#[],args,[]⟩).memory:=by
  rw[MakeChecks.laidMetH_plain _ _ _ (by kernel_rfl)]
  exact laidMet_of_run' 8 (by kernel_rfl) (by kernel_rfl)
theorem reads (os:Os) {H:Type} (enc:TypeId×Value→H):∃ places,DataW.whole enc Tryz.prog ((World.doorLaid Tryz.prog 4000 os).forCall (fun _ _=>0) ⟨#[],#[.int .i64 0,.int .i64 0],[]⟩).memory Tryz.f11.params.toList Rows.reckonedSpec.vars false #[.int .i64 0,.int .i64 0].toList 8=some ([.lit (.int .i64 0),.lit (.int .i64 0)],[],places) :=
  ⟨[],by kernel_rfl⟩
theorem lifted (os:Os) (started:os.Started) (H:Type) (enc:TypeId×Value→H) (F:Stop.Interp) :
    ReturnsInHanded {} Tryz.checked os 11 .any ((OpenSpec.ofChange Rows.reckonedSpec).preRow enc Tryz.prog Tryz.f11 Rows.reckonedRow.domain false Rows.reckonedRow.laid) (((OpenSpec.ofChange Rows.reckonedSpec).at F).post enc Tryz.prog Tryz.f11 false true false false):=by
  obtain⟨places,hx⟩:=reads os enc
  refine returnsInHanded_of_row (C:=Tryz.checked) (s:=OpenSpec.ofChange Rows.reckonedSpec) Tryz.own started (by kernel_rfl) Tryz.func11
    (witness_row_atRef (enc:=enc) (C:=Tryz.checked) false (World.doorLaid Tryz.prog 4000 os) #[.int .i64 0,.int .i64 0] rfl (by kernel_rfl) (by kernel_rfl) (by kernel_rfl)
      (OpenSpec.preRow_of_cond 8 hx (by kernel_rfl) (fun k hk=>by cases hk) (by kernel_rfl) (laid_met os _))) ?_
  intro W base args ds gs before hval hW _ _ hsz hL _ _
  exact contract H enc W base args ds gs before hval hW hsz hL
theorem funcId:Tryz.prog.funcNamed Rows.reckonedRow.func=some 11:=by kernel_rfl
theorem said:Rows.ReckonedSaid :=
  OpenClaim.holds_of_cond 11 Tryz.f11 rfl rfl rfl rfl rfl rfl rfl ⟨rfl,rfl,rfl,rfl,rfl⟩ rfl rfl rfl rfl rfl funcId Tryz.func11 Tryz.closedK
    (of_decide_eq_true (by kernel_rfl)) (by unfold Func.isWrapper;first|(rw[if_pos (by decide +kernel)];kernel_rfl)|(rw[if_neg (by decide +kernel)];exact⟨rfl,rfl⟩))
    (fun os started H enc _ F=>by rw[OpenClaim.pre_eq_preRow];exact lifted os started H enc F)
theorem plainLooks (f:FuncId) (fn:Func) (hf:Tryz.pinned.checked.prog.funcNamed Rows.reckonedRow.func=some f) (hfn:Tryz.pinned.checked.prog.funcs[f]? = some fn) :
    true=Tryz.pinned.checked.prog.looks []∧∀ (j:Nat) t,fn.params[j]? = some t→Tryz.pinned.checked.prog.wantsStandIn t=false:=by
  obtain rfl:f=11:=Option.some.inj (funcId.symm.trans hf) |>.symm
  obtain rfl:fn=Tryz.f11:=(Option.some.inj (Tryz.func11.symm.trans hfn)).symm
  refine⟨by kernel_rfl,fun j t ht=>?_⟩
  rw[Tryz.params11]at ht
  have hm:=Array.mem_of_getElem? ht
  simp only[List.mem_toArray,List.mem_cons,List.not_mem_nil,or_false]at hm
  rcases hm with rfl|rfl
  · exact Tryz.stand_int64
  · exact Tryz.stand_int64
theorem reckoned_holds:Rows.ReckonedCardSaid :=
  Claim7.holds_tied_plain_at .later [] _ _ _ _ said (fun _ h=>by cases h) (by kernel_rfl) (fun _ h=>by cases h) reckoned_row_tie rfl ⟨rfl,rfl⟩ (by kernel_rfl) rfl plainLooks (by kernel_rfl)
end Go.Proofs.YtmeiikjpaepogaaGreatDoor
