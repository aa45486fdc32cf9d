/- fathomkeep.Counted is true of any three numbers: loops tell each number from one up to another, a word that calls itself counts down, with any options. The row's condition, and no other: the package-level variables lie as their text lays them. -/
import Derived.Test.YtmeiikjpaepogaaGreatDoorCards
import Derived.Test.YtmeiikjpaepogaaGreatDoorTie
import Derived.Test.YtmeiikjpaepogaaGreatDoorN23
import Derived.Test.YtmeiikjpaepogaaGreatDoorN32
import Derived.Test.YtmeiikjpaepogaaGreatDoorN51
import Derived.Test.YtmeiikjpaepogaaGreatDoorN44
import Derived.Deep.DeepWitnessRowRef
import Derived.WideKeyArgs
set_option maxRecDepth 100000
namespace Go.Proofs.YtmeiikjpaepogaaGreatDoor
open Go Go.RowKit Go.ChangeShapes Go.WideShapes Go.ChangeAt Go.Deep
theorem Tryz.read_int:Tryz.prog.readableRec 3=true:=by kernel_rfl
theorem Tryz.row_int:decide (3<Tryz.prog.types.size)=true:=by kernel_rfl
theorem Tryz.stand_int:Tryz.prog.wantsStandIn 3=false:=by kernel_rfl
theorem Tryz.params12:Tryz.f12.params=#[3,3,3]:=by kernel_rfl
theorem Tryz.result12:Tryz.f12.resultTypes=#[4]:=by kernel_rfl
theorem contract (H:Type) (enc:TypeId×Value→H) (W:World) (base:Nat) (args:Array Value) (ds gs:List (DataW H)) (before:List MemPlace)
    (hval:∀ (j:Nat) t v,Tryz.f12.params[j]? = some t→args[j]? = some v→Value.okWide Tryz.prog W .any base t v)
    (hW:DataW.Whole enc Tryz.prog Tryz.f12.params.toList Rows.countedSpec.vars false W args.toList ds gs before)
    (hsz:(DataW.weightsEach Tryz.prog (Tryz.f12.params.toList++(OpenSpec.ofChange Rows.countedSpec).bare.plain.varTypes Tryz.prog) (ds++gs)).all (·≤reachBytes)=true) (hL:laidMetH Tryz.prog Rows.countedRow.laid W) :
    Calls Tryz.prog 12 args W fun e W'=>∃ v,e=.returned v∧Rows.countedSpec.post enc Tryz.prog Tryz.f12 false true false false W args v W':=by
  have hW':=hW
  obtain⟨p,q,hA0,hV,rfl,hfz,hnd⟩:=hW
  have hA:DataW.TrodAll enc Tryz.prog W 0 (fun _=>true) true Tryz.f12.params.toList args.toList ds p:=hA0
  rw[Tryz.params12]at hA hval hsz
  obtain⟨v0,vs0,d0,ds0,p0,q0,hargs0,rfl,rfl,h0,r0⟩:=trodAll_cons hA
  obtain⟨v1,vs1,d1,ds1,p1,q1,hargs1,rfl,rfl,h1,r1⟩:=trodAll_cons r0
  obtain⟨v2,vs2,d2,ds2,p2,q2,hargs2,rfl,rfl,h2,r2⟩:=trodAll_cons r1
  obtain⟨hend,rfl,rfl⟩:=trodAll_nil r2
  obtain rfl:args=#[v0,v1,v2]:=by cases args;simp_all
  obtain⟨rfl,rfl⟩:=trodVars_none hV
  obtain⟨z0,hv0,hz0⟩:=open_int (hval 0 3 v0 rfl rfl) h0
  subst hv0
  obtain⟨z1,hv1,hz1⟩:=open_int (hval 1 3 v1 rfl rfl) h1
  subst hv1
  obtain⟨z2,hv2,hz2⟩:=open_int (hval 2 3 v2 rfl rfl) h2
  subst hv2
  refine (countedK_any (fun _ _ _ _ _ _ _ h1 h2 h3 h4 h5=>chained_any _ _ _ _ _ _ _ h1 h2 h3 h4 h5) z0 z1 z2 W (env3_of_laid hL) hz0 hz1 hz2).mono fun e W' ⟨he,hb⟩=>?_
  subst he
  have hlt0:∀ x∈p0,x.block<W.heap.size:=fun x hx=>hW'.lt x (by simp[hx])
  have hlt1:∀ x∈p1,x.block<W.heap.size:=fun x hx=>hW'.lt x (by simp[hx])
  have hlt2:∀ x∈p2,x.block<W.heap.size:=fun x hx=>hW'.lt x (by simp[hx])
  refine⟨_,rfl,_,[],_,[],(p0++(p1++(p2++[]))),[],hW',?_,?_,?_,hb.frame _,fun h=>by cases h⟩
  · rw[Tryz.result12]
    exact trodAll_cons_mk (shut_bool Tryz.underlying4 _) trodAll_mk0
  · rw[Tryz.params12]
    exact (trodAll_cons_mk (WideElems.Trod_stays Tryz.laidOut Tryz.read_int (of_decide_eq_true Tryz.row_int) h0 (fun x hx=>hb.same (hlt0 x hx)) (fun x hx=>by simpa using hlt0 x hx)) (trodAll_cons_mk (WideElems.Trod_stays Tryz.laidOut Tryz.read_int (of_decide_eq_true Tryz.row_int) h1 (fun x hx=>hb.same (hlt1 x hx)) (fun x hx=>by simpa using hlt1 x hx)) (trodAll_cons_mk (WideElems.Trod_stays Tryz.laidOut Tryz.read_int (of_decide_eq_true Tryz.row_int) h2 (fun x hx=>hb.same (hlt2 x hx)) (fun x hx=>by simpa using hlt2 x hx)) (trodAll_mk0 (enc:=enc) (P:=Tryz.prog) (w:=W') (base:=0) (spare:=fun b=>decide (b<W.heap.size)) (held:=true)))))
  · rfl
theorem laid_met (os:Os) (args:Array Value):laidMetH Tryz.prog Rows.countedRow.laid ((World.doorLaid Tryz.prog 4000 os).forCall (fun _ _=>0) ⟨#[],args,[]⟩).memory:=by
  rw[MakeChecks.laidMetH_plain _ _ _ (by kernel_rfl)]
  exact laidMet_of_run' 8 (by kernel_rfl) (by kernel_rfl)
theorem reads (os:Os) {H:Type} (enc:TypeId×Value→H):∃ places,DataW.whole enc Tryz.prog ((World.doorLaid Tryz.prog 4000 os).forCall (fun _ _=>0) ⟨#[],#[.int .i64 0,.int .i64 0,.int .i64 0],[]⟩).memory Tryz.f12.params.toList Rows.countedSpec.vars false #[.int .i64 0,.int .i64 0,.int .i64 0].toList 8=some ([.lit (.int .i64 0),.lit (.int .i64 0),.lit (.int .i64 0)],[],places) :=
  ⟨[],by kernel_rfl⟩
theorem lifted (os:Os) (started:os.Started) (H:Type) (enc:TypeId×Value→H) (F:Stop.Interp) :
    ReturnsInHanded {} Tryz.checked os 12 .any ((OpenSpec.ofChange Rows.countedSpec).preRow enc Tryz.prog Tryz.f12 Rows.countedRow.domain false Rows.countedRow.laid) (((OpenSpec.ofChange Rows.countedSpec).at F).post enc Tryz.prog Tryz.f12 false true false false):=by
  obtain⟨places,hx⟩:=reads os enc
  refine returnsInHanded_of_row (C:=Tryz.checked) (s:=OpenSpec.ofChange Rows.countedSpec) Tryz.own started (by kernel_rfl) Tryz.func12
    (witness_row_atRef (enc:=enc) (C:=Tryz.checked) false (World.doorLaid Tryz.prog 4000 os) #[.int .i64 0,.int .i64 0,.int .i64 0] rfl (by kernel_rfl) (by kernel_rfl) (by kernel_rfl)
      (OpenSpec.preRow_of_cond 8 hx (by kernel_rfl) (fun k hk=>by cases hk) (by kernel_rfl) (laid_met os _))) ?_
  intro W base args ds gs before hval hW _ _ hsz hL _ _
  exact contract H enc W base args ds gs before hval hW hsz hL
theorem funcId:Tryz.prog.funcNamed Rows.countedRow.func=some 12:=by kernel_rfl
theorem said:Rows.CountedSaid :=
  OpenClaim.holds_of_cond 12 Tryz.f12 rfl rfl rfl rfl rfl rfl rfl ⟨rfl,rfl,rfl,rfl,rfl⟩ rfl rfl rfl rfl rfl funcId Tryz.func12 Tryz.closedN
    (of_decide_eq_true (by kernel_rfl)) (by unfold Func.isWrapper;first|(rw[if_pos (by decide +kernel)];kernel_rfl)|(rw[if_neg (by decide +kernel)];exact⟨rfl,rfl⟩))
    (fun os started H enc _ F=>by rw[OpenClaim.pre_eq_preRow];exact lifted os started H enc F)
theorem plainLooks (f:FuncId) (fn:Func) (hf:Tryz.pinned.checked.prog.funcNamed Rows.countedRow.func=some f) (hfn:Tryz.pinned.checked.prog.funcs[f]? = some fn) :
    true=Tryz.pinned.checked.prog.looks []∧∀ (j:Nat) t,fn.params[j]? = some t→Tryz.pinned.checked.prog.wantsStandIn t=false:=by
  obtain rfl:f=12:=Option.some.inj (funcId.symm.trans hf) |>.symm
  obtain rfl:fn=Tryz.f12:=(Option.some.inj (Tryz.func12.symm.trans hfn)).symm
  refine⟨by kernel_rfl,fun j t ht=>?_⟩
  rw[Tryz.params12]at ht
  have hm:=Array.mem_of_getElem? ht
  simp only[List.mem_toArray,List.mem_cons,List.not_mem_nil,or_false]at hm
  rcases hm with rfl|rfl|rfl
  · exact Tryz.stand_int
  · exact Tryz.stand_int
  · exact Tryz.stand_int
theorem counted_holds:Rows.CountedCardSaid :=
  Claim7.holds_tied_plain_at .later [] _ _ _ _ said (fun _ h=>by cases h) (by kernel_rfl) (fun _ h=>by cases h) counted_row_tie rfl ⟨rfl,rfl⟩ (by kernel_rfl) rfl plainLooks (by kernel_rfl)
end Go.Proofs.YtmeiikjpaepogaaGreatDoor
