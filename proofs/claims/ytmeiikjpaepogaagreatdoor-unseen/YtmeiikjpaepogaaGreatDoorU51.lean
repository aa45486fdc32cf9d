/- fathomkeep.Unseen is true of any text, Tail or not, any limits and fuel: it is refused with all options alike; if it ends without Fold and Super it ends the same with them, in no more steps. The row's condition, and no other: the package-level variables lie as their text lays them. -/
import Derived.Test.YtmeiikjpaepogaaGreatDoorCards
import Derived.Test.YtmeiikjpaepogaaGreatDoorTie
import Derived.Test.YtmeiikjpaepogaaGreatDoorU25
import Derived.Test.YtmeiikjpaepogaaGreatDoorU33
import Derived.Test.YtmeiikjpaepogaaGreatDoorU49
import Derived.Test.YtmeiikjpaepogaaGreatDoorU50
import Derived.Deep.DeepWitnessRowRef
import Derived.WideKeyArgs
set_option maxRecDepth 100000
namespace Go.Proofs.YtmeiikjpaepogaaGreatDoor
open Go Go.RowKit Go.ChangeShapes Go.WideShapes Go.ChangeAt Go.Deep
theorem Tryz.read_string:Tryz.prog.readableRec 9=true:=by kernel_rfl
theorem Tryz.row_string:decide (9<Tryz.prog.types.size)=true:=by kernel_rfl
theorem Tryz.stand_string:Tryz.prog.wantsStandIn 9=false:=by kernel_rfl
theorem Tryz.read_bool:Tryz.prog.readableRec 4=true:=by kernel_rfl
theorem Tryz.row_bool:decide (4<Tryz.prog.types.size)=true:=by kernel_rfl
theorem Tryz.stand_bool:Tryz.prog.wantsStandIn 4=false:=by kernel_rfl
theorem Tryz.read_int:Tryz.prog.readableRec 3=true:=by kernel_rfl
theorem Tryz.row_int:decide (3<Tryz.prog.types.size)=true:=by kernel_rfl
theorem Tryz.stand_int:Tryz.prog.wantsStandIn 3=false:=by kernel_rfl
theorem Tryz.params9:Tryz.f9.params=#[9,4,3,3,3,3,3]:=by kernel_rfl
theorem Tryz.result9:Tryz.f9.resultTypes=#[4]:=by kernel_rfl
theorem contract (H:Type) (enc:TypeId×Value→H) (W:World) (base:Nat) (args:Array Value) (ds gs:List (DataW H)) (before:List MemPlace)
    (hval:∀ (j:Nat) t v,Tryz.f9.params[j]? = some t→args[j]? = some v→Value.okWide Tryz.prog W .any base t v)
    (hW:DataW.Whole enc Tryz.prog Tryz.f9.params.toList Rows.unseenSpec.vars false W args.toList ds gs before)
    (hsz:(DataW.weightsEach Tryz.prog (Tryz.f9.params.toList++(OpenSpec.ofChange Rows.unseenSpec).bare.plain.varTypes Tryz.prog) (ds++gs)).all (·≤reachBytes)=true) (hL:laidMetH Tryz.prog Rows.unseenRow.laid W) :
    Calls Tryz.prog 9 args W fun e W'=>∃ v,e=.returned v∧Rows.unseenSpec.post enc Tryz.prog Tryz.f9 false true false false W args v W':=by
  have hW':=hW
  obtain⟨p,q,hA0,hV,rfl,hfz,hnd⟩:=hW
  have hA:DataW.TrodAll enc Tryz.prog W 0 (fun _=>true) true Tryz.f9.params.toList args.toList ds p:=hA0
  rw[Tryz.params9]at hA hval hsz
  obtain⟨v0,vs0,d0,ds0,p0,q0,hargs0,rfl,rfl,h0,r0⟩:=trodAll_cons hA
  obtain⟨v1,vs1,d1,ds1,p1,q1,hargs1,rfl,rfl,h1,r1⟩:=trodAll_cons r0
  obtain⟨v2,vs2,d2,ds2,p2,q2,hargs2,rfl,rfl,h2,r2⟩:=trodAll_cons r1
  obtain⟨v3,vs3,d3,ds3,p3,q3,hargs3,rfl,rfl,h3,r3⟩:=trodAll_cons r2
  obtain⟨v4,vs4,d4,ds4,p4,q4,hargs4,rfl,rfl,h4,r4⟩:=trodAll_cons r3
  obtain⟨v5,vs5,d5,ds5,p5,q5,hargs5,rfl,rfl,h5,r5⟩:=trodAll_cons r4
  obtain⟨v6,vs6,d6,ds6,p6,q6,hargs6,rfl,rfl,h6,r6⟩:=trodAll_cons r5
  obtain⟨hend,rfl,rfl⟩:=trodAll_nil r6
  obtain rfl:args=#[v0,v1,v2,v3,v4,v5,v6]:=by cases args;simp_all
  obtain⟨rfl,rfl⟩:=trodVars_none hV
  obtain⟨s0,hv0⟩:=okWide_string Tryz.underlying9 (hval 0 9 v0 rfl rfl)
  subst hv0
  obtain⟨b1,hv1⟩:=okWide_bool Tryz.underlying4 (hval 1 4 v1 rfl rfl)
  subst hv1
  obtain⟨z2,hv2,hz2⟩:=open_int (hval 2 3 v2 rfl rfl) h2
  subst hv2
  obtain⟨z3,hv3,hz3⟩:=open_int (hval 3 3 v3 rfl rfl) h3
  subst hv3
  obtain⟨z4,hv4,hz4⟩:=open_int (hval 4 3 v4 rfl rfl) h4
  subst hv4
  obtain⟨z5,hv5,hz5⟩:=open_int (hval 5 3 v5 rfl rfl) h5
  subst hv5
  obtain⟨z6,hv6,hz6⟩:=open_int (hval 6 3 v6 rfl rfl) h6
  subst hv6
  refine (unseen_any (fun _ _ _ _ _ _ _ h1 h2 h3 h4 h5=>chained_any _ _ _ _ _ _ _ h1 h2 h3 h4 h5) s0 b1 z2 z3 z4 z5 z6 W (env3_of_laid hL) hz2 hz3 hz4 hz5 hz6).mono fun e W' ⟨he,hb⟩=>?_
  subst he
  have hlt0:∀ x∈p0,x.block<W.heap.size:=fun x hx=>hW'.lt x (by simp[hx])
  have hlt1:∀ x∈p1,x.block<W.heap.size:=fun x hx=>hW'.lt x (by simp[hx])
  have hlt2:∀ x∈p2,x.block<W.heap.size:=fun x hx=>hW'.lt x (by simp[hx])
  have hlt3:∀ x∈p3,x.block<W.heap.size:=fun x hx=>hW'.lt x (by simp[hx])
  have hlt4:∀ x∈p4,x.block<W.heap.size:=fun x hx=>hW'.lt x (by simp[hx])
  have hlt5:∀ x∈p5,x.block<W.heap.size:=fun x hx=>hW'.lt x (by simp[hx])
  have hlt6:∀ x∈p6,x.block<W.heap.size:=fun x hx=>hW'.lt x (by simp[hx])
  refine⟨_,rfl,_,[],_,[],(p0++(p1++(p2++(p3++(p4++(p5++(p6++[]))))))),[],hW',?_,?_,?_,hb.frame _,fun h=>by cases h⟩
  · rw[Tryz.result9]
    exact trodAll_cons_mk (shut_bool Tryz.underlying4 _) trodAll_mk0
  · rw[Tryz.params9]
    exact (trodAll_cons_mk (WideElems.Trod_stays Tryz.laidOut Tryz.read_string (of_decide_eq_true Tryz.row_string) h0 (fun x hx=>hb.same (hlt0 x hx)) (fun x hx=>by simpa using hlt0 x hx)) (trodAll_cons_mk (WideElems.Trod_stays Tryz.laidOut Tryz.read_bool (of_decide_eq_true Tryz.row_bool) h1 (fun x hx=>hb.same (hlt1 x hx)) (fun x hx=>by simpa using hlt1 x hx)) (trodAll_cons_mk (WideElems.Trod_stays Tryz.laidOut Tryz.read_int (of_decide_eq_true Tryz.row_int) h2 (fun x hx=>hb.same (hlt2 x hx)) (fun x hx=>by simpa using hlt2 x hx)) (trodAll_cons_mk (WideElems.Trod_stays Tryz.laidOut Tryz.read_int (of_decide_eq_true Tryz.row_int) h3 (fun x hx=>hb.same (hlt3 x hx)) (fun x hx=>by simpa using hlt3 x hx)) (trodAll_cons_mk (WideElems.Trod_stays Tryz.laidOut Tryz.read_int (of_decide_eq_true Tryz.row_int) h4 (fun x hx=>hb.same (hlt4 x hx)) (fun x hx=>by simpa using hlt4 x hx)) (trodAll_cons_mk (WideElems.Trod_stays Tryz.laidOut Tryz.read_int (of_decide_eq_true Tryz.row_int) h5 (fun x hx=>hb.same (hlt5 x hx)) (fun x hx=>by simpa using hlt5 x hx)) (trodAll_cons_mk (WideElems.Trod_stays Tryz.laidOut Tryz.read_int (of_decide_eq_true Tryz.row_int) h6 (fun x hx=>hb.same (hlt6 x hx)) (fun x hx=>by simpa using hlt6 x hx)) (trodAll_mk0 (enc:=enc) (P:=Tryz.prog) (w:=W') (base:=0) (spare:=fun b=>decide (b<W.heap.size)) (held:=true)))))))))
  · rfl
theorem laid_met (os:Os) (args:Array Value):laidMetH Tryz.prog Rows.unseenRow.laid ((World.doorLaid Tryz.prog 4000 os).forCall (fun _ _=>0) ⟨#[],args,[]⟩).memory:=by
  rw[MakeChecks.laidMetH_plain _ _ _ (by kernel_rfl)]
  exact laidMet_of_run' 8 (by kernel_rfl) (by kernel_rfl)
theorem reads (os:Os) {H:Type} (enc:TypeId×Value→H):∃ places,DataW.whole enc Tryz.prog ((World.doorLaid Tryz.prog 4000 os).forCall (fun _ _=>0) ⟨#[],#[.string ⟨#[]⟩,.bool false,.int .i64 0,.int .i64 0,.int .i64 0,.int .i64 0,.int .i64 0],[]⟩).memory Tryz.f9.params.toList Rows.unseenSpec.vars false #[.string ⟨#[]⟩,.bool false,.int .i64 0,.int .i64 0,.int .i64 0,.int .i64 0,.int .i64 0].toList 8=some ([.lit (.string []),.lit (.bool false),.lit (.int .i64 0),.lit (.int .i64 0),.lit (.int .i64 0),.lit (.int .i64 0),.lit (.int .i64 0)],[],places) :=
  ⟨[],by kernel_rfl⟩
theorem lifted (os:Os) (started:os.Started) (H:Type) (enc:TypeId×Value→H) (F:Stop.Interp) :
    ReturnsInHanded {} Tryz.checked os 9 .any ((OpenSpec.ofChange Rows.unseenSpec).preRow enc Tryz.prog Tryz.f9 Rows.unseenRow.domain false Rows.unseenRow.laid) (((OpenSpec.ofChange Rows.unseenSpec).at F).post enc Tryz.prog Tryz.f9 false true false false):=by
  obtain⟨places,hx⟩:=reads os enc
  refine returnsInHanded_of_row (C:=Tryz.checked) (s:=OpenSpec.ofChange Rows.unseenSpec) Tryz.own started (by kernel_rfl) Tryz.func9
    (witness_row_atRef (enc:=enc) (C:=Tryz.checked) false (World.doorLaid Tryz.prog 4000 os) #[.string ⟨#[]⟩,.bool false,.int .i64 0,.int .i64 0,.int .i64 0,.int .i64 0,.int .i64 0] rfl (by kernel_rfl) (by kernel_rfl) (by kernel_rfl)
      (OpenSpec.preRow_of_cond 8 hx (by kernel_rfl) (fun k hk=>by cases hk) (by kernel_rfl) (laid_met os _))) ?_
  intro W base args ds gs before hval hW _ _ hsz hL _ _
  exact contract H enc W base args ds gs before hval hW hsz hL
theorem funcId:Tryz.prog.funcNamed Rows.unseenRow.func=some 9:=by kernel_rfl
theorem said:Rows.UnseenSaid :=
  OpenClaim.holds_of_cond 9 Tryz.f9 rfl rfl rfl rfl rfl rfl rfl ⟨rfl,rfl,rfl,rfl,rfl⟩ rfl rfl rfl rfl rfl funcId Tryz.func9 Tryz.closedU
    (of_decide_eq_true (by kernel_rfl)) (by unfold Func.isWrapper;first|(rw[if_pos (by decide +kernel)];kernel_rfl)|(rw[if_neg (by decide +kernel)];exact⟨rfl,rfl⟩))
    (fun os started H enc _ F=>by rw[OpenClaim.pre_eq_preRow];exact lifted os started H enc F)
theorem plainLooks (f:FuncId) (fn:Func) (hf:Tryz.pinned.checked.prog.funcNamed Rows.unseenRow.func=some f) (hfn:Tryz.pinned.checked.prog.funcs[f]? = some fn) :
    true=Tryz.pinned.checked.prog.looks []∧∀ (j:Nat) t,fn.params[j]? = some t→Tryz.pinned.checked.prog.wantsStandIn t=false:=by
  obtain rfl:f=9:=Option.some.inj (funcId.symm.trans hf) |>.symm
  obtain rfl:fn=Tryz.f9:=(Option.some.inj (Tryz.func9.symm.trans hfn)).symm
  refine⟨by kernel_rfl,fun j t ht=>?_⟩
  rw[Tryz.params9]at ht
  have hm:=Array.mem_of_getElem? ht
  simp only[List.mem_toArray,List.mem_cons,List.not_mem_nil,or_false]at hm
  rcases hm with rfl|rfl|rfl|rfl|rfl|rfl|rfl
  · exact Tryz.stand_string
  · exact Tryz.stand_bool
  · exact Tryz.stand_int
  · exact Tryz.stand_int
  · exact Tryz.stand_int
  · exact Tryz.stand_int
  · exact Tryz.stand_int
theorem unseen_holds:Rows.UnseenCardSaid :=
  Claim7.holds_tied_plain_at .later [] _ _ _ _ said (fun _ h=>by cases h) (by kernel_rfl) (fun _ h=>by cases h) unseen_row_tie rfl ⟨rfl,rfl⟩ (by kernel_rfl) rfl plainLooks (by kernel_rfl)
end Go.Proofs.YtmeiikjpaepogaaGreatDoor
