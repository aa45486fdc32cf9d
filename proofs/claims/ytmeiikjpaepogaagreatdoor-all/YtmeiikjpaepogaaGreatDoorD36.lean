/- fathomlaw.All is true of every script, and leaves it as it was: every call, in every order, with all options: what is made shorter comes to the same, whatever the limits are. The row's condition, and no other: the package-level variables lie as their text lays them. -/
import Derived.Test.YtmeiikjpaepogaaGreatDoorCards
import Derived.Test.YtmeiikjpaepogaaGreatDoorTie
import Derived.Test.YtmeiikjpaepogaaGreatDoorD34
import Derived.Test.YtmeiikjpaepogaaGreatDoorD35
import Derived.Deep.DeepWitnessRowRef
import Derived.WideKeyArgs
open Option renaming some->O,none->X
open Bool renaming true->Y,false->Z
open Go.Value renaming slice->S
open Go.Obj renaming cells->C
set_option maxRecDepth 100000
namespace Go.Proofs.YtmeiikjpaepogaaGreatDoor
open Go Go.RowKit Go.ChangeShapes Go.WideShapes Go.ChangeAt Go.Deep Go.Proofs.Tryz List
theorem sk:prog.readableRec 22=Y:=zr
theorem uB:decide (22<prog.types.size)=Y:=zr
theorem pa:f14.params=#[22]:=zr
theorem Mb:f14.resultTypes=#[4]:=zr
theorem tR(H:Type)(enc:TypeId×Value->H)(W:YW)(base:Nat)(args:YV)(o z:List (DataW H))(a:List MemPlace)(d:∀(j:Nat) t v,f14.params[j]? = O t->args[j]? = O v->Value.okWide prog W .any base t v)(D:DataW.Whole enc prog f14.params.toList Rows.allSpec.vars Z W args.toList o z a)(c:(DataW.weightsEach prog (f14.params.toList++(OpenSpec.ofChange Rows.allSpec).bare.plain.varTypes prog) (o++z)).all (·<=reachBytes)=Y)(L:laidMetH prog Rows.allRow.laid W):Calls prog 14 args W fun e m=>∃v,e=.returned v/\Rows.allSpec.post enc prog f14 Z Y Z Z W args v m:=by
 have f:=D;obtain⟨p,q,s,M,rfl,N,R⟩:=D;have B:DataW.TrodAll enc prog W 0 (fun _=>Y) Y f14.params.toList args.toList o p:=s;rw[pa]at B d c;obtain⟨y,a0,l,K,G,q0,u,rfl,rfl,r,T⟩:=trodAll_cons B;obtain⟨rfl,rfl,rfl⟩:=trodAll_nil T;obtain rfl:args=#[y]:=by cases args;simp_all
 obtain⟨rfl,rfl⟩:=trodVars_none M;have F:(l.weights prog 22).all (·<=reachBytes)=Y:=by have e:([l]++[]:List (DataW H))=[l]:=rfl;rw[e]at c;simp only[cons_append,nil_append,DataW.weightsEach,all_append,Bool.and_eq_true]at c;exact c.1
 obtain⟨n,i,Q⟩:=tv (okWide_slice underlying22 (d 0 22 y rfl rfl)) r F;refine(Se JJ y n W (pR L) i Q (hQ r F n) (AD i)).m fun e m ⟨he,E⟩=>?_;subst he;have g:∀x∈G,x.block<W.heap.size:=fun x k=>f.lt x (by simp[k]);refine⟨_,rfl,[l],[],_,[],G,[],f,?_,?_,?_,E.frame _,fun h=>by cases h⟩;rw[Mb];exact trodAll_cons_mk (shut_bool underlying4 _) trodAll_mk0;rw[pa];have:=trodAll_cons_mk (WideElems.Trod_stays mB sk (of_decide_eq_true uB) r (fun x k=>E.same (g x k)) (fun x k=>by simpa using g x k)) (trodAll_mk0 (enc:=enc) (P:=prog) (w:=m) (base:=0) (spare:=fun b=>decide (b<W.heap.size)) (held:=Y));rw[append_nil]at this;exact this;rfl
theorem ua(os:Os)(args:YV):laidMetH prog Rows.allRow.laid ((World.doorLaid prog 4000 os).forCall (fun _ _=>0) ⟨#[],args,[]⟩).memory:=by rw[MakeChecks.laidMetH_plain _ _ _ zr];exact laidMet_of_run' 8 zr zr
theorem Ls(os:Os){H:Type}(enc:TypeId×Value->H):∃a,DataW.whole enc prog ((World.doorLaid prog 4000 os).forCall (fun _ _=>0) ⟨#[],#[S X 0 0],[]⟩).memory f14.params.toList Rows.allSpec.vars Z #[Value.slice X 0 0].toList 8=O ([.nil],[],a):=⟨[],zr⟩
theorem lifted(os:Os)(a:os.Started)(H:Type)(enc:TypeId×Value->H)(F:Stop.Interp):ReturnsInHanded {} checked os 14 .any ((OpenSpec.ofChange Rows.allSpec).preRow enc prog f14 Rows.allRow.domain Z Rows.allRow.laid) (((OpenSpec.ofChange Rows.allSpec).at F).post enc prog f14 Z Y Z Z):=by obtain⟨d,l⟩:=Ls os enc;refine returnsInHanded_of_row (C:=checked) (s:=OpenSpec.ofChange Rows.allSpec) RW a zr func14 (witness_row_atRef (enc:=enc) (C:=checked) Z (World.doorLaid prog 4000 os) #[S X 0 0] rfl zr zr zr (OpenSpec.preRow_of_cond 8 l zr (fun k j=>by cases j) zr (ua os _))) ?_;intro W base args f g b c i _ _ e h _ _;exact tR H enc W base args f g b c i e h
theorem rh:prog.funcNamed Rows.allRow.func=O 14:=zr
theorem Rg:Rows.AllSaid:=OpenClaim.holds_of_cond 14 f14 rfl rfl rfl rfl rfl rfl rfl ⟨rfl,rfl,rfl,rfl,rfl⟩ rfl rfl rfl rfl rfl rh func14 LW
    (of_decide_eq_true zr) (by unfold Func.isWrapper;first|(rw[if_pos (by decide +kernel)];kernel_rfl)|(rw[if_neg (by decide +kernel)];exact⟨rfl,rfl⟩))
    (fun os a H enc _ F=>by rw[OpenClaim.pre_eq_preRow];exact lifted os a H enc F)
theorem BA:prog.wantsStandIn 22=Z:=zr
theorem ox(f:FuncId)(a:Func)(d:Tryz.pinned.checked.prog.funcNamed Rows.allRow.func=O f)(b:Tryz.pinned.checked.prog.funcs[f]? = O a):Y=Tryz.pinned.checked.prog.looks []/\∀(j:Nat) t,a.params[j]? = O t->Tryz.pinned.checked.prog.wantsStandIn t=Z:=by
 obtain rfl:f=14:=Zl (rh.symm.trans d) |>.symm;obtain rfl:a=f14:=(Zl (func14.symm.trans b)).symm;refine⟨zr,fun j t c=>?_⟩;rw[pa]at c;obtain rfl:t=22:=by simpa using Array.mem_of_getElem? c
 exact BA
theorem all_holds:Rows.AllCardSaid:=Claim7.holds_tied_plain_at .later [] _ _ _ _ Rg (fun _ h=>by cases h) zr (fun _ h=>by cases h) all_row_tie rfl ⟨rfl,rfl⟩ zr rfl ox zr
end Go.Proofs.YtmeiikjpaepogaaGreatDoor
