/- The program's Load. -/
import Derived.Test.YtmeiikjpaepogaaGreatDoorN23
import Derived.Test.YtmeiikjpaepogaaGreatDoorN07
import Derived.Test.YtmeiikjpaepogaaGreatDoorCards
import Derived.Test.YtmeiikjpaepogaaGreatDoorTie
import Derived.Deep.DeepWitnessRowRef
import Derived.WideKeyArgs
set_option maxRecDepth 100000
namespace Go.Proofs.YtmeiikjpaepogaaGreatDoor
open Go Go.RowKit
theorem namesIns_any (op:Int) (w:World):Calls Tryz.prog 89 #[.int .i64 op] w fun e w'=>e=.returned (.bool (namesS op))∧w'=w:=by
  have fin:∀ (b:Bool),namesS op=b→(Calls Tryz.prog 89 #[.int .i64 op] w fun e w'=>e=.returned (.bool b)∧w'=w)→Calls Tryz.prog 89 #[.int .i64 op] w fun e w'=>e=.returned (.bool (namesS op))∧w'=w:=fun b h k=>by rw[h];exact k
  by_cases c:op=1∨op=2∨op=3∨op=7
  · refine fin true (by unfold namesS;simp;omega) ?_
    rcases c with rfl|rfl|rfl|rfl
    all_goals
      go_enter Tryz.func89,Tryz.ntmps89
      go_wp2_with fail
      go_ret
      exact⟨rfl,rfl⟩
  · refine fin false (by unfold namesS;simp;omega) ?_
    have m1:(op == 1)=false:=by simpa using (fun e=>c (Or.inl e):¬ op=1)
    have m2:(op == 2)=false:=by simpa using (fun e=>c (Or.inr (Or.inl e)):¬ op=2)
    have m3:(op == 3)=false:=by simpa using (fun e=>c (Or.inr (Or.inr (Or.inl e))):¬ op=3)
    have m7:(op == 7)=false:=by simpa using (fun e=>c (Or.inr (Or.inr (Or.inr e))):¬ op=7)
    clear fin
    go_enter Tryz.func89,Tryz.ntmps89
    go_wp2_with fail
    go_ret
    exact⟨rfl,rfl⟩
theorem goesOn_any (op:Int) (w:World):Calls Tryz.prog 90 #[.int .i64 op] w fun e w'=>e=.returned (.bool (!decide (op=1∨op=4∨op=5)))∧w'=w:=by
  by_cases c:op=1∨op=4∨op=5
  · rw[decide_eq_true c]
    rcases c with rfl|rfl|rfl
    all_goals
      go_enter Tryz.func90,Tryz.ntmps90
      go_wp2_with fail
      go_ret
      exact⟨rfl,rfl⟩
  · rw[decide_eq_false c]
    have m1:(op == 1)=false:=by simpa using (fun e=>c (Or.inl e):¬ op=1)
    have m4:(op == 4)=false:=by simpa using (fun e=>c (Or.inr (Or.inl e)):¬ op=4)
    have m5:(op == 5)=false:=by simpa using (fun e=>c (Or.inr (Or.inr e)):¬ op=5)
    have r1:(op != 1)=true:=by rw[bne,m1];rfl
    have r4:(op != 4)=true:=by rw[bne,m4];rfl
    have r5:(op != 5)=true:=by rw[bne,m5];rfl
    clear c
    go_enter Tryz.func90,Tryz.ntmps90
    go_wp2_with fail
    go_ret
    exact⟨rfl,rfl⟩
end Go.Proofs.YtmeiikjpaepogaaGreatDoor
namespace Go.Proofs.YtmeiikjpaepogaaGreatDoor
open Go Go.ChangeShapes Go.WideShapes Go.ChangeAt
theorem Tryz.own:ownKnob Tryz.prog.godebug=none:=by kernel_rfl
theorem Tryz.laidOut:laidOutB Tryz.prog=true:=by kernel_rfl
theorem Tryz.mapsRowed:mapsRowed Tryz.prog=true:=by kernel_rfl
theorem Tryz.stops0:(Tryz.prog.stops == [])=true:=by kernel_rfl
theorem Tryz.knobs0:(Tryz.prog.stopKnobs == [])=true:=by kernel_rfl
theorem Tryz.heardC:Tryz.prog.stopsHeard=true:=by kernel_rfl
theorem Tryz.mayEnterC:Tryz.prog.mayEnter=true:=by kernel_rfl
end Go.Proofs.YtmeiikjpaepogaaGreatDoor
