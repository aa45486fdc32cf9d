/- The program's Compile without options; the program's calls as the statements ask of them. -/
import Derived.Test.YtmeiikjpaepogaaGreatDoorU24
import Derived.Test.YtmeiikjpaepogaaGreatDoorU15
import Derived.Lib.LaidTab
import Derived.Test.YtmeiikjpaepogaaGreatDoorU07
import Derived.Test.YtmeiikjpaepogaaGreatDoorCards
import Derived.Test.YtmeiikjpaepogaaGreatDoorTie
import Derived.Deep.DeepWitnessRowRef
import Derived.WideKeyArgs
set_option maxRecDepth 100000
set_option maxHeartbeats 4000000
namespace Go.Proofs.YtmeiikjpaepogaaGreatDoor
open Go Go.RowKit
theorem fcompile3_no (s:ByteArray) (b0 b1 b2:Bool) (w:World) (er pl:Int) (hE:er≠0)
    (hcall:∀ W,Below w.heap.size w W→Calls Tryz.prog 34 #[.string s] W fun e w'=>e=.returned (.tuple #[.agg #[.slice none 0 0,.int .i64 0,.int .i64 0],.int .i64 er,.int .i64 pl])∧Below W.heap.size W w') :
    Calls Tryz.prog 18 #[.string s,.agg #[.bool b0,.bool b1,.bool b2]] w fun e w'=>e=.returned (.tuple #[.pointer none,.int .i64 er,.int .i64 pl])∧Below w.heap.size w w':=by
  have hb0:Below w.heap.size w (w.alloc (.cells #[.bool b0,.bool b1,.bool b2] 32)):=by (repeat (first|with_reducible refine below_drew ?_|with_reducible refine below_drawn ?_ _|with_reducible refine below_longer ?_ _|(with_reducible refine Below.alloc ?_ ?_ _;rotate_left;(first|omega|((repeat (first|rw[World.size_up]|rw[World.size_dr]|rw[World.size_drN]))<;>omega)))));(with_reducible exact Below.refl _ _)
  have HC:=V (hcall _ hb0)
  have HB0:=V hb0
  have he':(er == 0)=false:=by simpa using hE
  clear hcall hb0
  go_enter Tryz.func18,Tryz.ntmps18
  go_wp2_with fail
  refine (U HC).mono ?_
  rintro e w1 ⟨rfl,hb1⟩
  have hb2:=(U HB0).trans (below_less hb1 (U HB0).size)
  have HB2:=V hb2
  clear hb1 hb2 HC
  go_wp2_with fail
  go_ret3
  exact⟨rfl,(U HB2).alloc (U HB2).size _⟩
theorem comp3_no (s:ByteArray) (w:World) (hV:VocOk w) (hE:ErrsOk w) (er pl:Int) (h:2000<s.size∧er=1∧pl=0∨s.size≤2000∧(endS s).err=er∧(endS s).place=pl∧er≠0) :
    Calls Tryz.prog 34 #[.string s] w fun e w'=>e=.returned (.tuple #[.agg #[.slice none 0 0,.int .i64 0,.int .i64 0],.int .i64 er,.int .i64 pl])∧Below w.heap.size w w':=by
  rcases h with ⟨h1,rfl,rfl⟩|⟨h1,rfl,rfl,h2⟩
  · exact comp_long s w h1
  · refine (comp_any s w h1 hV hE).mono ?_
    rintro e w' ⟨hcase,hb⟩
    rcases hcase with ⟨_,rfl⟩|⟨h3,_⟩
    · exact⟨rfl,hb⟩
    · exact absurd h3 h2
def Env3 (w : World) : Prop := VocOk w ∧ ErrsOk w ∧ Lib.TabIs Tryz.prog w "internal/strconv.uint64pow10" .u64 Lib.pow10Tab
theorem Env3.below {w w':World} (h:Env3 w) (hb:Below w.heap.size w w'):Env3 w':=⟨h.1.below hb,h.2.1.below hb,Lib.tabBelow_of_tabIs h.2.2 w' hb⟩
end Go.Proofs.YtmeiikjpaepogaaGreatDoor
namespace Go.Proofs.YtmeiikjpaepogaaGreatDoor
open Go Go.RowKit Go.ChangeShapes Go.WideShapes Go.ChangeAt Go.Deep
theorem pow_datum:Rows.laid_internal_strconv_uint64pow10 (H:=Unit)=Lib.tabData .u64 Lib.pow10Tab:=by kernel_rfl
theorem Tryz.gPow:(Rows.compilesRow.laid[2]?).bind (fun x=>Tryz.prog.globalNamed x.1)=some 3:=by kernel_rfl
theorem Tryz.tPow:(Tryz.prog.globals[3]?).map (·.type)=some 293:=by kernel_rfl
theorem Tryz.cells85:Tryz.prog.cellsOf 85=1:=by kernel_rfl
theorem Tryz.cells293:Tryz.prog.cellsOf 293=20:=by kernel_rfl
theorem tab_of_laid {W : World} (h : laidMetH Tryz.prog Rows.compilesRow.laid W) : Lib.TabIs Tryz.prog W "internal/strconv.uint64pow10" .u64 Lib.pow10Tab := by
  rw[MakeChecks.laidMetH_plain _ _ _ (by kernel_rfl)]at h
  obtain⟨ps,⟨_,_,_,_,_,_,_,_,_,_,⟨_,_,_,_,_,_,_,_,_,_,⟨g2,t2,c2,f2,p2,q2,hg2,ht2,hv2,hd2,_,_⟩,_⟩,_⟩,_⟩:=h
  obtain rfl:=Option.some.inj (hg2.symm.trans Tryz.gPow)
  obtain rfl:=Option.some.inj (ht2.symm.trans Tryz.tPow)
  have hd2':=hd2
  rw[pow_datum]at hd2'
  have e:=Lib.cells_of_tab Tryz.underlying293 Tryz.underlying85 Tryz.cells85 Tryz.cells293 hd2'
  unfold Lib.TabIs
  rw[← e]
  exact hv2
theorem env3_of_laid {W:World} (h:laidMetH Tryz.prog Rows.compilesRow.laid W):Env3 W:=⟨(env_of_laid h).1,(env_of_laid h).2,tab_of_laid h⟩
end Go.Proofs.YtmeiikjpaepogaaGreatDoor
namespace Go.Proofs.YtmeiikjpaepogaaGreatDoor
open Go Go.RowKit
theorem namesIns_any (op:Int) (w:World):Calls Tryz.prog 89 #[.int .i64 op] w fun e w'=>e=.returned (.bool (namesS op))∧w'=w:=by
  have fin:∀ (b:Bool),namesS op=b→(Calls Tryz.prog 89 #[.int .i64 op] w fun e w'=>e=.returned (.bool b)∧w'=w)→Calls Tryz.prog 89 #[.int .i64 op] w fun e w'=>e=.returned (.bool (namesS op))∧w'=w:=fun b h k=>by rw[h];exact k
  by_cases c:op=1∨op=2∨op=3∨op=7
  · refine fin true (by unfold namesS;simp;omega) ?_
    rcases c with rfl|rfl|rfl|rfl
    all_goals
      go_enter Tryz.func89,Tryz.ntmps89
      go_wp2_with fail
      go_ret
      exact⟨rfl,rfl⟩
  · refine fin false (by unfold namesS;simp;omega) ?_
    have m1:(op == 1)=false:=by simpa using (fun e=>c (Or.inl e):¬ op=1)
    have m2:(op == 2)=false:=by simpa using (fun e=>c (Or.inr (Or.inl e)):¬ op=2)
    have m3:(op == 3)=false:=by simpa using (fun e=>c (Or.inr (Or.inr (Or.inl e))):¬ op=3)
    have m7:(op == 7)=false:=by simpa using (fun e=>c (Or.inr (Or.inr (Or.inr e))):¬ op=7)
    clear fin
    go_enter Tryz.func89,Tryz.ntmps89
    go_wp2_with fail
    go_ret
    exact⟨rfl,rfl⟩
theorem goesOn_any (op:Int) (w:World):Calls Tryz.prog 90 #[.int .i64 op] w fun e w'=>e=.returned (.bool (!decide (op=1∨op=4∨op=5)))∧w'=w:=by
  by_cases c:op=1∨op=4∨op=5
  · rw[decide_eq_true c]
    rcases c with rfl|rfl|rfl
    all_goals
      go_enter Tryz.func90,Tryz.ntmps90
      go_wp2_with fail
      go_ret
      exact⟨rfl,rfl⟩
  · rw[decide_eq_false c]
    have m1:(op == 1)=false:=by simpa using (fun e=>c (Or.inl e):¬ op=1)
    have m4:(op == 4)=false:=by simpa using (fun e=>c (Or.inr (Or.inl e)):¬ op=4)
    have m5:(op == 5)=false:=by simpa using (fun e=>c (Or.inr (Or.inr e)):¬ op=5)
    have r1:(op != 1)=true:=by rw[bne,m1];rfl
    have r4:(op != 4)=true:=by rw[bne,m4];rfl
    have r5:(op != 5)=true:=by rw[bne,m5];rfl
    clear c
    go_enter Tryz.func90,Tryz.ntmps90
    go_wp2_with fail
    go_ret
    exact⟨rfl,rfl⟩
end Go.Proofs.YtmeiikjpaepogaaGreatDoor
namespace Go.Proofs.YtmeiikjpaepogaaGreatDoor
open Go Go.ChangeShapes Go.WideShapes Go.ChangeAt
theorem Tryz.own:ownKnob Tryz.prog.godebug=none:=by kernel_rfl
theorem Tryz.laidOut:laidOutB Tryz.prog=true:=by kernel_rfl
theorem Tryz.mapsRowed:mapsRowed Tryz.prog=true:=by kernel_rfl
theorem Tryz.stops0:(Tryz.prog.stops == [])=true:=by kernel_rfl
theorem Tryz.knobs0:(Tryz.prog.stopKnobs == [])=true:=by kernel_rfl
theorem Tryz.heardC:Tryz.prog.stopsHeard=true:=by kernel_rfl
theorem Tryz.mayEnterC:Tryz.prog.mayEnter=true:=by kernel_rfl
end Go.Proofs.YtmeiikjpaepogaaGreatDoor
