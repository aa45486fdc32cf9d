/- The program's Load: code.Load, fathom.Load. -/
import Derived.Test.YtmeiikjpaepogaaGreatDoorA28
import Derived.Test.YtmeiikjpaepogaaGreatDoorCards
import Derived.Test.YtmeiikjpaepogaaGreatDoorTie
import Derived.Deep.DeepWitnessRowRef
import Derived.WideKeyArgs
namespace Go.Proofs.YtmeiikjpaepogaaGreatDoor
open Go Go.RowKit

theorem results_row_tmp1 {P : Program} {fn : Func} {p u : Tmp} {ty : TypeId} (h : fn.results = #[.cell p ty, .tmp u]) (tmps : Array Value) (w : World) (g : Nat) (t : TypeId) (cs : Array Value) (fr : Nat × Nat) (d : TypeDesc)
    (hp : tmps.getD p undef = .pointer (some ⟨g, 0, none⟩)) (hg : w.heap[g]? = some (.cells cs t fr))
    (hu : P.underlying ty = some d) (hd : (match d with | .struct _ | .array _ _ => true | _ => false) = true) (hi : (P.info? ty).map (·.size) = some cs.size) :
    (results fn tmps).run P w = .ok (.tuple #[.agg cs, tmps.getD u undef]) w := by
  have hp' : tmps[p]?.getD undef = .pointer (some ⟨g, 0, none⟩) := by simpa using hp
  simp only [results, h]
  simp [hp', asAddr, run_loadVar_row w g t ty cs fr d hg hu hd hi]
/-- What code.Load answers. -/
def CLoad (w : World) (l : List (Int × Int)) (en ce : Int) (e : Ending) (w' : World) : Prop :=
  (loadS l en ce = false ∧ e = .returned (.tuple #[.agg #[.slice none 0 0, .int .i64 0, .int .i64 0], .int .i64 5]) ∨
   loadS l en ce = true ∧ ∃ g cap, e = .returned (.tuple #[.agg #[.slice (some ⟨g, 0, none⟩) l.length cap, .int .i64 en, .int .i64 ce], .int .i64 0]) ∧ w'.ownsRow w.heap.size 65 2 (.slice (some ⟨g, 0, none⟩) l.length cap) l.length (instrCells l)) ∧ Below w.heap.size w w'

set_option maxRecDepth 100000 in
set_option maxHeartbeats 8000000 in
theorem cload_any (ao : Option Addr) (c : Nat) (l : List (Int × Int)) (en ce : Int) (w : World) (hin : InL w ao l) :
    Calls Tryz.prog 38 #[.slice ao l.length c, .int .i64 en, .int .i64 ce] w (CLoad w l en ce) := by
  have hb0 : Below w.heap.size w (w.alloc (.cells #[.slice none 0 0, .int .i64 0, .int .i64 0] 73)) := by (repeat (first | with_reducible refine below_drew ?_ | with_reducible refine below_drawn ?_ _ | with_reducible refine below_longer ?_ _ | (with_reducible refine Below.alloc ?_ ?_ _; rotate_left; (first | omega | ((repeat (first | rw [World.size_up] | rw [World.size_dr] | rw [World.size_drN])) <;> omega))))); (with_reducible exact Below.refl _ _)
  have hR := Blk.new w #[.slice none 0 0, .int .i64 0, .int .i64 0] 73
  have HB0 := V hb0
  have HR := V hR
  have HSH := V (fun W => hasShape_any l.length en ce W)
  cases hs : shapeS l.length en ce
  · rw [hs] at HSH
    have hno : loadS l en ce = false := by unfold loadS; rw [hs]; rfl
    have HNO := V hno
    clear hno
    clear hb0 hR hs hin
    go_enter Tryz.func38, Tryz.ntmps38
    go_wp2_with fail
    generalize w.alloc (.cells #[.slice none 0 0, .int .i64 0, .int .i64 0] 73) = W0 at *
    refine (U HSH _).mono ?_
    rintro e w1 ⟨rfl, hw1⟩
    obtain rfl := hw1.symm
    clear hw1 HSH
    have hc := (U HR).cell
    have hf := (U HR).free
    have hl := (U HR).lt
    go_wp2_with fail
    refine bodyPost_ret (results_row_tmp1 (P := Tryz.prog) rfl _ _ w.heap.size 73 _ (0, 0) _ rfl (triple_set (U HR) rfl) Tryz.underlying73 rfl Tryz.sizeProgram) rfl ?_
    exact ⟨Or.inl ⟨U HNO, rfl⟩, (((U HB0).setCell (Nat.le_refl _) _).setCell (Nat.le_refl _) _).setCell (Nat.le_refl _) _⟩
  · rw [hs] at HSH
    have hs' := hs
    unfold shapeS at hs'
    have hsd := of_decide_eq_true hs'
    rcases hin with h0 | ⟨g, off, rfl, hg, hcells⟩
    · rw [h0] at hsd
      simp at hsd
    have hpos : 0 < l.length := by omega
    have h5 : l.length ≤ 5000 := by omega
    have hg0 : g < (w.alloc (.cells #[.slice none 0 0, .int .i64 0, .int .i64 0] 73)).heap.size := by simp; omega
    have hcr : ∀ W, Below w.heap.size w W → ∀ j u, (instrCells l)[j]? = some u → W.cell? ⟨g, off + j, none⟩ = some u := fun W hW j u hj => by
      rw [hW.cell (by simpa using hg)]
      exact hcells j u hj
    have HSO := V (isSound_any g off c l _ hg0 (hcr _ hb0) hpos h5)
    have HCL : Hid (∀ W, Below w.heap.size w W → Calls Tryz.prog 37 #[.slice (some ⟨g, off, none⟩) l.length c] W fun e w' => ∃ v, e = .returned v ∧ w'.ownsRow W.heap.size 65 2 v l.length (instrCells l) ∧ Below W.heap.size W w') := fun W hW => clone4_any g off c l W (by have := hW.size; omega) (hcr W hW) hpos (by omega)
    have hld : loadS l en ce = (l.all (soundS l.length) && endsS l) := by unfold loadS; rw [hs]; simp
    have HLD := V hld
    clear hb0 hR hs hs' hsd hcells hcr hg0 hld
    generalize (l.all (soundS l.length) && endsS l) = ok at *
    go_enter Tryz.func38, Tryz.ntmps38
    go_wp2_with fail
    generalize w.alloc (.cells #[.slice none 0 0, .int .i64 0, .int .i64 0] 73) = W0 at *
    refine (U HSH _).mono ?_
    rintro e w1 ⟨rfl, hw1⟩
    obtain rfl := hw1.symm
    clear hw1 HSH
    go_wp2_with fail
    refine (U HSO).mono ?_
    rintro e w2 ⟨rfl, hb2⟩
    have hbw2 : Below w.heap.size w w2 := (U HB0).trans (hb2.mono (U HB0).size)
    have hr2 := (U HR).below hb2 (U HR).lt
    have hc := hr2.cell
    have hf := hr2.free
    have hl := hr2.lt
    have HB2 := V hbw2
    have HR2 := V hr2
    clear hb2 hbw2 hr2 HSO
    cases ok
    · go_wp2_with fail
      refine bodyPost_ret (results_row_tmp1 (P := Tryz.prog) rfl _ _ w.heap.size 73 _ (0, 0) _ rfl (triple_set (U HR2) rfl) Tryz.underlying73 rfl Tryz.sizeProgram) rfl ?_
      exact ⟨Or.inl ⟨U HLD, rfl⟩, (((U HB2).setCell (Nat.le_refl _) _).setCell (Nat.le_refl _) _).setCell (Nat.le_refl _) _⟩
    · clear hc hf
      go_wp2_with fail
      refine (U HCL w2 (U HB2)).mono ?_
      rintro e w3 ⟨v, rfl, ho, hb3⟩
      obtain ⟨g3, cap3, rfl, _, _⟩ := ho.form hpos
      have hbw3 : Below w.heap.size w w3 := (U HB2).trans (hb3.mono (U HB2).size)
      have hr3 := (U HR2).below hb3 (U HR2).lt
      have hc := hr3.cell
      have hf := hr3.free
      have hl3 := hr3.lt
      have HB3 := V hbw3
      have HR3 := V hr3
      have HO := V ho
      clear hb3 hbw3 hr3 ho HCL
      go_wp2_with fail
      refine bodyPost_ret (results_row_tmp1 (P := Tryz.prog) rfl _ _ w.heap.size 73 _ (0, 0) _ rfl (triple_set (U HR3) rfl) Tryz.underlying73 rfl Tryz.sizeProgram) rfl ?_
      have hn : (Value.slice (some ⟨g3, 0, none⟩) l.length cap3).ownBlock ≠ some w.heap.size := fun e => row_not_blk (U HR3) (U HO) (by decide) e
      refine ⟨Or.inr ⟨U HLD, g3, cap3, rfl, ?_⟩, (((U HB3).setCell (Nat.le_refl _) _).setCell (Nat.le_refl _) _).setCell (Nat.le_refl _) _⟩
      exact ownsRow_base (ownsRow_far (ownsRow_far (ownsRow_far (U HO) hn _) hn _) hn _) (U HB2).size

/-- What the program's Load answers. -/
def FLoad (w : World) (l : List (Int × Int)) (en ce : Int) (e : Ending) (w' : World) : Prop :=
  (loadS l en ce = false ∧ e = .returned (.tuple #[.pointer none, .int .i64 5]) ∨ loadS l en ce = true ∧ ∃ c g cap, e = .returned (.tuple #[.pointer (some ⟨c, 0, none⟩), .int .i64 0]) ∧ Blk w' c #[.slice (some ⟨g, 0, none⟩) l.length cap, .int .i64 en, .int .i64 ce] 78 ∧ w.heap.size ≤ c ∧ w'.ownsRow w.heap.size 65 2 (.slice (some ⟨g, 0, none⟩) l.length cap) l.length (instrCells l)) ∧ Below w.heap.size w w'

set_option maxRecDepth 100000 in
set_option maxHeartbeats 8000000 in
theorem fload_any (ao : Option Addr) (c : Nat) (l : List (Int × Int)) (en ce : Int) (w : World) (hin : InL w ao l) :
    Calls Tryz.prog 20 #[.slice ao l.length c, .int .i64 en, .int .i64 ce] w (FLoad w l en ce) := by
  have HC := V (cload_any ao c l en ce w hin)
  clear hin
  go_enter Tryz.func20, Tryz.ntmps20
  go_wp2_with fail
  refine (U HC).mono ?_
  rintro e w1 ⟨hcase, hb1⟩
  have HB1 := V hb1
  rcases hcase with ⟨hno, rfl⟩ | ⟨hyes, g, cap, rfl, ho⟩
  · have HNO := V hno
    clear hno hb1 HC
    go_wp2_with fail
    go_ret2
    exact ⟨Or.inl ⟨U HNO, rfl⟩, (U HB1).alloc (U HB1).size _⟩
  · have HY := V hyes
    have HO := V ho
    clear hyes hb1 ho HC
    go_wp2_with fail
    go_ret2
    refine ⟨Or.inr ⟨U HY, _, g, cap, rfl, blk_two w1 _ _ _, by have := (U HB1).size; omega, ownsRow_alloc (ownsRow_alloc (U HO) _) _⟩, ?_⟩
    exact ((U HB1).alloc (U HB1).size _).alloc (by have := (U HB1).size; simp; omega) _
end Go.Proofs.YtmeiikjpaepogaaGreatDoor
namespace Go.Proofs.YtmeiikjpaepogaaGreatDoor
open Go Go.ChangeShapes Go.WideShapes Go.ChangeAt

theorem Tryz.own : ownKnob Tryz.prog.godebug = none := by kernel_rfl
theorem Tryz.laidOut : laidOutB Tryz.prog = true := by kernel_rfl
theorem Tryz.mapsRowed : mapsRowed Tryz.prog = true := by kernel_rfl
theorem Tryz.stops0 : (Tryz.prog.stops == []) = true := by kernel_rfl
theorem Tryz.knobs0 : (Tryz.prog.stopKnobs == []) = true := by kernel_rfl
theorem Tryz.heardC : Tryz.prog.stopsHeard = true := by kernel_rfl
theorem Tryz.mayEnterC : Tryz.prog.mayEnter = true := by kernel_rfl
end Go.Proofs.YtmeiikjpaepogaaGreatDoor
