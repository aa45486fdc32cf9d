/- The reference's Start. -/
import Derived.Test.YtmeiikjpaepogaaGreatDoorK21
import Derived.Deep.OwnRows
namespace Go.Proofs.YtmeiikjpaepogaaGreatDoor
open Go Go.RowKit

def limOk (x : Int) : Prop := 1 ≤ x ∧ x ≤ 1000
def limsOk (ls la lc lo : Int) : Prop := limOk ls ∧ limOk la ∧ limOk lc ∧ limOk lo
def startM (p : Nat) (ls la lc lo en ce : Int) : MS := ⟨p, ls, la, lc, lo, [], [], [], List.replicate ce.toNat 0, ⟨#[]⟩, en, false, []⟩

theorem four_step {ls la lc lo : Int} {k : Nat} (h : ∀ (j : Nat) (v : Int), j < k → [ls, la, lc, lo][j]? = some v → limOk v) {v : Int} (hv : [ls, la, lc, lo][k]? = some v) (hok : limOk v) : ∀ (j : Nat) (v : Int), j < k + 1 → [ls, la, lc, lo][j]? = some v → limOk v := by
  intro j u hj hu
  rcases Nat.lt_or_ge j k with h1 | h1
  · exact h j u h1 hu
  · have : j = k := by omega
    subst this
    rw [hv] at hu
    obtain rfl := Option.some.inj hu
    exact hok
theorem four_all {ls la lc lo : Int} (h : ∀ (j : Nat) (v : Int), j < 4 → [ls, la, lc, lo][j]? = some v → limOk v) : limsOk ls la lc lo :=
  ⟨h 0 ls (by omega) rfl, h 1 la (by omega) rfl, h 2 lc (by omega) rfl, h 3 lo (by omega) rfl⟩
theorem four_ne {ls la lc lo : Int} (h : limsOk ls la lc lo) {k : Nat} {v : Int} (hv : [ls, la, lc, lo][k]? = some v) : limOk v := by
  obtain ⟨h0, h1, h2, h3⟩ := h
  match k, hv with
  | 0, hv => simp at hv; subst hv; exact h0
  | 1, hv => simp at hv; subst hv; exact h1
  | 2, hv => simp at hv; subst hv; exact h2
  | 3, hv => simp at hv; subst hv; exact h3
  | n + 4, hv => simp at hv

set_option maxRecDepth 100000 in
set_option maxHeartbeats 4000000 in
theorem start_no (p : Nat) (ls la lc lo : Int) (w : World) (hno : ¬ limsOk ls la lc lo) :
    Calls Tryz.prog 137 #[.pointer (some ⟨p, 0, none⟩), .agg #[.int .i64 ls, .int .i64 la, .int .i64 lc, .int .i64 lo]] w fun e w' => e = .returned (.tuple #[.pointer none, .bool false]) ∧ Below w.heap.size w w' := by
  have hb : Below w.heap.size w ((w.alloc (.cells #[.int .i64 ls, .int .i64 la, .int .i64 lc, .int .i64 lo] 39)).alloc (.cells #[.int .i64 ls, .int .i64 la, .int .i64 lc, .int .i64 lo] 230)) := ((Below.refl _ _).alloc (Nat.le_refl _) _).alloc (by simp) _
  have HB := V hb
  have HNO := V hno
  clear hb hno
  go_enter Tryz.func137, Tryz.ntmps137
  go_wp2_with fail
  go_loop [7] (fun i => ∃ k : Nat, k ≤ 4 ∧ i = .int .i64 k ∧ ∀ (j : Nat) (v : Int), j < k → [ls, la, lc, lo][j]? = some v → limOk v) (fun i => 4 - (intOf i).toNat)
  case atStart => exact ⟨0, by omega, rfl, fun j v hj => by omega⟩
  case round =>
    obtain ⟨k, hk, rfl, hall⟩ := hrel
    have HALL := V hall
    clear hall
    obtain rfl | rfl | rfl | rfl | rfl : k = 0 ∨ k = 1 ∨ k = 2 ∨ k = 3 ∨ k = 4 := by omega
    · by_cases h1 : ls < 1
      · go_wp2_with fail
        go_ret2
        exact ⟨rfl, U HB⟩
      · by_cases h2 : 1000 < ls
        · go_wp2_with fail
          go_ret2
          exact ⟨rfl, U HB⟩
        · go_wp2_with fail
          go_round
          case rel => exact ⟨1, by omega, rfl, four_step (U HALL) rfl ⟨by omega, by omega⟩⟩
          case measure => simp [intOf]
    · by_cases h1 : la < 1
      · go_wp2_with fail
        go_ret2
        exact ⟨rfl, U HB⟩
      · by_cases h2 : 1000 < la
        · go_wp2_with fail
          go_ret2
          exact ⟨rfl, U HB⟩
        · go_wp2_with fail
          go_round
          case rel => exact ⟨2, by omega, rfl, four_step (U HALL) rfl ⟨by omega, by omega⟩⟩
          case measure => simp [intOf]
    · by_cases h1 : lc < 1
      · go_wp2_with fail
        go_ret2
        exact ⟨rfl, U HB⟩
      · by_cases h2 : 1000 < lc
        · go_wp2_with fail
          go_ret2
          exact ⟨rfl, U HB⟩
        · go_wp2_with fail
          go_round
          case rel => exact ⟨3, by omega, rfl, four_step (U HALL) rfl ⟨by omega, by omega⟩⟩
          case measure => simp [intOf]
    · by_cases h1 : lo < 1
      · go_wp2_with fail
        go_ret2
        exact ⟨rfl, U HB⟩
      · by_cases h2 : 1000 < lo
        · go_wp2_with fail
          go_ret2
          exact ⟨rfl, U HB⟩
        · go_wp2_with fail
          go_round
          case rel => exact ⟨4, by omega, rfl, four_step (U HALL) rfl ⟨by omega, by omega⟩⟩
          case measure => simp [intOf]
    · exact absurd (four_all (U HALL)) (U HNO)

theorem made_ints (c : Nat) : (madeCells #[Value.int .i64 0] c).toList = intCells (List.replicate c 0) := by
  unfold madeCells intCells
  apply List.ext_getElem?
  intro i
  simp [List.getElem?_replicate]
  by_cases h : i < c
  · simp [h, Nat.mod_one]
  · simp [h]
theorem machine_new (W : World) (B p : Nat) (ls la lc lo en : Int) (c : Nat) (hB : B ≤ W.heap.size) (hc : c ≤ 1000) (hl : limsOk ls la lc lo) :
    McE B ((W.alloc (.cells (madeCells #[.int .i64 0] c) 2)).alloc (.cells #[.pointer (some ⟨p, 0, none⟩), .int .i64 ls, .int .i64 la, .int .i64 lc, .int .i64 lo, .slice none 0 0, .slice none 0 0, .slice none 0 0, .slice (some ⟨W.heap.size, 0, none⟩) c c, .string ⟨#[]⟩, .int .i64 en, .bool false] 189)).drew (W.heap.size + 1) (startM p ls la lc lo en c) := by
  have hs1 : (W.alloc (.cells (madeCells #[.int .i64 0] c) 2)).heap.size = W.heap.size + 1 := by simp
  have hrow : ((W.alloc (.cells (madeCells #[.int .i64 0] c) 2)).alloc (.cells #[.pointer (some ⟨p, 0, none⟩), .int .i64 ls, .int .i64 la, .int .i64 lc, .int .i64 lo, .slice none 0 0, .slice none 0 0, .slice none 0 0, .slice (some ⟨W.heap.size, 0, none⟩) c c, .string ⟨#[]⟩, .int .i64 en, .bool false] 189)).drew.ownsRow B 2 1 (.slice (some ⟨W.heap.size, 0, none⟩) c c) c (intCells (List.replicate c 0)) := by
    refine ⟨by simp [intCells], Or.inr ⟨W.heap.size, c, madeCells #[.int .i64 0] c, rfl, hB, ((Blk.new W _ _).alloc _).drew, Nat.le_refl _, by unfold maxLen; omega, by rw [size_madeCells]; omega, ?_⟩⟩
    rw [made_ints, List.take_of_length_le (by simp [intCells])]
  have hb := Blk.new (W.alloc (.cells (madeCells #[.int .i64 0] c) 2)) #[.pointer (some ⟨p, 0, none⟩), .int .i64 ls, .int .i64 la, .int .i64 lc, .int .i64 lo, .slice none 0 0, .slice none 0 0, .slice none 0 0, .slice (some ⟨W.heap.size, 0, none⟩) c c, .string ⟨#[]⟩, .int .i64 en, .bool false] 189
  rw [hs1] at hb
  refine ⟨.slice none 0 0, .slice none 0 0, .slice none 0 0, .slice (some ⟨W.heap.size, 0, none⟩) c c, ⟨hb.drew, by omega, ⟨?_, ?_, ?_, rfl⟩, ?_, ?_, ?_, ?_, ?_⟩⟩
  · intro i v t hv ht
    have hi : i < 4 := (List.getElem?_eq_some_iff.1 hv).1
    match i, hi with
    | 0, _ => simp [mcRows, startM, intCells] at hv ht; subst hv ht; exact World.ownsRow_nil _ _ _ _
    | 1, _ => simp [mcRows, startM, intCells] at hv ht; subst hv ht; exact World.ownsRow_nil _ _ _ _
    | 2, _ => simp [mcRows, startM, intCells] at hv ht; subst hv ht; exact World.ownsRow_nil _ _ _ _
    | 3, _ =>
      simp only [mcRows, startM, List.getElem?_cons_succ, List.getElem?_cons_zero, Option.some.injEq, Int.toNat_natCast, List.length_replicate] at hv ht
      subst hv ht
      exact hrow
  · intro i j v v' k hv hv' hk hk'
    have hi : i < 4 := (List.getElem?_eq_some_iff.1 hv).1
    have hj : j < 4 := (List.getElem?_eq_some_iff.1 hv').1
    match i, hi with
    | 0, _ => simp at hv; subst hv; simp [Value.ownBlock] at hk
    | 1, _ => simp at hv; subst hv; simp [Value.ownBlock] at hk
    | 2, _ => simp at hv; subst hv; simp [Value.ownBlock] at hk
    | 3, _ =>
      match j, hj with
      | 0, _ => simp at hv'; subst hv'; simp [Value.ownBlock] at hk'
      | 1, _ => simp at hv'; subst hv'; simp [Value.ownBlock] at hk'
      | 2, _ => simp at hv'; subst hv'; simp [Value.ownBlock] at hk'
      | 3, _ => rfl
  · intro i v b hv hb e
    simp [startM] at hb
    subst hb
    have hi : i < 4 := (List.getElem?_eq_some_iff.1 hv).1
    match i, hi with
    | 0, _ => simp at hv; subst hv; simp [Value.ownBlock] at e
    | 1, _ => simp at hv; subst hv; simp [Value.ownBlock] at e
    | 2, _ => simp at hv; subst hv; simp [Value.ownBlock] at e
    | 3, _ => simp at hv; subst hv; simp [Value.ownBlock] at e
  · exact hl
  · have h4 := hl.2.2.2
    unfold limOk at h4
    have h0 : (⟨#[]⟩ : ByteArray).size = 0 := rfl
    simp [startM, h0]
    omega
  · refine ⟨by simp [startM], by simp [startM], ?_⟩
    intro x hx
    simp [startM] at hx
    rw [hx.2]
    exact inI_small (by omega) (by omega)
  · simp [startM]
  · simp [startM]

set_option maxRecDepth 100000 in
set_option maxHeartbeats 4000000 in
theorem start_yes (p : Nat) (ls la lc lo : Int) (l : List (Int × Int)) (en ce : Int) (w : World) (hcd : Cd w.heap.size w p l en ce) (hce : 0 ≤ ce ∧ ce ≤ 1000) (hyes : limsOk ls la lc lo) :
    Calls Tryz.prog 137 #[.pointer (some ⟨p, 0, none⟩), .agg #[.int .i64 ls, .int .i64 la, .int .i64 lc, .int .i64 lo]] w fun e w' => ∃ b, e = .returned (.tuple #[.pointer (some ⟨b, 0, none⟩), .bool true]) ∧ McE w.heap.size w' b (startM p ls la lc lo en ce) ∧ Below w.heap.size w w' := by
  obtain ⟨g, cap, vH, hP, hpB, hgB, hrow⟩ := hcd
  obtain ⟨c, rfl⟩ : ∃ c : Nat, ce = c := ⟨ce.toNat, by omega⟩
  have hpc := hP.cell
  have hb : Below w.heap.size w ((w.alloc (.cells #[.int .i64 ls, .int .i64 la, .int .i64 lc, .int .i64 lo] 39)).alloc (.cells #[.int .i64 ls, .int .i64 la, .int .i64 lc, .int .i64 lo] 230)) := ((Below.refl _ _).alloc (Nat.le_refl _) _).alloc (by simp) _
  have HB := V hb
  have hmk := run_make_row' (P := Tryz.prog) 42 2 (.int .i64 0) 8 Tryz.underlying42 Tryz.infoInt64 rfl .i64 .i64 c (by omega) (by omega)
  have HYES := V hyes
  have hp1 : p < w.heap.size + 1 := by omega
  have hp2 : p < w.heap.size + 1 + 1 := by omega
  have hc3 := ((((hP.alloc (.cells #[.int .i64 ls, .int .i64 la, .int .i64 lc, .int .i64 lo] 39)).alloc (.cells #[.int .i64 ls, .int .i64 la, .int .i64 lc, .int .i64 lo] 230)).alloc (.cells (madeCells #[.int .i64 0] c) 2)).drew).cell
  clear hb hyes hrow hP
  go_enter Tryz.func137, Tryz.ntmps137
  go_wp2_with fail
  go_loop [7] (fun i => ∃ k : Nat, k ≤ 4 ∧ i = .int .i64 k) (fun i => 4 - (intOf i).toNat)
  case atStart => exact ⟨0, by omega, rfl⟩
  case round =>
    obtain ⟨k, hk, rfl⟩ := hrel
    obtain rfl | rfl | rfl | rfl | rfl : k = 0 ∨ k = 1 ∨ k = 2 ∨ k = 3 ∨ k = 4 := by omega
    · have h1 : ¬ ls < 1 := by have := (U HYES).1.1; omega
      have h2 : ¬ 1000 < ls := by have := (U HYES).1.2; omega
      go_wp2_with fail
      go_round
      case rel => exact ⟨1, by omega, rfl⟩
      case measure => simp [intOf]
    · have h1 : ¬ la < 1 := by have := (U HYES).2.1.1; omega
      have h2 : ¬ 1000 < la := by have := (U HYES).2.1.2; omega
      go_wp2_with fail
      go_round
      case rel => exact ⟨2, by omega, rfl⟩
      case measure => simp [intOf]
    · have h1 : ¬ lc < 1 := by have := (U HYES).2.2.1.1; omega
      have h2 : ¬ 1000 < lc := by have := (U HYES).2.2.1.2; omega
      go_wp2_with fail
      go_round
      case rel => exact ⟨3, by omega, rfl⟩
      case measure => simp [intOf]
    · have h1 : ¬ lo < 1 := by have := (U HYES).2.2.2.1; omega
      have h2 : ¬ 1000 < lo := by have := (U HYES).2.2.2.2; omega
      go_wp2_with fail
      go_round
      case rel => exact ⟨4, by omega, rfl⟩
      case measure => simp [intOf]
    · go_wp2_with fail
      go_region
      go_wp2_with fail
      go_ret2
      refine ⟨w.heap.size + 1 + 1 + 1, rfl, ?_, ?_⟩
      · have hm := machine_new ((w.alloc (.cells #[.int .i64 ls, .int .i64 la, .int .i64 lc, .int .i64 lo] 39)).alloc (.cells #[.int .i64 ls, .int .i64 la, .int .i64 lc, .int .i64 lo] 230)) w.heap.size p ls la lc lo en c (by simp; omega) (by omega) (U HYES)
        simpa using hm
      · refine (((U HB).alloc ?_ _).alloc ?_ _).drew <;> simp <;> omega
/-- An outcome as a value. -/
def outV (err : Int) (vS vC : Value) (out : ByteArray) (steps : Int) : Value := .agg #[.int .i64 err, vS, vC, .string out, .int .i64 steps]

theorem ownsRow_base {w : World} {b b' : Nat} {e : TypeId} {size : Nat} {v : Value} {n : Nat} {xs : List Value} (h : w.ownsRow b e size v n xs) (hb : b' ≤ b) : w.ownsRow b' e size v n xs := by
  refine ⟨h.1, ?_⟩
  rcases h.2 with h0 | ⟨g, cap, cur, h1, h2, h3⟩
  · exact Or.inl h0
  · exact Or.inr ⟨g, cap, cur, h1, by omega, h3⟩
theorem runM_halted (l : List (Int × Int)) (f : Nat) (s : Int) (m : MS) (h : m.halted = true) : runM l f s m = (m, 0, s) := by
  cases f <;> simp [runM, h]
theorem runM_zero (l : List (Int × Int)) (s : Int) (m : MS) (h : m.halted = false) : runM l 0 s m = (m, 15, s) := by simp [runM, h]
theorem runM_err (l : List (Int × Int)) (f : Nat) (s : Int) (m : MS) (h : m.halted = false) (he : (stepM l m).2 ≠ 0) : runM l (f + 1) s m = ((stepM l m).1, (stepM l m).2, s + 1) := by simp [runM, h, he]
theorem runM_on (l : List (Int × Int)) (f : Nat) (s : Int) (m : MS) (h : m.halted = false) (he : (stepM l m).2 = 0) : runM l (f + 1) s m = runM l f (s + 1) (stepM l m).1 := by simp [runM, h, he]
theorem out_set {w : World} {b : Nat} {cs : Array Value} {T : TypeId} {x0 x1 x2 x3 x4 y0 y1 y2 y3 y4 : Value} (h : Blk w b cs T) (hcs : cs = #[x0, x1, x2, x3, x4]) :
    Blk (((((w.setCell ⟨b, 0, none⟩ y0).setCell ⟨b, 1, none⟩ y1).setCell ⟨b, 2, none⟩ y2).setCell ⟨b, 3, none⟩ y3).setCell ⟨b, 4, none⟩ y4) b #[y0, y1, y2, y3, y4] T := by
  subst hcs
  have h5 := ((((h.set 0 y0).set 1 y1).set 2 y2).set 3 y3).set 4 y4
  simpa only [List.setIfInBounds_toArray, List.set_cons_succ, List.set_cons_zero] using h5
theorem Tryz.sizeOutcome : (Tryz.prog.info? 44).map (fun i => i.size) = some 5 := by kernel_rfl

set_option maxRecDepth 100000 in
set_option maxHeartbeats 4000000 in
theorem run_limit (p : Nat) (ls la lc lo fuel : Int) (w : World) (hno : ¬ limsOk ls la lc lo) :
    Calls Tryz.prog 70 #[.pointer (some ⟨p, 0, none⟩), .agg #[.int .i64 ls, .int .i64 la, .int .i64 lc, .int .i64 lo], .int .i64 fuel] w fun e w' => e = .returned (outV 6 (.slice none 0 0) (.slice none 0 0) ⟨#[]⟩ 0) ∧ Below w.heap.size w w' := by
  unfold outV
  have HS := V (start_no p ls la lc lo ((w.alloc (.cells #[.int .i64 ls, .int .i64 la, .int .i64 lc, .int .i64 lo] 39)).alloc (.cells #[.int .i64 0, .slice none 0 0, .slice none 0 0, .string ⟨#[]⟩, .int .i64 0] 44)) hno)
  go_enter Tryz.func70, Tryz.ntmps70
  go_wp2_with fail
  refine (U HS).mono ?_
  rintro e w1 ⟨rfl, hb1⟩
  have hR := (Blk.new (w.alloc (.cells #[.int .i64 ls, .int .i64 la, .int .i64 lc, .int .i64 lo] 39)) #[.int .i64 0, .slice none 0 0, .slice none 0 0, .string ⟨#[]⟩, .int .i64 0] 44).below hb1 (by simp)
  have hs1 : (w.alloc (.cells #[.int .i64 ls, .int .i64 la, .int .i64 lc, .int .i64 lo] 39)).heap.size = w.heap.size + 1 := by simp
  rw [hs1] at hR
  have hbw : Below w.heap.size w w1 := (((Below.refl w.heap.size w).alloc (Nat.le_refl _) _).alloc (by simp) _).trans (hb1.mono (by simp; omega))
  have hc := hR.cell
  have hf := hR.free
  clear HS
  go_wp2_with fail
  have hR5 := ((((hR.set 0 (.int .i64 6)).set 1 (.slice none 0 0)).set 2 (.slice none 0 0)).set 3 (.string ⟨#[]⟩)).set 4 (.int .i64 0)
  simp only [List.setIfInBounds_toArray, List.set_cons_succ, List.set_cons_zero] at hR5
  refine bodyPost_ret (results_cell_row (P := Tryz.prog) rfl _ _ (w.heap.size + 1) 44 _ (0, 0) _ rfl hR5 Tryz.underlying44 rfl Tryz.sizeOutcome) rfl ?_
  exact ⟨rfl, ((((hbw.setCell (by simp) _).setCell (by simp) _).setCell (by simp) _).setCell (by simp) _).setCell (by simp) _⟩

set_option maxRecDepth 100000 in
set_option maxHeartbeats 4000000 in
theorem run_ref (p : Nat) (ls la lc lo fuel : Int) (l : List (Int × Int)) (en ce : Int) (w : World) (hcd : Cd w.heap.size w p l en ce) (hok : CodeOk l) (hen : 0 ≤ en ∧ en < l.length) (hce : 0 ≤ ce ∧ ce ≤ 1000) (hyes : limsOk ls la lc lo) (hfu : fuel ≤ 1000000000) (r : MS × Int × Int) (hr : runM l fuel.toNat 0 (startM p ls la lc lo en ce) = r) :
    Calls Tryz.prog 70 #[.pointer (some ⟨p, 0, none⟩), .agg #[.int .i64 ls, .int .i64 la, .int .i64 lc, .int .i64 lo], .int .i64 fuel] w fun e w' => ∃ vS vC, e = .returned (outV r.2.1 vS vC r.1.out r.2.2) ∧
      (r.2.1 = 0 → w'.ownsRow w.heap.size 2 1 vS r.1.stack.length (intCells r.1.stack) ∧ w'.ownsRow w.heap.size 2 1 vC r.1.cells.length (intCells r.1.cells) ∧ r.1.stack.length ≤ 1000 ∧ r.1.cells.length ≤ 1000) ∧ (r.2.1 ≠ 0 → vS = .slice none 0 0 ∧ vC = .slice none 0 0) ∧ Below w.heap.size w w' := by
  unfold outV
  have hcd2 : Cd ((w.alloc (.cells #[.int .i64 ls, .int .i64 la, .int .i64 lc, .int .i64 lo] 39)).alloc (.cells #[.int .i64 0, .slice none 0 0, .slice none 0 0, .string ⟨#[]⟩, .int .i64 0] 44)).heap.size ((w.alloc (.cells #[.int .i64 ls, .int .i64 la, .int .i64 lc, .int .i64 lo] 39)).alloc (.cells #[.int .i64 0, .slice none 0 0, .slice none 0 0, .string ⟨#[]⟩, .int .i64 0] 44)) p l en ce := by
    obtain ⟨g, cap, vH, h1, h2, h3, h4⟩ := hcd
    exact ⟨g, cap, vH, (h1.alloc _).alloc _, by simp; omega, by simp; omega, ownsRow_alloc (ownsRow_alloc h4 _) _⟩
  have HS := V (start_yes p ls la lc lo l en ce _ hcd2 hce hyes)
  have HCD := V hcd2
  have HR := V hr
  have HW := V hyes
  clear hr hyes hcd hcd2
  go_enter Tryz.func70, Tryz.ntmps70
  go_wp2_with fail
  refine (U HS).mono ?_
  rintro e w1 ⟨b, rfl, hm1, hb1⟩
  have hs1 : (w.alloc (.cells #[.int .i64 ls, .int .i64 la, .int .i64 lc, .int .i64 lo] 39)).heap.size = w.heap.size + 1 := by simp
  have hs2 : ((w.alloc (.cells #[.int .i64 ls, .int .i64 la, .int .i64 lc, .int .i64 lo] 39)).alloc (.cells #[.int .i64 0, .slice none 0 0, .slice none 0 0, .string ⟨#[]⟩, .int .i64 0] 44)).heap.size = w.heap.size + 2 := by simp
  have hR := Blk.new (w.alloc (.cells #[.int .i64 ls, .int .i64 la, .int .i64 lc, .int .i64 lo] 39)) #[.int .i64 0, .slice none 0 0, .slice none 0 0, .string ⟨#[]⟩, .int .i64 0] 44
  have hbw : Below w.heap.size w ((w.alloc (.cells #[.int .i64 ls, .int .i64 la, .int .i64 lc, .int .i64 lo] 39)).alloc (.cells #[.int .i64 0, .slice none 0 0, .slice none 0 0, .string ⟨#[]⟩, .int .i64 0] 44)) := ((Below.refl w.heap.size w).alloc (Nat.le_refl _) _).alloc (by simp) _
  have HCD2 := U HCD
  rw [hs1] at hR
  rw [hs2] at hm1 hb1 HCD2
  clear HS HCD
  generalize ((w.alloc (.cells #[.int .i64 ls, .int .i64 la, .int .i64 lc, .int .i64 lo] 39)).alloc (.cells #[.int .i64 0, .slice none 0 0, .slice none 0 0, .string ⟨#[]⟩, .int .i64 0] 44)) = W at hm1 hb1 hR hbw HCD2
  have HCDH := V HCD2
  have HRB := V hR
  have HBW := V hbw
  clear HCD2 hR hbw hs1 hs2
  go_wp2_with fail
  go_loopw [9] (fun i wr => ∃ (k : Nat) (m : MS), i = .int .i64 k ∧ (k : Int) ≤ 1000000000 ∧ McE (w.heap.size + 2) wr b m ∧ m.p = p ∧ (m.halted = true ∨ RunOk l m) ∧ (m.halted = true ∨ (k : Int) ≤ fuel ∨ k = 0) ∧ runM l (fuel.toNat - k) k m = r ∧ Below (w.heap.size + 2) W wr) (fun i _ => fuel.toNat + 1 - (intOf i).toNat)
  case atStart => exact ⟨0, _, rfl, by omega, hm1, rfl, Or.inr ⟨hen, by simp [startM]⟩, Or.inr (Or.inr rfl), by simpa using U HR, hb1⟩
  case round =>
    clear hm1 hb1
    obtain ⟨k, m, rfl, hk9, ⟨v5, v6, v7, v8, hm⟩, hmp, hrok, hkf, hrun, hbel⟩ := hrel
    have hRr := (U HRB).below hbel (by omega)
    have hcR := hRr.cell
    have hfR := hRr.free
    have hbr : Below w.heap.size w wr := (U HBW).trans (hbel.mono (by omega))
    have hbR := hm.blk.lt
    have hBm := hm.base
    have hneb : b ≠ w.heap.size + 1 := by omega
    have hc := hm.blk.cell
    unfold mcArr at hc
    cases hh : m.halted
    · rw [hh] at hc
      have hro : RunOk l m := by
        rcases hrok with e | e
        · rw [hh] at e; cases e
        · exact e
      by_cases hfk : (k : Int) < fuel
      · obtain ⟨n, hn⟩ : ∃ n, fuel.toNat - k = n + 1 := ⟨fuel.toNat - k - 1, by omega⟩
        rw [hn] at hrun
        have hst := step_m (w.heap.size + 2) b m l en ce wr ⟨_, _, _, _, hm⟩ (by rw [hmp]; exact (U HCDH).below hbel) hok hro.pc
        have HST := V hst
        have hsp := stepM_p l m
        have HSO := V (stepM_ok l m hok hro)
        have HRUN := V hrun
        have hnk : fuel.toNat - (k + 1) = n := by omega
        have HNK := V hnk
        clear hst hrun hnk hn hrok hkf hro
        have hfk' : decide (fuel ≤ (k : Int)) = false := by simp; omega
        go_wp2_with fail
        refine (U HST).mono ?_
        rintro e w2 ⟨rfl, hm2, hb2⟩
        have hb2w : Below w.heap.size w w2 := hbr.trans (hb2.mono (by omega))
        have hR2 := hRr.below hb2 (by omega)
        by_cases he : (stepM l m).2 = 0
        · have HE := V he
          rw [he]
          go_wp2_with fail
          go_roundw
          case rel =>
            refine ⟨k + 1, (stepM l m).1, by go_num, by omega, hm2, hsp.trans hmp, U HSO he, Or.inr (Or.inl (by omega)), ?_, hbel.trans hb2⟩
            have h3 := U HRUN
            rw [runM_on l n k m hh he] at h3
            rw [U HNK]
            exact h3
          case measure => simp [intOf]; omega
        · have he' : ((stepM l m).2 == 0) = false := by simpa using he
          obtain ⟨u5, u6, u7, u8, hm2⟩ := hm2
          have hc2 := hm2.blk.cell
          unfold mcArr at hc2
          have hcR2 := hR2.cell
          have hfR2 := hR2.free
          have h3 := U HRUN
          rw [runM_err l n k m hh he] at h3
          have H3 := V h3
          clear hc hcR hfR h3
          go_wp2_with fail
          refine bodyPost_ret (results_cell_row (P := Tryz.prog) rfl _ _ (w.heap.size + 1) 44 _ (0, 0) _ rfl (out_set hR2 rfl) Tryz.underlying44 rfl Tryz.sizeOutcome) rfl ?_
          rw [← U H3]
          refine ⟨_, _, rfl, fun e0 => absurd e0 he, fun _ => ⟨rfl, rfl⟩, ?_⟩
          exact ((((hb2w.setCell (by simp) _).setCell (by simp) _).setCell (by simp) _).setCell (by simp) _).setCell (by simp) _
      · have hn : fuel.toNat - k = 0 := by omega
        rw [hn, runM_zero l k m hh] at hrun
        have H3 := V hrun
        clear hrun
        have hfk' : decide (fuel ≤ (k : Int)) = true := by simp; omega
        go_wp2_with fail
        refine bodyPost_ret (results_cell_row (P := Tryz.prog) rfl _ _ (w.heap.size + 1) 44 _ (0, 0) _ rfl (out_set hRr rfl) Tryz.underlying44 rfl Tryz.sizeOutcome) rfl ?_
        rw [← U H3]
        refine ⟨_, _, rfl, fun e0 => absurd e0 (by simp), fun _ => ⟨rfl, rfl⟩, ?_⟩
        exact ((((hbr.setCell (by simp) _).setCell (by simp) _).setCell (by simp) _).setCell (by simp) _).setCell (by simp) _
    · rw [hh] at hc
      rw [runM_halted l _ k m hh] at hrun
      have H3 := V hrun
      obtain ⟨a5, k5, hv5⟩ := own_shape hm.o5
      obtain ⟨a8, k8, hv8⟩ := own_shape hm.o8
      subst hv5 hv8
      have hsm := hm.small
      have HO5 := V hm.o5
      have HO8 := V hm.o8
      have hn5 : (Value.slice a5 m.stack.length k5).ownBlock ≠ some (w.heap.size + 1) := fun e => by have := (ownsRow_lt hm.o5 e).2; omega
      have hn8 : (Value.slice a8 m.cells.length k8).ownBlock ≠ some (w.heap.size + 1) := fun e => by have := (ownsRow_lt hm.o8 e).2; omega
      have hcd := hRr.drew.cell
      have hfd := hRr.drew.free
      have hcmd := hm.blk.drew.cell
      unfold mcArr at hcmd
      rw [hh] at hcmd
      clear hrun
      go_wp2_with fail
      go_region
      go_wp2_with fail
      refine bodyPost_ret (results_cell_row (P := Tryz.prog) rfl _ _ (w.heap.size + 1) 44 _ (0, 0) _ rfl (out_set hRr.drew rfl) Tryz.underlying44 rfl Tryz.sizeOutcome) rfl ?_
      rw [← U H3]
      refine ⟨_, _, rfl, fun _ => ⟨?_, ?_, hsm.1, hsm.2.2.2.1⟩, fun e0 => absurd rfl e0, ?_⟩
      · exact ownsRow_base (ownsRow_far (ownsRow_far (ownsRow_far (ownsRow_far (ownsRow_far (U HO5) hn5 _) hn5 _) hn5 _) hn5 _) hn5 _) (by omega)
      · exact ownsRow_base (ownsRow_far (ownsRow_far (ownsRow_far (ownsRow_far (ownsRow_far (U HO8) hn8 _) hn8 _) hn8 _) hn8 _) hn8 _) (by omega)
      · exact (((((hbr.drew).setCell (by simp) _).setCell (by simp) _).setCell (by simp) _).setCell (by simp) _).setCell (by simp) _
end Go.Proofs.YtmeiikjpaepogaaGreatDoor
