/- Laws: make and copy, where an element has two cells. -/
import Derived.Test.YtmeiikjpaepogaaGreatDoorA29
import Derived.Laws.CopyOwn
import Derived.Test.YtmeiikjpaepogaaGreatDoorA17
import Derived.Test.YtmeiikjpaepogaaGreatDoorA28
import Derived.Test.YtmeiikjpaepogaaGreatDoorA08
import Derived.Deep.SlicePairs
import Derived.SizedLaws
namespace Go.Proofs.YtmeiikjpaepogaaGreatDoor
open Go Go.RowKit

theorem run_make2 (n : Nat) (hn : n ≤ 17592186044416) (w : World) :
    (Instr.makeSlice 33 (.int .i64 (n : Int)) (.int .i64 (n : Int))).run Tryz.prog w = .ok (.slice (some ⟨w.heap.size, 0, none⟩) n n) (w.alloc (.cells (madeCells #[.int .i64 0, .int .i64 0] (n * 2)) 65)) := by
  obtain ⟨iI, hiI, hzI0, hzI1, hzI2⟩ := info_parts Tryz.infoInstr
  have hr := run_make (P := Tryz.prog) w 33 65 iI _ Tryz.underlying33 hiI hzI0 .i64 .i64 n n (by omega) (Int.le_refl _) (by rw [hzI2]; omega) (by omega)
  simp only [Int.toNat_natCast, hzI1] at hr
  exact hr
theorem zeros_instr (n : Nat) : instrCells (List.replicate n ((0 : Int), (0 : Int))) = List.replicate (n * 2) (Value.int .i64 0) := by
  induction n with
  | zero => rfl
  | succ n ih =>
    have e : (n + 1) * 2 = n * 2 + 1 + 1 := by omega
    rw [e, List.replicate_succ, List.replicate_succ, List.replicate_succ, ← ih]
    rfl
theorem made2 (n : Nat) : madeCells #[.int .i64 0, .int .i64 0] (n * 2) = (instrCells (List.replicate n ((0 : Int), (0 : Int)))).toArray := by
  rw [zeros_instr]
  apply Array.ext'
  unfold madeCells
  apply List.ext_getElem?
  intro i
  simp only [Array.toList_map, Array.toList_range, List.getElem?_map, List.getElem?_replicate]
  by_cases h : i < n * 2
  · rw [List.getElem?_range h, if_pos h]
    have : i % 2 = 0 ∨ i % 2 = 1 := by omega
    rcases this with e | e <;> simp [e]
  · rw [List.getElem?_eq_none (by simp; omega), if_neg h]
    rfl
theorem instr_app (a b : List (Int × Int)) : instrCells (a ++ b) = instrCells a ++ instrCells b := by
  induction a with
  | nil => rfl
  | cons x a ih =>
    show instrCells (x :: (a ++ b)) = instrCells (x :: a) ++ instrCells b
    unfold instrCells at ih ⊢
    simp only [List.flatMap_cons, List.append_assoc, ih]

section
variable {P : Program}
end
end Go.Proofs.YtmeiikjpaepogaaGreatDoor
namespace Go.Proofs.YtmeiikjpaepogaaGreatDoor
open Go Go.RowKit Go.ChangeShapes Go.WideShapes Go.ChangeAt Go.Deep

theorem Tryz.cells65 : Tryz.prog.cellsOf 65 = 2 := by kernel_rfl
theorem Tryz.bytesIns : Tryz.prog.bytesOf 65 = 16 := by kernel_rfl
theorem Tryz.cells2 : Tryz.prog.cellsOf 2 = 1 := by kernel_rfl

section
variable {H : Type} {enc : TypeId × Value → H} {w : World}
theorem cell_plain {w : World} {a : Addr} {v : Value} (h : w.cell? a = some v) : a.spot = none ∧ a.block < w.heap.size := by
  unfold World.cell? at h
  split at h
  · rename_i hh
    refine ⟨?_, lt_of_block hh⟩
    split at h
    · cases h
    · rename_i hn
      simpa using hn
  · cases h
theorem inI_lit {z : Int} (h : (Lit.int .i64 z).wf = true) : inI z := by
  simp [Lit.wf, IntKind.min, IntKind.max, IntKind.bits, IntKind.signed] at h
  unfold inI
  omega
set_option maxRecDepth 100000 in
/-- A list of instructions as it came in. -/
theorem open_list {fuel : Nat} {v : Value} {x : DataW H × List MemPlace} (h : DataW.trod enc Tryz.prog w 0 (fun _ => true) true fuel 33 [v] = some x) (hw : (x.1.weights Tryz.prog 33).all (· ≤ reachBytes) = true) :
    ∃ ao c l, v = .slice ao (List.length l) c ∧ InL w ao l ∧ (∀ y ∈ l, inI y.2) ∧ l.length ≤ 8796093021960 := by
  rcases open_slice_pairs Tryz.underlying33 Tryz.underlying65 Tryz.cells65 rfl rfl Tryz.cells3 Tryz.cells2 h with ⟨e, _⟩ | ⟨a, len, cap, m, n, V0, V1, D0, D1, P0, P1, e, hb, hl, hm, hmm, rfl, hall⟩
  · simp only [List.cons.injEq, and_true] at e
    exact ⟨none, 0, [], e, Or.inl rfl, fun y hy => by simp at hy, by simp⟩
  · simp only [List.cons.injEq, and_true] at e
    subst e
    simp only [if_true] at hmm
    subst hmm
    have hz : ∀ i, i < m → ∃ z0 z1, V0 i = .int .i64 z0 ∧ V1 i = .int .i64 z1 ∧ inI z1 := fun i hi => by
      obtain ⟨_, _, t0, t1⟩ := hall i hi
      obtain ⟨z0, g0, _, _⟩ := DataW.trod_int Tryz.underlying3 t0
      obtain ⟨z1, g1, _, w1⟩ := DataW.trod_int Tryz.underlying2 t1
      simp only [List.cons.injEq, and_true] at g0 g1
      exact ⟨z0, z1, g0, g1, inI_lit w1⟩
    have hlen : len ≤ 8796093021960 := by
      unfold DataW.weights at hw
      rw [Tryz.underlying33] at hw
      simp only [List.all_cons, Bool.and_eq_true, decide_eq_true_eq, List.length_map, List.length_range, Tryz.bytesIns] at hw
      have := hw.1
      unfold reachBytes at this
      omega
    refine ⟨some a, m, (List.range len).map (fun i => (intOf (V0 i), intOf (V1 i))), by simp, ?_, ?_, by simpa using hlen⟩
    · by_cases h0 : len = 0
      · left
        subst h0
        rfl
      · right
        obtain ⟨c0, _, _, _⟩ := hall 0 (by omega)
        have e0 : a.add (0 * 2) = a := by rw [Nat.zero_mul]; rfl
        rw [e0] at c0
        obtain ⟨hs, hlt⟩ := cell_plain c0
        obtain ⟨bk, off, sp⟩ := a
        simp only at hs hlt
        subst hs
        refine ⟨bk, off, rfl, hlt, fun j u hj => ?_⟩
        have hjl : j < len * 2 := by
          have := (List.getElem?_eq_some_iff.1 hj).1
          rw [instrCells_length] at this
          simpa using this
        obtain ⟨k1, k2, _, _⟩ := hall (j / 2) (by omega)
        obtain ⟨z0, z1, v0, v1, _⟩ := hz (j / 2) (by omega)
        have hx : ((List.range len).map (fun i => (intOf (V0 i), intOf (V1 i))))[j / 2]? = some (z0, z1) := by
          rw [List.getElem?_map, List.getElem?_range (by omega)]
          simp [v0, v1, intOf]
        obtain ⟨e1, e2⟩ := instrCells_at _ _ _ hx
        rw [addr_off] at k1 k2
        rcases Nat.mod_two_eq_zero_or_one j with hj2 | hj2
        · have ej : j / 2 * 2 = j := by omega
          rw [ej] at e1 k1
          rw [e1] at hj
          rw [k1, v0]
          exact hj
        · have ej : j / 2 * 2 + 1 = j := by omega
          rw [ej] at e2 k2
          rw [e2] at hj
          rw [k2, v1]
          exact hj
    · intro y hy
      obtain ⟨i, hi, rfl⟩ := List.mem_map.1 hy
      obtain ⟨z0, z1, v0, v1, h1⟩ := hz i (by have := List.mem_range.1 hi; omega)
      simpa [v1, intOf] using h1
end
end Go.Proofs.YtmeiikjpaepogaaGreatDoor
