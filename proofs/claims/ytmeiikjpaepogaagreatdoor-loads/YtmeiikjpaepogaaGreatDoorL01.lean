/- Laws: make and copy, where an element has two cells. -/
import Derived.Test.YtmeiikjpaepogaaGreatDoorK46
import Derived.Laws.CopyOwn
namespace Go.Proofs.YtmeiikjpaepogaaGreatDoor
open Go Go.RowKit

theorem run_make2 (n : Nat) (hn : n ≤ 17592186044416) (w : World) :
    (Instr.makeSlice 33 (.int .i64 (n : Int)) (.int .i64 (n : Int))).run Tryz.prog w = .ok (.slice (some ⟨w.heap.size, 0, none⟩) n n) (w.alloc (.cells (madeCells #[.int .i64 0, .int .i64 0] (n * 2)) 65)) := by
  obtain ⟨iI, hiI, hzI0, hzI1, hzI2⟩ := info_parts Tryz.infoInstr
  have hr := run_make (P := Tryz.prog) w 33 65 iI _ Tryz.underlying33 hiI hzI0 .i64 .i64 n n (by omega) (Int.le_refl _) (by rw [hzI2]; omega) (by omega)
  simp only [Int.toNat_natCast, hzI1] at hr
  exact hr
theorem zeros_instr (n : Nat) : instrCells (List.replicate n ((0 : Int), (0 : Int))) = List.replicate (n * 2) (Value.int .i64 0) := by
  induction n with
  | zero => rfl
  | succ n ih =>
    have e : (n + 1) * 2 = n * 2 + 1 + 1 := by omega
    rw [e, List.replicate_succ, List.replicate_succ, List.replicate_succ, ← ih]
    rfl
theorem made2 (n : Nat) : madeCells #[.int .i64 0, .int .i64 0] (n * 2) = (instrCells (List.replicate n ((0 : Int), (0 : Int)))).toArray := by
  rw [zeros_instr]
  apply Array.ext'
  unfold madeCells
  apply List.ext_getElem?
  intro i
  simp only [Array.toList_map, Array.toList_range, List.getElem?_map, List.getElem?_replicate]
  by_cases h : i < n * 2
  · rw [List.getElem?_range h, if_pos h]
    have : i % 2 = 0 ∨ i % 2 = 1 := by omega
    rcases this with e | e <;> simp [e]
  · rw [List.getElem?_eq_none (by simp; omega), if_neg h]
    rfl
theorem instr_app (a b : List (Int × Int)) : instrCells (a ++ b) = instrCells a ++ instrCells b := by
  induction a with
  | nil => rfl
  | cons x a ih =>
    show instrCells (x :: (a ++ b)) = instrCells (x :: a) ++ instrCells b
    unfold instrCells at ih ⊢
    simp only [List.flatMap_cons, List.append_assoc, ih]

section
variable {P : Program}
theorem run_copy2 (w : World) (dT sT ty elem : TypeId) (g dLen dCap : Nat) (a : Addr) (sLen sCap : Nat) (cur : Array Value) (t : TypeId) (cs : List Value)
    (hu : P.underlying dT = some (.slice elem)) (hs : (P.info? elem).map (·.size) = some 2)
    (hg : w.heap[g]? = some (.cells cur t (0, 0))) (hn : cs.length = sLen * 2) (hle : sLen ≤ dLen)
    (hsrc : ∀ j v, cs[j]? = some v → w.cell? (a.add j) = some v) (hfit : cs.length ≤ cur.size) (h1 : ∀ v ∈ cs, v.oneCell' = true) :
    (Builtin.copy_ #[dT, sT] ty #[.slice (some ⟨g, 0, none⟩) dLen dCap, .slice (some a) sLen sCap]).run P w =
      .ok (goInt sLen) (w.setRow g (cs ++ cur.toList.drop cs.length).toArray) := by
  have hl := run_loadCells_list (P := P) w a cs hsrc
  have hst := run_storeCells_at P g 0 t cs 0 cur w hg (by simpa using hfit) h1
  have hm : Nat.min sLen dLen = sLen := Nat.min_eq_left hle
  cases hq : P.info? elem with
  | none => simp [hq] at hs
  | some i =>
    have hi : i.size = 2 := by simpa [hq] using hs
    simp [Builtin.copy_, run_underlying hu, Builtin.lenOf, Builtin.firstCells, sizeOf, typeInfo, hq, hi, hm, ← hn, hl, hst]
theorem run_copy2_none (w : World) (dT sT ty elem : TypeId) (d a : Option Addr) (dLen dCap sCap : Nat) (hu : P.underlying dT = some (.slice elem)) (hs : (P.info? elem).map (·.size) = some 2) :
    (Builtin.copy_ #[dT, sT] ty #[.slice d dLen dCap, .slice a 0 sCap]).run P w = .ok (goInt 0) w := by
  cases hq : P.info? elem with
  | none => simp [hq] at hs
  | some i =>
    have hl : ∀ (x : Addr), (loadCells x 0).run P w = .ok #[] w := fun x => by simpa using run_loadCells_list (P := P) w x [] (by simp)
    have hm : Nat.min 0 dLen = 0 := Nat.zero_min dLen
    cases d <;> cases a <;> simp [Builtin.copy_, run_underlying hu, Builtin.lenOf, Builtin.firstCells, sizeOf, typeInfo, hq, hm, storeCells, hl]
end
theorem Tryz.sizeInstr2 : (Tryz.prog.info? 65).map (·.size) = some 2 := by kernel_rfl
/-- The list that is handed in, copied into a new one with eight places more. -/
theorem wpList_copyL {w : World} {ops : Array Oper} {rest : List Oper} {o : Oper} {a : Act} {Q : Exit → Act → World → Prop} (hgd : o.guard = none) (d s : Operand)
    (ho : o.op = .call { callee := .builtin .copy, args := #[d, s], argTypes := #[33, 33] }) (l : List (Int × Int)) (ao : Option Addr) (c g n : Nat) (hn : n = l.length + 8)
    (hd : a.eval d = .slice (some ⟨g, 0, none⟩) n n) (hs : a.eval s = .slice ao l.length c)
    (hg : Blk w g (instrCells (List.replicate n ((0 : Int), (0 : Int)))).toArray 65) (hin : InL w ao l) (B : Nat) (w0 : World) (hb : Below B w0 w) (hB : B ≤ g) (dst : Option Tmp) (hdst : o.dst = dst)
    (h : ∀ w', Hid (Blk w' g (instrCells (l ++ List.replicate 8 ((0 : Int), (0 : Int)))).toArray 65) → Below B w0 w' → wpList Tryz.prog ops Q rest (a.put dst (.int .i64 l.length)) w') :
    wpList Tryz.prog ops Q (o :: rest) a w := by
  subst hn hdst
  refine wpList_plain hgd fun K hK => ?_
  rcases hin with rfl | ⟨g1, off, rfl, hg1, hcells⟩
  · have hrun := run_copy2_none (P := Tryz.prog) w 33 33 o.type 65 (some ⟨g, 0, none⟩) ao (0 + 8) (0 + 8) c Tryz.underlying33 Tryz.sizeInstr2
    unfold Oper.wp
    simp only [List.length_nil] at hd hs
    simp [execOp, ho, resolve, invoke, builtin, hd, hs, hrun, Result.andThen]
    exact hK _ _ (h w (V (by simpa using hg)) hb)
  · have hsrc : ∀ j v, (instrCells l)[j]? = some v → w.cell? ((⟨g1, off, none⟩ : Addr).add j) = some v := fun j v hj => by rw [addr_off]; exact hcells j v hj
    have hrun := run_copy2 (P := Tryz.prog) w 33 33 o.type 65 g (l.length + 8) (l.length + 8) ⟨g1, off, none⟩ l.length c _ 65 (instrCells l) Tryz.underlying33 Tryz.sizeInstr2 hg (instrCells_length l) (by omega) hsrc (by simp [instrCells_length]; omega) (instr_oneCell l)
    unfold Oper.wp
    simp [execOp, ho, resolve, invoke, builtin, hd, hs, hrun, Result.andThen]
    refine hK _ _ (h _ ?_ (below_setRow hb hB _))
    have e : (instrCells l ++ (instrCells (List.replicate (l.length + 8) ((0 : Int), (0 : Int)))).drop (instrCells l).length) = instrCells (l ++ List.replicate 8 ((0 : Int), (0 : Int))) := by
      have e2 : (l.length + 8) * 2 - l.length * 2 = 8 * 2 := by omega
      rw [instr_app, instrCells_length, zeros_instr, zeros_instr, List.drop_replicate, e2]
    have := Blk.setRow hg (instrCells l ++ (instrCells (List.replicate (l.length + 8) ((0 : Int), (0 : Int)))).drop (instrCells l).length).toArray
    rw [e] at this
    simp only [e]
    exact this
end Go.Proofs.YtmeiikjpaepogaaGreatDoor
