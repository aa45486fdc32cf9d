/- The reference's Reader: tell, pop. -/
import Derived.Test.YtmeiikjpaepogaaGreatDoorK02
namespace Go.Proofs.YtmeiikjpaepogaaGreatDoor
open Go Go.RowKit

def setArg (l : List (Int × Int)) (n : Nat) (a : Int) : List (Int × Int) := l.modify n fun x => (x.1, a)

theorem setArg_cells (l : List (Int × Int)) (n : Nat) (a : Int) : instrCells (setArg l n a) = (instrCells l).set (n * 2 + 1) (.int .i64 a) := by
  unfold setArg
  induction l generalizing n with
  | nil => simp [instrCells]
  | cons x l ih =>
    cases n with
    | zero => simp [instrCells]
    | succ n =>
      have := ih n
      simp only [instrCells, List.modify_succ_cons, List.flatMap_cons] at *
      rw [this]
      have e : (n + 1) * 2 + 1 = (n * 2 + 1) + 2 := by omega
      rw [e]
      rfl

theorem setArg_length (l : List (Int × Int)) (n : Nat) (a : Int) : (setArg l n a).length = l.length := by simp [setArg]

theorem Rd.write4 {B : Nat} {w : World} {b : Nat} {st : RS} {v5 v6 v7 v11 : Value} {g m k4 : Nat} (h : Rd B w b st (.slice (some ⟨g, 0, none⟩) m k4) v5 v6 v7 v11) (n : Nat) (a : Int) :
    Rd B (w.setCell ⟨g, n * 2 + 1, none⟩ (.int .i64 a)) b { st with c0 := setArg st.c0 n a } (.slice (some ⟨g, 0, none⟩) m k4) v5 v6 v7 v11 := by
  have hne := h.ne 0 _ rfl
  refine ⟨?_, h.base, ?_, by have := h.small; simpa [setArg_length] using this⟩
  · exact h.blk.far (a := ⟨g, n * 2 + 1, none⟩) (by intro e; exact hne (by simp [Value.ownBlock, e])) _
  · have := h.owned.write 0 g m k4 _ rfl rfl (n * 2 + 1) (.int .i64 a)
    simpa [rdRows, setArg_length, setArg_cells] using this
theorem Rd.write5 {B : Nat} {w : World} {b : Nat} {st : RS} {v4 v6 v7 v11 : Value} {g m k4 : Nat} (h : Rd B w b st v4 (.slice (some ⟨g, 0, none⟩) m k4) v6 v7 v11) (n : Nat) (a : Int) :
    Rd B (w.setCell ⟨g, n * 2 + 1, none⟩ (.int .i64 a)) b { st with c1 := setArg st.c1 n a } v4 (.slice (some ⟨g, 0, none⟩) m k4) v6 v7 v11 := by
  have hne := h.ne 1 _ rfl
  refine ⟨?_, h.base, ?_, by have := h.small; simpa [setArg_length] using this⟩
  · exact h.blk.far (a := ⟨g, n * 2 + 1, none⟩) (by intro e; exact hne (by simp [Value.ownBlock, e])) _
  · have := h.owned.write 1 g m k4 _ rfl rfl (n * 2 + 1) (.int .i64 a)
    simpa [rdRows, setArg_length, setArg_cells] using this

set_option maxHeartbeats 400000 in
theorem tell_def (B b : Nat) (st : RS) (v4 v5 v6 v7 v11 : Value) (n : Nat) (w : World) (h : Rd B w b st v4 v5 v6 v7 v11) (hst : 0 ≤ st.start) (hn : n < st.c0.length) :
    Calls Tryz.prog 178 #[.pointer (some ⟨b, 0, none⟩), .int .i64 n] w fun e w' => e = .returned (.tuple #[]) ∧ Rd B w' b { st with c0 := setArg st.c0 n st.c0.length } v4 v5 v6 v7 v11 ∧ Moved w b [v4, v5, v6, v7, v11] w' [v4, v5, v6, v7, v11] := by
  obtain ⟨g, k4, rfl, hg, hgl⟩ := h.o4.form (by omega)
  have hp : ∀ k, Calls Tryz.prog 181 #[.pointer (some ⟨b, 0, none⟩)] (w.drewN k) fun e w' => e = .returned (.int .i64 0) ∧ w' = w.drewN k := by
    intro k
    have := part_any B b st _ _ _ _ _ _ (h.drewN k)
    rw [partS, if_pos hst] at this
    exact this
  have hh : ∀ k, Calls Tryz.prog 176 #[.pointer (some ⟨b, 0, none⟩)] (w.drewN k) fun e w' => e = .returned (.int .i64 st.c0.length) ∧ ∃ n, w' = w.drewN n := by
    intro k
    have := here_any B b st _ _ _ _ _ _ (h.drewN k)
    rw [hereS, if_pos hst] at this
    exact this.mono (fun e w' ⟨h1, n, h2⟩ => ⟨h1, k + n, by rw [h2]; simp [World.drewN, Nat.add_assoc]⟩)
  have HP := V hp
  have HH := V hh
  clear hp hh
  have hb := h.blk
  unfold rdArr at hb
  have hc := hb.cell
  have hf := hb.free
  have hcell := own_cell h.o4 (n * 2 + 1) (by omega)
  obtain ⟨x, hx⟩ : ∃ x, st.c0[n]? = some x := ⟨_, List.getElem?_eq_getElem hn⟩
  rw [(instrCells_at _ _ _ hx).2] at hcell
  have hfree := own_free h.o4 (n * 2 + 1)
  clear hb hx
  have hs : (st.c0.length : Int) ≤ 4000 := by have := h.small; omega
  have hn' : (n : Int) < st.c0.length := by omega
  go_enter Tryz.func178, Tryz.ntmps178
  go_wp2_with fail
  go_region_with (first | (go_at_call 181; refine (U HP _).mono ?_; rintro e w1 ⟨rfl, rfl⟩) | (go_at_call 176; refine (U HH _).mono ?_; rintro e w1 ⟨rfl, k, rfl⟩))
  all_goals
    go_end0
    exact ⟨rfl, (h.drewN k).write4 n _, (moved_drawn w b _ k).trans (moved_write _ _ _ 0 g _ _ _ rfl _)⟩

set_option maxHeartbeats 400000 in
theorem tell_main (B b : Nat) (st : RS) (v4 v5 v6 v7 v11 : Value) (n : Nat) (w : World) (h : Rd B w b st v4 v5 v6 v7 v11) (hst : ¬ 0 ≤ st.start) (hn : n < st.c1.length) :
    Calls Tryz.prog 178 #[.pointer (some ⟨b, 0, none⟩), .int .i64 n] w fun e w' => e = .returned (.tuple #[]) ∧ Rd B w' b { st with c1 := setArg st.c1 n st.c1.length } v4 v5 v6 v7 v11 ∧ Moved w b [v4, v5, v6, v7, v11] w' [v4, v5, v6, v7, v11] := by
  obtain ⟨g, k4, rfl, hg, hgl⟩ := h.o5.form (by omega)
  have hp : ∀ k, Calls Tryz.prog 181 #[.pointer (some ⟨b, 0, none⟩)] (w.drewN k) fun e w' => e = .returned (.int .i64 1) ∧ w' = w.drewN k := by
    intro k
    have := part_any B b st _ _ _ _ _ _ (h.drewN k)
    rw [partS, if_neg hst] at this
    exact this
  have hh : ∀ k, Calls Tryz.prog 176 #[.pointer (some ⟨b, 0, none⟩)] (w.drewN k) fun e w' => e = .returned (.int .i64 st.c1.length) ∧ ∃ n, w' = w.drewN n := by
    intro k
    have := here_any B b st _ _ _ _ _ _ (h.drewN k)
    rw [hereS, if_neg hst] at this
    exact this.mono (fun e w' ⟨h1, n, h2⟩ => ⟨h1, k + n, by rw [h2]; simp [World.drewN, Nat.add_assoc]⟩)
  have HP := V hp
  have HH := V hh
  clear hp hh
  have hb := h.blk
  unfold rdArr at hb
  have hc := hb.cell
  have hf := hb.free
  have hcell := own_cell h.o5 (n * 2 + 1) (by omega)
  obtain ⟨x, hx⟩ : ∃ x, st.c1[n]? = some x := ⟨_, List.getElem?_eq_getElem hn⟩
  rw [(instrCells_at _ _ _ hx).2] at hcell
  have hfree := own_free h.o5 (n * 2 + 1)
  clear hb hx
  have hs : (st.c1.length : Int) ≤ 4000 := by have := h.small; omega
  have hn' : (n : Int) < st.c1.length := by omega
  go_enter Tryz.func178, Tryz.ntmps178
  go_wp2_with fail
  go_region_with (first | (go_at_call 181; refine (U HP _).mono ?_; rintro e w1 ⟨rfl, rfl⟩) | (go_at_call 176; refine (U HH _).mono ?_; rintro e w1 ⟨rfl, k, rfl⟩))
  all_goals
    go_end0
    exact ⟨rfl, (h.drewN k).write5 n _, (moved_drawn w b _ k).trans (moved_write _ _ _ 1 g _ _ _ rfl _)⟩


def tellS (st : RS) (n : Nat) : RS := if 0 ≤ st.start then { st with c0 := setArg st.c0 n st.c0.length } else { st with c1 := setArg st.c1 n st.c1.length }

theorem tell_rd (B b : Nat) (st : RS) (v4 v5 v6 v7 v11 : Value) (n : Nat) (w : World) (h : Rd B w b st v4 v5 v6 v7 v11) (hn : n < hereS st) :
    Calls Tryz.prog 178 #[.pointer (some ⟨b, 0, none⟩), .int .i64 n] w fun e w' => e = .returned (.tuple #[]) ∧ Rd B w' b (tellS st n) v4 v5 v6 v7 v11 ∧ Moved w b [v4, v5, v6, v7, v11] w' [v4, v5, v6, v7, v11] := by
  unfold hereS at hn
  unfold tellS
  by_cases hst : 0 ≤ st.start
  · rw [if_pos hst] at hn ⊢
    exact tell_def B b st v4 v5 v6 v7 v11 n w h hst hn
  · rw [if_neg hst] at hn ⊢
    exact tell_main B b st v4 v5 v6 v7 v11 n w h hst hn
theorem nameCells_take (l : List (ByteArray × Int × Int)) (x : ByteArray × Int × Int) : (nameCells (l ++ [x])).take (l.length * 3) = nameCells l := by
  have : nameCells (l ++ [x]) = nameCells l ++ nameCells [x] := by simp [nameCells]
  rw [this, List.take_append_of_le_length (by rw [nameCells_length]; omega), List.take_of_length_le (by rw [nameCells_length]; omega)]

theorem Rd.cut7 {B : Nat} {w : World} {b : Nat} {st : RS} {v4 v5 v6 v11 : Value} {g k7 m : Nat} (h : Rd B w b st v4 v5 v6 (.slice (some ⟨g, 0, none⟩) m k7) v11) (l : List (ByteArray × Int × Int)) (x : ByteArray × Int × Int) (he : st.opens = l ++ [x]) (hm : st.opens.length = m) :
    Rd B (w.setCell ⟨b, 7, none⟩ (.slice (some ⟨g, 0, none⟩) l.length k7)) b { st with opens := l } v4 v5 v6 (.slice (some ⟨g, 0, none⟩) l.length k7) v11 := by
  subst hm
  have hn : st.opens.length = l.length + 1 := by rw [he]; simp
  have hown := own_cut h.o7 l.length (by omega)
  rw [he, nameCells_take] at hown
  refine ⟨?_, h.base, ?_, by have := h.small; simp; omega⟩
  · have := h.blk.set 7 (.slice (some ⟨g, 0, none⟩) l.length k7)
    simpa [rdArr] using this
  · have := (h.owned.grow 3 _ (.slice (some ⟨g, 0, none⟩) l.length k7) ⟨225, 3, l.length, nameCells l⟩ rfl (by have := h.blk.lt; simpa using this) (World.grownBy.refl _ _) hown (Or.inl rfl)).set (b := b) (by simp) 7 (.slice (some ⟨g, 0, none⟩) l.length k7)
    simpa [rdRows] using this

set_option maxHeartbeats 400000 in
theorem pop_any (B b : Nat) (st : RS) (v4 v5 v6 v7 v11 : Value) (w : World) (h : Rd B w b st v4 v5 v6 v7 v11) (l : List (ByteArray × Int × Int)) (x : ByteArray × Int × Int) (he : st.opens = l ++ [x]) :
    Calls Tryz.prog 177 #[.pointer (some ⟨b, 0, none⟩)] w fun e w' => e = .returned (.agg #[.string x.1, .int .i64 x.2.1, .int .i64 x.2.2]) ∧ RdE B w' b { st with opens := l } ∧ Below B w w' := by
  have hn : st.opens.length = l.length + 1 := by rw [he]; simp
  obtain ⟨g, k7, rfl, hg, hgl⟩ := h.o7.form (by omega)
  have hb := h.blk
  have hlt := hb.lt
  unfold rdArr at hb
  have ho := h.o7
  rw [hn] at hb ho
  have hx0 := own_cell ho (l.length * 3) (by omega)
  have hx1 := own_cell ho (l.length * 3 + 1) (by omega)
  have hx2 := own_cell ho (l.length * 3 + 2) (by omega)
  rw [he, (nameCells_at (l ++ [x]) l.length x (by simp)).1] at hx0
  rw [he, (nameCells_at (l ++ [x]) l.length x (by simp)).2.1] at hx1
  rw [he, (nameCells_at (l ++ [x]) l.length x (by simp)).2.2] at hx2
  have hs : (l.length : Int) ≤ 4000 := by have := h.small; omega
  have hk : (l.length : Int) + 1 ≤ k7 := by have := (own_cap ho).1; omega
  have hc := hb.cell
  have hf := hb.free
  clear hb ho
  go_enter Tryz.func177, Tryz.ntmps177
  go_wp2_with fail
  go_region
  go_wp2
  go_region
  go_wp2
  refine bodyPost_ret (v := .agg #[.string x.1, .int .i64 x.2.1, .int .i64 x.2.2]) (by simp [results, Tryz.results177, go_sem]) rfl ⟨rfl, ?_, ?_⟩
  · exact ⟨_, _, _, _, _, ((((h.cut7 l x he rfl).alloc _).alloc _).drew).drew⟩
  · have hB : B ≤ w.heap.size := by have := h.base; omega
    exact (((((Below.refl B w).setCell h.base _).alloc (by simpa using hB) _).alloc (by simp; omega) _).drew).drew
def gapB (b : UInt8) : Bool := b == 32 || b == 10

/-- The first place from i on whose byte is not as p says, or the end. -/
def scan (s : ByteArray) (p : UInt8 → Bool) : Nat → Nat → Nat
  | 0, i => i
  | f + 1, i => if h : i < s.size then (if p s[i] then scan s p f (i + 1) else i) else i

theorem scan_le (s : ByteArray) (p : UInt8 → Bool) (f i : Nat) (h : i ≤ s.size) : i ≤ scan s p f i ∧ scan s p f i ≤ s.size := by
  induction f generalizing i with
  | zero => exact ⟨Nat.le_refl _, h⟩
  | succ f ih =>
    unfold scan
    split
    · split
      · have := ih (i + 1) (by omega); omega
      · omega
    · omega
theorem scan_go (s : ByteArray) (p : UInt8 → Bool) (k : Nat) (h : k < s.size) (hp : p s[k] = true) : scan s p (s.size - k) k = scan s p (s.size - (k + 1)) (k + 1) := by
  have e : s.size - k = (s.size - (k + 1)) + 1 := by omega
  rw [e, scan]
  simp [h, hp]
theorem scan_stop (s : ByteArray) (p : UInt8 → Bool) (k : Nat) (h : k < s.size) (hp : p s[k] = false) : scan s p (s.size - k) k = k := by
  have e : s.size - k = (s.size - (k + 1)) + 1 := by omega
  rw [e, scan]
  simp [h, hp]
theorem scan_end (s : ByteArray) (p : UInt8 → Bool) (k : Nat) (h : ¬ k < s.size) : scan s p (s.size - k) k = k := by
  have e : s.size - k = 0 := by omega
  rw [e, scan]

def skipS (s : ByteArray) (i : Nat) : Nat := scan s gapB (s.size - i) i
def wordS (s : ByteArray) (i : Nat) : Nat := scan s (fun b => !gapB b) (s.size - i) i
def stepS (st : RS) : RS := { st with next := wordS st.s (skipS st.s st.next), place0 := skipS st.s st.next, token := st.s.extract (skipS st.s st.next) (wordS st.s (skipS st.s st.next)) }

theorem Rd.next {B : Nat} {w : World} {b : Nat} {st : RS} {v4 v5 v6 v7 v11 : Value} (h : Rd B w b st v4 v5 v6 v7 v11) (k : Nat) : Rd B (w.setCell ⟨b, 1, none⟩ (.int .i64 k)) b { st with next := k } v4 v5 v6 v7 v11 :=
  h.set 1 _ _ (by simp [rdArr]) rfl ⟨rfl, rfl, rfl, rfl, rfl, rfl⟩

theorem Rd.at2 {B : Nat} {w : World} {b : Nat} {st : RS} {v4 v5 v6 v7 v11 : Value} (h : Rd B w b st v4 v5 v6 v7 v11) : Rd B (w.setCell ⟨b, 2, none⟩ (.int .i64 st.next)) b { st with place0 := st.next } v4 v5 v6 v7 v11 :=
  h.set 2 _ _ (by simp [rdArr]) rfl ⟨rfl, rfl, rfl, rfl, rfl, rfl⟩

theorem Rd.tok3 {B : Nat} {w : World} {b : Nat} {st : RS} {v4 v5 v6 v7 v11 : Value} (h : Rd B w b st v4 v5 v6 v7 v11) (t : ByteArray) : Rd B (w.setCell ⟨b, 3, none⟩ (.string t)) b { st with token := t } v4 v5 v6 v7 v11 :=
  h.set 3 _ _ (by simp [rdArr]) rfl ⟨rfl, rfl, rfl, rfl, rfl, rfl⟩

def cellInt (w : World) (b i : Nat) : Int := match w.cell? ⟨b, i, none⟩ with | some v => intOf v | none => 0
theorem Rd.cellInt {B : Nat} {w : World} {b : Nat} {st : RS} {v4 v5 v6 v7 v11 : Value} (h : Rd B w b st v4 v5 v6 v7 v11) : cellInt w b 1 = st.next := by
  have := h.blk.cell 1
  simp [rdArr] at this
  simp [YtmeiikjpaepogaaGreatDoor.cellInt, this, intOf]

theorem byte_eq (b : UInt8) (n : Nat) (hn : n < 256) : ((b.toNat : Int) == (n : Int)) = (b == UInt8.ofNat n) := by
  rw [Bool.eq_iff_iff]
  simp only [beq_iff_eq]
  constructor
  · intro h
    have h' : b.toNat = n := by exact_mod_cast h
    rw [← h']
    simp
  · intro h
    rw [h]
    simp [Nat.mod_eq_of_lt hn]

theorem gap_yes (b : UInt8) (h : gapB b = true) : ((b.toNat : Int) == 32) = true ∨ ((b.toNat : Int) == 32) = false ∧ ((b.toNat : Int) == 10) = true := by
  have e1 := byte_eq b 32 (by omega)
  have e2 := byte_eq b 10 (by omega)
  rw [show ((32 : Nat) : Int) = 32 from rfl] at e1
  rw [show ((10 : Nat) : Int) = 10 from rfl] at e2
  rw [e1, e2]
  unfold gapB at h
  cases h1 : (b == UInt8.ofNat 32)
  · right
    rw [show (b == 32) = (b == UInt8.ofNat 32) from rfl, h1] at h
    exact ⟨rfl, by simpa using h⟩
  · left; rfl
theorem gap_no (b : UInt8) (h : ¬ gapB b = true) : ((b.toNat : Int) == 32) = false ∧ ((b.toNat : Int) == 10) = false := by
  have e1 := byte_eq b 32 (by omega)
  have e2 := byte_eq b 10 (by omega)
  rw [show ((32 : Nat) : Int) = 32 from rfl] at e1
  rw [show ((10 : Nat) : Int) = 10 from rfl] at e2
  rw [e1, e2]
  unfold gapB at h
  simp only [Bool.or_eq_true, not_or, Bool.not_eq_true] at h
  exact h

theorem word_yes (b : UInt8) (h : gapB b = false) : ((b.toNat : Int) != 32) = true ∧ ((b.toNat : Int) != 10) = true := by
  obtain ⟨h1, h2⟩ := gap_no b (by rw [h]; simp)
  unfold bne
  rw [h1, h2]
  exact ⟨rfl, rfl⟩
theorem word_no (b : UInt8) (h : ¬ gapB b = false) : ((b.toNat : Int) != 32) = false ∨ ((b.toNat : Int) != 32) = true ∧ ((b.toNat : Int) != 10) = false := by
  unfold bne
  rcases gap_yes b (by cases e : gapB b <;> simp_all) with h1 | ⟨h1, h2⟩
  · left; rw [h1]; rfl
  · right; rw [h1, h2]; exact ⟨rfl, rfl⟩

set_option maxHeartbeats 2000000 in
theorem step_rd (B b : Nat) (st : RS) (v4 v5 v6 v7 v11 : Value) (w : World) (h : Rd B w b st v4 v5 v6 v7 v11) (hnx : st.next ≤ st.s.size) :
    Calls Tryz.prog 125 #[.pointer (some ⟨b, 0, none⟩)] w fun e w' => e = .returned (.tuple #[]) ∧ Rd B w' b (stepS st) v4 v5 v6 v7 v11 ∧ Below B w w' := by
  have hsz : (st.s.size : Int) ≤ 2000 := by have := h.small; omega
  go_enter Tryz.func125, Tryz.ntmps125
  go_wp2_with fail
  go_loopw [] (fun wr => ∃ k : Nat, k ≤ st.s.size ∧ skipS st.s k = skipS st.s st.next ∧ Rd B wr b { st with next := k } v4 v5 v6 v7 v11 ∧ Below B w wr) (fun wr => st.s.size - (YtmeiikjpaepogaaGreatDoor.cellInt wr b 1).toNat)
  case atStart => exact ⟨st.next, hnx, rfl, h, Below.refl _ _⟩
  case round =>
    obtain ⟨k, hk, hsk, hr, hbel⟩ := hrel
    have HS := V hsk
    clear hsk
    have hm0 := hr.cellInt
    have HM := V hm0
    clear hm0
    have hb := hr.blk
    unfold rdArr at hb
    have hc := hb.cell
    have hf := hb.free
    clear hb
    by_cases hgo : ∃ hlt : k < st.s.size, gapB st.s[k] = true
    · obtain ⟨hlt, hg⟩ := hgo
      have hl : decide ((k : Int) < st.s.size) = true := by simpa using hlt
      have HG := V hg
      have h2 := gap_yes _ hg
      clear hg
      rcases h2 with e32 | ⟨e32, e10⟩
      all_goals
        go_wp2_with fail
        go_quiet (fail)
        go_wp2_with fail
        go_roundw
        case rel => exact ⟨k + 1, by omega, by rw [← U HS]; unfold skipS; rw [scan_go _ _ _ hlt (U HG)], by have := (hr.drewN nq).next (k + 1); simpa using this, (below_drawn hbel nq).setCell hr.base _⟩
        case measure =>
          have e1 := ((hr.drewN nq).next (k + 1)).cellInt
          rw [U HM]
          simp only [Int.natCast_add, Int.cast_ofNat_Int] at e1
          rw [e1]
          simp; omega
    · have hsame : skipS st.s st.next = k := by
        rw [← U HS]
        unfold skipS
        by_cases hlt : k < st.s.size
        · exact scan_stop _ _ _ hlt (by simpa using fun e => hgo ⟨hlt, e⟩)
        · exact scan_end _ _ _ hlt
      have HK := V hsame
      clear hsame
      have hex : (decide (k < st.s.size) = false) ∨ (∃ hlt : k < st.s.size, decide ((k : Int) < st.s.size) = true ∧ ((st.s[k].toNat : Int) == 32) = false ∧ ((st.s[k].toNat : Int) == 10) = false) := by
        by_cases hlt : k < st.s.size
        · exact Or.inr ⟨hlt, by simpa using hlt, gap_no _ (fun e => hgo ⟨hlt, e⟩)⟩
        · exact Or.inl (by simpa using hlt)
      clear hgo
      rcases hex with hl | ⟨hlt, hl, e32, e10⟩
      all_goals
        go_wp2_with fail
        go_quiet (fail)
        go_wp2_with fail
        have hr2 := (hr.drewN nq).at2
        have hb2 := below_drawn hbel nq
        go_loopw [] (fun wr' => ∃ k' : Nat, k' ≤ st.s.size ∧ wordS st.s k' = wordS st.s k ∧ Rd B wr' b { st with next := k', place0 := k } v4 v5 v6 v7 v11 ∧ Below B w wr') (fun wr' => st.s.size - (YtmeiikjpaepogaaGreatDoor.cellInt wr' b 1).toNat)
        case atStart => exact ⟨k, hk, rfl, hr2, hb2.setCell hr.base _⟩
        case round =>
          clear hc hf hr2 hb2 hl
          obtain ⟨k', hk', hsk', hr', hbel'⟩ := hrel
          have HS' := V hsk'
          clear hsk'
          have hm0' := hr'.cellInt
          have HM' := V hm0'
          clear hm0'
          have hb' := hr'.blk
          unfold rdArr at hb'
          have hc' := hb'.cell
          have hf' := hb'.free
          clear hb'
          by_cases hgo' : ∃ hlt' : k' < st.s.size, gapB st.s[k'] = false
          · obtain ⟨hlt', hg'⟩ := hgo'
            have hl' : decide (k' < st.s.size) = true := by simpa using hlt'
            have HG' := V hg'
            obtain ⟨f32, f10⟩ := word_yes _ hg'
            clear hg'
            go_wp2_with fail
            go_quiet (fail)
            go_wp2_with fail
            go_roundw
            case rel => exact ⟨k' + 1, by omega, by rw [← U HS']; unfold wordS; rw [scan_go _ _ _ hlt' (by simp [U HG'])], by have := (hr'.drewN nq).next (k' + 1); simpa using this, (below_drawn hbel' nq).setCell hr'.base _⟩
            case measure =>
              have e1 := ((hr'.drewN nq).next (k' + 1)).cellInt
              rw [U HM']
              simp only [Int.natCast_add, Int.cast_ofNat_Int] at e1
              rw [e1]
              simp; omega
          · have hsame' : wordS st.s k = k' := by
              rw [← U HS']
              unfold wordS
              by_cases hlt' : k' < st.s.size
              · exact scan_stop _ _ _ hlt' (by simpa using fun e => hgo' ⟨hlt', e⟩)
              · exact scan_end _ _ _ hlt'
            have HK' := V hsame'
            clear hsame'
            have hex' : (decide (k' < st.s.size) = false) ∨ (∃ hlt' : k' < st.s.size, decide (k' < st.s.size) = true ∧ (((st.s[k'].toNat : Int) != 32) = false ∨ ((st.s[k'].toNat : Int) != 32) = true ∧ ((st.s[k'].toNat : Int) != 10) = false)) := by
              by_cases hlt' : k' < st.s.size
              · exact Or.inr ⟨hlt', by simpa using hlt', word_no _ (fun e => hgo' ⟨hlt', e⟩)⟩
              · exact Or.inl (by simpa using hlt')
            clear hgo'
            have hkk : (k : Int) ≤ k' := by
              have := (scan_le st.s (fun b => !gapB b) (st.s.size - k) k hk).1
              have e := U HK'
              unfold wordS at e
              omega
            have hks : (k' : Int) ≤ st.s.size := by omega
            rcases hex' with hl' | ⟨hlt', hl', f32 | ⟨f32, f10⟩⟩
            all_goals
              go_wp2_with fail
              go_quiet (fail)
              go_wp2_with fail
              go_region
              go_wp2
              go_end0
              have e : stepS st = { st with next := k', place0 := k, token := st.s.extract k k' } := by unfold stepS; rw [U HK, U HK']
              rw [e]
              exact ⟨rfl, (hr'.drewN nq).drew.tok3 _, ((below_drawn hbel' nq).drew).setCell hr'.base _⟩

theorem step_any (B b : Nat) (st : RS) (w : World) (h : RdE B w b st) (hnx : st.next ≤ st.s.size) :
    Calls Tryz.prog 125 #[.pointer (some ⟨b, 0, none⟩)] w fun e w' => e = .returned (.tuple #[]) ∧ RdE B w' b (stepS st) ∧ Below B w w' := by
  obtain ⟨v4, v5, v6, v7, v11, h⟩ := h
  refine (step_rd B b st v4 v5 v6 v7 v11 w h hnx).mono ?_
  rintro e w' ⟨rfl, hr, hb⟩
  exact ⟨rfl, ⟨_, _, _, _, _, hr⟩, hb⟩
def structWords : List (List UInt8) := [[58], [59], [118, 97, 114, 105, 97, 98, 108, 101], [99, 111, 110, 115, 116, 97, 110, 116], [114, 101, 99, 117, 114, 115, 101], [105, 102], [101, 108, 115, 101], [116, 104, 101, 110], [98, 101, 103, 105, 110], [117, 110, 116, 105, 108], [119, 104, 105, 108, 101], [114, 101, 112, 101, 97, 116], [100, 111], [108, 111, 111, 112]]
def structS (s : ByteArray) : Bool := structWords.any fun t => s.toList == t

set_option maxHeartbeats 1000000 in
theorem structure_any (s : ByteArray) (w : World) :
    Calls Tryz.prog 126 #[.string s] w fun e w' => e = .returned (.bool (structS s)) ∧ w' = w := by
  go_enter Tryz.func126, Tryz.ntmps126
  go_wp2
  all_goals (go_ret; refine ⟨ret_bool ?_, rfl⟩; simp_all [structS, structWords])
def plainWords : List (ByteArray × Int) := [(⟨#[43]⟩, 9), (⟨#[45]⟩, 10), (⟨#[42]⟩, 11), (⟨#[47]⟩, 12), (⟨#[109, 111, 100]⟩, 13), (⟨#[97, 110, 100]⟩, 14), (⟨#[111, 114]⟩, 15), (⟨#[120, 111, 114]⟩, 16), (⟨#[105, 110, 118, 101, 114, 116]⟩, 17), (⟨#[110, 101, 103, 97, 116, 101]⟩, 18), (⟨#[61]⟩, 19), (⟨#[60]⟩, 20), (⟨#[100, 117, 112]⟩, 21), (⟨#[100, 114, 111, 112]⟩, 22), (⟨#[115, 119, 97, 112]⟩, 23), (⟨#[111, 118, 101, 114]⟩, 24), (⟨#[114, 111, 116]⟩, 25), (⟨#[62, 114]⟩, 26), (⟨#[114, 62]⟩, 27), (⟨#[114, 64]⟩, 28), (⟨#[33]⟩, 29), (⟨#[64]⟩, 30), (⟨#[101, 109, 105, 116]⟩, 31), (⟨#[46]⟩, 32), (⟨#[105]⟩, 8)]
def plainS (s : ByteArray) : Int := match plainWords.find? (fun x => x.1.toList == s.toList) with | some x => x.2 | none => -1

def wordsArr : Array Value := (plainWords.map fun x => Value.string x.1).toArray
def opsArr : Array Value := (plainWords.map fun x => Value.int .i64 x.2).toArray

theorem wordsArr_at (k : Nat) (h : k < 25) : ∃ x, plainWords[k]? = some x ∧ wordsArr[k]? = some (.string x.1) ∧ opsArr[k]? = some (.int .i64 x.2) := by
  have hl : k < plainWords.length := h
  refine ⟨plainWords[k], List.getElem?_eq_getElem hl, ?_, ?_⟩
  · simp [wordsArr, List.getElem?_eq_getElem hl]
  · simp [opsArr, List.getElem?_eq_getElem hl]

theorem plain_found (s : ByteArray) (k : Nat) (x : ByteArray × Int) (hx : plainWords[k]? = some x) (he : (x.1.toList == s.toList) = true) (hn : ∀ (j : Nat) (y : ByteArray × Int), j < k → plainWords[j]? = some y → (y.1.toList == s.toList) = false) : plainS s = x.2 := by
  obtain ⟨hlt, hx'⟩ := List.getElem?_eq_some_iff.1 hx
  have : plainWords.find? (fun x => x.1.toList == s.toList) = some x := by
    rw [List.find?_eq_some_iff_getElem]
    refine ⟨he, k, hlt, hx', ?_⟩
    intro j hj
    rw [hn j plainWords[j] hj (List.getElem?_eq_getElem (by omega))]
    rfl
  unfold plainS
  rw [this]
theorem plain_none (s : ByteArray) (hn : ∀ (j : Nat) (y : ByteArray × Int), j < 25 → plainWords[j]? = some y → (y.1.toList == s.toList) = false) : plainS s = -1 := by
  have : plainWords.find? (fun x => x.1.toList == s.toList) = none := by
    rw [List.find?_eq_none]
    intro x hx
    obtain ⟨j, hj, rfl⟩ := List.getElem_of_mem hx
    rw [hn j _ hj (List.getElem?_eq_getElem hj)]
    simp
  unfold plainS
  rw [this]

theorem Blk.setRow {w : World} {b : Nat} {cs : Array Value} {T : TypeId} (h : Blk w b cs T) (cs' : Array Value) : Blk (w.setRow b cs') b cs' T := setRow_heap w b cs cs' T (0, 0) h
theorem Blk.setRow_far {w : World} {b : Nat} {cs : Array Value} {T : TypeId} (h : Blk w b cs T) {g : Nat} (hg : b ≠ g) (cs' : Array Value) : Blk (w.setRow g cs') b cs T := by
  unfold Blk at h ⊢; rw [setRow_other _ _ _ _ hg]; exact h
theorem below_setRow {B : Nat} {a w : World} (h : Below B a w) {g : Nat} (hg : B ≤ g) (cs : Array Value) : Below B a (w.setRow g cs) :=
  ⟨h.os, h.tape, h.output, by simpa using h.size, fun k hk => by rw [setRow_other _ _ _ _ (by omega)]; exact h.block k hk⟩

def zeroWords : Array Value := Array.replicate 25 (.string ⟨#[]⟩)
def zeroOps : Array Value := Array.replicate 25 (.int .i64 0)

set_option maxHeartbeats 1000000 in
theorem plain_any (s : ByteArray) (w : World) :
    Calls Tryz.prog 179 #[.string s] w fun e w' => e = .returned (.int .i64 (plainS s)) ∧ Below w.heap.size w w' := by
  have hA : Blk (w.alloc (.cells zeroWords 246)) w.heap.size zeroWords 246 := Blk.new w _ _
  have hA' := Blk.setRow hA wordsArr
  have hB : Blk (((w.alloc (.cells zeroWords 246)).setRow w.heap.size wordsArr).alloc (.cells zeroOps 247)) (w.heap.size + 1) zeroOps 247 := by
    have := Blk.new ((w.alloc (.cells zeroWords 246)).setRow w.heap.size wordsArr) zeroOps 247
    simpa using this
  have HA := V hA
  have HB := V hB
  have HA' := V hA'
  clear hA hA' hB
  go_enter Tryz.func179, Tryz.ntmps179
  go_wp2_with (first | (refine wpList_store_row rfl 246 (.tmp 3) (.tmp 6) rfl w.heap.size wordsArr rfl rfl 246 zeroWords (U HA) (by kernel_rfl) (by kernel_rfl) (by kernel_rfl) ?_) | (refine wpList_store_row rfl 247 (.tmp 4) (.tmp 7) rfl (w.heap.size + 1) opsArr rfl rfl 247 zeroOps (U HB) (by kernel_rfl) (by kernel_rfl) (by kernel_rfl) ?_))
  go_loopw [5] (fun i wr => ∃ k : Nat, k ≤ 25 ∧ i = .int .i64 k ∧ (∀ (j : Nat) (y : ByteArray × Int), j < k → plainWords[j]? = some y → (y.1.toList == s.toList) = false) ∧ Blk wr w.heap.size wordsArr 246 ∧ Blk wr (w.heap.size + 1) opsArr 247 ∧ Below w.heap.size w wr) (fun i _ => 25 - (intOf i).toNat)
  case atStart =>
    refine ⟨0, by omega, rfl, fun j y hj => by omega, ?_, ?_, ?_⟩
    · exact ((U HA').alloc _).setRow_far (by omega) _
    · exact (U HB).setRow _
    · exact below_setRow ((below_setRow ((Below.refl _ _).alloc (Nat.le_refl _) _) (Nat.le_refl _) _).alloc (by simp) _) (by omega) _
  case round =>
    obtain ⟨k, hk, rfl, hno, hb1, hb2, hbel⟩ := hrel
    have HN := V hno
    clear hno
    by_cases hlt : k < 25
    · obtain ⟨x, hx, hw, ho⟩ := wordsArr_at k hlt
      have hc1 := hb1.cell k
      rw [hw] at hc1
      have hc2 := hb2.cell k
      rw [ho] at hc2
      have HX := V hx
      have HB := V (And.intro hb1 (And.intro hb2 hbel))
      clear hx hw ho hb1 hb2 hbel
      go_wp2_with fail
      · go_ret
        exact ⟨ret_int (plain_found s k x (U HX) (by assumption) (U HN)).symm, (U HB).2.2⟩
      · refine ⟨⟨k + 1, by omega, by go_num, ?_, (U HB).1, (U HB).2.1, (U HB).2.2⟩, by simp [intOf]; omega⟩
        intro j y hj hy
        by_cases e : j = k
        · subst e
          rw [U HX] at hy
          obtain rfl := Option.some.inj hy
          assumption
        · exact U HN j y (by omega) hy
    · go_wp2_with fail
      go_ret
      exact ⟨ret_int (plain_none s (fun j y hj => U HN j y (by omega))).symm, hbel⟩
end Go.Proofs.YtmeiikjpaepogaaGreatDoor
