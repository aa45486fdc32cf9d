/- The reference's Machine: do, the operators of two. -/
import Derived.Test.YtbcjfiaacenhgaaGreatDoorG18
namespace Go.Proofs.YtbcjfiaacenhgaaGreatDoor
open Go Go.RowKit

theorem wrap64_in (x : Int) : inI (wrap64 x) := by unfold inI wrap64; omega
theorem bits_in (o : BinOp) (a b : Int) : inI (bits o .i64 a b) := by
  have hw : ∀ n, inI (IntKind.i64.wrap n) := fun n => by rw [IntKind.wrap_i64]; unfold inI; omega
  unfold bits
  exact hw _
theorem truth_in (c : Bool) : inI (truthS c) := by unfold inI truthS; split <;> omega
theorem two_in (op a b : Int) (h0 : op = 12 ∨ op = 13 → b ≠ 0) (hop : op = 9 ∨ op = 10 ∨ op = 11 ∨ op = 12 ∨ op = 13 ∨ op = 14 ∨ op = 15 ∨ op = 16 ∨ op = 19 ∨ op = 20) (ha : inI a) (hb : inI b) : inI (twoS op a b) := by
  have hd := fun h0 h1 => div_facts a b h0 h1 ha hb
  have habs : b ≠ 0 → (a.tmod b).natAbs < b.natAbs := fun h => by
    rw [Int.natAbs_tmod]
    exact Nat.mod_lt _ (by omega)
  unfold inI at ha hb
  unfold twoS
  rcases hop with rfl | rfl | rfl | rfl | rfl | rfl | rfl | rfl | rfl | rfl
  all_goals simp only [Int.reduceEq, reduceIte]
  · exact wrap64_in _
  · exact wrap64_in _
  · exact wrap64_in _
  · have h1 := h0 (Or.inl rfl)
    unfold divS
    split
    · exact wrap64_in _
    · have h2 := hd h1 (by assumption)
      unfold inI
      split <;> omega
  · have h1 := h0 (Or.inr rfl)
    unfold modS
    split
    · unfold inI; omega
    · have h2 := hd h1 (by assumption)
      have h3 := habs h1
      unfold inI
      split <;> omega
  · exact bits_in _ _ _
  · exact bits_in _ _ _
  · exact bits_in _ _ _
  · exact truth_in _
  · exact truth_in _

set_option maxRecDepth 100000 in
set_option maxHeartbeats 1000000 in
theorem do_add (B b : Nat) (m : MS) (arg : Int) (l : List Int) (x y : Int) (w : World) (h : McE B w b m) (harg : inI arg) (he : m.stack = l ++ [x, y]) :
    Calls Tryz.prog 62 #[.pointer (some ⟨b, 0, none⟩), .int .i64 9, .int .i64 arg] w fun e w' => e = .returned (.tuple #[]) ∧ McE B w' b { m with stack := l ++ [twoS 9 x y] } ∧ Below B w w' := by
  have _ := harg
  have HP := hide (mpop_any B b m w h (l ++ [x]) y (by rw [he]; simp))
  have hxi : inI x := h.ints.1 x (by rw [he]; simp)
  have hyi : inI y := h.ints.1 y (by rw [he]; simp)
  have hn : m.stack.length = l.length + 2 := by rw [he]; simp
  have hs : l.length < 1000 := by have := h.small; omega
  have hti : inI (twoS 9 x y) := two_in 9 x y (by omega) (by omega) hxi hyi
  have HT : Hid (∀ w2, Calls Tryz.prog 77 #[.int .i64 9, .int .i64 x, .int .i64 y] w2 fun e w' => e = .returned (.int .i64 (twoS 9 x y)) ∧ w' = w2) := fun w2 => two_any 9 x y w2 (by omega) (by omega) hxi hyi
  generalize twoS 9 x y = z at hti HT ⊢
  go_enter Tryz.func62, Tryz.ntmps62
  go_wp2_with fail
  refine (unhide HP).mono ?_
  rintro e w1 ⟨rfl, h1, hb1⟩
  clear HP
  have HP := hide (mpop_any B b _ w1 h1 l x rfl)
  go_wp2_with fail
  refine (unhide HP).mono ?_
  rintro e w2 ⟨rfl, h2, hb2⟩
  clear HP h1
  have hb3 := hb1.trans hb2
  clear hb1 hb2
  have HP := hide (mpush_any B b _ z w2 h2 hti hs)
  go_wp2_with fail
  refine (unhide HT w2).mono ?_
  rintro e w3 ⟨rfl, hw⟩
  obtain rfl := hw.symm
  clear hw
  go_wp2_with fail
  refine (unhide HP).mono ?_
  rintro e w4 ⟨rfl, h4, hb4⟩
  go_wp2_with fail
  go_end0
  exact ⟨rfl, h4, hb3.trans hb4⟩

set_option maxRecDepth 100000 in
set_option maxHeartbeats 1000000 in
theorem do_sub (B b : Nat) (m : MS) (arg : Int) (l : List Int) (x y : Int) (w : World) (h : McE B w b m) (harg : inI arg) (he : m.stack = l ++ [x, y]) :
    Calls Tryz.prog 62 #[.pointer (some ⟨b, 0, none⟩), .int .i64 10, .int .i64 arg] w fun e w' => e = .returned (.tuple #[]) ∧ McE B w' b { m with stack := l ++ [twoS 10 x y] } ∧ Below B w w' := by
  have _ := harg
  have HP := hide (mpop_any B b m w h (l ++ [x]) y (by rw [he]; simp))
  have hxi : inI x := h.ints.1 x (by rw [he]; simp)
  have hyi : inI y := h.ints.1 y (by rw [he]; simp)
  have hn : m.stack.length = l.length + 2 := by rw [he]; simp
  have hs : l.length < 1000 := by have := h.small; omega
  have hti : inI (twoS 10 x y) := two_in 10 x y (by omega) (by omega) hxi hyi
  have HT : Hid (∀ w2, Calls Tryz.prog 77 #[.int .i64 10, .int .i64 x, .int .i64 y] w2 fun e w' => e = .returned (.int .i64 (twoS 10 x y)) ∧ w' = w2) := fun w2 => two_any 10 x y w2 (by omega) (by omega) hxi hyi
  generalize twoS 10 x y = z at hti HT ⊢
  go_enter Tryz.func62, Tryz.ntmps62
  go_wp2_with fail
  refine (unhide HP).mono ?_
  rintro e w1 ⟨rfl, h1, hb1⟩
  clear HP
  have HP := hide (mpop_any B b _ w1 h1 l x rfl)
  go_wp2_with fail
  refine (unhide HP).mono ?_
  rintro e w2 ⟨rfl, h2, hb2⟩
  clear HP h1
  have hb3 := hb1.trans hb2
  clear hb1 hb2
  have HP := hide (mpush_any B b _ z w2 h2 hti hs)
  go_wp2_with fail
  refine (unhide HT w2).mono ?_
  rintro e w3 ⟨rfl, hw⟩
  obtain rfl := hw.symm
  clear hw
  go_wp2_with fail
  refine (unhide HP).mono ?_
  rintro e w4 ⟨rfl, h4, hb4⟩
  go_wp2_with fail
  go_end0
  exact ⟨rfl, h4, hb3.trans hb4⟩

set_option maxRecDepth 100000 in
set_option maxHeartbeats 1000000 in
theorem do_mul (B b : Nat) (m : MS) (arg : Int) (l : List Int) (x y : Int) (w : World) (h : McE B w b m) (harg : inI arg) (he : m.stack = l ++ [x, y]) :
    Calls Tryz.prog 62 #[.pointer (some ⟨b, 0, none⟩), .int .i64 11, .int .i64 arg] w fun e w' => e = .returned (.tuple #[]) ∧ McE B w' b { m with stack := l ++ [twoS 11 x y] } ∧ Below B w w' := by
  have _ := harg
  have HP := hide (mpop_any B b m w h (l ++ [x]) y (by rw [he]; simp))
  have hxi : inI x := h.ints.1 x (by rw [he]; simp)
  have hyi : inI y := h.ints.1 y (by rw [he]; simp)
  have hn : m.stack.length = l.length + 2 := by rw [he]; simp
  have hs : l.length < 1000 := by have := h.small; omega
  have hti : inI (twoS 11 x y) := two_in 11 x y (by omega) (by omega) hxi hyi
  have HT : Hid (∀ w2, Calls Tryz.prog 77 #[.int .i64 11, .int .i64 x, .int .i64 y] w2 fun e w' => e = .returned (.int .i64 (twoS 11 x y)) ∧ w' = w2) := fun w2 => two_any 11 x y w2 (by omega) (by omega) hxi hyi
  generalize twoS 11 x y = z at hti HT ⊢
  go_enter Tryz.func62, Tryz.ntmps62
  go_wp2_with fail
  refine (unhide HP).mono ?_
  rintro e w1 ⟨rfl, h1, hb1⟩
  clear HP
  have HP := hide (mpop_any B b _ w1 h1 l x rfl)
  go_wp2_with fail
  refine (unhide HP).mono ?_
  rintro e w2 ⟨rfl, h2, hb2⟩
  clear HP h1
  have hb3 := hb1.trans hb2
  clear hb1 hb2
  have HP := hide (mpush_any B b _ z w2 h2 hti hs)
  go_wp2_with fail
  refine (unhide HT w2).mono ?_
  rintro e w3 ⟨rfl, hw⟩
  obtain rfl := hw.symm
  clear hw
  go_wp2_with fail
  refine (unhide HP).mono ?_
  rintro e w4 ⟨rfl, h4, hb4⟩
  go_wp2_with fail
  go_end0
  exact ⟨rfl, h4, hb3.trans hb4⟩

set_option maxRecDepth 100000 in
set_option maxHeartbeats 1000000 in
theorem do_div (B b : Nat) (m : MS) (arg : Int) (l : List Int) (x y : Int) (w : World) (h : McE B w b m) (harg : inI arg) (he : m.stack = l ++ [x, y]) (hy0 : y ≠ 0) :
    Calls Tryz.prog 62 #[.pointer (some ⟨b, 0, none⟩), .int .i64 12, .int .i64 arg] w fun e w' => e = .returned (.tuple #[]) ∧ McE B w' b { m with stack := l ++ [twoS 12 x y] } ∧ Below B w w' := by
  have _ := harg
  have HP := hide (mpop_any B b m w h (l ++ [x]) y (by rw [he]; simp))
  have hxi : inI x := h.ints.1 x (by rw [he]; simp)
  have hyi : inI y := h.ints.1 y (by rw [he]; simp)
  have hn : m.stack.length = l.length + 2 := by rw [he]; simp
  have hs : l.length < 1000 := by have := h.small; omega
  have hti : inI (twoS 12 x y) := two_in 12 x y (by intro _; exact hy0) (by omega) hxi hyi
  have HT : Hid (∀ w2, Calls Tryz.prog 77 #[.int .i64 12, .int .i64 x, .int .i64 y] w2 fun e w' => e = .returned (.int .i64 (twoS 12 x y)) ∧ w' = w2) := fun w2 => two_any 12 x y w2 (by omega) (by intro _; exact hy0) hxi hyi
  generalize twoS 12 x y = z at hti HT ⊢
  go_enter Tryz.func62, Tryz.ntmps62
  go_wp2_with fail
  refine (unhide HP).mono ?_
  rintro e w1 ⟨rfl, h1, hb1⟩
  clear HP
  have HP := hide (mpop_any B b _ w1 h1 l x rfl)
  go_wp2_with fail
  refine (unhide HP).mono ?_
  rintro e w2 ⟨rfl, h2, hb2⟩
  clear HP h1
  have hb3 := hb1.trans hb2
  clear hb1 hb2
  have HP := hide (mpush_any B b _ z w2 h2 hti hs)
  go_wp2_with fail
  refine (unhide HT w2).mono ?_
  rintro e w3 ⟨rfl, hw⟩
  obtain rfl := hw.symm
  clear hw
  go_wp2_with fail
  refine (unhide HP).mono ?_
  rintro e w4 ⟨rfl, h4, hb4⟩
  go_wp2_with fail
  go_end0
  exact ⟨rfl, h4, hb3.trans hb4⟩

set_option maxRecDepth 100000 in
set_option maxHeartbeats 1000000 in
theorem do_mod (B b : Nat) (m : MS) (arg : Int) (l : List Int) (x y : Int) (w : World) (h : McE B w b m) (harg : inI arg) (he : m.stack = l ++ [x, y]) (hy0 : y ≠ 0) :
    Calls Tryz.prog 62 #[.pointer (some ⟨b, 0, none⟩), .int .i64 13, .int .i64 arg] w fun e w' => e = .returned (.tuple #[]) ∧ McE B w' b { m with stack := l ++ [twoS 13 x y] } ∧ Below B w w' := by
  have _ := harg
  have HP := hide (mpop_any B b m w h (l ++ [x]) y (by rw [he]; simp))
  have hxi : inI x := h.ints.1 x (by rw [he]; simp)
  have hyi : inI y := h.ints.1 y (by rw [he]; simp)
  have hn : m.stack.length = l.length + 2 := by rw [he]; simp
  have hs : l.length < 1000 := by have := h.small; omega
  have hti : inI (twoS 13 x y) := two_in 13 x y (by intro _; exact hy0) (by omega) hxi hyi
  have HT : Hid (∀ w2, Calls Tryz.prog 77 #[.int .i64 13, .int .i64 x, .int .i64 y] w2 fun e w' => e = .returned (.int .i64 (twoS 13 x y)) ∧ w' = w2) := fun w2 => two_any 13 x y w2 (by omega) (by intro _; exact hy0) hxi hyi
  generalize twoS 13 x y = z at hti HT ⊢
  go_enter Tryz.func62, Tryz.ntmps62
  go_wp2_with fail
  refine (unhide HP).mono ?_
  rintro e w1 ⟨rfl, h1, hb1⟩
  clear HP
  have HP := hide (mpop_any B b _ w1 h1 l x rfl)
  go_wp2_with fail
  refine (unhide HP).mono ?_
  rintro e w2 ⟨rfl, h2, hb2⟩
  clear HP h1
  have hb3 := hb1.trans hb2
  clear hb1 hb2
  have HP := hide (mpush_any B b _ z w2 h2 hti hs)
  go_wp2_with fail
  refine (unhide HT w2).mono ?_
  rintro e w3 ⟨rfl, hw⟩
  obtain rfl := hw.symm
  clear hw
  go_wp2_with fail
  refine (unhide HP).mono ?_
  rintro e w4 ⟨rfl, h4, hb4⟩
  go_wp2_with fail
  go_end0
  exact ⟨rfl, h4, hb3.trans hb4⟩

set_option maxRecDepth 100000 in
set_option maxHeartbeats 1000000 in
theorem do_and (B b : Nat) (m : MS) (arg : Int) (l : List Int) (x y : Int) (w : World) (h : McE B w b m) (harg : inI arg) (he : m.stack = l ++ [x, y]) :
    Calls Tryz.prog 62 #[.pointer (some ⟨b, 0, none⟩), .int .i64 14, .int .i64 arg] w fun e w' => e = .returned (.tuple #[]) ∧ McE B w' b { m with stack := l ++ [twoS 14 x y] } ∧ Below B w w' := by
  have _ := harg
  have HP := hide (mpop_any B b m w h (l ++ [x]) y (by rw [he]; simp))
  have hxi : inI x := h.ints.1 x (by rw [he]; simp)
  have hyi : inI y := h.ints.1 y (by rw [he]; simp)
  have hn : m.stack.length = l.length + 2 := by rw [he]; simp
  have hs : l.length < 1000 := by have := h.small; omega
  have hti : inI (twoS 14 x y) := two_in 14 x y (by omega) (by omega) hxi hyi
  have HT : Hid (∀ w2, Calls Tryz.prog 77 #[.int .i64 14, .int .i64 x, .int .i64 y] w2 fun e w' => e = .returned (.int .i64 (twoS 14 x y)) ∧ w' = w2) := fun w2 => two_any 14 x y w2 (by omega) (by omega) hxi hyi
  generalize twoS 14 x y = z at hti HT ⊢
  go_enter Tryz.func62, Tryz.ntmps62
  go_wp2_with fail
  refine (unhide HP).mono ?_
  rintro e w1 ⟨rfl, h1, hb1⟩
  clear HP
  have HP := hide (mpop_any B b _ w1 h1 l x rfl)
  go_wp2_with fail
  refine (unhide HP).mono ?_
  rintro e w2 ⟨rfl, h2, hb2⟩
  clear HP h1
  have hb3 := hb1.trans hb2
  clear hb1 hb2
  have HP := hide (mpush_any B b _ z w2 h2 hti hs)
  go_wp2_with fail
  refine (unhide HT w2).mono ?_
  rintro e w3 ⟨rfl, hw⟩
  obtain rfl := hw.symm
  clear hw
  go_wp2_with fail
  refine (unhide HP).mono ?_
  rintro e w4 ⟨rfl, h4, hb4⟩
  go_wp2_with fail
  go_end0
  exact ⟨rfl, h4, hb3.trans hb4⟩

set_option maxRecDepth 100000 in
set_option maxHeartbeats 1000000 in
theorem do_or (B b : Nat) (m : MS) (arg : Int) (l : List Int) (x y : Int) (w : World) (h : McE B w b m) (harg : inI arg) (he : m.stack = l ++ [x, y]) :
    Calls Tryz.prog 62 #[.pointer (some ⟨b, 0, none⟩), .int .i64 15, .int .i64 arg] w fun e w' => e = .returned (.tuple #[]) ∧ McE B w' b { m with stack := l ++ [twoS 15 x y] } ∧ Below B w w' := by
  have _ := harg
  have HP := hide (mpop_any B b m w h (l ++ [x]) y (by rw [he]; simp))
  have hxi : inI x := h.ints.1 x (by rw [he]; simp)
  have hyi : inI y := h.ints.1 y (by rw [he]; simp)
  have hn : m.stack.length = l.length + 2 := by rw [he]; simp
  have hs : l.length < 1000 := by have := h.small; omega
  have hti : inI (twoS 15 x y) := two_in 15 x y (by omega) (by omega) hxi hyi
  have HT : Hid (∀ w2, Calls Tryz.prog 77 #[.int .i64 15, .int .i64 x, .int .i64 y] w2 fun e w' => e = .returned (.int .i64 (twoS 15 x y)) ∧ w' = w2) := fun w2 => two_any 15 x y w2 (by omega) (by omega) hxi hyi
  generalize twoS 15 x y = z at hti HT ⊢
  go_enter Tryz.func62, Tryz.ntmps62
  go_wp2_with fail
  refine (unhide HP).mono ?_
  rintro e w1 ⟨rfl, h1, hb1⟩
  clear HP
  have HP := hide (mpop_any B b _ w1 h1 l x rfl)
  go_wp2_with fail
  refine (unhide HP).mono ?_
  rintro e w2 ⟨rfl, h2, hb2⟩
  clear HP h1
  have hb3 := hb1.trans hb2
  clear hb1 hb2
  have HP := hide (mpush_any B b _ z w2 h2 hti hs)
  go_wp2_with fail
  refine (unhide HT w2).mono ?_
  rintro e w3 ⟨rfl, hw⟩
  obtain rfl := hw.symm
  clear hw
  go_wp2_with fail
  refine (unhide HP).mono ?_
  rintro e w4 ⟨rfl, h4, hb4⟩
  go_wp2_with fail
  go_end0
  exact ⟨rfl, h4, hb3.trans hb4⟩

set_option maxRecDepth 100000 in
set_option maxHeartbeats 1000000 in
theorem do_xor (B b : Nat) (m : MS) (arg : Int) (l : List Int) (x y : Int) (w : World) (h : McE B w b m) (harg : inI arg) (he : m.stack = l ++ [x, y]) :
    Calls Tryz.prog 62 #[.pointer (some ⟨b, 0, none⟩), .int .i64 16, .int .i64 arg] w fun e w' => e = .returned (.tuple #[]) ∧ McE B w' b { m with stack := l ++ [twoS 16 x y] } ∧ Below B w w' := by
  have _ := harg
  have HP := hide (mpop_any B b m w h (l ++ [x]) y (by rw [he]; simp))
  have hxi : inI x := h.ints.1 x (by rw [he]; simp)
  have hyi : inI y := h.ints.1 y (by rw [he]; simp)
  have hn : m.stack.length = l.length + 2 := by rw [he]; simp
  have hs : l.length < 1000 := by have := h.small; omega
  have hti : inI (twoS 16 x y) := two_in 16 x y (by omega) (by omega) hxi hyi
  have HT : Hid (∀ w2, Calls Tryz.prog 77 #[.int .i64 16, .int .i64 x, .int .i64 y] w2 fun e w' => e = .returned (.int .i64 (twoS 16 x y)) ∧ w' = w2) := fun w2 => two_any 16 x y w2 (by omega) (by omega) hxi hyi
  generalize twoS 16 x y = z at hti HT ⊢
  go_enter Tryz.func62, Tryz.ntmps62
  go_wp2_with fail
  refine (unhide HP).mono ?_
  rintro e w1 ⟨rfl, h1, hb1⟩
  clear HP
  have HP := hide (mpop_any B b _ w1 h1 l x rfl)
  go_wp2_with fail
  refine (unhide HP).mono ?_
  rintro e w2 ⟨rfl, h2, hb2⟩
  clear HP h1
  have hb3 := hb1.trans hb2
  clear hb1 hb2
  have HP := hide (mpush_any B b _ z w2 h2 hti hs)
  go_wp2_with fail
  refine (unhide HT w2).mono ?_
  rintro e w3 ⟨rfl, hw⟩
  obtain rfl := hw.symm
  clear hw
  go_wp2_with fail
  refine (unhide HP).mono ?_
  rintro e w4 ⟨rfl, h4, hb4⟩
  go_wp2_with fail
  go_end0
  exact ⟨rfl, h4, hb3.trans hb4⟩

set_option maxRecDepth 100000 in
set_option maxHeartbeats 1000000 in
theorem do_equal (B b : Nat) (m : MS) (arg : Int) (l : List Int) (x y : Int) (w : World) (h : McE B w b m) (harg : inI arg) (he : m.stack = l ++ [x, y]) :
    Calls Tryz.prog 62 #[.pointer (some ⟨b, 0, none⟩), .int .i64 19, .int .i64 arg] w fun e w' => e = .returned (.tuple #[]) ∧ McE B w' b { m with stack := l ++ [twoS 19 x y] } ∧ Below B w w' := by
  have _ := harg
  have HP := hide (mpop_any B b m w h (l ++ [x]) y (by rw [he]; simp))
  have hxi : inI x := h.ints.1 x (by rw [he]; simp)
  have hyi : inI y := h.ints.1 y (by rw [he]; simp)
  have hn : m.stack.length = l.length + 2 := by rw [he]; simp
  have hs : l.length < 1000 := by have := h.small; omega
  have hti : inI (twoS 19 x y) := two_in 19 x y (by omega) (by omega) hxi hyi
  have HT : Hid (∀ w2, Calls Tryz.prog 77 #[.int .i64 19, .int .i64 x, .int .i64 y] w2 fun e w' => e = .returned (.int .i64 (twoS 19 x y)) ∧ w' = w2) := fun w2 => two_any 19 x y w2 (by omega) (by omega) hxi hyi
  generalize twoS 19 x y = z at hti HT ⊢
  go_enter Tryz.func62, Tryz.ntmps62
  go_wp2_with fail
  refine (unhide HP).mono ?_
  rintro e w1 ⟨rfl, h1, hb1⟩
  clear HP
  have HP := hide (mpop_any B b _ w1 h1 l x rfl)
  go_wp2_with fail
  refine (unhide HP).mono ?_
  rintro e w2 ⟨rfl, h2, hb2⟩
  clear HP h1
  have hb3 := hb1.trans hb2
  clear hb1 hb2
  have HP := hide (mpush_any B b _ z w2 h2 hti hs)
  go_wp2_with fail
  refine (unhide HT w2).mono ?_
  rintro e w3 ⟨rfl, hw⟩
  obtain rfl := hw.symm
  clear hw
  go_wp2_with fail
  refine (unhide HP).mono ?_
  rintro e w4 ⟨rfl, h4, hb4⟩
  go_wp2_with fail
  go_end0
  exact ⟨rfl, h4, hb3.trans hb4⟩

set_option maxRecDepth 100000 in
set_option maxHeartbeats 1000000 in
theorem do_less (B b : Nat) (m : MS) (arg : Int) (l : List Int) (x y : Int) (w : World) (h : McE B w b m) (harg : inI arg) (he : m.stack = l ++ [x, y]) :
    Calls Tryz.prog 62 #[.pointer (some ⟨b, 0, none⟩), .int .i64 20, .int .i64 arg] w fun e w' => e = .returned (.tuple #[]) ∧ McE B w' b { m with stack := l ++ [twoS 20 x y] } ∧ Below B w w' := by
  have _ := harg
  have HP := hide (mpop_any B b m w h (l ++ [x]) y (by rw [he]; simp))
  have hxi : inI x := h.ints.1 x (by rw [he]; simp)
  have hyi : inI y := h.ints.1 y (by rw [he]; simp)
  have hn : m.stack.length = l.length + 2 := by rw [he]; simp
  have hs : l.length < 1000 := by have := h.small; omega
  have hti : inI (twoS 20 x y) := two_in 20 x y (by omega) (by omega) hxi hyi
  have HT : Hid (∀ w2, Calls Tryz.prog 77 #[.int .i64 20, .int .i64 x, .int .i64 y] w2 fun e w' => e = .returned (.int .i64 (twoS 20 x y)) ∧ w' = w2) := fun w2 => two_any 20 x y w2 (by omega) (by omega) hxi hyi
  generalize twoS 20 x y = z at hti HT ⊢
  go_enter Tryz.func62, Tryz.ntmps62
  go_wp2_with fail
  refine (unhide HP).mono ?_
  rintro e w1 ⟨rfl, h1, hb1⟩
  clear HP
  have HP := hide (mpop_any B b _ w1 h1 l x rfl)
  go_wp2_with fail
  refine (unhide HP).mono ?_
  rintro e w2 ⟨rfl, h2, hb2⟩
  clear HP h1
  have hb3 := hb1.trans hb2
  clear hb1 hb2
  have HP := hide (mpush_any B b _ z w2 h2 hti hs)
  go_wp2_with fail
  refine (unhide HT w2).mono ?_
  rintro e w3 ⟨rfl, hw⟩
  obtain rfl := hw.symm
  clear hw
  go_wp2_with fail
  refine (unhide HP).mono ?_
  rintro e w4 ⟨rfl, h4, hb4⟩
  go_wp2_with fail
  go_end0
  exact ⟨rfl, h4, hb3.trans hb4⟩

end Go.Proofs.YtbcjfiaacenhgaaGreatDoor

