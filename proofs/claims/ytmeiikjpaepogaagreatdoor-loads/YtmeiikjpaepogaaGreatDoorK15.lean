/- The reference's Machine: do, the operators of two. -/
import Derived.Test.YtmeiikjpaepogaaGreatDoorK08
namespace Go.Proofs.YtmeiikjpaepogaaGreatDoor
open Go Go.RowKit

theorem wrap64_in (x : Int) : inI (wrap64 x) := by unfold inI wrap64; omega
theorem bits_in (o : BinOp) (a b : Int) : inI (bits o .i64 a b) := by
  have hw : ∀ n, inI (IntKind.i64.wrap n) := fun n => by rw [IntKind.wrap_i64]; unfold inI; omega
  unfold bits
  exact hw _
theorem truth_in (c : Bool) : inI (truthS c) := by unfold inI truthS; split <;> omega
theorem two_in (op a b : Int) (h0 : op = 12 ∨ op = 13 → b ≠ 0) (hop : op = 9 ∨ op = 10 ∨ op = 11 ∨ op = 12 ∨ op = 13 ∨ op = 14 ∨ op = 15 ∨ op = 16 ∨ op = 19 ∨ op = 20) (ha : inI a) (hb : inI b) : inI (twoS op a b) := by
  have hd := fun h0 h1 => div_facts a b h0 h1 ha hb
  have habs : b ≠ 0 → (a.tmod b).natAbs < b.natAbs := fun h => by
    rw [Int.natAbs_tmod]
    exact Nat.mod_lt _ (by omega)
  unfold inI at ha hb
  unfold twoS
  rcases hop with rfl | rfl | rfl | rfl | rfl | rfl | rfl | rfl | rfl | rfl
  all_goals simp only [Int.reduceEq, reduceIte]
  · exact wrap64_in _
  · exact wrap64_in _
  · exact wrap64_in _
  · have h1 := h0 (Or.inl rfl)
    unfold divS
    split
    · exact wrap64_in _
    · have h2 := hd h1 (by assumption)
      unfold inI
      split <;> omega
  · have h1 := h0 (Or.inr rfl)
    unfold modS
    split
    · unfold inI; omega
    · have h2 := hd h1 (by assumption)
      have h3 := habs h1
      unfold inI
      split <;> omega
  · exact bits_in _ _ _
  · exact bits_in _ _ _
  · exact bits_in _ _ _
  · exact truth_in _
  · exact truth_in _

set_option maxRecDepth 100000 in
set_option maxHeartbeats 1000000 in
theorem do_add (B b : Nat) (m : MS) (arg : Int) (l : List Int) (x y : Int) (w : World) (h : McE B w b m) (harg : inI arg) (he : m.stack = l ++ [x, y]) :
    Calls Tryz.prog 184 #[.pointer (some ⟨b, 0, none⟩), .int .i64 9, .int .i64 arg] w fun e w' => e = .returned (.tuple #[]) ∧ McE B w' b { m with stack := l ++ [twoS 9 x y] } ∧ Below B w w' := by
  have _ := harg
  have HP := V (mpop_any B b m w h (l ++ [x]) y (by rw [he]; simp))
  have hxi : inI x := h.ints.1 x (by rw [he]; simp)
  have hyi : inI y := h.ints.1 y (by rw [he]; simp)
  have hn : m.stack.length = l.length + 2 := by rw [he]; simp
  have hs : l.length < 1000 := by have := h.small; omega
  have hti : inI (twoS 9 x y) := two_in 9 x y (by omega) (by omega) hxi hyi
  have HT : Hid (∀ w2, Calls Tryz.prog 214 #[.int .i64 9, .int .i64 x, .int .i64 y] w2 fun e w' => e = .returned (.int .i64 (twoS 9 x y)) ∧ w' = w2) := fun w2 => two_any 9 x y w2 (by omega) (by omega) hxi hyi
  generalize twoS 9 x y = z at hti HT ⊢
  go_enter Tryz.func184, Tryz.ntmps184
  go_wp2_with fail
  refine (U HP).mono ?_
  rintro e w1 ⟨rfl, h1, hb1⟩
  clear HP
  have HP := V (mpop_any B b _ w1 h1 l x rfl)
  go_wp2_with fail
  refine (U HP).mono ?_
  rintro e w2 ⟨rfl, h2, hb2⟩
  clear HP h1
  have hb3 := hb1.trans hb2
  clear hb1 hb2
  have HP := V (mpush_any B b _ z w2 h2 hti hs)
  go_wp2_with fail
  refine (U HT w2).mono ?_
  rintro e w3 ⟨rfl, hw⟩
  obtain rfl := hw.symm
  clear hw
  go_wp2_with fail
  refine (U HP).mono ?_
  rintro e w4 ⟨rfl, h4, hb4⟩
  go_wp2_with fail
  go_end0
  exact ⟨rfl, h4, hb3.trans hb4⟩

set_option maxRecDepth 100000 in
set_option maxHeartbeats 1000000 in
theorem do_sub (B b : Nat) (m : MS) (arg : Int) (l : List Int) (x y : Int) (w : World) (h : McE B w b m) (harg : inI arg) (he : m.stack = l ++ [x, y]) :
    Calls Tryz.prog 184 #[.pointer (some ⟨b, 0, none⟩), .int .i64 10, .int .i64 arg] w fun e w' => e = .returned (.tuple #[]) ∧ McE B w' b { m with stack := l ++ [twoS 10 x y] } ∧ Below B w w' := by
  have _ := harg
  have HP := V (mpop_any B b m w h (l ++ [x]) y (by rw [he]; simp))
  have hxi : inI x := h.ints.1 x (by rw [he]; simp)
  have hyi : inI y := h.ints.1 y (by rw [he]; simp)
  have hn : m.stack.length = l.length + 2 := by rw [he]; simp
  have hs : l.length < 1000 := by have := h.small; omega
  have hti : inI (twoS 10 x y) := two_in 10 x y (by omega) (by omega) hxi hyi
  have HT : Hid (∀ w2, Calls Tryz.prog 214 #[.int .i64 10, .int .i64 x, .int .i64 y] w2 fun e w' => e = .returned (.int .i64 (twoS 10 x y)) ∧ w' = w2) := fun w2 => two_any 10 x y w2 (by omega) (by omega) hxi hyi
  generalize twoS 10 x y = z at hti HT ⊢
  go_enter Tryz.func184, Tryz.ntmps184
  go_wp2_with fail
  refine (U HP).mono ?_
  rintro e w1 ⟨rfl, h1, hb1⟩
  clear HP
  have HP := V (mpop_any B b _ w1 h1 l x rfl)
  go_wp2_with fail
  refine (U HP).mono ?_
  rintro e w2 ⟨rfl, h2, hb2⟩
  clear HP h1
  have hb3 := hb1.trans hb2
  clear hb1 hb2
  have HP := V (mpush_any B b _ z w2 h2 hti hs)
  go_wp2_with fail
  refine (U HT w2).mono ?_
  rintro e w3 ⟨rfl, hw⟩
  obtain rfl := hw.symm
  clear hw
  go_wp2_with fail
  refine (U HP).mono ?_
  rintro e w4 ⟨rfl, h4, hb4⟩
  go_wp2_with fail
  go_end0
  exact ⟨rfl, h4, hb3.trans hb4⟩

set_option maxRecDepth 100000 in
set_option maxHeartbeats 1000000 in
theorem do_mul (B b : Nat) (m : MS) (arg : Int) (l : List Int) (x y : Int) (w : World) (h : McE B w b m) (harg : inI arg) (he : m.stack = l ++ [x, y]) :
    Calls Tryz.prog 184 #[.pointer (some ⟨b, 0, none⟩), .int .i64 11, .int .i64 arg] w fun e w' => e = .returned (.tuple #[]) ∧ McE B w' b { m with stack := l ++ [twoS 11 x y] } ∧ Below B w w' := by
  have _ := harg
  have HP := V (mpop_any B b m w h (l ++ [x]) y (by rw [he]; simp))
  have hxi : inI x := h.ints.1 x (by rw [he]; simp)
  have hyi : inI y := h.ints.1 y (by rw [he]; simp)
  have hn : m.stack.length = l.length + 2 := by rw [he]; simp
  have hs : l.length < 1000 := by have := h.small; omega
  have hti : inI (twoS 11 x y) := two_in 11 x y (by omega) (by omega) hxi hyi
  have HT : Hid (∀ w2, Calls Tryz.prog 214 #[.int .i64 11, .int .i64 x, .int .i64 y] w2 fun e w' => e = .returned (.int .i64 (twoS 11 x y)) ∧ w' = w2) := fun w2 => two_any 11 x y w2 (by omega) (by omega) hxi hyi
  generalize twoS 11 x y = z at hti HT ⊢
  go_enter Tryz.func184, Tryz.ntmps184
  go_wp2_with fail
  refine (U HP).mono ?_
  rintro e w1 ⟨rfl, h1, hb1⟩
  clear HP
  have HP := V (mpop_any B b _ w1 h1 l x rfl)
  go_wp2_with fail
  refine (U HP).mono ?_
  rintro e w2 ⟨rfl, h2, hb2⟩
  clear HP h1
  have hb3 := hb1.trans hb2
  clear hb1 hb2
  have HP := V (mpush_any B b _ z w2 h2 hti hs)
  go_wp2_with fail
  refine (U HT w2).mono ?_
  rintro e w3 ⟨rfl, hw⟩
  obtain rfl := hw.symm
  clear hw
  go_wp2_with fail
  refine (U HP).mono ?_
  rintro e w4 ⟨rfl, h4, hb4⟩
  go_wp2_with fail
  go_end0
  exact ⟨rfl, h4, hb3.trans hb4⟩

set_option maxRecDepth 100000 in
set_option maxHeartbeats 1000000 in
theorem do_div (B b : Nat) (m : MS) (arg : Int) (l : List Int) (x y : Int) (w : World) (h : McE B w b m) (harg : inI arg) (he : m.stack = l ++ [x, y]) (hy0 : y ≠ 0) :
    Calls Tryz.prog 184 #[.pointer (some ⟨b, 0, none⟩), .int .i64 12, .int .i64 arg] w fun e w' => e = .returned (.tuple #[]) ∧ McE B w' b { m with stack := l ++ [twoS 12 x y] } ∧ Below B w w' := by
  have _ := harg
  have HP := V (mpop_any B b m w h (l ++ [x]) y (by rw [he]; simp))
  have hxi : inI x := h.ints.1 x (by rw [he]; simp)
  have hyi : inI y := h.ints.1 y (by rw [he]; simp)
  have hn : m.stack.length = l.length + 2 := by rw [he]; simp
  have hs : l.length < 1000 := by have := h.small; omega
  have hti : inI (twoS 12 x y) := two_in 12 x y (by intro _; exact hy0) (by omega) hxi hyi
  have HT : Hid (∀ w2, Calls Tryz.prog 214 #[.int .i64 12, .int .i64 x, .int .i64 y] w2 fun e w' => e = .returned (.int .i64 (twoS 12 x y)) ∧ w' = w2) := fun w2 => two_any 12 x y w2 (by omega) (by intro _; exact hy0) hxi hyi
  generalize twoS 12 x y = z at hti HT ⊢
  go_enter Tryz.func184, Tryz.ntmps184
  go_wp2_with fail
  refine (U HP).mono ?_
  rintro e w1 ⟨rfl, h1, hb1⟩
  clear HP
  have HP := V (mpop_any B b _ w1 h1 l x rfl)
  go_wp2_with fail
  refine (U HP).mono ?_
  rintro e w2 ⟨rfl, h2, hb2⟩
  clear HP h1
  have hb3 := hb1.trans hb2
  clear hb1 hb2
  have HP := V (mpush_any B b _ z w2 h2 hti hs)
  go_wp2_with fail
  refine (U HT w2).mono ?_
  rintro e w3 ⟨rfl, hw⟩
  obtain rfl := hw.symm
  clear hw
  go_wp2_with fail
  refine (U HP).mono ?_
  rintro e w4 ⟨rfl, h4, hb4⟩
  go_wp2_with fail
  go_end0
  exact ⟨rfl, h4, hb3.trans hb4⟩

set_option maxRecDepth 100000 in
set_option maxHeartbeats 1000000 in
theorem do_mod (B b : Nat) (m : MS) (arg : Int) (l : List Int) (x y : Int) (w : World) (h : McE B w b m) (harg : inI arg) (he : m.stack = l ++ [x, y]) (hy0 : y ≠ 0) :
    Calls Tryz.prog 184 #[.pointer (some ⟨b, 0, none⟩), .int .i64 13, .int .i64 arg] w fun e w' => e = .returned (.tuple #[]) ∧ McE B w' b { m with stack := l ++ [twoS 13 x y] } ∧ Below B w w' := by
  have _ := harg
  have HP := V (mpop_any B b m w h (l ++ [x]) y (by rw [he]; simp))
  have hxi : inI x := h.ints.1 x (by rw [he]; simp)
  have hyi : inI y := h.ints.1 y (by rw [he]; simp)
  have hn : m.stack.length = l.length + 2 := by rw [he]; simp
  have hs : l.length < 1000 := by have := h.small; omega
  have hti : inI (twoS 13 x y) := two_in 13 x y (by intro _; exact hy0) (by omega) hxi hyi
  have HT : Hid (∀ w2, Calls Tryz.prog 214 #[.int .i64 13, .int .i64 x, .int .i64 y] w2 fun e w' => e = .returned (.int .i64 (twoS 13 x y)) ∧ w' = w2) := fun w2 => two_any 13 x y w2 (by omega) (by intro _; exact hy0) hxi hyi
  generalize twoS 13 x y = z at hti HT ⊢
  go_enter Tryz.func184, Tryz.ntmps184
  go_wp2_with fail
  refine (U HP).mono ?_
  rintro e w1 ⟨rfl, h1, hb1⟩
  clear HP
  have HP := V (mpop_any B b _ w1 h1 l x rfl)
  go_wp2_with fail
  refine (U HP).mono ?_
  rintro e w2 ⟨rfl, h2, hb2⟩
  clear HP h1
  have hb3 := hb1.trans hb2
  clear hb1 hb2
  have HP := V (mpush_any B b _ z w2 h2 hti hs)
  go_wp2_with fail
  refine (U HT w2).mono ?_
  rintro e w3 ⟨rfl, hw⟩
  obtain rfl := hw.symm
  clear hw
  go_wp2_with fail
  refine (U HP).mono ?_
  rintro e w4 ⟨rfl, h4, hb4⟩
  go_wp2_with fail
  go_end0
  exact ⟨rfl, h4, hb3.trans hb4⟩

set_option maxRecDepth 100000 in
set_option maxHeartbeats 1000000 in
theorem do_and (B b : Nat) (m : MS) (arg : Int) (l : List Int) (x y : Int) (w : World) (h : McE B w b m) (harg : inI arg) (he : m.stack = l ++ [x, y]) :
    Calls Tryz.prog 184 #[.pointer (some ⟨b, 0, none⟩), .int .i64 14, .int .i64 arg] w fun e w' => e = .returned (.tuple #[]) ∧ McE B w' b { m with stack := l ++ [twoS 14 x y] } ∧ Below B w w' := by
  have _ := harg
  have HP := V (mpop_any B b m w h (l ++ [x]) y (by rw [he]; simp))
  have hxi : inI x := h.ints.1 x (by rw [he]; simp)
  have hyi : inI y := h.ints.1 y (by rw [he]; simp)
  have hn : m.stack.length = l.length + 2 := by rw [he]; simp
  have hs : l.length < 1000 := by have := h.small; omega
  have hti : inI (twoS 14 x y) := two_in 14 x y (by omega) (by omega) hxi hyi
  have HT : Hid (∀ w2, Calls Tryz.prog 214 #[.int .i64 14, .int .i64 x, .int .i64 y] w2 fun e w' => e = .returned (.int .i64 (twoS 14 x y)) ∧ w' = w2) := fun w2 => two_any 14 x y w2 (by omega) (by omega) hxi hyi
  generalize twoS 14 x y = z at hti HT ⊢
  go_enter Tryz.func184, Tryz.ntmps184
  go_wp2_with fail
  refine (U HP).mono ?_
  rintro e w1 ⟨rfl, h1, hb1⟩
  clear HP
  have HP := V (mpop_any B b _ w1 h1 l x rfl)
  go_wp2_with fail
  refine (U HP).mono ?_
  rintro e w2 ⟨rfl, h2, hb2⟩
  clear HP h1
  have hb3 := hb1.trans hb2
  clear hb1 hb2
  have HP := V (mpush_any B b _ z w2 h2 hti hs)
  go_wp2_with fail
  refine (U HT w2).mono ?_
  rintro e w3 ⟨rfl, hw⟩
  obtain rfl := hw.symm
  clear hw
  go_wp2_with fail
  refine (U HP).mono ?_
  rintro e w4 ⟨rfl, h4, hb4⟩
  go_wp2_with fail
  go_end0
  exact ⟨rfl, h4, hb3.trans hb4⟩

set_option maxRecDepth 100000 in
set_option maxHeartbeats 1000000 in
theorem do_or (B b : Nat) (m : MS) (arg : Int) (l : List Int) (x y : Int) (w : World) (h : McE B w b m) (harg : inI arg) (he : m.stack = l ++ [x, y]) :
    Calls Tryz.prog 184 #[.pointer (some ⟨b, 0, none⟩), .int .i64 15, .int .i64 arg] w fun e w' => e = .returned (.tuple #[]) ∧ McE B w' b { m with stack := l ++ [twoS 15 x y] } ∧ Below B w w' := by
  have _ := harg
  have HP := V (mpop_any B b m w h (l ++ [x]) y (by rw [he]; simp))
  have hxi : inI x := h.ints.1 x (by rw [he]; simp)
  have hyi : inI y := h.ints.1 y (by rw [he]; simp)
  have hn : m.stack.length = l.length + 2 := by rw [he]; simp
  have hs : l.length < 1000 := by have := h.small; omega
  have hti : inI (twoS 15 x y) := two_in 15 x y (by omega) (by omega) hxi hyi
  have HT : Hid (∀ w2, Calls Tryz.prog 214 #[.int .i64 15, .int .i64 x, .int .i64 y] w2 fun e w' => e = .returned (.int .i64 (twoS 15 x y)) ∧ w' = w2) := fun w2 => two_any 15 x y w2 (by omega) (by omega) hxi hyi
  generalize twoS 15 x y = z at hti HT ⊢
  go_enter Tryz.func184, Tryz.ntmps184
  go_wp2_with fail
  refine (U HP).mono ?_
  rintro e w1 ⟨rfl, h1, hb1⟩
  clear HP
  have HP := V (mpop_any B b _ w1 h1 l x rfl)
  go_wp2_with fail
  refine (U HP).mono ?_
  rintro e w2 ⟨rfl, h2, hb2⟩
  clear HP h1
  have hb3 := hb1.trans hb2
  clear hb1 hb2
  have HP := V (mpush_any B b _ z w2 h2 hti hs)
  go_wp2_with fail
  refine (U HT w2).mono ?_
  rintro e w3 ⟨rfl, hw⟩
  obtain rfl := hw.symm
  clear hw
  go_wp2_with fail
  refine (U HP).mono ?_
  rintro e w4 ⟨rfl, h4, hb4⟩
  go_wp2_with fail
  go_end0
  exact ⟨rfl, h4, hb3.trans hb4⟩

set_option maxRecDepth 100000 in
set_option maxHeartbeats 1000000 in
theorem do_xor (B b : Nat) (m : MS) (arg : Int) (l : List Int) (x y : Int) (w : World) (h : McE B w b m) (harg : inI arg) (he : m.stack = l ++ [x, y]) :
    Calls Tryz.prog 184 #[.pointer (some ⟨b, 0, none⟩), .int .i64 16, .int .i64 arg] w fun e w' => e = .returned (.tuple #[]) ∧ McE B w' b { m with stack := l ++ [twoS 16 x y] } ∧ Below B w w' := by
  have _ := harg
  have HP := V (mpop_any B b m w h (l ++ [x]) y (by rw [he]; simp))
  have hxi : inI x := h.ints.1 x (by rw [he]; simp)
  have hyi : inI y := h.ints.1 y (by rw [he]; simp)
  have hn : m.stack.length = l.length + 2 := by rw [he]; simp
  have hs : l.length < 1000 := by have := h.small; omega
  have hti : inI (twoS 16 x y) := two_in 16 x y (by omega) (by omega) hxi hyi
  have HT : Hid (∀ w2, Calls Tryz.prog 214 #[.int .i64 16, .int .i64 x, .int .i64 y] w2 fun e w' => e = .returned (.int .i64 (twoS 16 x y)) ∧ w' = w2) := fun w2 => two_any 16 x y w2 (by omega) (by omega) hxi hyi
  generalize twoS 16 x y = z at hti HT ⊢
  go_enter Tryz.func184, Tryz.ntmps184
  go_wp2_with fail
  refine (U HP).mono ?_
  rintro e w1 ⟨rfl, h1, hb1⟩
  clear HP
  have HP := V (mpop_any B b _ w1 h1 l x rfl)
  go_wp2_with fail
  refine (U HP).mono ?_
  rintro e w2 ⟨rfl, h2, hb2⟩
  clear HP h1
  have hb3 := hb1.trans hb2
  clear hb1 hb2
  have HP := V (mpush_any B b _ z w2 h2 hti hs)
  go_wp2_with fail
  refine (U HT w2).mono ?_
  rintro e w3 ⟨rfl, hw⟩
  obtain rfl := hw.symm
  clear hw
  go_wp2_with fail
  refine (U HP).mono ?_
  rintro e w4 ⟨rfl, h4, hb4⟩
  go_wp2_with fail
  go_end0
  exact ⟨rfl, h4, hb3.trans hb4⟩

set_option maxRecDepth 100000 in
set_option maxHeartbeats 1000000 in
theorem do_equal (B b : Nat) (m : MS) (arg : Int) (l : List Int) (x y : Int) (w : World) (h : McE B w b m) (harg : inI arg) (he : m.stack = l ++ [x, y]) :
    Calls Tryz.prog 184 #[.pointer (some ⟨b, 0, none⟩), .int .i64 19, .int .i64 arg] w fun e w' => e = .returned (.tuple #[]) ∧ McE B w' b { m with stack := l ++ [twoS 19 x y] } ∧ Below B w w' := by
  have _ := harg
  have HP := V (mpop_any B b m w h (l ++ [x]) y (by rw [he]; simp))
  have hxi : inI x := h.ints.1 x (by rw [he]; simp)
  have hyi : inI y := h.ints.1 y (by rw [he]; simp)
  have hn : m.stack.length = l.length + 2 := by rw [he]; simp
  have hs : l.length < 1000 := by have := h.small; omega
  have hti : inI (twoS 19 x y) := two_in 19 x y (by omega) (by omega) hxi hyi
  have HT : Hid (∀ w2, Calls Tryz.prog 214 #[.int .i64 19, .int .i64 x, .int .i64 y] w2 fun e w' => e = .returned (.int .i64 (twoS 19 x y)) ∧ w' = w2) := fun w2 => two_any 19 x y w2 (by omega) (by omega) hxi hyi
  generalize twoS 19 x y = z at hti HT ⊢
  go_enter Tryz.func184, Tryz.ntmps184
  go_wp2_with fail
  refine (U HP).mono ?_
  rintro e w1 ⟨rfl, h1, hb1⟩
  clear HP
  have HP := V (mpop_any B b _ w1 h1 l x rfl)
  go_wp2_with fail
  refine (U HP).mono ?_
  rintro e w2 ⟨rfl, h2, hb2⟩
  clear HP h1
  have hb3 := hb1.trans hb2
  clear hb1 hb2
  have HP := V (mpush_any B b _ z w2 h2 hti hs)
  go_wp2_with fail
  refine (U HT w2).mono ?_
  rintro e w3 ⟨rfl, hw⟩
  obtain rfl := hw.symm
  clear hw
  go_wp2_with fail
  refine (U HP).mono ?_
  rintro e w4 ⟨rfl, h4, hb4⟩
  go_wp2_with fail
  go_end0
  exact ⟨rfl, h4, hb3.trans hb4⟩

set_option maxRecDepth 100000 in
set_option maxHeartbeats 1000000 in
theorem do_less (B b : Nat) (m : MS) (arg : Int) (l : List Int) (x y : Int) (w : World) (h : McE B w b m) (harg : inI arg) (he : m.stack = l ++ [x, y]) :
    Calls Tryz.prog 184 #[.pointer (some ⟨b, 0, none⟩), .int .i64 20, .int .i64 arg] w fun e w' => e = .returned (.tuple #[]) ∧ McE B w' b { m with stack := l ++ [twoS 20 x y] } ∧ Below B w w' := by
  have _ := harg
  have HP := V (mpop_any B b m w h (l ++ [x]) y (by rw [he]; simp))
  have hxi : inI x := h.ints.1 x (by rw [he]; simp)
  have hyi : inI y := h.ints.1 y (by rw [he]; simp)
  have hn : m.stack.length = l.length + 2 := by rw [he]; simp
  have hs : l.length < 1000 := by have := h.small; omega
  have hti : inI (twoS 20 x y) := two_in 20 x y (by omega) (by omega) hxi hyi
  have HT : Hid (∀ w2, Calls Tryz.prog 214 #[.int .i64 20, .int .i64 x, .int .i64 y] w2 fun e w' => e = .returned (.int .i64 (twoS 20 x y)) ∧ w' = w2) := fun w2 => two_any 20 x y w2 (by omega) (by omega) hxi hyi
  generalize twoS 20 x y = z at hti HT ⊢
  go_enter Tryz.func184, Tryz.ntmps184
  go_wp2_with fail
  refine (U HP).mono ?_
  rintro e w1 ⟨rfl, h1, hb1⟩
  clear HP
  have HP := V (mpop_any B b _ w1 h1 l x rfl)
  go_wp2_with fail
  refine (U HP).mono ?_
  rintro e w2 ⟨rfl, h2, hb2⟩
  clear HP h1
  have hb3 := hb1.trans hb2
  clear hb1 hb2
  have HP := V (mpush_any B b _ z w2 h2 hti hs)
  go_wp2_with fail
  refine (U HT w2).mono ?_
  rintro e w3 ⟨rfl, hw⟩
  obtain rfl := hw.symm
  clear hw
  go_wp2_with fail
  refine (U HP).mono ?_
  rintro e w4 ⟨rfl, h4, hb4⟩
  go_wp2_with fail
  go_end0
  exact ⟨rfl, h4, hb3.trans hb4⟩
theorem below_to_drewN {B : Nat} {w w' : World} (h : Below B w w') (n : Nat) : Below B w (w'.drewN n) := ⟨h.os, h.tape, h.output, h.size, h.block⟩

theorem Mc.grow6n {B : Nat} {w w1 : World} {b : Nat} {m : MS} {v5 v6 v7 v8 : Value} (h : Mc B w b m v5 v6 v7 v8) {x : Int} (hx : inI x) {n g cap H : Nat} (hn : m.side.length = n) (hlen : n < 1000) (hw1 : w.grownBy w1 v6.ownBlock)
    (hown : w1.ownsRow B 2 1 (.slice (some ⟨g, 0, none⟩) (n + 1) cap) (n + 1) (intCells m.side ++ [.int .i64 x])) (hat : v6.ownBlock = some g ∨ g = H) (hH : w.heap.size ≤ H) :
    Mc B (w1.setCell ⟨b, 6, none⟩ (.slice (some ⟨g, 0, none⟩) (n + 1) cap)) b { m with side := m.side ++ [x] } v5 (.slice (some ⟨g, 0, none⟩) (n + 1) cap) v7 v8 := by
  subst hn
  exact h.grow6 hx hlen hw1 hown hat hH

set_option maxRecDepth 100000 in
set_option maxHeartbeats 1000000 in
theorem do_do (B b : Nat) (m : MS) (arg : Int) (l : List Int) (x y : Int) (w : World) (h : McE B w b m) (harg : inI arg) (he : m.stack = l ++ [x, y]) (hl : m.side.length + 2 ≤ 1000) :
    Calls Tryz.prog 184 #[.pointer (some ⟨b, 0, none⟩), .int .i64 6, .int .i64 arg] w fun e w' => e = .returned (.tuple #[]) ∧ McE B w' b { m with stack := l, side := m.side ++ [x, y] } ∧ Below B w w' := by
  have _ := harg
  obtain ⟨i0, hi, hz0, hz1, hz2⟩ := info_parts Tryz.infoInt64
  have HP := V (mpop_any B b m w h (l ++ [x]) y (by rw [he]; simp))
  have hxi : inI x := h.ints.1 x (by rw [he]; simp)
  have hyi : inI y := h.ints.1 y (by rw [he]; simp)
  go_enter Tryz.func184, Tryz.ntmps184
  go_wp2_with fail
  refine (U HP).mono ?_
  rintro e w1 ⟨rfl, h1, hb1⟩
  clear HP
  have HP := V (mpop_any B b _ w1 h1 l x rfl)
  go_wp2_with fail
  refine (U HP).mono ?_
  rintro e w2 ⟨rfl, h2, hb2⟩
  clear HP h1
  have hb3 := hb1.trans hb2
  clear hb1 hb2
  obtain ⟨v5, v6, v7, v8, h2⟩ := h2
  have hlt := h2.blk.lt
  have hc := h2.blk.cell
  have hf := h2.blk.free
  unfold mcArr at hc
  have HB := V h2.blk
  unfold mcArr at HB
  have hne := h2.ne 1 v6 rfl
  have HW := V (ownsRow_alloc h2.o6 (.cells #[.int .i64 x] 2))
  have hBs : B ≤ (w2.alloc (.cells #[.int .i64 x] 2)).heap.size := by
    have := h2.base
    simp; omega
  have HBs := V hBs
  clear hBs
  go_wp2_with (first | (at_builtin; (refine wpList_append_lies _ rfl (.tmp 104) (.tmp 106) 42 rfl B 2 i0 _ 1 8 Tryz.underlying42 hi hz0 hz1 hz2 rfl (by decide) v6 m.side.length (intCells m.side) (by simp [Act.eval]) (U HW) ⟨w2.heap.size, 0, none⟩ 1 1 [.int .i64 x] (by simp [Act.eval]) rfl (World.news_of_block (Blk.new w2 _ _)) (oneCells1 _) (by omega) (by unfold maxLen; omega) (by omega) (U HBs) _ rfl ?_; intro g cap w5 hown hgrow hat hlt5; have hb5 := ((U HB).alloc _).grown hgrow hne; have hc5 := hb5.cell; have hf5 := hb5.free; have h3 := h2.grow6n (n := m.side.length) hxi rfl (by omega) (grownBy_alloc' hgrow) hown hat (by simp); have hb4 := hb3.trans ((below_grown_alloc' (by have := h2.base; omega) (fun k hk => (ownsRow_lt h2.o6 hk).2) hgrow).setCell h2.base (p := ⟨b, 6, none⟩) (.slice (some ⟨g, 0, none⟩) (m.side.length + 1) cap)); have h3 := V h3; have hb4 := V hb4; clear hown hgrow hat hb5)) | (at_builtin; (refine wpList_append_lies _ rfl (.tmp 114) (.tmp 116) 42 rfl B 2 i0 _ 1 8 Tryz.underlying42 hi hz0 hz1 hz2 rfl (by decide) (.slice (some ⟨g, 0, none⟩) (m.side.length + 1) cap) (m.side.length + 1) (intCells (m.side ++ [x])) (by simp [Act.eval]) (by have := ownsRow_alloc (U h3).o6 (.cells #[.int .i64 y] 2); simpa using this) ⟨_, 0, none⟩ 1 1 [.int .i64 y] (by simp [Act.eval]) rfl (World.news_of_block (Blk.new _ _ _)) (oneCells1 _) (by omega) (by unfold maxLen; omega) (by omega) (by have := (U h3).base; have := (U h3).blk.lt; simp at this ⊢; omega) _ rfl ?_; intro g2 cap2 w6 hown hgrow hat hlt6; have hb6 := ((U h3).blk.alloc _).grown hgrow ((U h3).ne 1 _ rfl); have hc6 := hb6.cell; have hf6 := hb6.free; unfold mcArr at hc6; have HO := V hown; have HG := V hgrow; have HA := V hat; clear hown hgrow hat hb6)))
  go_end0
  have h4 := (U h3).grow6n (n := m.side.length + 1) hyi (by simp) (by omega) (grownBy_alloc' (U HG)) (U HO) (U HA) (by simp)
  simp only [List.append_assoc, List.cons_append, List.nil_append] at h4
  refine ⟨rfl, ⟨_, _, _, _, h4⟩, ?_⟩
  exact (U hb4).trans ((below_grown_alloc' (by have := (U h3).base; have := (U h3).blk.lt; omega) (fun k hk => (ownsRow_lt (U h3).o6 hk).2) (U HG)).setCell h2.base _)

theorem Mc.write6 {B : Nat} {w : World} {b : Nat} {m : MS} {v5 v7 v8 : Value} {g k n : Nat} (h : Mc B w b m v5 (.slice (some ⟨g, 0, none⟩) n k) v7 v8) (l r : List Int) (x y : Int) (he : m.side = l ++ x :: r) (hy : inI y) :
    Mc B (w.setCell ⟨g, l.length, none⟩ (.int .i64 y)) b { m with side := l ++ y :: r } v5 (.slice (some ⟨g, 0, none⟩) n k) v7 v8 := by
  have hg : b ≠ g := fun e => h.ne 1 _ rfl (by rw [e]; rfl)
  have hq : ∀ x ∈ m.ks, x.1 ≠ g := fun x hx e => h.owned.off 1 _ x.1 rfl (List.mem_cons_of_mem _ (List.mem_map_of_mem hx)) (by rw [e]; rfl)
  refine ⟨?_, h.base, ?_, h.lims, by have := h.small; rw [he] at this; simp at this ⊢; omega, ⟨h.ints.1, fun z hz => ?_, h.ints.2.2⟩, fun x hx => (h.kept x hx).far (hq x hx) _, h.kne⟩
  · exact h.blk.far hg _
  · have := h.owned.write 1 g n k _ rfl rfl l.length (.int .i64 y)
    simpa [mcRows, he, intCells] using this
  · have hz' := h.ints.2.1 z
    rw [he] at hz'
    simp at hz hz'
    rcases hz with hz | rfl | hz
    · exact hz' (Or.inl hz)
    · exact hy
    · exact hz' (Or.inr (Or.inr hz))

set_option maxRecDepth 100000 in
set_option maxHeartbeats 1000000 in
theorem do_loop_end (B b : Nat) (m : MS) (arg : Int) (l : List Int) (x y : Int) (w : World) (h : McE B w b m) (harg : inI arg) (he : m.side = l ++ [x, y]) (hxy : (wrap64 (y + 1) == x) = true) :
    Calls Tryz.prog 184 #[.pointer (some ⟨b, 0, none⟩), .int .i64 7, .int .i64 arg] w fun e w' => e = .returned (.tuple #[]) ∧ McE B w' b { m with side := l } ∧ Below B w w' := by
  obtain ⟨v5, v6, v7, v8, h⟩ := h
  have hn : m.side.length = l.length + 2 := by rw [he]; simp
  obtain ⟨g, k, rfl, hg, hgl⟩ := h.o6.form (by omega)
  have hne : b ≠ g := fun e => h.ne 1 _ rfl (by rw [e]; rfl)
  have hb := h.blk
  have hlt := hb.lt
  unfold mcArr at hb
  have ho := h.o6
  rw [hn] at hb ho
  have hx := own_cell ho l.length (by omega)
  have hy := own_cell ho (l.length + 1) (by omega)
  rw [he] at hx hy
  have e1 : (intCells (l ++ [x, y]))[l.length]? = some (.int .i64 x) := by simp [intCells]
  have e2 : (intCells (l ++ [x, y]))[l.length + 1]? = some (.int .i64 y) := by simp [intCells]
  rw [e1] at hx
  rw [e2] at hy
  clear e1 e2
  have hs : (l.length : Int) ≤ 998 := by have := h.small; omega
  have hk : (l.length : Int) + 2 ≤ k := by have := (own_cap ho).1; omega
  have hyi : inI y := h.ints.2.1 y (by rw [he]; simp)
  unfold inI at hyi
  obtain ⟨hy1, hy2⟩ := hyi
  have ha := harg
  unfold inI at ha
  obtain ⟨ha1, ha2⟩ := ha
  have hc := hb.cell
  have hf := hb.free
  have hfg := own_free ho
  clear hb ho
  go_enter Tryz.func184, Tryz.ntmps184
  go_wp2_with fail
  go_quiet (fail)
  go_wp2_with fail
  go_end0
  have h1 := h.write6 (l ++ [x]) [] y (wrap64 (y + 1)) (by rw [he]; simp) (wrap64_in _)
  simp only [List.length_append, List.length_cons, List.length_nil, Nat.zero_add] at h1
  exact ⟨rfl, ⟨_, _, _, _, (h1.drewN _).cut6 l [x, wrap64 (y + 1)] (by simp) (by simp [hn])⟩, (below_to_drewN ((Below.refl B w).setCell hg _) _).setCell h.base _⟩

set_option maxRecDepth 100000 in
set_option maxHeartbeats 1000000 in
theorem do_loop_on (B b : Nat) (m : MS) (arg : Int) (l : List Int) (x y : Int) (w : World) (h : McE B w b m) (harg : inI arg) (he : m.side = l ++ [x, y]) (hxy : (wrap64 (y + 1) == x) = false) :
    Calls Tryz.prog 184 #[.pointer (some ⟨b, 0, none⟩), .int .i64 7, .int .i64 arg] w fun e w' => e = .returned (.tuple #[]) ∧ McE B w' b { m with side := l ++ [x, wrap64 (y + 1)], pc := arg } ∧ Below B w w' := by
  obtain ⟨v5, v6, v7, v8, h⟩ := h
  have hn : m.side.length = l.length + 2 := by rw [he]; simp
  obtain ⟨g, k, rfl, hg, hgl⟩ := h.o6.form (by omega)
  have hne : b ≠ g := fun e => h.ne 1 _ rfl (by rw [e]; rfl)
  have hb := h.blk
  have hlt := hb.lt
  unfold mcArr at hb
  have ho := h.o6
  rw [hn] at hb ho
  have hx := own_cell ho l.length (by omega)
  have hy := own_cell ho (l.length + 1) (by omega)
  rw [he] at hx hy
  have e1 : (intCells (l ++ [x, y]))[l.length]? = some (.int .i64 x) := by simp [intCells]
  have e2 : (intCells (l ++ [x, y]))[l.length + 1]? = some (.int .i64 y) := by simp [intCells]
  rw [e1] at hx
  rw [e2] at hy
  clear e1 e2
  have hs : (l.length : Int) ≤ 998 := by have := h.small; omega
  have hk : (l.length : Int) + 2 ≤ k := by have := (own_cap ho).1; omega
  have hyi : inI y := h.ints.2.1 y (by rw [he]; simp)
  unfold inI at hyi
  obtain ⟨hy1, hy2⟩ := hyi
  have ha := harg
  unfold inI at ha
  obtain ⟨ha1, ha2⟩ := ha
  have hc := hb.cell
  have hf := hb.free
  have hfg := own_free ho
  clear hb ho
  go_enter Tryz.func184, Tryz.ntmps184
  go_wp2_with fail
  go_quiet (fail)
  go_wp2_with fail
  go_end0
  have h1 := h.write6 (l ++ [x]) [] y (wrap64 (y + 1)) (by rw [he]; simp) (wrap64_in _)
  simp only [List.length_append, List.length_cons, List.length_nil, Nat.zero_add, List.append_assoc, List.cons_append, List.nil_append] at h1
  exact ⟨rfl, McE.at ⟨_, _, _, _, h1.drewN _⟩ arg, (below_to_drewN ((Below.refl B w).setCell hg _) _).setCell h.base _⟩
end Go.Proofs.YtmeiikjpaepogaaGreatDoor
