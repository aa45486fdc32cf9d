/- The reference's Machine: refused, the operators with grounds of their own. -/
import Derived.Test.YtmeiikjpaepogaaGreatDoorK03
namespace Go.Proofs.YtmeiikjpaepogaaGreatDoor
open Go Go.RowKit

theorem drawn3 (w : World) (a b c : Nat) : ((w.drewN a).drewN b).drewN c = w.drewN (a + b + c) := by rw [drawn_drawn, drawn_drawn, Nat.add_assoc]
theorem drawn4 (w : World) (a b c d : Nat) : (((w.drewN a).drewN b).drewN c).drewN d = w.drewN (a + b + c + d) := by simp only [drawn_drawn, Nat.add_assoc]

set_option maxRecDepth 100000 in
set_option maxHeartbeats 1000000 in
theorem refused_call_no (B b : Nat) (m : MS) (v5 v6 v7 v8 : Value) (w : World) (h : Mc B w b m v5 v6 v7 v8) (hcl : (m.calls.length : Int) < m.lc) :
    Calls Tryz.prog 183 #[.pointer (some ⟨b, 0, none⟩), .int .i64 3] w fun e w' => e = .returned (.int .i64 0) ∧ ∃ n, w' = w.drewN n := by
  obtain ⟨a5, k5, hv5⟩ := own_shape h.o5
  obtain ⟨a6, k6, hv6⟩ := own_shape h.o6
  obtain ⟨a7, k7, hv7⟩ := own_shape h.o7
  obtain ⟨a8, k8, hv8⟩ := own_shape h.o8
  subst hv5
  subst hv6
  subst hv7
  subst hv8
  have hc := h.blk.cell
  unfold mcArr at hc
  have hl := h.lims
  have hsm := h.small
  have s1 : (m.stack.length : Int) ≤ 1000 := by omega
  have s2 : (m.side.length : Int) ≤ 1000 := by omega
  have s3 : (m.calls.length : Int) ≤ 1000 := by omega
  have s4 : (m.cells.length : Int) ≤ 1000 := by omega
  have s5 : (m.out.size : Int) ≤ 1000 := by omega
  have l1 : m.ls ≤ 1000 := by omega
  have l3 : m.lc ≤ 1000 := by omega
  have l4 : m.lo ≤ 1000 := by omega
  have hout : (m.out.size : Int) ≤ m.lo := by omega
  clear hl hsm
  have HN : Hid (∀ w, Calls Tryz.prog 209 #[.int .i64 3] w fun e w' => e = .returned (.tuple #[.int .i64 0, .int .i64 0]) ∧ w' = w) := fun w => needs_any 3 w
  have HA : Hid (∀ w, Calls Tryz.prog 210 #[.int .i64 3] w fun e w' => e = .returned (.tuple #[.int .i64 0, .int .i64 0]) ∧ w' = w) := fun w => aside_any 3 w
  rcases List.eq_nil_or_concat m.stack with e | ⟨l, t, e⟩
  · have hst : (m.stack.length : Int) ≤ 0 := by rw [e]; simp
    clear e
    go_enter Tryz.func183, Tryz.ntmps183
    go_wp2_with fail
    refine (U HN _).mono ?_
    rintro e w2 ⟨rfl, hw⟩
    obtain rfl := hw.symm
    clear hw
    go_wp2_with fail
    refine (U HA _).mono ?_
    rintro e w2 ⟨rfl, hw⟩
    obtain rfl := hw.symm
    clear hw
    go_wp2_with fail
    go_quiet (fail)
    go_wp2_with fail
    go_quiet (fail)
    go_wp2_with fail
    go_quiet (fail)
    go_wp2_with fail
    go_quiet (fail)
    go_wp2_with fail
    go_ret
    first | exact ⟨rfl, _, rfl⟩ | exact ⟨rfl, _, drawn_drawn _ _ _⟩ | exact ⟨rfl, _, drawn3 _ _ _ _⟩ | exact ⟨rfl, _, drawn4 _ _ _ _ _⟩
  · rw [List.concat_eq_append] at e
    have hn : m.stack.length = l.length + 1 := by rw [e]; simp
    obtain ⟨g5, k5', hv5, _, _⟩ := h.o5.form (by omega)
    simp only [Value.slice.injEq, true_and] at hv5
    obtain ⟨rfl, rfl⟩ := hv5
    have hx := own_cell h.o5 l.length (by omega)
    rw [e, intCells_last] at hx
    rw [hn] at hc s1
    have hst' : ((l.length : Int) + 1) ≤ 1000 := by omega
    clear e hn
    simp only [Int.natCast_add, Int.cast_ofNat_Int] at s1
    go_enter Tryz.func183, Tryz.ntmps183
    go_wp2_with fail
    refine (U HN _).mono ?_
    rintro e w2 ⟨rfl, hw⟩
    obtain rfl := hw.symm
    clear hw
    go_wp2_with fail
    refine (U HA _).mono ?_
    rintro e w2 ⟨rfl, hw⟩
    obtain rfl := hw.symm
    clear hw
    go_wp2_with fail
    go_quiet (fail)
    go_wp2_with fail
    go_quiet (fail)
    go_wp2_with fail
    go_quiet (fail)
    go_wp2_with fail
    go_quiet (fail)
    go_wp2_with fail
    go_quiet (fail)
    go_wp2_with fail
    go_ret
    first | exact ⟨rfl, _, rfl⟩ | exact ⟨rfl, _, drawn_drawn _ _ _⟩ | exact ⟨rfl, _, drawn3 _ _ _ _⟩ | exact ⟨rfl, _, drawn4 _ _ _ _ _⟩

set_option maxRecDepth 100000 in
set_option maxHeartbeats 1000000 in
theorem refused_call (B b : Nat) (m : MS) (v5 v6 v7 v8 : Value) (w : World) (h : Mc B w b m v5 v6 v7 v8) (hcl : m.lc ≤ (m.calls.length : Int)) :
    Calls Tryz.prog 183 #[.pointer (some ⟨b, 0, none⟩), .int .i64 3] w fun e w' => e = .returned (.int .i64 11) ∧ ∃ n, w' = w.drewN n := by
  obtain ⟨a5, k5, hv5⟩ := own_shape h.o5
  obtain ⟨a6, k6, hv6⟩ := own_shape h.o6
  obtain ⟨a7, k7, hv7⟩ := own_shape h.o7
  obtain ⟨a8, k8, hv8⟩ := own_shape h.o8
  subst hv5
  subst hv6
  subst hv7
  subst hv8
  have hc := h.blk.cell
  unfold mcArr at hc
  have hl := h.lims
  have hsm := h.small
  have s1 : (m.stack.length : Int) ≤ 1000 := by omega
  have s2 : (m.side.length : Int) ≤ 1000 := by omega
  have s3 : (m.calls.length : Int) ≤ 1000 := by omega
  have s4 : (m.cells.length : Int) ≤ 1000 := by omega
  have s5 : (m.out.size : Int) ≤ 1000 := by omega
  have l1 : m.ls ≤ 1000 := by omega
  have l3 : m.lc ≤ 1000 := by omega
  have l4 : m.lo ≤ 1000 := by omega
  have hout : (m.out.size : Int) ≤ m.lo := by omega
  clear hl hsm
  have HN : Hid (∀ w, Calls Tryz.prog 209 #[.int .i64 3] w fun e w' => e = .returned (.tuple #[.int .i64 0, .int .i64 0]) ∧ w' = w) := fun w => needs_any 3 w
  have HA : Hid (∀ w, Calls Tryz.prog 210 #[.int .i64 3] w fun e w' => e = .returned (.tuple #[.int .i64 0, .int .i64 0]) ∧ w' = w) := fun w => aside_any 3 w
  rcases List.eq_nil_or_concat m.stack with e | ⟨l, t, e⟩
  · have hst : (m.stack.length : Int) ≤ 0 := by rw [e]; simp
    clear e
    go_enter Tryz.func183, Tryz.ntmps183
    go_wp2_with fail
    refine (U HN _).mono ?_
    rintro e w2 ⟨rfl, hw⟩
    obtain rfl := hw.symm
    clear hw
    go_wp2_with fail
    refine (U HA _).mono ?_
    rintro e w2 ⟨rfl, hw⟩
    obtain rfl := hw.symm
    clear hw
    go_wp2_with fail
    go_quiet (fail)
    go_wp2_with fail
    go_quiet (fail)
    go_wp2_with fail
    go_quiet (fail)
    go_wp2_with fail
    go_ret
    first | exact ⟨rfl, _, rfl⟩ | exact ⟨rfl, _, drawn_drawn _ _ _⟩ | exact ⟨rfl, _, drawn3 _ _ _ _⟩ | exact ⟨rfl, _, drawn4 _ _ _ _ _⟩
  · rw [List.concat_eq_append] at e
    have hn : m.stack.length = l.length + 1 := by rw [e]; simp
    obtain ⟨g5, k5', hv5, _, _⟩ := h.o5.form (by omega)
    simp only [Value.slice.injEq, true_and] at hv5
    obtain ⟨rfl, rfl⟩ := hv5
    have hx := own_cell h.o5 l.length (by omega)
    rw [e, intCells_last] at hx
    rw [hn] at hc s1
    have hst' : ((l.length : Int) + 1) ≤ 1000 := by omega
    clear e hn
    simp only [Int.natCast_add, Int.cast_ofNat_Int] at s1
    go_enter Tryz.func183, Tryz.ntmps183
    go_wp2_with fail
    refine (U HN _).mono ?_
    rintro e w2 ⟨rfl, hw⟩
    obtain rfl := hw.symm
    clear hw
    go_wp2_with fail
    refine (U HA _).mono ?_
    rintro e w2 ⟨rfl, hw⟩
    obtain rfl := hw.symm
    clear hw
    go_wp2_with fail
    go_quiet (fail)
    go_wp2_with fail
    go_quiet (fail)
    go_wp2_with fail
    go_quiet (fail)
    go_wp2_with fail
    go_quiet (fail)
    go_wp2_with fail
    go_ret
    first | exact ⟨rfl, _, rfl⟩ | exact ⟨rfl, _, drawn_drawn _ _ _⟩ | exact ⟨rfl, _, drawn3 _ _ _ _⟩ | exact ⟨rfl, _, drawn4 _ _ _ _ _⟩

set_option maxRecDepth 100000 in
set_option maxHeartbeats 1000000 in
theorem refused_ret_no (B b : Nat) (m : MS) (v5 v6 v7 v8 : Value) (w : World) (h : Mc B w b m v5 v6 v7 v8) (hcl : 0 < m.calls.length) :
    Calls Tryz.prog 183 #[.pointer (some ⟨b, 0, none⟩), .int .i64 4] w fun e w' => e = .returned (.int .i64 0) ∧ ∃ n, w' = w.drewN n := by
  obtain ⟨a5, k5, hv5⟩ := own_shape h.o5
  obtain ⟨a6, k6, hv6⟩ := own_shape h.o6
  obtain ⟨a7, k7, hv7⟩ := own_shape h.o7
  obtain ⟨a8, k8, hv8⟩ := own_shape h.o8
  subst hv5
  subst hv6
  subst hv7
  subst hv8
  have hc := h.blk.cell
  unfold mcArr at hc
  have hl := h.lims
  have hsm := h.small
  have s1 : (m.stack.length : Int) ≤ 1000 := by omega
  have s2 : (m.side.length : Int) ≤ 1000 := by omega
  have s3 : (m.calls.length : Int) ≤ 1000 := by omega
  have s4 : (m.cells.length : Int) ≤ 1000 := by omega
  have s5 : (m.out.size : Int) ≤ 1000 := by omega
  have l1 : m.ls ≤ 1000 := by omega
  have l3 : m.lc ≤ 1000 := by omega
  have l4 : m.lo ≤ 1000 := by omega
  have hout : (m.out.size : Int) ≤ m.lo := by omega
  clear hl hsm
  have HN : Hid (∀ w, Calls Tryz.prog 209 #[.int .i64 4] w fun e w' => e = .returned (.tuple #[.int .i64 0, .int .i64 0]) ∧ w' = w) := fun w => needs_any 4 w
  have HA : Hid (∀ w, Calls Tryz.prog 210 #[.int .i64 4] w fun e w' => e = .returned (.tuple #[.int .i64 0, .int .i64 0]) ∧ w' = w) := fun w => aside_any 4 w
  have hc0 : ((m.calls.length : Int) == 0) = false := by rw [beq_eq_false_iff_ne]; omega
  rcases List.eq_nil_or_concat m.stack with e | ⟨l, t, e⟩
  · have hst : (m.stack.length : Int) ≤ 0 := by rw [e]; simp
    clear e
    go_enter Tryz.func183, Tryz.ntmps183
    go_wp2_with fail
    refine (U HN _).mono ?_
    rintro e w2 ⟨rfl, hw⟩
    obtain rfl := hw.symm
    clear hw
    go_wp2_with fail
    refine (U HA _).mono ?_
    rintro e w2 ⟨rfl, hw⟩
    obtain rfl := hw.symm
    clear hw
    go_wp2_with fail
    go_quiet (fail)
    go_wp2_with fail
    go_quiet (fail)
    go_wp2_with fail
    go_quiet (fail)
    go_wp2_with fail
    go_ret
    first | exact ⟨rfl, _, rfl⟩ | exact ⟨rfl, _, drawn_drawn _ _ _⟩ | exact ⟨rfl, _, drawn3 _ _ _ _⟩ | exact ⟨rfl, _, drawn4 _ _ _ _ _⟩
  · rw [List.concat_eq_append] at e
    have hn : m.stack.length = l.length + 1 := by rw [e]; simp
    obtain ⟨g5, k5', hv5, _, _⟩ := h.o5.form (by omega)
    simp only [Value.slice.injEq, true_and] at hv5
    obtain ⟨rfl, rfl⟩ := hv5
    have hx := own_cell h.o5 l.length (by omega)
    rw [e, intCells_last] at hx
    rw [hn] at hc s1
    have hst' : ((l.length : Int) + 1) ≤ 1000 := by omega
    clear e hn
    simp only [Int.natCast_add, Int.cast_ofNat_Int] at s1
    go_enter Tryz.func183, Tryz.ntmps183
    go_wp2_with fail
    refine (U HN _).mono ?_
    rintro e w2 ⟨rfl, hw⟩
    obtain rfl := hw.symm
    clear hw
    go_wp2_with fail
    refine (U HA _).mono ?_
    rintro e w2 ⟨rfl, hw⟩
    obtain rfl := hw.symm
    clear hw
    go_wp2_with fail
    go_quiet (fail)
    go_wp2_with fail
    go_quiet (fail)
    go_wp2_with fail
    go_quiet (fail)
    go_wp2_with fail
    go_quiet (fail)
    go_wp2_with fail
    go_ret
    first | exact ⟨rfl, _, rfl⟩ | exact ⟨rfl, _, drawn_drawn _ _ _⟩ | exact ⟨rfl, _, drawn3 _ _ _ _⟩ | exact ⟨rfl, _, drawn4 _ _ _ _ _⟩

set_option maxRecDepth 100000 in
set_option maxHeartbeats 1000000 in
theorem refused_ret (B b : Nat) (m : MS) (v5 v6 v7 v8 : Value) (w : World) (h : Mc B w b m v5 v6 v7 v8) (hcl : m.calls.length = 0) :
    Calls Tryz.prog 183 #[.pointer (some ⟨b, 0, none⟩), .int .i64 4] w fun e w' => e = .returned (.int .i64 11) ∧ ∃ n, w' = w.drewN n := by
  obtain ⟨a5, k5, hv5⟩ := own_shape h.o5
  obtain ⟨a6, k6, hv6⟩ := own_shape h.o6
  obtain ⟨a7, k7, hv7⟩ := own_shape h.o7
  obtain ⟨a8, k8, hv8⟩ := own_shape h.o8
  subst hv5
  subst hv6
  subst hv7
  subst hv8
  have hc := h.blk.cell
  unfold mcArr at hc
  have hl := h.lims
  have hsm := h.small
  have s1 : (m.stack.length : Int) ≤ 1000 := by omega
  have s2 : (m.side.length : Int) ≤ 1000 := by omega
  have s3 : (m.calls.length : Int) ≤ 1000 := by omega
  have s4 : (m.cells.length : Int) ≤ 1000 := by omega
  have s5 : (m.out.size : Int) ≤ 1000 := by omega
  have l1 : m.ls ≤ 1000 := by omega
  have l3 : m.lc ≤ 1000 := by omega
  have l4 : m.lo ≤ 1000 := by omega
  have hout : (m.out.size : Int) ≤ m.lo := by omega
  clear hl hsm
  have HN : Hid (∀ w, Calls Tryz.prog 209 #[.int .i64 4] w fun e w' => e = .returned (.tuple #[.int .i64 0, .int .i64 0]) ∧ w' = w) := fun w => needs_any 4 w
  have HA : Hid (∀ w, Calls Tryz.prog 210 #[.int .i64 4] w fun e w' => e = .returned (.tuple #[.int .i64 0, .int .i64 0]) ∧ w' = w) := fun w => aside_any 4 w
  have hc0 : ((m.calls.length : Int) == 0) = true := by rw [beq_iff_eq]; omega
  clear hcl
  rcases List.eq_nil_or_concat m.stack with e | ⟨l, t, e⟩
  · have hst : (m.stack.length : Int) ≤ 0 := by rw [e]; simp
    clear e
    go_enter Tryz.func183, Tryz.ntmps183
    go_wp2_with fail
    refine (U HN _).mono ?_
    rintro e w2 ⟨rfl, hw⟩
    obtain rfl := hw.symm
    clear hw
    go_wp2_with fail
    refine (U HA _).mono ?_
    rintro e w2 ⟨rfl, hw⟩
    obtain rfl := hw.symm
    clear hw
    go_wp2_with fail
    go_quiet (fail)
    go_wp2_with fail
    go_quiet (fail)
    go_wp2_with fail
    go_ret
    first | exact ⟨rfl, _, rfl⟩ | exact ⟨rfl, _, drawn_drawn _ _ _⟩ | exact ⟨rfl, _, drawn3 _ _ _ _⟩ | exact ⟨rfl, _, drawn4 _ _ _ _ _⟩
  · rw [List.concat_eq_append] at e
    have hn : m.stack.length = l.length + 1 := by rw [e]; simp
    obtain ⟨g5, k5', hv5, _, _⟩ := h.o5.form (by omega)
    simp only [Value.slice.injEq, true_and] at hv5
    obtain ⟨rfl, rfl⟩ := hv5
    have hx := own_cell h.o5 l.length (by omega)
    rw [e, intCells_last] at hx
    rw [hn] at hc s1
    have hst' : ((l.length : Int) + 1) ≤ 1000 := by omega
    clear e hn
    simp only [Int.natCast_add, Int.cast_ofNat_Int] at s1
    go_enter Tryz.func183, Tryz.ntmps183
    go_wp2_with fail
    refine (U HN _).mono ?_
    rintro e w2 ⟨rfl, hw⟩
    obtain rfl := hw.symm
    clear hw
    go_wp2_with fail
    refine (U HA _).mono ?_
    rintro e w2 ⟨rfl, hw⟩
    obtain rfl := hw.symm
    clear hw
    go_wp2_with fail
    go_quiet (fail)
    go_wp2_with fail
    go_quiet (fail)
    go_wp2_with fail
    go_quiet (fail)
    go_wp2_with fail
    go_ret
    first | exact ⟨rfl, _, rfl⟩ | exact ⟨rfl, _, drawn_drawn _ _ _⟩ | exact ⟨rfl, _, drawn3 _ _ _ _⟩ | exact ⟨rfl, _, drawn4 _ _ _ _ _⟩

set_option maxRecDepth 100000 in
set_option maxHeartbeats 1000000 in
theorem refused_div_no (B b : Nat) (m : MS) (v5 v6 v7 v8 : Value) (w : World) (h : Mc B w b m v5 v6 v7 v8) (l : List Int) (t : Int) (hst : m.stack = l ++ [t]) (hl1 : 1 ≤ l.length) (ht : t ≠ 0) :
    Calls Tryz.prog 183 #[.pointer (some ⟨b, 0, none⟩), .int .i64 12] w fun e w' => e = .returned (.int .i64 0) ∧ ∃ n, w' = w.drewN n := by
  obtain ⟨a5, k5, hv5⟩ := own_shape h.o5
  obtain ⟨a6, k6, hv6⟩ := own_shape h.o6
  obtain ⟨a7, k7, hv7⟩ := own_shape h.o7
  obtain ⟨a8, k8, hv8⟩ := own_shape h.o8
  subst hv5
  subst hv6
  subst hv7
  subst hv8
  have hc := h.blk.cell
  unfold mcArr at hc
  have hl := h.lims
  have hsm := h.small
  have s1 : (m.stack.length : Int) ≤ 1000 := by omega
  have s2 : (m.side.length : Int) ≤ 1000 := by omega
  have s3 : (m.calls.length : Int) ≤ 1000 := by omega
  have s4 : (m.cells.length : Int) ≤ 1000 := by omega
  have s5 : (m.out.size : Int) ≤ 1000 := by omega
  have l1 : m.ls ≤ 1000 := by omega
  have l3 : m.lc ≤ 1000 := by omega
  have l4 : m.lo ≤ 1000 := by omega
  have hout : (m.out.size : Int) ≤ m.lo := by omega
  clear hl hsm
  have HN : Hid (∀ w, Calls Tryz.prog 209 #[.int .i64 12] w fun e w' => e = .returned (.tuple #[.int .i64 2, .int .i64 (-1)]) ∧ w' = w) := fun w => needs_any 12 w
  have HA : Hid (∀ w, Calls Tryz.prog 210 #[.int .i64 12] w fun e w' => e = .returned (.tuple #[.int .i64 0, .int .i64 0]) ∧ w' = w) := fun w => aside_any 12 w
  have ht' : (t == 0) = false := by simpa using ht
  have hl2 : (1 : Int) ≤ l.length := by omega
  have hn : m.stack.length = l.length + 1 := by rw [hst]; simp
  obtain ⟨g5, k5', hv5, _, _⟩ := h.o5.form (by omega)
  simp only [Value.slice.injEq, true_and] at hv5
  obtain ⟨rfl, rfl⟩ := hv5
  have hx := own_cell h.o5 l.length (by omega)
  have hti : inI t := h.ints.1 t (by rw [hst]; simp)
  unfold inI at hti
  obtain ⟨ht1, ht2⟩ := hti
  rw [hst, intCells_last] at hx
  rw [hn] at hc s1
  have hst' : ((l.length : Int) + 1) ≤ 1000 := by omega
  clear hst hn
  simp only [Int.natCast_add, Int.cast_ofNat_Int] at s1
  go_enter Tryz.func183, Tryz.ntmps183
  go_wp2_with fail
  refine (U HN _).mono ?_
  rintro e w2 ⟨rfl, hw⟩
  obtain rfl := hw.symm
  clear hw
  go_wp2_with fail
  refine (U HA _).mono ?_
  rintro e w2 ⟨rfl, hw⟩
  obtain rfl := hw.symm
  clear hw
  go_wp2_with fail
  go_quiet (fail)
  go_wp2_with fail
  go_quiet (fail)
  go_wp2_with fail
  go_quiet (fail)
  go_wp2_with fail
  go_quiet (fail)
  go_wp2_with fail
  go_ret
  first | exact ⟨rfl, _, rfl⟩ | exact ⟨rfl, _, drawn_drawn _ _ _⟩ | exact ⟨rfl, _, drawn3 _ _ _ _⟩ | exact ⟨rfl, _, drawn4 _ _ _ _ _⟩

set_option maxRecDepth 100000 in
set_option maxHeartbeats 1000000 in
theorem refused_div (B b : Nat) (m : MS) (v5 v6 v7 v8 : Value) (w : World) (h : Mc B w b m v5 v6 v7 v8) (l : List Int) (t : Int) (hst : m.stack = l ++ [t]) (hl1 : 1 ≤ l.length) (ht : t = 0) :
    Calls Tryz.prog 183 #[.pointer (some ⟨b, 0, none⟩), .int .i64 12] w fun e w' => e = .returned (.int .i64 13) ∧ ∃ n, w' = w.drewN n := by
  obtain ⟨a5, k5, hv5⟩ := own_shape h.o5
  obtain ⟨a6, k6, hv6⟩ := own_shape h.o6
  obtain ⟨a7, k7, hv7⟩ := own_shape h.o7
  obtain ⟨a8, k8, hv8⟩ := own_shape h.o8
  subst hv5
  subst hv6
  subst hv7
  subst hv8
  have hc := h.blk.cell
  unfold mcArr at hc
  have hl := h.lims
  have hsm := h.small
  have s1 : (m.stack.length : Int) ≤ 1000 := by omega
  have s2 : (m.side.length : Int) ≤ 1000 := by omega
  have s3 : (m.calls.length : Int) ≤ 1000 := by omega
  have s4 : (m.cells.length : Int) ≤ 1000 := by omega
  have s5 : (m.out.size : Int) ≤ 1000 := by omega
  have l1 : m.ls ≤ 1000 := by omega
  have l3 : m.lc ≤ 1000 := by omega
  have l4 : m.lo ≤ 1000 := by omega
  have hout : (m.out.size : Int) ≤ m.lo := by omega
  clear hl hsm
  have HN : Hid (∀ w, Calls Tryz.prog 209 #[.int .i64 12] w fun e w' => e = .returned (.tuple #[.int .i64 2, .int .i64 (-1)]) ∧ w' = w) := fun w => needs_any 12 w
  have HA : Hid (∀ w, Calls Tryz.prog 210 #[.int .i64 12] w fun e w' => e = .returned (.tuple #[.int .i64 0, .int .i64 0]) ∧ w' = w) := fun w => aside_any 12 w
  have ht' : (t == 0) = true := by simpa using ht
  clear ht
  have hl2 : (1 : Int) ≤ l.length := by omega
  have hn : m.stack.length = l.length + 1 := by rw [hst]; simp
  obtain ⟨g5, k5', hv5, _, _⟩ := h.o5.form (by omega)
  simp only [Value.slice.injEq, true_and] at hv5
  obtain ⟨rfl, rfl⟩ := hv5
  have hx := own_cell h.o5 l.length (by omega)
  have hti : inI t := h.ints.1 t (by rw [hst]; simp)
  unfold inI at hti
  obtain ⟨ht1, ht2⟩ := hti
  rw [hst, intCells_last] at hx
  rw [hn] at hc s1
  have hst' : ((l.length : Int) + 1) ≤ 1000 := by omega
  clear hst hn
  simp only [Int.natCast_add, Int.cast_ofNat_Int] at s1
  go_enter Tryz.func183, Tryz.ntmps183
  go_wp2_with fail
  refine (U HN _).mono ?_
  rintro e w2 ⟨rfl, hw⟩
  obtain rfl := hw.symm
  clear hw
  go_wp2_with fail
  refine (U HA _).mono ?_
  rintro e w2 ⟨rfl, hw⟩
  obtain rfl := hw.symm
  clear hw
  go_wp2_with fail
  go_quiet (fail)
  go_wp2_with fail
  go_quiet (fail)
  go_wp2_with fail
  go_quiet (fail)
  go_wp2_with fail
  go_ret
  first | exact ⟨rfl, _, rfl⟩ | exact ⟨rfl, _, drawn_drawn _ _ _⟩ | exact ⟨rfl, _, drawn3 _ _ _ _⟩ | exact ⟨rfl, _, drawn4 _ _ _ _ _⟩

set_option maxRecDepth 100000 in
set_option maxHeartbeats 1000000 in
theorem refused_mod_no (B b : Nat) (m : MS) (v5 v6 v7 v8 : Value) (w : World) (h : Mc B w b m v5 v6 v7 v8) (l : List Int) (t : Int) (hst : m.stack = l ++ [t]) (hl1 : 1 ≤ l.length) (ht : t ≠ 0) :
    Calls Tryz.prog 183 #[.pointer (some ⟨b, 0, none⟩), .int .i64 13] w fun e w' => e = .returned (.int .i64 0) ∧ ∃ n, w' = w.drewN n := by
  obtain ⟨a5, k5, hv5⟩ := own_shape h.o5
  obtain ⟨a6, k6, hv6⟩ := own_shape h.o6
  obtain ⟨a7, k7, hv7⟩ := own_shape h.o7
  obtain ⟨a8, k8, hv8⟩ := own_shape h.o8
  subst hv5
  subst hv6
  subst hv7
  subst hv8
  have hc := h.blk.cell
  unfold mcArr at hc
  have hl := h.lims
  have hsm := h.small
  have s1 : (m.stack.length : Int) ≤ 1000 := by omega
  have s2 : (m.side.length : Int) ≤ 1000 := by omega
  have s3 : (m.calls.length : Int) ≤ 1000 := by omega
  have s4 : (m.cells.length : Int) ≤ 1000 := by omega
  have s5 : (m.out.size : Int) ≤ 1000 := by omega
  have l1 : m.ls ≤ 1000 := by omega
  have l3 : m.lc ≤ 1000 := by omega
  have l4 : m.lo ≤ 1000 := by omega
  have hout : (m.out.size : Int) ≤ m.lo := by omega
  clear hl hsm
  have HN : Hid (∀ w, Calls Tryz.prog 209 #[.int .i64 13] w fun e w' => e = .returned (.tuple #[.int .i64 2, .int .i64 (-1)]) ∧ w' = w) := fun w => needs_any 13 w
  have HA : Hid (∀ w, Calls Tryz.prog 210 #[.int .i64 13] w fun e w' => e = .returned (.tuple #[.int .i64 0, .int .i64 0]) ∧ w' = w) := fun w => aside_any 13 w
  have ht' : (t == 0) = false := by simpa using ht
  have hl2 : (1 : Int) ≤ l.length := by omega
  have hn : m.stack.length = l.length + 1 := by rw [hst]; simp
  obtain ⟨g5, k5', hv5, _, _⟩ := h.o5.form (by omega)
  simp only [Value.slice.injEq, true_and] at hv5
  obtain ⟨rfl, rfl⟩ := hv5
  have hx := own_cell h.o5 l.length (by omega)
  have hti : inI t := h.ints.1 t (by rw [hst]; simp)
  unfold inI at hti
  obtain ⟨ht1, ht2⟩ := hti
  rw [hst, intCells_last] at hx
  rw [hn] at hc s1
  have hst' : ((l.length : Int) + 1) ≤ 1000 := by omega
  clear hst hn
  simp only [Int.natCast_add, Int.cast_ofNat_Int] at s1
  go_enter Tryz.func183, Tryz.ntmps183
  go_wp2_with fail
  refine (U HN _).mono ?_
  rintro e w2 ⟨rfl, hw⟩
  obtain rfl := hw.symm
  clear hw
  go_wp2_with fail
  refine (U HA _).mono ?_
  rintro e w2 ⟨rfl, hw⟩
  obtain rfl := hw.symm
  clear hw
  go_wp2_with fail
  go_quiet (fail)
  go_wp2_with fail
  go_quiet (fail)
  go_wp2_with fail
  go_quiet (fail)
  go_wp2_with fail
  go_quiet (fail)
  go_wp2_with fail
  go_ret
  first | exact ⟨rfl, _, rfl⟩ | exact ⟨rfl, _, drawn_drawn _ _ _⟩ | exact ⟨rfl, _, drawn3 _ _ _ _⟩ | exact ⟨rfl, _, drawn4 _ _ _ _ _⟩

set_option maxRecDepth 100000 in
set_option maxHeartbeats 1000000 in
theorem refused_mod (B b : Nat) (m : MS) (v5 v6 v7 v8 : Value) (w : World) (h : Mc B w b m v5 v6 v7 v8) (l : List Int) (t : Int) (hst : m.stack = l ++ [t]) (hl1 : 1 ≤ l.length) (ht : t = 0) :
    Calls Tryz.prog 183 #[.pointer (some ⟨b, 0, none⟩), .int .i64 13] w fun e w' => e = .returned (.int .i64 13) ∧ ∃ n, w' = w.drewN n := by
  obtain ⟨a5, k5, hv5⟩ := own_shape h.o5
  obtain ⟨a6, k6, hv6⟩ := own_shape h.o6
  obtain ⟨a7, k7, hv7⟩ := own_shape h.o7
  obtain ⟨a8, k8, hv8⟩ := own_shape h.o8
  subst hv5
  subst hv6
  subst hv7
  subst hv8
  have hc := h.blk.cell
  unfold mcArr at hc
  have hl := h.lims
  have hsm := h.small
  have s1 : (m.stack.length : Int) ≤ 1000 := by omega
  have s2 : (m.side.length : Int) ≤ 1000 := by omega
  have s3 : (m.calls.length : Int) ≤ 1000 := by omega
  have s4 : (m.cells.length : Int) ≤ 1000 := by omega
  have s5 : (m.out.size : Int) ≤ 1000 := by omega
  have l1 : m.ls ≤ 1000 := by omega
  have l3 : m.lc ≤ 1000 := by omega
  have l4 : m.lo ≤ 1000 := by omega
  have hout : (m.out.size : Int) ≤ m.lo := by omega
  clear hl hsm
  have HN : Hid (∀ w, Calls Tryz.prog 209 #[.int .i64 13] w fun e w' => e = .returned (.tuple #[.int .i64 2, .int .i64 (-1)]) ∧ w' = w) := fun w => needs_any 13 w
  have HA : Hid (∀ w, Calls Tryz.prog 210 #[.int .i64 13] w fun e w' => e = .returned (.tuple #[.int .i64 0, .int .i64 0]) ∧ w' = w) := fun w => aside_any 13 w
  have ht' : (t == 0) = true := by simpa using ht
  clear ht
  have hl2 : (1 : Int) ≤ l.length := by omega
  have hn : m.stack.length = l.length + 1 := by rw [hst]; simp
  obtain ⟨g5, k5', hv5, _, _⟩ := h.o5.form (by omega)
  simp only [Value.slice.injEq, true_and] at hv5
  obtain ⟨rfl, rfl⟩ := hv5
  have hx := own_cell h.o5 l.length (by omega)
  have hti : inI t := h.ints.1 t (by rw [hst]; simp)
  unfold inI at hti
  obtain ⟨ht1, ht2⟩ := hti
  rw [hst, intCells_last] at hx
  rw [hn] at hc s1
  have hst' : ((l.length : Int) + 1) ≤ 1000 := by omega
  clear hst hn
  simp only [Int.natCast_add, Int.cast_ofNat_Int] at s1
  go_enter Tryz.func183, Tryz.ntmps183
  go_wp2_with fail
  refine (U HN _).mono ?_
  rintro e w2 ⟨rfl, hw⟩
  obtain rfl := hw.symm
  clear hw
  go_wp2_with fail
  refine (U HA _).mono ?_
  rintro e w2 ⟨rfl, hw⟩
  obtain rfl := hw.symm
  clear hw
  go_wp2_with fail
  go_quiet (fail)
  go_wp2_with fail
  go_quiet (fail)
  go_wp2_with fail
  go_quiet (fail)
  go_wp2_with fail
  go_ret
  first | exact ⟨rfl, _, rfl⟩ | exact ⟨rfl, _, drawn_drawn _ _ _⟩ | exact ⟨rfl, _, drawn3 _ _ _ _⟩ | exact ⟨rfl, _, drawn4 _ _ _ _ _⟩

set_option maxRecDepth 100000 in
set_option maxHeartbeats 1000000 in
theorem refused_store_no (B b : Nat) (m : MS) (v5 v6 v7 v8 : Value) (w : World) (h : Mc B w b m v5 v6 v7 v8) (l : List Int) (t : Int) (hst : m.stack = l ++ [t]) (hl1 : 1 ≤ l.length) (ht0 : 0 ≤ t) (ht9 : t < m.cells.length) :
    Calls Tryz.prog 183 #[.pointer (some ⟨b, 0, none⟩), .int .i64 29] w fun e w' => e = .returned (.int .i64 0) ∧ ∃ n, w' = w.drewN n := by
  obtain ⟨a5, k5, hv5⟩ := own_shape h.o5
  obtain ⟨a6, k6, hv6⟩ := own_shape h.o6
  obtain ⟨a7, k7, hv7⟩ := own_shape h.o7
  obtain ⟨a8, k8, hv8⟩ := own_shape h.o8
  subst hv5
  subst hv6
  subst hv7
  subst hv8
  have hc := h.blk.cell
  unfold mcArr at hc
  have hl := h.lims
  have hsm := h.small
  have s1 : (m.stack.length : Int) ≤ 1000 := by omega
  have s2 : (m.side.length : Int) ≤ 1000 := by omega
  have s3 : (m.calls.length : Int) ≤ 1000 := by omega
  have s4 : (m.cells.length : Int) ≤ 1000 := by omega
  have s5 : (m.out.size : Int) ≤ 1000 := by omega
  have l1 : m.ls ≤ 1000 := by omega
  have l3 : m.lc ≤ 1000 := by omega
  have l4 : m.lo ≤ 1000 := by omega
  have hout : (m.out.size : Int) ≤ m.lo := by omega
  clear hl hsm
  have HN : Hid (∀ w, Calls Tryz.prog 209 #[.int .i64 29] w fun e w' => e = .returned (.tuple #[.int .i64 2, .int .i64 (-2)]) ∧ w' = w) := fun w => needs_any 29 w
  have HA : Hid (∀ w, Calls Tryz.prog 210 #[.int .i64 29] w fun e w' => e = .returned (.tuple #[.int .i64 0, .int .i64 0]) ∧ w' = w) := fun w => aside_any 29 w
  have hl2 : (1 : Int) ≤ l.length := by omega
  have hn : m.stack.length = l.length + 1 := by rw [hst]; simp
  obtain ⟨g5, k5', hv5, _, _⟩ := h.o5.form (by omega)
  simp only [Value.slice.injEq, true_and] at hv5
  obtain ⟨rfl, rfl⟩ := hv5
  have hx := own_cell h.o5 l.length (by omega)
  have hti : inI t := h.ints.1 t (by rw [hst]; simp)
  unfold inI at hti
  obtain ⟨ht1, ht2⟩ := hti
  rw [hst, intCells_last] at hx
  rw [hn] at hc s1
  have hst' : ((l.length : Int) + 1) ≤ 1000 := by omega
  clear hst hn
  simp only [Int.natCast_add, Int.cast_ofNat_Int] at s1
  go_enter Tryz.func183, Tryz.ntmps183
  go_wp2_with fail
  refine (U HN _).mono ?_
  rintro e w2 ⟨rfl, hw⟩
  obtain rfl := hw.symm
  clear hw
  go_wp2_with fail
  refine (U HA _).mono ?_
  rintro e w2 ⟨rfl, hw⟩
  obtain rfl := hw.symm
  clear hw
  go_wp2_with fail
  go_quiet (fail)
  go_wp2_with fail
  go_quiet (fail)
  go_wp2_with fail
  go_quiet (fail)
  go_wp2_with fail
  go_quiet (fail)
  go_wp2_with fail
  go_ret
  first | exact ⟨rfl, _, rfl⟩ | exact ⟨rfl, _, drawn_drawn _ _ _⟩ | exact ⟨rfl, _, drawn3 _ _ _ _⟩ | exact ⟨rfl, _, drawn4 _ _ _ _ _⟩

set_option maxRecDepth 100000 in
set_option maxHeartbeats 1000000 in
theorem refused_store_neg (B b : Nat) (m : MS) (v5 v6 v7 v8 : Value) (w : World) (h : Mc B w b m v5 v6 v7 v8) (l : List Int) (t : Int) (hst : m.stack = l ++ [t]) (hl1 : 1 ≤ l.length) (ht0 : t < 0) :
    Calls Tryz.prog 183 #[.pointer (some ⟨b, 0, none⟩), .int .i64 29] w fun e w' => e = .returned (.int .i64 12) ∧ ∃ n, w' = w.drewN n := by
  obtain ⟨a5, k5, hv5⟩ := own_shape h.o5
  obtain ⟨a6, k6, hv6⟩ := own_shape h.o6
  obtain ⟨a7, k7, hv7⟩ := own_shape h.o7
  obtain ⟨a8, k8, hv8⟩ := own_shape h.o8
  subst hv5
  subst hv6
  subst hv7
  subst hv8
  have hc := h.blk.cell
  unfold mcArr at hc
  have hl := h.lims
  have hsm := h.small
  have s1 : (m.stack.length : Int) ≤ 1000 := by omega
  have s2 : (m.side.length : Int) ≤ 1000 := by omega
  have s3 : (m.calls.length : Int) ≤ 1000 := by omega
  have s4 : (m.cells.length : Int) ≤ 1000 := by omega
  have s5 : (m.out.size : Int) ≤ 1000 := by omega
  have l1 : m.ls ≤ 1000 := by omega
  have l3 : m.lc ≤ 1000 := by omega
  have l4 : m.lo ≤ 1000 := by omega
  have hout : (m.out.size : Int) ≤ m.lo := by omega
  clear hl hsm
  have HN : Hid (∀ w, Calls Tryz.prog 209 #[.int .i64 29] w fun e w' => e = .returned (.tuple #[.int .i64 2, .int .i64 (-2)]) ∧ w' = w) := fun w => needs_any 29 w
  have HA : Hid (∀ w, Calls Tryz.prog 210 #[.int .i64 29] w fun e w' => e = .returned (.tuple #[.int .i64 0, .int .i64 0]) ∧ w' = w) := fun w => aside_any 29 w
  have hl2 : (1 : Int) ≤ l.length := by omega
  have hn : m.stack.length = l.length + 1 := by rw [hst]; simp
  obtain ⟨g5, k5', hv5, _, _⟩ := h.o5.form (by omega)
  simp only [Value.slice.injEq, true_and] at hv5
  obtain ⟨rfl, rfl⟩ := hv5
  have hx := own_cell h.o5 l.length (by omega)
  have hti : inI t := h.ints.1 t (by rw [hst]; simp)
  unfold inI at hti
  obtain ⟨ht1, ht2⟩ := hti
  rw [hst, intCells_last] at hx
  rw [hn] at hc s1
  have hst' : ((l.length : Int) + 1) ≤ 1000 := by omega
  clear hst hn
  simp only [Int.natCast_add, Int.cast_ofNat_Int] at s1
  go_enter Tryz.func183, Tryz.ntmps183
  go_wp2_with fail
  refine (U HN _).mono ?_
  rintro e w2 ⟨rfl, hw⟩
  obtain rfl := hw.symm
  clear hw
  go_wp2_with fail
  refine (U HA _).mono ?_
  rintro e w2 ⟨rfl, hw⟩
  obtain rfl := hw.symm
  clear hw
  go_wp2_with fail
  go_quiet (fail)
  go_wp2_with fail
  go_quiet (fail)
  go_wp2_with fail
  go_quiet (fail)
  go_wp2_with fail
  go_ret
  first | exact ⟨rfl, _, rfl⟩ | exact ⟨rfl, _, drawn_drawn _ _ _⟩ | exact ⟨rfl, _, drawn3 _ _ _ _⟩ | exact ⟨rfl, _, drawn4 _ _ _ _ _⟩

set_option maxRecDepth 100000 in
set_option maxHeartbeats 1000000 in
theorem refused_store_big (B b : Nat) (m : MS) (v5 v6 v7 v8 : Value) (w : World) (h : Mc B w b m v5 v6 v7 v8) (l : List Int) (t : Int) (hst : m.stack = l ++ [t]) (hl1 : 1 ≤ l.length) (ht0 : 0 ≤ t) (ht9 : (m.cells.length : Int) ≤ t) :
    Calls Tryz.prog 183 #[.pointer (some ⟨b, 0, none⟩), .int .i64 29] w fun e w' => e = .returned (.int .i64 12) ∧ ∃ n, w' = w.drewN n := by
  obtain ⟨a5, k5, hv5⟩ := own_shape h.o5
  obtain ⟨a6, k6, hv6⟩ := own_shape h.o6
  obtain ⟨a7, k7, hv7⟩ := own_shape h.o7
  obtain ⟨a8, k8, hv8⟩ := own_shape h.o8
  subst hv5
  subst hv6
  subst hv7
  subst hv8
  have hc := h.blk.cell
  unfold mcArr at hc
  have hl := h.lims
  have hsm := h.small
  have s1 : (m.stack.length : Int) ≤ 1000 := by omega
  have s2 : (m.side.length : Int) ≤ 1000 := by omega
  have s3 : (m.calls.length : Int) ≤ 1000 := by omega
  have s4 : (m.cells.length : Int) ≤ 1000 := by omega
  have s5 : (m.out.size : Int) ≤ 1000 := by omega
  have l1 : m.ls ≤ 1000 := by omega
  have l3 : m.lc ≤ 1000 := by omega
  have l4 : m.lo ≤ 1000 := by omega
  have hout : (m.out.size : Int) ≤ m.lo := by omega
  clear hl hsm
  have HN : Hid (∀ w, Calls Tryz.prog 209 #[.int .i64 29] w fun e w' => e = .returned (.tuple #[.int .i64 2, .int .i64 (-2)]) ∧ w' = w) := fun w => needs_any 29 w
  have HA : Hid (∀ w, Calls Tryz.prog 210 #[.int .i64 29] w fun e w' => e = .returned (.tuple #[.int .i64 0, .int .i64 0]) ∧ w' = w) := fun w => aside_any 29 w
  have hl2 : (1 : Int) ≤ l.length := by omega
  have hn : m.stack.length = l.length + 1 := by rw [hst]; simp
  obtain ⟨g5, k5', hv5, _, _⟩ := h.o5.form (by omega)
  simp only [Value.slice.injEq, true_and] at hv5
  obtain ⟨rfl, rfl⟩ := hv5
  have hx := own_cell h.o5 l.length (by omega)
  have hti : inI t := h.ints.1 t (by rw [hst]; simp)
  unfold inI at hti
  obtain ⟨ht1, ht2⟩ := hti
  rw [hst, intCells_last] at hx
  rw [hn] at hc s1
  have hst' : ((l.length : Int) + 1) ≤ 1000 := by omega
  clear hst hn
  simp only [Int.natCast_add, Int.cast_ofNat_Int] at s1
  go_enter Tryz.func183, Tryz.ntmps183
  go_wp2_with fail
  refine (U HN _).mono ?_
  rintro e w2 ⟨rfl, hw⟩
  obtain rfl := hw.symm
  clear hw
  go_wp2_with fail
  refine (U HA _).mono ?_
  rintro e w2 ⟨rfl, hw⟩
  obtain rfl := hw.symm
  clear hw
  go_wp2_with fail
  go_quiet (fail)
  go_wp2_with fail
  go_quiet (fail)
  go_wp2_with fail
  go_quiet (fail)
  go_wp2_with fail
  go_ret
  first | exact ⟨rfl, _, rfl⟩ | exact ⟨rfl, _, drawn_drawn _ _ _⟩ | exact ⟨rfl, _, drawn3 _ _ _ _⟩ | exact ⟨rfl, _, drawn4 _ _ _ _ _⟩

set_option maxRecDepth 100000 in
set_option maxHeartbeats 1000000 in
theorem refused_fetch_no (B b : Nat) (m : MS) (v5 v6 v7 v8 : Value) (w : World) (h : Mc B w b m v5 v6 v7 v8) (l : List Int) (t : Int) (hst : m.stack = l ++ [t]) (ht0 : 0 ≤ t) (ht9 : t < m.cells.length) :
    Calls Tryz.prog 183 #[.pointer (some ⟨b, 0, none⟩), .int .i64 30] w fun e w' => e = .returned (.int .i64 0) ∧ ∃ n, w' = w.drewN n := by
  obtain ⟨a5, k5, hv5⟩ := own_shape h.o5
  obtain ⟨a6, k6, hv6⟩ := own_shape h.o6
  obtain ⟨a7, k7, hv7⟩ := own_shape h.o7
  obtain ⟨a8, k8, hv8⟩ := own_shape h.o8
  subst hv5
  subst hv6
  subst hv7
  subst hv8
  have hc := h.blk.cell
  unfold mcArr at hc
  have hl := h.lims
  have hsm := h.small
  have s1 : (m.stack.length : Int) ≤ 1000 := by omega
  have s2 : (m.side.length : Int) ≤ 1000 := by omega
  have s3 : (m.calls.length : Int) ≤ 1000 := by omega
  have s4 : (m.cells.length : Int) ≤ 1000 := by omega
  have s5 : (m.out.size : Int) ≤ 1000 := by omega
  have l1 : m.ls ≤ 1000 := by omega
  have l3 : m.lc ≤ 1000 := by omega
  have l4 : m.lo ≤ 1000 := by omega
  have hout : (m.out.size : Int) ≤ m.lo := by omega
  clear hl hsm
  have HN : Hid (∀ w, Calls Tryz.prog 209 #[.int .i64 30] w fun e w' => e = .returned (.tuple #[.int .i64 1, .int .i64 0]) ∧ w' = w) := fun w => needs_any 30 w
  have HA : Hid (∀ w, Calls Tryz.prog 210 #[.int .i64 30] w fun e w' => e = .returned (.tuple #[.int .i64 0, .int .i64 0]) ∧ w' = w) := fun w => aside_any 30 w
  have hn : m.stack.length = l.length + 1 := by rw [hst]; simp
  obtain ⟨g5, k5', hv5, _, _⟩ := h.o5.form (by omega)
  simp only [Value.slice.injEq, true_and] at hv5
  obtain ⟨rfl, rfl⟩ := hv5
  have hx := own_cell h.o5 l.length (by omega)
  have hti : inI t := h.ints.1 t (by rw [hst]; simp)
  unfold inI at hti
  obtain ⟨ht1, ht2⟩ := hti
  rw [hst, intCells_last] at hx
  rw [hn] at hc s1
  have hst' : ((l.length : Int) + 1) ≤ 1000 := by omega
  clear hst hn
  simp only [Int.natCast_add, Int.cast_ofNat_Int] at s1
  go_enter Tryz.func183, Tryz.ntmps183
  go_wp2_with fail
  refine (U HN _).mono ?_
  rintro e w2 ⟨rfl, hw⟩
  obtain rfl := hw.symm
  clear hw
  go_wp2_with fail
  refine (U HA _).mono ?_
  rintro e w2 ⟨rfl, hw⟩
  obtain rfl := hw.symm
  clear hw
  go_wp2_with fail
  go_quiet (fail)
  go_wp2_with fail
  go_quiet (fail)
  go_wp2_with fail
  go_quiet (fail)
  go_wp2_with fail
  go_quiet (fail)
  go_wp2_with fail
  go_ret
  first | exact ⟨rfl, _, rfl⟩ | exact ⟨rfl, _, drawn_drawn _ _ _⟩ | exact ⟨rfl, _, drawn3 _ _ _ _⟩ | exact ⟨rfl, _, drawn4 _ _ _ _ _⟩

set_option maxRecDepth 100000 in
set_option maxHeartbeats 1000000 in
theorem refused_fetch_neg (B b : Nat) (m : MS) (v5 v6 v7 v8 : Value) (w : World) (h : Mc B w b m v5 v6 v7 v8) (l : List Int) (t : Int) (hst : m.stack = l ++ [t]) (ht0 : t < 0) :
    Calls Tryz.prog 183 #[.pointer (some ⟨b, 0, none⟩), .int .i64 30] w fun e w' => e = .returned (.int .i64 12) ∧ ∃ n, w' = w.drewN n := by
  obtain ⟨a5, k5, hv5⟩ := own_shape h.o5
  obtain ⟨a6, k6, hv6⟩ := own_shape h.o6
  obtain ⟨a7, k7, hv7⟩ := own_shape h.o7
  obtain ⟨a8, k8, hv8⟩ := own_shape h.o8
  subst hv5
  subst hv6
  subst hv7
  subst hv8
  have hc := h.blk.cell
  unfold mcArr at hc
  have hl := h.lims
  have hsm := h.small
  have s1 : (m.stack.length : Int) ≤ 1000 := by omega
  have s2 : (m.side.length : Int) ≤ 1000 := by omega
  have s3 : (m.calls.length : Int) ≤ 1000 := by omega
  have s4 : (m.cells.length : Int) ≤ 1000 := by omega
  have s5 : (m.out.size : Int) ≤ 1000 := by omega
  have l1 : m.ls ≤ 1000 := by omega
  have l3 : m.lc ≤ 1000 := by omega
  have l4 : m.lo ≤ 1000 := by omega
  have hout : (m.out.size : Int) ≤ m.lo := by omega
  clear hl hsm
  have HN : Hid (∀ w, Calls Tryz.prog 209 #[.int .i64 30] w fun e w' => e = .returned (.tuple #[.int .i64 1, .int .i64 0]) ∧ w' = w) := fun w => needs_any 30 w
  have HA : Hid (∀ w, Calls Tryz.prog 210 #[.int .i64 30] w fun e w' => e = .returned (.tuple #[.int .i64 0, .int .i64 0]) ∧ w' = w) := fun w => aside_any 30 w
  have hn : m.stack.length = l.length + 1 := by rw [hst]; simp
  obtain ⟨g5, k5', hv5, _, _⟩ := h.o5.form (by omega)
  simp only [Value.slice.injEq, true_and] at hv5
  obtain ⟨rfl, rfl⟩ := hv5
  have hx := own_cell h.o5 l.length (by omega)
  have hti : inI t := h.ints.1 t (by rw [hst]; simp)
  unfold inI at hti
  obtain ⟨ht1, ht2⟩ := hti
  rw [hst, intCells_last] at hx
  rw [hn] at hc s1
  have hst' : ((l.length : Int) + 1) ≤ 1000 := by omega
  clear hst hn
  simp only [Int.natCast_add, Int.cast_ofNat_Int] at s1
  go_enter Tryz.func183, Tryz.ntmps183
  go_wp2_with fail
  refine (U HN _).mono ?_
  rintro e w2 ⟨rfl, hw⟩
  obtain rfl := hw.symm
  clear hw
  go_wp2_with fail
  refine (U HA _).mono ?_
  rintro e w2 ⟨rfl, hw⟩
  obtain rfl := hw.symm
  clear hw
  go_wp2_with fail
  go_quiet (fail)
  go_wp2_with fail
  go_quiet (fail)
  go_wp2_with fail
  go_quiet (fail)
  go_wp2_with fail
  go_ret
  first | exact ⟨rfl, _, rfl⟩ | exact ⟨rfl, _, drawn_drawn _ _ _⟩ | exact ⟨rfl, _, drawn3 _ _ _ _⟩ | exact ⟨rfl, _, drawn4 _ _ _ _ _⟩

set_option maxRecDepth 100000 in
set_option maxHeartbeats 1000000 in
theorem refused_fetch_big (B b : Nat) (m : MS) (v5 v6 v7 v8 : Value) (w : World) (h : Mc B w b m v5 v6 v7 v8) (l : List Int) (t : Int) (hst : m.stack = l ++ [t]) (ht0 : 0 ≤ t) (ht9 : (m.cells.length : Int) ≤ t) :
    Calls Tryz.prog 183 #[.pointer (some ⟨b, 0, none⟩), .int .i64 30] w fun e w' => e = .returned (.int .i64 12) ∧ ∃ n, w' = w.drewN n := by
  obtain ⟨a5, k5, hv5⟩ := own_shape h.o5
  obtain ⟨a6, k6, hv6⟩ := own_shape h.o6
  obtain ⟨a7, k7, hv7⟩ := own_shape h.o7
  obtain ⟨a8, k8, hv8⟩ := own_shape h.o8
  subst hv5
  subst hv6
  subst hv7
  subst hv8
  have hc := h.blk.cell
  unfold mcArr at hc
  have hl := h.lims
  have hsm := h.small
  have s1 : (m.stack.length : Int) ≤ 1000 := by omega
  have s2 : (m.side.length : Int) ≤ 1000 := by omega
  have s3 : (m.calls.length : Int) ≤ 1000 := by omega
  have s4 : (m.cells.length : Int) ≤ 1000 := by omega
  have s5 : (m.out.size : Int) ≤ 1000 := by omega
  have l1 : m.ls ≤ 1000 := by omega
  have l3 : m.lc ≤ 1000 := by omega
  have l4 : m.lo ≤ 1000 := by omega
  have hout : (m.out.size : Int) ≤ m.lo := by omega
  clear hl hsm
  have HN : Hid (∀ w, Calls Tryz.prog 209 #[.int .i64 30] w fun e w' => e = .returned (.tuple #[.int .i64 1, .int .i64 0]) ∧ w' = w) := fun w => needs_any 30 w
  have HA : Hid (∀ w, Calls Tryz.prog 210 #[.int .i64 30] w fun e w' => e = .returned (.tuple #[.int .i64 0, .int .i64 0]) ∧ w' = w) := fun w => aside_any 30 w
  have hn : m.stack.length = l.length + 1 := by rw [hst]; simp
  obtain ⟨g5, k5', hv5, _, _⟩ := h.o5.form (by omega)
  simp only [Value.slice.injEq, true_and] at hv5
  obtain ⟨rfl, rfl⟩ := hv5
  have hx := own_cell h.o5 l.length (by omega)
  have hti : inI t := h.ints.1 t (by rw [hst]; simp)
  unfold inI at hti
  obtain ⟨ht1, ht2⟩ := hti
  rw [hst, intCells_last] at hx
  rw [hn] at hc s1
  have hst' : ((l.length : Int) + 1) ≤ 1000 := by omega
  clear hst hn
  simp only [Int.natCast_add, Int.cast_ofNat_Int] at s1
  go_enter Tryz.func183, Tryz.ntmps183
  go_wp2_with fail
  refine (U HN _).mono ?_
  rintro e w2 ⟨rfl, hw⟩
  obtain rfl := hw.symm
  clear hw
  go_wp2_with fail
  refine (U HA _).mono ?_
  rintro e w2 ⟨rfl, hw⟩
  obtain rfl := hw.symm
  clear hw
  go_wp2_with fail
  go_quiet (fail)
  go_wp2_with fail
  go_quiet (fail)
  go_wp2_with fail
  go_quiet (fail)
  go_wp2_with fail
  go_ret
  first | exact ⟨rfl, _, rfl⟩ | exact ⟨rfl, _, drawn_drawn _ _ _⟩ | exact ⟨rfl, _, drawn3 _ _ _ _⟩ | exact ⟨rfl, _, drawn4 _ _ _ _ _⟩

set_option maxRecDepth 100000 in
set_option maxHeartbeats 1000000 in
theorem refused_emit_no (B b : Nat) (m : MS) (v5 v6 v7 v8 : Value) (w : World) (h : Mc B w b m v5 v6 v7 v8) (l : List Int) (t : Int) (hst : m.stack = l ++ [t]) (ho : (m.out.size : Int) + 1 ≤ m.lo) :
    Calls Tryz.prog 183 #[.pointer (some ⟨b, 0, none⟩), .int .i64 31] w fun e w' => e = .returned (.int .i64 0) ∧ ∃ n, w' = w.drewN n := by
  obtain ⟨a5, k5, hv5⟩ := own_shape h.o5
  obtain ⟨a6, k6, hv6⟩ := own_shape h.o6
  obtain ⟨a7, k7, hv7⟩ := own_shape h.o7
  obtain ⟨a8, k8, hv8⟩ := own_shape h.o8
  subst hv5
  subst hv6
  subst hv7
  subst hv8
  have hc := h.blk.cell
  unfold mcArr at hc
  have hl := h.lims
  have hsm := h.small
  have s1 : (m.stack.length : Int) ≤ 1000 := by omega
  have s2 : (m.side.length : Int) ≤ 1000 := by omega
  have s3 : (m.calls.length : Int) ≤ 1000 := by omega
  have s4 : (m.cells.length : Int) ≤ 1000 := by omega
  have s5 : (m.out.size : Int) ≤ 1000 := by omega
  have l1 : m.ls ≤ 1000 := by omega
  have l3 : m.lc ≤ 1000 := by omega
  have l4 : m.lo ≤ 1000 := by omega
  have hout : (m.out.size : Int) ≤ m.lo := by omega
  clear hl hsm
  have HN : Hid (∀ w, Calls Tryz.prog 209 #[.int .i64 31] w fun e w' => e = .returned (.tuple #[.int .i64 1, .int .i64 (-1)]) ∧ w' = w) := fun w => needs_any 31 w
  have HA : Hid (∀ w, Calls Tryz.prog 210 #[.int .i64 31] w fun e w' => e = .returned (.tuple #[.int .i64 0, .int .i64 0]) ∧ w' = w) := fun w => aside_any 31 w
  have hn : m.stack.length = l.length + 1 := by rw [hst]; simp
  obtain ⟨g5, k5', hv5, _, _⟩ := h.o5.form (by omega)
  simp only [Value.slice.injEq, true_and] at hv5
  obtain ⟨rfl, rfl⟩ := hv5
  have hx := own_cell h.o5 l.length (by omega)
  have hti : inI t := h.ints.1 t (by rw [hst]; simp)
  unfold inI at hti
  obtain ⟨ht1, ht2⟩ := hti
  rw [hst, intCells_last] at hx
  rw [hn] at hc s1
  have hst' : ((l.length : Int) + 1) ≤ 1000 := by omega
  clear hst hn
  simp only [Int.natCast_add, Int.cast_ofNat_Int] at s1
  go_enter Tryz.func183, Tryz.ntmps183
  go_wp2_with fail
  refine (U HN _).mono ?_
  rintro e w2 ⟨rfl, hw⟩
  obtain rfl := hw.symm
  clear hw
  go_wp2_with fail
  refine (U HA _).mono ?_
  rintro e w2 ⟨rfl, hw⟩
  obtain rfl := hw.symm
  clear hw
  go_wp2_with fail
  go_quiet (fail)
  go_wp2_with fail
  go_quiet (fail)
  go_wp2_with fail
  go_quiet (fail)
  go_wp2_with fail
  go_quiet (fail)
  go_wp2_with fail
  go_ret
  first | exact ⟨rfl, _, rfl⟩ | exact ⟨rfl, _, drawn_drawn _ _ _⟩ | exact ⟨rfl, _, drawn3 _ _ _ _⟩ | exact ⟨rfl, _, drawn4 _ _ _ _ _⟩

set_option maxRecDepth 100000 in
set_option maxHeartbeats 1000000 in
theorem refused_emit (B b : Nat) (m : MS) (v5 v6 v7 v8 : Value) (w : World) (h : Mc B w b m v5 v6 v7 v8) (l : List Int) (t : Int) (hst : m.stack = l ++ [t]) (ho : m.lo < (m.out.size : Int) + 1) :
    Calls Tryz.prog 183 #[.pointer (some ⟨b, 0, none⟩), .int .i64 31] w fun e w' => e = .returned (.int .i64 14) ∧ ∃ n, w' = w.drewN n := by
  obtain ⟨a5, k5, hv5⟩ := own_shape h.o5
  obtain ⟨a6, k6, hv6⟩ := own_shape h.o6
  obtain ⟨a7, k7, hv7⟩ := own_shape h.o7
  obtain ⟨a8, k8, hv8⟩ := own_shape h.o8
  subst hv5
  subst hv6
  subst hv7
  subst hv8
  have hc := h.blk.cell
  unfold mcArr at hc
  have hl := h.lims
  have hsm := h.small
  have s1 : (m.stack.length : Int) ≤ 1000 := by omega
  have s2 : (m.side.length : Int) ≤ 1000 := by omega
  have s3 : (m.calls.length : Int) ≤ 1000 := by omega
  have s4 : (m.cells.length : Int) ≤ 1000 := by omega
  have s5 : (m.out.size : Int) ≤ 1000 := by omega
  have l1 : m.ls ≤ 1000 := by omega
  have l3 : m.lc ≤ 1000 := by omega
  have l4 : m.lo ≤ 1000 := by omega
  have hout : (m.out.size : Int) ≤ m.lo := by omega
  clear hl hsm
  have HN : Hid (∀ w, Calls Tryz.prog 209 #[.int .i64 31] w fun e w' => e = .returned (.tuple #[.int .i64 1, .int .i64 (-1)]) ∧ w' = w) := fun w => needs_any 31 w
  have HA : Hid (∀ w, Calls Tryz.prog 210 #[.int .i64 31] w fun e w' => e = .returned (.tuple #[.int .i64 0, .int .i64 0]) ∧ w' = w) := fun w => aside_any 31 w
  have hn : m.stack.length = l.length + 1 := by rw [hst]; simp
  obtain ⟨g5, k5', hv5, _, _⟩ := h.o5.form (by omega)
  simp only [Value.slice.injEq, true_and] at hv5
  obtain ⟨rfl, rfl⟩ := hv5
  have hx := own_cell h.o5 l.length (by omega)
  have hti : inI t := h.ints.1 t (by rw [hst]; simp)
  unfold inI at hti
  obtain ⟨ht1, ht2⟩ := hti
  rw [hst, intCells_last] at hx
  rw [hn] at hc s1
  have hst' : ((l.length : Int) + 1) ≤ 1000 := by omega
  clear hst hn
  simp only [Int.natCast_add, Int.cast_ofNat_Int] at s1
  go_enter Tryz.func183, Tryz.ntmps183
  go_wp2_with fail
  refine (U HN _).mono ?_
  rintro e w2 ⟨rfl, hw⟩
  obtain rfl := hw.symm
  clear hw
  go_wp2_with fail
  refine (U HA _).mono ?_
  rintro e w2 ⟨rfl, hw⟩
  obtain rfl := hw.symm
  clear hw
  go_wp2_with fail
  go_quiet (fail)
  go_wp2_with fail
  go_quiet (fail)
  go_wp2_with fail
  go_quiet (fail)
  go_wp2_with fail
  go_quiet (fail)
  go_wp2_with fail
  go_ret
  first | exact ⟨rfl, _, rfl⟩ | exact ⟨rfl, _, drawn_drawn _ _ _⟩ | exact ⟨rfl, _, drawn3 _ _ _ _⟩ | exact ⟨rfl, _, drawn4 _ _ _ _ _⟩
end Go.Proofs.YtmeiikjpaepogaaGreatDoor
