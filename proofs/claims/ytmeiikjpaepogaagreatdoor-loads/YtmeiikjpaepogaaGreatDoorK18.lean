/- The reference's Machine: do, the other operators; refused, Dot. -/
import Derived.Test.YtmeiikjpaepogaaGreatDoorK16
import Derived.Test.YtmeiikjpaepogaaGreatDoorK17
namespace Go.Proofs.YtmeiikjpaepogaaGreatDoor
open Go Go.RowKit

set_option maxRecDepth 100000 in
set_option maxHeartbeats 2000000 in
theorem do_move (b : Nat) (op arg : Int) (w : World) (P : World → Prop) (hop : op = 21 ∨ op = 22 ∨ op = 23 ∨ op = 24 ∨ op = 25 ∨ op = 26 ∨ op = 27 ∨ op = 29 ∨ op = 30 ∨ op = 31 ∨ op = 32)
    (h : Calls Tryz.prog 215 #[.pointer (some ⟨b, 0, none⟩), .int .i64 op] w fun e w' => e = .returned (.tuple #[]) ∧ P w') :
    Calls Tryz.prog 184 #[.pointer (some ⟨b, 0, none⟩), .int .i64 op, .int .i64 arg] w fun e w' => e = .returned (.tuple #[]) ∧ P w' := by
  have HM := V h
  clear h
  rcases hop with rfl | rfl | rfl | rfl | rfl | rfl | rfl | rfl | rfl | rfl | rfl
  all_goals
    go_enter Tryz.func184, Tryz.ntmps184
    go_wp2_with fail
    refine (U HM).mono ?_
    rintro e w1 ⟨rfl, h1⟩
    go_wp2_with fail
    go_end0
    exact ⟨rfl, h1⟩
theorem digits_le (t : Int) : (digitsS t).length ≤ 26 := by
  unfold digitsS
  have := digL_length 25 t.natAbs
  split
  · simp; omega
  · omega

set_option maxRecDepth 100000 in
set_option maxHeartbeats 1000000 in
theorem refused_dot_no (B b : Nat) (m : MS) (v5 v6 v7 v8 : Value) (w : World) (h : Mc B w b m v5 v6 v7 v8) (l : List Int) (t : Int) (hst : m.stack = l ++ [t]) (ho : (m.out.size : Int) + (digitsS t).length + 1 ≤ m.lo) :
    Calls Tryz.prog 183 #[.pointer (some ⟨b, 0, none⟩), .int .i64 32] w fun e w' => e = .returned (.int .i64 0) ∧ Below w.heap.size w w' := by
  obtain ⟨a5, k5, hv5⟩ := own_shape h.o5
  obtain ⟨a6, k6, hv6⟩ := own_shape h.o6
  obtain ⟨a7, k7, hv7⟩ := own_shape h.o7
  obtain ⟨a8, k8, hv8⟩ := own_shape h.o8
  subst hv5
  subst hv6
  subst hv7
  subst hv8
  have hc := h.blk.cell
  unfold mcArr at hc
  have hl := h.lims
  have hsm := h.small
  have s1 : (m.stack.length : Int) ≤ 1000 := by omega
  have s2 : (m.side.length : Int) ≤ 1000 := by omega
  have s3 : (m.calls.length : Int) ≤ 1000 := by omega
  have s4 : (m.cells.length : Int) ≤ 1000 := by omega
  have s5 : (m.out.size : Int) ≤ 1000 := by omega
  have l1 : m.ls ≤ 1000 := by omega
  have l3 : m.lc ≤ 1000 := by omega
  have l4 : m.lo ≤ 1000 := by omega
  have hout : (m.out.size : Int) ≤ m.lo := by omega
  clear hl hsm
  have HD := V (fun n => digits_any t (w.drewN n) (h.ints.1 t (by rw [hst]; simp)))
  have hdl : (⟨(digitsS t).toArray⟩ : ByteArray).size = (digitsS t).length := by simp [ByteArray.size]
  have hd26 : (digitsS t).length ≤ 26 := digits_le t
  generalize (⟨(digitsS t).toArray⟩ : ByteArray) = ds at HD hdl
  generalize (digitsS t).length = dn at hdl hd26 ho
  have hsz9 : (ds ++ (⟨#[32]⟩ : ByteArray)).size = dn + 1 := by rw [ByteArray.size_append, hdl]; rfl
  have hdn : (dn : Int) ≤ 26 := by omega
  have HM := V h.blk
  unfold mcArr at HM
  have hblt := h.blk.lt
  have HN : Hid (∀ w, Calls Tryz.prog 209 #[.int .i64 32] w fun e w' => e = .returned (.tuple #[.int .i64 1, .int .i64 (-1)]) ∧ w' = w) := fun w => needs_any 32 w
  have HA : Hid (∀ w, Calls Tryz.prog 210 #[.int .i64 32] w fun e w' => e = .returned (.tuple #[.int .i64 0, .int .i64 0]) ∧ w' = w) := fun w => aside_any 32 w
  have hn : m.stack.length = l.length + 1 := by rw [hst]; simp
  obtain ⟨g5, k5', hv5, _, _⟩ := h.o5.form (by omega)
  simp only [Value.slice.injEq, true_and] at hv5
  obtain ⟨rfl, rfl⟩ := hv5
  have hx := own_cell h.o5 l.length (by omega)
  have hti : inI t := h.ints.1 t (by rw [hst]; simp)
  unfold inI at hti
  obtain ⟨ht1, ht2⟩ := hti
  rw [hst, intCells_last] at hx
  rw [hn] at hc s1
  have hst' : ((l.length : Int) + 1) ≤ 1000 := by omega
  clear hst hn
  simp only [Int.natCast_add, Int.cast_ofNat_Int] at s1
  go_enter Tryz.func183, Tryz.ntmps183
  go_wp2_with fail
  refine (U HN _).mono ?_
  rintro e w2 ⟨rfl, hw⟩
  obtain rfl := hw.symm
  clear hw
  go_wp2_with fail
  refine (U HA _).mono ?_
  rintro e w2 ⟨rfl, hw⟩
  obtain rfl := hw.symm
  clear hw
  go_wp2_with fail
  go_quiet (fail)
  go_wp2_with fail
  go_quiet (fail)
  go_wp2_with fail
  go_quiet (fail)
  go_wp2_with fail
  refine (U HD _).mono ?_
  rintro e w3 ⟨rfl, hb4⟩
  have hb6 := below_drewN hb4
  have hb5 := (U HM).below hb6 hblt
  have hc3 := hb5.cell
  have hl1 : ¬ 9223372036854775807 < dn + 1 := by omega
  have hl2 : (m.out.size : Int) + ((dn : Int) + 1) ≤ 9223372036854775807 := by omega
  clear hc hb5 hb4 HD HM hx ht1 ht2
  go_wp2_with fail
  go_quiet (fail)
  clear hsz9 hl1 hl2 hdl hd26 hc3
  generalize ds ++ (⟨#[32]⟩ : ByteArray) = dd
  have ho2 : (m.out.size : Int) + ((dn : Int) + 1) = (m.out.size : Int) + dn + 1 := by omega
  go_wp2_with fail
  go_ret
  exact ⟨rfl, below_to_drewN hb6 _⟩

set_option maxRecDepth 100000 in
set_option maxHeartbeats 1000000 in
theorem refused_dot (B b : Nat) (m : MS) (v5 v6 v7 v8 : Value) (w : World) (h : Mc B w b m v5 v6 v7 v8) (l : List Int) (t : Int) (hst : m.stack = l ++ [t]) (ho : m.lo < (m.out.size : Int) + (digitsS t).length + 1) :
    Calls Tryz.prog 183 #[.pointer (some ⟨b, 0, none⟩), .int .i64 32] w fun e w' => e = .returned (.int .i64 14) ∧ Below w.heap.size w w' := by
  obtain ⟨a5, k5, hv5⟩ := own_shape h.o5
  obtain ⟨a6, k6, hv6⟩ := own_shape h.o6
  obtain ⟨a7, k7, hv7⟩ := own_shape h.o7
  obtain ⟨a8, k8, hv8⟩ := own_shape h.o8
  subst hv5
  subst hv6
  subst hv7
  subst hv8
  have hc := h.blk.cell
  unfold mcArr at hc
  have hl := h.lims
  have hsm := h.small
  have s1 : (m.stack.length : Int) ≤ 1000 := by omega
  have s2 : (m.side.length : Int) ≤ 1000 := by omega
  have s3 : (m.calls.length : Int) ≤ 1000 := by omega
  have s4 : (m.cells.length : Int) ≤ 1000 := by omega
  have s5 : (m.out.size : Int) ≤ 1000 := by omega
  have l1 : m.ls ≤ 1000 := by omega
  have l3 : m.lc ≤ 1000 := by omega
  have l4 : m.lo ≤ 1000 := by omega
  have hout : (m.out.size : Int) ≤ m.lo := by omega
  clear hl hsm
  have HD := V (fun n => digits_any t (w.drewN n) (h.ints.1 t (by rw [hst]; simp)))
  have hdl : (⟨(digitsS t).toArray⟩ : ByteArray).size = (digitsS t).length := by simp [ByteArray.size]
  have hd26 : (digitsS t).length ≤ 26 := digits_le t
  generalize (⟨(digitsS t).toArray⟩ : ByteArray) = ds at HD hdl
  generalize (digitsS t).length = dn at hdl hd26 ho
  have hsz9 : (ds ++ (⟨#[32]⟩ : ByteArray)).size = dn + 1 := by rw [ByteArray.size_append, hdl]; rfl
  have hdn : (dn : Int) ≤ 26 := by omega
  have HM := V h.blk
  unfold mcArr at HM
  have hblt := h.blk.lt
  have HN : Hid (∀ w, Calls Tryz.prog 209 #[.int .i64 32] w fun e w' => e = .returned (.tuple #[.int .i64 1, .int .i64 (-1)]) ∧ w' = w) := fun w => needs_any 32 w
  have HA : Hid (∀ w, Calls Tryz.prog 210 #[.int .i64 32] w fun e w' => e = .returned (.tuple #[.int .i64 0, .int .i64 0]) ∧ w' = w) := fun w => aside_any 32 w
  have hn : m.stack.length = l.length + 1 := by rw [hst]; simp
  obtain ⟨g5, k5', hv5, _, _⟩ := h.o5.form (by omega)
  simp only [Value.slice.injEq, true_and] at hv5
  obtain ⟨rfl, rfl⟩ := hv5
  have hx := own_cell h.o5 l.length (by omega)
  have hti : inI t := h.ints.1 t (by rw [hst]; simp)
  unfold inI at hti
  obtain ⟨ht1, ht2⟩ := hti
  rw [hst, intCells_last] at hx
  rw [hn] at hc s1
  have hst' : ((l.length : Int) + 1) ≤ 1000 := by omega
  clear hst hn
  simp only [Int.natCast_add, Int.cast_ofNat_Int] at s1
  go_enter Tryz.func183, Tryz.ntmps183
  go_wp2_with fail
  refine (U HN _).mono ?_
  rintro e w2 ⟨rfl, hw⟩
  obtain rfl := hw.symm
  clear hw
  go_wp2_with fail
  refine (U HA _).mono ?_
  rintro e w2 ⟨rfl, hw⟩
  obtain rfl := hw.symm
  clear hw
  go_wp2_with fail
  go_quiet (fail)
  go_wp2_with fail
  go_quiet (fail)
  go_wp2_with fail
  go_quiet (fail)
  go_wp2_with fail
  refine (U HD _).mono ?_
  rintro e w3 ⟨rfl, hb4⟩
  have hb6 := below_drewN hb4
  have hb5 := (U HM).below hb6 hblt
  have hc3 := hb5.cell
  have hl1 : ¬ 9223372036854775807 < dn + 1 := by omega
  have hl2 : (m.out.size : Int) + ((dn : Int) + 1) ≤ 9223372036854775807 := by omega
  clear hc hb5 hb4 HD HM hx ht1 ht2
  go_wp2_with fail
  go_quiet (fail)
  clear hsz9 hl1 hl2 hdl hd26 hc3
  generalize ds ++ (⟨#[32]⟩ : ByteArray) = dd
  have ho2 : (m.out.size : Int) + ((dn : Int) + 1) = (m.out.size : Int) + dn + 1 := by omega
  go_wp2_with fail
  go_ret
  exact ⟨rfl, below_to_drewN hb6 _⟩
def topS (m : MS) : Int := m.stack.getLast?.getD 0
def refusedS (m : MS) (op : Int) : Int :=
  if (m.stack.length : Int) < (needsS op).1 then 7
  else if 0 < (needsS op).2 ∧ m.ls < m.stack.length + (needsS op).2 then 8
  else if (m.side.length : Int) < (asideS op).1 then 9
  else if 0 < (asideS op).2 ∧ m.la < m.side.length + (asideS op).2 then 10
  else if op = 3 then (if m.lc ≤ m.calls.length then 11 else 0)
  else if op = 4 then (if m.calls.length = 0 then 11 else 0)
  else if op = 29 ∨ op = 30 then (if topS m < 0 ∨ (m.cells.length : Int) ≤ topS m then 12 else 0)
  else if op = 12 ∨ op = 13 then (if topS m = 0 then 13 else 0)
  else if op = 31 then (if m.lo < (m.out.size : Int) + 1 then 14 else 0)
  else if op = 32 then (if m.lo < (m.out.size : Int) + (digitsS (topS m)).length + 1 then 14 else 0)
  else 0

theorem drawn_below {P : Program} {f : FuncId} {vs : Array Value} {w : World} {x : Int} {y : Int} (hxy : x = y) (h : Calls P f vs w fun e w' => e = .returned (.int .i64 x) ∧ ∃ n, w' = w.drewN n) :
    Calls P f vs w fun e w' => e = .returned (.int .i64 y) ∧ Below w.heap.size w w' := by
  subst hxy
  refine h.mono ?_
  rintro e w' ⟨rfl, n, rfl⟩
  exact ⟨rfl, below_to_drewN (Below.refl _ _) n⟩

theorem top_form (m : MS) (h : 1 ≤ m.stack.length) : ∃ l, m.stack = l ++ [topS m] := by
  rcases List.eq_nil_or_concat m.stack with e | ⟨l, t, e⟩
  · rw [e] at h; simp at h
  · rw [List.concat_eq_append] at e
    exact ⟨l, by rw [e]; simp [topS, e]⟩

theorem refused_any (B b : Nat) (m : MS) (op : Int) (w : World) (h : McE B w b m) :
    Calls Tryz.prog 183 #[.pointer (some ⟨b, 0, none⟩), .int .i64 op] w fun e w' => e = .returned (.int .i64 (refusedS m op)) ∧ Below w.heap.size w w' := by
  obtain ⟨v5, v6, v7, v8, h⟩ := h
  by_cases c1 : (m.stack.length : Int) < (needsS op).1
  · exact drawn_below (by rw [refusedS, if_pos c1]) (refused_under B b m v5 v6 v7 v8 op w h c1)
  by_cases c2 : 0 < (needsS op).2 ∧ m.ls < m.stack.length + (needsS op).2
  · exact drawn_below (by rw [refusedS, if_neg c1, if_pos c2]) (refused_over B b m v5 v6 v7 v8 op w h (by omega) c2.1 c2.2)
  by_cases c3 : (m.side.length : Int) < (asideS op).1
  · exact drawn_below (by rw [refusedS, if_neg c1, if_neg c2, if_pos c3]) (refused_low B b m v5 v6 v7 v8 op w h (by omega) (by omega) c3)
  by_cases c4 : 0 < (asideS op).2 ∧ m.la < m.side.length + (asideS op).2
  · exact drawn_below (by rw [refusedS, if_neg c1, if_neg c2, if_neg c3, if_pos c4]) (refused_high B b m v5 v6 v7 v8 op w h (by omega) (by omega) (by omega) c4.1 c4.2)
  have hr : refusedS m op = if op = 3 then (if m.lc ≤ m.calls.length then 11 else 0)
      else if op = 4 then (if m.calls.length = 0 then 11 else 0)
      else if op = 29 ∨ op = 30 then (if topS m < 0 ∨ (m.cells.length : Int) ≤ topS m then 12 else 0)
      else if op = 12 ∨ op = 13 then (if topS m = 0 then 13 else 0)
      else if op = 31 then (if m.lo < (m.out.size : Int) + 1 then 14 else 0)
      else if op = 32 then (if m.lo < (m.out.size : Int) + (digitsS (topS m)).length + 1 then 14 else 0)
      else 0 := by rw [refusedS, if_neg c1, if_neg c2, if_neg c3, if_neg c4]
  rw [hr]
  clear hr
  by_cases o3 : op = 3
  · subst o3
    by_cases k : m.lc ≤ m.calls.length
    · exact drawn_below (by simp [k]) (refused_call B b m v5 v6 v7 v8 w h k)
    · exact drawn_below (by simp [k]) (refused_call_no B b m v5 v6 v7 v8 w h (by omega))
  by_cases o4 : op = 4
  · subst o4
    by_cases k : m.calls.length = 0
    · exact drawn_below (by simp only [k]; rfl) (refused_ret B b m v5 v6 v7 v8 w h k)
    · exact drawn_below (by simp only [k]; rfl) (refused_ret_no B b m v5 v6 v7 v8 w h (by omega))
  by_cases o29 : op = 29
  · subst o29
    have hn : (2 : Int) ≤ m.stack.length := by have : (needsS 29).1 = 2 := rfl; omega
    obtain ⟨l, hl⟩ := top_form m (by omega)
    have hl1 : 1 ≤ l.length := by have := congrArg List.length hl; simp at this; omega
    generalize topS m = t at hl ⊢
    by_cases k : t < 0
    · exact drawn_below (by simp [k]) (refused_store_neg B b m v5 v6 v7 v8 w h l t hl hl1 k)
    by_cases k2 : (m.cells.length : Int) ≤ t
    · exact drawn_below (by simp [k, k2]) (refused_store_big B b m v5 v6 v7 v8 w h l t hl hl1 (by omega) k2)
    · exact drawn_below (by simp [k, k2]) (refused_store_no B b m v5 v6 v7 v8 w h l t hl hl1 (by omega) (by omega))
  by_cases o30 : op = 30
  · subst o30
    have hn : (1 : Int) ≤ m.stack.length := by have : (needsS 30).1 = 1 := rfl; omega
    obtain ⟨l, hl⟩ := top_form m (by omega)
    generalize topS m = t at hl ⊢
    by_cases k : t < 0
    · exact drawn_below (by simp [k]) (refused_fetch_neg B b m v5 v6 v7 v8 w h l t hl k)
    by_cases k2 : (m.cells.length : Int) ≤ t
    · exact drawn_below (by simp [k, k2]) (refused_fetch_big B b m v5 v6 v7 v8 w h l t hl (by omega) k2)
    · exact drawn_below (by simp [k, k2]) (refused_fetch_no B b m v5 v6 v7 v8 w h l t hl (by omega) (by omega))
  by_cases o12 : op = 12
  · subst o12
    have hn : (2 : Int) ≤ m.stack.length := by have : (needsS 12).1 = 2 := rfl; omega
    obtain ⟨l, hl⟩ := top_form m (by omega)
    have hl1 : 1 ≤ l.length := by have := congrArg List.length hl; simp at this; omega
    generalize topS m = t at hl ⊢
    by_cases k : t = 0
    · exact drawn_below (by simp [k]) (refused_div B b m v5 v6 v7 v8 w h l t hl hl1 k)
    · exact drawn_below (by simp [k]) (refused_div_no B b m v5 v6 v7 v8 w h l t hl hl1 k)
  by_cases o13 : op = 13
  · subst o13
    have hn : (2 : Int) ≤ m.stack.length := by have : (needsS 13).1 = 2 := rfl; omega
    obtain ⟨l, hl⟩ := top_form m (by omega)
    have hl1 : 1 ≤ l.length := by have := congrArg List.length hl; simp at this; omega
    generalize topS m = t at hl ⊢
    by_cases k : t = 0
    · exact drawn_below (by simp [k]) (refused_mod B b m v5 v6 v7 v8 w h l t hl hl1 k)
    · exact drawn_below (by simp [k]) (refused_mod_no B b m v5 v6 v7 v8 w h l t hl hl1 k)
  by_cases o31 : op = 31
  · subst o31
    have hn : (1 : Int) ≤ m.stack.length := by have : (needsS 31).1 = 1 := rfl; omega
    obtain ⟨l, hl⟩ := top_form m (by omega)
    generalize topS m = t at hl ⊢
    by_cases k : m.lo < (m.out.size : Int) + 1
    · exact drawn_below (by simp [k]) (refused_emit B b m v5 v6 v7 v8 w h l t hl k)
    · exact drawn_below (by simp [k]) (refused_emit_no B b m v5 v6 v7 v8 w h l t hl (by omega))
  by_cases o32 : op = 32
  · subst o32
    have hn : (1 : Int) ≤ m.stack.length := by have : (needsS 32).1 = 1 := rfl; omega
    obtain ⟨l, hl⟩ := top_form m (by omega)
    generalize topS m = t at hl ⊢
    by_cases k : m.lo < (m.out.size : Int) + (digitsS t).length + 1
    · simpa [k] using refused_dot B b m v5 v6 v7 v8 w h l t hl k
    · simpa [k] using refused_dot_no B b m v5 v6 v7 v8 w h l t hl (by omega)
  exact drawn_below (by simp [o3, o4, o29, o30, o12, o13, o31, o32]) (refused_no B b m v5 v6 v7 v8 op w h (by omega) (by omega) (by omega) (by omega) (by simp [o3, o4, o29, o30, o12, o13, o31, o32]))
theorem refused_zero (m : MS) (op : Int) (h : refusedS m op = 0) :
    (needsS op).1 ≤ m.stack.length ∧ (0 < (needsS op).2 → m.stack.length + (needsS op).2 ≤ m.ls) ∧ (asideS op).1 ≤ m.side.length ∧ (0 < (asideS op).2 → m.side.length + (asideS op).2 ≤ m.la) ∧
    (op = 3 → (m.calls.length : Int) < m.lc) ∧ (op = 4 → 0 < m.calls.length) ∧ (op = 29 ∨ op = 30 → 0 ≤ topS m ∧ topS m < m.cells.length) ∧ (op = 12 ∨ op = 13 → topS m ≠ 0) ∧
    (op = 31 → (m.out.size : Int) + 1 ≤ m.lo) ∧ (op = 32 → (m.out.size : Int) + (digitsS (topS m)).length + 1 ≤ m.lo) := by
  unfold refusedS at h
  by_cases c1 : (m.stack.length : Int) < (needsS op).1
  · rw [if_pos c1] at h; omega
  rw [if_neg c1] at h
  by_cases c2 : 0 < (needsS op).2 ∧ m.ls < m.stack.length + (needsS op).2
  · rw [if_pos c2] at h; omega
  rw [if_neg c2] at h
  by_cases c3 : (m.side.length : Int) < (asideS op).1
  · rw [if_pos c3] at h; omega
  rw [if_neg c3] at h
  by_cases c4 : 0 < (asideS op).2 ∧ m.la < m.side.length + (asideS op).2
  · rw [if_pos c4] at h; omega
  rw [if_neg c4] at h
  refine ⟨by omega, by omega, by omega, by omega, ?_, ?_, ?_, ?_, ?_, ?_⟩
  · rintro rfl
    simp only [reduceIte] at h
    split at h <;> omega
  · rintro rfl
    simp only [Int.reduceEq, reduceIte] at h
    split at h <;> omega
  · intro e
    rw [if_neg (by omega), if_neg (by omega), if_pos e] at h
    split at h <;> omega
  · intro e
    rw [if_neg (by omega), if_neg (by omega), if_neg (by omega), if_pos e] at h
    split at h <;> omega
  · intro e
    rw [if_neg (by omega), if_neg (by omega), if_neg (by omega), if_neg (by omega), if_pos e] at h
    split at h <;> omega
  · intro e
    rw [if_neg (by omega), if_neg (by omega), if_neg (by omega), if_neg (by omega), if_neg (by omega), if_pos e] at h
    split at h <;> omega

def topL (l : List Int) : Int := l.getLast?.getD 0
theorem topL_app (l : List Int) (x : Int) : topL (l ++ [x]) = x := by simp [topL]
theorem topS_eq (m : MS) : topS m = topL m.stack := rfl
theorem form1 (l : List Int) (h : 1 ≤ l.length) : l = l.dropLast ++ [topL l] := by
  rcases List.eq_nil_or_concat l with e | ⟨k, t, e⟩
  · rw [e] at h; simp at h
  · rw [List.concat_eq_append] at e
    rw [e]; simp [topL]
theorem form2 (l : List Int) (h : 2 ≤ l.length) : l = l.dropLast.dropLast ++ [topL l.dropLast, topL l] := by
  have h1 := form1 l (by omega)
  have h2 := form1 l.dropLast (by simp; omega)
  calc l = l.dropLast ++ [topL l] := h1
    _ = (l.dropLast.dropLast ++ [topL l.dropLast]) ++ [topL l] := by rw [← h2]
    _ = _ := by simp
theorem form3 (l : List Int) (h : 3 ≤ l.length) : l = l.dropLast.dropLast.dropLast ++ [topL l.dropLast.dropLast, topL l.dropLast, topL l] := by
  have h1 := form2 l (by omega)
  have h2 := form1 l.dropLast.dropLast (by simp; omega)
  calc l = l.dropLast.dropLast ++ [topL l.dropLast, topL l] := h1
    _ = (l.dropLast.dropLast.dropLast ++ [topL l.dropLast.dropLast]) ++ [topL l.dropLast, topL l] := by rw [← h2]
    _ = _ := by simp

/-- One operator that is not refused. -/
def doS (m : MS) (op arg : Int) : MS :=
  let s := m.stack
  let t := topL s
  let u := topL s.dropLast
  let v := topL s.dropLast.dropLast
  let x := topL m.side.dropLast
  let y := topL m.side
  if op = 0 then { m with stack := s ++ [arg] }
  else if op = 1 then { m with pc := arg }
  else if op = 2 then (if t = 0 then { m with stack := s.dropLast, pc := arg } else { m with stack := s.dropLast })
  else if op = 3 then { m with calls := m.calls ++ [m.pc], pc := arg }
  else if op = 4 then { m with calls := m.calls.dropLast, pc := topL m.calls }
  else if op = 5 then { m with halted := true }
  else if op = 6 then { m with stack := s.dropLast.dropLast, side := m.side ++ [u, t] }
  else if op = 7 then (if wrap64 (y + 1) = x then { m with side := m.side.dropLast.dropLast } else { m with side := m.side.dropLast.dropLast ++ [x, wrap64 (y + 1)], pc := arg })
  else if op = 8 ∨ op = 28 then { m with stack := s ++ [y] }
  else if op = 17 then { m with stack := s.dropLast ++ [-1 - t] }
  else if op = 18 then { m with stack := s.dropLast ++ [wrap64 (-t)] }
  else if 9 ≤ op ∧ op ≤ 20 then { m with stack := s.dropLast.dropLast ++ [twoS op u t] }
  else if op = 21 then { m with stack := s ++ [t] }
  else if op = 22 then { m with stack := s.dropLast }
  else if op = 23 then { m with stack := s.dropLast.dropLast ++ [t, u] }
  else if op = 24 then { m with stack := s ++ [u] }
  else if op = 25 then { m with stack := s.dropLast.dropLast.dropLast ++ [u, t, v] }
  else if op = 26 then { m with stack := s.dropLast, side := m.side ++ [t] }
  else if op = 27 then { m with stack := s ++ [y], side := m.side.dropLast }
  else if op = 29 then { m with stack := s.dropLast.dropLast, cells := m.cells.set t.toNat u }
  else if op = 30 then { m with stack := s.dropLast ++ [m.cells[t.toNat]?.getD 0] }
  else if op = 31 then { m with stack := s.dropLast, out := m.out ++ strOfNums [t % 256] }
  else { m with stack := s.dropLast, out := m.out ++ ⟨(digitsS t).toArray⟩ ++ ⟨#[32]⟩ }
theorem do_any (B b : Nat) (m : MS) (op arg : Int) (w : World) (h : McE B w b m) (harg : inI arg) (hop : 0 ≤ op ∧ op ≤ 32) (hr : refusedS m op = 0) :
    Calls Tryz.prog 184 #[.pointer (some ⟨b, 0, none⟩), .int .i64 op, .int .i64 arg] w fun e w' => e = .returned (.tuple #[]) ∧ McE B w' b (doS m op arg) ∧ Below B w w' := by
  obtain ⟨z1, z2, z3, z4, z5, z6, z7, z8, z9, z10⟩ := refused_zero m op hr
  clear hr
  rw [topS_eq] at z7 z8 z10
  have hsm := h.small
  have hli : m.ls ≤ 1000 ∧ m.la ≤ 1000 ∧ m.lc ≤ 1000 := by obtain ⟨_, _, _, _, hm⟩ := id h; have := hm.lims; omega
  have hop' : op = 0 ∨ op = 1 ∨ op = 2 ∨ op = 3 ∨ op = 4 ∨ op = 5 ∨ op = 6 ∨ op = 7 ∨ op = 8 ∨ op = 9 ∨ op = 10 ∨ op = 11 ∨ op = 12 ∨ op = 13 ∨ op = 14 ∨ op = 15 ∨ op = 16 ∨ op = 17 ∨ op = 18 ∨ op = 19 ∨ op = 20 ∨ op = 21 ∨ op = 22 ∨ op = 23 ∨ op = 24 ∨ op = 25 ∨ op = 26 ∨ op = 27 ∨ op = 28 ∨ op = 29 ∨ op = 30 ∨ op = 31 ∨ op = 32 := by omega
  clear hop
  rcases hop' with rfl | rfl | rfl | rfl | rfl | rfl | rfl | rfl | rfl | rfl | rfl | rfl | rfl | rfl | rfl | rfl | rfl | rfl | rfl | rfl | rfl | rfl | rfl | rfl | rfl | rfl | rfl | rfl | rfl | rfl | rfl | rfl | rfl
  · have n1 : (0 : Int) ≤ m.stack.length := z1
    have a1 : (0 : Int) ≤ m.side.length := z3
    have n2 : (m.stack.length : Int) + 1 ≤ m.ls := z2 (by decide)
    exact do_lit B b m arg w h harg (by omega)
  · have n1 : (0 : Int) ≤ m.stack.length := z1
    have a1 : (0 : Int) ≤ m.side.length := z3
    exact do_jump B b m arg w h harg
  · have n1 : (1 : Int) ≤ m.stack.length := z1
    have a1 : (0 : Int) ≤ m.side.length := z3
    by_cases k : topL m.stack = 0
    · rw [show doS m 2 arg = { m with stack := m.stack.dropLast, pc := arg } from if_pos k]
      exact do_jumpz_yes B b m arg _ _ w h harg (form1 m.stack (by omega)) (by simpa using k)
    · rw [show doS m 2 arg = { m with stack := m.stack.dropLast } from if_neg k]
      exact do_jumpz_no B b m arg _ _ w h harg (form1 m.stack (by omega)) (by simpa using k)
  · have n1 : (0 : Int) ≤ m.stack.length := z1
    have a1 : (0 : Int) ≤ m.side.length := z3
    exact do_call B b m arg w h harg (by have := z5 rfl; omega)
  · have n1 : (0 : Int) ≤ m.stack.length := z1
    have a1 : (0 : Int) ≤ m.side.length := z3
    exact do_ret B b m arg _ _ w h harg (form1 m.calls (z6 rfl))
  · have n1 : (0 : Int) ≤ m.stack.length := z1
    have a1 : (0 : Int) ≤ m.side.length := z3
    exact do_halt B b m arg w h harg
  · have n1 : (2 : Int) ≤ m.stack.length := z1
    have a1 : (0 : Int) ≤ m.side.length := z3
    have a2 : (m.side.length : Int) + 2 ≤ m.la := z4 (by decide)
    exact do_do B b m arg _ _ _ w h harg (form2 m.stack (by omega)) (by omega)
  · have n1 : (0 : Int) ≤ m.stack.length := z1
    have a1 : (2 : Int) ≤ m.side.length := z3
    by_cases k : wrap64 (topL m.side + 1) = topL m.side.dropLast
    · rw [show doS m 7 arg = { m with side := m.side.dropLast.dropLast } from if_pos k]
      exact do_loop_end B b m arg _ _ _ w h harg (form2 m.side (by omega)) (by simpa using k)
    · rw [show doS m 7 arg = { m with side := m.side.dropLast.dropLast ++ [topL m.side.dropLast, wrap64 (topL m.side + 1)], pc := arg } from if_neg k]
      exact do_loop_on B b m arg _ _ _ w h harg (form2 m.side (by omega)) (by simpa using k)
  · have n1 : (0 : Int) ≤ m.stack.length := z1
    have a1 : (1 : Int) ≤ m.side.length := z3
    have n2 : (m.stack.length : Int) + 1 ≤ m.ls := z2 (by decide)
    exact do_index B b m arg _ _ w h harg (form1 m.side (by omega)) (by omega)
  · have n1 : (2 : Int) ≤ m.stack.length := z1
    have a1 : (0 : Int) ≤ m.side.length := z3
    exact do_add B b m arg _ _ _ w h harg (form2 m.stack (by omega))
  · have n1 : (2 : Int) ≤ m.stack.length := z1
    have a1 : (0 : Int) ≤ m.side.length := z3
    exact do_sub B b m arg _ _ _ w h harg (form2 m.stack (by omega))
  · have n1 : (2 : Int) ≤ m.stack.length := z1
    have a1 : (0 : Int) ≤ m.side.length := z3
    exact do_mul B b m arg _ _ _ w h harg (form2 m.stack (by omega))
  · have n1 : (2 : Int) ≤ m.stack.length := z1
    have a1 : (0 : Int) ≤ m.side.length := z3
    exact do_div B b m arg _ _ _ w h harg (form2 m.stack (by omega)) (z8 (by omega))
  · have n1 : (2 : Int) ≤ m.stack.length := z1
    have a1 : (0 : Int) ≤ m.side.length := z3
    exact do_mod B b m arg _ _ _ w h harg (form2 m.stack (by omega)) (z8 (by omega))
  · have n1 : (2 : Int) ≤ m.stack.length := z1
    have a1 : (0 : Int) ≤ m.side.length := z3
    exact do_and B b m arg _ _ _ w h harg (form2 m.stack (by omega))
  · have n1 : (2 : Int) ≤ m.stack.length := z1
    have a1 : (0 : Int) ≤ m.side.length := z3
    exact do_or B b m arg _ _ _ w h harg (form2 m.stack (by omega))
  · have n1 : (2 : Int) ≤ m.stack.length := z1
    have a1 : (0 : Int) ≤ m.side.length := z3
    exact do_xor B b m arg _ _ _ w h harg (form2 m.stack (by omega))
  · have n1 : (1 : Int) ≤ m.stack.length := z1
    have a1 : (0 : Int) ≤ m.side.length := z3
    exact do_invert B b m arg _ _ w h harg (form1 m.stack (by omega))
  · have n1 : (1 : Int) ≤ m.stack.length := z1
    have a1 : (0 : Int) ≤ m.side.length := z3
    exact do_negate B b m arg _ _ w h harg (form1 m.stack (by omega))
  · have n1 : (2 : Int) ≤ m.stack.length := z1
    have a1 : (0 : Int) ≤ m.side.length := z3
    exact do_equal B b m arg _ _ _ w h harg (form2 m.stack (by omega))
  · have n1 : (2 : Int) ≤ m.stack.length := z1
    have a1 : (0 : Int) ≤ m.side.length := z3
    exact do_less B b m arg _ _ _ w h harg (form2 m.stack (by omega))
  · have n1 : (1 : Int) ≤ m.stack.length := z1
    have a1 : (0 : Int) ≤ m.side.length := z3
    have n2 : (m.stack.length : Int) + 1 ≤ m.ls := z2 (by decide)
    exact do_move b _ arg w _ (by omega) (move_dup B b m _ _ w h (form1 m.stack (by omega)) (by omega))
  · have n1 : (1 : Int) ≤ m.stack.length := z1
    have a1 : (0 : Int) ≤ m.side.length := z3
    exact do_move b _ arg w _ (by omega) (move_drop B b m _ _ w h (form1 m.stack (by omega)))
  · have n1 : (2 : Int) ≤ m.stack.length := z1
    have a1 : (0 : Int) ≤ m.side.length := z3
    exact do_move b _ arg w _ (by omega) (move_swap B b m _ _ _ w h (form2 m.stack (by omega)))
  · have n1 : (2 : Int) ≤ m.stack.length := z1
    have a1 : (0 : Int) ≤ m.side.length := z3
    have n2 : (m.stack.length : Int) + 1 ≤ m.ls := z2 (by decide)
    exact do_move b _ arg w _ (by omega) (move_over B b m _ _ _ w h (form2 m.stack (by omega)) (by omega))
  · have n1 : (3 : Int) ≤ m.stack.length := z1
    have a1 : (0 : Int) ≤ m.side.length := z3
    exact do_move b _ arg w _ (by omega) (move_rot B b m _ _ _ _ w h (form3 m.stack (by omega)))
  · have n1 : (1 : Int) ≤ m.stack.length := z1
    have a1 : (0 : Int) ≤ m.side.length := z3
    have a2 : (m.side.length : Int) + 1 ≤ m.la := z4 (by decide)
    exact do_move b _ arg w _ (by omega) (move_aside B b m _ _ w h (form1 m.stack (by omega)) (by omega))
  · have n1 : (0 : Int) ≤ m.stack.length := z1
    have a1 : (1 : Int) ≤ m.side.length := z3
    have n2 : (m.stack.length : Int) + 1 ≤ m.ls := z2 (by decide)
    exact do_move b _ arg w _ (by omega) (move_back B b m _ _ w h (form1 m.side (by omega)) (by omega))
  · have n1 : (0 : Int) ≤ m.stack.length := z1
    have a1 : (1 : Int) ≤ m.side.length := z3
    have n2 : (m.stack.length : Int) + 1 ≤ m.ls := z2 (by decide)
    exact do_look B b m arg _ _ w h harg (form1 m.side (by omega)) (by omega)
  · have n1 : (2 : Int) ≤ m.stack.length := z1
    have a1 : (0 : Int) ≤ m.side.length := z3
    obtain ⟨k1, k2⟩ := z7 (by omega)
    have hk : ((topL m.stack).toNat : Int) = topL m.stack := by omega
    have hf := form2 m.stack (by omega)
    refine do_move b _ arg w _ (by omega) (move_store B b m m.stack.dropLast.dropLast (topL m.stack.dropLast) (topL m.stack).toNat w h (by rw [hk]; exact hf) (by omega))
  · have n1 : (1 : Int) ≤ m.stack.length := z1
    have a1 : (0 : Int) ≤ m.side.length := z3
    obtain ⟨k1, k2⟩ := z7 (by omega)
    have hk : ((topL m.stack).toNat : Int) = topL m.stack := by omega
    have hf := form1 m.stack (by omega)
    refine do_move b _ arg w _ (by omega) (move_fetch B b m m.stack.dropLast (m.cells[(topL m.stack).toNat]?.getD 0) (topL m.stack).toNat w h (by rw [hk]; exact hf) ?_)
    rw [List.getElem?_eq_getElem (by omega)]
    rfl
  · have n1 : (1 : Int) ≤ m.stack.length := z1
    have a1 : (0 : Int) ≤ m.side.length := z3
    exact do_move b _ arg w _ (by omega) (move_emit B b m _ _ w h (form1 m.stack (by omega)) (z9 rfl))
  · have n1 : (1 : Int) ≤ m.stack.length := z1
    have a1 : (0 : Int) ≤ m.side.length := z3
    exact do_move b _ arg w _ (by omega) (move_dot B b m _ _ w h (form1 m.stack (by omega)) (z10 rfl))
end Go.Proofs.YtmeiikjpaepogaaGreatDoor
