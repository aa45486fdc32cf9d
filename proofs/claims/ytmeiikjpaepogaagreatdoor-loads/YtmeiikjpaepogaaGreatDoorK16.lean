/- The reference's Machine: move. -/
import Derived.Test.YtmeiikjpaepogaaGreatDoorK15
namespace Go.Proofs.YtmeiikjpaepogaaGreatDoor
open Go Go.RowKit

theorem Mc.write5 {B : Nat} {w : World} {b : Nat} {m : MS} {v6 v7 v8 : Value} {g k n : Nat} (h : Mc B w b m (.slice (some ⟨g, 0, none⟩) n k) v6 v7 v8) (l r : List Int) (x y : Int) (he : m.stack = l ++ x :: r) (hy : inI y) :
    Mc B (w.setCell ⟨g, l.length, none⟩ (.int .i64 y)) b { m with stack := l ++ y :: r } (.slice (some ⟨g, 0, none⟩) n k) v6 v7 v8 := by
  have hg : b ≠ g := fun e => h.ne 0 _ rfl (by rw [e]; rfl)
  have hq : ∀ x ∈ m.ks, x.1 ≠ g := fun x hx e => h.owned.off 0 _ x.1 rfl (List.mem_cons_of_mem _ (List.mem_map_of_mem hx)) (by rw [e]; rfl)
  refine ⟨?_, h.base, ?_, h.lims, by have := h.small; rw [he] at this; simp at this ⊢; omega, ⟨fun z hz => ?_, h.ints.2.1, h.ints.2.2⟩, fun x hx => (h.kept x hx).far (hq x hx) _, h.kne⟩
  · exact h.blk.far hg _
  · have := h.owned.write 0 g n k _ rfl rfl l.length (.int .i64 y)
    simpa [mcRows, he, intCells] using this
  · have hz' := h.ints.1 z
    rw [he] at hz'
    simp at hz hz'
    rcases hz with hz | rfl | hz
    · exact hz' (Or.inl hz)
    · exact hy
    · exact hz' (Or.inr (Or.inr hz))
theorem Mc.write8 {B : Nat} {w : World} {b : Nat} {m : MS} {v5 v6 v7 : Value} {g k n : Nat} (h : Mc B w b m v5 v6 v7 (.slice (some ⟨g, 0, none⟩) n k)) (j : Nat) (y : Int) (hy : inI y) :
    Mc B (w.setCell ⟨g, j, none⟩ (.int .i64 y)) b { m with cells := m.cells.set j y } v5 v6 v7 (.slice (some ⟨g, 0, none⟩) n k) := by
  have hg : b ≠ g := fun e => h.ne 3 _ rfl (by rw [e]; rfl)
  have hq : ∀ x ∈ m.ks, x.1 ≠ g := fun x hx e => h.owned.off 3 _ x.1 rfl (List.mem_cons_of_mem _ (List.mem_map_of_mem hx)) (by rw [e]; rfl)
  refine ⟨?_, h.base, ?_, h.lims, by have := h.small; simp; omega, ⟨h.ints.1, h.ints.2.1, fun z hz => ?_⟩, fun x hx => (h.kept x hx).far (hq x hx) _, h.kne⟩
  · exact h.blk.far hg _
  · have := h.owned.write 3 g n k _ rfl rfl j (.int .i64 y)
    simpa [mcRows, intCells, List.map_set] using this
  · rcases List.mem_or_eq_of_mem_set hz with hz | rfl
    · exact h.ints.2.2 z hz
    · exact hy

set_option maxRecDepth 100000 in
set_option maxHeartbeats 1000000 in
theorem move_dup (B b : Nat) (m : MS) (l : List Int) (x : Int) (w : World) (h : McE B w b m) (he : m.stack = l ++ [x]) (hl : m.stack.length < 1000) :
    Calls Tryz.prog 215 #[.pointer (some ⟨b, 0, none⟩), .int .i64 21] w fun e w' => e = .returned (.tuple #[]) ∧ McE B w' b { m with stack := m.stack ++ [x] } ∧ Below B w w' := by
  obtain ⟨v5, v6, v7, v8, hm⟩ := id h
  have hn : m.stack.length = l.length + 1 := by rw [he]; simp
  obtain ⟨g, k, rfl, hg, hgl⟩ := hm.o5.form (by omega)
  have hne : b ≠ g := fun e => hm.ne 0 _ rfl (by rw [e]; rfl)
  have hb := hm.blk
  have hlt := hb.lt
  unfold mcArr at hb
  have ho := hm.o5
  rw [hn] at hb ho
  have hx := own_cell ho l.length (by omega)
  rw [he, show (intCells (l ++ [x]))[l.length]? = some (.int .i64 x) from by simp [intCells]] at hx
  have xi : inI x := hm.ints.1 x (by rw [he]; simp)
  have hs : (l.length : Int) ≤ 1000 := by have := hm.small; omega
  have hwr : IntKind.i64.wrap (l.length : Int) = l.length := by rw [IntKind.wrap_i64]; omega
  have hwr1 : IntKind.i64.wrap ((l.length : Int) + 1) = l.length + 1 := by rw [IntKind.wrap_i64]; omega
  have hwr2 : IntKind.i64.wrap ((l.length : Int) + 2) = l.length + 2 := by rw [IntKind.wrap_i64]; omega
  have hlt6 : (l.length : Int) + 2 < l.length + 3 := by omega
  have hlt5 : (l.length : Int) + 1 < l.length + 3 := by omega
  have hlt4 : (l.length : Int) < l.length + 3 := by omega
  have hlt9 : (l.length : Int) < l.length + 1 := by omega
  have hlt8 : (l.length : Int) < l.length + 2 := by omega
  have hlt7 : (l.length : Int) + 1 < l.length + 2 := by omega
  have hc := hb.cell
  have hf := hb.free
  have hfg := own_free ho
  clear hb ho
  have HP := V (mpush_any B b m x w h xi hl)
  go_enter Tryz.func215, Tryz.ntmps215
  go_wp2_with fail
  refine (U HP).mono ?_
  rintro e w1 ⟨rfl, h1, hb1⟩
  go_wp2_with fail
  go_end0
  exact ⟨rfl, h1, hb1⟩

set_option maxRecDepth 100000 in
set_option maxHeartbeats 1000000 in
theorem move_over (B b : Nat) (m : MS) (l : List Int) (x y : Int) (w : World) (h : McE B w b m) (he : m.stack = l ++ [x, y]) (hl : m.stack.length < 1000) :
    Calls Tryz.prog 215 #[.pointer (some ⟨b, 0, none⟩), .int .i64 24] w fun e w' => e = .returned (.tuple #[]) ∧ McE B w' b { m with stack := m.stack ++ [x] } ∧ Below B w w' := by
  obtain ⟨v5, v6, v7, v8, hm⟩ := id h
  have hn : m.stack.length = l.length + 2 := by rw [he]; simp
  obtain ⟨g, k, rfl, hg, hgl⟩ := hm.o5.form (by omega)
  have hne : b ≠ g := fun e => hm.ne 0 _ rfl (by rw [e]; rfl)
  have hb := hm.blk
  have hlt := hb.lt
  unfold mcArr at hb
  have ho := hm.o5
  rw [hn] at hb ho
  have hx := own_cell ho l.length (by omega)
  rw [he, show (intCells (l ++ [x, y]))[l.length]? = some (.int .i64 x) from by simp [intCells]] at hx
  have xi : inI x := hm.ints.1 x (by rw [he]; simp)
  have hy := own_cell ho (l.length + 1) (by omega)
  rw [he, show (intCells (l ++ [x, y]))[(l.length + 1)]? = some (.int .i64 y) from by simp [intCells]] at hy
  have yi : inI y := hm.ints.1 y (by rw [he]; simp)
  have hs : (l.length : Int) ≤ 1000 := by have := hm.small; omega
  have hwr : IntKind.i64.wrap (l.length : Int) = l.length := by rw [IntKind.wrap_i64]; omega
  have hwr1 : IntKind.i64.wrap ((l.length : Int) + 1) = l.length + 1 := by rw [IntKind.wrap_i64]; omega
  have hwr2 : IntKind.i64.wrap ((l.length : Int) + 2) = l.length + 2 := by rw [IntKind.wrap_i64]; omega
  have hlt6 : (l.length : Int) + 2 < l.length + 3 := by omega
  have hlt5 : (l.length : Int) + 1 < l.length + 3 := by omega
  have hlt4 : (l.length : Int) < l.length + 3 := by omega
  have hlt9 : (l.length : Int) < l.length + 1 := by omega
  have hlt8 : (l.length : Int) < l.length + 2 := by omega
  have hlt7 : (l.length : Int) + 1 < l.length + 2 := by omega
  have hc := hb.cell
  have hf := hb.free
  have hfg := own_free ho
  clear hb ho
  have HP := V (mpush_any B b m x w h xi hl)
  go_enter Tryz.func215, Tryz.ntmps215
  go_wp2_with fail
  refine (U HP).mono ?_
  rintro e w1 ⟨rfl, h1, hb1⟩
  go_wp2_with fail
  go_end0
  exact ⟨rfl, h1, hb1⟩

set_option maxRecDepth 100000 in
set_option maxHeartbeats 1000000 in
theorem move_drop (B b : Nat) (m : MS) (l : List Int) (x : Int) (w : World) (h : McE B w b m) (he : m.stack = l ++ [x]) :
    Calls Tryz.prog 215 #[.pointer (some ⟨b, 0, none⟩), .int .i64 22] w fun e w' => e = .returned (.tuple #[]) ∧ McE B w' b { m with stack := l } ∧ Below B w w' := by
  obtain ⟨v5, v6, v7, v8, hm⟩ := id h
  have hn : m.stack.length = l.length + 1 := by rw [he]; simp
  obtain ⟨g, k, rfl, hg, hgl⟩ := hm.o5.form (by omega)
  have hne : b ≠ g := fun e => hm.ne 0 _ rfl (by rw [e]; rfl)
  have hb := hm.blk
  have hlt := hb.lt
  unfold mcArr at hb
  have ho := hm.o5
  rw [hn] at hb ho
  have hx := own_cell ho l.length (by omega)
  rw [he, show (intCells (l ++ [x]))[l.length]? = some (.int .i64 x) from by simp [intCells]] at hx
  have xi : inI x := hm.ints.1 x (by rw [he]; simp)
  have hs : (l.length : Int) ≤ 1000 := by have := hm.small; omega
  have hwr : IntKind.i64.wrap (l.length : Int) = l.length := by rw [IntKind.wrap_i64]; omega
  have hwr1 : IntKind.i64.wrap ((l.length : Int) + 1) = l.length + 1 := by rw [IntKind.wrap_i64]; omega
  have hwr2 : IntKind.i64.wrap ((l.length : Int) + 2) = l.length + 2 := by rw [IntKind.wrap_i64]; omega
  have hlt6 : (l.length : Int) + 2 < l.length + 3 := by omega
  have hlt5 : (l.length : Int) + 1 < l.length + 3 := by omega
  have hlt4 : (l.length : Int) < l.length + 3 := by omega
  have hlt9 : (l.length : Int) < l.length + 1 := by omega
  have hlt8 : (l.length : Int) < l.length + 2 := by omega
  have hlt7 : (l.length : Int) + 1 < l.length + 2 := by omega
  have hc := hb.cell
  have hf := hb.free
  have hfg := own_free ho
  clear hb ho
  have HP := V (mpop_any B b m w h l x he)
  go_enter Tryz.func215, Tryz.ntmps215
  go_wp2_with fail
  refine (U HP).mono ?_
  rintro e w1 ⟨rfl, h1, hb1⟩
  go_wp2_with fail
  go_end0
  exact ⟨rfl, h1, hb1⟩

set_option maxRecDepth 100000 in
set_option maxHeartbeats 1000000 in
theorem move_swap (B b : Nat) (m : MS) (l : List Int) (x y : Int) (w : World) (h : McE B w b m) (he : m.stack = l ++ [x, y]) :
    Calls Tryz.prog 215 #[.pointer (some ⟨b, 0, none⟩), .int .i64 23] w fun e w' => e = .returned (.tuple #[]) ∧ McE B w' b { m with stack := l ++ [y, x] } ∧ Below B w w' := by
  obtain ⟨v5, v6, v7, v8, hm⟩ := id h
  have hn : m.stack.length = l.length + 2 := by rw [he]; simp
  obtain ⟨g, k, rfl, hg, hgl⟩ := hm.o5.form (by omega)
  have hne : b ≠ g := fun e => hm.ne 0 _ rfl (by rw [e]; rfl)
  have hb := hm.blk
  have hlt := hb.lt
  unfold mcArr at hb
  have ho := hm.o5
  rw [hn] at hb ho
  have hx := own_cell ho l.length (by omega)
  rw [he, show (intCells (l ++ [x, y]))[l.length]? = some (.int .i64 x) from by simp [intCells]] at hx
  have xi : inI x := hm.ints.1 x (by rw [he]; simp)
  have hy := own_cell ho (l.length + 1) (by omega)
  rw [he, show (intCells (l ++ [x, y]))[(l.length + 1)]? = some (.int .i64 y) from by simp [intCells]] at hy
  have yi : inI y := hm.ints.1 y (by rw [he]; simp)
  have hs : (l.length : Int) ≤ 1000 := by have := hm.small; omega
  have hwr : IntKind.i64.wrap (l.length : Int) = l.length := by rw [IntKind.wrap_i64]; omega
  have hwr1 : IntKind.i64.wrap ((l.length : Int) + 1) = l.length + 1 := by rw [IntKind.wrap_i64]; omega
  have hwr2 : IntKind.i64.wrap ((l.length : Int) + 2) = l.length + 2 := by rw [IntKind.wrap_i64]; omega
  have hlt6 : (l.length : Int) + 2 < l.length + 3 := by omega
  have hlt5 : (l.length : Int) + 1 < l.length + 3 := by omega
  have hlt4 : (l.length : Int) < l.length + 3 := by omega
  have hlt9 : (l.length : Int) < l.length + 1 := by omega
  have hlt8 : (l.length : Int) < l.length + 2 := by omega
  have hlt7 : (l.length : Int) + 1 < l.length + 2 := by omega
  have hc := hb.cell
  have hf := hb.free
  have hfg := own_free ho
  clear hb ho
  go_enter Tryz.func215, Tryz.ntmps215
  go_wp2_with fail
  go_region
  go_wp2_with fail
  go_end0
  have h1 := (hm.write5 l [y] x y he yi).drew.write5 (l ++ [y]) [] y x (by simp) xi
  simp only [List.length_append, List.length_cons, List.length_nil, Nat.zero_add, List.append_assoc, List.cons_append, List.nil_append] at h1
  exact ⟨rfl, ⟨_, _, _, _, h1⟩, ((((Below.refl B w).setCell hg _).drew).setCell hg _)⟩

set_option maxRecDepth 100000 in
set_option maxHeartbeats 1000000 in
theorem move_rot (B b : Nat) (m : MS) (l : List Int) (x y z : Int) (w : World) (h : McE B w b m) (he : m.stack = l ++ [x, y, z]) :
    Calls Tryz.prog 215 #[.pointer (some ⟨b, 0, none⟩), .int .i64 25] w fun e w' => e = .returned (.tuple #[]) ∧ McE B w' b { m with stack := l ++ [y, z, x] } ∧ Below B w w' := by
  obtain ⟨v5, v6, v7, v8, hm⟩ := id h
  have hn : m.stack.length = l.length + 3 := by rw [he]; simp
  obtain ⟨g, k, rfl, hg, hgl⟩ := hm.o5.form (by omega)
  have hne : b ≠ g := fun e => hm.ne 0 _ rfl (by rw [e]; rfl)
  have hb := hm.blk
  have hlt := hb.lt
  unfold mcArr at hb
  have ho := hm.o5
  rw [hn] at hb ho
  have hx := own_cell ho l.length (by omega)
  rw [he, show (intCells (l ++ [x, y, z]))[l.length]? = some (.int .i64 x) from by simp [intCells]] at hx
  have xi : inI x := hm.ints.1 x (by rw [he]; simp)
  have hy := own_cell ho (l.length + 1) (by omega)
  rw [he, show (intCells (l ++ [x, y, z]))[(l.length + 1)]? = some (.int .i64 y) from by simp [intCells]] at hy
  have yi : inI y := hm.ints.1 y (by rw [he]; simp)
  have hz := own_cell ho (l.length + 2) (by omega)
  rw [he, show (intCells (l ++ [x, y, z]))[(l.length + 2)]? = some (.int .i64 z) from by simp [intCells]] at hz
  have zi : inI z := hm.ints.1 z (by rw [he]; simp)
  have hs : (l.length : Int) ≤ 1000 := by have := hm.small; omega
  have hwr : IntKind.i64.wrap (l.length : Int) = l.length := by rw [IntKind.wrap_i64]; omega
  have hwr1 : IntKind.i64.wrap ((l.length : Int) + 1) = l.length + 1 := by rw [IntKind.wrap_i64]; omega
  have hwr2 : IntKind.i64.wrap ((l.length : Int) + 2) = l.length + 2 := by rw [IntKind.wrap_i64]; omega
  have hlt6 : (l.length : Int) + 2 < l.length + 3 := by omega
  have hlt5 : (l.length : Int) + 1 < l.length + 3 := by omega
  have hlt4 : (l.length : Int) < l.length + 3 := by omega
  have hlt9 : (l.length : Int) < l.length + 1 := by omega
  have hlt8 : (l.length : Int) < l.length + 2 := by omega
  have hlt7 : (l.length : Int) + 1 < l.length + 2 := by omega
  have hc := hb.cell
  have hf := hb.free
  have hfg := own_free ho
  clear hb ho
  go_enter Tryz.func215, Tryz.ntmps215
  go_wp2_with fail
  go_region
  go_wp2_with fail
  go_region
  go_wp2_with fail
  go_end0
  have h1 := ((hm.write5 l [y, z] x y he yi).drew.write5 (l ++ [y]) [z] y z (by simp) zi).drew.write5 (l ++ [y, z]) [] z x (by simp) xi
  simp only [List.length_append, List.length_cons, List.length_nil, Nat.zero_add, List.append_assoc, List.cons_append, List.nil_append] at h1
  exact ⟨rfl, ⟨_, _, _, _, h1⟩, ((((((Below.refl B w).setCell hg _).drew).setCell hg _).drew).setCell hg _)⟩

set_option maxRecDepth 100000 in
set_option maxHeartbeats 1000000 in
theorem move_aside (B b : Nat) (m : MS) (l : List Int) (x : Int) (w : World) (h : McE B w b m) (he : m.stack = l ++ [x]) (hl : m.side.length < 1000) :
    Calls Tryz.prog 215 #[.pointer (some ⟨b, 0, none⟩), .int .i64 26] w fun e w' => e = .returned (.tuple #[]) ∧ McE B w' b { m with stack := l, side := m.side ++ [x] } ∧ Below B w w' := by
  obtain ⟨v5, v6, v7, v8, hm⟩ := id h
  have hn : m.stack.length = l.length + 1 := by rw [he]; simp
  obtain ⟨g, k, rfl, hg, hgl⟩ := hm.o5.form (by omega)
  have hne : b ≠ g := fun e => hm.ne 0 _ rfl (by rw [e]; rfl)
  have hb := hm.blk
  have hlt := hb.lt
  unfold mcArr at hb
  have ho := hm.o5
  rw [hn] at hb ho
  have hx := own_cell ho l.length (by omega)
  rw [he, show (intCells (l ++ [x]))[l.length]? = some (.int .i64 x) from by simp [intCells]] at hx
  have xi : inI x := hm.ints.1 x (by rw [he]; simp)
  have hs : (l.length : Int) ≤ 1000 := by have := hm.small; omega
  have hwr : IntKind.i64.wrap (l.length : Int) = l.length := by rw [IntKind.wrap_i64]; omega
  have hwr1 : IntKind.i64.wrap ((l.length : Int) + 1) = l.length + 1 := by rw [IntKind.wrap_i64]; omega
  have hwr2 : IntKind.i64.wrap ((l.length : Int) + 2) = l.length + 2 := by rw [IntKind.wrap_i64]; omega
  have hlt6 : (l.length : Int) + 2 < l.length + 3 := by omega
  have hlt5 : (l.length : Int) + 1 < l.length + 3 := by omega
  have hlt4 : (l.length : Int) < l.length + 3 := by omega
  have hlt9 : (l.length : Int) < l.length + 1 := by omega
  have hlt8 : (l.length : Int) < l.length + 2 := by omega
  have hlt7 : (l.length : Int) + 1 < l.length + 2 := by omega
  have hc := hb.cell
  have hf := hb.free
  have hfg := own_free ho
  clear hb ho
  obtain ⟨i0, hi, hz0, hz1, hz2⟩ := info_parts Tryz.infoInt64
  have HP := V (mpop_any B b m w h l x he)
  go_enter Tryz.func215, Tryz.ntmps215
  go_wp2_with fail
  refine (U HP).mono ?_
  rintro e w2 ⟨rfl, h2, hb3⟩
  clear HP hc hf hfg hlt hx hgl hg hne hm
  obtain ⟨v5, v6, v7, v8, h2⟩ := h2
  have hlt := h2.blk.lt
  have hc := h2.blk.cell
  have hf := h2.blk.free
  unfold mcArr at hc
  have HB := V h2.blk
  unfold mcArr at HB
  have hne := h2.ne 1 v6 rfl
  have HW := V (ownsRow_alloc h2.o6 (.cells #[.int .i64 x] 2))
  have hBs : B ≤ (w2.alloc (.cells #[.int .i64 x] 2)).heap.size := by
    have := h2.base
    simp; omega
  have HBs := V hBs
  clear hBs
  go_wp2_with (at_builtin; refine wpList_append_lies _ rfl (.tmp 136) (.tmp 138) 42 rfl B 2 i0 _ 1 8 Tryz.underlying42 hi hz0 hz1 hz2 rfl (by decide) v6 m.side.length (intCells m.side) (by simp [Act.eval]) (U HW) ⟨w2.heap.size, 0, none⟩ 1 1 [.int .i64 x] (by simp [Act.eval]) rfl (World.news_of_block (Blk.new w2 _ _)) (oneCells1 _) (by omega) (by unfold maxLen; omega) (by omega) (U HBs) _ rfl ?_; intro g5 cap w5 hown hgrow hat hlt5; have hb5 := ((U HB).alloc _).grown hgrow hne; have hc5 := hb5.cell; have hf5 := hb5.free; have HO := V hown; have HG := V hgrow; have HA := V hat; clear hown hgrow hat hb5)
  go_end0
  refine ⟨rfl, ⟨_, _, _, _, h2.grow6 xi hl (grownBy_alloc' (U HG)) (U HO) (U HA) (by simp)⟩, ?_⟩
  exact hb3.trans ((below_grown_alloc' (by have := h2.base; omega) (fun k hk => (ownsRow_lt h2.o6 hk).2) (U HG)).setCell h2.base _)

set_option maxRecDepth 100000 in
set_option maxHeartbeats 1000000 in
theorem move_store (B b : Nat) (m : MS) (l : List Int) (x : Int) (k : Nat) (w : World) (h : McE B w b m) (he : m.stack = l ++ [x, (k : Int)]) (hk : k < m.cells.length) :
    Calls Tryz.prog 215 #[.pointer (some ⟨b, 0, none⟩), .int .i64 29] w fun e w' => e = .returned (.tuple #[]) ∧ McE B w' b { m with stack := l, cells := m.cells.set k x } ∧ Below B w w' := by
  have HP := V (mpop_any B b m w h (l ++ [x]) k (by rw [he]; simp))
  have xi : inI x := h.ints.1 x (by rw [he]; simp)
  obtain ⟨v5, v6, v7, v8, hm⟩ := id h
  obtain ⟨a5, k5, rfl⟩ := own_shape hm.o5
  have hs : (m.stack.length : Int) ≤ 1000 := by have := hm.small; omega
  have hc := hm.blk.cell
  unfold mcArr at hc
  have hki : (k : Int) < m.cells.length := by omega
  go_enter Tryz.func215, Tryz.ntmps215
  go_wp2_with fail
  refine (U HP).mono ?_
  rintro e w1 ⟨rfl, h1, hb1⟩
  clear HP hc hm
  have HP := V (mpop_any B b _ w1 h1 l x rfl)
  go_wp2_with fail
  refine (U HP).mono ?_
  rintro e w2 ⟨rfl, h2, hb2⟩
  clear HP h1
  have hb3 := hb1.trans hb2
  clear hb1 hb2
  obtain ⟨v5, v6, v7, v8, hm⟩ := id h2
  obtain ⟨g8, k8, rfl, hg8, hgl8⟩ := hm.o8.form (by simp only; omega)
  have hb8 := hm.blk
  have hlt := hb8.lt
  unfold mcArr at hb8
  have hc := hb8.cell
  have hf := hb8.free
  have hfg := own_free hm.o8
  have s4 : (m.cells.length : Int) ≤ 1000 := by have := h.small; omega
  clear hb8
  obtain ⟨y, hky⟩ : ∃ y, m.cells[k]? = some y := ⟨_, List.getElem?_eq_getElem hk⟩
  have hx := own_cell hm.o8 k (by simp only; omega)
  rw [show (intCells m.cells)[k]? = some (.int .i64 y) from by simp [intCells, hky]] at hx
  go_wp2_with fail
  go_end0
  exact ⟨rfl, ⟨_, _, _, _, hm.write8 k x xi⟩, hb3.setCell hg8 _⟩

set_option maxRecDepth 100000 in
set_option maxHeartbeats 1000000 in
theorem move_fetch (B b : Nat) (m : MS) (l : List Int) (x : Int) (k : Nat) (w : World) (h : McE B w b m) (he : m.stack = l ++ [(k : Int)]) (hk : m.cells[k]? = some x) :
    Calls Tryz.prog 215 #[.pointer (some ⟨b, 0, none⟩), .int .i64 30] w fun e w' => e = .returned (.tuple #[]) ∧ McE B w' b { m with stack := l ++ [x] } ∧ Below B w w' := by
  have HP := V (mpop_any B b m w h l k he)
  have hk2 : k < m.cells.length := (List.getElem?_eq_some_iff.1 hk).1
  have xi : inI x := h.ints.2.2 x (List.mem_of_getElem? hk)
  obtain ⟨v5, v6, v7, v8, hm⟩ := id h
  obtain ⟨a5, k5, rfl⟩ := own_shape hm.o5
  have hs : (m.stack.length : Int) ≤ 1000 := by have := hm.small; omega
  have hn : m.stack.length = l.length + 1 := by rw [he]; simp
  have hc := hm.blk.cell
  unfold mcArr at hc
  have hki : (k : Int) < m.cells.length := by omega
  go_enter Tryz.func215, Tryz.ntmps215
  go_wp2_with fail
  refine (U HP).mono ?_
  rintro e w2 ⟨rfl, h2, hb3⟩
  clear HP hc hm
  have HP := V (mpush_any B b _ x w2 h2 xi (by simp only; omega))
  obtain ⟨v5, v6, v7, v8, hm⟩ := id h2
  obtain ⟨g8, k8, rfl, hg8, hgl8⟩ := hm.o8.form (by simp only; omega)
  have hb8 := hm.blk
  have hlt := hb8.lt
  unfold mcArr at hb8
  have hc := hb8.cell
  have hf := hb8.free
  have hfg := own_free hm.o8
  have s4 : (m.cells.length : Int) ≤ 1000 := by have := h.small; omega
  clear hb8
  have hx := own_cell hm.o8 k (by simp only; omega)
  rw [show (intCells m.cells)[k]? = some (.int .i64 x) from by simp [intCells, hk]] at hx
  go_wp2_with fail
  refine (U HP).mono ?_
  rintro e w4 ⟨rfl, h4, hb4⟩
  go_wp2_with fail
  go_end0
  exact ⟨rfl, h4, hb3.trans hb4⟩

set_option maxRecDepth 100000 in
set_option maxHeartbeats 1000000 in
theorem move_back (B b : Nat) (m : MS) (l : List Int) (x : Int) (w : World) (h : McE B w b m) (he : m.side = l ++ [x]) (hl : m.stack.length < 1000) :
    Calls Tryz.prog 215 #[.pointer (some ⟨b, 0, none⟩), .int .i64 27] w fun e w' => e = .returned (.tuple #[]) ∧ McE B w' b { m with stack := m.stack ++ [x], side := l } ∧ Below B w w' := by
  have hxi : inI x := h.ints.2.1 x (by rw [he]; simp)
  have HP := V (fun n => mpush_any B b m x (w.drewN n) (h.drewN n) hxi hl)
  obtain ⟨v5, v6, v7, v8, hm⟩ := id h
  obtain ⟨a5, k5, rfl⟩ := own_shape hm.o5
  have hs5 : (m.stack.length : Int) ≤ 1000 := by have := hm.small; omega
  have hn : m.side.length = l.length + 1 := by rw [he]; simp
  obtain ⟨g, k, rfl, hg, hgl⟩ := hm.o6.form (by omega)
  have hb := hm.blk
  unfold mcArr at hb
  have ho := hm.o6
  rw [hn] at hb ho
  have hx := own_cell ho l.length (by omega)
  rw [he, intCells_last] at hx
  have hs : (l.length : Int) ≤ 1000 := by have := hm.small; omega
  have hwr : IntKind.i64.wrap (l.length : Int) = l.length := by rw [IntKind.wrap_i64]; omega
  have hlt9 : (l.length : Int) < l.length + 1 := by omega
  have hc := hb.cell
  clear hm hb ho
  go_enter Tryz.func215, Tryz.ntmps215
  go_wp2_with fail
  go_region_law (refine step_call rfl 212 #[.tmp 144, .tmp 156] #[185, 2] rfl Tryz.func212 Tryz.name212 Tryz.body212 #[.pointer (some ⟨b, 0, none⟩), .int .i64 x] (by first | (simp [Act.eval]; done) | (simp [Act.eval, Act.put]; done) | rfl) (U HP _) ?_; rintro e w1 ⟨rfl, h1, hb1⟩; refine ⟨_, rfl, ?_⟩)
  all_goals
    clear hc hx hgl hg
    obtain ⟨u5, u6, u7, u8, hm1⟩ := id h1
    obtain ⟨g2, k2, rfl, hg2, hgl2⟩ := hm1.o6.form (by simp only; omega)
    have hb2 := hm1.blk
    have hlt := hb2.lt
    have hk2 : (l.length : Int) + 1 ≤ k2 := by have := (own_cap hm1.o6).1; simp only at this; omega
    unfold mcArr at hb2
    simp only [hn] at hb2
    have hc := hb2.cell
    have hf := hb2.free
    clear hb2
    go_wp2_with fail
    go_region
    go_wp2
    go_end0
    exact ⟨rfl, ⟨_, _, _, _, (hm1.cut6 l [x] he rfl).drew⟩, ((below_drewN hb1).setCell hm1.base _).drew⟩
theorem Tryz.name211 : (Tryz.f211.name == "runtime.NumGoroutine") = false := by kernel_rfl
theorem Tryz.body211 : Tryz.f211.body.isNone = false := by kernel_rfl
theorem conv_drew (W : World) (c : Int) : (convert 86 9 (.slice (some ⟨W.heap.size, 0, none⟩) 1 1)).run Tryz.prog (W.alloc (.cells #[.int .u8 c] 5)).drew = .ok (.string (strOfNums [c])) (W.alloc (.cells #[.int .u8 c] 5)).drew := by
  refine run_convert_bytes_arg _ 86 5 Tryz.underlying86 Tryz.underlying5 W.heap.size 0 1 1 [c] rfl ?_ 9 Tryz.underlying9
  intro i hi
  have : i = 0 := by omega
  subst this
  rw [(Blk.new W _ _).drew.cell]
  rfl
theorem McE.put {B : Nat} {w : World} {b : Nat} {m : MS} (h : McE B w b m) (s : ByteArray) (hs : (s.size : Int) ≤ m.lo) : McE B (w.setCell ⟨b, 9, none⟩ (.string s)) b { m with out := s } := by
  obtain ⟨_, _, _, _, h⟩ := h
  exact ⟨_, _, _, _, h.field 9 (.string s) _ (by simp [mcArr]) rfl h.lims (by have := h.small; have := h.lims; simp only; omega) h.ints⟩
theorem McE.drew {B : Nat} {w : World} {b : Nat} {m : MS} (h : McE B w b m) : McE B w.drew b m := by
  obtain ⟨_, _, _, _, h⟩ := h
  exact ⟨_, _, _, _, h.drew⟩
theorem McE.below {B : Nat} {w w' : World} {b : Nat} {m : MS} (h : McE B w b m) (hb : Below w.heap.size w w') : McE B w' b m := by
  obtain ⟨_, _, _, _, h⟩ := h
  exact ⟨_, _, _, _, ⟨h.blk.below hb h.blk.lt, h.base, h.owned.below_all hb, h.lims, h.small, h.ints, fun x hx => (h.kept x hx).below hb (h.kept x hx).lt, h.kne⟩⟩
theorem McE.alloc {B : Nat} {w : World} {b : Nat} {m : MS} (h : McE B w b m) (o : Obj) : McE B (w.alloc o) b m := by
  obtain ⟨_, _, _, _, h⟩ := h
  exact ⟨_, _, _, _, h.alloc o⟩

set_option maxRecDepth 100000 in
set_option maxHeartbeats 1000000 in
theorem move_emit (B b : Nat) (m : MS) (l : List Int) (x : Int) (w : World) (h : McE B w b m) (he : m.stack = l ++ [x]) (ho : (m.out.size : Int) + 1 ≤ m.lo) :
    Calls Tryz.prog 215 #[.pointer (some ⟨b, 0, none⟩), .int .i64 31] w fun e w' => e = .returned (.tuple #[]) ∧ McE B w' b { m with stack := l, out := m.out ++ strOfNums [x % 256] } ∧ Below B w w' := by
  have HP := V (mpop_any B b m w h l x he)
  have xi : inI x := h.ints.1 x (by rw [he]; simp)
  unfold inI at xi
  obtain ⟨xi1, xi2⟩ := xi
  obtain ⟨v5, v6, v7, v8, hm⟩ := id h
  obtain ⟨a5, k5, rfl⟩ := own_shape hm.o5
  have hs : (m.stack.length : Int) ≤ 1000 := by have := hm.small; omega
  have hc := hm.blk.cell
  unfold mcArr at hc
  have hcv := conv_one
  have hcv2 := conv_drew
  have hsz : ¬ 9223372036854775807 < m.out.size + (strOfNums [x % 256]).size := by have := h.small; rw [strOfNums_size]; simp; omega
  go_enter Tryz.func215, Tryz.ntmps215
  go_wp2_with fail
  refine (U HP).mono ?_
  rintro e w2 ⟨rfl, h2, hb3⟩
  clear HP hc hm
  have hbs : B ≤ w2.heap.size := by obtain ⟨_, _, _, _, hm⟩ := id h2; have := hm.base; have := hm.blk.lt; omega
  obtain ⟨v5, v6, v7, v8, hm⟩ := id h2
  have hlt := hm.blk.lt
  have hc := hm.blk.cell
  have hf := hm.blk.free
  unfold mcArr at hc
  have s5 : m.out.size ≤ 1000 := by have := h.small; omega
  go_wp2_with fail
  go_region
  go_wp2_with fail
  go_end0
  refine ⟨rfl, ((h2.put (m.out ++ strOfNums [x % 256]) (by rw [ByteArray.size_append, strOfNums_size]; simp; omega)).alloc _).drew, ?_⟩
  exact (((hb3.setCell (p := ⟨b, 9, none⟩) h2.base _).alloc (by simpa using hbs) _)).drew

set_option maxRecDepth 100000 in
set_option maxHeartbeats 1000000 in
theorem move_dot (B b : Nat) (m : MS) (l : List Int) (x : Int) (w : World) (h : McE B w b m) (he : m.stack = l ++ [x]) (ho : (m.out.size : Int) + (digitsS x).length + 1 ≤ m.lo) :
    Calls Tryz.prog 215 #[.pointer (some ⟨b, 0, none⟩), .int .i64 32] w fun e w' => e = .returned (.tuple #[]) ∧ McE B w' b { m with stack := l, out := m.out ++ ⟨(digitsS x).toArray⟩ ++ ⟨#[32]⟩ } ∧ Below B w w' := by
  have HP := V (mpop_any B b m w h l x he)
  have xi : inI x := h.ints.1 x (by rw [he]; simp)
  unfold inI at xi
  obtain ⟨xi1, xi2⟩ := xi
  obtain ⟨v5, v6, v7, v8, hm⟩ := id h
  obtain ⟨a5, k5, rfl⟩ := own_shape hm.o5
  have hs : (m.stack.length : Int) ≤ 1000 := by have := hm.small; omega
  have hc := hm.blk.cell
  unfold mcArr at hc
  go_enter Tryz.func215, Tryz.ntmps215
  go_wp2_with fail
  refine (U HP).mono ?_
  rintro e w2 ⟨rfl, h2, hb3⟩
  clear HP hc hm
  have hbs : B ≤ w2.heap.size := by obtain ⟨_, _, _, _, hm⟩ := id h2; have := hm.base; have := hm.blk.lt; omega
  obtain ⟨v5, v6, v7, v8, hm⟩ := id h2
  have hlt := hm.blk.lt
  have hc := hm.blk.cell
  have hf := hm.blk.free
  unfold mcArr at hc
  have s5 : m.out.size ≤ 1000 := by have := h.small; omega
  have HD := V (fun n => digits_any x (w2.drewN n) ⟨xi1, xi2⟩)
  have HM := V hm.blk
  unfold mcArr at HM
  have hlo : m.lo ≤ 1000 := by have := hm.lims; simp only at this; omega
  have hsz1 : ¬ 9223372036854775807 < m.out.size + (⟨(digitsS x).toArray⟩ : ByteArray).size := by
    have : (⟨(digitsS x).toArray⟩ : ByteArray).size = (digitsS x).length := by simp [ByteArray.size]
    rw [this]; omega
  have hsz2 : ¬ 9223372036854775807 < (m.out ++ (⟨(digitsS x).toArray⟩ : ByteArray)).size + (⟨#[32]⟩ : ByteArray).size := by
    have e1 : (⟨(digitsS x).toArray⟩ : ByteArray).size = (digitsS x).length := by simp [ByteArray.size]
    have e2 : (⟨#[32]⟩ : ByteArray).size = 1 := rfl
    rw [ByteArray.size_append, e1, e2]; omega
  have hsz3 : ¬ 9223372036854775807 < m.out.size + (digitsS x).length := by omega
  have hsz4 : ¬ 9223372036854775807 < m.out.size + (digitsS x).length + 1 := by omega
  go_wp2_with fail
  go_region_law (refine step_call rfl 211 #[.tmp 223] #[2] rfl Tryz.func211 Tryz.name211 Tryz.body211 #[.int .i64 x] (by first | (simp [Act.eval]; done) | (simp [Act.eval, Act.put]; done) | rfl) (U HD _) ?_; rintro e w3 ⟨rfl, hb4⟩; have hb5 := (U HM).below (below_drewN hb4) hlt; have hc3 := hb5.cell; have hf3 := hb5.free; clear hb5; refine ⟨_, rfl, ?_⟩)
  all_goals
    go_wp2
    go_end0
    refine ⟨rfl, (h2.below (below_drewN hb4)).put _ ?_, (hb3.trans ((below_drewN hb4).mono hbs)).setCell (p := ⟨b, 9, none⟩) h2.base _⟩
    have e1 : (⟨(digitsS x).toArray⟩ : ByteArray).size = (digitsS x).length := by simp [ByteArray.size]
    have e2 : (⟨#[32]⟩ : ByteArray).size = 1 := rfl
    rw [ByteArray.size_append, ByteArray.size_append, e1, e2]
    simp only
    omega
end Go.Proofs.YtmeiikjpaepogaaGreatDoor
