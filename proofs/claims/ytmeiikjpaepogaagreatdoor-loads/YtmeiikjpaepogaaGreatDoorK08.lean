/- The reference's Machine: its lists grow, are cut, are written; push, pop. -/
import Derived.Test.YtmeiikjpaepogaaGreatDoorK03
import Derived.Test.YtmeiikjpaepogaaGreatDoorK07
namespace Go.Proofs.YtmeiikjpaepogaaGreatDoor
open Go Go.RowKit

def McE (B : Nat) (w : World) (b : Nat) (m : MS) : Prop := ∃ v5 v6 v7 v8, Mc B w b m v5 v6 v7 v8

theorem kept_lt {w : World} {b : Nat} {ks : List (Nat × Array Value × TypeId)} (hb : b < w.heap.size) (hk : ∀ x ∈ ks, Blk w x.1 x.2.1 x.2.2) : ∀ c ∈ b :: ks.map (fun x => x.1), c < w.heap.size := by
  intro c hc
  rcases List.mem_cons.1 hc with rfl | hc
  · exact hb
  · obtain ⟨x, hx, rfl⟩ := List.mem_map.1 hc
    exact (hk x hx).lt

section
variable {B : Nat} {w w1 : World} {b : Nat} {m : MS} {v5 v6 v7 v8 : Value}
theorem Mc.ne (h : Mc B w b m v5 v6 v7 v8) (i : Nat) (v : Value) (hv : [v5, v6, v7, v8][i]? = some v) : some b ≠ v.ownBlock := fun e => h.owned.off i v b hv (by simp) e.symm
theorem Mc.drew (h : Mc B w b m v5 v6 v7 v8) : Mc B w.drew b m v5 v6 v7 v8 := ⟨h.blk, h.base, h.owned.drew, h.lims, h.small, h.ints, h.kept, h.kne⟩
theorem Mc.alloc (h : Mc B w b m v5 v6 v7 v8) (o : Obj) : Mc B (w.alloc o) b m v5 v6 v7 v8 := ⟨h.blk.alloc o, h.base, h.owned.alloc o, h.lims, h.small, h.ints, fun x hx => (h.kept x hx).alloc o, h.kne⟩
theorem Mc.grow (h : Mc B w b m v5 v6 v7 v8) (i c : Nat) (v v' : Value) (s' : RowSpec) (m' : MS) (u5 u6 u7 u8 : Value)
    (hv : [v5, v6, v7, v8][i]? = some v) (hw1 : w.grownBy w1 v.ownBlock) (hown : w1.ownsRow B s'.e s'.size v' s'.n s'.xs) (hat : v'.ownBlock = v.ownBlock ∨ ∃ g, v'.ownBlock = some g ∧ w.heap.size ≤ g)
    (ha : (mcArr m v5 v6 v7 v8).setIfInBounds c v' = mcArr m' u5 u6 u7 u8) (hvs : [v5, v6, v7, v8].set i v' = [u5, u6, u7, u8]) (hr : (mcRows m).set i s' = mcRows m')
    (hl : (1 ≤ m'.ls ∧ m'.ls ≤ 1000) ∧ (1 ≤ m'.la ∧ m'.la ≤ 1000) ∧ (1 ≤ m'.lc ∧ m'.lc ≤ 1000) ∧ (1 ≤ m'.lo ∧ m'.lo ≤ 1000))
    (hs : m'.stack.length ≤ 1000 ∧ m'.side.length ≤ 1000 ∧ m'.calls.length ≤ 1000 ∧ m'.cells.length ≤ 1000 ∧ m'.out.size ≤ 1000 ∧ (m'.out.size : Int) ≤ m'.lo)
    (hi : (∀ x ∈ m'.stack, inI x) ∧ (∀ x ∈ m'.side, inI x) ∧ (∀ x ∈ m'.cells, inI x)) (hq : m'.ks = m.ks := by exact rfl) :
    Mc B (w1.setCell ⟨b, c, none⟩ v') b m' u5 u6 u7 u8 := by
  have hlt := h.blk.lt
  have hoff : ∀ x ∈ m.ks, some x.1 ≠ v.ownBlock := fun x hx e => h.owned.off i v x.1 hv (List.mem_cons_of_mem _ (List.mem_map_of_mem hx)) e.symm
  refine ⟨?_, h.base, ?_, hl, hs, hi, ?_, by rw [hq]; exact h.kne⟩
  · rw [← ha]; exact (h.blk.grown hw1 (h.ne i v hv)).set c v'
  · rw [← hvs, ← hr, hq]; exact (h.owned.grow i v v' s' hv (kept_lt hlt h.kept) hw1 hown hat).set (b := b) (by simp) c v'
  · rw [hq]; exact fun x hx => ((h.kept x hx).grown hw1 (hoff x hx)).far (fun e => h.kne x hx e.symm) v'
/-- A plain field is written. -/
theorem Mc.field (h : Mc B w b m v5 v6 v7 v8) (c : Nat) (u : Value) (m' : MS)
    (ha : (mcArr m v5 v6 v7 v8).setIfInBounds c u = mcArr m' v5 v6 v7 v8) (hr : mcRows m = mcRows m')
    (hl : (1 ≤ m'.ls ∧ m'.ls ≤ 1000) ∧ (1 ≤ m'.la ∧ m'.la ≤ 1000) ∧ (1 ≤ m'.lc ∧ m'.lc ≤ 1000) ∧ (1 ≤ m'.lo ∧ m'.lo ≤ 1000))
    (hs : m'.stack.length ≤ 1000 ∧ m'.side.length ≤ 1000 ∧ m'.calls.length ≤ 1000 ∧ m'.cells.length ≤ 1000 ∧ m'.out.size ≤ 1000 ∧ (m'.out.size : Int) ≤ m'.lo)
    (hi : (∀ x ∈ m'.stack, inI x) ∧ (∀ x ∈ m'.side, inI x) ∧ (∀ x ∈ m'.cells, inI x)) (hq : m'.ks = m.ks := by exact rfl) :
    Mc B (w.setCell ⟨b, c, none⟩ u) b m' v5 v6 v7 v8 := by
  refine ⟨?_, h.base, ?_, hl, hs, hi, ?_, by rw [hq]; exact h.kne⟩
  · rw [← ha]; exact h.blk.set c u
  · rw [← hr, hq]; exact h.owned.set (b := b) (by simp) c u
  · rw [hq]; exact fun x hx => (h.kept x hx).far (fun e => h.kne x hx e.symm) u
theorem Mc.grow5 (h : Mc B w b m v5 v6 v7 v8) {x : Int} (hx : inI x) {g cap H : Nat} (hlen : m.stack.length < 1000) (hw1 : w.grownBy w1 v5.ownBlock)
    (hown : w1.ownsRow B 2 1 (.slice (some ⟨g, 0, none⟩) (m.stack.length + 1) cap) (m.stack.length + 1) (intCells m.stack ++ [.int .i64 x])) (hat : v5.ownBlock = some g ∨ g = H) (hH : w.heap.size ≤ H) :
    Mc B (w1.setCell ⟨b, 5, none⟩ (.slice (some ⟨g, 0, none⟩) (m.stack.length + 1) cap)) b { m with stack := m.stack ++ [x] } (.slice (some ⟨g, 0, none⟩) (m.stack.length + 1) cap) v6 v7 v8 :=
  h.grow 0 5 v5 _ ⟨2, 1, m.stack.length + 1, _⟩ _ _ _ _ _ rfl hw1 hown (lies_at hat hH) (by simp [mcArr]) rfl (by simp [mcRows, intCells]) h.lims (by have := h.small; simp; omega)
    ⟨fun y hy => by simp at hy; rcases hy with hy | rfl; exact h.ints.1 y hy; exact hx, h.ints.2.1, h.ints.2.2⟩
theorem Mc.grow6 (h : Mc B w b m v5 v6 v7 v8) {x : Int} (hx : inI x) {g cap H : Nat} (hlen : m.side.length < 1000) (hw1 : w.grownBy w1 v6.ownBlock)
    (hown : w1.ownsRow B 2 1 (.slice (some ⟨g, 0, none⟩) (m.side.length + 1) cap) (m.side.length + 1) (intCells m.side ++ [.int .i64 x])) (hat : v6.ownBlock = some g ∨ g = H) (hH : w.heap.size ≤ H) :
    Mc B (w1.setCell ⟨b, 6, none⟩ (.slice (some ⟨g, 0, none⟩) (m.side.length + 1) cap)) b { m with side := m.side ++ [x] } v5 (.slice (some ⟨g, 0, none⟩) (m.side.length + 1) cap) v7 v8 :=
  h.grow 1 6 v6 _ ⟨2, 1, m.side.length + 1, _⟩ _ _ _ _ _ rfl hw1 hown (lies_at hat hH) (by simp [mcArr]) rfl (by simp [mcRows, intCells]) h.lims (by have := h.small; simp; omega)
    ⟨h.ints.1, fun y hy => by simp at hy; rcases hy with hy | rfl; exact h.ints.2.1 y hy; exact hx, h.ints.2.2⟩
theorem Mc.grow7 (h : Mc B w b m v5 v6 v7 v8) {x : Int} {g cap H : Nat} (hlen : m.calls.length < 1000) (hw1 : w.grownBy w1 v7.ownBlock)
    (hown : w1.ownsRow B 3 1 (.slice (some ⟨g, 0, none⟩) (m.calls.length + 1) cap) (m.calls.length + 1) (intCells m.calls ++ [.int .i64 x])) (hat : v7.ownBlock = some g ∨ g = H) (hH : w.heap.size ≤ H) :
    Mc B (w1.setCell ⟨b, 7, none⟩ (.slice (some ⟨g, 0, none⟩) (m.calls.length + 1) cap)) b { m with calls := m.calls ++ [x] } v5 v6 (.slice (some ⟨g, 0, none⟩) (m.calls.length + 1) cap) v8 :=
  h.grow 2 7 v7 _ ⟨3, 1, m.calls.length + 1, _⟩ _ _ _ _ _ rfl hw1 hown (lies_at hat hH) (by simp [mcArr]) rfl (by simp [mcRows, intCells]) h.lims (by have := h.small; simp; omega) h.ints
end

theorem intCells_take (l r : List Int) : (intCells (l ++ r)).take (l.length * 1) = intCells l := by
  simp [intCells]

theorem Mc.cut5 {B : Nat} {w : World} {b : Nat} {m : MS} {v6 v7 v8 : Value} {g k n : Nat} (h : Mc B w b m (.slice (some ⟨g, 0, none⟩) n k) v6 v7 v8) (l r : List Int) (he : m.stack = l ++ r) (hn : m.stack.length = n) :
    Mc B (w.setCell ⟨b, 5, none⟩ (.slice (some ⟨g, 0, none⟩) l.length k)) b { m with stack := l } (.slice (some ⟨g, 0, none⟩) l.length k) v6 v7 v8 := by
  subst hn
  have hn : m.stack.length = l.length + r.length := by rw [he]; simp
  have hown := own_cut h.o5 l.length (by omega)
  rw [he, intCells_take] at hown
  exact h.grow 0 5 _ _ ⟨2, 1, l.length, intCells l⟩ _ _ _ _ _ rfl (World.grownBy.refl _ _) hown (Or.inl rfl) (by simp [mcArr]) rfl (by simp [mcRows]) h.lims (by have := h.small; simp; omega)
    ⟨fun y hy => h.ints.1 y (by rw [he]; simp; exact Or.inl hy), h.ints.2.1, h.ints.2.2⟩
theorem Mc.cut6 {B : Nat} {w : World} {b : Nat} {m : MS} {v5 v7 v8 : Value} {g k n : Nat} (h : Mc B w b m v5 (.slice (some ⟨g, 0, none⟩) n k) v7 v8) (l r : List Int) (he : m.side = l ++ r) (hn : m.side.length = n) :
    Mc B (w.setCell ⟨b, 6, none⟩ (.slice (some ⟨g, 0, none⟩) l.length k)) b { m with side := l } v5 (.slice (some ⟨g, 0, none⟩) l.length k) v7 v8 := by
  subst hn
  have hn : m.side.length = l.length + r.length := by rw [he]; simp
  have hown := own_cut h.o6 l.length (by omega)
  rw [he, intCells_take] at hown
  exact h.grow 1 6 _ _ ⟨2, 1, l.length, intCells l⟩ _ _ _ _ _ rfl (World.grownBy.refl _ _) hown (Or.inl rfl) (by simp [mcArr]) rfl (by simp [mcRows]) h.lims (by have := h.small; simp; omega)
    ⟨h.ints.1, fun y hy => h.ints.2.1 y (by rw [he]; simp; exact Or.inl hy), h.ints.2.2⟩
theorem Mc.cut7 {B : Nat} {w : World} {b : Nat} {m : MS} {v5 v6 v8 : Value} {g k n : Nat} (h : Mc B w b m v5 v6 (.slice (some ⟨g, 0, none⟩) n k) v8) (l r : List Int) (he : m.calls = l ++ r) (hn : m.calls.length = n) :
    Mc B (w.setCell ⟨b, 7, none⟩ (.slice (some ⟨g, 0, none⟩) l.length k)) b { m with calls := l } v5 v6 (.slice (some ⟨g, 0, none⟩) l.length k) v8 := by
  subst hn
  have hn : m.calls.length = l.length + r.length := by rw [he]; simp
  have hown := own_cut h.o7 l.length (by omega)
  rw [he, intCells_take] at hown
  exact h.grow 2 7 _ _ ⟨3, 1, l.length, intCells l⟩ _ _ _ _ _ rfl (World.grownBy.refl _ _) hown (Or.inl rfl) (by simp [mcArr]) rfl (by simp [mcRows]) h.lims (by have := h.small; simp; omega) h.ints

theorem Tryz.infoInt64 : (Tryz.prog.info? 2).map (fun i => (i.zero, i.size, i.bytes)) = some (some (.int .i64 0), 1, 8) := by kernel_rfl

set_option maxRecDepth 100000 in
set_option maxHeartbeats 400000 in
theorem mpop_any (B b : Nat) (m : MS) (w : World) (h : McE B w b m) (l : List Int) (x : Int) (he : m.stack = l ++ [x]) :
    Calls Tryz.prog 213 #[.pointer (some ⟨b, 0, none⟩)] w fun e w' => e = .returned (.int .i64 x) ∧ McE B w' b { m with stack := l } ∧ Below B w w' := by
  obtain ⟨v5, v6, v7, v8, h⟩ := h
  have hn : m.stack.length = l.length + 1 := by rw [he]; simp
  obtain ⟨g, k, rfl, hg, hgl⟩ := h.o5.form (by omega)
  have hb := h.blk
  have hlt := hb.lt
  unfold mcArr at hb
  have ho := h.o5
  rw [hn] at hb ho
  have hx := own_cell ho l.length (by omega)
  rw [he, intCells_last] at hx
  have hs : (l.length : Int) ≤ 1000 := by have := h.small; omega
  have hk : (l.length : Int) + 1 ≤ k := by have := (own_cap ho).1; omega
  have hxi : inI x := h.ints.1 x (by rw [he]; simp)
  unfold inI at hxi
  have hc := hb.cell
  have hf := hb.free
  clear hb ho
  go_enter Tryz.func213, Tryz.ntmps213
  go_wp2_with fail
  go_region
  go_wp2
  go_region
  go_wp2
  go_ret
  refine ⟨rfl, ⟨_, _, _, _, ((h.cut5 l [x] he rfl).drew).drew⟩, ?_⟩
  exact (((Below.refl B w).setCell h.base _).drew).drew

set_option maxRecDepth 100000 in
set_option maxHeartbeats 400000 in
theorem mpush_any (B b : Nat) (m : MS) (x : Int) (w : World) (h : McE B w b m) (hx : inI x) (hlen : m.stack.length < 1000) :
    Calls Tryz.prog 212 #[.pointer (some ⟨b, 0, none⟩), .int .i64 x] w fun e w' => e = .returned (.tuple #[]) ∧ McE B w' b { m with stack := m.stack ++ [x] } ∧ Below B w w' := by
  obtain ⟨v5, v6, v7, v8, h⟩ := h
  obtain ⟨i0, hi, hz0, hz1, hz2⟩ := info_parts Tryz.infoInt64
  have hlt := h.blk.lt
  have hc := h.blk.cell
  have hf := h.blk.free
  unfold mcArr at hc
  have HB := V h.blk
  unfold mcArr at HB
  have hne := h.ne 0 v5 rfl
  have HW := V (ownsRow_alloc h.o5 (.cells #[.int .i64 x] 2))
  have hBs : B ≤ (w.alloc (.cells #[.int .i64 x] 2)).heap.size := by
    have := h.base
    simp; omega
  have HBs := V hBs
  clear hBs
  go_enter Tryz.func212, Tryz.ntmps212
  go_wp2_with (at_builtin; refine wpList_append_lies _ rfl (.tmp 8) (.tmp 10) 42 rfl B 2 i0 _ 1 8 Tryz.underlying42 hi hz0 hz1 hz2 rfl (by decide) v5 m.stack.length (intCells m.stack) (by simp [Act.eval]) (U HW) ⟨w.heap.size, 0, none⟩ 1 1 [.int .i64 x] (by simp [Act.eval]) rfl (World.news_of_block (Blk.new w _ _)) (oneCells1 _) (by omega) (by unfold maxLen; omega) (by omega) (U HBs) _ rfl ?_; intro g cap w5 hown hgrow hat hlt1; have hb5 := ((U HB).alloc _).grown hgrow hne; have hc5 := hb5.cell; have hf5 := hb5.free; have HO := V hown; have HG := V hgrow; have HA := V hat; clear hown hgrow hat hb5)
  go_end0
  refine ⟨rfl, ⟨_, _, _, _, h.grow5 hx hlen (grownBy_alloc' (U HG)) (U HO) (U HA) (by simp)⟩, ?_⟩
  exact (below_grown_alloc' (by have := h.base; omega) (fun k hk => (ownsRow_lt h.o5 hk).2) (U HG)).setCell h.base _
theorem McE.small {B : Nat} {w : World} {b : Nat} {m : MS} (h : McE B w b m) : m.stack.length ≤ 1000 ∧ m.side.length ≤ 1000 ∧ m.calls.length ≤ 1000 ∧ m.cells.length ≤ 1000 ∧ m.out.size ≤ 1000 ∧ (m.out.size : Int) ≤ m.lo := by
  obtain ⟨_, _, _, _, h⟩ := h
  exact h.small
theorem McE.ints {B : Nat} {w : World} {b : Nat} {m : MS} (h : McE B w b m) : (∀ x ∈ m.stack, inI x) ∧ (∀ x ∈ m.side, inI x) ∧ (∀ x ∈ m.cells, inI x) := by
  obtain ⟨_, _, _, _, h⟩ := h
  exact h.ints
theorem McE.drewN {B : Nat} {w : World} {b : Nat} {m : MS} (h : McE B w b m) (n : Nat) : McE B (w.drewN n) b m := by
  obtain ⟨_, _, _, _, h⟩ := h
  exact ⟨_, _, _, _, h.drewN n⟩
theorem McE.base {B : Nat} {w : World} {b : Nat} {m : MS} (h : McE B w b m) : B ≤ b := by
  obtain ⟨_, _, _, _, h⟩ := h
  exact h.base
theorem McE.at {B : Nat} {w : World} {b : Nat} {m : MS} (h : McE B w b m) (k : Int) : McE B (w.setCell ⟨b, 10, none⟩ (.int .i64 k)) b { m with pc := k } := by
  obtain ⟨_, _, _, _, h⟩ := h
  exact ⟨_, _, _, _, h.field 10 (.int .i64 k) _ (by simp [mcArr]) rfl h.lims h.small h.ints⟩
theorem McE.halt {B : Nat} {w : World} {b : Nat} {m : MS} (h : McE B w b m) : McE B (w.setCell ⟨b, 11, none⟩ (.bool true)) b { m with halted := true } := by
  obtain ⟨_, _, _, _, h⟩ := h
  exact ⟨_, _, _, _, h.field 11 (.bool true) _ (by simp [mcArr]) rfl h.lims h.small h.ints⟩

theorem below_drewN {B n : Nat} {w w' : World} (h : Below B (w.drewN n) w') : Below B w w' := Below.trans (b := w.drewN n) ⟨rfl, rfl, rfl, Nat.le_refl _, fun _ _ => rfl⟩ h

theorem Tryz.name212 : (Tryz.f212.name == "runtime.NumGoroutine") = false := by kernel_rfl
theorem Tryz.body212 : Tryz.f212.body.isNone = false := by kernel_rfl

set_option maxRecDepth 100000 in
set_option maxHeartbeats 1000000 in
theorem do_lit (B b : Nat) (m : MS) (arg : Int)  (w : World) (h : McE B w b m) (harg : inI arg) (hl : m.stack.length < 1000) :
    Calls Tryz.prog 184 #[.pointer (some ⟨b, 0, none⟩), .int .i64 0, .int .i64 arg] w fun e w' => e = .returned (.tuple #[]) ∧ McE B w' b { m with stack := m.stack ++ [arg] } ∧ Below B w w' := by
  have HP := V (mpush_any B b m arg w h harg hl)
  go_enter Tryz.func184, Tryz.ntmps184
  go_wp2_with fail
  refine (U HP).mono ?_
  rintro e w1 ⟨rfl, h1, hb1⟩
  clear HP
  go_wp2_with fail
  go_end0
  exact ⟨rfl, h1, hb1⟩

set_option maxRecDepth 100000 in
set_option maxHeartbeats 1000000 in
theorem do_jump (B b : Nat) (m : MS) (arg : Int)  (w : World) (h : McE B w b m) (harg : inI arg)  :
    Calls Tryz.prog 184 #[.pointer (some ⟨b, 0, none⟩), .int .i64 1, .int .i64 arg] w fun e w' => e = .returned (.tuple #[]) ∧ McE B w' b { m with pc := arg } ∧ Below B w w' := by
  have h0 := h
  obtain ⟨v5, v6, v7, v8, hm⟩ := h0
  have hc := hm.blk.cell
  have hf := hm.blk.free
  have hlt := hm.blk.lt
  unfold mcArr at hc
  clear hm
  have ha := harg
  unfold inI at ha
  obtain ⟨ha1, ha2⟩ := ha
  go_enter Tryz.func184, Tryz.ntmps184
  go_wp2_with fail
  go_end0
  exact ⟨rfl, h.at arg, (Below.refl B w).setCell h.base _⟩

set_option maxRecDepth 100000 in
set_option maxHeartbeats 1000000 in
theorem do_halt (B b : Nat) (m : MS) (arg : Int)  (w : World) (h : McE B w b m) (harg : inI arg)  :
    Calls Tryz.prog 184 #[.pointer (some ⟨b, 0, none⟩), .int .i64 5, .int .i64 arg] w fun e w' => e = .returned (.tuple #[]) ∧ McE B w' b { m with halted := true } ∧ Below B w w' := by
  have h0 := h
  obtain ⟨v5, v6, v7, v8, hm⟩ := h0
  have hc := hm.blk.cell
  have hf := hm.blk.free
  have hlt := hm.blk.lt
  unfold mcArr at hc
  clear hm
  have ha := harg
  unfold inI at ha
  obtain ⟨ha1, ha2⟩ := ha
  go_enter Tryz.func184, Tryz.ntmps184
  go_wp2_with fail
  go_end0
  exact ⟨rfl, h.halt, (Below.refl B w).setCell h.base _⟩

set_option maxRecDepth 100000 in
set_option maxHeartbeats 1000000 in
theorem do_jumpz_yes (B b : Nat) (m : MS) (arg : Int) (l : List Int) (x : Int) (w : World) (h : McE B w b m) (harg : inI arg) (he : m.stack = l ++ [x]) (hx : (x == 0) = true) :
    Calls Tryz.prog 184 #[.pointer (some ⟨b, 0, none⟩), .int .i64 2, .int .i64 arg] w fun e w' => e = .returned (.tuple #[]) ∧ McE B w' b { m with stack := l, pc := arg } ∧ Below B w w' := by
  have HP := V (mpop_any B b m w h l x he)
  have hxi : inI x := h.ints.1 x (by rw [he]; simp)
  unfold inI at hxi
  obtain ⟨hx1, hx2⟩ := hxi
  go_enter Tryz.func184, Tryz.ntmps184
  go_wp2_with fail
  refine (U HP).mono ?_
  rintro e w1 ⟨rfl, h1, hb1⟩
  clear HP
  obtain ⟨v5, v6, v7, v8, hm⟩ := id h1
  have hc := hm.blk.cell
  have hf := hm.blk.free
  have hlt := hm.blk.lt
  unfold mcArr at hc
  clear hm
  have ha := harg
  unfold inI at ha
  obtain ⟨ha1, ha2⟩ := ha
  go_wp2_with fail
  go_end0
  exact ⟨rfl, h1.at arg, hb1.setCell h1.base _⟩

set_option maxRecDepth 100000 in
set_option maxHeartbeats 1000000 in
theorem do_jumpz_no (B b : Nat) (m : MS) (arg : Int) (l : List Int) (x : Int) (w : World) (h : McE B w b m) (harg : inI arg) (he : m.stack = l ++ [x]) (hx : (x == 0) = false) :
    Calls Tryz.prog 184 #[.pointer (some ⟨b, 0, none⟩), .int .i64 2, .int .i64 arg] w fun e w' => e = .returned (.tuple #[]) ∧ McE B w' b { m with stack := l } ∧ Below B w w' := by
  have HP := V (mpop_any B b m w h l x he)
  have hxi : inI x := h.ints.1 x (by rw [he]; simp)
  unfold inI at hxi
  obtain ⟨hx1, hx2⟩ := hxi
  go_enter Tryz.func184, Tryz.ntmps184
  go_wp2_with fail
  refine (U HP).mono ?_
  rintro e w1 ⟨rfl, h1, hb1⟩
  clear HP
  obtain ⟨v5, v6, v7, v8, hm⟩ := id h1
  have hc := hm.blk.cell
  have hf := hm.blk.free
  have hlt := hm.blk.lt
  unfold mcArr at hc
  clear hm
  have ha := harg
  unfold inI at ha
  obtain ⟨ha1, ha2⟩ := ha
  go_wp2_with fail
  go_end0
  exact ⟨rfl, h1, hb1⟩

set_option maxRecDepth 100000 in
set_option maxHeartbeats 1000000 in
theorem do_call (B b : Nat) (m : MS) (arg : Int)  (w : World) (h : McE B w b m) (harg : inI arg) (hl : m.calls.length < 1000) :
    Calls Tryz.prog 184 #[.pointer (some ⟨b, 0, none⟩), .int .i64 3, .int .i64 arg] w fun e w' => e = .returned (.tuple #[]) ∧ McE B w' b { m with calls := m.calls ++ [m.pc], pc := arg } ∧ Below B w w' := by
  obtain ⟨v5, v6, v7, v8, h⟩ := h
  obtain ⟨i0, hi, hz0, hz1, hz2⟩ := info_parts Tryz.infoInt
  have hlt := h.blk.lt
  have hc := h.blk.cell
  have hf := h.blk.free
  unfold mcArr at hc
  have HB := V h.blk
  unfold mcArr at HB
  have hne := h.ne 2 v7 rfl
  have ha := harg
  unfold inI at ha
  obtain ⟨ha1, ha2⟩ := ha
  have HW := V (ownsRow_alloc h.o7 (.cells #[.int .i64 m.pc] 3))
  have hBs : B ≤ (w.alloc (.cells #[.int .i64 m.pc] 3)).drew.heap.size := by
    have := h.base
    show B ≤ (w.alloc _).heap.size
    simp; omega
  have HBs := V hBs
  clear hBs
  go_enter Tryz.func184, Tryz.ntmps184
  go_wp2_with fail
  go_region_law (refine step_append_lies _ rfl (.tmp 45) (.tmp 50) 115 rfl B 3 i0 _ 1 8 Tryz.underlying115 hi hz0 hz1 hz2 rfl (by decide) v7 m.calls.length (intCells m.calls) (by simp [Act.eval]) (U HW) ⟨w.heap.size, 0, none⟩ 1 1 [.int .i64 m.pc] (by simp [Act.eval]) rfl (World.news_of_block (Blk.new w _ _)) (oneCells1 _) (by omega) (by unfold maxLen; omega) (by omega) (U HBs) _ rfl ?_; intro g cap w3 hown hgrow hat hlt1; have hb1 := ((U HB).alloc _).drew.grown hgrow hne; have hc1 := hb1.cell; have hf1 := hb1.free; have HO := V hown; have HG := V hgrow; have HA := V hat; clear hown hgrow hat hb1)
  all_goals
    go_wp2
    go_end0
    refine ⟨rfl, McE.at ⟨_, _, _, _, h.grow7 hl (grownBy_alloc (U HG)) (U HO) (U HA) (by simp)⟩ arg, ?_⟩
    exact ((below_grown_alloc (by have := h.base; omega) (fun k hk => (ownsRow_lt h.o7 hk).2) (U HG)).setCell h.base _).setCell h.base _

set_option maxRecDepth 100000 in
set_option maxHeartbeats 1000000 in
theorem do_index (B b : Nat) (m : MS) (arg : Int) (l : List Int) (x : Int) (w : World) (h : McE B w b m) (harg : inI arg) (he : m.side = l ++ [x]) (hl : m.stack.length < 1000) :
    Calls Tryz.prog 184 #[.pointer (some ⟨b, 0, none⟩), .int .i64 8, .int .i64 arg] w fun e w' => e = .returned (.tuple #[]) ∧ McE B w' b { m with stack := m.stack ++ [x] } ∧ Below B w w' := by
  have _ := harg
  have hxi : inI x := h.ints.2.1 x (by rw [he]; simp)
  have HP := V (fun n => mpush_any B b m x (w.drewN n) (h.drewN n) hxi hl)
  obtain ⟨v5, v6, v7, v8, hm⟩ := id h
  have hn : m.side.length = l.length + 1 := by rw [he]; simp
  obtain ⟨g, k, rfl, hg, hgl⟩ := hm.o6.form (by omega)
  have hb := hm.blk
  unfold mcArr at hb
  have ho := hm.o6
  rw [hn] at hb ho
  have hx := own_cell ho l.length (by omega)
  rw [he, intCells_last] at hx
  have hs : (l.length : Int) ≤ 1000 := by have := hm.small; omega
  have hwr : IntKind.i64.wrap (l.length : Int) = l.length := by rw [IntKind.wrap_i64]; omega
  have hlt9 : (l.length : Int) < l.length + 1 := by omega
  have hc := hb.cell
  clear hm hb ho
  go_enter Tryz.func184, Tryz.ntmps184
  go_wp2_with fail
  go_region_law (refine step_call rfl 212 #[.tmp 171, .tmp 183] #[185, 2] rfl Tryz.func212 Tryz.name212 Tryz.body212 #[.pointer (some ⟨b, 0, none⟩), .int .i64 x] (by first | (simp [Act.eval]; done) | (simp [Act.eval, Act.put]; done) | rfl) (U HP _) ?_; rintro e w1 ⟨rfl, h1, hb1⟩; refine ⟨_, rfl, ?_⟩)
  all_goals
    go_wp2
    go_end0
    exact ⟨rfl, h1, below_drewN hb1⟩

set_option maxRecDepth 100000 in
set_option maxHeartbeats 1000000 in
theorem do_look (B b : Nat) (m : MS) (arg : Int) (l : List Int) (x : Int) (w : World) (h : McE B w b m) (harg : inI arg) (he : m.side = l ++ [x]) (hl : m.stack.length < 1000) :
    Calls Tryz.prog 184 #[.pointer (some ⟨b, 0, none⟩), .int .i64 28, .int .i64 arg] w fun e w' => e = .returned (.tuple #[]) ∧ McE B w' b { m with stack := m.stack ++ [x] } ∧ Below B w w' := by
  have _ := harg
  have hxi : inI x := h.ints.2.1 x (by rw [he]; simp)
  have HP := V (fun n => mpush_any B b m x (w.drewN n) (h.drewN n) hxi hl)
  obtain ⟨v5, v6, v7, v8, hm⟩ := id h
  have hn : m.side.length = l.length + 1 := by rw [he]; simp
  obtain ⟨g, k, rfl, hg, hgl⟩ := hm.o6.form (by omega)
  have hb := hm.blk
  unfold mcArr at hb
  have ho := hm.o6
  rw [hn] at hb ho
  have hx := own_cell ho l.length (by omega)
  rw [he, intCells_last] at hx
  have hs : (l.length : Int) ≤ 1000 := by have := hm.small; omega
  have hwr : IntKind.i64.wrap (l.length : Int) = l.length := by rw [IntKind.wrap_i64]; omega
  have hlt9 : (l.length : Int) < l.length + 1 := by omega
  have hc := hb.cell
  clear hm hb ho
  go_enter Tryz.func184, Tryz.ntmps184
  go_wp2_with fail
  go_region_law (refine step_call rfl 212 #[.tmp 171, .tmp 183] #[185, 2] rfl Tryz.func212 Tryz.name212 Tryz.body212 #[.pointer (some ⟨b, 0, none⟩), .int .i64 x] (by first | (simp [Act.eval]; done) | (simp [Act.eval, Act.put]; done) | rfl) (U HP _) ?_; rintro e w1 ⟨rfl, h1, hb1⟩; refine ⟨_, rfl, ?_⟩)
  all_goals
    go_wp2
    go_end0
    exact ⟨rfl, h1, below_drewN hb1⟩

set_option maxRecDepth 100000 in
set_option maxHeartbeats 1000000 in
theorem do_ret (B b : Nat) (m : MS) (arg : Int) (l : List Int) (x : Int) (w : World) (h : McE B w b m) (harg : inI arg) (he : m.calls = l ++ [x]) :
    Calls Tryz.prog 184 #[.pointer (some ⟨b, 0, none⟩), .int .i64 4, .int .i64 arg] w fun e w' => e = .returned (.tuple #[]) ∧ McE B w' b { m with calls := l, pc := x } ∧ Below B w w' := by
  have _ := harg
  obtain ⟨v5, v6, v7, v8, h⟩ := h
  have hn : m.calls.length = l.length + 1 := by rw [he]; simp
  obtain ⟨g, k, rfl, hg, hgl⟩ := h.o7.form (by omega)
  have hb := h.blk
  have hlt := hb.lt
  unfold mcArr at hb
  have ho := h.o7
  rw [hn] at hb ho
  have hx := own_cell ho l.length (by omega)
  rw [he, intCells_last] at hx
  have hs : (l.length : Int) ≤ 1000 := by have := h.small; omega
  have hk : (l.length : Int) + 1 ≤ k := by have := (own_cap ho).1; omega
  have hwr : IntKind.i64.wrap (l.length : Int) = l.length := by rw [IntKind.wrap_i64]; omega
  have hc := hb.cell
  have hf := hb.free
  clear hb ho
  go_enter Tryz.func184, Tryz.ntmps184
  go_wp2_with fail
  go_region
  go_wp2
  go_region
  go_wp2
  go_end0
  have h2 := h.field 10 (.int .i64 x) { m with pc := x } (by simp [mcArr]) rfl h.lims h.small h.ints
  exact ⟨rfl, ⟨_, _, _, _, ((h2.cut7 l [x] he rfl).drew).drew⟩, ((((Below.refl B w).setCell h.base _).setCell h.base _).drew).drew⟩

set_option maxRecDepth 100000 in
set_option maxHeartbeats 1000000 in
theorem do_invert (B b : Nat) (m : MS) (arg : Int) (l : List Int) (x : Int) (w : World) (h : McE B w b m) (harg : inI arg) (he : m.stack = l ++ [x]) :
    Calls Tryz.prog 184 #[.pointer (some ⟨b, 0, none⟩), .int .i64 17, .int .i64 arg] w fun e w' => e = .returned (.tuple #[]) ∧ McE B w' b { m with stack := l ++ [(-1 - x)] } ∧ Below B w w' := by
  have HP := V (mpop_any B b m w h l x he)
  have hxi : inI x := h.ints.1 x (by rw [he]; simp)
  unfold inI at hxi
  obtain ⟨hx1, hx2⟩ := hxi
  have hn : m.stack.length = l.length + 1 := by rw [he]; simp
  have hs : l.length < 1000 := by have := h.small; omega
  go_enter Tryz.func184, Tryz.ntmps184
  go_wp2_with fail
  refine (U HP).mono ?_
  rintro e w1 ⟨rfl, h1, hb1⟩
  clear HP
  have HP := V (mpush_any B b _ (-1 - x) w1 h1 (by unfold inI; first | omega | (unfold wrap64; omega)) hs)
  go_wp2_with fail
  refine (U HP).mono ?_
  rintro e w2 ⟨rfl, h2, hb2⟩
  go_wp2_with fail
  go_end0
  have _ := harg
  exact ⟨rfl, h2, hb1.trans hb2⟩

set_option maxRecDepth 100000 in
set_option maxHeartbeats 1000000 in
theorem do_negate (B b : Nat) (m : MS) (arg : Int) (l : List Int) (x : Int) (w : World) (h : McE B w b m) (harg : inI arg) (he : m.stack = l ++ [x]) :
    Calls Tryz.prog 184 #[.pointer (some ⟨b, 0, none⟩), .int .i64 18, .int .i64 arg] w fun e w' => e = .returned (.tuple #[]) ∧ McE B w' b { m with stack := l ++ [(wrap64 (-x))] } ∧ Below B w w' := by
  have HP := V (mpop_any B b m w h l x he)
  have hxi : inI x := h.ints.1 x (by rw [he]; simp)
  unfold inI at hxi
  obtain ⟨hx1, hx2⟩ := hxi
  have hn : m.stack.length = l.length + 1 := by rw [he]; simp
  have hs : l.length < 1000 := by have := h.small; omega
  go_enter Tryz.func184, Tryz.ntmps184
  go_wp2_with fail
  refine (U HP).mono ?_
  rintro e w1 ⟨rfl, h1, hb1⟩
  clear HP
  have HP := V (mpush_any B b _ (wrap64 (-x)) w1 h1 (by unfold inI; first | omega | (unfold wrap64; omega)) hs)
  go_wp2_with fail
  refine (U HP).mono ?_
  rintro e w2 ⟨rfl, h2, hb2⟩
  go_wp2_with fail
  go_end0
  have _ := harg
  exact ⟨rfl, h2, hb1.trans hb2⟩
end Go.Proofs.YtmeiikjpaepogaaGreatDoor
