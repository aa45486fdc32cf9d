/- The reference's Machine: its lists grow, are cut, are written; push, pop. -/
import Derived.Test.YtbcjfiaacenhgaaGreatDoorG05
import Derived.Test.YtbcjfiaacenhgaaGreatDoorG08
namespace Go.Proofs.YtbcjfiaacenhgaaGreatDoor
open Go Go.RowKit

def McE (B : Nat) (w : World) (b : Nat) (m : MS) : Prop := ∃ v5 v6 v7 v8, Mc B w b m v5 v6 v7 v8

theorem kept_lt {w : World} {b : Nat} {ks : List (Nat × Array Value × TypeId)} (hb : b < w.heap.size) (hk : ∀ x ∈ ks, Blk w x.1 x.2.1 x.2.2) : ∀ c ∈ b :: ks.map (fun x => x.1), c < w.heap.size := by
  intro c hc
  rcases List.mem_cons.1 hc with rfl | hc
  · exact hb
  · obtain ⟨x, hx, rfl⟩ := List.mem_map.1 hc
    exact (hk x hx).lt

section
variable {B : Nat} {w w1 : World} {b : Nat} {m : MS} {v5 v6 v7 v8 : Value}
theorem Mc.ne (h : Mc B w b m v5 v6 v7 v8) (i : Nat) (v : Value) (hv : [v5, v6, v7, v8][i]? = some v) : some b ≠ v.ownBlock := fun e => h.owned.off i v b hv (by simp) e.symm
theorem Mc.drew (h : Mc B w b m v5 v6 v7 v8) : Mc B w.drew b m v5 v6 v7 v8 := ⟨h.blk, h.base, h.owned.drew, h.lims, h.small, h.ints, h.kept, h.kne⟩
theorem Mc.alloc (h : Mc B w b m v5 v6 v7 v8) (o : Obj) : Mc B (w.alloc o) b m v5 v6 v7 v8 := ⟨h.blk.alloc o, h.base, h.owned.alloc o, h.lims, h.small, h.ints, fun x hx => (h.kept x hx).alloc o, h.kne⟩
theorem Mc.grow (h : Mc B w b m v5 v6 v7 v8) (i c : Nat) (v v' : Value) (s' : RowSpec) (m' : MS) (u5 u6 u7 u8 : Value)
    (hv : [v5, v6, v7, v8][i]? = some v) (hw1 : w.grownBy w1 v.ownBlock) (hown : w1.ownsRow B s'.e s'.size v' s'.n s'.xs) (hat : v'.ownBlock = v.ownBlock ∨ ∃ g, v'.ownBlock = some g ∧ w.heap.size ≤ g)
    (ha : (mcArr m v5 v6 v7 v8).setIfInBounds c v' = mcArr m' u5 u6 u7 u8) (hvs : [v5, v6, v7, v8].set i v' = [u5, u6, u7, u8]) (hr : (mcRows m).set i s' = mcRows m')
    (hl : (1 ≤ m'.ls ∧ m'.ls ≤ 1000) ∧ (1 ≤ m'.la ∧ m'.la ≤ 1000) ∧ (1 ≤ m'.lc ∧ m'.lc ≤ 1000) ∧ (1 ≤ m'.lo ∧ m'.lo ≤ 1000))
    (hs : m'.stack.length ≤ 1000 ∧ m'.side.length ≤ 1000 ∧ m'.calls.length ≤ 1000 ∧ m'.cells.length ≤ 1000 ∧ m'.out.size ≤ 1000 ∧ (m'.out.size : Int) ≤ m'.lo)
    (hi : (∀ x ∈ m'.stack, inI x) ∧ (∀ x ∈ m'.side, inI x) ∧ (∀ x ∈ m'.cells, inI x)) (hq : m'.ks = m.ks := by exact rfl) :
    Mc B (w1.setCell ⟨b, c, none⟩ v') b m' u5 u6 u7 u8 := by
  have hlt := h.blk.lt
  have hoff : ∀ x ∈ m.ks, some x.1 ≠ v.ownBlock := fun x hx e => h.owned.off i v x.1 hv (List.mem_cons_of_mem _ (List.mem_map_of_mem hx)) e.symm
  refine ⟨?_, h.base, ?_, hl, hs, hi, ?_, by rw [hq]; exact h.kne⟩
  · rw [← ha]; exact (h.blk.grown hw1 (h.ne i v hv)).set c v'
  · rw [← hvs, ← hr, hq]; exact (h.owned.grow i v v' s' hv (kept_lt hlt h.kept) hw1 hown hat).set (b := b) (by simp) c v'
  · rw [hq]; exact fun x hx => ((h.kept x hx).grown hw1 (hoff x hx)).far (fun e => h.kne x hx e.symm) v'
/-- A plain field is written. -/
theorem Mc.field (h : Mc B w b m v5 v6 v7 v8) (c : Nat) (u : Value) (m' : MS)
    (ha : (mcArr m v5 v6 v7 v8).setIfInBounds c u = mcArr m' v5 v6 v7 v8) (hr : mcRows m = mcRows m')
    (hl : (1 ≤ m'.ls ∧ m'.ls ≤ 1000) ∧ (1 ≤ m'.la ∧ m'.la ≤ 1000) ∧ (1 ≤ m'.lc ∧ m'.lc ≤ 1000) ∧ (1 ≤ m'.lo ∧ m'.lo ≤ 1000))
    (hs : m'.stack.length ≤ 1000 ∧ m'.side.length ≤ 1000 ∧ m'.calls.length ≤ 1000 ∧ m'.cells.length ≤ 1000 ∧ m'.out.size ≤ 1000 ∧ (m'.out.size : Int) ≤ m'.lo)
    (hi : (∀ x ∈ m'.stack, inI x) ∧ (∀ x ∈ m'.side, inI x) ∧ (∀ x ∈ m'.cells, inI x)) (hq : m'.ks = m.ks := by exact rfl) :
    Mc B (w.setCell ⟨b, c, none⟩ u) b m' v5 v6 v7 v8 := by
  refine ⟨?_, h.base, ?_, hl, hs, hi, ?_, by rw [hq]; exact h.kne⟩
  · rw [← ha]; exact h.blk.set c u
  · rw [← hr, hq]; exact h.owned.set (b := b) (by simp) c u
  · rw [hq]; exact fun x hx => (h.kept x hx).far (fun e => h.kne x hx e.symm) u
theorem Mc.grow5 (h : Mc B w b m v5 v6 v7 v8) {x : Int} (hx : inI x) {g cap H : Nat} (hlen : m.stack.length < 1000) (hw1 : w.grownBy w1 v5.ownBlock)
    (hown : w1.ownsRow B 2 1 (.slice (some ⟨g, 0, none⟩) (m.stack.length + 1) cap) (m.stack.length + 1) (intCells m.stack ++ [.int .i64 x])) (hat : v5.ownBlock = some g ∨ g = H) (hH : w.heap.size ≤ H) :
    Mc B (w1.setCell ⟨b, 5, none⟩ (.slice (some ⟨g, 0, none⟩) (m.stack.length + 1) cap)) b { m with stack := m.stack ++ [x] } (.slice (some ⟨g, 0, none⟩) (m.stack.length + 1) cap) v6 v7 v8 :=
  h.grow 0 5 v5 _ ⟨2, 1, m.stack.length + 1, _⟩ _ _ _ _ _ rfl hw1 hown (lies_at hat hH) (by simp [mcArr]) rfl (by simp [mcRows, intCells]) h.lims (by have := h.small; simp; omega)
    ⟨fun y hy => by simp at hy; rcases hy with hy | rfl; exact h.ints.1 y hy; exact hx, h.ints.2.1, h.ints.2.2⟩
theorem Mc.grow6 (h : Mc B w b m v5 v6 v7 v8) {x : Int} (hx : inI x) {g cap H : Nat} (hlen : m.side.length < 1000) (hw1 : w.grownBy w1 v6.ownBlock)
    (hown : w1.ownsRow B 2 1 (.slice (some ⟨g, 0, none⟩) (m.side.length + 1) cap) (m.side.length + 1) (intCells m.side ++ [.int .i64 x])) (hat : v6.ownBlock = some g ∨ g = H) (hH : w.heap.size ≤ H) :
    Mc B (w1.setCell ⟨b, 6, none⟩ (.slice (some ⟨g, 0, none⟩) (m.side.length + 1) cap)) b { m with side := m.side ++ [x] } v5 (.slice (some ⟨g, 0, none⟩) (m.side.length + 1) cap) v7 v8 :=
  h.grow 1 6 v6 _ ⟨2, 1, m.side.length + 1, _⟩ _ _ _ _ _ rfl hw1 hown (lies_at hat hH) (by simp [mcArr]) rfl (by simp [mcRows, intCells]) h.lims (by have := h.small; simp; omega)
    ⟨h.ints.1, fun y hy => by simp at hy; rcases hy with hy | rfl; exact h.ints.2.1 y hy; exact hx, h.ints.2.2⟩
theorem Mc.grow7 (h : Mc B w b m v5 v6 v7 v8) {x : Int} {g cap H : Nat} (hlen : m.calls.length < 1000) (hw1 : w.grownBy w1 v7.ownBlock)
    (hown : w1.ownsRow B 3 1 (.slice (some ⟨g, 0, none⟩) (m.calls.length + 1) cap) (m.calls.length + 1) (intCells m.calls ++ [.int .i64 x])) (hat : v7.ownBlock = some g ∨ g = H) (hH : w.heap.size ≤ H) :
    Mc B (w1.setCell ⟨b, 7, none⟩ (.slice (some ⟨g, 0, none⟩) (m.calls.length + 1) cap)) b { m with calls := m.calls ++ [x] } v5 v6 (.slice (some ⟨g, 0, none⟩) (m.calls.length + 1) cap) v8 :=
  h.grow 2 7 v7 _ ⟨3, 1, m.calls.length + 1, _⟩ _ _ _ _ _ rfl hw1 hown (lies_at hat hH) (by simp [mcArr]) rfl (by simp [mcRows, intCells]) h.lims (by have := h.small; simp; omega) h.ints
end

theorem intCells_take (l r : List Int) : (intCells (l ++ r)).take (l.length * 1) = intCells l := by
  simp [intCells]

theorem Mc.cut5 {B : Nat} {w : World} {b : Nat} {m : MS} {v6 v7 v8 : Value} {g k n : Nat} (h : Mc B w b m (.slice (some ⟨g, 0, none⟩) n k) v6 v7 v8) (l r : List Int) (he : m.stack = l ++ r) (hn : m.stack.length = n) :
    Mc B (w.setCell ⟨b, 5, none⟩ (.slice (some ⟨g, 0, none⟩) l.length k)) b { m with stack := l } (.slice (some ⟨g, 0, none⟩) l.length k) v6 v7 v8 := by
  subst hn
  have hn : m.stack.length = l.length + r.length := by rw [he]; simp
  have hown := own_cut h.o5 l.length (by omega)
  rw [he, intCells_take] at hown
  exact h.grow 0 5 _ _ ⟨2, 1, l.length, intCells l⟩ _ _ _ _ _ rfl (World.grownBy.refl _ _) hown (Or.inl rfl) (by simp [mcArr]) rfl (by simp [mcRows]) h.lims (by have := h.small; simp; omega)
    ⟨fun y hy => h.ints.1 y (by rw [he]; simp; exact Or.inl hy), h.ints.2.1, h.ints.2.2⟩
theorem Mc.cut6 {B : Nat} {w : World} {b : Nat} {m : MS} {v5 v7 v8 : Value} {g k n : Nat} (h : Mc B w b m v5 (.slice (some ⟨g, 0, none⟩) n k) v7 v8) (l r : List Int) (he : m.side = l ++ r) (hn : m.side.length = n) :
    Mc B (w.setCell ⟨b, 6, none⟩ (.slice (some ⟨g, 0, none⟩) l.length k)) b { m with side := l } v5 (.slice (some ⟨g, 0, none⟩) l.length k) v7 v8 := by
  subst hn
  have hn : m.side.length = l.length + r.length := by rw [he]; simp
  have hown := own_cut h.o6 l.length (by omega)
  rw [he, intCells_take] at hown
  exact h.grow 1 6 _ _ ⟨2, 1, l.length, intCells l⟩ _ _ _ _ _ rfl (World.grownBy.refl _ _) hown (Or.inl rfl) (by simp [mcArr]) rfl (by simp [mcRows]) h.lims (by have := h.small; simp; omega)
    ⟨h.ints.1, fun y hy => h.ints.2.1 y (by rw [he]; simp; exact Or.inl hy), h.ints.2.2⟩
theorem Mc.cut7 {B : Nat} {w : World} {b : Nat} {m : MS} {v5 v6 v8 : Value} {g k n : Nat} (h : Mc B w b m v5 v6 (.slice (some ⟨g, 0, none⟩) n k) v8) (l r : List Int) (he : m.calls = l ++ r) (hn : m.calls.length = n) :
    Mc B (w.setCell ⟨b, 7, none⟩ (.slice (some ⟨g, 0, none⟩) l.length k)) b { m with calls := l } v5 v6 (.slice (some ⟨g, 0, none⟩) l.length k) v8 := by
  subst hn
  have hn : m.calls.length = l.length + r.length := by rw [he]; simp
  have hown := own_cut h.o7 l.length (by omega)
  rw [he, intCells_take] at hown
  exact h.grow 2 7 _ _ ⟨3, 1, l.length, intCells l⟩ _ _ _ _ _ rfl (World.grownBy.refl _ _) hown (Or.inl rfl) (by simp [mcArr]) rfl (by simp [mcRows]) h.lims (by have := h.small; simp; omega) h.ints

theorem Tryz.infoInt64 : (Tryz.prog.info? 2).map (fun i => (i.zero, i.size, i.bytes)) = some (some (.int .i64 0), 1, 8) := by kernel_rfl

set_option maxRecDepth 100000 in
set_option maxHeartbeats 400000 in
theorem mpop_any (B b : Nat) (m : MS) (w : World) (h : McE B w b m) (l : List Int) (x : Int) (he : m.stack = l ++ [x]) :
    Calls Tryz.prog 76 #[.pointer (some ⟨b, 0, none⟩)] w fun e w' => e = .returned (.int .i64 x) ∧ McE B w' b { m with stack := l } ∧ Below B w w' := by
  obtain ⟨v5, v6, v7, v8, h⟩ := h
  have hn : m.stack.length = l.length + 1 := by rw [he]; simp
  obtain ⟨g, k, rfl, hg, hgl⟩ := h.o5.form (by omega)
  have hb := h.blk
  have hlt := hb.lt
  unfold mcArr at hb
  have ho := h.o5
  rw [hn] at hb ho
  have hx := own_cell ho l.length (by omega)
  rw [he, intCells_last] at hx
  have hs : (l.length : Int) ≤ 1000 := by have := h.small; omega
  have hk : (l.length : Int) + 1 ≤ k := by have := (own_cap ho).1; omega
  have hxi : inI x := h.ints.1 x (by rw [he]; simp)
  unfold inI at hxi
  have hc := hb.cell
  have hf := hb.free
  clear hb ho
  go_enter Tryz.func76, Tryz.ntmps76
  go_wp2_with fail
  go_region
  go_wp2
  go_region
  go_wp2
  go_ret
  refine ⟨rfl, ⟨_, _, _, _, ((h.cut5 l [x] he rfl).drew).drew⟩, ?_⟩
  exact (((Below.refl B w).setCell h.base _).drew).drew

set_option maxRecDepth 100000 in
set_option maxHeartbeats 400000 in
theorem mpush_any (B b : Nat) (m : MS) (x : Int) (w : World) (h : McE B w b m) (hx : inI x) (hlen : m.stack.length < 1000) :
    Calls Tryz.prog 75 #[.pointer (some ⟨b, 0, none⟩), .int .i64 x] w fun e w' => e = .returned (.tuple #[]) ∧ McE B w' b { m with stack := m.stack ++ [x] } ∧ Below B w w' := by
  obtain ⟨v5, v6, v7, v8, h⟩ := h
  obtain ⟨i0, hi, hz0, hz1, hz2⟩ := info_parts Tryz.infoInt64
  have hlt := h.blk.lt
  have hc := h.blk.cell
  have hf := h.blk.free
  unfold mcArr at hc
  have HB := hide h.blk
  unfold mcArr at HB
  have hne := h.ne 0 v5 rfl
  have HW := hide (ownsRow_alloc h.o5 (.cells #[.int .i64 x] 2))
  have hBs : B ≤ (w.alloc (.cells #[.int .i64 x] 2)).heap.size := by
    have := h.base
    simp; omega
  have HBs := hide hBs
  clear hBs
  go_enter Tryz.func75, Tryz.ntmps75
  go_wp2_with (at_builtin; refine wpList_append_lies _ rfl (.tmp 8) (.tmp 10) 63 rfl B 2 i0 _ 1 8 Tryz.underlying63 hi hz0 hz1 hz2 rfl (by decide) v5 m.stack.length (intCells m.stack) (by simp [Act.eval]) (unhide HW) ⟨w.heap.size, 0, none⟩ 1 1 [.int .i64 x] (by simp [Act.eval]) rfl (World.news_of_block (Blk.new w _ _)) (oneCells1 _) (by omega) (by unfold maxLen; omega) (by omega) (unhide HBs) _ rfl ?_; intro g cap w5 hown hgrow hat hlt1; have hb5 := ((unhide HB).alloc _).grown hgrow hne; have hc5 := hb5.cell; have hf5 := hb5.free; have HO := hide hown; have HG := hide hgrow; have HA := hide hat; clear hown hgrow hat hb5)
  go_end0
  refine ⟨rfl, ⟨_, _, _, _, h.grow5 hx hlen (grownBy_alloc' (unhide HG)) (unhide HO) (unhide HA) (by simp)⟩, ?_⟩
  exact (below_grown_alloc' (by have := h.base; omega) (fun k hk => (ownsRow_lt h.o5 hk).2) (unhide HG)).setCell h.base _

end Go.Proofs.YtbcjfiaacenhgaaGreatDoor

