/- The reference's Machine: its lists grow, are cut, are written; push, pop. -/
import Derived.Test.YtmeiikjpaepogaaGreatDoorG04
import Derived.Test.YtmeiikjpaepogaaGreatDoorG06
namespace Go.Proofs.YtmeiikjpaepogaaGreatDoor
open Go Go.RowKit

def McE (B : Nat) (w : World) (b : Nat) (m : MS) : Prop := ∃ v5 v6 v7 v8, Mc B w b m v5 v6 v7 v8

theorem kept_lt {w : World} {b : Nat} {ks : List (Nat × Array Value × TypeId)} (hb : b < w.heap.size) (hk : ∀ x ∈ ks, Blk w x.1 x.2.1 x.2.2) : ∀ c ∈ b :: ks.map (fun x => x.1), c < w.heap.size := by
  intro c hc
  rcases List.mem_cons.1 hc with rfl | hc
  · exact hb
  · obtain ⟨x, hx, rfl⟩ := List.mem_map.1 hc
    exact (hk x hx).lt

section
variable {B : Nat} {w w1 : World} {b : Nat} {m : MS} {v5 v6 v7 v8 : Value}
theorem Mc.ne (h : Mc B w b m v5 v6 v7 v8) (i : Nat) (v : Value) (hv : [v5, v6, v7, v8][i]? = some v) : some b ≠ v.ownBlock := fun e => h.owned.off i v b hv (by simp) e.symm
theorem Mc.drew (h : Mc B w b m v5 v6 v7 v8) : Mc B w.drew b m v5 v6 v7 v8 := ⟨h.blk, h.base, h.owned.drew, h.lims, h.small, h.ints, h.kept, h.kne⟩
theorem Mc.alloc (h : Mc B w b m v5 v6 v7 v8) (o : Obj) : Mc B (w.alloc o) b m v5 v6 v7 v8 := ⟨h.blk.alloc o, h.base, h.owned.alloc o, h.lims, h.small, h.ints, fun x hx => (h.kept x hx).alloc o, h.kne⟩
theorem Mc.grow (h : Mc B w b m v5 v6 v7 v8) (i c : Nat) (v v' : Value) (s' : RowSpec) (m' : MS) (u5 u6 u7 u8 : Value)
    (hv : [v5, v6, v7, v8][i]? = some v) (hw1 : w.grownBy w1 v.ownBlock) (hown : w1.ownsRow B s'.e s'.size v' s'.n s'.xs) (hat : v'.ownBlock = v.ownBlock ∨ ∃ g, v'.ownBlock = some g ∧ w.heap.size ≤ g)
    (ha : (mcArr m v5 v6 v7 v8).setIfInBounds c v' = mcArr m' u5 u6 u7 u8) (hvs : [v5, v6, v7, v8].set i v' = [u5, u6, u7, u8]) (hr : (mcRows m).set i s' = mcRows m')
    (hl : (1 ≤ m'.ls ∧ m'.ls ≤ 1000) ∧ (1 ≤ m'.la ∧ m'.la ≤ 1000) ∧ (1 ≤ m'.lc ∧ m'.lc ≤ 1000) ∧ (1 ≤ m'.lo ∧ m'.lo ≤ 1000))
    (hs : m'.stack.length ≤ 1000 ∧ m'.side.length ≤ 1000 ∧ m'.calls.length ≤ 1000 ∧ m'.cells.length ≤ 1000 ∧ m'.out.size ≤ 1000 ∧ (m'.out.size : Int) ≤ m'.lo)
    (hi : (∀ x ∈ m'.stack, inI x) ∧ (∀ x ∈ m'.side, inI x) ∧ (∀ x ∈ m'.cells, inI x)) (hq : m'.ks = m.ks := by exact rfl) :
    Mc B (w1.setCell ⟨b, c, none⟩ v') b m' u5 u6 u7 u8 := by
  have hlt := h.blk.lt
  have hoff : ∀ x ∈ m.ks, some x.1 ≠ v.ownBlock := fun x hx e => h.owned.off i v x.1 hv (List.mem_cons_of_mem _ (List.mem_map_of_mem hx)) e.symm
  refine ⟨?_, h.base, ?_, hl, hs, hi, ?_, by rw [hq]; exact h.kne⟩
  · rw [← ha]; exact (h.blk.grown hw1 (h.ne i v hv)).set c v'
  · rw [← hvs, ← hr, hq]; exact (h.owned.grow i v v' s' hv (kept_lt hlt h.kept) hw1 hown hat).set (b := b) (by simp) c v'
  · rw [hq]; exact fun x hx => ((h.kept x hx).grown hw1 (hoff x hx)).far (fun e => h.kne x hx e.symm) v'
/-- A plain field is written. -/
theorem Mc.field (h : Mc B w b m v5 v6 v7 v8) (c : Nat) (u : Value) (m' : MS)
    (ha : (mcArr m v5 v6 v7 v8).setIfInBounds c u = mcArr m' v5 v6 v7 v8) (hr : mcRows m = mcRows m')
    (hl : (1 ≤ m'.ls ∧ m'.ls ≤ 1000) ∧ (1 ≤ m'.la ∧ m'.la ≤ 1000) ∧ (1 ≤ m'.lc ∧ m'.lc ≤ 1000) ∧ (1 ≤ m'.lo ∧ m'.lo ≤ 1000))
    (hs : m'.stack.length ≤ 1000 ∧ m'.side.length ≤ 1000 ∧ m'.calls.length ≤ 1000 ∧ m'.cells.length ≤ 1000 ∧ m'.out.size ≤ 1000 ∧ (m'.out.size : Int) ≤ m'.lo)
    (hi : (∀ x ∈ m'.stack, inI x) ∧ (∀ x ∈ m'.side, inI x) ∧ (∀ x ∈ m'.cells, inI x)) (hq : m'.ks = m.ks := by exact rfl) :
    Mc B (w.setCell ⟨b, c, none⟩ u) b m' v5 v6 v7 v8 := by
  refine ⟨?_, h.base, ?_, hl, hs, hi, ?_, by rw [hq]; exact h.kne⟩
  · rw [← ha]; exact h.blk.set c u
  · rw [← hr, hq]; exact h.owned.set (b := b) (by simp) c u
  · rw [hq]; exact fun x hx => (h.kept x hx).far (fun e => h.kne x hx e.symm) u
theorem Mc.grow5 (h : Mc B w b m v5 v6 v7 v8) {x : Int} (hx : inI x) {g cap H : Nat} (hlen : m.stack.length < 1000) (hw1 : w.grownBy w1 v5.ownBlock)
    (hown : w1.ownsRow B 2 1 (.slice (some ⟨g, 0, none⟩) (m.stack.length + 1) cap) (m.stack.length + 1) (intCells m.stack ++ [.int .i64 x])) (hat : v5.ownBlock = some g ∨ g = H) (hH : w.heap.size ≤ H) :
    Mc B (w1.setCell ⟨b, 5, none⟩ (.slice (some ⟨g, 0, none⟩) (m.stack.length + 1) cap)) b { m with stack := m.stack ++ [x] } (.slice (some ⟨g, 0, none⟩) (m.stack.length + 1) cap) v6 v7 v8 :=
  h.grow 0 5 v5 _ ⟨2, 1, m.stack.length + 1, _⟩ _ _ _ _ _ rfl hw1 hown (lies_at hat hH) (by simp [mcArr]) rfl (by simp [mcRows, intCells]) h.lims (by have := h.small; simp; omega)
    ⟨fun y hy => by simp at hy; rcases hy with hy | rfl; exact h.ints.1 y hy; exact hx, h.ints.2.1, h.ints.2.2⟩
theorem Mc.grow6 (h : Mc B w b m v5 v6 v7 v8) {x : Int} (hx : inI x) {g cap H : Nat} (hlen : m.side.length < 1000) (hw1 : w.grownBy w1 v6.ownBlock)
    (hown : w1.ownsRow B 2 1 (.slice (some ⟨g, 0, none⟩) (m.side.length + 1) cap) (m.side.length + 1) (intCells m.side ++ [.int .i64 x])) (hat : v6.ownBlock = some g ∨ g = H) (hH : w.heap.size ≤ H) :
    Mc B (w1.setCell ⟨b, 6, none⟩ (.slice (some ⟨g, 0, none⟩) (m.side.length + 1) cap)) b { m with side := m.side ++ [x] } v5 (.slice (some ⟨g, 0, none⟩) (m.side.length + 1) cap) v7 v8 :=
  h.grow 1 6 v6 _ ⟨2, 1, m.side.length + 1, _⟩ _ _ _ _ _ rfl hw1 hown (lies_at hat hH) (by simp [mcArr]) rfl (by simp [mcRows, intCells]) h.lims (by have := h.small; simp; omega)
    ⟨h.ints.1, fun y hy => by simp at hy; rcases hy with hy | rfl; exact h.ints.2.1 y hy; exact hx, h.ints.2.2⟩
theorem Mc.grow7 (h : Mc B w b m v5 v6 v7 v8) {x : Int} {g cap H : Nat} (hlen : m.calls.length < 1000) (hw1 : w.grownBy w1 v7.ownBlock)
    (hown : w1.ownsRow B 3 1 (.slice (some ⟨g, 0, none⟩) (m.calls.length + 1) cap) (m.calls.length + 1) (intCells m.calls ++ [.int .i64 x])) (hat : v7.ownBlock = some g ∨ g = H) (hH : w.heap.size ≤ H) :
    Mc B (w1.setCell ⟨b, 7, none⟩ (.slice (some ⟨g, 0, none⟩) (m.calls.length + 1) cap)) b { m with calls := m.calls ++ [x] } v5 v6 (.slice (some ⟨g, 0, none⟩) (m.calls.length + 1) cap) v8 :=
  h.grow 2 7 v7 _ ⟨3, 1, m.calls.length + 1, _⟩ _ _ _ _ _ rfl hw1 hown (lies_at hat hH) (by simp [mcArr]) rfl (by simp [mcRows, intCells]) h.lims (by have := h.small; simp; omega) h.ints
end

theorem intCells_take (l r : List Int) : (intCells (l ++ r)).take (l.length * 1) = intCells l := by
  simp [intCells]

theorem Mc.cut5 {B : Nat} {w : World} {b : Nat} {m : MS} {v6 v7 v8 : Value} {g k n : Nat} (h : Mc B w b m (.slice (some ⟨g, 0, none⟩) n k) v6 v7 v8) (l r : List Int) (he : m.stack = l ++ r) (hn : m.stack.length = n) :
    Mc B (w.setCell ⟨b, 5, none⟩ (.slice (some ⟨g, 0, none⟩) l.length k)) b { m with stack := l } (.slice (some ⟨g, 0, none⟩) l.length k) v6 v7 v8 := by
  subst hn
  have hn : m.stack.length = l.length + r.length := by rw [he]; simp
  have hown := own_cut h.o5 l.length (by omega)
  rw [he, intCells_take] at hown
  exact h.grow 0 5 _ _ ⟨2, 1, l.length, intCells l⟩ _ _ _ _ _ rfl (World.grownBy.refl _ _) hown (Or.inl rfl) (by simp [mcArr]) rfl (by simp [mcRows]) h.lims (by have := h.small; simp; omega)
    ⟨fun y hy => h.ints.1 y (by rw [he]; simp; exact Or.inl hy), h.ints.2.1, h.ints.2.2⟩
theorem Mc.cut6 {B : Nat} {w : World} {b : Nat} {m : MS} {v5 v7 v8 : Value} {g k n : Nat} (h : Mc B w b m v5 (.slice (some ⟨g, 0, none⟩) n k) v7 v8) (l r : List Int) (he : m.side = l ++ r) (hn : m.side.length = n) :
    Mc B (w.setCell ⟨b, 6, none⟩ (.slice (some ⟨g, 0, none⟩) l.length k)) b { m with side := l } v5 (.slice (some ⟨g, 0, none⟩) l.length k) v7 v8 := by
  subst hn
  have hn : m.side.length = l.length + r.length := by rw [he]; simp
  have hown := own_cut h.o6 l.length (by omega)
  rw [he, intCells_take] at hown
  exact h.grow 1 6 _ _ ⟨2, 1, l.length, intCells l⟩ _ _ _ _ _ rfl (World.grownBy.refl _ _) hown (Or.inl rfl) (by simp [mcArr]) rfl (by simp [mcRows]) h.lims (by have := h.small; simp; omega)
    ⟨h.ints.1, fun y hy => h.ints.2.1 y (by rw [he]; simp; exact Or.inl hy), h.ints.2.2⟩
theorem Mc.cut7 {B : Nat} {w : World} {b : Nat} {m : MS} {v5 v6 v8 : Value} {g k n : Nat} (h : Mc B w b m v5 v6 (.slice (some ⟨g, 0, none⟩) n k) v8) (l r : List Int) (he : m.calls = l ++ r) (hn : m.calls.length = n) :
    Mc B (w.setCell ⟨b, 7, none⟩ (.slice (some ⟨g, 0, none⟩) l.length k)) b { m with calls := l } v5 v6 (.slice (some ⟨g, 0, none⟩) l.length k) v8 := by
  subst hn
  have hn : m.calls.length = l.length + r.length := by rw [he]; simp
  have hown := own_cut h.o7 l.length (by omega)
  rw [he, intCells_take] at hown
  exact h.grow 2 7 _ _ ⟨3, 1, l.length, intCells l⟩ _ _ _ _ _ rfl (World.grownBy.refl _ _) hown (Or.inl rfl) (by simp [mcArr]) rfl (by simp [mcRows]) h.lims (by have := h.small; simp; omega) h.ints

theorem Tryz.infoInt64 : (Tryz.prog.info? 2).map (fun i => (i.zero, i.size, i.bytes)) = some (some (.int .i64 0), 1, 8) := by kernel_rfl

set_option maxRecDepth 100000 in
set_option maxHeartbeats 400000 in
theorem mpop_any (B b : Nat) (m : MS) (w : World) (h : McE B w b m) (l : List Int) (x : Int) (he : m.stack = l ++ [x]) :
    Calls Tryz.prog 213 #[.pointer (some ⟨b, 0, none⟩)] w fun e w' => e = .returned (.int .i64 x) ∧ McE B w' b { m with stack := l } ∧ Below B w w' := by
  obtain ⟨v5, v6, v7, v8, h⟩ := h
  have hn : m.stack.length = l.length + 1 := by rw [he]; simp
  obtain ⟨g, k, rfl, hg, hgl⟩ := h.o5.form (by omega)
  have hb := h.blk
  have hlt := hb.lt
  unfold mcArr at hb
  have ho := h.o5
  rw [hn] at hb ho
  have hx := own_cell ho l.length (by omega)
  rw [he, intCells_last] at hx
  have hs : (l.length : Int) ≤ 1000 := by have := h.small; omega
  have hk : (l.length : Int) + 1 ≤ k := by have := (own_cap ho).1; omega
  have hxi : inI x := h.ints.1 x (by rw [he]; simp)
  unfold inI at hxi
  have hc := hb.cell
  have hf := hb.free
  clear hb ho
  go_enter Tryz.func213, Tryz.ntmps213
  go_wp2_with fail
  go_region
  go_wp2
  go_region
  go_wp2
  go_ret
  refine ⟨rfl, ⟨_, _, _, _, ((h.cut5 l [x] he rfl).drew).drew⟩, ?_⟩
  exact (((Below.refl B w).setCell h.base _).drew).drew

set_option maxRecDepth 100000 in
set_option maxHeartbeats 400000 in
theorem mpush_any (B b : Nat) (m : MS) (x : Int) (w : World) (h : McE B w b m) (hx : inI x) (hlen : m.stack.length < 1000) :
    Calls Tryz.prog 212 #[.pointer (some ⟨b, 0, none⟩), .int .i64 x] w fun e w' => e = .returned (.tuple #[]) ∧ McE B w' b { m with stack := m.stack ++ [x] } ∧ Below B w w' := by
  obtain ⟨v5, v6, v7, v8, h⟩ := h
  obtain ⟨i0, hi, hz0, hz1, hz2⟩ := info_parts Tryz.infoInt64
  have hlt := h.blk.lt
  have hc := h.blk.cell
  have hf := h.blk.free
  unfold mcArr at hc
  have HB := hide h.blk
  unfold mcArr at HB
  have hne := h.ne 0 v5 rfl
  have HW := hide (ownsRow_alloc h.o5 (.cells #[.int .i64 x] 2))
  have hBs : B ≤ (w.alloc (.cells #[.int .i64 x] 2)).heap.size := by
    have := h.base
    simp; omega
  have HBs := hide hBs
  clear hBs
  go_enter Tryz.func212, Tryz.ntmps212
  go_wp2_with (at_builtin; refine wpList_append_lies _ rfl (.tmp 8) (.tmp 10) 42 rfl B 2 i0 _ 1 8 Tryz.underlying42 hi hz0 hz1 hz2 rfl (by decide) v5 m.stack.length (intCells m.stack) (by simp [Act.eval]) (unhide HW) ⟨w.heap.size, 0, none⟩ 1 1 [.int .i64 x] (by simp [Act.eval]) rfl (World.news_of_block (Blk.new w _ _)) (oneCells1 _) (by omega) (by unfold maxLen; omega) (by omega) (unhide HBs) _ rfl ?_; intro g cap w5 hown hgrow hat hlt1; have hb5 := ((unhide HB).alloc _).grown hgrow hne; have hc5 := hb5.cell; have hf5 := hb5.free; have HO := hide hown; have HG := hide hgrow; have HA := hide hat; clear hown hgrow hat hb5)
  go_end0
  refine ⟨rfl, ⟨_, _, _, _, h.grow5 hx hlen (grownBy_alloc' (unhide HG)) (unhide HO) (unhide HA) (by simp)⟩, ?_⟩
  exact (below_grown_alloc' (by have := h.base; omega) (fun k hk => (ownsRow_lt h.o5 hk).2) (unhide HG)).setCell h.base _

end Go.Proofs.YtmeiikjpaepogaaGreatDoor

/- The statements' world: its lists; keep. -/
namespace Go.Proofs.YtmeiikjpaepogaaGreatDoor
open Go Go.RowKit

def ptrs (l : List Nat) : List Value := l.map fun q => .pointer (some ⟨q, 0, none⟩)
/-- The statements' world at block bw: its players, its holds. -/
structure Lw (B : Nat) (w : World) (bw : Nat) (ps hs : List Nat) (vp vh : Value) : Prop where
  blk : Blk w bw #[vp, vh] 70
  base : B ≤ bw
  owned : Owned B w [bw] [vp, vh] [⟨87, 1, ps.length, ptrs ps⟩, ⟨90, 1, hs.length, ptrs hs⟩]
  few : ps.length ≤ 6

section
variable {B : Nat} {w w1 w' : World} {bw : Nat} {ps hs : List Nat} {vp vh : Value}
theorem Lw.op (h : Lw B w bw ps hs vp vh) : w.ownsRow B 87 1 vp ps.length (ptrs ps) := h.owned.own 0 vp _ rfl rfl
theorem Lw.oh (h : Lw B w bw ps hs vp vh) : w.ownsRow B 90 1 vh hs.length (ptrs hs) := h.owned.own 1 vh _ rfl rfl
theorem Lw.ne (h : Lw B w bw ps hs vp vh) (i : Nat) (v : Value) (hv : [vp, vh][i]? = some v) : some bw ≠ v.ownBlock := fun e => h.owned.off i v bw hv (by simp) e.symm
theorem Lw.alloc (h : Lw B w bw ps hs vp vh) (o : Obj) : Lw B (w.alloc o) bw ps hs vp vh := ⟨h.blk.alloc o, h.base, h.owned.alloc o, h.few⟩
theorem Lw.drew (h : Lw B w bw ps hs vp vh) : Lw B w.drew bw ps hs vp vh := ⟨h.blk, h.base, h.owned.drew, h.few⟩
theorem Lw.drewN (h : Lw B w bw ps hs vp vh) (n : Nat) : Lw B (w.drewN n) bw ps hs vp vh := ⟨h.blk, h.base, h.owned.drewN n, h.few⟩
theorem Lw.still {F : Nat → Prop} (h : Lw B w bw ps hs vp vh) (hs' : Still w w' F) (hF : ∀ k, foot bw [vp, vh] k → ¬ F k) : Lw B w' bw ps hs vp vh :=
  ⟨h.blk.still hs' (hF bw (Or.inl rfl)), h.base, h.owned.to (fun i v k hv hk hlt => hs'.block k hlt (hF k (Or.inr ⟨i, v, hv, hk⟩))), h.few⟩
theorem Lw.below (h : Lw B w bw ps hs vp vh) (hb : Below w.heap.size w w') : Lw B w' bw ps hs vp vh :=
  ⟨h.blk.below hb h.blk.lt, h.base, h.owned.below_all hb, h.few⟩
theorem Lw.footlt (h : Lw B w bw ps hs vp vh) {k : Nat} (hk : foot bw [vp, vh] k) : B ≤ k ∧ k < w.heap.size := h.owned.foot h.base h.blk.lt hk
/-- A block of another type is not the lists'. -/
theorem Lw.notfoot (h : Lw B w bw ps hs vp vh) {q : Nat} {cs : Array Value} {T : TypeId} (hq : Blk w q cs T) (h1 : 70 ≠ T) (h2 : 87 ≠ T) (h3 : 90 ≠ T) : ¬ foot bw [vp, vh] q := by
  rintro (rfl | ⟨i, v, hv, hk⟩)
  · have := h.blk
    unfold Blk at this hq
    rw [hq] at this
    simp at this
    exact h1 this.2.symm
  · match i, (List.getElem?_eq_some_iff.1 hv).1 with
    | 0, _ => simp at hv; subst hv; exact row_not_blk hq h.op h2 hk
    | 1, _ => simp at hv; subst hv; exact row_not_blk hq h.oh h3 hk
theorem Lw.notrow (h : Lw B w bw ps hs vp vh) {b : Nat} {e : TypeId} {size n : Nat} {v : Value} {xs : List Value} (hv : w.ownsRow b e size v n xs) (h1 : e ≠ 70) (h2 : e ≠ 87) (h3 : e ≠ 90) {k : Nat} (hk : v.ownBlock = some k) : ¬ foot bw [vp, vh] k := by
  rintro (rfl | ⟨i, u, hu, hk2⟩)
  · exact row_not_blk h.blk hv h1 hk
  · match i, (List.getElem?_eq_some_iff.1 hu).1 with
    | 0, _ => simp at hu; subst hu; exact rows_apart hv h.op h2 hk hk2
    | 1, _ => simp at hu; subst hu; exact rows_apart hv h.oh h3 hk hk2
theorem Lw.growH (h : Lw B w bw ps hs vp vh) {q g cap H : Nat} (hw1 : w.grownBy w1 vh.ownBlock) (hown : w1.ownsRow B 90 1 (.slice (some ⟨g, 0, none⟩) (hs.length + 1) cap) (hs.length + 1) (ptrs hs ++ [.pointer (some ⟨q, 0, none⟩)]))
    (hat : vh.ownBlock = some g ∨ g = H) (hH : w.heap.size ≤ H) : Lw B (w1.setCell ⟨bw, 1, none⟩ (.slice (some ⟨g, 0, none⟩) (hs.length + 1) cap)) bw ps (hs ++ [q]) vp (.slice (some ⟨g, 0, none⟩) (hs.length + 1) cap) := by
  have hlt := h.blk.lt
  refine ⟨?_, h.base, ?_, h.few⟩
  · have := (h.blk.grown hw1 (h.ne 1 vh rfl)).set 1 (.slice (some ⟨g, 0, none⟩) (hs.length + 1) cap)
    simpa only [List.setIfInBounds_toArray, List.set_cons_succ, List.set_cons_zero] using this
  · have := (h.owned.grow 1 vh (.slice (some ⟨g, 0, none⟩) (hs.length + 1) cap) ⟨90, 1, hs.length + 1, ptrs hs ++ [.pointer (some ⟨q, 0, none⟩)]⟩ rfl (by simpa using hlt) hw1 hown (lies_at hat hH)).set (b := bw) (by simp) 1 (.slice (some ⟨g, 0, none⟩) (hs.length + 1) cap)
    simpa [ptrs] using this
theorem Lw.growP (h : Lw B w bw ps hs vp vh) {q g cap H : Nat} (hw1 : w.grownBy w1 vp.ownBlock) (hown : w1.ownsRow B 87 1 (.slice (some ⟨g, 0, none⟩) (ps.length + 1) cap) (ps.length + 1) (ptrs ps ++ [.pointer (some ⟨q, 0, none⟩)]))
    (hat : vp.ownBlock = some g ∨ g = H) (hH : w.heap.size ≤ H) (hfew : ps.length < 6) : Lw B (w1.setCell ⟨bw, 0, none⟩ (.slice (some ⟨g, 0, none⟩) (ps.length + 1) cap)) bw (ps ++ [q]) hs (.slice (some ⟨g, 0, none⟩) (ps.length + 1) cap) vh := by
  have hlt := h.blk.lt
  refine ⟨?_, h.base, ?_, by simp; omega⟩
  · have := (h.blk.grown hw1 (h.ne 0 vp rfl)).set 0 (.slice (some ⟨g, 0, none⟩) (ps.length + 1) cap)
    simpa only [List.setIfInBounds_toArray, List.set_cons_succ, List.set_cons_zero] using this
  · have := (h.owned.grow 0 vp (.slice (some ⟨g, 0, none⟩) (ps.length + 1) cap) ⟨87, 1, ps.length + 1, ptrs ps ++ [.pointer (some ⟨q, 0, none⟩)]⟩ rfl (by simpa using hlt) hw1 hown (lies_at hat hH)).set (b := bw) (by simp) 0 (.slice (some ⟨g, 0, none⟩) (ps.length + 1) cap)
    simpa [ptrs] using this
/-- A hold does not turn where only the lists do. -/
theorem Lw.hold {F : Nat → Prop} {q : Nat} {mk : Int} {vi vn : Value} {ni nn : Nat} (h : Lw B w bw ps hs vp vh) (hq : HoldIs w q mk vi vn ni nn) (hs' : Still w w' F) (hF : ∀ k, k < w.heap.size → F k → foot bw [vp, vh] k) : HoldIs w' q mk vi vn ni nn :=
  hq.still hs' (fun e => h.notfoot hq.blk (by decide) (by decide) (by decide) (hF _ hq.blk.lt e)) (fun k hk e => h.notrow hq.is (by decide) (by decide) (by decide) hk (hF k (ownsRow_lt hq.is hk).1 e)) (fun k hk e => h.notrow hq.ns (by decide) (by decide) (by decide) hk (hF k (ownsRow_lt hq.ns hk).1 e))
end

theorem Tryz.infoHoldP : (Tryz.prog.info? 90).map (fun i => (i.zero, i.size, i.bytes)) = some (some (.pointer none), 1, 8) := by kernel_rfl
theorem Tryz.infoPlayerP : (Tryz.prog.info? 87).map (fun i => (i.zero, i.size, i.bytes)) = some (some (.pointer none), 1, 8) := by kernel_rfl

/-- While keep goes on: what it has kept so far, the last of it. -/
structure Kp (B : Nat) (w : World) (wr : World) (bw : Nat) (ps hs : List Nat) (vp vh : Value) (q : Nat) (vi vn : Value) (ni nn : Nat) (mk : Int) (k : Nat) (gl : List Nat) (qg : Nat) (vig vng vhk : Value) : Prop where
  lw : Lw B wr bw ps (hs ++ gl) vp vhk
  len : gl.length = k + 1
  cur : HoldIs wr qg mk vig vng (ni + k) (nn + k)
  all : ∀ x ∈ gl, ∃ vi' vn' ni' nn', HoldIs wr x mk vi' vn' ni' nn' ∧ ni' ≤ ni + k ∧ nn' ≤ nn + k ∧ (∀ j, vi'.ownBlock = some j → vi.ownBlock = some j ∨ w.heap.size ≤ j) ∧ (∀ j, vn'.ownBlock = some j → vn.ownBlock = some j ∨ w.heap.size ≤ j) ∧ (x = q ∨ w.heap.size ≤ x)
  rowi : ∀ j, vig.ownBlock = some j → vi.ownBlock = some j ∨ w.heap.size ≤ j
  rown : ∀ j, vng.ownBlock = some j → vn.ownBlock = some j ∨ w.heap.size ≤ j
  lists : ∀ j, foot bw [vp, vhk] j → foot bw [vp, vh] j ∨ w.heap.size ≤ j
  still : Still w wr (fun j => foot bw [vp, vh] j ∨ j = q ∨ vi.ownBlock = some j ∨ vn.ownBlock = some j)

/-- One more is kept. -/
theorem Kp.next {B : Nat} {w wr w3 w4 : World} {bw : Nat} {ps hs : List Nat} {vp vh : Value} {q : Nat} {vi vn : Value} {ni nn : Nat} {mk : Int} {k : Nat} {gl : List Nat} {qg : Nat} {vig vng vhk : Value} (h : Kp B w wr bw ps hs vp vh q vi vn ni nn mk k gl qg vig vng vhk)
    {q2 : Nat} {vi2 vn2 : Value} (hcur : HoldIs w3 q2 mk vi2 vn2 (ni + k + 1) (nn + k + 1)) (hq2 : wr.heap.size ≤ q2) (hri : ∀ j, vi2.ownBlock = some j → vig.ownBlock = some j ∨ wr.heap.size ≤ j) (hrn : ∀ j, vn2.ownBlock = some j → vng.ownBlock = some j ∨ wr.heap.size ≤ j)
    (hs3 : Still wr w3 (fun j => vig.ownBlock = some j ∨ vng.ownBlock = some j)) (hpre : ∀ q' vi' vn' ni' nn', HoldIs wr q' mk vi' vn' ni' nn' → ni' ≤ ni + k → nn' ≤ nn + k → HoldIs w3 q' mk vi' vn' ni' nn')
    {g cap H : Nat} (hw4 : (w3.alloc (.cells #[.pointer (some ⟨q2, 0, none⟩)] 90)).grownBy w4 vhk.ownBlock) (hown : w4.ownsRow B 90 1 (.slice (some ⟨g, 0, none⟩) ((hs ++ gl).length + 1) cap) ((hs ++ gl).length + 1) (ptrs (hs ++ gl) ++ [.pointer (some ⟨q2, 0, none⟩)]))
    (hat : vhk.ownBlock = some g ∨ g = H) (hH : (w3.alloc (.cells #[.pointer (some ⟨q2, 0, none⟩)] 90)).heap.size = H) :
    Kp B w (w4.setCell ⟨bw, 1, none⟩ (.slice (some ⟨g, 0, none⟩) ((hs ++ gl).length + 1) cap)) bw ps hs vp vh q vi vn ni nn mk (k + 1) (gl ++ [q2]) q2 vi2 vn2 (.slice (some ⟨g, 0, none⟩) ((hs ++ gl).length + 1) cap) := by
  have hl3 := h.lw.still hs3 (fun j hj e => by
    rcases e with e | e
    · exact h.lw.notrow h.cur.is (by decide) (by decide) (by decide) e hj
    · exact h.lw.notrow h.cur.ns (by decide) (by decide) (by decide) e hj)
  have hs5 : Still w3 (w4.setCell ⟨bw, 1, none⟩ (.slice (some ⟨g, 0, none⟩) ((hs ++ gl).length + 1) cap)) (foot bw [vp, vhk]) :=
    Still.set (F := foot bw [vp, vhk]) (Still.grown (F := foot bw [vp, vhk]) (Still.alloc (Still.refl w3 _) _) hw4 (fun j hj => Or.inl (Or.inr ⟨1, vhk, rfl, hj⟩))) (Or.inl (Or.inl rfl)) _ _
  have hsz1 := h.still.size
  have hsz3 := hs3.size
  have hold5 : ∀ {x : Nat} {a b : Value} {n m : Nat}, HoldIs w3 x mk a b n m → HoldIs (w4.setCell ⟨bw, 1, none⟩ (.slice (some ⟨g, 0, none⟩) ((hs ++ gl).length + 1) cap)) x mk a b n m := fun hx => hl3.hold hx hs5 (fun _ _ e => e)
  refine ⟨?_, by simp [h.len], hold5 hcur, ?_, ?_, ?_, ?_, ?_⟩
  · have := (hl3.alloc (.cells #[.pointer (some ⟨q2, 0, none⟩)] 90)).growH hw4 hown hat (by omega)
    rw [List.append_assoc] at this
    exact this
  · intro x hx
    simp only [List.mem_append, List.mem_singleton] at hx
    rcases hx with hx | rfl
    · obtain ⟨vi', vn', ni', nn', h1, h2, h3, h4⟩ := h.all x hx
      exact ⟨vi', vn', ni', nn', hold5 (hpre _ _ _ _ _ h1 h2 h3), by omega, by omega, h4⟩
    · refine ⟨vi2, vn2, _, _, hold5 hcur, by omega, by omega, ?_, ?_, Or.inr (by omega)⟩
      · intro j hj
        rcases hri j hj with e | e
        · exact h.rowi j e
        · exact Or.inr (by omega)
      · intro j hj
        rcases hrn j hj with e | e
        · exact h.rown j e
        · exact Or.inr (by omega)
  · intro j hj
    rcases hri j hj with e | e
    · exact h.rowi j e
    · exact Or.inr (by omega)
  · intro j hj
    rcases hrn j hj with e | e
    · exact h.rown j e
    · exact Or.inr (by omega)
  · rintro j (rfl | ⟨i, v, hv, hk⟩)
    · exact Or.inl (Or.inl rfl)
    · match i, (List.getElem?_eq_some_iff.1 hv).1 with
      | 0, _ => simp at hv; subst hv; exact Or.inl (Or.inr ⟨0, vp, rfl, hk⟩)
      | 1, _ =>
        simp at hv; subst hv
        simp only [Value.ownBlock, Option.some.injEq] at hk
        rcases hat with e | e
        · exact h.lists j (Or.inr ⟨1, vhk, rfl, by rw [e, hk]⟩)
        · refine Or.inr ?_
          rw [← hk, e, ← hH]
          simp
          omega
  · refine (h.still.trans hs3 ?_).trans hs5 ?_
    · intro j hj e
      rcases e with e | e
      · rcases h.rowi j e with e2 | e2
        · exact Or.inr (Or.inr (Or.inl e2))
        · omega
      · rcases h.rown j e with e2 | e2
        · exact Or.inr (Or.inr (Or.inr e2))
        · omega
    · intro j hj e
      rcases h.lists j e with e2 | e2
      · exact Or.inl e2
      · omega

/-- The first one. -/
theorem Kp.first {B : Nat} {w w2 w4 : World} {bw : Nat} {ps hs : List Nat} {vp vh : Value} {q : Nat} {vi vn : Value} {ni nn : Nat} {mk : Int} (hl : Lw B w2 bw ps hs vp vh) (hcur : HoldIs w2 q mk vi vn ni nn)
    (hs2 : Still w w2 (fun j => j = q ∨ vi.ownBlock = some j ∨ vn.ownBlock = some j))
    {g cap H : Nat} (hw4 : (w2.alloc (.cells #[.pointer (some ⟨q, 0, none⟩)] 90)).grownBy w4 vh.ownBlock) (hown : w4.ownsRow B 90 1 (.slice (some ⟨g, 0, none⟩) (hs.length + 1) cap) (hs.length + 1) (ptrs hs ++ [.pointer (some ⟨q, 0, none⟩)]))
    (hat : vh.ownBlock = some g ∨ g = H) (hH : (w2.alloc (.cells #[.pointer (some ⟨q, 0, none⟩)] 90)).heap.size = H) :
    Kp B w (w4.setCell ⟨bw, 1, none⟩ (.slice (some ⟨g, 0, none⟩) (hs.length + 1) cap)) bw ps hs vp vh q vi vn ni nn mk 0 [q] q vi vn (.slice (some ⟨g, 0, none⟩) (hs.length + 1) cap) := by
  have hs5 : Still w2 (w4.setCell ⟨bw, 1, none⟩ (.slice (some ⟨g, 0, none⟩) (hs.length + 1) cap)) (foot bw [vp, vh]) :=
    Still.set (F := foot bw [vp, vh]) (Still.grown (F := foot bw [vp, vh]) (Still.alloc (Still.refl w2 _) _) hw4 (fun j hj => Or.inl (Or.inr ⟨1, vh, rfl, hj⟩))) (Or.inl (Or.inl rfl)) _ _
  have hsz := hs2.size
  have hc5 := hl.hold hcur hs5 (fun _ _ e => e)
  refine ⟨?_, rfl, hc5, ?_, fun j hj => Or.inl hj, fun j hj => Or.inl hj, ?_, ?_⟩
  · exact (hl.alloc (.cells #[.pointer (some ⟨q, 0, none⟩)] 90)).growH hw4 hown hat (by omega)
  · intro x hx
    simp only [List.mem_singleton] at hx
    subst hx
    exact ⟨vi, vn, _, _, hc5, Nat.le_refl _, Nat.le_refl _, fun j hj => Or.inl hj, fun j hj => Or.inl hj, Or.inl rfl⟩
  · rintro j (rfl | ⟨i, v, hv, hk⟩)
    · exact Or.inl (Or.inl rfl)
    · match i, (List.getElem?_eq_some_iff.1 hv).1 with
      | 0, _ => simp at hv; subst hv; exact Or.inl (Or.inr ⟨0, vp, rfl, hk⟩)
      | 1, _ =>
        simp at hv; subst hv
        simp only [Value.ownBlock, Option.some.injEq] at hk
        rcases hat with e | e
        · exact Or.inl (Or.inr ⟨1, vh, rfl, by rw [e, hk]⟩)
        · refine Or.inr ?_
          rw [← hk, e, ← hH]
          simp
          omega
  · exact (hs2.mono (G := fun j => foot bw [vp, vh] j ∨ j = q ∨ vi.ownBlock = some j ∨ vn.ownBlock = some j) (fun j _ e => Or.inr e)).trans hs5 (fun j _ e => Or.inl e)

set_option maxRecDepth 100000 in
set_option maxHeartbeats 2000000 in
theorem keep_any (B bw : Nat) (ps hs : List Nat) (vp vh : Value) (q : Nat) (mk0 : Int) (vi vn : Value) (li : List (Int × Int)) (ln : List Int) (w : World) (h : Lw B w bw ps hs vp vh) (hblk : Blk w q #[vi, vn, .int .i64 mk0] 134)
    (hi : w.ownsRow 0 65 2 vi li.length (instrCells li)) (hn : w.ownsRow 0 2 1 vn ln.length (intCells ln)) (hli : li.length ≤ 4398046511104) (hln : ln.length ≤ 4398046511104) (hhs : hs.length + 4 ≤ 17592186044416) :
    Calls Tryz.prog 68 #[.pointer (some ⟨bw, 0, none⟩), .pointer (some ⟨q, 0, none⟩)] w fun e w' => e = .returned (.tuple #[]) ∧ ∃ gl qg vig vng vh', Kp B w w' bw ps hs vp vh q vi vn li.length ln.length (hs.length + 1) 3 gl qg vig vng vh' := by
  obtain ⟨iH, hiH, hzH0, hzH1, hzH2⟩ := info_parts Tryz.infoHoldP
  obtain ⟨ah, ch, hvh⟩ := own_shape h.oh
  subst hvh
  have hc := h.blk.cell
  have hbl := h.blk.lt
  have hqc := hblk.cell
  have hqf := hblk.free
  have hql := hblk.lt
  have hnf := h.notfoot hblk (by decide) (by decide) (by decide)
  have hqb : bw ≠ q := fun e => hnf (Or.inl e.symm)
  have hhI : (hs.length : Int) + 4 ≤ 17592186044416 := by omega
  -- behind the mark
  have hblk1 := hblk.set 2 (.int .i64 ((hs.length : Int) + 1))
  simp only [List.setIfInBounds_toArray, List.set_cons_succ, List.set_cons_zero] at hblk1
  have hqi := row_not_blk hblk hi (by decide)
  have hqn := row_not_blk hblk hn (by decide)
  have hi1 := ownsRow_far hi hqi (.int .i64 ((hs.length : Int) + 1)) (a := ⟨q, 2, none⟩)
  have hn1 := ownsRow_far hn hqn (.int .i64 ((hs.length : Int) + 1)) (a := ⟨q, 2, none⟩)
  have HM := hide (marks_any q (hs.length + 1) vi vn li ln _ hblk1 hi1 hn1 (by omega) (by omega) (by omega))
  have hs1 : Still w (w.setCell ⟨q, 2, none⟩ (.int .i64 ((hs.length : Int) + 1))) (fun j => j = q) := Still.set (F := fun j => j = q) (Still.refl w _) (Or.inl rfl) _ _
  have hl1 := h.still hs1 (fun k hk e => hnf (by rw [← e]; exact hk))
  have HS1 := hide hs1
  have HL1 := hide hl1
  have HI1 := hide hi1
  have HN1 := hide hn1
  have HL := hide h
  clear hi1 hn1 hblk1 hs1 hl1 h
  go_enter Tryz.func68, Tryz.ntmps68
  go_wp2_with fail
  refine (unhide HM).mono ?_
  rintro e w2 ⟨rfl, hh2, hs2⟩
  have hl2 := (unhide HL1).still hs2 (fun k hk e => by
    rcases e with e | e
    · exact (unhide HL1).notrow (unhide HI1) (by decide) (by decide) (by decide) e hk
    · exact (unhide HL1).notrow (unhide HN1) (by decide) (by decide) (by decide) e hk)
  have hl2c := hl2.blk.cell
  have hl2f := hl2.blk.free
  have hB2 : B ≤ w2.heap.size := by have := hl2.base; have := hl2.blk.lt; omega
  have HW := hide (ownsRow_alloc hl2.oh (.cells #[.pointer (some ⟨q, 0, none⟩)] 90))
  have hBs : B ≤ (w2.alloc (.cells #[.pointer (some ⟨q, 0, none⟩)] 90)).heap.size := by simp; omega
  have HBs := hide hBs
  have HL2 := hide hl2
  have HH2 := hide hh2
  have HS2 := hide hs2
  have hb2l := hl2.blk.lt
  have HBA := hide (hl2.blk.alloc (.cells #[.pointer (some ⟨q, 0, none⟩)] 90))
  have hne2 := hl2.ne 1 _ rfl
  clear hBs hh2 hs2 hl2 HM hc hqc hqf
  go_wp2_with (at_builtin; refine wpList_append_lies _ rfl (.tmp 21) (.tmp 23) 68 rfl B 90 iH _ 1 8 Tryz.underlying68 hiH hzH0 hzH1 hzH2 rfl (by decide) (.slice ah hs.length ch) hs.length (ptrs hs) (by simp [Act.eval]) (unhide HW) ⟨w2.heap.size, 0, none⟩ 1 1 [.pointer (some ⟨q, 0, none⟩)] (by simp [Act.eval]) rfl (World.news_of_block (Blk.new w2 _ _)) (by simp [Value.oneCell']) (by omega) (by unfold maxLen; omega) (by omega) (unhide HBs) _ rfl ?_; intro g cap w5 hown hgrow hat hlt1; have hb5 := (unhide HBA).grown hgrow hne2; have hc5 := hb5.cell; have hf5 := hb5.free; have HO := hide hown; have HG := hide hgrow; have HA := hide hat; clear hown hgrow hat hb5 hl2c hl2f)
  have hst2 : Still w w2 (fun j => j = q ∨ vi.ownBlock = some j ∨ vn.ownBlock = some j) := ((unhide HS1).mono (fun j _ e => Or.inl e)).trans (unhide HS2) (fun j _ e => Or.inr e)
  have hk0 := Kp.first (unhide HL2) (unhide HH2) hst2 (unhide HG) (unhide HO) (unhide HA) rfl
  clear hc5 hf5 hst2 HW HBs HL2 HH2 HS2 HBA hne2 hb2l HO HG HA HS1 HL1 HI1 HN1 HL
  generalize w5.setCell ⟨bw, 1, none⟩ (.slice (some ⟨g, 0, none⟩) (hs.length + 1) cap) = w6 at hk0 ⊢
  generalize Value.slice (some ⟨g, 0, none⟩) (hs.length + 1) cap = vh6 at hk0 ⊢
  generalize hmkE : (hs.length : Int) + 1 = mk at hk0 ⊢
  generalize hniE : li.length = ni at *
  generalize hnnE : ln.length = nn at *
  have HE1 := hide hniE
  have HE2 := hide hnnE
  have HE3 := hide hmkE
  clear hniE hnnE hmkE hi hn hblk
  go_wp2_with fail
  go_loopw [4, 5] (fun gv n wr => ∃ (k : Nat) (gl : List Nat) (qg : Nat) (vig vng vhk : Value), n = .int .i64 k ∧ k ≤ 3 ∧ gv = .pointer (some ⟨qg, 0, none⟩) ∧ Kp B w wr bw ps hs vp (.slice ah hs.length ch) q vi vn ni nn mk k gl qg vig vng vhk) (fun _ n _ => 3 - (intOf n).toNat)
  case atStart => exact ⟨0, [q], q, _, _, _, rfl, by omega, rfl, hk0⟩
  case round =>
    clear hk0
    obtain ⟨k, gl, qg, vig, vng, vhk, rfl, hk3, rfl, hkp⟩ := hrel
    by_cases hlt : k < 3
    · have hltI : (k : Int) < 3 := by omega
      have HLG := hide (longer_any qg mk vig vng (ni + k) (nn + k) wr hkp.cur (by omega) (by omega))
      have HKP := hide hkp
      have hlen := hkp.len
      clear hkp
      go_wp2_with fail
      refine (unhide HLG).mono ?_
      rintro e w3 ⟨q2, vi2, vn2, rfl, hq2, hcur, hri, hrn, hs3, hpre⟩
      have hl3 := (unhide HKP).lw.still hs3 (fun j hj e => by
        rcases e with e | e
        · exact (unhide HKP).lw.notrow (unhide HKP).cur.is (by decide) (by decide) (by decide) e hj
        · exact (unhide HKP).lw.notrow (unhide HKP).cur.ns (by decide) (by decide) (by decide) e hj)
      obtain ⟨ak, ck, hvk⟩ := own_shape hl3.oh
      subst hvk
      have hc3 := hl3.blk.cell
      have hf3 := hl3.blk.free
      have hb3l := hl3.blk.lt
      have hB3 : B ≤ w3.heap.size := by have := hl3.base; omega
      have HW := hide (ownsRow_alloc hl3.oh (.cells #[.pointer (some ⟨q2, 0, none⟩)] 90))
      have hBs : B ≤ (w3.alloc (.cells #[.pointer (some ⟨q2, 0, none⟩)] 90)).heap.size := by simp; omega
      have HBs := hide hBs
      have HBA := hide (hl3.blk.alloc (.cells #[.pointer (some ⟨q2, 0, none⟩)] 90))
      have hne3 := hl3.ne 1 _ rfl
      have HC := hide hcur
      have HRI := hide hri
      have HRN := hide hrn
      have HS3 := hide hs3
      have HPRE := hide hpre
      have hll : (hs ++ gl).length + 1 ≤ 17592186044416 := by simp [hlen]; omega
      clear hBs hcur hri hrn hs3 hpre hl3 HLG
      generalize hHL : hs ++ gl = hl at *
      have HHL := hide hHL
      clear hHL
      go_wp2_with (at_builtin; refine wpList_append_lies _ rfl (.tmp 38) (.tmp 40) 68 rfl B 90 iH _ 1 8 Tryz.underlying68 hiH hzH0 hzH1 hzH2 rfl (by decide) (.slice ak hl.length ck) hl.length (ptrs hl) (by simp [Act.eval]) (unhide HW) ⟨w3.heap.size, 0, none⟩ 1 1 [.pointer (some ⟨q2, 0, none⟩)] (by simp [Act.eval]) rfl (World.news_of_block (Blk.new w3 _ _)) (by simp [Value.oneCell']) (by omega) (by unfold maxLen; omega) (by omega) (unhide HBs) _ rfl ?_; intro g cap w5 hown hgrow hat hlt1; have hb5 := (unhide HBA).grown hgrow hne3; have hc5 := hb5.cell; have hf5 := hb5.free; have HO := hide hown; have HG := hide hgrow; have HA := hide hat; clear hown hgrow hat hb5 hc3 hf3)
      go_roundw
      case rel =>
        obtain rfl := (unhide HHL).symm
        exact ⟨k + 1, gl ++ [q2], q2, _, _, _, by go_num, by omega, rfl, (unhide HKP).next (unhide HC) hq2 (unhide HRI) (unhide HRN) (unhide HS3) (unhide HPRE) (unhide HG) (unhide HO) (unhide HA) rfl⟩
      case measure => simp [intOf]; omega
    · have hkn : k = 3 := by omega
      subst hkn
      go_wp2_with fail
      go_end0
      rw [unhide HE1, unhide HE2, unhide HE3]
      exact ⟨rfl, gl, qg, vig, vng, vhk, hkp⟩

end Go.Proofs.YtmeiikjpaepogaaGreatDoor

/- The reference's Reader: define, variable and constant. -/
namespace Go.Proofs.YtmeiikjpaepogaaGreatDoor
open Go Go.RowKit

def variableS (st : RS) (t : ByteArray) : RS := { st with names := st.names ++ [(t, 0, st.cells)], cells := st.cells + 1 }

set_option maxRecDepth 100000 in
set_option maxHeartbeats 1000000 in
theorem define_variable (B b : Nat) (st : RS) (w : World) (h : RdE B w b st) (hnx : st.next ≤ st.s.size) (ht : st.token = ⟨#[118, 97, 114, 105, 97, 98, 108, 101]⟩) (hst : st.start < 0) (hop : st.opens = []) (hok : (newNameS st).err = 0) (hh : (newNameS st).names.length < 4000) (hce : 0 ≤ (newNameS st).cells ∧ (newNameS st).cells ≤ 4000) :
    Calls Tryz.prog 127 #[.pointer (some ⟨b, 0, none⟩)] w fun e w' => e = .returned (.tuple #[]) ∧ RdE B w' b (variableS (newNameS st) (stepS st).token) ∧ Below B w w' := by
  obtain ⟨i0, hi, hz0, hz1, hz2⟩ := info_parts Tryz.infoName
  have HN := hide (newName_any B b st w h hnx)
  have hok' : ((newNameS st).err != 0) = false := by simpa using hok
  clear hok
  generalize newNameS st = st1 at HN hok' hh hce ⊢
  generalize (stepS st).token = tk at HN ⊢
  obtain ⟨hc0, hc4⟩ := hce
  obtain ⟨v4, v5, v6, v7, v11, h⟩ := h
  obtain ⟨a7, k7, rfl⟩ := own_shape h.o7
  have hc := h.blk.cell
  have hf := h.blk.free
  unfold rdArr at hc
  rw [hop, ht] at hc
  go_enter Tryz.func127, Tryz.ntmps127
  go_wp2_with fail
  refine (unhide HN).mono ?_
  rintro e w1 ⟨rfl, ⟨v4, v5, v6, v7, v11, h1⟩, hb1⟩
  clear HN hc hf h
  have hlt := h1.blk.lt
  have hc := h1.blk.cell
  have hf := h1.blk.free
  unfold rdArr at hc
  have HB := hide h1.blk
  unfold rdArr at HB
  have hne := h1.ne 2 v6 rfl
  have HW := hide (ownsRow_alloc h1.o6 (.cells #[.string tk, .int .i64 0, .int .i64 st1.cells] 223))
  have hBs : B ≤ (w1.alloc (.cells #[.string tk, .int .i64 0, .int .i64 st1.cells] 223)).drew.heap.size := by
    have := h1.base
    show B ≤ (w1.alloc _).heap.size
    simp; omega
  have HBs := hide hBs
  clear hBs
  go_wp2_with fail
  go_region_law (refine step_append_lies _ rfl (.tmp 107) (.tmp 115) 175 rfl B 223 i0 _ 3 32 Tryz.underlying175 hi hz0 hz1 hz2 rfl (by decide) v6 st1.names.length (nameCells st1.names) (by simp [Act.eval]) (unhide HW) ⟨w1.heap.size, 0, none⟩ 1 1 [.string tk, .int .i64 0, .int .i64 st1.cells] (by simp [Act.eval]) rfl (World.news_of_block (Blk.new w1 _ _)) (oneCells3 _ _ _) (by omega) (by unfold maxLen; omega) (by omega) (unhide HBs) _ rfl ?_; intro g cap w2 hown hgrow hat hlt1; have hb1 := ((unhide HB).alloc _).drew.grown hgrow hne; have hc1 := hb1.cell; have hf1 := hb1.free; have HO := hide hown; have HG := hide hgrow; have HA := hide hat; clear hown hgrow hat hb1)
  all_goals
    go_wp2
    go_end0
    refine ⟨rfl, ⟨_, _, _, _, _, (h1.grow6 (x := (tk, 0, st1.cells)) hh (grownBy_alloc (unhide HG)) (unhide HO) (unhide HA) (by simp)).celled (st1.cells + 1)⟩, ?_⟩
    exact hb1.trans (((below_grown_alloc (by have := h1.base; omega) (fun k hk => (ownsRow_lt h1.o6 hk).2) (unhide HG)).setCell h1.base _).setCell h1.base _)

end Go.Proofs.YtmeiikjpaepogaaGreatDoor

