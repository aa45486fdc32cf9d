/- The reference's Machine: do, Do and Loop. -/
import Derived.Test.YtbcjfiaacenhgaaGreatDoorG19
namespace Go.Proofs.YtbcjfiaacenhgaaGreatDoor
open Go Go.RowKit

theorem below_to_drewN {B : Nat} {w w' : World} (h : Below B w w') (n : Nat) : Below B w (w'.drewN n) := ⟨h.os, h.tape, h.output, h.size, h.block⟩

theorem Mc.grow6n {B : Nat} {w w1 : World} {b : Nat} {m : MS} {v5 v6 v7 v8 : Value} (h : Mc B w b m v5 v6 v7 v8) {x : Int} (hx : inI x) {n g cap H : Nat} (hn : m.side.length = n) (hlen : n < 1000) (hw1 : w.grownBy w1 v6.ownBlock)
    (hown : w1.ownsRow B 2 1 (.slice (some ⟨g, 0, none⟩) (n + 1) cap) (n + 1) (intCells m.side ++ [.int .i64 x])) (hat : v6.ownBlock = some g ∨ g = H) (hH : w.heap.size ≤ H) :
    Mc B (w1.setCell ⟨b, 6, none⟩ (.slice (some ⟨g, 0, none⟩) (n + 1) cap)) b { m with side := m.side ++ [x] } v5 (.slice (some ⟨g, 0, none⟩) (n + 1) cap) v7 v8 := by
  subst hn
  exact h.grow6 hx hlen hw1 hown hat hH

set_option maxRecDepth 100000 in
set_option maxHeartbeats 1000000 in
theorem do_do (B b : Nat) (m : MS) (arg : Int) (l : List Int) (x y : Int) (w : World) (h : McE B w b m) (harg : inI arg) (he : m.stack = l ++ [x, y]) (hl : m.side.length + 2 ≤ 1000) :
    Calls Tryz.prog 62 #[.pointer (some ⟨b, 0, none⟩), .int .i64 6, .int .i64 arg] w fun e w' => e = .returned (.tuple #[]) ∧ McE B w' b { m with stack := l, side := m.side ++ [x, y] } ∧ Below B w w' := by
  have _ := harg
  obtain ⟨i0, hi, hz0, hz1, hz2⟩ := info_parts Tryz.infoInt64
  have HP := hide (mpop_any B b m w h (l ++ [x]) y (by rw [he]; simp))
  have hxi : inI x := h.ints.1 x (by rw [he]; simp)
  have hyi : inI y := h.ints.1 y (by rw [he]; simp)
  go_enter Tryz.func62, Tryz.ntmps62
  go_wp2_with fail
  refine (unhide HP).mono ?_
  rintro e w1 ⟨rfl, h1, hb1⟩
  clear HP
  have HP := hide (mpop_any B b _ w1 h1 l x rfl)
  go_wp2_with fail
  refine (unhide HP).mono ?_
  rintro e w2 ⟨rfl, h2, hb2⟩
  clear HP h1
  have hb3 := hb1.trans hb2
  clear hb1 hb2
  obtain ⟨v5, v6, v7, v8, h2⟩ := h2
  have hlt := h2.blk.lt
  have hc := h2.blk.cell
  have hf := h2.blk.free
  unfold mcArr at hc
  have HB := hide h2.blk
  unfold mcArr at HB
  have hne := h2.ne 1 v6 rfl
  have HW := hide (ownsRow_alloc h2.o6 (.cells #[.int .i64 x] 2))
  have hBs : B ≤ (w2.alloc (.cells #[.int .i64 x] 2)).heap.size := by
    have := h2.base
    simp; omega
  have HBs := hide hBs
  clear hBs
  go_wp2_with (first | (at_builtin; (refine wpList_append_lies _ rfl (.tmp 104) (.tmp 106) 63 rfl B 2 i0 _ 1 8 Tryz.underlying63 hi hz0 hz1 hz2 rfl (by decide) v6 m.side.length (intCells m.side) (by simp [Act.eval]) (unhide HW) ⟨w2.heap.size, 0, none⟩ 1 1 [.int .i64 x] (by simp [Act.eval]) rfl (World.news_of_block (Blk.new w2 _ _)) (oneCells1 _) (by omega) (by unfold maxLen; omega) (by omega) (unhide HBs) _ rfl ?_; intro g cap w5 hown hgrow hat hlt5; have hb5 := ((unhide HB).alloc _).grown hgrow hne; have hc5 := hb5.cell; have hf5 := hb5.free; have h3 := h2.grow6n (n := m.side.length) hxi rfl (by omega) (grownBy_alloc' hgrow) hown hat (by simp); have hb4 := hb3.trans ((below_grown_alloc' (by have := h2.base; omega) (fun k hk => (ownsRow_lt h2.o6 hk).2) hgrow).setCell h2.base (p := ⟨b, 6, none⟩) (.slice (some ⟨g, 0, none⟩) (m.side.length + 1) cap)); have h3 := hide h3; have hb4 := hide hb4; clear hown hgrow hat hb5)) | (at_builtin; (refine wpList_append_lies _ rfl (.tmp 114) (.tmp 116) 63 rfl B 2 i0 _ 1 8 Tryz.underlying63 hi hz0 hz1 hz2 rfl (by decide) (.slice (some ⟨g, 0, none⟩) (m.side.length + 1) cap) (m.side.length + 1) (intCells (m.side ++ [x])) (by simp [Act.eval]) (by have := ownsRow_alloc (unhide h3).o6 (.cells #[.int .i64 y] 2); simpa using this) ⟨_, 0, none⟩ 1 1 [.int .i64 y] (by simp [Act.eval]) rfl (World.news_of_block (Blk.new _ _ _)) (oneCells1 _) (by omega) (by unfold maxLen; omega) (by omega) (by have := (unhide h3).base; have := (unhide h3).blk.lt; simp at this ⊢; omega) _ rfl ?_; intro g2 cap2 w6 hown hgrow hat hlt6; have hb6 := ((unhide h3).blk.alloc _).grown hgrow ((unhide h3).ne 1 _ rfl); have hc6 := hb6.cell; have hf6 := hb6.free; unfold mcArr at hc6; have HO := hide hown; have HG := hide hgrow; have HA := hide hat; clear hown hgrow hat hb6)))
  go_end0
  have h4 := (unhide h3).grow6n (n := m.side.length + 1) hyi (by simp) (by omega) (grownBy_alloc' (unhide HG)) (unhide HO) (unhide HA) (by simp)
  simp only [List.append_assoc, List.cons_append, List.nil_append] at h4
  refine ⟨rfl, ⟨_, _, _, _, h4⟩, ?_⟩
  exact (unhide hb4).trans ((below_grown_alloc' (by have := (unhide h3).base; have := (unhide h3).blk.lt; omega) (fun k hk => (ownsRow_lt (unhide h3).o6 hk).2) (unhide HG)).setCell h2.base _)

theorem Mc.write6 {B : Nat} {w : World} {b : Nat} {m : MS} {v5 v7 v8 : Value} {g k n : Nat} (h : Mc B w b m v5 (.slice (some ⟨g, 0, none⟩) n k) v7 v8) (l r : List Int) (x y : Int) (he : m.side = l ++ x :: r) (hy : inI y) :
    Mc B (w.setCell ⟨g, l.length, none⟩ (.int .i64 y)) b { m with side := l ++ y :: r } v5 (.slice (some ⟨g, 0, none⟩) n k) v7 v8 := by
  have hg : b ≠ g := fun e => h.ne 1 _ rfl (by rw [e]; rfl)
  have hq : ∀ x ∈ m.ks, x.1 ≠ g := fun x hx e => h.owned.off 1 _ x.1 rfl (List.mem_cons_of_mem _ (List.mem_map_of_mem hx)) (by rw [e]; rfl)
  refine ⟨?_, h.base, ?_, h.lims, by have := h.small; rw [he] at this; simp at this ⊢; omega, ⟨h.ints.1, fun z hz => ?_, h.ints.2.2⟩, fun x hx => (h.kept x hx).far (hq x hx) _, h.kne⟩
  · exact h.blk.far hg _
  · have := h.owned.write 1 g n k _ rfl rfl l.length (.int .i64 y)
    simpa [mcRows, he, intCells] using this
  · have hz' := h.ints.2.1 z
    rw [he] at hz'
    simp at hz hz'
    rcases hz with hz | rfl | hz
    · exact hz' (Or.inl hz)
    · exact hy
    · exact hz' (Or.inr (Or.inr hz))

set_option maxRecDepth 100000 in
set_option maxHeartbeats 1000000 in
theorem do_loop_end (B b : Nat) (m : MS) (arg : Int) (l : List Int) (x y : Int) (w : World) (h : McE B w b m) (harg : inI arg) (he : m.side = l ++ [x, y]) (hxy : (wrap64 (y + 1) == x) = true) :
    Calls Tryz.prog 62 #[.pointer (some ⟨b, 0, none⟩), .int .i64 7, .int .i64 arg] w fun e w' => e = .returned (.tuple #[]) ∧ McE B w' b { m with side := l } ∧ Below B w w' := by
  obtain ⟨v5, v6, v7, v8, h⟩ := h
  have hn : m.side.length = l.length + 2 := by rw [he]; simp
  obtain ⟨g, k, rfl, hg, hgl⟩ := h.o6.form (by omega)
  have hne : b ≠ g := fun e => h.ne 1 _ rfl (by rw [e]; rfl)
  have hb := h.blk
  have hlt := hb.lt
  unfold mcArr at hb
  have ho := h.o6
  rw [hn] at hb ho
  have hx := own_cell ho l.length (by omega)
  have hy := own_cell ho (l.length + 1) (by omega)
  rw [he] at hx hy
  have e1 : (intCells (l ++ [x, y]))[l.length]? = some (.int .i64 x) := by simp [intCells]
  have e2 : (intCells (l ++ [x, y]))[l.length + 1]? = some (.int .i64 y) := by simp [intCells]
  rw [e1] at hx
  rw [e2] at hy
  clear e1 e2
  have hs : (l.length : Int) ≤ 998 := by have := h.small; omega
  have hk : (l.length : Int) + 2 ≤ k := by have := (own_cap ho).1; omega
  have hyi : inI y := h.ints.2.1 y (by rw [he]; simp)
  unfold inI at hyi
  obtain ⟨hy1, hy2⟩ := hyi
  have ha := harg
  unfold inI at ha
  obtain ⟨ha1, ha2⟩ := ha
  have hc := hb.cell
  have hf := hb.free
  have hfg := own_free ho
  clear hb ho
  go_enter Tryz.func62, Tryz.ntmps62
  go_wp2_with fail
  go_quiet (fail)
  go_wp2_with fail
  go_end0
  have h1 := h.write6 (l ++ [x]) [] y (wrap64 (y + 1)) (by rw [he]; simp) (wrap64_in _)
  simp only [List.length_append, List.length_cons, List.length_nil, Nat.zero_add] at h1
  exact ⟨rfl, ⟨_, _, _, _, (h1.drewN _).cut6 l [x, wrap64 (y + 1)] (by simp) (by simp [hn])⟩, (below_to_drewN ((Below.refl B w).setCell hg _) _).setCell h.base _⟩

set_option maxRecDepth 100000 in
set_option maxHeartbeats 1000000 in
theorem do_loop_on (B b : Nat) (m : MS) (arg : Int) (l : List Int) (x y : Int) (w : World) (h : McE B w b m) (harg : inI arg) (he : m.side = l ++ [x, y]) (hxy : (wrap64 (y + 1) == x) = false) :
    Calls Tryz.prog 62 #[.pointer (some ⟨b, 0, none⟩), .int .i64 7, .int .i64 arg] w fun e w' => e = .returned (.tuple #[]) ∧ McE B w' b { m with side := l ++ [x, wrap64 (y + 1)], pc := arg } ∧ Below B w w' := by
  obtain ⟨v5, v6, v7, v8, h⟩ := h
  have hn : m.side.length = l.length + 2 := by rw [he]; simp
  obtain ⟨g, k, rfl, hg, hgl⟩ := h.o6.form (by omega)
  have hne : b ≠ g := fun e => h.ne 1 _ rfl (by rw [e]; rfl)
  have hb := h.blk
  have hlt := hb.lt
  unfold mcArr at hb
  have ho := h.o6
  rw [hn] at hb ho
  have hx := own_cell ho l.length (by omega)
  have hy := own_cell ho (l.length + 1) (by omega)
  rw [he] at hx hy
  have e1 : (intCells (l ++ [x, y]))[l.length]? = some (.int .i64 x) := by simp [intCells]
  have e2 : (intCells (l ++ [x, y]))[l.length + 1]? = some (.int .i64 y) := by simp [intCells]
  rw [e1] at hx
  rw [e2] at hy
  clear e1 e2
  have hs : (l.length : Int) ≤ 998 := by have := h.small; omega
  have hk : (l.length : Int) + 2 ≤ k := by have := (own_cap ho).1; omega
  have hyi : inI y := h.ints.2.1 y (by rw [he]; simp)
  unfold inI at hyi
  obtain ⟨hy1, hy2⟩ := hyi
  have ha := harg
  unfold inI at ha
  obtain ⟨ha1, ha2⟩ := ha
  have hc := hb.cell
  have hf := hb.free
  have hfg := own_free ho
  clear hb ho
  go_enter Tryz.func62, Tryz.ntmps62
  go_wp2_with fail
  go_quiet (fail)
  go_wp2_with fail
  go_end0
  have h1 := h.write6 (l ++ [x]) [] y (wrap64 (y + 1)) (by rw [he]; simp) (wrap64_in _)
  simp only [List.length_append, List.length_cons, List.length_nil, Nat.zero_add, List.append_assoc, List.cons_append, List.nil_append] at h1
  exact ⟨rfl, McE.at ⟨_, _, _, _, h1.drewN _⟩ arg, (below_to_drewN ((Below.refl B w).setCell hg _) _).setCell h.base _⟩

end Go.Proofs.YtbcjfiaacenhgaaGreatDoor

