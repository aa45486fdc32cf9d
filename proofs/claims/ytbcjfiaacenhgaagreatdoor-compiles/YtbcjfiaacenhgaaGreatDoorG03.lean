/- The reference's Reader: put. -/
import Derived.Test.YtbcjfiaacenhgaaGreatDoorG02
import Derived.Deep.CutRange
namespace Go.Proofs.YtbcjfiaacenhgaaGreatDoor
open Go Go.RowKit

theorem Tryz.infoInstr : (Tryz.prog.info? 34).map (fun i => (i.zero, i.size, i.bytes)) = some (some (.agg #[.int .i64 0, .int .i64 0]), 2, 16) := by kernel_rfl

theorem oneCells2 (a b : Int) : ∀ u ∈ [Value.int .i64 a, Value.int .i64 b], u.oneCell' = true := by
  intro u hu
  simp at hu
  rcases hu with rfl | rfl <;> rfl

theorem below_grown_alloc {B : Nat} {w w1 : World} {o : Obj} {row : Option Nat} (hB : B ≤ w.heap.size) (hr : ∀ k, row = some k → B ≤ k) (hg : (w.alloc o).drew.grownBy w1 row) : Below B w w1 :=
  (((Below.refl B w).alloc hB o).drew).grown hg (by have := Below.size ((Below.refl B w).alloc hB o); exact Nat.le_trans hB this) hr

/-- Behind an append to the definitions' code. -/
theorem Rd.grow4 {B : Nat} {w w1 : World} {b : Nat} {st : RS} {v4 v5 v6 v7 v11 : Value} (h : Rd B w b st v4 v5 v6 v7 v11) {o : Obj} {op arg : Int} {g cap H : Nat} (hlen : st.c0.length < 4000)
    (hown : w1.ownsRow B 34 2 (.slice (some ⟨g, 0, none⟩) (st.c0.length + 1) cap) (st.c0.length + 1) (instrCells st.c0 ++ [.int .i64 op, .int .i64 arg]))
    (hgrow : (w.alloc o).drew.grownBy w1 v4.ownBlock) (hat : v4.ownBlock = some g ∨ g = H) (hH : H = w.heap.size + 1) :
    Rd B (w1.setCell ⟨b, 4, none⟩ (.slice (some ⟨g, 0, none⟩) (st.c0.length + 1) cap)) b { st with c0 := st.c0 ++ [(op, arg)] } (.slice (some ⟨g, 0, none⟩) (st.c0.length + 1) cap) v5 v6 v7 v11 := by
  have hw1 := grownBy_alloc hgrow
  have hlt := h.blk.lt
  refine ⟨?_, h.base, ?_, by have := h.small; simp; omega⟩
  · have := (h.blk.grown hw1 (h.ne 0 v4 rfl)).set 4 (.slice (some ⟨g, 0, none⟩) (st.c0.length + 1) cap)
    simpa [rdArr] using this
  · have := (h.owned.grow 0 v4 (.slice (some ⟨g, 0, none⟩) (st.c0.length + 1) cap) ⟨34, 2, st.c0.length + 1, instrCells st.c0 ++ [.int .i64 op, .int .i64 arg]⟩ rfl (by simp; exact hlt) hw1 hown ?_).set (b := b) (by simp) 4 (.slice (some ⟨g, 0, none⟩) (st.c0.length + 1) cap)
    · simpa [rdRows, instrCells] using this
    · rcases hat with e | e
      · exact Or.inl e.symm
      · exact Or.inr ⟨g, rfl, by omega⟩
theorem Rd.grow5 {B : Nat} {w w1 : World} {b : Nat} {st : RS} {v4 v5 v6 v7 v11 : Value} (h : Rd B w b st v4 v5 v6 v7 v11) {o : Obj} {op arg : Int} {g cap H : Nat} (hlen : st.c1.length < 4000)
    (hown : w1.ownsRow B 34 2 (.slice (some ⟨g, 0, none⟩) (st.c1.length + 1) cap) (st.c1.length + 1) (instrCells st.c1 ++ [.int .i64 op, .int .i64 arg]))
    (hgrow : (w.alloc o).drew.grownBy w1 v5.ownBlock) (hat : v5.ownBlock = some g ∨ g = H) (hH : H = w.heap.size + 1) :
    Rd B (w1.setCell ⟨b, 5, none⟩ (.slice (some ⟨g, 0, none⟩) (st.c1.length + 1) cap)) b { st with c1 := st.c1 ++ [(op, arg)] } v4 (.slice (some ⟨g, 0, none⟩) (st.c1.length + 1) cap) v6 v7 v11 := by
  have hw1 := grownBy_alloc hgrow
  have hlt := h.blk.lt
  refine ⟨?_, h.base, ?_, by have := h.small; simp; omega⟩
  · have := (h.blk.grown hw1 (h.ne 1 v5 rfl)).set 5 (.slice (some ⟨g, 0, none⟩) (st.c1.length + 1) cap)
    simpa [rdArr] using this
  · have := (h.owned.grow 1 v5 (.slice (some ⟨g, 0, none⟩) (st.c1.length + 1) cap) ⟨34, 2, st.c1.length + 1, instrCells st.c1 ++ [.int .i64 op, .int .i64 arg]⟩ rfl (by simp; exact hlt) hw1 hown ?_).set (b := b) (by simp) 5 (.slice (some ⟨g, 0, none⟩) (st.c1.length + 1) cap)
    · simpa [rdRows, instrCells] using this
    · rcases hat with e | e
      · exact Or.inl e.symm
      · exact Or.inr ⟨g, rfl, by omega⟩

set_option maxHeartbeats 400000 in
theorem put_def (B b : Nat) (st : RS) (v4 v5 v6 v7 v11 : Value) (op arg : Int) (w : World) (h : Rd B w b st v4 v5 v6 v7 v11) (hst : 0 ≤ st.start) (hlen : st.c0.length < 4000) :
    Calls Tryz.prog 50 #[.pointer (some ⟨b, 0, none⟩), .int .i64 op, .int .i64 arg] w fun e w' => e = .returned (.int .i64 st.c0.length) ∧ ∃ v4', Rd B w' b { st with c0 := st.c0 ++ [(op, arg)] } v4' v5 v6 v7 v11 ∧ Moved w b [v4, v5, v6, v7, v11] w' [v4', v5, v6, v7, v11] := by
  obtain ⟨i0, hi, hz0, hz1, hz2⟩ := info_parts Tryz.infoInstr
  have hp := part_any B b st v4 v5 v6 v7 v11 w h
  rw [partS, if_pos hst] at hp
  have HP := hide hp
  clear hp
  have hb := h.blk
  have hlt := hb.lt
  unfold rdArr at hb
  have hc := hb.cell
  have hf := hb.free
  have HB := hide hb
  clear hb
  have hne := h.ne 0 v4 rfl
  have hW : ((w.alloc (.cells #[.int .i64 op, .int .i64 arg] 34)).drew).ownsRow B 34 2 v4 st.c0.length (instrCells st.c0) := ownsRow_alloc h.o4 _
  have HW := hide hW
  have hBs : B ≤ ((w.alloc (.cells #[.int .i64 op, .int .i64 arg] 34)).drew).heap.size := by
    have h1 := h.base
    have h2 := Below.size ((Below.refl B w).alloc (by omega) (.cells #[.int .i64 op, .int .i64 arg] 34))
    have h3 : w.drew.heap.size = w.heap.size := rfl
    show B ≤ (w.alloc _).heap.size
    omega
  have HBs := hide hBs
  clear hBs
  clear hW
  go_enter Tryz.func50, Tryz.ntmps50
  go_wp2_with (go_at_call 59; refine (unhide HP).mono ?_; rintro e w1 ⟨rfl, hw⟩; obtain rfl := hw.symm; clear hw)
  go_region_law (refine step_append_lies _ rfl (.tmp 17) (.tmp 21) 30 rfl B 34 i0 _ 2 16 Tryz.underlying30 hi hz0 hz1 hz2 rfl (by decide) v4 st.c0.length (instrCells st.c0) (by simp [Act.eval]) (unhide HW) ⟨w.heap.size, 0, none⟩ 1 1 [.int .i64 op, .int .i64 arg] (by simp [Act.eval]) rfl (World.news_of_block (Blk.new w _ _)) (oneCells2 op arg) (by omega) (by unfold maxLen; omega) (by omega) (unhide HBs) _ rfl ?_; intro g cap w1 hown hgrow hat hlt1; have hb1 := ((unhide HB).alloc _).drew.grown hgrow hne; have hc1 := hb1.cell; have hf1 := hb1.free; have HO := hide hown; have HG := hide hgrow; have HA := hide hat; clear hown hgrow hat hb1)
  all_goals
    go_wp2
    go_ret
    refine ⟨ret_int (by omega), _, h.grow4 hlen (unhide HO) (unhide HG) (unhide HA) (by simp), ?_⟩
    exact (moved_grow 0 v4 _ rfl (grownBy_alloc (unhide HG)) (lies_at (unhide HA) (by simp))).trans (moved_set _ _ _ _ _)

set_option maxHeartbeats 400000 in
theorem put_main (B b : Nat) (st : RS) (v4 v5 v6 v7 v11 : Value) (op arg : Int) (w : World) (h : Rd B w b st v4 v5 v6 v7 v11) (hst : ¬ 0 ≤ st.start) (hlen : st.c1.length < 4000) :
    Calls Tryz.prog 50 #[.pointer (some ⟨b, 0, none⟩), .int .i64 op, .int .i64 arg] w fun e w' => e = .returned (.int .i64 st.c1.length) ∧ ∃ v5', Rd B w' b { st with c1 := st.c1 ++ [(op, arg)] } v4 v5' v6 v7 v11 ∧ Moved w b [v4, v5, v6, v7, v11] w' [v4, v5', v6, v7, v11] := by
  obtain ⟨i0, hi, hz0, hz1, hz2⟩ := info_parts Tryz.infoInstr
  have hp := part_any B b st v4 v5 v6 v7 v11 w h
  rw [partS, if_neg hst] at hp
  have HP := hide hp
  clear hp
  have hb := h.blk
  have hlt := hb.lt
  unfold rdArr at hb
  have hc := hb.cell
  have hf := hb.free
  have HB := hide hb
  clear hb
  have hne := h.ne 1 v5 rfl
  have hW : ((w.alloc (.cells #[.int .i64 op, .int .i64 arg] 34)).drew).ownsRow B 34 2 v5 st.c1.length (instrCells st.c1) := ownsRow_alloc h.o5 _
  have HW := hide hW
  have hBs : B ≤ ((w.alloc (.cells #[.int .i64 op, .int .i64 arg] 34)).drew).heap.size := by
    have h1 := h.base
    have h2 := Below.size ((Below.refl B w).alloc (by omega) (.cells #[.int .i64 op, .int .i64 arg] 34))
    have h3 : w.drew.heap.size = w.heap.size := rfl
    show B ≤ (w.alloc _).heap.size
    omega
  have HBs := hide hBs
  clear hBs
  clear hW
  go_enter Tryz.func50, Tryz.ntmps50
  go_wp2_with (go_at_call 59; refine (unhide HP).mono ?_; rintro e w1 ⟨rfl, hw⟩; obtain rfl := hw.symm; clear hw)
  go_region_law (refine step_append_lies _ rfl (.tmp 17) (.tmp 21) 30 rfl B 34 i0 _ 2 16 Tryz.underlying30 hi hz0 hz1 hz2 rfl (by decide) v5 st.c1.length (instrCells st.c1) (by simp [Act.eval]) (unhide HW) ⟨w.heap.size, 0, none⟩ 1 1 [.int .i64 op, .int .i64 arg] (by simp [Act.eval]) rfl (World.news_of_block (Blk.new w _ _)) (oneCells2 op arg) (by omega) (by unfold maxLen; omega) (by omega) (unhide HBs) _ rfl ?_; intro g cap w1 hown hgrow hat hlt1; have hb1 := ((unhide HB).alloc _).drew.grown hgrow hne; have hc1 := hb1.cell; have hf1 := hb1.free; have HO := hide hown; have HG := hide hgrow; have HA := hide hat; clear hown hgrow hat hb1)
  all_goals
    go_wp2
    go_ret
    refine ⟨ret_int (by omega), _, h.grow5 hlen (unhide HO) (unhide HG) (unhide HA) (by simp), ?_⟩
    exact (moved_grow 1 v5 _ rfl (grownBy_alloc (unhide HG)) (lies_at (unhide HA) (by simp))).trans (moved_set _ _ _ _ _)


def RdE (B : Nat) (w : World) (b : Nat) (st : RS) : Prop := ∃ v4 v5 v6 v7 v11, Rd B w b st v4 v5 v6 v7 v11

def putS (st : RS) (op arg : Int) : RS := if 0 ≤ st.start then { st with c0 := st.c0 ++ [(op, arg)] } else { st with c1 := st.c1 ++ [(op, arg)] }

theorem Rd.below {B : Nat} {w w' : World} {b : Nat} {st : RS} {v4 v5 v6 v7 v11 : Value} {vs' : List Value} (h : Rd B w b st v4 v5 v6 v7 v11) (m : Moved w b [v4, v5, v6, v7, v11] w' vs') : Below B w w' :=
  m.below (fun _ hk => (h.owned.foot h.base h.blk.lt hk).1) (by have := h.base; have := h.blk.lt; omega)

theorem put_rd (B b : Nat) (st : RS) (v4 v5 v6 v7 v11 : Value) (op arg : Int) (w : World) (h : Rd B w b st v4 v5 v6 v7 v11) (hlen : st.c0.length < 4000 ∧ st.c1.length < 4000) :
    Calls Tryz.prog 50 #[.pointer (some ⟨b, 0, none⟩), .int .i64 op, .int .i64 arg] w fun e w' => e = .returned (.int .i64 (hereS st)) ∧ ∃ u4 u5 u6 u7 u11, Rd B w' b (putS st op arg) u4 u5 u6 u7 u11 ∧ Moved w b [v4, v5, v6, v7, v11] w' [u4, u5, u6, u7, u11] := by
  unfold hereS putS
  by_cases hst : 0 ≤ st.start
  · rw [if_pos hst, if_pos hst]
    refine (put_def B b st v4 v5 v6 v7 v11 op arg w h hst hlen.1).mono ?_
    rintro e w' ⟨rfl, v, hr, hb⟩
    exact ⟨rfl, _, _, _, _, _, hr, hb⟩
  · rw [if_neg hst, if_neg hst]
    refine (put_main B b st v4 v5 v6 v7 v11 op arg w h hst hlen.2).mono ?_
    rintro e w' ⟨rfl, v, hr, hb⟩
    exact ⟨rfl, _, _, _, _, _, hr, hb⟩

theorem put_any (B b : Nat) (st : RS) (op arg : Int) (w : World) (h : RdE B w b st) (hlen : st.c0.length < 4000 ∧ st.c1.length < 4000) :
    Calls Tryz.prog 50 #[.pointer (some ⟨b, 0, none⟩), .int .i64 op, .int .i64 arg] w fun e w' => e = .returned (.int .i64 (hereS st)) ∧ RdE B w' b (putS st op arg) ∧ Below B w w' := by
  obtain ⟨v4, v5, v6, v7, v11, h⟩ := h
  refine (put_rd B b st v4 v5 v6 v7 v11 op arg w h hlen).mono ?_
  rintro e w' ⟨rfl, u4, u5, u6, u7, u11, hr, hm⟩
  exact ⟨rfl, ⟨_, _, _, _, _, hr⟩, h.below hm⟩

end Go.Proofs.YtbcjfiaacenhgaaGreatDoor

/- The statements' holds: marked. -/
namespace Go.Proofs.YtbcjfiaacenhgaaGreatDoor
open Go Go.RowKit

def markI (n : Nat) (mk : Int) : List (Int × Int) := List.replicate n (-1, -mk)
def markN (n : Nat) (mk : Int) : List Value := List.replicate n (.int .i64 (-mk))
/-- A hold whose lists are written full with its mark. -/
structure HoldIs (w : World) (q : Nat) (mk : Int) (vi vn : Value) (ni nn : Nat) : Prop where
  blk : Blk w q #[vi, vn, .int .i64 mk] 65
  is : w.ownsRow 0 34 2 vi ni (instrCells (markI ni mk))
  ns : w.ownsRow 0 2 1 vn nn (markN nn mk)
  bd : 0 ≤ mk ∧ mk ≤ 1152921504606846976
  small : ni ≤ 17592186044416 ∧ nn ≤ 17592186044416

set_option maxRecDepth 100000 in
set_option maxHeartbeats 2000000 in
theorem marked_any (q : Nat) (mk : Int) (vi vn : Value) (ni nn : Nat) (w : World) (h : HoldIs w q mk vi vn ni nn) :
    Calls Tryz.prog 13 #[.pointer (some ⟨q, 0, none⟩)] w fun e w' => e = .returned (.bool true) ∧ w' = w := by
  have hc := h.blk.cell
  obtain ⟨ai, ci, hvi⟩ := own_shape h.is
  obtain ⟨an, cn, hvn⟩ := own_shape h.ns
  subst hvi hvn
  have hI : ∀ k, k < ni → ∃ g, ai = some ⟨g, 0, none⟩ ∧ w.cell? ⟨g, k * 2, none⟩ = some (.int .i64 (-1)) ∧ w.cell? ⟨g, k * 2 + 1, none⟩ = some (.int .i64 (-mk)) := by
    intro k hk
    obtain ⟨g, cap, e, _, _⟩ := h.is.form (by omega)
    simp only [Value.slice.injEq] at e
    obtain ⟨rfl, _, rfl⟩ := e
    have hx : (markI ni mk)[k]? = some (-1, -mk) := by unfold markI; rw [List.getElem?_replicate]; simp [hk]
    have h1 := own_cell h.is (k * 2) (by omega)
    have h2 := own_cell h.is (k * 2 + 1) (by omega)
    rw [(instrCells_at _ _ _ hx).1] at h1
    rw [(instrCells_at _ _ _ hx).2] at h2
    exact ⟨g, rfl, h1, h2⟩
  have hN : ∀ k, k < nn → ∃ g, an = some ⟨g, 0, none⟩ ∧ w.cell? ⟨g, k, none⟩ = some (.int .i64 (-mk)) := by
    intro k hk
    obtain ⟨g, cap, e, _, _⟩ := h.ns.form (by omega)
    simp only [Value.slice.injEq] at e
    obtain ⟨rfl, _, rfl⟩ := e
    have h1 := own_cell h.ns k (by omega)
    unfold markN at h1
    rw [List.getElem?_replicate, if_pos hk] at h1
    exact ⟨g, rfl, h1⟩
  have HI := hide hI
  have HN := hide hN
  have hmk := h.bd
  obtain ⟨hni, hnn⟩ := h.small
  have hniI : (ni : Int) ≤ 17592186044416 := by omega
  have hnnI : (nn : Int) ≤ 17592186044416 := by omega
  have hw : IntKind.i64.wrap (-mk) = -mk := by rw [IntKind.wrap_i64]; omega
  clear hI hN h hni hnn
  go_enter Tryz.func13, Tryz.ntmps13
  go_wp2_with fail
  go_loop [4, 5] (fun ok i => ∃ k : Nat, k ≤ ni ∧ i = .int .i64 k ∧ ok = .bool true) (fun _ i => ni - (intOf i).toNat)
  case atStart => exact ⟨0, Nat.zero_le _, rfl, rfl⟩
  case round =>
    obtain ⟨k, hk, rfl, rfl⟩ := hrel
    by_cases hlt : k < ni
    · obtain ⟨g, rfl, h1, h2⟩ := unhide HI k hlt
      have hltI : (k : Int) < ni := by omega
      go_wp2_with fail
      go_round
      case rel => exact ⟨k + 1, by omega, by go_num, rfl⟩
      case measure => simp [intOf]; omega
    · have hkn : k = ni := by omega
      subst hkn
      go_wp2_with fail
      go_loop [4, 6] (fun ok i => ∃ k : Nat, k ≤ nn ∧ i = .int .i64 k ∧ ok = .bool true) (fun _ i => nn - (intOf i).toNat)
      case atStart => exact ⟨0, Nat.zero_le _, rfl, rfl⟩
      case round =>
        obtain ⟨j, hj, rfl, rfl⟩ := hrel
        by_cases hlt2 : j < nn
        · obtain ⟨g, rfl, h1⟩ := unhide HN j hlt2
          have hltJ : (j : Int) < nn := by omega
          go_wp2_with fail
          go_round
          case rel => exact ⟨j + 1, by omega, by go_num, rfl⟩
          case measure => simp [intOf]; omega
        · have hjn : j = nn := by omega
          subst hjn
          go_wp2_with fail
          go_ret
          exact ⟨rfl, rfl⟩

end Go.Proofs.YtbcjfiaacenhgaaGreatDoor

/- The statements' holds: longer. -/
namespace Go.Proofs.YtbcjfiaacenhgaaGreatDoor
open Go Go.RowKit

theorem Tryz.infoNum : (Tryz.prog.info? 2).map (fun i => (i.zero, i.size, i.bytes)) = some (some (.int .i64 0), 1, 8) := by kernel_rfl
theorem markI_more (n : Nat) (mk : Int) : instrCells (markI n mk) ++ [.int .i64 (-1), .int .i64 (-mk)] = instrCells (markI (n + 1) mk) := by
  unfold markI instrCells
  rw [List.replicate_succ', List.flatMap_append]
  rfl
theorem markN_more (n : Nat) (mk : Int) : markN n mk ++ [.int .i64 (-mk)] = markN (n + 1) mk := by
  unfold markN
  rw [List.replicate_succ']
theorem markI_take (n m : Nat) (mk : Int) (h : n ≤ m) : (instrCells (markI m mk)).take (n * 2) = instrCells (markI n mk) := by
  obtain ⟨d, rfl⟩ : ∃ d, m = n + d := ⟨m - n, by omega⟩
  have e : instrCells (markI (n + d) mk) = instrCells (markI n mk) ++ instrCells (markI d mk) := by
    unfold markI instrCells
    rw [← List.replicate_append_replicate, List.flatMap_append]
  have hl : (instrCells (markI n mk)).length = n * 2 := by
    unfold markI instrCells
    rw [List.length_flatMap]
    simp
  rw [e, ← hl, List.take_left]
theorem markN_take (n m : Nat) (mk : Int) (h : n ≤ m) : (markN m mk).take (n * 1) = markN n mk := by
  unfold markN
  rw [List.take_replicate]
  congr 1
  omega

/-- One append: what was written with that mark and was no longer still reads so. -/
theorem hold_keepI {w w' : World} {q' : Nat} {mk : Int} {vi vi' vn' : Value} {ni ni' nn' g cap H : Nat} (h : HoldIs w q' mk vi' vn' ni' nn') (hi : w.ownsRow 0 34 2 vi ni (instrCells (markI ni mk)))
    (hown : w'.ownsRow 0 34 2 (.slice (some ⟨g, 0, none⟩) (ni + 1) cap) (ni + 1) (instrCells (markI (ni + 1) mk)))
    (hs : w.grownBy w' vi.ownBlock) (hat : vi = .slice (some ⟨g, 0, none⟩) ni cap ∨ g = H ∧ ∀ k, k < w.heap.size → w'.heap[k]? = w.heap[k]?) (hle : ni' ≤ ni) : HoldIs w' q' mk vi' vn' ni' nn' := by
  have hq := row_not_blk h.blk hi (by decide)
  refine ⟨h.blk.grown hs (fun e => hq e.symm), ?_, ?_, h.bd, h.small⟩
  · rcases hat with rfl | ⟨_, hall⟩
    · by_cases e : vi'.ownBlock = some g
      · obtain ⟨ao, c', e2⟩ := own_shape h.is
        subst e2
        cases ao with
        | none => simp [Value.ownBlock] at e
        | some a =>
          have hform := h.is.2
          rcases hform with ⟨h0, _⟩ | ⟨g1, c1, cur1, e1, _⟩
          · simp at h0
          · simp only [Value.slice.injEq, Option.some.injEq, true_and] at e1
            obtain ⟨rfl, rfl⟩ := e1
            simp [Value.ownBlock] at e
            subst e
            exact own_prefix (by decide) h.is hi hown (by omega) (markI_take _ _ _ (by omega))
      · exact ownsRow_grown h.is hs (fun k hk e2 => e (by rw [hk]; simpa [Value.ownBlock] using e2))
    · exact ownsRow_of_block h.is (fun k _ hk => hall k hk)
  · exact ownsRow_grown h.ns hs (fun k hk e2 => rows_apart h.ns hi (by decide) hk e2.symm)
theorem hold_keepN {w w' : World} {q' : Nat} {mk : Int} {vi' vn vn' : Value} {nn ni' nn' g cap H : Nat} (h : HoldIs w q' mk vi' vn' ni' nn') (hn : w.ownsRow 0 2 1 vn nn (markN nn mk))
    (hown : w'.ownsRow 0 2 1 (.slice (some ⟨g, 0, none⟩) (nn + 1) cap) (nn + 1) (markN (nn + 1) mk))
    (hs : w.grownBy w' vn.ownBlock) (hat : vn = .slice (some ⟨g, 0, none⟩) nn cap ∨ g = H ∧ ∀ k, k < w.heap.size → w'.heap[k]? = w.heap[k]?) (hle : nn' ≤ nn) : HoldIs w' q' mk vi' vn' ni' nn' := by
  have hq := row_not_blk h.blk hn (by decide)
  refine ⟨h.blk.grown hs (fun e => hq e.symm), ?_, ?_, h.bd, h.small⟩
  · exact ownsRow_grown h.is hs (fun k hk e2 => rows_apart h.is hn (by decide) hk e2.symm)
  · rcases hat with rfl | ⟨_, hall⟩
    · by_cases e : vn'.ownBlock = some g
      · obtain ⟨ao, c', e2⟩ := own_shape h.ns
        subst e2
        cases ao with
        | none => simp [Value.ownBlock] at e
        | some a =>
          have hform := h.ns.2
          rcases hform with ⟨h0, _⟩ | ⟨g1, c1, cur1, e1, _⟩
          · simp at h0
          · simp only [Value.slice.injEq, Option.some.injEq, true_and] at e1
            obtain ⟨rfl, rfl⟩ := e1
            simp [Value.ownBlock] at e
            subst e
            exact own_prefix (by decide) h.ns hn hown (by omega) (markN_take _ _ _ (by omega))
      · exact ownsRow_grown h.ns hs (fun k hk e2 => e (by rw [hk]; simpa [Value.ownBlock] using e2))
    · exact ownsRow_of_block h.ns (fun k _ hk => hall k hk)
theorem HoldIs.alloc {w : World} {q : Nat} {mk : Int} {vi vn : Value} {ni nn : Nat} (h : HoldIs w q mk vi vn ni nn) (o : Obj) : HoldIs (w.alloc o) q mk vi vn ni nn := ⟨h.blk.alloc o, ownsRow_alloc h.is o, ownsRow_alloc h.ns o, h.bd, h.small⟩
theorem HoldIs.still {w w' : World} {F : Nat → Prop} {q : Nat} {mk : Int} {vi vn : Value} {ni nn : Nat} (h : HoldIs w q mk vi vn ni nn) (hs : Still w w' F) (hq : ¬ F q) (hi : ∀ k, vi.ownBlock = some k → ¬ F k) (hn : ∀ k, vn.ownBlock = some k → ¬ F k) : HoldIs w' q mk vi vn ni nn :=
  ⟨h.blk.still hs hq, ownsRow_still h.is hs hi, ownsRow_still h.ns hs hn, h.bd, h.small⟩
theorem HoldIs.far {w : World} {q : Nat} {mk : Int} {vi vn : Value} {ni nn : Nat} (h : HoldIs w q mk vi vn ni nn) {b : Nat} {cs : Array Value} (hb : Blk w b cs 65) (hne : q ≠ b) (c : Nat) (u : Value) : HoldIs (w.setCell ⟨b, c, none⟩ u) q mk vi vn ni nn :=
  ⟨h.blk.far hne u, ownsRow_far h.is (fun e => row_not_blk hb h.is (by decide) e) u, ownsRow_far h.ns (fun e => row_not_blk hb h.ns (by decide) e) u, h.bd, h.small⟩

set_option maxRecDepth 100000 in
set_option maxHeartbeats 2000000 in
theorem longer_any (q : Nat) (mk : Int) (vi vn : Value) (ni nn : Nat) (w : World) (h : HoldIs w q mk vi vn ni nn) (hni : ni < 8796093022208) (hnn : nn < 8796093022208) :
    Calls Tryz.prog 36 #[.pointer (some ⟨q, 0, none⟩)] w fun e w' => ∃ q2 vi2 vn2, e = .returned (.pointer (some ⟨q2, 0, none⟩)) ∧ w.heap.size ≤ q2 ∧ HoldIs w' q2 mk vi2 vn2 (ni + 1) (nn + 1) ∧
      (∀ k, vi2.ownBlock = some k → vi.ownBlock = some k ∨ w.heap.size ≤ k) ∧ (∀ k, vn2.ownBlock = some k → vn.ownBlock = some k ∨ w.heap.size ≤ k) ∧
      Still w w' (fun k => vi.ownBlock = some k ∨ vn.ownBlock = some k) ∧
      ∀ q' vi' vn' ni' nn', HoldIs w q' mk vi' vn' ni' nn' → ni' ≤ ni → nn' ≤ nn → HoldIs w' q' mk vi' vn' ni' nn' := by
  obtain ⟨iI, hiI, hzI0, hzI1, hzI2⟩ := info_parts Tryz.infoInstr
  obtain ⟨iN, hiN, hzN0, hzN1, hzN2⟩ := info_parts Tryz.infoNum
  have hc := h.blk.cell
  have hbl := h.blk.lt
  have hmk := h.bd
  have hw : IntKind.i64.wrap (-mk) = -mk := by rw [IntKind.wrap_i64]; omega
  have hqi := row_not_blk h.blk h.is (by decide)
  have hqn := row_not_blk h.blk h.ns (by decide)
  have HI1 := hide (ownsRow_alloc (ownsRow_alloc h.is (.cells #[.slice none 0 0, .slice none 0 0, .int .i64 mk] 65)) (.cells #[.int .i64 (-1), .int .i64 (-mk)] 34))
  have HH1 := hide ((h.alloc (.cells #[.slice none 0 0, .slice none 0 0, .int .i64 mk] 65)).alloc (.cells #[.int .i64 (-1), .int .i64 (-mk)] 34))
  have HB1 := hide ((Blk.new w #[.slice none 0 0, .slice none 0 0, .int .i64 mk] 65).alloc (.cells #[.int .i64 (-1), .int .i64 (-mk)] 34))
  have HNN := hide (Blk.new (w.alloc (.cells #[.slice none 0 0, .slice none 0 0, .int .i64 mk] 65)) #[.int .i64 (-1), .int .i64 (-mk)] 34)
  have hnew : vi.ownBlock ≠ some w.heap.size := fun e => by have := (ownsRow_lt h.is e).1; omega
  have HH := hide h
  clear h
  go_enter Tryz.func36, Tryz.ntmps36
  go_upto_region 4 with (at_builtin; refine wpList_append_keep _ rfl (.tmp 20) (.tmp 23) 30 rfl 0 34 iI _ 2 16 Tryz.underlying30 hiI hzI0 hzI1 hzI2 rfl (by decide) vi ni (instrCells (markI ni mk)) (by simp [Act.eval]) (unhide HI1) ⟨w.heap.size + 1, 0, none⟩ 1 1 [.int .i64 (-1), .int .i64 (-mk)] (by simp [Act.eval]) rfl (by have := World.news_of_block (unhide HNN); simpa using this) (by simp [Value.oneCell']) (by omega) (by unfold maxLen; omega) (by omega) (Nat.zero_le _) _ rfl ?_; intro g cap w5 hown hgrow hat hlt1; rw [markI_more] at hown; have h5 := hold_keepI (unhide HH1) (unhide HI1) hown hgrow hat (Nat.le_refl _); have hb5 := (unhide HB1).grown hgrow (fun e => hnew e.symm); have hc5 := h5.blk.cell; have hcb5 := hb5.cell; have hfb5 := hb5.free; have HO := hide hown; have HG := hide hgrow; have HA := hide hat; have H5 := hide h5; have HB5 := hide hb5; clear hown hgrow hat h5 hb5 hc)
  have hq5 : w.heap.size ≠ q := by omega
  have hn5 : vn.ownBlock ≠ some w.heap.size := fun e => by have := (ownsRow_lt (unhide HH).ns e).1; omega
  have hs5 : w.heap.size + 2 ≤ w5.heap.size := by have := (unhide HG).size; simpa using this
  have HN2 := hide (ownsRow_alloc (ownsRow_far (unhide H5).ns hn5 (.slice (some ⟨g, 0, none⟩) (ni + 1) cap) (a := ⟨w.heap.size, 0, none⟩)) (.cells #[.int .i64 (-mk)] 2))
  have HNM := hide (Blk.new (w5.setCell ⟨w.heap.size, 0, none⟩ (.slice (some ⟨g, 0, none⟩) (ni + 1) cap)) #[.int .i64 (-mk)] 2)
  have HH6 := hide (((unhide H5).far (unhide HB5) (by omega) 0 (.slice (some ⟨g, 0, none⟩) (ni + 1) cap)).alloc (.cells #[.int .i64 (-mk)] 2))
  have HB6 := hide (((unhide HB5).set 0 (.slice (some ⟨g, 0, none⟩) (ni + 1) cap)).alloc (.cells #[.int .i64 (-mk)] 2))
  simp only [List.setIfInBounds_toArray, List.set_cons_zero] at HB6
  go_wp2_with (at_builtin; refine wpList_append_keep _ rfl (.tmp 31) (.tmp 33) 63 rfl 0 2 iN _ 1 8 Tryz.underlying63 hiN hzN0 hzN1 hzN2 rfl (by decide) vn nn (markN nn mk) (by simp [Act.eval]) (unhide HN2) ⟨w5.heap.size, 0, none⟩ 1 1 [.int .i64 (-mk)] (by simp [Act.eval]) rfl (by have := World.news_of_block (unhide HNM); simpa using this) (by simp [Value.oneCell']) (by omega) (by unfold maxLen; omega) (by omega) (Nat.zero_le _) _ rfl ?_; intro g2 cap2 w7 hown hgrow hat hlt1; rw [markN_more] at hown; have h7 := hold_keepN (unhide HH6) (unhide HN2) hown hgrow hat (Nat.le_refl _); have hb7 := (unhide HB6).grown hgrow (fun e => hn5 e.symm); have hcb7 := hb7.cell; have hfb7 := hb7.free; have HO7 := hide hown; have HG7 := hide hgrow; have HA7 := hide hat; have H7 := hide h7; have HB7 := hide hb7; clear hown hgrow hat h7 hb7)
  go_ret
  have hI7 := ownsRow_grown (ownsRow_alloc (ownsRow_far (unhide HO) (row_not_blk (unhide HB5) (unhide HO) (by decide)) (.slice (some ⟨g, 0, none⟩) (ni + 1) cap) (a := ⟨w.heap.size, 0, none⟩)) (.cells #[.int .i64 (-mk)] 2)) (unhide HG7)
  have hI7 := hI7 (fun k hk e => rows_apart (ownsRow_alloc (ownsRow_far (unhide HO) (row_not_blk (unhide HB5) (unhide HO) (by decide)) (.slice (some ⟨g, 0, none⟩) (ni + 1) cap) (a := ⟨w.heap.size, 0, none⟩)) (.cells #[.int .i64 (-mk)] 2)) (unhide HN2) (by decide) hk e.symm)
  have hB8 := (unhide HB7).set 1 (.slice (some ⟨g2, 0, none⟩) (nn + 1) cap2)
  simp only [List.setIfInBounds_toArray, List.set_cons_succ, List.set_cons_zero] at hB8
  refine ⟨w.heap.size, .slice (some ⟨g, 0, none⟩) (ni + 1) cap, .slice (some ⟨g2, 0, none⟩) (nn + 1) cap2, rfl, Nat.le_refl _, ?_, ?_, ?_, ?_, ?_⟩
  · exact ⟨hB8, ownsRow_far hI7 (row_not_blk (unhide HB7) hI7 (by decide)) _, ownsRow_far (unhide HO7) (row_not_blk (unhide HB7) (unhide HO7) (by decide)) _, hmk, by omega⟩
  · intro k hk
    simp only [Value.ownBlock, Option.some.injEq] at hk
    rcases unhide HA with e | ⟨e, _⟩
    · left; rw [e, ← hk]; rfl
    · right; rw [← hk, e]; simp; omega
  · intro k hk
    simp only [Value.ownBlock, Option.some.injEq] at hk
    rcases unhide HA7 with e | ⟨e, _⟩
    · left; rw [e, ← hk]; rfl
    · right
      have hs5 := (unhide HG).size
      rw [← hk, e]; simp at hs5 ⊢; omega
  · refine Still.set (Still.grown (Still.alloc (Still.set (Still.grown (Still.alloc (Still.alloc (Still.refl w _) _) _) (unhide HG) ?_) ?_ _ _) _) (unhide HG7) ?_) ?_ _ _
    · exact fun k hk => Or.inl (Or.inl hk)
    · exact Or.inr (Nat.le_refl _)
    · exact fun k hk => Or.inl (Or.inr hk)
    · exact Or.inr (Nat.le_refl _)
  · intro q' vi' vn' ni' nn' h' h1 h2
    have hlt := h'.blk.lt
    have k1 := hold_keepI ((h'.alloc (.cells #[.slice none 0 0, .slice none 0 0, .int .i64 mk] 65)).alloc (.cells #[.int .i64 (-1), .int .i64 (-mk)] 34)) (unhide HI1) (unhide HO) (unhide HG) (unhide HA) h1
    have k2 := (k1.far (unhide HB5) (by omega) 0 (.slice (some ⟨g, 0, none⟩) (ni + 1) cap)).alloc (.cells #[.int .i64 (-mk)] 2)
    exact (hold_keepN k2 (unhide HN2) (unhide HO7) (unhide HG7) (unhide HA7) h2).far (unhide HB7) (by omega) _ _

end Go.Proofs.YtbcjfiaacenhgaaGreatDoor

