/- The reference's Reader: define, constant. -/
import Derived.Test.YtmeiikjpaepogaaGreatDoorK06
namespace Go.Proofs.YtmeiikjpaepogaaGreatDoor
open Go Go.RowKit

def constant3 (st : RS) : RS := if (numS (stepS st).token).isSome then stepS st else failS (stepS st) 3
def constantS (st : RS) (t : ByteArray) : RS := { constant3 st with names := (constant3 st).names ++ [(t, 0, numV (stepS st).token)] }

theorem below_grown_alloc' {B : Nat} {w w1 : World} {o : Obj} {row : Option Nat} (hB : B ≤ w.heap.size) (hr : ∀ k, row = some k → B ≤ k) (hg : (w.alloc o).grownBy w1 row) : Below B w w1 :=
  ((Below.refl B w).alloc hB o).grown hg (by have := Below.size ((Below.refl B w).alloc hB o); exact Nat.le_trans hB this) hr

set_option maxRecDepth 100000 in
set_option maxHeartbeats 1000000 in
theorem define_constant (B b : Nat) (st : RS) (w : World) (h : RdE B w b st) (hnx : st.next ≤ st.s.size) (ht : st.token = ⟨#[99, 111, 110, 115, 116, 97, 110, 116]⟩) (hst : st.start < 0) (hop : st.opens = []) (hok : (newNameS st).err = 0) (hnx1 : (newNameS st).next ≤ (newNameS st).s.size) (hh : (constant3 (newNameS st)).names.length < 4000) :
    Calls Tryz.prog 127 #[.pointer (some ⟨b, 0, none⟩)] w fun e w' => e = .returned (.tuple #[]) ∧ RdE B w' b (constantS (newNameS st) (stepS st).token) ∧ Below B w w' := by
  obtain ⟨i0, hi, hz0, hz1, hz2⟩ := info_parts Tryz.infoName
  have HN := V (newName_any B b st w h hnx)
  have hok' : ((newNameS st).err != 0) = false := by simpa using hok
  clear hok
  have HS : Hid (∀ (w1 : World) (v4 v5 v6 v7 v11 : Value), Rd B w1 b (newNameS st) v4 v5 v6 v7 v11 → Calls Tryz.prog 125 #[.pointer (some ⟨b, 0, none⟩)] w1 fun e w' => e = .returned (.tuple #[]) ∧ Rd B w' b (stepS (newNameS st)) v4 v5 v6 v7 v11 ∧ Below B w1 w') := fun w1 v4 v5 v6 v7 v11 h1 => step_rd B b _ v4 v5 v6 v7 v11 w1 h1 hnx1
  have hsz0 : (stepS (newNameS st)).token.size ≤ (newNameS st).s.size := stepS_token_size _
  have hs2 : (stepS (newNameS st)).s = (newNameS st).s := rfl
  unfold constantS constant3
  unfold constant3 at hh
  generalize stepS (newNameS st) = st2 at HS hh hsz0 hs2 ⊢
  generalize newNameS st = st1 at HN hok' HS hsz0 hs2 ⊢
  generalize (stepS st).token = tk at HN ⊢
  clear hnx1
  obtain ⟨v4, v5, v6, v7, v11, h⟩ := h
  obtain ⟨a7, k7, rfl⟩ := own_shape h.o7
  have hc := h.blk.cell
  have hf := h.blk.free
  unfold rdArr at hc
  rw [hop, ht] at hc
  cases hn : (numS st2.token).isSome
  all_goals
    rw [hn] at hh
    simp only [Bool.false_eq_true, if_false, if_true] at hh ⊢
    go_enter Tryz.func127, Tryz.ntmps127
    go_wp2_with fail
    refine (U HN).mono ?_
    rintro e w1 ⟨rfl, ⟨v4, v5, v6, v7, v11, h1⟩, hb1⟩
    clear HN hc hf h
    have hc := h1.blk.cell
    have hf := h1.blk.free
    unfold rdArr at hc
    go_wp2_with fail
    refine (U HS w1 v4 v5 v6 v7 v11 h1).mono ?_
    rintro e w2 ⟨rfl, h2, hb2⟩
    have hb3 := hb1.trans hb2
    have hsz : st2.token.size ≤ 2000 := Nat.le_trans hsz0 (by rw [← hs2]; exact h2.small.2.2.2.2.2)
    clear HS hc hf h1 hb1 hb2 hs2
    have hc := h2.blk.cell
    have hf := h2.blk.free
    unfold rdArr at hc
    go_wp2_with fail
    refine (number_any st2.token w2 hsz).mono ?_
    rintro e w3 ⟨rfl, hw⟩
    obtain rfl := hw.symm
    clear hw
    generalize hnv : numV st2.token = nv
    have HNV := V hnv
    clear hnv
  · have HF := V (fail_rd B b st2 v4 v5 v6 v7 v11 3 w2 h2)
    go_wp2_with fail
    refine (U HF).mono ?_
    rintro e w4 ⟨rfl, h4, hb4⟩
    have hbw := hb3.trans hb4
    clear HF hc hf
    have hlt := h4.blk.lt
    have HB := V h4.blk
    unfold rdArr at HB
    have hne := h4.ne 2 v6 rfl
    have HW := V (ownsRow_alloc h4.o6 (.cells #[.string tk, .int .i64 0, .int .i64 nv] 223))
    have hBs : B ≤ (w4.alloc (.cells #[.string tk, .int .i64 0, .int .i64 nv] 223)).heap.size := by
      have := h4.base
      simp; omega
    have HBs := V hBs
    clear hBs
    have hc4 := h4.blk.cell
    have hf4 := h4.blk.free
    unfold rdArr at hc4
    go_wp2_with (at_builtin; refine wpList_append_lies _ rfl (.tmp 146) (.tmp 151) 175 rfl B 223 i0 _ 3 32 Tryz.underlying175 hi hz0 hz1 hz2 rfl (by decide) v6 (failS st2 3).names.length (nameCells (failS st2 3).names) (by simp [Act.eval]) (U HW) ⟨w4.heap.size, 0, none⟩ 1 1 [.string tk, .int .i64 0, .int .i64 nv] (by simp [Act.eval]) rfl (World.news_of_block (Blk.new w4 _ _)) (oneCells3 _ _ _) (by omega) (by unfold maxLen; omega) (by omega) (U HBs) _ rfl ?_; intro g cap w5 hown hgrow hat hlt1; have hb5 := ((U HB).alloc _).grown hgrow hne; have hc5 := hb5.cell; have hf5 := hb5.free; have HO := V hown; have HG := V hgrow; have HA := V hat; clear hown hgrow hat hb5)
    go_end0
    rw [U HNV]
    refine ⟨rfl, ⟨_, _, _, _, _, h4.grow6 (x := (tk, 0, nv)) hh (grownBy_alloc' (U HG)) (U HO) (U HA) (by simp)⟩, ?_⟩
    exact hbw.trans ((below_grown_alloc' (by have := h4.base; omega) (fun k hk => (ownsRow_lt h4.o6 hk).2) (U HG)).setCell h4.base _)
  · have h4 := h2
    have hbw := hb3
    clear hc hf h2 hb3
    have hlt := h4.blk.lt
    have HB := V h4.blk
    unfold rdArr at HB
    have hne := h4.ne 2 v6 rfl
    have HW := V (ownsRow_alloc h4.o6 (.cells #[.string tk, .int .i64 0, .int .i64 nv] 223))
    have hBs : B ≤ (w2.alloc (.cells #[.string tk, .int .i64 0, .int .i64 nv] 223)).heap.size := by
      have := h4.base
      simp; omega
    have HBs := V hBs
    clear hBs
    have hc4 := h4.blk.cell
    have hf4 := h4.blk.free
    unfold rdArr at hc4
    go_wp2_with (at_builtin; refine wpList_append_lies _ rfl (.tmp 146) (.tmp 151) 175 rfl B 223 i0 _ 3 32 Tryz.underlying175 hi hz0 hz1 hz2 rfl (by decide) v6 st2.names.length (nameCells st2.names) (by simp [Act.eval]) (U HW) ⟨w2.heap.size, 0, none⟩ 1 1 [.string tk, .int .i64 0, .int .i64 nv] (by simp [Act.eval]) rfl (World.news_of_block (Blk.new w2 _ _)) (oneCells3 _ _ _) (by omega) (by unfold maxLen; omega) (by omega) (U HBs) _ rfl ?_; intro g cap w5 hown hgrow hat hlt1; have hb5 := ((U HB).alloc _).grown hgrow hne; have hc5 := hb5.cell; have hf5 := hb5.free; have HO := V hown; have HG := V hgrow; have HA := V hat; clear hown hgrow hat hb5)
    go_end0
    rw [U HNV]
    refine ⟨rfl, ⟨_, _, _, _, _, h4.grow6 (x := (tk, 0, nv)) hh (grownBy_alloc' (U HG)) (U HO) (U HA) (by simp)⟩, ?_⟩
    exact hbw.trans ((below_grown_alloc' (by have := h4.base; omega) (fun k hk => (ownsRow_lt h4.o6 hk).2) (U HG)).setCell h4.base _)
def variableS (st : RS) (t : ByteArray) : RS := { st with names := st.names ++ [(t, 0, st.cells)], cells := st.cells + 1 }

set_option maxRecDepth 100000 in
set_option maxHeartbeats 1000000 in
theorem define_variable (B b : Nat) (st : RS) (w : World) (h : RdE B w b st) (hnx : st.next ≤ st.s.size) (ht : st.token = ⟨#[118, 97, 114, 105, 97, 98, 108, 101]⟩) (hst : st.start < 0) (hop : st.opens = []) (hok : (newNameS st).err = 0) (hh : (newNameS st).names.length < 4000) (hce : 0 ≤ (newNameS st).cells ∧ (newNameS st).cells ≤ 4000) :
    Calls Tryz.prog 127 #[.pointer (some ⟨b, 0, none⟩)] w fun e w' => e = .returned (.tuple #[]) ∧ RdE B w' b (variableS (newNameS st) (stepS st).token) ∧ Below B w w' := by
  obtain ⟨i0, hi, hz0, hz1, hz2⟩ := info_parts Tryz.infoName
  have HN := V (newName_any B b st w h hnx)
  have hok' : ((newNameS st).err != 0) = false := by simpa using hok
  clear hok
  generalize newNameS st = st1 at HN hok' hh hce ⊢
  generalize (stepS st).token = tk at HN ⊢
  obtain ⟨hc0, hc4⟩ := hce
  obtain ⟨v4, v5, v6, v7, v11, h⟩ := h
  obtain ⟨a7, k7, rfl⟩ := own_shape h.o7
  have hc := h.blk.cell
  have hf := h.blk.free
  unfold rdArr at hc
  rw [hop, ht] at hc
  go_enter Tryz.func127, Tryz.ntmps127
  go_wp2_with fail
  refine (U HN).mono ?_
  rintro e w1 ⟨rfl, ⟨v4, v5, v6, v7, v11, h1⟩, hb1⟩
  clear HN hc hf h
  have hlt := h1.blk.lt
  have hc := h1.blk.cell
  have hf := h1.blk.free
  unfold rdArr at hc
  have HB := V h1.blk
  unfold rdArr at HB
  have hne := h1.ne 2 v6 rfl
  have HW := V (ownsRow_alloc h1.o6 (.cells #[.string tk, .int .i64 0, .int .i64 st1.cells] 223))
  have hBs : B ≤ (w1.alloc (.cells #[.string tk, .int .i64 0, .int .i64 st1.cells] 223)).drew.heap.size := by
    have := h1.base
    show B ≤ (w1.alloc _).heap.size
    simp; omega
  have HBs := V hBs
  clear hBs
  go_wp2_with fail
  go_region_law (refine step_append_lies _ rfl (.tmp 107) (.tmp 115) 175 rfl B 223 i0 _ 3 32 Tryz.underlying175 hi hz0 hz1 hz2 rfl (by decide) v6 st1.names.length (nameCells st1.names) (by simp [Act.eval]) (U HW) ⟨w1.heap.size, 0, none⟩ 1 1 [.string tk, .int .i64 0, .int .i64 st1.cells] (by simp [Act.eval]) rfl (World.news_of_block (Blk.new w1 _ _)) (oneCells3 _ _ _) (by omega) (by unfold maxLen; omega) (by omega) (U HBs) _ rfl ?_; intro g cap w2 hown hgrow hat hlt1; have hb1 := ((U HB).alloc _).drew.grown hgrow hne; have hc1 := hb1.cell; have hf1 := hb1.free; have HO := V hown; have HG := V hgrow; have HA := V hat; clear hown hgrow hat hb1)
  all_goals
    go_wp2
    go_end0
    refine ⟨rfl, ⟨_, _, _, _, _, (h1.grow6 (x := (tk, 0, st1.cells)) hh (grownBy_alloc (U HG)) (U HO) (U HA) (by simp)).celled (st1.cells + 1)⟩, ?_⟩
    exact hb1.trans (((below_grown_alloc (by have := h1.base; omega) (fun k hk => (ownsRow_lt h1.o6 hk).2) (U HG)).setCell h1.base _).setCell h1.base _)
theorem last_any (B b : Nat) (st : RS) (v4 v5 v6 v7 v11 : Value) (w : World) (h : Rd B w b st v4 v5 v6 v7 v11) :
    Calls Tryz.prog 175 #[.pointer (some ⟨b, 0, none⟩)] w fun e w' => e = .returned (.string (lastS st)) ∧ ∃ n, w' = w.drewN n := by
  unfold lastS
  rcases List.eq_nil_or_concat st.opens with e | ⟨l, x, e⟩
  · rw [e]; exact last_none B b st v4 v5 v6 v7 v11 w h e
  · rw [List.concat_eq_append] at e
    rw [e]
    simp only [List.getLast?_concat]
    exact last_some B b st v4 v5 v6 v7 v11 w h l x e

def openS (st : RS) (x : ByteArray × Int × Int) : RS := { st with opens := st.opens ++ [x] }

set_option maxRecDepth 100000 in
set_option maxHeartbeats 1000000 in
theorem control_if (B b : Nat) (st : RS) (w : World) (h : RdE B w b st) (ht : st.token = ⟨#[105, 102]⟩) (hlen : st.c0.length < 4000 ∧ st.c1.length < 4000) (hop : (putS st 2 0).opens.length < 4000) :
    Calls Tryz.prog 128 #[.pointer (some ⟨b, 0, none⟩)] w fun e w' => e = .returned (.tuple #[]) ∧ RdE B w' b (openS (putS st 2 0) (⟨#[105, 102]⟩, 0, hereS st)) ∧ Below B w w' := by
  obtain ⟨i0, hi, hz0, hz1, hz2⟩ := info_parts Tryz.infoOpen
  obtain ⟨v4, v5, v6, v7, v11, h⟩ := h
  have HL := V (last_any B b st v4 v5 v6 v7 v11 w h)
  have HP : Hid (∀ n, Calls Tryz.prog 172 #[.pointer (some ⟨b, 0, none⟩), .int .i64 2, .int .i64 0] (w.drewN n) fun e w' => e = .returned (.int .i64 (hereS st)) ∧ RdE B w' b (putS st 2 0) ∧ Below B (w.drewN n) w') := fun n => put_any B b st 2 0 (w.drewN n) ⟨_, _, _, _, _, h.drewN n⟩ hlen
  generalize putS st 2 0 = st1 at HP hop ⊢
  generalize hereS st = hr at HP ⊢
  generalize lastS st = ls at HL
  have hc := h.blk.cell
  have hf := h.blk.free
  unfold rdArr at hc
  rw [ht] at hc
  go_enter Tryz.func128, Tryz.ntmps128
  go_wp2_with fail
  refine (U HL).mono ?_
  rintro e w1 ⟨rfl, n, rfl⟩
  go_wp2_with fail
  refine (U HP n).mono ?_
  rintro e w1 ⟨rfl, ⟨v4, v5, v6, v7, v11, h1⟩, hb1⟩
  clear HL HP hc hf h
  have hlt := h1.blk.lt
  have HB := V h1.blk
  unfold rdArr at HB
  have hne := h1.ne 3 v7 rfl
  have HW := V (ownsRow_alloc h1.o7 (.cells #[.string ⟨#[105, 102]⟩, .int .i64 0, .int .i64 hr] 225))
  have hBs : B ≤ (w1.alloc (.cells #[.string ⟨#[105, 102]⟩, .int .i64 0, .int .i64 hr] 225)).heap.size := by
    have := h1.base
    simp; omega
  have HBs := V hBs
  clear hBs
  have hc := h1.blk.cell
  have hf := h1.blk.free
  unfold rdArr at hc
  go_wp2_with (at_builtin; refine wpList_append_lies _ rfl (.tmp 27) (.tmp 30) 176 rfl B 225 i0 _ 3 32 Tryz.underlying176 hi hz0 hz1 hz2 rfl (by decide) v7 st1.opens.length (nameCells st1.opens) (by simp [Act.eval]) (U HW) ⟨w1.heap.size, 0, none⟩ 1 1 [.string ⟨#[105, 102]⟩, .int .i64 0, .int .i64 hr] (by simp [Act.eval]) rfl (World.news_of_block (Blk.new w1 _ _)) (oneCells3 _ _ _) (by omega) (by unfold maxLen; omega) (by omega) (U HBs) _ rfl ?_; intro g cap w5 hown hgrow hat hlt1; have hb5 := ((U HB).alloc _).grown hgrow hne; have hc5 := hb5.cell; have hf5 := hb5.free; have HO := V hown; have HG := V hgrow; have HA := V hat; clear hown hgrow hat hb5)
  refine bodyPost_ret (results_none rfl _ _ _) rfl ?_
  refine ⟨rfl, ⟨_, _, _, _, _, h1.grow7 (x := (⟨#[105, 102]⟩, 0, (hr : Int))) hop (grownBy_alloc' (U HG)) (U HO) (U HA) (by simp)⟩, ?_⟩
  exact (below_drawn (Below.refl B w) n).trans (hb1.trans ((below_grown_alloc' (by have := h1.base; omega) (fun k hk => (ownsRow_lt h1.o7 hk).2) (U HG)).setCell h1.base _))
end Go.Proofs.YtmeiikjpaepogaaGreatDoor
