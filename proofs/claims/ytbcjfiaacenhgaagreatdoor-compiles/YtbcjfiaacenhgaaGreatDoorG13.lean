/- The reference's Reader: control: do, begin, refusals. -/
import Derived.Test.YtbcjfiaacenhgaaGreatDoorG11
namespace Go.Proofs.YtbcjfiaacenhgaaGreatDoor
open Go Go.RowKit

set_option maxRecDepth 100000 in
set_option maxHeartbeats 1000000 in
theorem control_do (B b : Nat) (st : RS) (w : World) (h : RdE B w b st) (ht : st.token = ⟨#[100, 111]⟩) (hlen : st.c0.length < 4000 ∧ st.c1.length < 4000) (hop : (putS st 6 0).opens.length < 4000) :
    Calls Tryz.prog 30 #[.pointer (some ⟨b, 0, none⟩)] w fun e w' => e = .returned (.tuple #[]) ∧ RdE B w' b (openS (putS st 6 0) (⟨#[100, 111]⟩, (hereS st : Int) + 1, 0)) ∧ Below B w w' := by
  obtain ⟨i0, hi, hz0, hz1, hz2⟩ := info_parts Tryz.infoOpen
  obtain ⟨v4, v5, v6, v7, v11, h⟩ := h
  have HL := hide (last_any B b st v4 v5 v6 v7 v11 w h)
  have HP : Hid (∀ n, Calls Tryz.prog 50 #[.pointer (some ⟨b, 0, none⟩), .int .i64 6, .int .i64 0] (w.drewN n) fun e w' => e = .returned (.int .i64 (hereS st)) ∧ RdE B w' b (putS st 6 0) ∧ Below B (w.drewN n) w') := fun n => put_any B b st 6 0 (w.drewN n) ⟨_, _, _, _, _, h.drewN n⟩ hlen
  have hhr : (hereS st : Int) ≤ 4000 := by unfold hereS; split <;> omega
  generalize putS st 6 0 = st1 at HP hop ⊢
  generalize hereS st = hr at HP hhr ⊢
  generalize lastS st = ls at HL
  have hc := h.blk.cell
  have hf := h.blk.free
  unfold rdArr at hc
  rw [ht] at hc
  go_enter Tryz.func30, Tryz.ntmps30
  go_wp2_with fail
  refine (unhide HL).mono ?_
  rintro e w1 ⟨rfl, n, rfl⟩
  go_wp2_with fail
  refine (unhide HP n).mono ?_
  rintro e w1 ⟨rfl, ⟨v4, v5, v6, v7, v11, h1⟩, hb1⟩
  clear HL HP hc hf h
  have hlt := h1.blk.lt
  have HB := hide h1.blk
  unfold rdArr at HB
  have hne := h1.ne 3 v7 rfl
  have HW := hide (ownsRow_alloc h1.o7 (.cells #[.string ⟨#[100, 111]⟩, .int .i64 ((hr : Int) + 1), .int .i64 0] 125))
  have hBs : B ≤ (w1.alloc (.cells #[.string ⟨#[100, 111]⟩, .int .i64 ((hr : Int) + 1), .int .i64 0] 125)).heap.size := by
    have := h1.base
    simp; omega
  have HBs := hide hBs
  clear hBs
  have hc := h1.blk.cell
  have hf := h1.blk.free
  unfold rdArr at hc
  go_wp2_with (at_builtin; refine wpList_append_lies _ rfl (.tmp 56) (.tmp 60) 85 rfl B 125 i0 _ 3 32 Tryz.underlying85 hi hz0 hz1 hz2 rfl (by decide) v7 st1.opens.length (nameCells st1.opens) (by simp [Act.eval]) (unhide HW) ⟨w1.heap.size, 0, none⟩ 1 1 [.string ⟨#[100, 111]⟩, .int .i64 ((hr : Int) + 1), .int .i64 0] (by simp [Act.eval]) rfl (World.news_of_block (Blk.new w1 _ _)) (oneCells3 _ _ _) (by omega) (by unfold maxLen; omega) (by omega) (unhide HBs) _ rfl ?_; intro g cap w5 hown hgrow hat hlt1; have hb5 := ((unhide HB).alloc _).grown hgrow hne; have hc5 := hb5.cell; have hf5 := hb5.free; have HO := hide hown; have HG := hide hgrow; have HA := hide hat; clear hown hgrow hat hb5)
  refine bodyPost_ret (results_none rfl _ _ _) rfl ?_
  refine ⟨rfl, ⟨_, _, _, _, _, h1.grow7 (x := (⟨#[100, 111]⟩, (hr : Int) + 1, 0)) hop (grownBy_alloc' (unhide HG)) (unhide HO) (unhide HA) (by simp)⟩, ?_⟩
  exact (below_drawn (Below.refl B w) n).trans (hb1.trans ((below_grown_alloc' (by have := h1.base; omega) (fun k hk => (ownsRow_lt h1.o7 hk).2) (unhide HG)).setCell h1.base _))

theorem Tryz.name54 : (Tryz.f54.name == "runtime.NumGoroutine") = false := by kernel_rfl
theorem Tryz.body54 : Tryz.f54.body.isNone = false := by kernel_rfl

theorem drewN_drewN (w : World) (a b : Nat) : (w.drewN a).drewN b = w.drewN (a + b) := by simp [World.drewN, Nat.add_assoc]
theorem drewN_alloc (w : World) (a : Nat) (o : Obj) : (w.drewN a).alloc o = (w.alloc o).drewN a := rfl

set_option maxRecDepth 100000 in
set_option maxHeartbeats 1000000 in
theorem control_begin (B b : Nat) (st : RS) (w : World) (h : RdE B w b st) (ht : st.token = ⟨#[98, 101, 103, 105, 110]⟩) (hop : st.opens.length < 4000) :
    Calls Tryz.prog 30 #[.pointer (some ⟨b, 0, none⟩)] w fun e w' => e = .returned (.tuple #[]) ∧ RdE B w' b (openS st (⟨#[98, 101, 103, 105, 110]⟩, hereS st, 0)) ∧ Below B w w' := by
  obtain ⟨i0, hi, hz0, hz1, hz2⟩ := info_parts Tryz.infoOpen
  obtain ⟨v4, v5, v6, v7, v11, h⟩ := h
  have HL := hide (last_any B b st v4 v5 v6 v7 v11 w h)
  have HH : Hid (∀ n, Calls Tryz.prog 54 #[.pointer (some ⟨b, 0, none⟩)] (w.drewN n) fun e w' => e = .returned (.int .i64 (hereS st)) ∧ ∃ m, w' = w.drewN m) := by
    intro n
    refine (here_any B b st v4 v5 v6 v7 v11 (w.drewN n) (h.drewN n)).mono ?_
    rintro e w' ⟨rfl, m, rfl⟩
    exact ⟨rfl, n + m, by rw [drewN_drewN]⟩
  have HH' : Hid (∀ n, Calls Tryz.prog 54 #[.pointer (some ⟨b, 0, none⟩)] (w.drewN n).drew fun e w' => e = .returned (.int .i64 (hereS st)) ∧ ∃ m, w' = w.drewN m) := fun n => unhide HH (n + 1)
  generalize hereS st = hr at HH HH' ⊢
  generalize lastS st = ls at HL
  have hc := h.blk.cell
  have hf := h.blk.free
  unfold rdArr at hc
  rw [ht] at hc
  have hlt := h.blk.lt
  have HB := hide h.blk
  unfold rdArr at HB
  rw [ht] at HB
  have hc2 := fun (m : Nat) (o : Obj) => (((unhide HB).drewN m).alloc o).cell
  have hne := h.ne 3 v7 rfl
  have HW : Hid (∀ n, (((w.drewN n).alloc (.cells #[.string ⟨#[98, 101, 103, 105, 110]⟩, .int .i64 hr, .int .i64 0] 125))).ownsRow B 125 3 v7 st.opens.length (nameCells st.opens)) := fun n => ownsRow_alloc (h.drewN n).o7 _
  have HBs : Hid (∀ n, B ≤ ((w.drewN n).alloc (.cells #[.string ⟨#[98, 101, 103, 105, 110]⟩, .int .i64 hr, .int .i64 0] 125)).heap.size) := by
    intro n
    have := h.base
    simp; omega
  go_enter Tryz.func30, Tryz.ntmps30
  go_wp2_with fail
  refine (unhide HL).mono ?_
  rintro e w1 ⟨rfl, n, rfl⟩
  go_wp2_with fail
  go_region_law (first | (refine step_call rfl 54 #[.tmp 41] #[82] rfl Tryz.func54 Tryz.name54 Tryz.body54 #[.pointer (some ⟨b, 0, none⟩)] (by first | (simp [Act.eval]; done) | (simp [Act.eval, Act.put]; done) | rfl) (unhide HH _) ?_; rintro e w1 ⟨rfl, m, rfl⟩; refine ⟨_, rfl, ?_⟩) | (refine step_call rfl 54 #[.tmp 41] #[82] rfl Tryz.func54 Tryz.name54 Tryz.body54 #[.pointer (some ⟨b, 0, none⟩)] (by first | (simp [Act.eval]; done) | (simp [Act.eval, Act.put]; done) | rfl) (unhide HH' _) ?_; rintro e w1 ⟨rfl, m, rfl⟩; refine ⟨_, rfl, ?_⟩) | (refine step_append_lies _ rfl (.tmp 40) (.tmp 44) 85 rfl B 125 i0 _ 3 32 Tryz.underlying85 hi hz0 hz1 hz2 rfl (by decide) v7 st.opens.length (nameCells st.opens) (by simp [Act.eval]) (unhide HW _) ⟨w.heap.size, 0, none⟩ 1 1 [.string ⟨#[98, 101, 103, 105, 110]⟩, .int .i64 hr, .int .i64 0] (by simp [Act.eval]) rfl (World.news_of_block (Blk.new w _ _)) (oneCells3 _ _ _) (by omega) (by unfold maxLen; omega) (by omega) (unhide HBs _) _ rfl ?_; intro g cap w2 hown hgrow hat hlt1; have hb1 := (((unhide HB).drewN _).alloc _).grown hgrow hne; have hc1 := hb1.cell; have hf1 := hb1.free; have HO := hide hown; have HG := hide hgrow; have HA := hide hat; clear hown hgrow hat hb1))
  all_goals
    go_wp2
    refine bodyPost_ret (results_none rfl _ _ _) rfl ?_
    refine ⟨rfl, ⟨_, _, _, _, _, (h.drewN _).grow7 (x := (⟨#[98, 101, 103, 105, 110]⟩, (hr : Int), 0)) hop (grownBy_alloc' (unhide HG)) (unhide HO) (unhide HA) (by simp)⟩, ?_⟩
    exact (below_drawn (Below.refl B w) _).trans ((below_grown_alloc' (by have := h.base; show B ≤ w.heap.size; omega) (fun k hk => (ownsRow_lt h.o7 hk).2) (unhide HG)).setCell h.base _)

end Go.Proofs.YtbcjfiaacenhgaaGreatDoor

/- The reference's Reader: control, what is refused. -/
namespace Go.Proofs.YtbcjfiaacenhgaaGreatDoor
open Go Go.RowKit

set_option maxRecDepth 100000 in
set_option maxHeartbeats 1000000 in
theorem control_else_no (B b : Nat) (st : RS) (w : World) (h : RdE B w b st) (ht : st.token = ⟨#[101, 108, 115, 101]⟩) (h0 : ((lastS st).toList == [105, 102]) = false) :
    Calls Tryz.prog 30 #[.pointer (some ⟨b, 0, none⟩)] w fun e w' => e = .returned (.tuple #[]) ∧ RdE B w' b (failS st 4) ∧ Below B w w' := by
  obtain ⟨v4, v5, v6, v7, v11, h⟩ := h
  have HL := hide (last_any B b st v4 v5 v6 v7 v11 w h)
  have HF : Hid (∀ n, Calls Tryz.prog 32 #[.pointer (some ⟨b, 0, none⟩), .int .i64 4] (w.drewN n) fun e w' => e = .returned (.tuple #[]) ∧ Rd B w' b (failS st 4) v4 v5 v6 v7 v11 ∧ Below B (w.drewN n) w') := fun n => fail_rd B b st v4 v5 v6 v7 v11 4 (w.drewN n) (h.drewN n)
  generalize failS st 4 = st1 at HF ⊢
  generalize lastS st = ls at HL h0
  have hc := h.blk.cell
  have hf := h.blk.free
  unfold rdArr at hc
  rw [ht] at hc
  go_enter Tryz.func30, Tryz.ntmps30
  go_wp2_with fail
  refine (unhide HL).mono ?_
  rintro e w1 ⟨rfl, n, rfl⟩
  go_wp2_with fail
  refine (unhide HF n).mono ?_
  rintro e w1 ⟨rfl, h1, hb1⟩
  go_wp2_with fail
  go_end0
  exact ⟨rfl, ⟨_, _, _, _, _, h1⟩, (below_drawn (Below.refl B w) n).trans hb1⟩

set_option maxRecDepth 100000 in
set_option maxHeartbeats 1000000 in
theorem control_then_no (B b : Nat) (st : RS) (w : World) (h : RdE B w b st) (ht : st.token = ⟨#[116, 104, 101, 110]⟩) (h0 : ((lastS st).toList == [105, 102]) = false) (h1 : ((lastS st).toList == [101, 108, 115, 101]) = false) :
    Calls Tryz.prog 30 #[.pointer (some ⟨b, 0, none⟩)] w fun e w' => e = .returned (.tuple #[]) ∧ RdE B w' b (failS st 4) ∧ Below B w w' := by
  obtain ⟨v4, v5, v6, v7, v11, h⟩ := h
  have HL := hide (last_any B b st v4 v5 v6 v7 v11 w h)
  have HF : Hid (∀ n, Calls Tryz.prog 32 #[.pointer (some ⟨b, 0, none⟩), .int .i64 4] (w.drewN n) fun e w' => e = .returned (.tuple #[]) ∧ Rd B w' b (failS st 4) v4 v5 v6 v7 v11 ∧ Below B (w.drewN n) w') := fun n => fail_rd B b st v4 v5 v6 v7 v11 4 (w.drewN n) (h.drewN n)
  generalize failS st 4 = st1 at HF ⊢
  generalize lastS st = ls at HL h0 h1
  have hc := h.blk.cell
  have hf := h.blk.free
  unfold rdArr at hc
  rw [ht] at hc
  go_enter Tryz.func30, Tryz.ntmps30
  go_wp2_with fail
  refine (unhide HL).mono ?_
  rintro e w1 ⟨rfl, n, rfl⟩
  go_wp2_with fail
  refine (unhide HF n).mono ?_
  rintro e w1 ⟨rfl, h1, hb1⟩
  go_wp2_with fail
  go_end0
  exact ⟨rfl, ⟨_, _, _, _, _, h1⟩, (below_drawn (Below.refl B w) n).trans hb1⟩

set_option maxRecDepth 100000 in
set_option maxHeartbeats 1000000 in
theorem control_until_no (B b : Nat) (st : RS) (w : World) (h : RdE B w b st) (ht : st.token = ⟨#[117, 110, 116, 105, 108]⟩) (h0 : ((lastS st).toList == [98, 101, 103, 105, 110]) = false) :
    Calls Tryz.prog 30 #[.pointer (some ⟨b, 0, none⟩)] w fun e w' => e = .returned (.tuple #[]) ∧ RdE B w' b (failS st 4) ∧ Below B w w' := by
  obtain ⟨v4, v5, v6, v7, v11, h⟩ := h
  have HL := hide (last_any B b st v4 v5 v6 v7 v11 w h)
  have HF : Hid (∀ n, Calls Tryz.prog 32 #[.pointer (some ⟨b, 0, none⟩), .int .i64 4] (w.drewN n) fun e w' => e = .returned (.tuple #[]) ∧ Rd B w' b (failS st 4) v4 v5 v6 v7 v11 ∧ Below B (w.drewN n) w') := fun n => fail_rd B b st v4 v5 v6 v7 v11 4 (w.drewN n) (h.drewN n)
  generalize failS st 4 = st1 at HF ⊢
  generalize lastS st = ls at HL h0
  have hc := h.blk.cell
  have hf := h.blk.free
  unfold rdArr at hc
  rw [ht] at hc
  go_enter Tryz.func30, Tryz.ntmps30
  go_wp2_with fail
  refine (unhide HL).mono ?_
  rintro e w1 ⟨rfl, n, rfl⟩
  go_wp2_with fail
  refine (unhide HF n).mono ?_
  rintro e w1 ⟨rfl, h1, hb1⟩
  go_wp2_with fail
  go_end0
  exact ⟨rfl, ⟨_, _, _, _, _, h1⟩, (below_drawn (Below.refl B w) n).trans hb1⟩

set_option maxRecDepth 100000 in
set_option maxHeartbeats 1000000 in
theorem control_while_no (B b : Nat) (st : RS) (w : World) (h : RdE B w b st) (ht : st.token = ⟨#[119, 104, 105, 108, 101]⟩) (h0 : ((lastS st).toList == [98, 101, 103, 105, 110]) = false) :
    Calls Tryz.prog 30 #[.pointer (some ⟨b, 0, none⟩)] w fun e w' => e = .returned (.tuple #[]) ∧ RdE B w' b (failS st 4) ∧ Below B w w' := by
  obtain ⟨v4, v5, v6, v7, v11, h⟩ := h
  have HL := hide (last_any B b st v4 v5 v6 v7 v11 w h)
  have HF : Hid (∀ n, Calls Tryz.prog 32 #[.pointer (some ⟨b, 0, none⟩), .int .i64 4] (w.drewN n) fun e w' => e = .returned (.tuple #[]) ∧ Rd B w' b (failS st 4) v4 v5 v6 v7 v11 ∧ Below B (w.drewN n) w') := fun n => fail_rd B b st v4 v5 v6 v7 v11 4 (w.drewN n) (h.drewN n)
  generalize failS st 4 = st1 at HF ⊢
  generalize lastS st = ls at HL h0
  have hc := h.blk.cell
  have hf := h.blk.free
  unfold rdArr at hc
  rw [ht] at hc
  go_enter Tryz.func30, Tryz.ntmps30
  go_wp2_with fail
  refine (unhide HL).mono ?_
  rintro e w1 ⟨rfl, n, rfl⟩
  go_wp2_with fail
  refine (unhide HF n).mono ?_
  rintro e w1 ⟨rfl, h1, hb1⟩
  go_wp2_with fail
  go_end0
  exact ⟨rfl, ⟨_, _, _, _, _, h1⟩, (below_drawn (Below.refl B w) n).trans hb1⟩

set_option maxRecDepth 100000 in
set_option maxHeartbeats 1000000 in
theorem control_repeat_no (B b : Nat) (st : RS) (w : World) (h : RdE B w b st) (ht : st.token = ⟨#[114, 101, 112, 101, 97, 116]⟩) (h0 : ((lastS st).toList == [119, 104, 105, 108, 101]) = false) :
    Calls Tryz.prog 30 #[.pointer (some ⟨b, 0, none⟩)] w fun e w' => e = .returned (.tuple #[]) ∧ RdE B w' b (failS st 4) ∧ Below B w w' := by
  obtain ⟨v4, v5, v6, v7, v11, h⟩ := h
  have HL := hide (last_any B b st v4 v5 v6 v7 v11 w h)
  have HF : Hid (∀ n, Calls Tryz.prog 32 #[.pointer (some ⟨b, 0, none⟩), .int .i64 4] (w.drewN n) fun e w' => e = .returned (.tuple #[]) ∧ Rd B w' b (failS st 4) v4 v5 v6 v7 v11 ∧ Below B (w.drewN n) w') := fun n => fail_rd B b st v4 v5 v6 v7 v11 4 (w.drewN n) (h.drewN n)
  generalize failS st 4 = st1 at HF ⊢
  generalize lastS st = ls at HL h0
  have hc := h.blk.cell
  have hf := h.blk.free
  unfold rdArr at hc
  rw [ht] at hc
  go_enter Tryz.func30, Tryz.ntmps30
  go_wp2_with fail
  refine (unhide HL).mono ?_
  rintro e w1 ⟨rfl, n, rfl⟩
  go_wp2_with fail
  refine (unhide HF n).mono ?_
  rintro e w1 ⟨rfl, h1, hb1⟩
  go_wp2_with fail
  go_end0
  exact ⟨rfl, ⟨_, _, _, _, _, h1⟩, (below_drawn (Below.refl B w) n).trans hb1⟩

set_option maxRecDepth 100000 in
set_option maxHeartbeats 1000000 in
theorem control_loop_no (B b : Nat) (st : RS) (w : World) (h : RdE B w b st) (ht : st.token = ⟨#[108, 111, 111, 112]⟩) (h0 : ((lastS st).toList == [100, 111]) = false) :
    Calls Tryz.prog 30 #[.pointer (some ⟨b, 0, none⟩)] w fun e w' => e = .returned (.tuple #[]) ∧ RdE B w' b (failS st 4) ∧ Below B w w' := by
  obtain ⟨v4, v5, v6, v7, v11, h⟩ := h
  have HL := hide (last_any B b st v4 v5 v6 v7 v11 w h)
  have HF : Hid (∀ n, Calls Tryz.prog 32 #[.pointer (some ⟨b, 0, none⟩), .int .i64 4] (w.drewN n) fun e w' => e = .returned (.tuple #[]) ∧ Rd B w' b (failS st 4) v4 v5 v6 v7 v11 ∧ Below B (w.drewN n) w') := fun n => fail_rd B b st v4 v5 v6 v7 v11 4 (w.drewN n) (h.drewN n)
  generalize failS st 4 = st1 at HF ⊢
  generalize lastS st = ls at HL h0
  have hc := h.blk.cell
  have hf := h.blk.free
  unfold rdArr at hc
  rw [ht] at hc
  go_enter Tryz.func30, Tryz.ntmps30
  go_wp2_with fail
  refine (unhide HL).mono ?_
  rintro e w1 ⟨rfl, n, rfl⟩
  go_wp2_with fail
  refine (unhide HF n).mono ?_
  rintro e w1 ⟨rfl, h1, hb1⟩
  go_wp2_with fail
  go_end0
  exact ⟨rfl, ⟨_, _, _, _, _, h1⟩, (below_drawn (Below.refl B w) n).trans hb1⟩

end Go.Proofs.YtbcjfiaacenhgaaGreatDoor

