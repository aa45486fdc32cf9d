/- The reference's Reader: control, what is refused. -/
import Derived.Test.YtmeiikjpaepogaaGreatDoorK07
import Derived.Test.YtmeiikjpaepogaaGreatDoorK09
namespace Go.Proofs.YtmeiikjpaepogaaGreatDoor
open Go Go.RowKit

set_option maxRecDepth 100000 in
set_option maxHeartbeats 1000000 in
theorem control_else_no (B b : Nat) (st : RS) (w : World) (h : RdE B w b st) (ht : st.token = ⟨#[101, 108, 115, 101]⟩) (h0 : ((lastS st).toList == [105, 102]) = false) :
    Calls Tryz.prog 128 #[.pointer (some ⟨b, 0, none⟩)] w fun e w' => e = .returned (.tuple #[]) ∧ RdE B w' b (failS st 4) ∧ Below B w w' := by
  obtain ⟨v4, v5, v6, v7, v11, h⟩ := h
  have HL := V (last_any B b st v4 v5 v6 v7 v11 w h)
  have HF : Hid (∀ n, Calls Tryz.prog 130 #[.pointer (some ⟨b, 0, none⟩), .int .i64 4] (w.drewN n) fun e w' => e = .returned (.tuple #[]) ∧ Rd B w' b (failS st 4) v4 v5 v6 v7 v11 ∧ Below B (w.drewN n) w') := fun n => fail_rd B b st v4 v5 v6 v7 v11 4 (w.drewN n) (h.drewN n)
  generalize failS st 4 = st1 at HF ⊢
  generalize lastS st = ls at HL h0
  have hc := h.blk.cell
  have hf := h.blk.free
  unfold rdArr at hc
  rw [ht] at hc
  go_enter Tryz.func128, Tryz.ntmps128
  go_wp2_with fail
  refine (U HL).mono ?_
  rintro e w1 ⟨rfl, n, rfl⟩
  go_wp2_with fail
  refine (U HF n).mono ?_
  rintro e w1 ⟨rfl, h1, hb1⟩
  go_wp2_with fail
  go_end0
  exact ⟨rfl, ⟨_, _, _, _, _, h1⟩, (below_drawn (Below.refl B w) n).trans hb1⟩

set_option maxRecDepth 100000 in
set_option maxHeartbeats 1000000 in
theorem control_then_no (B b : Nat) (st : RS) (w : World) (h : RdE B w b st) (ht : st.token = ⟨#[116, 104, 101, 110]⟩) (h0 : ((lastS st).toList == [105, 102]) = false) (h1 : ((lastS st).toList == [101, 108, 115, 101]) = false) :
    Calls Tryz.prog 128 #[.pointer (some ⟨b, 0, none⟩)] w fun e w' => e = .returned (.tuple #[]) ∧ RdE B w' b (failS st 4) ∧ Below B w w' := by
  obtain ⟨v4, v5, v6, v7, v11, h⟩ := h
  have HL := V (last_any B b st v4 v5 v6 v7 v11 w h)
  have HF : Hid (∀ n, Calls Tryz.prog 130 #[.pointer (some ⟨b, 0, none⟩), .int .i64 4] (w.drewN n) fun e w' => e = .returned (.tuple #[]) ∧ Rd B w' b (failS st 4) v4 v5 v6 v7 v11 ∧ Below B (w.drewN n) w') := fun n => fail_rd B b st v4 v5 v6 v7 v11 4 (w.drewN n) (h.drewN n)
  generalize failS st 4 = st1 at HF ⊢
  generalize lastS st = ls at HL h0 h1
  have hc := h.blk.cell
  have hf := h.blk.free
  unfold rdArr at hc
  rw [ht] at hc
  go_enter Tryz.func128, Tryz.ntmps128
  go_wp2_with fail
  refine (U HL).mono ?_
  rintro e w1 ⟨rfl, n, rfl⟩
  go_wp2_with fail
  refine (U HF n).mono ?_
  rintro e w1 ⟨rfl, h1, hb1⟩
  go_wp2_with fail
  go_end0
  exact ⟨rfl, ⟨_, _, _, _, _, h1⟩, (below_drawn (Below.refl B w) n).trans hb1⟩

set_option maxRecDepth 100000 in
set_option maxHeartbeats 1000000 in
theorem control_until_no (B b : Nat) (st : RS) (w : World) (h : RdE B w b st) (ht : st.token = ⟨#[117, 110, 116, 105, 108]⟩) (h0 : ((lastS st).toList == [98, 101, 103, 105, 110]) = false) :
    Calls Tryz.prog 128 #[.pointer (some ⟨b, 0, none⟩)] w fun e w' => e = .returned (.tuple #[]) ∧ RdE B w' b (failS st 4) ∧ Below B w w' := by
  obtain ⟨v4, v5, v6, v7, v11, h⟩ := h
  have HL := V (last_any B b st v4 v5 v6 v7 v11 w h)
  have HF : Hid (∀ n, Calls Tryz.prog 130 #[.pointer (some ⟨b, 0, none⟩), .int .i64 4] (w.drewN n) fun e w' => e = .returned (.tuple #[]) ∧ Rd B w' b (failS st 4) v4 v5 v6 v7 v11 ∧ Below B (w.drewN n) w') := fun n => fail_rd B b st v4 v5 v6 v7 v11 4 (w.drewN n) (h.drewN n)
  generalize failS st 4 = st1 at HF ⊢
  generalize lastS st = ls at HL h0
  have hc := h.blk.cell
  have hf := h.blk.free
  unfold rdArr at hc
  rw [ht] at hc
  go_enter Tryz.func128, Tryz.ntmps128
  go_wp2_with fail
  refine (U HL).mono ?_
  rintro e w1 ⟨rfl, n, rfl⟩
  go_wp2_with fail
  refine (U HF n).mono ?_
  rintro e w1 ⟨rfl, h1, hb1⟩
  go_wp2_with fail
  go_end0
  exact ⟨rfl, ⟨_, _, _, _, _, h1⟩, (below_drawn (Below.refl B w) n).trans hb1⟩

set_option maxRecDepth 100000 in
set_option maxHeartbeats 1000000 in
theorem control_while_no (B b : Nat) (st : RS) (w : World) (h : RdE B w b st) (ht : st.token = ⟨#[119, 104, 105, 108, 101]⟩) (h0 : ((lastS st).toList == [98, 101, 103, 105, 110]) = false) :
    Calls Tryz.prog 128 #[.pointer (some ⟨b, 0, none⟩)] w fun e w' => e = .returned (.tuple #[]) ∧ RdE B w' b (failS st 4) ∧ Below B w w' := by
  obtain ⟨v4, v5, v6, v7, v11, h⟩ := h
  have HL := V (last_any B b st v4 v5 v6 v7 v11 w h)
  have HF : Hid (∀ n, Calls Tryz.prog 130 #[.pointer (some ⟨b, 0, none⟩), .int .i64 4] (w.drewN n) fun e w' => e = .returned (.tuple #[]) ∧ Rd B w' b (failS st 4) v4 v5 v6 v7 v11 ∧ Below B (w.drewN n) w') := fun n => fail_rd B b st v4 v5 v6 v7 v11 4 (w.drewN n) (h.drewN n)
  generalize failS st 4 = st1 at HF ⊢
  generalize lastS st = ls at HL h0
  have hc := h.blk.cell
  have hf := h.blk.free
  unfold rdArr at hc
  rw [ht] at hc
  go_enter Tryz.func128, Tryz.ntmps128
  go_wp2_with fail
  refine (U HL).mono ?_
  rintro e w1 ⟨rfl, n, rfl⟩
  go_wp2_with fail
  refine (U HF n).mono ?_
  rintro e w1 ⟨rfl, h1, hb1⟩
  go_wp2_with fail
  go_end0
  exact ⟨rfl, ⟨_, _, _, _, _, h1⟩, (below_drawn (Below.refl B w) n).trans hb1⟩

set_option maxRecDepth 100000 in
set_option maxHeartbeats 1000000 in
theorem control_repeat_no (B b : Nat) (st : RS) (w : World) (h : RdE B w b st) (ht : st.token = ⟨#[114, 101, 112, 101, 97, 116]⟩) (h0 : ((lastS st).toList == [119, 104, 105, 108, 101]) = false) :
    Calls Tryz.prog 128 #[.pointer (some ⟨b, 0, none⟩)] w fun e w' => e = .returned (.tuple #[]) ∧ RdE B w' b (failS st 4) ∧ Below B w w' := by
  obtain ⟨v4, v5, v6, v7, v11, h⟩ := h
  have HL := V (last_any B b st v4 v5 v6 v7 v11 w h)
  have HF : Hid (∀ n, Calls Tryz.prog 130 #[.pointer (some ⟨b, 0, none⟩), .int .i64 4] (w.drewN n) fun e w' => e = .returned (.tuple #[]) ∧ Rd B w' b (failS st 4) v4 v5 v6 v7 v11 ∧ Below B (w.drewN n) w') := fun n => fail_rd B b st v4 v5 v6 v7 v11 4 (w.drewN n) (h.drewN n)
  generalize failS st 4 = st1 at HF ⊢
  generalize lastS st = ls at HL h0
  have hc := h.blk.cell
  have hf := h.blk.free
  unfold rdArr at hc
  rw [ht] at hc
  go_enter Tryz.func128, Tryz.ntmps128
  go_wp2_with fail
  refine (U HL).mono ?_
  rintro e w1 ⟨rfl, n, rfl⟩
  go_wp2_with fail
  refine (U HF n).mono ?_
  rintro e w1 ⟨rfl, h1, hb1⟩
  go_wp2_with fail
  go_end0
  exact ⟨rfl, ⟨_, _, _, _, _, h1⟩, (below_drawn (Below.refl B w) n).trans hb1⟩

set_option maxRecDepth 100000 in
set_option maxHeartbeats 1000000 in
theorem control_loop_no (B b : Nat) (st : RS) (w : World) (h : RdE B w b st) (ht : st.token = ⟨#[108, 111, 111, 112]⟩) (h0 : ((lastS st).toList == [100, 111]) = false) :
    Calls Tryz.prog 128 #[.pointer (some ⟨b, 0, none⟩)] w fun e w' => e = .returned (.tuple #[]) ∧ RdE B w' b (failS st 4) ∧ Below B w w' := by
  obtain ⟨v4, v5, v6, v7, v11, h⟩ := h
  have HL := V (last_any B b st v4 v5 v6 v7 v11 w h)
  have HF : Hid (∀ n, Calls Tryz.prog 130 #[.pointer (some ⟨b, 0, none⟩), .int .i64 4] (w.drewN n) fun e w' => e = .returned (.tuple #[]) ∧ Rd B w' b (failS st 4) v4 v5 v6 v7 v11 ∧ Below B (w.drewN n) w') := fun n => fail_rd B b st v4 v5 v6 v7 v11 4 (w.drewN n) (h.drewN n)
  generalize failS st 4 = st1 at HF ⊢
  generalize lastS st = ls at HL h0
  have hc := h.blk.cell
  have hf := h.blk.free
  unfold rdArr at hc
  rw [ht] at hc
  go_enter Tryz.func128, Tryz.ntmps128
  go_wp2_with fail
  refine (U HL).mono ?_
  rintro e w1 ⟨rfl, n, rfl⟩
  go_wp2_with fail
  refine (U HF n).mono ?_
  rintro e w1 ⟨rfl, h1, hb1⟩
  go_wp2_with fail
  go_end0
  exact ⟨rfl, ⟨_, _, _, _, _, h1⟩, (below_drawn (Below.refl B w) n).trans hb1⟩
set_option maxRecDepth 100000 in
set_option maxHeartbeats 1000000 in
theorem element_plain (B b : Nat) (st : RS) (w : World) (h : RdE B w b st) (hsz : st.token.size ≤ 2000) (hlen : st.c0.length < 4000 ∧ st.c1.length < 4000) (hp : 0 ≤ plainS st.token) :
    Calls Tryz.prog 129 #[.pointer (some ⟨b, 0, none⟩)] w fun e w' => e = .returned (.tuple #[]) ∧ RdE B w' b (putS st (plainS st.token) 0) ∧ Below B w w' := by
  obtain ⟨i0, hi, hz0, hz1, hz2⟩ := info_parts Tryz.infoInstr
  have HP : Hid (∀ w2, RdE B w2 b st → Calls Tryz.prog 172 #[.pointer (some ⟨b, 0, none⟩), .int .i64 (plainS st.token), .int .i64 0] w2 fun e w' => e = .returned (.int .i64 (hereS st)) ∧ RdE B w' b (putS st (plainS st.token) 0) ∧ Below B w2 w') := fun w2 h2 => put_any B b st (plainS st.token) 0 w2 h2 hlen
  generalize putS st (plainS st.token) 0 = st9 at HP ⊢
  obtain ⟨v4, v5, v6, v7, v11, h⟩ := h
  have hb0 : B ≤ w.heap.size := by have := h.base; have := h.blk.lt; omega
  have hc := h.blk.cell
  have hf := h.blk.free
  unfold rdArr at hc
  go_enter Tryz.func129, Tryz.ntmps129
  go_wp2_with fail
  refine (plain_any st.token w).mono ?_
  rintro e w1 ⟨rfl, hb1⟩
  have h1 := h.below_all hb1
  have hb2 := hb1.mono hb0
  clear hc hf h hb1
  have hc := h1.blk.cell
  have hf := h1.blk.free
  unfold rdArr at hc
  go_wp2_with fail
  refine (number_any st.token w1 hsz).mono ?_
  rintro e w2 ⟨rfl, hw⟩
  obtain rfl := hw.symm
  clear hw
  go_wp2_with fail
  refine (find_any B b st v4 v5 v6 v7 v11 w1 st.token h1).mono ?_
  rintro e w2 ⟨rfl, hw⟩
  obtain rfl := hw.symm
  clear hw
  go_wp2_with fail
  refine (part_any B b st v4 v5 v6 v7 v11 w1 h1).mono ?_
  rintro e w2 ⟨rfl, hw⟩
  obtain rfl := hw.symm
  clear hw
  go_wp2_with fail
  refine (U HP w1 ⟨_, _, _, _, _, h1⟩).mono ?_
  rintro e w3 ⟨rfl, h3, hb3⟩
  go_wp2_with fail
  go_end0
  exact ⟨rfl, h3, hb2.trans hb3⟩

set_option maxRecDepth 100000 in
set_option maxHeartbeats 1000000 in
theorem element_recurse (B b : Nat) (st : RS) (w : World) (h : RdE B w b st) (hsz : st.token.size ≤ 2000) (hlen : st.c0.length < 4000 ∧ st.c1.length < 4000) (hp : plainS st.token < 0) (hn : (numS st.token).isSome = false) (hfd : findS st.names st.token < 0) (ht : (st.token.toList == [114, 101, 99, 117, 114, 115, 101]) = true) (hst : 0 ≤ st.start) :
    Calls Tryz.prog 129 #[.pointer (some ⟨b, 0, none⟩)] w fun e w' => e = .returned (.tuple #[]) ∧ RdE B w' b (putS st 3 st.start) ∧ Below B w w' := by
  obtain ⟨i0, hi, hz0, hz1, hz2⟩ := info_parts Tryz.infoInstr
  have HP : Hid (∀ w2, RdE B w2 b st → Calls Tryz.prog 172 #[.pointer (some ⟨b, 0, none⟩), .int .i64 3, .int .i64 st.start] w2 fun e w' => e = .returned (.int .i64 (hereS st)) ∧ RdE B w' b (putS st 3 st.start) ∧ Below B w2 w') := fun w2 h2 => put_any B b st 3 st.start w2 h2 hlen
  generalize putS st 3 st.start = st9 at HP ⊢
  obtain ⟨v4, v5, v6, v7, v11, h⟩ := h
  have hb0 : B ≤ w.heap.size := by have := h.base; have := h.blk.lt; omega
  have hc := h.blk.cell
  have hf := h.blk.free
  unfold rdArr at hc
  go_enter Tryz.func129, Tryz.ntmps129
  go_wp2_with fail
  refine (plain_any st.token w).mono ?_
  rintro e w1 ⟨rfl, hb1⟩
  have h1 := h.below_all hb1
  have hb2 := hb1.mono hb0
  clear hc hf h hb1
  have hc := h1.blk.cell
  have hf := h1.blk.free
  unfold rdArr at hc
  go_wp2_with fail
  refine (number_any st.token w1 hsz).mono ?_
  rintro e w2 ⟨rfl, hw⟩
  obtain rfl := hw.symm
  clear hw
  go_wp2_with fail
  refine (find_any B b st v4 v5 v6 v7 v11 w1 st.token h1).mono ?_
  rintro e w2 ⟨rfl, hw⟩
  obtain rfl := hw.symm
  clear hw
  go_wp2_with fail
  refine (part_any B b st v4 v5 v6 v7 v11 w1 h1).mono ?_
  rintro e w2 ⟨rfl, hw⟩
  obtain rfl := hw.symm
  clear hw
  go_wp2_with fail
  refine (U HP w1 ⟨_, _, _, _, _, h1⟩).mono ?_
  rintro e w3 ⟨rfl, h3, hb3⟩
  go_wp2_with fail
  go_end0
  exact ⟨rfl, h3, hb2.trans hb3⟩

set_option maxRecDepth 100000 in
set_option maxHeartbeats 1000000 in
theorem element_no (B b : Nat) (st : RS) (w : World) (h : RdE B w b st) (hsz : st.token.size ≤ 2000) (hp : plainS st.token < 0) (hn : (numS st.token).isSome = false) (hfd : findS st.names st.token < 0) (hno : (st.token.toList == [114, 101, 99, 117, 114, 115, 101]) = false ∨ (st.token.toList == [114, 101, 99, 117, 114, 115, 101]) = true ∧ st.start < 0) :
    Calls Tryz.prog 129 #[.pointer (some ⟨b, 0, none⟩)] w fun e w' => e = .returned (.tuple #[]) ∧ RdE B w' b (failS st 2) ∧ Below B w w' := by
  obtain ⟨i0, hi, hz0, hz1, hz2⟩ := info_parts Tryz.infoInstr
  have HF : Hid (∀ w2 v4 v5 v6 v7 v11, Rd B w2 b st v4 v5 v6 v7 v11 → Calls Tryz.prog 130 #[.pointer (some ⟨b, 0, none⟩), .int .i64 2] w2 fun e w' => e = .returned (.tuple #[]) ∧ Rd B w' b (failS st 2) v4 v5 v6 v7 v11 ∧ Below B w2 w') := fun w2 v4 v5 v6 v7 v11 h2 => fail_rd B b st v4 v5 v6 v7 v11 2 w2 h2
  generalize failS st 2 = st9 at HF ⊢
  obtain ⟨v4, v5, v6, v7, v11, h⟩ := h
  have hb0 : B ≤ w.heap.size := by have := h.base; have := h.blk.lt; omega
  have hc := h.blk.cell
  have hf := h.blk.free
  unfold rdArr at hc
  go_enter Tryz.func129, Tryz.ntmps129
  go_wp2_with fail
  refine (plain_any st.token w).mono ?_
  rintro e w1 ⟨rfl, hb1⟩
  have h1 := h.below_all hb1
  have hb2 := hb1.mono hb0
  clear hc hf h hb1
  have hc := h1.blk.cell
  have hf := h1.blk.free
  unfold rdArr at hc
  go_wp2_with fail
  refine (number_any st.token w1 hsz).mono ?_
  rintro e w2 ⟨rfl, hw⟩
  obtain rfl := hw.symm
  clear hw
  go_wp2_with fail
  refine (find_any B b st v4 v5 v6 v7 v11 w1 st.token h1).mono ?_
  rintro e w2 ⟨rfl, hw⟩
  obtain rfl := hw.symm
  clear hw
  go_wp2_with fail
  refine (part_any B b st v4 v5 v6 v7 v11 w1 h1).mono ?_
  rintro e w2 ⟨rfl, hw⟩
  obtain rfl := hw.symm
  clear hw
  rcases hno with e1 | ⟨e1, e2⟩
  all_goals
    go_wp2_with fail
    refine (U HF w1 v4 v5 v6 v7 v11 h1).mono ?_
    rintro e w3 ⟨rfl, h3, hb3⟩
    go_wp2_with fail
    go_end0
    exact ⟨rfl, ⟨_, _, _, _, _, h3⟩, hb2.trans hb3⟩

set_option maxRecDepth 100000 in
set_option maxHeartbeats 1000000 in
theorem element_num0 (B b : Nat) (st : RS) (w : World) (h : RdE B w b st) (hsz : st.token.size ≤ 2000) (hlen : st.c0.length < 4000) (hst : 0 ≤ st.start) (hp : plainS st.token < 0) (hn : (numS st.token).isSome = true) :
    Calls Tryz.prog 129 #[.pointer (some ⟨b, 0, none⟩)] w fun e w' => e = .returned (.tuple #[]) ∧ RdE B w' b ({ st with c0 := st.c0 ++ [(0, (numV st.token))] }) ∧ Below B w w' := by
  obtain ⟨i0, hi, hz0, hz1, hz2⟩ := info_parts Tryz.infoInstr
  obtain ⟨v4, v5, v6, v7, v11, h⟩ := h
  have hb0 : B ≤ w.heap.size := by have := h.base; have := h.blk.lt; omega
  have hc := h.blk.cell
  have hf := h.blk.free
  unfold rdArr at hc
  go_enter Tryz.func129, Tryz.ntmps129
  go_wp2_with fail
  refine (plain_any st.token w).mono ?_
  rintro e w1 ⟨rfl, hb1⟩
  have h1 := h.below_all hb1
  have hb2 := hb1.mono hb0
  clear hc hf h hb1
  have hc := h1.blk.cell
  have hf := h1.blk.free
  unfold rdArr at hc
  go_wp2_with fail
  refine (number_any st.token w1 hsz).mono ?_
  rintro e w2 ⟨rfl, hw⟩
  obtain rfl := hw.symm
  clear hw
  go_wp2_with fail
  refine (find_any B b st v4 v5 v6 v7 v11 w1 st.token h1).mono ?_
  rintro e w2 ⟨rfl, hw⟩
  obtain rfl := hw.symm
  clear hw
  go_wp2_with fail
  refine (part_any B b st v4 v5 v6 v7 v11 w1 h1).mono ?_
  rintro e w2 ⟨rfl, hw⟩
  obtain rfl := hw.symm
  clear hw
  rw [partS, if_pos (by omega)]
  generalize hnv : numV st.token = nv
  have HNV := V hnv
  clear hnv
  have hlt := h1.blk.lt
  have HB := V h1.blk
  unfold rdArr at HB
  have hne := h1.ne 0 _ rfl
  have HW := V (ownsRow_alloc h1.o4 (.cells #[.int .i64 0, .int .i64 nv] 65))
  have hBs : B ≤ (w1.alloc (.cells #[.int .i64 0, .int .i64 nv] 65)).drew.heap.size := by
    have := h1.base
    show B ≤ (w1.alloc _).heap.size
    simp; omega
  have HBs := V hBs
  clear hBs
  go_wp2_with fail
  go_region_law (refine step_append_lies _ rfl (.tmp 45) (.tmp 48) 33 rfl B 65 i0 _ 2 16 Tryz.underlying33 hi hz0 hz1 hz2 rfl (by decide) v4 st.c0.length (instrCells st.c0) (by simp [Act.eval]) (U HW) ⟨w1.heap.size, 0, none⟩ 1 1 [.int .i64 0, .int .i64 nv] (by simp [Act.eval]) rfl (World.news_of_block (Blk.new w1 _ _)) (oneCells2 _ _) (by omega) (by unfold maxLen; omega) (by omega) (U HBs) _ rfl ?_; intro g cap w5 hown hgrow hat hlt1; have hb5 := ((U HB).alloc _).drew.grown hgrow hne; have hc5 := hb5.cell; have hf5 := hb5.free; have HO := V hown; have HG := V hgrow; have HA := V hat; clear hown hgrow hat hb5)
  all_goals
    go_wp2
    go_end0
    rw [U HNV]
    refine ⟨rfl, ⟨_, _, _, _, _, h1.grow4 (op := 0) (arg := nv) hlen (U HO) (U HG) (U HA) (by simp)⟩, ?_⟩
    exact hb2.trans ((below_grown_alloc (by have := h1.base; omega) (fun k hk => (ownsRow_lt h1.o4 hk).2) (U HG)).setCell h1.base _)

set_option maxRecDepth 100000 in
set_option maxHeartbeats 1000000 in
theorem element_name0 (B b : Nat) (st : RS) (w : World) (h : RdE B w b st) (hsz : st.token.size ≤ 2000) (hlen : st.c0.length < 4000) (hst : 0 ≤ st.start) (hp : plainS st.token < 0) (hn : (numS st.token).isSome = false) (k : Nat) (x : ByteArray × Int × Int) (hk : findS st.names st.token = (k : Int)) (hx : st.names[k]? = some x) :
    Calls Tryz.prog 129 #[.pointer (some ⟨b, 0, none⟩)] w fun e w' => e = .returned (.tuple #[]) ∧ RdE B w' b ({ st with c0 := st.c0 ++ [(x.2.1, x.2.2)] }) ∧ Below B w w' := by
  obtain ⟨i0, hi, hz0, hz1, hz2⟩ := info_parts Tryz.infoInstr
  have hkl : k < st.names.length := (List.getElem?_eq_some_iff.1 hx).1
  have hkI : (k : Int) < st.names.length := by omega
  obtain ⟨v4, v5, v6, v7, v11, h⟩ := h
  have hb0 : B ≤ w.heap.size := by have := h.base; have := h.blk.lt; omega
  have hc := h.blk.cell
  have hf := h.blk.free
  unfold rdArr at hc
  go_enter Tryz.func129, Tryz.ntmps129
  go_wp2_with fail
  refine (plain_any st.token w).mono ?_
  rintro e w1 ⟨rfl, hb1⟩
  have h1 := h.below_all hb1
  have hb2 := hb1.mono hb0
  clear hc hf h hb1
  have hc := h1.blk.cell
  have hf := h1.blk.free
  unfold rdArr at hc
  go_wp2_with fail
  refine (number_any st.token w1 hsz).mono ?_
  rintro e w2 ⟨rfl, hw⟩
  obtain rfl := hw.symm
  clear hw
  go_wp2_with fail
  refine (find_any B b st v4 v5 v6 v7 v11 w1 st.token h1).mono ?_
  rintro e w2 ⟨rfl, hw⟩
  obtain rfl := hw.symm
  clear hw
  go_wp2_with fail
  refine (part_any B b st v4 v5 v6 v7 v11 w1 h1).mono ?_
  rintro e w2 ⟨rfl, hw⟩
  obtain rfl := hw.symm
  clear hw
  rw [partS, if_pos (by omega)]

  obtain ⟨g6, k6, hv6, _, hg6⟩ := h1.o6.form (by omega)
  subst hv6
  have hs : (st.names.length : Int) ≤ 4000 := by have := h1.small; omega
  have hx1 := own_cell h1.o6 (k * 3 + 1) (by omega)
  have hx2 := own_cell h1.o6 (k * 3 + 1 + 1) (by omega)
  rw [(nameCells_at _ _ _ hx).2.1] at hx1
  rw [show k * 3 + 1 + 1 = k * 3 + 2 from by omega, (nameCells_at _ _ _ hx).2.2] at hx2
  have hc := h1.blk.cell
  have hf := h1.blk.free
  unfold rdArr at hc
  have hlt := h1.blk.lt
  have HB := V h1.blk
  unfold rdArr at HB
  have hne := h1.ne 0 _ rfl
  have HW := V (ownsRow_alloc h1.o4 (.cells #[.int .i64 x.2.1, .int .i64 x.2.2] 65))
  have hBs : B ≤ (w1.alloc (.cells #[.int .i64 x.2.1, .int .i64 x.2.2] 65)).drew.heap.size := by
    have := h1.base
    show B ≤ (w1.alloc _).heap.size
    simp; omega
  have HBs := V hBs
  clear hBs
  go_wp2_with fail
  go_region_law (refine step_append_lies _ rfl (.tmp 63) (.tmp 72) 33 rfl B 65 i0 _ 2 16 Tryz.underlying33 hi hz0 hz1 hz2 rfl (by decide) v4 st.c0.length (instrCells st.c0) (by simp [Act.eval]) (U HW) ⟨w1.heap.size, 0, none⟩ 1 1 [.int .i64 x.2.1, .int .i64 x.2.2] (by simp [Act.eval]) rfl (World.news_of_block (Blk.new w1 _ _)) (oneCells2 _ _) (by omega) (by unfold maxLen; omega) (by omega) (U HBs) _ rfl ?_; intro g cap w5 hown hgrow hat hlt1; have hb5 := ((U HB).alloc _).drew.grown hgrow hne; have hc5 := hb5.cell; have hf5 := hb5.free; have HO := V hown; have HG := V hgrow; have HA := V hat; clear hown hgrow hat hb5)
  all_goals
    go_wp2
    go_end0
    refine ⟨rfl, ⟨_, _, _, _, _, h1.grow4 (op := x.2.1) (arg := x.2.2) hlen (U HO) (U HG) (U HA) (by simp)⟩, ?_⟩
    exact hb2.trans ((below_grown_alloc (by have := h1.base; omega) (fun k hk => (ownsRow_lt h1.o4 hk).2) (U HG)).setCell h1.base _)

set_option maxRecDepth 100000 in
set_option maxHeartbeats 1000000 in
theorem element_num1 (B b : Nat) (st : RS) (w : World) (h : RdE B w b st) (hsz : st.token.size ≤ 2000) (hlen : st.c1.length < 4000) (hst : ¬ 0 ≤ st.start) (hp : plainS st.token < 0) (hn : (numS st.token).isSome = true) :
    Calls Tryz.prog 129 #[.pointer (some ⟨b, 0, none⟩)] w fun e w' => e = .returned (.tuple #[]) ∧ RdE B w' b ({ st with c1 := st.c1 ++ [(0, (numV st.token))] }) ∧ Below B w w' := by
  obtain ⟨i0, hi, hz0, hz1, hz2⟩ := info_parts Tryz.infoInstr
  obtain ⟨v4, v5, v6, v7, v11, h⟩ := h
  have hb0 : B ≤ w.heap.size := by have := h.base; have := h.blk.lt; omega
  have hc := h.blk.cell
  have hf := h.blk.free
  unfold rdArr at hc
  go_enter Tryz.func129, Tryz.ntmps129
  go_wp2_with fail
  refine (plain_any st.token w).mono ?_
  rintro e w1 ⟨rfl, hb1⟩
  have h1 := h.below_all hb1
  have hb2 := hb1.mono hb0
  clear hc hf h hb1
  have hc := h1.blk.cell
  have hf := h1.blk.free
  unfold rdArr at hc
  go_wp2_with fail
  refine (number_any st.token w1 hsz).mono ?_
  rintro e w2 ⟨rfl, hw⟩
  obtain rfl := hw.symm
  clear hw
  go_wp2_with fail
  refine (find_any B b st v4 v5 v6 v7 v11 w1 st.token h1).mono ?_
  rintro e w2 ⟨rfl, hw⟩
  obtain rfl := hw.symm
  clear hw
  go_wp2_with fail
  refine (part_any B b st v4 v5 v6 v7 v11 w1 h1).mono ?_
  rintro e w2 ⟨rfl, hw⟩
  obtain rfl := hw.symm
  clear hw
  rw [partS, if_neg (by omega)]
  generalize hnv : numV st.token = nv
  have HNV := V hnv
  clear hnv
  have hlt := h1.blk.lt
  have HB := V h1.blk
  unfold rdArr at HB
  have hne := h1.ne 1 _ rfl
  have HW := V (ownsRow_alloc h1.o5 (.cells #[.int .i64 0, .int .i64 nv] 65))
  have hBs : B ≤ (w1.alloc (.cells #[.int .i64 0, .int .i64 nv] 65)).drew.heap.size := by
    have := h1.base
    show B ≤ (w1.alloc _).heap.size
    simp; omega
  have HBs := V hBs
  clear hBs
  go_wp2_with fail
  go_region_law (refine step_append_lies _ rfl (.tmp 45) (.tmp 48) 33 rfl B 65 i0 _ 2 16 Tryz.underlying33 hi hz0 hz1 hz2 rfl (by decide) v5 st.c1.length (instrCells st.c1) (by simp [Act.eval]) (U HW) ⟨w1.heap.size, 0, none⟩ 1 1 [.int .i64 0, .int .i64 nv] (by simp [Act.eval]) rfl (World.news_of_block (Blk.new w1 _ _)) (oneCells2 _ _) (by omega) (by unfold maxLen; omega) (by omega) (U HBs) _ rfl ?_; intro g cap w5 hown hgrow hat hlt1; have hb5 := ((U HB).alloc _).drew.grown hgrow hne; have hc5 := hb5.cell; have hf5 := hb5.free; have HO := V hown; have HG := V hgrow; have HA := V hat; clear hown hgrow hat hb5)
  all_goals
    go_wp2
    go_end0
    rw [U HNV]
    refine ⟨rfl, ⟨_, _, _, _, _, h1.grow5 (op := 0) (arg := nv) hlen (U HO) (U HG) (U HA) (by simp)⟩, ?_⟩
    exact hb2.trans ((below_grown_alloc (by have := h1.base; omega) (fun k hk => (ownsRow_lt h1.o5 hk).2) (U HG)).setCell h1.base _)

set_option maxRecDepth 100000 in
set_option maxHeartbeats 1000000 in
theorem element_name1 (B b : Nat) (st : RS) (w : World) (h : RdE B w b st) (hsz : st.token.size ≤ 2000) (hlen : st.c1.length < 4000) (hst : ¬ 0 ≤ st.start) (hp : plainS st.token < 0) (hn : (numS st.token).isSome = false) (k : Nat) (x : ByteArray × Int × Int) (hk : findS st.names st.token = (k : Int)) (hx : st.names[k]? = some x) :
    Calls Tryz.prog 129 #[.pointer (some ⟨b, 0, none⟩)] w fun e w' => e = .returned (.tuple #[]) ∧ RdE B w' b ({ st with c1 := st.c1 ++ [(x.2.1, x.2.2)] }) ∧ Below B w w' := by
  obtain ⟨i0, hi, hz0, hz1, hz2⟩ := info_parts Tryz.infoInstr
  have hkl : k < st.names.length := (List.getElem?_eq_some_iff.1 hx).1
  have hkI : (k : Int) < st.names.length := by omega
  obtain ⟨v4, v5, v6, v7, v11, h⟩ := h
  have hb0 : B ≤ w.heap.size := by have := h.base; have := h.blk.lt; omega
  have hc := h.blk.cell
  have hf := h.blk.free
  unfold rdArr at hc
  go_enter Tryz.func129, Tryz.ntmps129
  go_wp2_with fail
  refine (plain_any st.token w).mono ?_
  rintro e w1 ⟨rfl, hb1⟩
  have h1 := h.below_all hb1
  have hb2 := hb1.mono hb0
  clear hc hf h hb1
  have hc := h1.blk.cell
  have hf := h1.blk.free
  unfold rdArr at hc
  go_wp2_with fail
  refine (number_any st.token w1 hsz).mono ?_
  rintro e w2 ⟨rfl, hw⟩
  obtain rfl := hw.symm
  clear hw
  go_wp2_with fail
  refine (find_any B b st v4 v5 v6 v7 v11 w1 st.token h1).mono ?_
  rintro e w2 ⟨rfl, hw⟩
  obtain rfl := hw.symm
  clear hw
  go_wp2_with fail
  refine (part_any B b st v4 v5 v6 v7 v11 w1 h1).mono ?_
  rintro e w2 ⟨rfl, hw⟩
  obtain rfl := hw.symm
  clear hw
  rw [partS, if_neg (by omega)]

  obtain ⟨g6, k6, hv6, _, hg6⟩ := h1.o6.form (by omega)
  subst hv6
  have hs : (st.names.length : Int) ≤ 4000 := by have := h1.small; omega
  have hx1 := own_cell h1.o6 (k * 3 + 1) (by omega)
  have hx2 := own_cell h1.o6 (k * 3 + 1 + 1) (by omega)
  rw [(nameCells_at _ _ _ hx).2.1] at hx1
  rw [show k * 3 + 1 + 1 = k * 3 + 2 from by omega, (nameCells_at _ _ _ hx).2.2] at hx2
  have hc := h1.blk.cell
  have hf := h1.blk.free
  unfold rdArr at hc
  have hlt := h1.blk.lt
  have HB := V h1.blk
  unfold rdArr at HB
  have hne := h1.ne 1 _ rfl
  have HW := V (ownsRow_alloc h1.o5 (.cells #[.int .i64 x.2.1, .int .i64 x.2.2] 65))
  have hBs : B ≤ (w1.alloc (.cells #[.int .i64 x.2.1, .int .i64 x.2.2] 65)).drew.heap.size := by
    have := h1.base
    show B ≤ (w1.alloc _).heap.size
    simp; omega
  have HBs := V hBs
  clear hBs
  go_wp2_with fail
  go_region_law (refine step_append_lies _ rfl (.tmp 63) (.tmp 72) 33 rfl B 65 i0 _ 2 16 Tryz.underlying33 hi hz0 hz1 hz2 rfl (by decide) v5 st.c1.length (instrCells st.c1) (by simp [Act.eval]) (U HW) ⟨w1.heap.size, 0, none⟩ 1 1 [.int .i64 x.2.1, .int .i64 x.2.2] (by simp [Act.eval]) rfl (World.news_of_block (Blk.new w1 _ _)) (oneCells2 _ _) (by omega) (by unfold maxLen; omega) (by omega) (U HBs) _ rfl ?_; intro g cap w5 hown hgrow hat hlt1; have hb5 := ((U HB).alloc _).drew.grown hgrow hne; have hc5 := hb5.cell; have hf5 := hb5.free; have HO := V hown; have HG := V hgrow; have HA := V hat; clear hown hgrow hat hb5)
  all_goals
    go_wp2
    go_end0
    refine ⟨rfl, ⟨_, _, _, _, _, h1.grow5 (op := x.2.1) (arg := x.2.2) hlen (U HO) (U HG) (U HA) (by simp)⟩, ?_⟩
    exact hb2.trans ((below_grown_alloc (by have := h1.base; omega) (fun k hk => (ownsRow_lt h1.o5 hk).2) (U HG)).setCell h1.base _)
def defineS (st : RS) : RS :=
  if st.token.toList == [59] then (if st.start < 0 ∨ st.opens ≠ [] then failS st 4 else semiS st)
  else if 0 ≤ st.start ∨ st.opens ≠ [] then failS st 4
  else if (newNameS st).err ≠ 0 then newNameS st
  else if st.token.toList == [58] then colonS (newNameS st) (stepS st).token
  else if st.token.toList == [118, 97, 114, 105, 97, 98, 108, 101] then variableS (newNameS st) (stepS st).token
  else constantS (newNameS st) (stepS st).token

/-- What closes or goes on: with what was opened last. -/
def closeS (st : RS) (l : List (ByteArray × Int × Int)) (x : ByteArray × Int × Int) : RS :=
  let t := st.token.toList
  let u := { st with opens := l }
  let n := x.2.2.toNat
  if t == [101, 108, 115, 101] ∧ x.1.toList == [105, 102] then openS (tellS (putS u 1 0) n) (⟨#[101, 108, 115, 101]⟩, 0, hereS u)
  else if t == [116, 104, 101, 110] ∧ (x.1.toList == [105, 102] ∨ x.1.toList == [101, 108, 115, 101]) then tellS u n
  else if t == [117, 110, 116, 105, 108] ∧ x.1.toList == [98, 101, 103, 105, 110] then putS u 2 x.2.1
  else if t == [119, 104, 105, 108, 101] ∧ x.1.toList == [98, 101, 103, 105, 110] then openS (putS u 2 0) (⟨#[119, 104, 105, 108, 101]⟩, x.2.1, hereS u)
  else if t == [114, 101, 112, 101, 97, 116] ∧ x.1.toList == [119, 104, 105, 108, 101] then tellS (putS u 1 x.2.1) n
  else if t == [108, 111, 111, 112] ∧ x.1.toList == [100, 111] then putS u 7 x.2.1
  else failS st 4

def controlS (st : RS) : RS :=
  let t := st.token.toList
  if t == [105, 102] then openS (putS st 2 0) (⟨#[105, 102]⟩, 0, hereS st)
  else if t == [98, 101, 103, 105, 110] then openS st (⟨#[98, 101, 103, 105, 110]⟩, hereS st, 0)
  else if t == [100, 111] then openS (putS st 6 0) (⟨#[100, 111]⟩, (hereS st : Int) + 1, 0)
  else match st.opens.getLast? with
    | none => failS st 4
    | some x => closeS st st.opens.dropLast x

def elementS (st : RS) : RS :=
  if 0 ≤ plainS st.token then putS st (plainS st.token) 0
  else if (numS st.token).isSome then putS st 0 (numV st.token)
  else if 0 ≤ findS st.names st.token then (match st.names[(findS st.names st.token).toNat]? with | some x => putS st x.2.1 x.2.2 | none => st)
  else if (st.token.toList == [114, 101, 99, 117, 114, 115, 101]) ∧ 0 ≤ st.start then putS st 3 st.start
  else failS st 2

def isDefine (t : List UInt8) : Bool := t == [58] || t == [59] || t == [118, 97, 114, 105, 97, 98, 108, 101] || t == [99, 111, 110, 115, 116, 97, 110, 116]
def isControl (s : ByteArray) : Bool := structS s && !(s.toList == [114, 101, 99, 117, 114, 115, 101])
/-- One token. -/
def itemS (st : RS) : RS := if isDefine st.token.toList then defineS st else if isControl st.token then controlS st else elementS st
def roundS (st : RS) : RS := if (itemS st).err = 0 then stepS (itemS st) else itemS st
def loopS : Nat → RS → RS
  | 0, st => st
  | f + 1, st => if st.token.toList.isEmpty ∨ st.err ≠ 0 then st else loopS f (roundS st)

/-- An open thing fits the code that it stands in. -/
def openOk (h : Nat) (x : ByteArray × Int × Int) : Prop := (0 ≤ x.2.1 ∧ x.2.1 ≤ h) ∧ 0 ≤ x.2.2 ∧ ((x.1.toList == [105, 102] ∨ x.1.toList == [101, 108, 115, 101] ∨ x.1.toList == [119, 104, 105, 108, 101]) → x.2.2 < h)

/-- All lists are at most m long. -/
def lens (st : RS) (m : Nat) : Prop := st.c0.length ≤ m ∧ st.c1.length ≤ m ∧ st.names.length ≤ m ∧ st.opens.length ≤ m ∧ st.heads.length ≤ m ∧ 0 ≤ st.cells ∧ st.cells ≤ m

structure Inv (st : RS) (m : Nat) : Prop where
  size : st.s.size ≤ 2000
  next : st.next ≤ st.s.size
  place : st.place0 ≤ st.next
  lens : lens st m
  start : -1 ≤ st.start ∧ st.start ≤ st.c0.length
  opens : ∀ x ∈ st.opens, openOk (hereS st) x
  token : st.token = st.s.extract st.place0 st.next

theorem stepS_inv {st : RS} {m : Nat} (h : Inv st m) : Inv (stepS st) m ∧ st.next ≤ (stepS st).place0 := by
  have h1 := scan_le st.s gapB (st.s.size - st.next) st.next h.next
  have h2 := scan_le st.s (fun b => !gapB b) (st.s.size - skipS st.s st.next) (skipS st.s st.next) h1.2
  exact ⟨⟨h.size, h2.2, h2.1, h.lens, h.start, h.opens, rfl⟩, h1.1⟩
theorem lens_mono {st : RS} {m k : Nat} (h : lens st m) (hk : m ≤ k) : lens st k := by unfold lens at *; omega
theorem Inv.mono {st : RS} {m k : Nat} (h : Inv st m) (hk : m ≤ k) : Inv st k := ⟨h.size, h.next, h.place, lens_mono h.lens hk, h.start, h.opens, h.token⟩
theorem failS_inv {st : RS} {m : Nat} (h : Inv st m) (e : Int) : Inv (failS st e) m := by
  unfold failS
  split
  · exact ⟨h.size, h.next, h.place, h.lens, h.start, h.opens, h.token⟩
  · exact h
theorem hereS_put (st : RS) (op arg : Int) : hereS (putS st op arg) = hereS st + 1 := by
  unfold putS hereS
  split <;> simp_all
theorem openOk_mono {h k : Nat} {x : ByteArray × Int × Int} (ho : openOk h x) (hk : h ≤ k) : openOk k x := by
  obtain ⟨⟨h1, h2⟩, h3, h4⟩ := ho
  exact ⟨⟨h1, by omega⟩, h3, fun e => by have := h4 e; omega⟩
theorem putS_inv {st : RS} {m : Nat} (h : Inv st m) (op arg : Int) : Inv (putS st op arg) (m + 1) := by
  have ho : ∀ x ∈ (putS st op arg).opens, openOk (hereS (putS st op arg)) x := by
    have e : (putS st op arg).opens = st.opens := by unfold putS; split <;> rfl
    rw [e, hereS_put]
    exact fun x hx => openOk_mono (h.opens x hx) (by omega)
  have hl := h.lens
  have hs := h.start
  unfold lens at hl
  refine ⟨?_, ?_, ?_, ?_, ?_, ho, ?_⟩
  all_goals unfold putS; split
  all_goals first | exact h.size | exact h.next | exact h.place | exact h.token | (unfold lens; simp; omega) | (simp; omega) | omega
end Go.Proofs.YtmeiikjpaepogaaGreatDoor
