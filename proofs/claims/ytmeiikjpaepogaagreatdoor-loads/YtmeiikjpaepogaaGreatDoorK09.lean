/- The reference's Reader: control: then, until, loop, repeat, else, while. -/
import Derived.Test.YtmeiikjpaepogaaGreatDoorK07
namespace Go.Proofs.YtmeiikjpaepogaaGreatDoor
open Go Go.RowKit

theorem Moved.blk {w w' : World} {b : Nat} {vs vs' : List Value} (h : Moved w b vs w' vs') {k : Nat} {cs : Array Value} {T : TypeId} (hb : Blk w k cs T) (hf : ¬ foot b vs k) : Blk w' k cs T := by
  have hlt := hb.lt
  unfold Blk at hb ⊢
  rw [h.keep k hlt hf]; exact hb

set_option maxRecDepth 100000 in
set_option maxHeartbeats 1000000 in
theorem control_then_if (B b : Nat) (st : RS) (w : World) (h : RdE B w b st) (ht : st.token = ⟨#[116, 104, 101, 110]⟩) (l : List (ByteArray × Int × Int)) (a : Int) (n : Nat) (ho : st.opens = l ++ [(⟨#[105, 102]⟩, a, (n : Int))]) (hn : n < hereS { st with opens := l }) :
    Calls Tryz.prog 128 #[.pointer (some ⟨b, 0, none⟩)] w fun e w' => e = .returned (.tuple #[]) ∧ RdE B w' b (tellS { st with opens := l } n) ∧ Below B w w' := by
  obtain ⟨i0, hi, hz0, hz1, hz2⟩ := info_parts Tryz.infoOpen
  obtain ⟨v4, v5, v6, v7, v11, h⟩ := h
  have HL := V (last_some B b st v4 v5 v6 v7 v11 w h l _ ho)
  have HP : Hid (∀ m, Calls Tryz.prog 177 #[.pointer (some ⟨b, 0, none⟩)] (w.drewN m) fun e w' => e = .returned (.agg #[.string ⟨#[105, 102]⟩, .int .i64 a, .int .i64 n]) ∧ RdE B w' b { st with opens := l } ∧ Below B (w.drewN m) w') := fun m => pop_any B b st _ _ _ _ _ (w.drewN m) (h.drewN m) l _ ho
  have hc := h.blk.cell
  have hf := h.blk.free
  unfold rdArr at hc
  rw [ht] at hc
  clear ho
  have HT : Hid (∀ (w3 : World) (u4 u5 u6 u7 u11 : Value), Rd B w3 b { st with opens := l } u4 u5 u6 u7 u11 → Calls Tryz.prog 178 #[.pointer (some ⟨b, 0, none⟩), .int .i64 n] w3 fun e w' => e = .returned (.tuple #[]) ∧ Rd B w' b (tellS { st with opens := l } n) u4 u5 u6 u7 u11 ∧ Moved w3 b [u4, u5, u6, u7, u11] w' [u4, u5, u6, u7, u11]) := fun w3 u4 u5 u6 u7 u11 h3 => tell_rd B b _ u4 u5 u6 u7 u11 n w3 h3 hn
  generalize tellS { st with opens := l } n = st3 at HT ⊢
  go_enter Tryz.func128, Tryz.ntmps128
  go_wp2_with fail
  refine (U HL).mono ?_
  rintro e w1 ⟨rfl, m, rfl⟩
  go_wp2_with fail
  refine (U HP m).mono ?_
  rintro e w2 ⟨rfl, ⟨u4, u5, u6, u7, u11, h2⟩, hb2⟩
  have hb3 : Below B w w2 := (below_drawn (Below.refl B w) m).trans hb2
  clear HL HP hc hf h hb2
  have h3 := h2.alloc (.cells #[.string ⟨#[105, 102]⟩, .int .i64 a, .int .i64 n] 225)
  have hN : Blk (w2.alloc (.cells #[.string ⟨#[105, 102]⟩, .int .i64 a, .int .i64 n] 225)) w2.heap.size #[.string ⟨#[105, 102]⟩, .int .i64 a, .int .i64 n] 225 := Blk.new _ _ _
  have hNf : ¬ foot b [u4, u5, u6, u7, u11] w2.heap.size := fun e => by have := (h2.owned.foot h2.base h2.blk.lt e).2; omega
  have hb4 : Below B w (w2.alloc (.cells #[.string ⟨#[105, 102]⟩, .int .i64 a, .int .i64 n] 225)) := hb3.alloc (by have := h2.base; have := h2.blk.lt; omega) _
  have hc := hN.cell
  go_wp2_with fail
  refine (U HT _ u4 u5 u6 u7 u11 h3).mono ?_
  rintro e w5 ⟨rfl, h5, hm5⟩
  go_wp2_with fail
  refine bodyPost_ret (results_none rfl _ _ _) rfl ?_
  exact ⟨rfl, ⟨_, _, _, _, _, h5⟩, hb4.trans (h3.below hm5)⟩

set_option maxRecDepth 100000 in
set_option maxHeartbeats 1000000 in
theorem control_then_else (B b : Nat) (st : RS) (w : World) (h : RdE B w b st) (ht : st.token = ⟨#[116, 104, 101, 110]⟩) (l : List (ByteArray × Int × Int)) (a : Int) (n : Nat) (ho : st.opens = l ++ [(⟨#[101, 108, 115, 101]⟩, a, (n : Int))]) (hn : n < hereS { st with opens := l }) :
    Calls Tryz.prog 128 #[.pointer (some ⟨b, 0, none⟩)] w fun e w' => e = .returned (.tuple #[]) ∧ RdE B w' b (tellS { st with opens := l } n) ∧ Below B w w' := by
  obtain ⟨i0, hi, hz0, hz1, hz2⟩ := info_parts Tryz.infoOpen
  obtain ⟨v4, v5, v6, v7, v11, h⟩ := h
  have HL := V (last_some B b st v4 v5 v6 v7 v11 w h l _ ho)
  have HP : Hid (∀ m, Calls Tryz.prog 177 #[.pointer (some ⟨b, 0, none⟩)] (w.drewN m) fun e w' => e = .returned (.agg #[.string ⟨#[101, 108, 115, 101]⟩, .int .i64 a, .int .i64 n]) ∧ RdE B w' b { st with opens := l } ∧ Below B (w.drewN m) w') := fun m => pop_any B b st _ _ _ _ _ (w.drewN m) (h.drewN m) l _ ho
  have hc := h.blk.cell
  have hf := h.blk.free
  unfold rdArr at hc
  rw [ht] at hc
  clear ho
  have HT : Hid (∀ (w3 : World) (u4 u5 u6 u7 u11 : Value), Rd B w3 b { st with opens := l } u4 u5 u6 u7 u11 → Calls Tryz.prog 178 #[.pointer (some ⟨b, 0, none⟩), .int .i64 n] w3 fun e w' => e = .returned (.tuple #[]) ∧ Rd B w' b (tellS { st with opens := l } n) u4 u5 u6 u7 u11 ∧ Moved w3 b [u4, u5, u6, u7, u11] w' [u4, u5, u6, u7, u11]) := fun w3 u4 u5 u6 u7 u11 h3 => tell_rd B b _ u4 u5 u6 u7 u11 n w3 h3 hn
  generalize tellS { st with opens := l } n = st3 at HT ⊢
  go_enter Tryz.func128, Tryz.ntmps128
  go_wp2_with fail
  refine (U HL).mono ?_
  rintro e w1 ⟨rfl, m, rfl⟩
  go_wp2_with fail
  refine (U HP m).mono ?_
  rintro e w2 ⟨rfl, ⟨u4, u5, u6, u7, u11, h2⟩, hb2⟩
  have hb3 : Below B w w2 := (below_drawn (Below.refl B w) m).trans hb2
  clear HL HP hc hf h hb2
  have h3 := h2.alloc (.cells #[.string ⟨#[101, 108, 115, 101]⟩, .int .i64 a, .int .i64 n] 225)
  have hN : Blk (w2.alloc (.cells #[.string ⟨#[101, 108, 115, 101]⟩, .int .i64 a, .int .i64 n] 225)) w2.heap.size #[.string ⟨#[101, 108, 115, 101]⟩, .int .i64 a, .int .i64 n] 225 := Blk.new _ _ _
  have hNf : ¬ foot b [u4, u5, u6, u7, u11] w2.heap.size := fun e => by have := (h2.owned.foot h2.base h2.blk.lt e).2; omega
  have hb4 : Below B w (w2.alloc (.cells #[.string ⟨#[101, 108, 115, 101]⟩, .int .i64 a, .int .i64 n] 225)) := hb3.alloc (by have := h2.base; have := h2.blk.lt; omega) _
  have hc := hN.cell
  go_wp2_with fail
  refine (U HT _ u4 u5 u6 u7 u11 h3).mono ?_
  rintro e w5 ⟨rfl, h5, hm5⟩
  go_wp2_with fail
  refine bodyPost_ret (results_none rfl _ _ _) rfl ?_
  exact ⟨rfl, ⟨_, _, _, _, _, h5⟩, hb4.trans (h3.below hm5)⟩

set_option maxRecDepth 100000 in
set_option maxHeartbeats 1000000 in
theorem control_until (B b : Nat) (st : RS) (w : World) (h : RdE B w b st) (ht : st.token = ⟨#[117, 110, 116, 105, 108]⟩) (l : List (ByteArray × Int × Int)) (a : Int) (n : Nat) (ho : st.opens = l ++ [(⟨#[98, 101, 103, 105, 110]⟩, a, (n : Int))]) (hlen : st.c0.length < 4000 ∧ st.c1.length < 4000) :
    Calls Tryz.prog 128 #[.pointer (some ⟨b, 0, none⟩)] w fun e w' => e = .returned (.tuple #[]) ∧ RdE B w' b (putS { st with opens := l } 2 a) ∧ Below B w w' := by
  obtain ⟨i0, hi, hz0, hz1, hz2⟩ := info_parts Tryz.infoOpen
  obtain ⟨v4, v5, v6, v7, v11, h⟩ := h
  have HL := V (last_some B b st v4 v5 v6 v7 v11 w h l _ ho)
  have HP : Hid (∀ m, Calls Tryz.prog 177 #[.pointer (some ⟨b, 0, none⟩)] (w.drewN m) fun e w' => e = .returned (.agg #[.string ⟨#[98, 101, 103, 105, 110]⟩, .int .i64 a, .int .i64 n]) ∧ RdE B w' b { st with opens := l } ∧ Below B (w.drewN m) w') := fun m => pop_any B b st _ _ _ _ _ (w.drewN m) (h.drewN m) l _ ho
  have hc := h.blk.cell
  have hf := h.blk.free
  unfold rdArr at hc
  rw [ht] at hc
  clear ho
  have HT : Hid (∀ (w3 : World) (u4 u5 u6 u7 u11 : Value), Rd B w3 b { st with opens := l } u4 u5 u6 u7 u11 → Calls Tryz.prog 172 #[.pointer (some ⟨b, 0, none⟩), .int .i64 2, .int .i64 a] w3 fun e w' => e = .returned (.int .i64 (hereS { st with opens := l })) ∧ ∃ x4 x5 x6 x7 x11, Rd B w' b (putS { st with opens := l } 2 a) x4 x5 x6 x7 x11 ∧ Moved w3 b [u4, u5, u6, u7, u11] w' [x4, x5, x6, x7, x11]) := fun w3 u4 u5 u6 u7 u11 h3 => put_rd B b _ u4 u5 u6 u7 u11 2 a w3 h3 hlen
  generalize putS { st with opens := l } 2 a = st3 at HT ⊢
  go_enter Tryz.func128, Tryz.ntmps128
  go_wp2_with fail
  refine (U HL).mono ?_
  rintro e w1 ⟨rfl, m, rfl⟩
  go_wp2_with fail
  refine (U HP m).mono ?_
  rintro e w2 ⟨rfl, ⟨u4, u5, u6, u7, u11, h2⟩, hb2⟩
  have hb3 : Below B w w2 := (below_drawn (Below.refl B w) m).trans hb2
  clear HL HP hc hf h hb2
  have h3 := h2.alloc (.cells #[.string ⟨#[98, 101, 103, 105, 110]⟩, .int .i64 a, .int .i64 n] 225)
  have hN : Blk (w2.alloc (.cells #[.string ⟨#[98, 101, 103, 105, 110]⟩, .int .i64 a, .int .i64 n] 225)) w2.heap.size #[.string ⟨#[98, 101, 103, 105, 110]⟩, .int .i64 a, .int .i64 n] 225 := Blk.new _ _ _
  have hNf : ¬ foot b [u4, u5, u6, u7, u11] w2.heap.size := fun e => by have := (h2.owned.foot h2.base h2.blk.lt e).2; omega
  have hb4 : Below B w (w2.alloc (.cells #[.string ⟨#[98, 101, 103, 105, 110]⟩, .int .i64 a, .int .i64 n] 225)) := hb3.alloc (by have := h2.base; have := h2.blk.lt; omega) _
  have hc := hN.cell
  go_wp2_with fail
  refine (U HT _ u4 u5 u6 u7 u11 h3).mono ?_
  rintro e w5 ⟨rfl, x4, x5, x6, x7, x11, h5, hm5⟩
  go_wp2_with fail
  refine bodyPost_ret (results_none rfl _ _ _) rfl ?_
  exact ⟨rfl, ⟨_, _, _, _, _, h5⟩, hb4.trans (h3.below hm5)⟩

set_option maxRecDepth 100000 in
set_option maxHeartbeats 1000000 in
theorem control_loop (B b : Nat) (st : RS) (w : World) (h : RdE B w b st) (ht : st.token = ⟨#[108, 111, 111, 112]⟩) (l : List (ByteArray × Int × Int)) (a : Int) (n : Nat) (ho : st.opens = l ++ [(⟨#[100, 111]⟩, a, (n : Int))]) (hlen : st.c0.length < 4000 ∧ st.c1.length < 4000) :
    Calls Tryz.prog 128 #[.pointer (some ⟨b, 0, none⟩)] w fun e w' => e = .returned (.tuple #[]) ∧ RdE B w' b (putS { st with opens := l } 7 a) ∧ Below B w w' := by
  obtain ⟨i0, hi, hz0, hz1, hz2⟩ := info_parts Tryz.infoOpen
  obtain ⟨v4, v5, v6, v7, v11, h⟩ := h
  have HL := V (last_some B b st v4 v5 v6 v7 v11 w h l _ ho)
  have HP : Hid (∀ m, Calls Tryz.prog 177 #[.pointer (some ⟨b, 0, none⟩)] (w.drewN m) fun e w' => e = .returned (.agg #[.string ⟨#[100, 111]⟩, .int .i64 a, .int .i64 n]) ∧ RdE B w' b { st with opens := l } ∧ Below B (w.drewN m) w') := fun m => pop_any B b st _ _ _ _ _ (w.drewN m) (h.drewN m) l _ ho
  have hc := h.blk.cell
  have hf := h.blk.free
  unfold rdArr at hc
  rw [ht] at hc
  clear ho
  have HT : Hid (∀ (w3 : World) (u4 u5 u6 u7 u11 : Value), Rd B w3 b { st with opens := l } u4 u5 u6 u7 u11 → Calls Tryz.prog 172 #[.pointer (some ⟨b, 0, none⟩), .int .i64 7, .int .i64 a] w3 fun e w' => e = .returned (.int .i64 (hereS { st with opens := l })) ∧ ∃ x4 x5 x6 x7 x11, Rd B w' b (putS { st with opens := l } 7 a) x4 x5 x6 x7 x11 ∧ Moved w3 b [u4, u5, u6, u7, u11] w' [x4, x5, x6, x7, x11]) := fun w3 u4 u5 u6 u7 u11 h3 => put_rd B b _ u4 u5 u6 u7 u11 7 a w3 h3 hlen
  generalize putS { st with opens := l } 7 a = st3 at HT ⊢
  go_enter Tryz.func128, Tryz.ntmps128
  go_wp2_with fail
  refine (U HL).mono ?_
  rintro e w1 ⟨rfl, m, rfl⟩
  go_wp2_with fail
  refine (U HP m).mono ?_
  rintro e w2 ⟨rfl, ⟨u4, u5, u6, u7, u11, h2⟩, hb2⟩
  have hb3 : Below B w w2 := (below_drawn (Below.refl B w) m).trans hb2
  clear HL HP hc hf h hb2
  have h3 := h2.alloc (.cells #[.string ⟨#[100, 111]⟩, .int .i64 a, .int .i64 n] 225)
  have hN : Blk (w2.alloc (.cells #[.string ⟨#[100, 111]⟩, .int .i64 a, .int .i64 n] 225)) w2.heap.size #[.string ⟨#[100, 111]⟩, .int .i64 a, .int .i64 n] 225 := Blk.new _ _ _
  have hNf : ¬ foot b [u4, u5, u6, u7, u11] w2.heap.size := fun e => by have := (h2.owned.foot h2.base h2.blk.lt e).2; omega
  have hb4 : Below B w (w2.alloc (.cells #[.string ⟨#[100, 111]⟩, .int .i64 a, .int .i64 n] 225)) := hb3.alloc (by have := h2.base; have := h2.blk.lt; omega) _
  have hc := hN.cell
  go_wp2_with fail
  refine (U HT _ u4 u5 u6 u7 u11 h3).mono ?_
  rintro e w5 ⟨rfl, x4, x5, x6, x7, x11, h5, hm5⟩
  go_wp2_with fail
  refine bodyPost_ret (results_none rfl _ _ _) rfl ?_
  exact ⟨rfl, ⟨_, _, _, _, _, h5⟩, hb4.trans (h3.below hm5)⟩

set_option maxRecDepth 100000 in
set_option maxHeartbeats 1000000 in
theorem control_repeat (B b : Nat) (st : RS) (w : World) (h : RdE B w b st) (ht : st.token = ⟨#[114, 101, 112, 101, 97, 116]⟩) (l : List (ByteArray × Int × Int)) (a : Int) (n : Nat) (ho : st.opens = l ++ [(⟨#[119, 104, 105, 108, 101]⟩, a, (n : Int))]) (hlen : st.c0.length < 4000 ∧ st.c1.length < 4000) (hn : n < hereS (putS { st with opens := l } 1 a)) :
    Calls Tryz.prog 128 #[.pointer (some ⟨b, 0, none⟩)] w fun e w' => e = .returned (.tuple #[]) ∧ RdE B w' b (tellS (putS { st with opens := l } 1 a) n) ∧ Below B w w' := by
  obtain ⟨i0, hi, hz0, hz1, hz2⟩ := info_parts Tryz.infoOpen
  obtain ⟨v4, v5, v6, v7, v11, h⟩ := h
  have HL := V (last_some B b st v4 v5 v6 v7 v11 w h l _ ho)
  have HP : Hid (∀ m, Calls Tryz.prog 177 #[.pointer (some ⟨b, 0, none⟩)] (w.drewN m) fun e w' => e = .returned (.agg #[.string ⟨#[119, 104, 105, 108, 101]⟩, .int .i64 a, .int .i64 n]) ∧ RdE B w' b { st with opens := l } ∧ Below B (w.drewN m) w') := fun m => pop_any B b st _ _ _ _ _ (w.drewN m) (h.drewN m) l _ ho
  have hc := h.blk.cell
  have hf := h.blk.free
  unfold rdArr at hc
  rw [ht] at hc
  clear ho
  have HT : Hid (∀ (w3 : World) (u4 u5 u6 u7 u11 : Value), Rd B w3 b { st with opens := l } u4 u5 u6 u7 u11 → Calls Tryz.prog 172 #[.pointer (some ⟨b, 0, none⟩), .int .i64 1, .int .i64 a] w3 fun e w' => e = .returned (.int .i64 (hereS { st with opens := l })) ∧ ∃ x4 x5 x6 x7 x11, Rd B w' b (putS { st with opens := l } 1 a) x4 x5 x6 x7 x11 ∧ Moved w3 b [u4, u5, u6, u7, u11] w' [x4, x5, x6, x7, x11]) := fun w3 u4 u5 u6 u7 u11 h3 => put_rd B b _ u4 u5 u6 u7 u11 1 a w3 h3 hlen
  generalize putS { st with opens := l } 1 a = st3 at HT hn ⊢
  have HU : Hid (∀ (w3 : World) (u4 u5 u6 u7 u11 : Value), Rd B w3 b st3 u4 u5 u6 u7 u11 → Calls Tryz.prog 178 #[.pointer (some ⟨b, 0, none⟩), .int .i64 n] w3 fun e w' => e = .returned (.tuple #[]) ∧ Rd B w' b (tellS st3 n) u4 u5 u6 u7 u11 ∧ Moved w3 b [u4, u5, u6, u7, u11] w' [u4, u5, u6, u7, u11]) := fun w3 u4 u5 u6 u7 u11 h3 => tell_rd B b _ u4 u5 u6 u7 u11 n w3 h3 hn
  go_enter Tryz.func128, Tryz.ntmps128
  go_wp2_with fail
  refine (U HL).mono ?_
  rintro e w1 ⟨rfl, m, rfl⟩
  go_wp2_with fail
  refine (U HP m).mono ?_
  rintro e w2 ⟨rfl, ⟨u4, u5, u6, u7, u11, h2⟩, hb2⟩
  have hb3 : Below B w w2 := (below_drawn (Below.refl B w) m).trans hb2
  clear HL HP hc hf h hb2
  have h3 := h2.alloc (.cells #[.string ⟨#[119, 104, 105, 108, 101]⟩, .int .i64 a, .int .i64 n] 225)
  have hN : Blk (w2.alloc (.cells #[.string ⟨#[119, 104, 105, 108, 101]⟩, .int .i64 a, .int .i64 n] 225)) w2.heap.size #[.string ⟨#[119, 104, 105, 108, 101]⟩, .int .i64 a, .int .i64 n] 225 := Blk.new _ _ _
  have hNf : ¬ foot b [u4, u5, u6, u7, u11] w2.heap.size := fun e => by have := (h2.owned.foot h2.base h2.blk.lt e).2; omega
  have hb4 : Below B w (w2.alloc (.cells #[.string ⟨#[119, 104, 105, 108, 101]⟩, .int .i64 a, .int .i64 n] 225)) := hb3.alloc (by have := h2.base; have := h2.blk.lt; omega) _
  have hc := hN.cell
  go_wp2_with fail
  refine (U HT _ u4 u5 u6 u7 u11 h3).mono ?_
  rintro e w5 ⟨rfl, x4, x5, x6, x7, x11, h5, hm5⟩
  have hN5 := hm5.blk hN hNf
  clear hc
  have hc := hN5.cell
  go_wp2_with fail
  refine (U HU _ x4 x5 x6 x7 x11 h5).mono ?_
  rintro e w6 ⟨rfl, h6, hm6⟩
  go_wp2_with fail
  refine bodyPost_ret (results_none rfl _ _ _) rfl ?_
  exact ⟨rfl, ⟨_, _, _, _, _, h6⟩, (hb4.trans (h3.below hm5)).trans (h5.below hm6)⟩

set_option maxRecDepth 100000 in
set_option maxHeartbeats 1000000 in
theorem control_else (B b : Nat) (st : RS) (w : World) (h : RdE B w b st) (ht : st.token = ⟨#[101, 108, 115, 101]⟩) (l : List (ByteArray × Int × Int)) (a : Int) (n : Nat) (ho : st.opens = l ++ [(⟨#[105, 102]⟩, a, (n : Int))]) (hlen : st.c0.length < 4000 ∧ st.c1.length < 4000) (hn : n < hereS (putS { st with opens := l } 1 0)) (hop : (tellS (putS { st with opens := l } 1 0) n).opens.length < 4000) :
    Calls Tryz.prog 128 #[.pointer (some ⟨b, 0, none⟩)] w fun e w' => e = .returned (.tuple #[]) ∧ RdE B w' b (openS (tellS (putS { st with opens := l } 1 0) n) (⟨#[101, 108, 115, 101]⟩, 0, hereS { st with opens := l })) ∧ Below B w w' := by
  obtain ⟨i0, hi, hz0, hz1, hz2⟩ := info_parts Tryz.infoOpen
  obtain ⟨v4, v5, v6, v7, v11, h⟩ := h
  have HL := V (last_some B b st v4 v5 v6 v7 v11 w h l _ ho)
  have HP : Hid (∀ m, Calls Tryz.prog 177 #[.pointer (some ⟨b, 0, none⟩)] (w.drewN m) fun e w' => e = .returned (.agg #[.string ⟨#[105, 102]⟩, .int .i64 a, .int .i64 n]) ∧ RdE B w' b { st with opens := l } ∧ Below B (w.drewN m) w') := fun m => pop_any B b st _ _ _ _ _ (w.drewN m) (h.drewN m) l _ ho
  have hc := h.blk.cell
  have hf := h.blk.free
  unfold rdArr at hc
  rw [ht] at hc
  clear ho
  have HT : Hid (∀ (w3 : World) (u4 u5 u6 u7 u11 : Value), Rd B w3 b { st with opens := l } u4 u5 u6 u7 u11 → Calls Tryz.prog 172 #[.pointer (some ⟨b, 0, none⟩), .int .i64 1, .int .i64 0] w3 fun e w' => e = .returned (.int .i64 (hereS { st with opens := l })) ∧ ∃ x4 x5 x6 x7 x11, Rd B w' b (putS { st with opens := l } 1 0) x4 x5 x6 x7 x11 ∧ Moved w3 b [u4, u5, u6, u7, u11] w' [x4, x5, x6, x7, x11]) := fun w3 u4 u5 u6 u7 u11 h3 => put_rd B b _ u4 u5 u6 u7 u11 1 0 w3 h3 hlen
  generalize putS { st with opens := l } 1 0 = st3 at HT hn hop ⊢
  generalize hereS { st with opens := l } = hr at HT ⊢
  have HU : Hid (∀ (w3 : World) (u4 u5 u6 u7 u11 : Value), Rd B w3 b st3 u4 u5 u6 u7 u11 → Calls Tryz.prog 178 #[.pointer (some ⟨b, 0, none⟩), .int .i64 n] w3 fun e w' => e = .returned (.tuple #[]) ∧ Rd B w' b (tellS st3 n) u4 u5 u6 u7 u11 ∧ Moved w3 b [u4, u5, u6, u7, u11] w' [u4, u5, u6, u7, u11]) := fun w3 u4 u5 u6 u7 u11 h3 => tell_rd B b _ u4 u5 u6 u7 u11 n w3 h3 hn
  generalize tellS st3 n = st6 at HU hop ⊢
  go_enter Tryz.func128, Tryz.ntmps128
  go_wp2_with fail
  refine (U HL).mono ?_
  rintro e w1 ⟨rfl, m, rfl⟩
  go_wp2_with fail
  refine (U HP m).mono ?_
  rintro e w2 ⟨rfl, ⟨u4, u5, u6, u7, u11, h2⟩, hb2⟩
  have hb3 : Below B w w2 := (below_drawn (Below.refl B w) m).trans hb2
  clear HL HP hc hf h hb2
  have h3 := h2.alloc (.cells #[.string ⟨#[105, 102]⟩, .int .i64 a, .int .i64 n] 225)
  have hN : Blk (w2.alloc (.cells #[.string ⟨#[105, 102]⟩, .int .i64 a, .int .i64 n] 225)) w2.heap.size #[.string ⟨#[105, 102]⟩, .int .i64 a, .int .i64 n] 225 := Blk.new _ _ _
  have hNf : ¬ foot b [u4, u5, u6, u7, u11] w2.heap.size := fun e => by have := (h2.owned.foot h2.base h2.blk.lt e).2; omega
  have hb4 : Below B w (w2.alloc (.cells #[.string ⟨#[105, 102]⟩, .int .i64 a, .int .i64 n] 225)) := hb3.alloc (by have := h2.base; have := h2.blk.lt; omega) _
  have hc := hN.cell
  go_wp2_with fail
  refine (U HT _ u4 u5 u6 u7 u11 h3).mono ?_
  rintro e w5 ⟨rfl, x4, x5, x6, x7, x11, h5, hm5⟩
  have hN5 := hm5.blk hN hNf
  clear hc
  have hc := hN5.cell
  go_wp2_with fail
  refine (U HU _ x4 x5 x6 x7 x11 h5).mono ?_
  rintro e w6 ⟨rfl, h6, hm6⟩
  have hb7 := (hb4.trans (h3.below hm5)).trans (h5.below hm6)
  clear hc hN hN5 hm5 hm6 h5 h3
  have hlt := h6.blk.lt
  have HB := V h6.blk
  unfold rdArr at HB
  have hne := h6.ne 3 _ rfl
  have HW := V (ownsRow_alloc h6.o7 (.cells #[.string ⟨#[101, 108, 115, 101]⟩, .int .i64 0, .int .i64 hr] 225))
  have hBs : B ≤ (w6.alloc (.cells #[.string ⟨#[101, 108, 115, 101]⟩, .int .i64 0, .int .i64 hr] 225)).heap.size := by
    have := h6.base
    skip
    simp; omega
  have HBs := V hBs
  clear hBs
  have hc := h6.blk.cell
  have hf := h6.blk.free
  unfold rdArr at hc
  go_wp2_with (at_builtin; refine wpList_append_lies _ rfl (.tmp 80) (.tmp 83) 176 rfl B 225 i0 _ 3 32 Tryz.underlying176 hi hz0 hz1 hz2 rfl (by decide) x7 st6.opens.length (nameCells st6.opens) (by simp [Act.eval]) (U HW) ⟨w6.heap.size, 0, none⟩ 1 1 [.string ⟨#[101, 108, 115, 101]⟩, .int .i64 0, .int .i64 hr] (by simp [Act.eval]) rfl (World.news_of_block (Blk.new w6 _ _)) (oneCells3 _ _ _) (by omega) (by unfold maxLen; omega) (by omega) (U HBs) _ rfl ?_; intro g cap w9 hown hgrow hat hlt1; have hb9 := ((U HB).alloc _).grown hgrow hne; have hc9 := hb9.cell; have hf9 := hb9.free; have HO := V hown; have HG := V hgrow; have HA := V hat; clear hown hgrow hat hb9)
  refine bodyPost_ret (results_none rfl _ _ _) rfl ?_
  refine ⟨rfl, ⟨_, _, _, _, _, h6.grow7 (x := (⟨#[101, 108, 115, 101]⟩, 0, (hr : Int))) hop (grownBy_alloc' (U HG)) (U HO) (U HA) (by simp)⟩, ?_⟩
  exact hb7.trans ((below_grown_alloc' (by have := h6.base; omega) (fun k hk => (ownsRow_lt h6.o7 hk).2) (U HG)).setCell h6.base _)

set_option maxRecDepth 100000 in
set_option maxHeartbeats 1000000 in
theorem control_while (B b : Nat) (st : RS) (w : World) (h : RdE B w b st) (ht : st.token = ⟨#[119, 104, 105, 108, 101]⟩) (l : List (ByteArray × Int × Int)) (a : Int) (n : Nat) (ho : st.opens = l ++ [(⟨#[98, 101, 103, 105, 110]⟩, a, (n : Int))]) (hlen : st.c0.length < 4000 ∧ st.c1.length < 4000) (hop : (putS { st with opens := l } 2 0).opens.length < 4000) :
    Calls Tryz.prog 128 #[.pointer (some ⟨b, 0, none⟩)] w fun e w' => e = .returned (.tuple #[]) ∧ RdE B w' b (openS (putS { st with opens := l } 2 0) (⟨#[119, 104, 105, 108, 101]⟩, a, hereS { st with opens := l })) ∧ Below B w w' := by
  obtain ⟨i0, hi, hz0, hz1, hz2⟩ := info_parts Tryz.infoOpen
  obtain ⟨v4, v5, v6, v7, v11, h⟩ := h
  have HL := V (last_some B b st v4 v5 v6 v7 v11 w h l _ ho)
  have HP : Hid (∀ m, Calls Tryz.prog 177 #[.pointer (some ⟨b, 0, none⟩)] (w.drewN m) fun e w' => e = .returned (.agg #[.string ⟨#[98, 101, 103, 105, 110]⟩, .int .i64 a, .int .i64 n]) ∧ RdE B w' b { st with opens := l } ∧ Below B (w.drewN m) w') := fun m => pop_any B b st _ _ _ _ _ (w.drewN m) (h.drewN m) l _ ho
  have hc := h.blk.cell
  have hf := h.blk.free
  unfold rdArr at hc
  rw [ht] at hc
  clear ho
  have HT : Hid (∀ (w3 : World) (u4 u5 u6 u7 u11 : Value), Rd B w3 b { st with opens := l } u4 u5 u6 u7 u11 → Calls Tryz.prog 172 #[.pointer (some ⟨b, 0, none⟩), .int .i64 2, .int .i64 0] w3 fun e w' => e = .returned (.int .i64 (hereS { st with opens := l })) ∧ ∃ x4 x5 x6 x7 x11, Rd B w' b (putS { st with opens := l } 2 0) x4 x5 x6 x7 x11 ∧ Moved w3 b [u4, u5, u6, u7, u11] w' [x4, x5, x6, x7, x11]) := fun w3 u4 u5 u6 u7 u11 h3 => put_rd B b _ u4 u5 u6 u7 u11 2 0 w3 h3 hlen
  generalize putS { st with opens := l } 2 0 = st3 at HT hop ⊢
  generalize hereS { st with opens := l } = hr at HT ⊢
  go_enter Tryz.func128, Tryz.ntmps128
  go_wp2_with fail
  refine (U HL).mono ?_
  rintro e w1 ⟨rfl, m, rfl⟩
  go_wp2_with fail
  refine (U HP m).mono ?_
  rintro e w2 ⟨rfl, ⟨u4, u5, u6, u7, u11, h2⟩, hb2⟩
  have hb3 : Below B w w2 := (below_drawn (Below.refl B w) m).trans hb2
  clear HL HP hc hf h hb2
  have h3 := h2.alloc (.cells #[.string ⟨#[98, 101, 103, 105, 110]⟩, .int .i64 a, .int .i64 n] 225)
  have hN : Blk (w2.alloc (.cells #[.string ⟨#[98, 101, 103, 105, 110]⟩, .int .i64 a, .int .i64 n] 225)) w2.heap.size #[.string ⟨#[98, 101, 103, 105, 110]⟩, .int .i64 a, .int .i64 n] 225 := Blk.new _ _ _
  have hNf : ¬ foot b [u4, u5, u6, u7, u11] w2.heap.size := fun e => by have := (h2.owned.foot h2.base h2.blk.lt e).2; omega
  have hb4 : Below B w (w2.alloc (.cells #[.string ⟨#[98, 101, 103, 105, 110]⟩, .int .i64 a, .int .i64 n] 225)) := hb3.alloc (by have := h2.base; have := h2.blk.lt; omega) _
  have hc := hN.cell
  go_wp2_with fail
  refine (U HT _ u4 u5 u6 u7 u11 h3).mono ?_
  rintro e w5 ⟨rfl, x4, x5, x6, x7, x11, h5, hm5⟩
  have hN5 := hm5.blk hN hNf
  have hb7 := hb4.trans (h3.below hm5)
  have hNc := hN5.cell
  have hNl := hN5.lt
  clear hc hN hm5 h3
  have hlt := h5.blk.lt
  have HB := V h5.blk
  unfold rdArr at HB
  have hne := h5.ne 3 _ rfl
  have HW := V (ownsRow_alloc h5.o7 (.cells #[.string ⟨#[119, 104, 105, 108, 101]⟩, .int .i64 a, .int .i64 hr] 225))
  have hBs : B ≤ (w5.alloc (.cells #[.string ⟨#[119, 104, 105, 108, 101]⟩, .int .i64 a, .int .i64 hr] 225)).drew.heap.size := by
    have := h5.base
    show B ≤ (w5.alloc _).heap.size
    simp; omega
  have HBs := V hBs
  clear hBs
  have hc := h5.blk.cell
  have hf := h5.blk.free
  unfold rdArr at hc
  go_wp2_with fail
  go_region_law (refine step_append_lies _ rfl (.tmp 123) (.tmp 128) 176 rfl B 225 i0 _ 3 32 Tryz.underlying176 hi hz0 hz1 hz2 rfl (by decide) x7 st3.opens.length (nameCells st3.opens) (by simp [Act.eval]) (U HW) ⟨w5.heap.size, 0, none⟩ 1 1 [.string ⟨#[119, 104, 105, 108, 101]⟩, .int .i64 a, .int .i64 hr] (by simp [Act.eval]) rfl (World.news_of_block (Blk.new w5 _ _)) (oneCells3 _ _ _) (by omega) (by unfold maxLen; omega) (by omega) (U HBs) _ rfl ?_; intro g cap w9 hown hgrow hat hlt1; have hb9 := ((U HB).alloc _).drew.grown hgrow hne; have hc9 := hb9.cell; have hf9 := hb9.free; have HO := V hown; have HG := V hgrow; have HA := V hat; clear hown hgrow hat hb9)
  all_goals
    go_wp2
    refine bodyPost_ret (results_none rfl _ _ _) rfl ?_
    refine ⟨rfl, ⟨_, _, _, _, _, h5.grow7 (x := (⟨#[119, 104, 105, 108, 101]⟩, a, (hr : Int))) hop (grownBy_alloc (U HG)) (U HO) (U HA) (by simp)⟩, ?_⟩
    exact hb7.trans ((below_grown_alloc (by have := h5.base; omega) (fun k hk => (ownsRow_lt h5.o7 hk).2) (U HG)).setCell h5.base _)
set_option maxRecDepth 100000 in
set_option maxHeartbeats 1000000 in
theorem control_do (B b : Nat) (st : RS) (w : World) (h : RdE B w b st) (ht : st.token = ⟨#[100, 111]⟩) (hlen : st.c0.length < 4000 ∧ st.c1.length < 4000) (hop : (putS st 6 0).opens.length < 4000) :
    Calls Tryz.prog 128 #[.pointer (some ⟨b, 0, none⟩)] w fun e w' => e = .returned (.tuple #[]) ∧ RdE B w' b (openS (putS st 6 0) (⟨#[100, 111]⟩, (hereS st : Int) + 1, 0)) ∧ Below B w w' := by
  obtain ⟨i0, hi, hz0, hz1, hz2⟩ := info_parts Tryz.infoOpen
  obtain ⟨v4, v5, v6, v7, v11, h⟩ := h
  have HL := V (last_any B b st v4 v5 v6 v7 v11 w h)
  have HP : Hid (∀ n, Calls Tryz.prog 172 #[.pointer (some ⟨b, 0, none⟩), .int .i64 6, .int .i64 0] (w.drewN n) fun e w' => e = .returned (.int .i64 (hereS st)) ∧ RdE B w' b (putS st 6 0) ∧ Below B (w.drewN n) w') := fun n => put_any B b st 6 0 (w.drewN n) ⟨_, _, _, _, _, h.drewN n⟩ hlen
  have hhr : (hereS st : Int) ≤ 4000 := by unfold hereS; split <;> omega
  generalize putS st 6 0 = st1 at HP hop ⊢
  generalize hereS st = hr at HP hhr ⊢
  generalize lastS st = ls at HL
  have hc := h.blk.cell
  have hf := h.blk.free
  unfold rdArr at hc
  rw [ht] at hc
  go_enter Tryz.func128, Tryz.ntmps128
  go_wp2_with fail
  refine (U HL).mono ?_
  rintro e w1 ⟨rfl, n, rfl⟩
  go_wp2_with fail
  refine (U HP n).mono ?_
  rintro e w1 ⟨rfl, ⟨v4, v5, v6, v7, v11, h1⟩, hb1⟩
  clear HL HP hc hf h
  have hlt := h1.blk.lt
  have HB := V h1.blk
  unfold rdArr at HB
  have hne := h1.ne 3 v7 rfl
  have HW := V (ownsRow_alloc h1.o7 (.cells #[.string ⟨#[100, 111]⟩, .int .i64 ((hr : Int) + 1), .int .i64 0] 225))
  have hBs : B ≤ (w1.alloc (.cells #[.string ⟨#[100, 111]⟩, .int .i64 ((hr : Int) + 1), .int .i64 0] 225)).heap.size := by
    have := h1.base
    simp; omega
  have HBs := V hBs
  clear hBs
  have hc := h1.blk.cell
  have hf := h1.blk.free
  unfold rdArr at hc
  go_wp2_with (at_builtin; refine wpList_append_lies _ rfl (.tmp 56) (.tmp 60) 176 rfl B 225 i0 _ 3 32 Tryz.underlying176 hi hz0 hz1 hz2 rfl (by decide) v7 st1.opens.length (nameCells st1.opens) (by simp [Act.eval]) (U HW) ⟨w1.heap.size, 0, none⟩ 1 1 [.string ⟨#[100, 111]⟩, .int .i64 ((hr : Int) + 1), .int .i64 0] (by simp [Act.eval]) rfl (World.news_of_block (Blk.new w1 _ _)) (oneCells3 _ _ _) (by omega) (by unfold maxLen; omega) (by omega) (U HBs) _ rfl ?_; intro g cap w5 hown hgrow hat hlt1; have hb5 := ((U HB).alloc _).grown hgrow hne; have hc5 := hb5.cell; have hf5 := hb5.free; have HO := V hown; have HG := V hgrow; have HA := V hat; clear hown hgrow hat hb5)
  refine bodyPost_ret (results_none rfl _ _ _) rfl ?_
  refine ⟨rfl, ⟨_, _, _, _, _, h1.grow7 (x := (⟨#[100, 111]⟩, (hr : Int) + 1, 0)) hop (grownBy_alloc' (U HG)) (U HO) (U HA) (by simp)⟩, ?_⟩
  exact (below_drawn (Below.refl B w) n).trans (hb1.trans ((below_grown_alloc' (by have := h1.base; omega) (fun k hk => (ownsRow_lt h1.o7 hk).2) (U HG)).setCell h1.base _))

theorem Tryz.name176 : (Tryz.f176.name == "runtime.NumGoroutine") = false := by kernel_rfl
theorem Tryz.body176 : Tryz.f176.body.isNone = false := by kernel_rfl

theorem drewN_drewN (w : World) (a b : Nat) : (w.drewN a).drewN b = w.drewN (a + b) := by simp [World.drewN, Nat.add_assoc]
theorem drewN_alloc (w : World) (a : Nat) (o : Obj) : (w.drewN a).alloc o = (w.alloc o).drewN a := rfl

set_option maxRecDepth 100000 in
set_option maxHeartbeats 1000000 in
theorem control_begin (B b : Nat) (st : RS) (w : World) (h : RdE B w b st) (ht : st.token = ⟨#[98, 101, 103, 105, 110]⟩) (hop : st.opens.length < 4000) :
    Calls Tryz.prog 128 #[.pointer (some ⟨b, 0, none⟩)] w fun e w' => e = .returned (.tuple #[]) ∧ RdE B w' b (openS st (⟨#[98, 101, 103, 105, 110]⟩, hereS st, 0)) ∧ Below B w w' := by
  obtain ⟨i0, hi, hz0, hz1, hz2⟩ := info_parts Tryz.infoOpen
  obtain ⟨v4, v5, v6, v7, v11, h⟩ := h
  have HL := V (last_any B b st v4 v5 v6 v7 v11 w h)
  have HH : Hid (∀ n, Calls Tryz.prog 176 #[.pointer (some ⟨b, 0, none⟩)] (w.drewN n) fun e w' => e = .returned (.int .i64 (hereS st)) ∧ ∃ m, w' = w.drewN m) := by
    intro n
    refine (here_any B b st v4 v5 v6 v7 v11 (w.drewN n) (h.drewN n)).mono ?_
    rintro e w' ⟨rfl, m, rfl⟩
    exact ⟨rfl, n + m, by rw [drewN_drewN]⟩
  have HH' : Hid (∀ n, Calls Tryz.prog 176 #[.pointer (some ⟨b, 0, none⟩)] (w.drewN n).drew fun e w' => e = .returned (.int .i64 (hereS st)) ∧ ∃ m, w' = w.drewN m) := fun n => U HH (n + 1)
  generalize hereS st = hr at HH HH' ⊢
  generalize lastS st = ls at HL
  have hc := h.blk.cell
  have hf := h.blk.free
  unfold rdArr at hc
  rw [ht] at hc
  have hlt := h.blk.lt
  have HB := V h.blk
  unfold rdArr at HB
  rw [ht] at HB
  have hc2 := fun (m : Nat) (o : Obj) => (((U HB).drewN m).alloc o).cell
  have hne := h.ne 3 v7 rfl
  have HW : Hid (∀ n, (((w.drewN n).alloc (.cells #[.string ⟨#[98, 101, 103, 105, 110]⟩, .int .i64 hr, .int .i64 0] 225))).ownsRow B 225 3 v7 st.opens.length (nameCells st.opens)) := fun n => ownsRow_alloc (h.drewN n).o7 _
  have HBs : Hid (∀ n, B ≤ ((w.drewN n).alloc (.cells #[.string ⟨#[98, 101, 103, 105, 110]⟩, .int .i64 hr, .int .i64 0] 225)).heap.size) := by
    intro n
    have := h.base
    simp; omega
  go_enter Tryz.func128, Tryz.ntmps128
  go_wp2_with fail
  refine (U HL).mono ?_
  rintro e w1 ⟨rfl, n, rfl⟩
  go_wp2_with fail
  go_region_law (first | (refine step_call rfl 176 #[.tmp 41] #[173] rfl Tryz.func176 Tryz.name176 Tryz.body176 #[.pointer (some ⟨b, 0, none⟩)] (by first | (simp [Act.eval]; done) | (simp [Act.eval, Act.put]; done) | rfl) (U HH _) ?_; rintro e w1 ⟨rfl, m, rfl⟩; refine ⟨_, rfl, ?_⟩) | (refine step_call rfl 176 #[.tmp 41] #[173] rfl Tryz.func176 Tryz.name176 Tryz.body176 #[.pointer (some ⟨b, 0, none⟩)] (by first | (simp [Act.eval]; done) | (simp [Act.eval, Act.put]; done) | rfl) (U HH' _) ?_; rintro e w1 ⟨rfl, m, rfl⟩; refine ⟨_, rfl, ?_⟩) | (refine step_append_lies _ rfl (.tmp 40) (.tmp 44) 176 rfl B 225 i0 _ 3 32 Tryz.underlying176 hi hz0 hz1 hz2 rfl (by decide) v7 st.opens.length (nameCells st.opens) (by simp [Act.eval]) (U HW _) ⟨w.heap.size, 0, none⟩ 1 1 [.string ⟨#[98, 101, 103, 105, 110]⟩, .int .i64 hr, .int .i64 0] (by simp [Act.eval]) rfl (World.news_of_block (Blk.new w _ _)) (oneCells3 _ _ _) (by omega) (by unfold maxLen; omega) (by omega) (U HBs _) _ rfl ?_; intro g cap w2 hown hgrow hat hlt1; have hb1 := (((U HB).drewN _).alloc _).grown hgrow hne; have hc1 := hb1.cell; have hf1 := hb1.free; have HO := V hown; have HG := V hgrow; have HA := V hat; clear hown hgrow hat hb1))
  all_goals
    go_wp2
    refine bodyPost_ret (results_none rfl _ _ _) rfl ?_
    refine ⟨rfl, ⟨_, _, _, _, _, (h.drewN _).grow7 (x := (⟨#[98, 101, 103, 105, 110]⟩, (hr : Int), 0)) hop (grownBy_alloc' (U HG)) (U HO) (U HA) (by simp)⟩, ?_⟩
    exact (below_drawn (Below.refl B w) _).trans ((below_grown_alloc' (by have := h.base; show B ≤ w.heap.size; omega) (fun k hk => (ownsRow_lt h.o7 hk).2) (U HG)).setCell h.base _)
end Go.Proofs.YtmeiikjpaepogaaGreatDoor
