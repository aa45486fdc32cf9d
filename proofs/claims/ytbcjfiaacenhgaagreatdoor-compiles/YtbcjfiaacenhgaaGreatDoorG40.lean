/- The program's compiler: openBegin. -/
import Derived.Test.YtbcjfiaacenhgaaGreatDoorG33
import Derived.Test.YtbcjfiaacenhgaaGreatDoorG39
namespace Go.Proofs.YtbcjfiaacenhgaaGreatDoor
open Go Go.RowKit

set_option maxRecDepth 100000 in
set_option maxHeartbeats 4000000 in
theorem openBegin_any (B : Nat) (x : CX) (st : RS) (w : World) (h : CpE B w x st) (hop : st.opens.length < 3980) :
    Calls Tryz.prog 82 #[.pointer (some ⟨x.b, 0, none⟩)] w fun e w' => e = .returned (.tuple #[]) ∧ CpE B w' x (openS st (⟨#[98, 101, 103, 105, 110]⟩, hereS st, 0)) ∧ BoxStill w w' ∧ Below B w w' := by
  obtain ⟨fw, fo, h⟩ := h.f
  have hb0 : Below w.heap.size w (w.alloc (.cells #[.pointer (some ⟨x.b, 0, none⟩)] 105)) := by (repeat (first | with_reducible refine below_drew ?_ | with_reducible refine below_drawn ?_ _ | with_reducible refine below_longer ?_ _ | (with_reducible refine Below.alloc ?_ ?_ _; rotate_left; (first | omega | ((try simp only [World.size_up]) <;> (try simp only [World.size_dr]) <;> (try simp only [World.size_drN]) <;> (try simp only [World.size_up]) <;> (try simp only [World.size_dr]) <;> (try simp only [World.size_up]) <;> omega))))); (with_reducible exact Below.refl _ _)
  have hcb : Blk (w.alloc (.cells #[.pointer (some ⟨x.b, 0, none⟩)] 105)) w.heap.size #[.pointer (some ⟨x.b, 0, none⟩)] 105 := by (repeat (first | with_reducible refine Blk.drew ?_ | with_reducible refine Blk.drewN ?_ _ | (with_reducible refine blk_newAt _ _ ?_; (first | omega | ((try simp only [World.size_up]) <;> (try simp only [World.size_dr]) <;> (try simp only [World.size_drN]) <;> (try simp only [World.size_up]) <;> (try simp only [World.size_dr]) <;> (try simp only [World.size_up]) <;> omega))) | with_reducible refine Blk.alloc ?_ _)); (first | done | with_reducible assumption)
  have h0 := h.below hb0
  have hB := h.size
  obtain ⟨s0, vo, hblk⟩ := h0.blk
  have hc := hblk.cell
  have hxl := h.size0
  have hxa0 : x.b < w.heap.size := by omega
  have hxb0 : x.b ≤ w.heap.size := by omega
  have hxa1 : x.b < w.heap.size + 1 := by omega
  have hxb1 : x.b ≤ w.heap.size + 1 := by omega
  have hxa2 : x.b < w.heap.size + 1 + 1 := by omega
  have hxb2 : x.b ≤ w.heap.size + 1 + 1 := by omega
  have hxa3 : x.b < w.heap.size + 1 + 1 + 1 := by omega
  have hxb3 : x.b ≤ w.heap.size + 1 + 1 + 1 := by omega
  have hxa4 : x.b < w.heap.size + 1 + 1 + 1 + 1 := by omega
  have hxb4 : x.b ≤ w.heap.size + 1 + 1 + 1 + 1 := by omega
  have hxa5 : x.b < w.heap.size + 1 + 1 + 1 + 1 + 1 := by omega
  have hxb5 : x.b ≤ w.heap.size + 1 + 1 + 1 + 1 + 1 := by omega
  unfold cpArr at hc
  have H0 := hide h0
  have hsz : (w.alloc (.cells #[.pointer (some ⟨x.b, 0, none⟩)] 105)).heap.size = w.heap.size + 1 := by simp
  have hcc := hcb.cell
  have HCB := hide hcb
  have HB0 := hide hb0
  clear hblk hcb hb0 h h0
  have HNX := hide (nextF_any B x st _ (unhide H0).e)
  generalize hhx : hereX x st = hx at *
  have HHX := hide hhx
  clear hhx
  go_enter Tryz.func82, Tryz.ntmps82
  go_wp2_with fail
  refine (unhide HNX).mono ?_
  rintro e w1 ⟨rfl, rfl⟩
  generalize w.alloc (.cells #[.pointer (some ⟨x.b, 0, none⟩)] 105) = W0 at *
  go_wp2_with fail
  have hb1 : Below W0.heap.size W0 (W0.alloc (.cells #[.int .i64 (hereS st)] 2)) := by (repeat (first | with_reducible refine below_drew ?_ | with_reducible refine below_drawn ?_ _ | with_reducible refine below_longer ?_ _ | (with_reducible refine Below.alloc ?_ ?_ _; rotate_left; (first | omega | ((try simp only [World.size_up]) <;> (try simp only [World.size_dr]) <;> (try simp only [World.size_drN]) <;> (try simp only [World.size_up]) <;> (try simp only [World.size_dr]) <;> (try simp only [World.size_up]) <;> omega))))); (with_reducible exact Below.refl _ _)
  have e1 : (W0.alloc (.cells #[.int .i64 (hereS st)] 2)).heap.size = w.heap.size + 1 + 1 := by rw [World.size_up, hsz]
  have hcb1 := (unhide HCB).alloc (.cells #[.int .i64 (hereS st)] 2)
  have hp := pushW B x st (W0.alloc (.cells #[.int .i64 (hereS st)] 2)) ((unhide H0).below hb1).e (.func (.func 93) #[] #[.pointer (some ⟨w.heap.size, 0, none⟩), .pointer (some ⟨w.heap.size + 1, 0, none⟩)]) rfl (⟨#[98, 101, 103, 105, 110]⟩, hereS st, 0) ⟨_, hcb1, Or.inr (Or.inr (Or.inl ⟨rfl, _, (by (repeat (first | with_reducible refine Blk.drew ?_ | with_reducible refine Blk.drewN ?_ _ | (with_reducible refine blk_newAt _ _ ?_; (first | omega | ((try simp only [World.size_up]) <;> (try simp only [World.size_dr]) <;> (try simp only [World.size_drN]) <;> (try simp only [World.size_up]) <;> (try simp only [World.size_dr]) <;> (try simp only [World.size_up]) <;> omega))) | with_reducible refine Blk.alloc ?_ _)); (first | done | with_reducible assumption)), rfl⟩))⟩ (by omega)
  rw [e1] at hp
  refine hp.mono ?_
  rintro e w2 ⟨rfl, k1, k2, k3⟩
  clear hp hcb1
  have HB1 := hide hb1
  clear hb1
  go_wp2_with fail
  go_end0
  exact ⟨rfl, k1, (BoxStill.ofBelow (unhide HB0)).trans ((BoxStill.ofBelow (unhide HB1)).trans k2), (below_less (unhide HB0) (by omega)).trans ((below_less (unhide HB1) (by omega)).trans k3)⟩

end Go.Proofs.YtbcjfiaacenhgaaGreatDoor

/- The program's compiler: openDo. -/
namespace Go.Proofs.YtbcjfiaacenhgaaGreatDoor
open Go Go.RowKit

set_option maxRecDepth 100000 in
set_option maxHeartbeats 4000000 in
theorem openDo_any (B : Nat) (x : CX) (st : RS) (w : World) (h : CpE B w x st) (hlen : hereS st < 4000) (hop : st.opens.length < 3980) :
    Calls Tryz.prog 83 #[.pointer (some ⟨x.b, 0, none⟩)] w fun e w' => e = .returned (.tuple #[]) ∧ CpE B w' x (openS (putS st 6 0) (⟨#[100, 111]⟩, (hereS st : Int) + 1, 0)) ∧ BoxStill w w' ∧ Below B w w' := by
  obtain ⟨fw, fo, h⟩ := h.f
  have hb0 : Below w.heap.size w (w.alloc (.cells #[.pointer (some ⟨x.b, 0, none⟩)] 105)) := by (repeat (first | with_reducible refine below_drew ?_ | with_reducible refine below_drawn ?_ _ | with_reducible refine below_longer ?_ _ | (with_reducible refine Below.alloc ?_ ?_ _; rotate_left; (first | omega | ((try simp only [World.size_up]) <;> (try simp only [World.size_dr]) <;> (try simp only [World.size_drN]) <;> (try simp only [World.size_up]) <;> (try simp only [World.size_dr]) <;> (try simp only [World.size_up]) <;> omega))))); (with_reducible exact Below.refl _ _)
  have hcb : Blk (w.alloc (.cells #[.pointer (some ⟨x.b, 0, none⟩)] 105)) w.heap.size #[.pointer (some ⟨x.b, 0, none⟩)] 105 := by (repeat (first | with_reducible refine Blk.drew ?_ | with_reducible refine Blk.drewN ?_ _ | (with_reducible refine blk_newAt _ _ ?_; (first | omega | ((try simp only [World.size_up]) <;> (try simp only [World.size_dr]) <;> (try simp only [World.size_drN]) <;> (try simp only [World.size_up]) <;> (try simp only [World.size_dr]) <;> (try simp only [World.size_up]) <;> omega))) | with_reducible refine Blk.alloc ?_ _)); (first | done | with_reducible assumption)
  have h0 := h.below hb0
  have hB := h.size
  obtain ⟨s0, vo, hblk⟩ := h0.blk
  have hc := hblk.cell
  have hxl := h.size0
  have hxa0 : x.b < w.heap.size := by omega
  have hxb0 : x.b ≤ w.heap.size := by omega
  have hxa1 : x.b < w.heap.size + 1 := by omega
  have hxb1 : x.b ≤ w.heap.size + 1 := by omega
  have hxa2 : x.b < w.heap.size + 1 + 1 := by omega
  have hxb2 : x.b ≤ w.heap.size + 1 + 1 := by omega
  have hxa3 : x.b < w.heap.size + 1 + 1 + 1 := by omega
  have hxb3 : x.b ≤ w.heap.size + 1 + 1 + 1 := by omega
  have hxa4 : x.b < w.heap.size + 1 + 1 + 1 + 1 := by omega
  have hxb4 : x.b ≤ w.heap.size + 1 + 1 + 1 + 1 := by omega
  have hxa5 : x.b < w.heap.size + 1 + 1 + 1 + 1 + 1 := by omega
  have hxb5 : x.b ≤ w.heap.size + 1 + 1 + 1 + 1 + 1 := by omega
  unfold cpArr at hc
  have HADD := hide (addW B x st _ fw fo h0 6 0 hlen)
  have H0 := hide h0
  have hsz : (w.alloc (.cells #[.pointer (some ⟨x.b, 0, none⟩)] 105)).heap.size = w.heap.size + 1 := by simp
  have hcc := hcb.cell
  have HCB := hide hcb
  have HB0 := hide hb0
  clear hblk hcb hb0 h h0
  generalize hhx : hereX x st = hx at *
  have HHX := hide hhx
  clear hhx
  go_enter Tryz.func83, Tryz.ntmps83
  go_wp2_with fail
  generalize w.alloc (.cells #[.pointer (some ⟨x.b, 0, none⟩)] 105) = W0 at *
  go_cut [] from 3 to 19 (fun wc => CpF B wc x (putS st 6 0) fw fo ∧ Things W0 x.b st fw fo ∧ BoxStill W0 wc ∧ Below B W0 wc)
  case first =>
    go_region_law (first
      | (refine step_call rfl 48 #[.const (.int .i64 6)] #[3] rfl Tryz.func48 Tryz.name48 Tryz.body48 #[.int .i64 6] (by first | (simp [Act.eval]; done) | rfl) (plainI_any 6 _) ?_; rintro e w1 ⟨rfl, rfl⟩; refine ⟨_, rfl, ?_⟩)
      | (refine step_call rfl 47 #[.tmp 6, .tmp 8] #[110, 30] rfl Tryz.func47 Tryz.name47 Tryz.body47 #[.pointer (some ⟨hx, 0, none⟩), .slice (some ⟨w.heap.size + 1 + 1, 0, none⟩) 1 1] (by first | (simp [Act.eval]; done) | rfl) (unhide HADD _ (w.heap.size + 1 + 1) (by (repeat (first | with_reducible refine below_drew ?_ | with_reducible refine below_drawn ?_ _ | with_reducible refine below_longer ?_ _ | (with_reducible refine Below.alloc ?_ ?_ _; rotate_left; (first | omega | ((try simp only [World.size_up]) <;> (try simp only [World.size_dr]) <;> (try simp only [World.size_drN]) <;> (try simp only [World.size_up]) <;> (try simp only [World.size_dr]) <;> (try simp only [World.size_up]) <;> omega))))); (with_reducible exact Below.refl _ _)) (by (repeat (first | with_reducible refine Blk.drew ?_ | with_reducible refine Blk.drewN ?_ _ | (with_reducible refine blk_newAt _ _ ?_; (first | omega | ((try simp only [World.size_up]) <;> (try simp only [World.size_dr]) <;> (try simp only [World.size_drN]) <;> (try simp only [World.size_up]) <;> (try simp only [World.size_dr]) <;> (try simp only [World.size_up]) <;> omega))) | with_reducible refine Blk.alloc ?_ _)); (first | done | with_reducible assumption))) ?_; rintro e w1 ⟨rfl, h2, h1⟩; refine ⟨_, rfl, ?_⟩; skip; have H1 := hide h1; clear h1 h2))
    all_goals
      go_wp2_with fail
      go_meet
      exact unhide H1
  case rest =>
    obtain ⟨hF, hT, hbx, hbl⟩ := hcut
    have hcb := hbx _ _ _ (unhide HCB) (Or.inl rfl)
    have hcc2 := hcb.cell
    have hnx := nextF_any B x (putS st 6 0) wc hF.e
    rw [hereX_put, unhide HHX, hereS_put, show ((hereS st + 1 : Nat) : Int) = (hereS st : Int) + 1 by omega] at hnx
    obtain ⟨s1, vo1, hblk1⟩ := hF.blk
    have hc1 := hblk1.cell
    unfold cpArr at hc1
    rw [hereX_put, unhide HHX] at hc1
    have HNX := hide hnx
    have H1 := hide (And.intro hcb (And.intro hF (And.intro hbx hbl)))
    clear hF hT hbx hbl hcb hcc hc HADD hnx hblk1
    have hwl : w.heap.size < wc.heap.size := by have := (unhide H1).1.lt; exact this
    go_wp2_with fail
    refine (unhide HNX).mono ?_
    rintro e w1 ⟨rfl, rfl⟩
    go_wp2_with fail
    have hb1 : Below w1.heap.size w1 (w1.alloc (.cells #[.int .i64 ((hereS st : Int) + 1)] 2)) := by (repeat (first | with_reducible refine below_drew ?_ | with_reducible refine below_drawn ?_ _ | with_reducible refine below_longer ?_ _ | (with_reducible refine Below.alloc ?_ ?_ _; rotate_left; (first | omega | ((try simp only [World.size_up]) <;> (try simp only [World.size_dr]) <;> (try simp only [World.size_drN]) <;> (try simp only [World.size_up]) <;> (try simp only [World.size_dr]) <;> (try simp only [World.size_up]) <;> omega))))); (with_reducible exact Below.refl _ _)
    have e1 : (w1.alloc (.cells #[.int .i64 ((hereS st : Int) + 1)] 2)).heap.size = w1.heap.size + 1 := by rw [World.size_up]
    obtain ⟨hcb, hF, hbx, hbl⟩ := unhide H1
    have hcb1 := hcb.alloc (.cells #[.int .i64 ((hereS st : Int) + 1)] 2)
    have hp := pushW B x (putS st 6 0) (w1.alloc (.cells #[.int .i64 ((hereS st : Int) + 1)] 2)) (hF.below hb1).e (.func (.func 95) #[] #[.pointer (some ⟨w.heap.size, 0, none⟩), .pointer (some ⟨w1.heap.size, 0, none⟩)]) rfl (⟨#[100, 111]⟩, (hereS st : Int) + 1, 0) ⟨_, hcb1, Or.inr (Or.inr (Or.inr (Or.inr ⟨rfl, _, (by (repeat (first | with_reducible refine Blk.drew ?_ | with_reducible refine Blk.drewN ?_ _ | (with_reducible refine blk_newAt _ _ ?_; (first | omega | ((try simp only [World.size_up]) <;> (try simp only [World.size_dr]) <;> (try simp only [World.size_drN]) <;> (try simp only [World.size_up]) <;> (try simp only [World.size_dr]) <;> (try simp only [World.size_up]) <;> omega))) | with_reducible refine Blk.alloc ?_ _)); (first | done | with_reducible assumption)), rfl⟩)))⟩ (by rw [(putS_as _ _ _).2.2]; omega)
    rw [e1] at hp
    refine hp.mono ?_
    rintro e w2 ⟨rfl, k1, k2, k3⟩
    have HB1 := hide hb1
    clear hp hcb1 hcb hF hbx hbl hb1 hcc2 hc1
    go_wp2_with fail
    go_end0
    obtain ⟨hcb, hF, hbx, hbl⟩ := unhide H1
    have hsF := hF.size
    exact ⟨rfl, k1, (BoxStill.ofBelow (unhide HB0)).trans (hbx.trans ((BoxStill.ofBelow (unhide HB1)).trans k2)), (below_less (unhide HB0) (by omega)).trans (hbl.trans ((below_less (unhide HB1) (by omega)).trans k3))⟩

end Go.Proofs.YtbcjfiaacenhgaaGreatDoor

/- The program's compiler: follow. -/
namespace Go.Proofs.YtbcjfiaacenhgaaGreatDoor
open Go Go.RowKit

set_option maxRecDepth 100000 in
set_option maxHeartbeats 4000000 in
theorem fol_op (B : Nat) (x : CX) (st : RS) (w : World) (h : CpE B w x st) (t : ByteArray) (o : Int) (hlen : hereS st < 4000) (h0 : st.err = 0) :
    Calls Tryz.prog 67 #[.pointer (some ⟨x.b, 0, none⟩), .agg #[.string t, .int .i64 0, .int .i64 o]] w (Took B w x (putS st o 0)) := by
  have hb0 : Below w.heap.size w (w.alloc (.cells #[.string t, .int .i64 0, .int .i64 o] 140)) := by (repeat (first | with_reducible refine below_drew ?_ | with_reducible refine below_drawn ?_ _ | with_reducible refine below_longer ?_ _ | (with_reducible refine Below.alloc ?_ ?_ _; rotate_left; (first | omega | ((try simp only [World.size_up]) <;> (try simp only [World.size_dr]) <;> (try simp only [World.size_drN]) <;> (try simp only [World.size_up]) <;> (try simp only [World.size_dr]) <;> (try simp only [World.size_up]) <;> omega))))); (with_reducible exact Below.refl _ _)
  have hmb : Blk (w.alloc (.cells #[.string t, .int .i64 0, .int .i64 o] 140)) w.heap.size #[.string t, .int .i64 0, .int .i64 o] 140 := Blk.new _ _ _
  have hB := h.size
  obtain ⟨fw, fo, hF⟩ := (h.below hb0).f
  obtain ⟨s0, vo, hblk⟩ := hF.blk
  have hc := hblk.cell
  unfold cpArr at hc
  have hmc := hmb.cell
  have hml := hmb.lt
  have hxl := hblk.lt
  have HADD := hide (addW B x st _ fw fo hF o 0 hlen)
  have HB0 := hide hb0
  have HP0 := hide (show (putS st o 0).err = 0 by unfold putS; split <;> exact h0)
  clear h hb0 hmb hblk hF h0
  generalize hereX x st = hx at *
  go_enter Tryz.func67, Tryz.ntmps67
  go_wp2_with fail
  generalize w.alloc (.cells #[.string t, .int .i64 0, .int .i64 o] 140) = W0 at *
  have hxa : x.b < W0.heap.size + 1 := by omega
  have hxb : x.b ≤ W0.heap.size := by omega
  have hxc : x.b ≤ W0.heap.size + 1 := by omega
  have hxd : x.b < W0.heap.size + 1 + 1 := by omega
  have hma : w.heap.size < W0.heap.size + 1 := by omega
  have hmb : w.heap.size ≤ W0.heap.size := by omega
  have hmc1 : w.heap.size ≤ W0.heap.size + 1 := by omega
  have hmd : w.heap.size < W0.heap.size + 1 + 1 := by omega
  go_region_law (first
      | (refine step_call rfl 48 #[.tmp 18] #[3] rfl Tryz.func48 Tryz.name48 Tryz.body48 #[.int .i64 o] (by first | (simp [Act.eval]; done) | (simp [Act.eval, Act.put]; done) | rfl) (plainI_any o _) ?_; rintro e w1 ⟨rfl, rfl⟩; refine ⟨_, rfl, ?_⟩)
      | (refine step_call rfl 47 #[.tmp 16, .tmp 20] #[110, 30] rfl Tryz.func47 Tryz.name47 Tryz.body47 #[.pointer (some ⟨hx, 0, none⟩), .slice (some ⟨W0.heap.size + 1, 0, none⟩) 1 1] (by first | (simp [Act.eval]; done) | (simp [Act.eval, Act.put]; done) | rfl) (unhide HADD _ (W0.heap.size + 1) (by (repeat (first | with_reducible refine below_drew ?_ | with_reducible refine below_drawn ?_ _ | with_reducible refine below_longer ?_ _ | (with_reducible refine Below.alloc ?_ ?_ _; rotate_left; (first | omega | ((try simp only [World.size_up]) <;> (try simp only [World.size_dr]) <;> (try simp only [World.size_drN]) <;> (try simp only [World.size_up]) <;> (try simp only [World.size_dr]) <;> (try simp only [World.size_up]) <;> omega))))); (with_reducible exact Below.refl _ _)) (by (repeat (first | with_reducible refine Blk.drew ?_ | with_reducible refine Blk.drewN ?_ _ | (with_reducible refine blk_newAt _ _ ?_; (first | omega | ((try simp only [World.size_up]) <;> (try simp only [World.size_dr]) <;> (try simp only [World.size_drN]) <;> (try simp only [World.size_up]) <;> (try simp only [World.size_dr]) <;> (try simp only [World.size_up]) <;> omega))) | with_reducible refine Blk.alloc ?_ _)); (first | done | with_reducible assumption))) ?_; rintro e w1 ⟨rfl, h2, h1⟩; refine ⟨_, rfl, ?_⟩; have H1 := hide h1; clear h1 h2))
  all_goals
    go_wp2_with fail
    go_ret
    obtain ⟨k1, _, k2, k3⟩ := unhide H1
    exact Took.ok (unhide HP0) k1.e ((below_less (unhide HB0) hB).trans k3)

set_option maxRecDepth 100000 in
set_option maxHeartbeats 4000000 in
theorem fol_recur (B : Nat) (x : CX) (w : World) (hB : B ≤ w.heap.size) (t : ByteArray) (o : Int) (r : RS)
    (hcall : ∀ W : World, Below w.heap.size w W → Calls Tryz.prog 80 #[.pointer (some ⟨x.b, 0, none⟩)] W (Took B W x r)) :
    Calls Tryz.prog 67 #[.pointer (some ⟨x.b, 0, none⟩), .agg #[.string t, .int .i64 4, .int .i64 o]] w (Took B w x r) := by
  have hb0 : Below w.heap.size w (w.alloc (.cells #[.string t, .int .i64 4, .int .i64 o] 140)) := by (repeat (first | with_reducible refine below_drew ?_ | with_reducible refine below_drawn ?_ _ | with_reducible refine below_longer ?_ _ | (with_reducible refine Below.alloc ?_ ?_ _; rotate_left; (first | omega | ((try simp only [World.size_up]) <;> (try simp only [World.size_dr]) <;> (try simp only [World.size_drN]) <;> (try simp only [World.size_up]) <;> (try simp only [World.size_dr]) <;> (try simp only [World.size_up]) <;> omega))))); (with_reducible exact Below.refl _ _)
  have HC := hide (hcall _ hb0)
  have HB := hide (below_less hb0 hB)
  clear hcall hb0
  go_enter Tryz.func67, Tryz.ntmps67
  go_wp2_with fail
  refine (unhide HC).mono ?_
  rintro e w1 ⟨rfl, h1, h2, h3⟩
  have H1 := hide (And.intro h1 (And.intro h2 h3))
  clear h1 h2 h3 HC
  go_wp2_with fail
  go_ret
  exact ⟨rfl, (unhide H1).1, (unhide H1).2.1, (unhide HB).trans (unhide H1).2.2⟩
theorem fol_recurse (B : Nat) (x : CX) (st : RS) (w : World) (h : CpE B w x st) (t : ByteArray) (o : Int) (hlen : hereS st < 4000) (h0 : st.err = 0) :
    Calls Tryz.prog 67 #[.pointer (some ⟨x.b, 0, none⟩), .agg #[.string t, .int .i64 4, .int .i64 o]] w (Took B w x (if 0 ≤ st.start then putS st 3 st.start else failS st 2)) := by
  refine fol_recur B x w h.size t o _ (fun W hW => ?_)
  have h1 := h.below hW
  by_cases hs : 0 ≤ st.start
  · rw [if_pos hs]
    refine (recur_yes B x st _ h1 hs hlen).mono ?_
    rintro e w' ⟨rfl, k1, _, k3⟩
    exact Took.ok (by unfold putS; split <;> exact h0) k1 k3
  · rw [if_neg hs]
    refine (recur_no B x st _ h1 (by omega)).mono ?_
    rintro e w' ⟨rfl, k0, k3⟩
    exact Took.fail h0 (by decide) k0.atIs k3

set_option maxRecDepth 100000 in
set_option maxHeartbeats 4000000 in
theorem fol_if (B : Nat) (x : CX) (st : RS) (w : World) (h : CpE B w x st) (t : ByteArray) (o : Int) (hlen : hereS st < 4000) (hop : st.opens.length < 3980) (h0 : st.err = 0) :
    Calls Tryz.prog 67 #[.pointer (some ⟨x.b, 0, none⟩), .agg #[.string t, .int .i64 5, .int .i64 o]] w (Took B w x (openS (putS st 2 0) (⟨#[105, 102]⟩, 0, hereS st))) := by
  have hb0 : Below w.heap.size w (w.alloc (.cells #[.string t, .int .i64 5, .int .i64 o] 140)) := by (repeat (first | with_reducible refine below_drew ?_ | with_reducible refine below_drawn ?_ _ | with_reducible refine below_longer ?_ _ | (with_reducible refine Below.alloc ?_ ?_ _; rotate_left; (first | omega | ((try simp only [World.size_up]) <;> (try simp only [World.size_dr]) <;> (try simp only [World.size_drN]) <;> (try simp only [World.size_up]) <;> (try simp only [World.size_dr]) <;> (try simp only [World.size_up]) <;> omega))))); (with_reducible exact Below.refl _ _)
  have HC := hide (openIf_any B x st _ (h.below hb0) hlen hop)
  have HB := hide (below_less hb0 h.size)
  have HP0 := hide (show (openS (putS st 2 0) (⟨#[105, 102]⟩, 0, hereS st)).err = 0 by unfold openS putS; split <;> exact h0)
  clear h hb0 h0
  go_enter Tryz.func67, Tryz.ntmps67
  go_wp2_with fail
  refine (unhide HC).mono ?_
  rintro e w1 ⟨rfl, h1, _, h2⟩
  have H1 := hide (And.intro h1 h2)
  clear h1 h2 HC
  go_wp2_with fail
  go_ret
  exact Took.ok (unhide HP0) (unhide H1).1 ((unhide HB).trans (unhide H1).2)

set_option maxRecDepth 100000 in
set_option maxHeartbeats 4000000 in
theorem fol_begin (B : Nat) (x : CX) (st : RS) (w : World) (h : CpE B w x st) (t : ByteArray) (o : Int) (hop : st.opens.length < 3980) (h0 : st.err = 0) :
    Calls Tryz.prog 67 #[.pointer (some ⟨x.b, 0, none⟩), .agg #[.string t, .int .i64 6, .int .i64 o]] w (Took B w x (openS st (⟨#[98, 101, 103, 105, 110]⟩, hereS st, 0))) := by
  have hb0 : Below w.heap.size w (w.alloc (.cells #[.string t, .int .i64 6, .int .i64 o] 140)) := by (repeat (first | with_reducible refine below_drew ?_ | with_reducible refine below_drawn ?_ _ | with_reducible refine below_longer ?_ _ | (with_reducible refine Below.alloc ?_ ?_ _; rotate_left; (first | omega | ((try simp only [World.size_up]) <;> (try simp only [World.size_dr]) <;> (try simp only [World.size_drN]) <;> (try simp only [World.size_up]) <;> (try simp only [World.size_dr]) <;> (try simp only [World.size_up]) <;> omega))))); (with_reducible exact Below.refl _ _)
  have HC := hide (openBegin_any B x st _ (h.below hb0) hop)
  have HB := hide (below_less hb0 h.size)
  have HP0 := hide (show (openS st (⟨#[98, 101, 103, 105, 110]⟩, hereS st, 0)).err = 0 from h0)
  clear h hb0 h0
  go_enter Tryz.func67, Tryz.ntmps67
  go_wp2_with fail
  refine (unhide HC).mono ?_
  rintro e w1 ⟨rfl, h1, _, h2⟩
  have H1 := hide (And.intro h1 h2)
  clear h1 h2 HC
  go_wp2_with fail
  go_ret
  exact Took.ok (unhide HP0) (unhide H1).1 ((unhide HB).trans (unhide H1).2)

set_option maxRecDepth 100000 in
set_option maxHeartbeats 4000000 in
theorem fol_do (B : Nat) (x : CX) (st : RS) (w : World) (h : CpE B w x st) (t : ByteArray) (o : Int) (hlen : hereS st < 4000) (hop : st.opens.length < 3980) (h0 : st.err = 0) :
    Calls Tryz.prog 67 #[.pointer (some ⟨x.b, 0, none⟩), .agg #[.string t, .int .i64 7, .int .i64 o]] w (Took B w x (openS (putS st 6 0) (⟨#[100, 111]⟩, (hereS st : Int) + 1, 0))) := by
  have hb0 : Below w.heap.size w (w.alloc (.cells #[.string t, .int .i64 7, .int .i64 o] 140)) := by (repeat (first | with_reducible refine below_drew ?_ | with_reducible refine below_drawn ?_ _ | with_reducible refine below_longer ?_ _ | (with_reducible refine Below.alloc ?_ ?_ _; rotate_left; (first | omega | ((try simp only [World.size_up]) <;> (try simp only [World.size_dr]) <;> (try simp only [World.size_drN]) <;> (try simp only [World.size_up]) <;> (try simp only [World.size_dr]) <;> (try simp only [World.size_up]) <;> omega))))); (with_reducible exact Below.refl _ _)
  have HC := hide (openDo_any B x st _ (h.below hb0) hlen hop)
  have HB := hide (below_less hb0 h.size)
  have HP0 := hide (show (openS (putS st 6 0) (⟨#[100, 111]⟩, (hereS st : Int) + 1, 0)).err = 0 by unfold openS putS; split <;> exact h0)
  clear h hb0 h0
  go_enter Tryz.func67, Tryz.ntmps67
  go_wp2_with fail
  refine (unhide HC).mono ?_
  rintro e w1 ⟨rfl, h1, _, h2⟩
  have H1 := hide (And.intro h1 h2)
  clear h1 h2 HC
  go_wp2_with fail
  go_ret
  exact Took.ok (unhide HP0) (unhide H1).1 ((unhide HB).trans (unhide H1).2)

set_option maxRecDepth 100000 in
set_option maxHeartbeats 4000000 in
theorem fol_closes (B : Nat) (x : CX) (w : World) (hB : B ≤ w.heap.size) (t : ByteArray) (o : Int) (r : RS)
    (hcall : ∀ W : World, Below w.heap.size w W → Calls Tryz.prog 84 #[.pointer (some ⟨x.b, 0, none⟩), .string t] W (Took B W x r)) :
    Calls Tryz.prog 67 #[.pointer (some ⟨x.b, 0, none⟩), .agg #[.string t, .int .i64 8, .int .i64 o]] w (Took B w x r) := by
  have hb0 : Below w.heap.size w (w.alloc (.cells #[.string t, .int .i64 8, .int .i64 o] 140)) := by (repeat (first | with_reducible refine below_drew ?_ | with_reducible refine below_drawn ?_ _ | with_reducible refine below_longer ?_ _ | (with_reducible refine Below.alloc ?_ ?_ _; rotate_left; (first | omega | ((try simp only [World.size_up]) <;> (try simp only [World.size_dr]) <;> (try simp only [World.size_drN]) <;> (try simp only [World.size_up]) <;> (try simp only [World.size_dr]) <;> (try simp only [World.size_up]) <;> omega))))); (with_reducible exact Below.refl _ _)
  have HC := hide (hcall _ hb0)
  have HB := hide (below_less hb0 hB)
  clear hcall hb0
  go_enter Tryz.func67, Tryz.ntmps67
  go_wp2_with fail
  refine (unhide HC).mono ?_
  rintro e w1 ⟨rfl, h1, h2, h3⟩
  have H1 := hide (And.intro h1 (And.intro h2 h3))
  clear h1 h2 h3 HC
  go_wp2_with fail
  go_ret
  exact ⟨rfl, (unhide H1).1, (unhide H1).2.1, (unhide HB).trans (unhide H1).2.2⟩

set_option maxRecDepth 100000 in
set_option maxHeartbeats 4000000 in
theorem fol_define (B : Nat) (x : CX) (w : World) (hB : B ≤ w.heap.size) (t : ByteArray) (k o : Int) (hk : k = 1 ∨ k = 2 ∨ k = 3) (r : RS)
    (hcall : ∀ W : World, Below w.heap.size w W → Calls Tryz.prog 85 #[.pointer (some ⟨x.b, 0, none⟩), .int .i64 k] W (Took B W x r)) :
    Calls Tryz.prog 67 #[.pointer (some ⟨x.b, 0, none⟩), .agg #[.string t, .int .i64 k, .int .i64 o]] w (Took B w x r) := by
  have hb0 : Below w.heap.size w (w.alloc (.cells #[.string t, .int .i64 k, .int .i64 o] 140)) := by (repeat (first | with_reducible refine below_drew ?_ | with_reducible refine below_drawn ?_ _ | with_reducible refine below_longer ?_ _ | (with_reducible refine Below.alloc ?_ ?_ _; rotate_left; (first | omega | ((try simp only [World.size_up]) <;> (try simp only [World.size_dr]) <;> (try simp only [World.size_drN]) <;> (try simp only [World.size_up]) <;> (try simp only [World.size_dr]) <;> (try simp only [World.size_up]) <;> omega))))); (with_reducible exact Below.refl _ _)
  have HC := hide (hcall _ hb0)
  have HB := hide (below_less hb0 hB)
  clear hcall hb0
  rcases hk with rfl | rfl | rfl
  all_goals
    go_enter Tryz.func67, Tryz.ntmps67
    go_wp2_with fail
    refine (unhide HC).mono ?_
    rintro e w1 ⟨rfl, h1, h2, h3⟩
    have H1 := hide (And.intro h1 (And.intro h2 h3))
    clear h1 h2 h3 HC
    go_wp2_with fail
    go_ret
    exact ⟨rfl, (unhide H1).1, (unhide H1).2.1, (unhide HB).trans (unhide H1).2.2⟩

end Go.Proofs.YtbcjfiaacenhgaaGreatDoor

