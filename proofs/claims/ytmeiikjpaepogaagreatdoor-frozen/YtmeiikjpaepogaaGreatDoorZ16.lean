/- The program's compiler: openBegin. -/
import Derived.Test.YtmeiikjpaepogaaGreatDoorZ11
namespace Go.Proofs.YtmeiikjpaepogaaGreatDoor
open Go Go.RowKit

set_option maxRecDepth 100000 in
set_option maxHeartbeats 4000000 in
theorem openBegin_any (B : Nat) (x : CX) (st : RS) (w : World) (h : CpE B w x st) (hop : st.opens.length < 3980) :
    Calls Tryz.prog 144 #[.pointer (some ⟨x.b, 0, none⟩)] w fun e w' => e = .returned (.tuple #[]) ∧ CpE B w' x (openS st (⟨#[98, 101, 103, 105, 110]⟩, hereS st, 0)) ∧ BoxStill w w' ∧ Below B w w' := by
  obtain ⟨fw, fo, h⟩ := h.f
  have hb0 : Below w.heap.size w (w.alloc (.cells #[.pointer (some ⟨x.b, 0, none⟩)] 91)) := by (repeat (first | with_reducible refine below_drew ?_ | with_reducible refine below_drawn ?_ _ | with_reducible refine below_longer ?_ _ | (with_reducible refine Below.alloc ?_ ?_ _; rotate_left; (first | omega | ((repeat (first | rw [World.size_up] | rw [World.size_dr] | rw [World.size_drN])) <;> omega))))); (with_reducible exact Below.refl _ _)
  have hcb : Blk (w.alloc (.cells #[.pointer (some ⟨x.b, 0, none⟩)] 91)) w.heap.size #[.pointer (some ⟨x.b, 0, none⟩)] 91 := by (repeat (first | with_reducible refine Blk.drew ?_ | with_reducible refine Blk.drewN ?_ _ | (with_reducible refine blk_newAt _ _ ?_; (first | omega | ((repeat (first | rw [World.size_up] | rw [World.size_dr] | rw [World.size_drN])) <;> omega))) | with_reducible refine Blk.alloc ?_ _)); (first | done | with_reducible assumption)
  have h0 := h.below hb0
  have hB := h.size
  obtain ⟨s0, vo, hblk⟩ := h0.blk
  have hc := hblk.cell
  have hxl := h.size0
  have hxa0 : x.b < w.heap.size := by omega
  have hxb0 : x.b ≤ w.heap.size := by omega
  have hxa1 : x.b < w.heap.size + 1 := by omega
  have hxb1 : x.b ≤ w.heap.size + 1 := by omega
  have hxa2 : x.b < w.heap.size + 1 + 1 := by omega
  have hxb2 : x.b ≤ w.heap.size + 1 + 1 := by omega
  have hxa3 : x.b < w.heap.size + 1 + 1 + 1 := by omega
  have hxb3 : x.b ≤ w.heap.size + 1 + 1 + 1 := by omega
  have hxa4 : x.b < w.heap.size + 1 + 1 + 1 + 1 := by omega
  have hxb4 : x.b ≤ w.heap.size + 1 + 1 + 1 + 1 := by omega
  have hxa5 : x.b < w.heap.size + 1 + 1 + 1 + 1 + 1 := by omega
  have hxb5 : x.b ≤ w.heap.size + 1 + 1 + 1 + 1 + 1 := by omega
  unfold cpArr at hc
  have H0 := V h0
  have hsz : (w.alloc (.cells #[.pointer (some ⟨x.b, 0, none⟩)] 91)).heap.size = w.heap.size + 1 := by simp
  have hcc := hcb.cell
  have HCB := V hcb
  have HB0 := V hb0
  clear hblk hcb hb0 h h0
  have HNX := V (nextF_any B x st _ (U H0).e)
  generalize hhx : hereX x st = hx at *
  have HHX := V hhx
  clear hhx
  go_enter Tryz.func144, Tryz.ntmps144
  go_wp2_with fail
  refine (U HNX).mono ?_
  rintro e w1 ⟨rfl, rfl⟩
  generalize w.alloc (.cells #[.pointer (some ⟨x.b, 0, none⟩)] 91) = W0 at *
  go_wp2_with fail
  have hb1 : Below W0.heap.size W0 (W0.alloc (.cells #[.int .i64 (hereS st)] 2)) := by (repeat (first | with_reducible refine below_drew ?_ | with_reducible refine below_drawn ?_ _ | with_reducible refine below_longer ?_ _ | (with_reducible refine Below.alloc ?_ ?_ _; rotate_left; (first | omega | ((repeat (first | rw [World.size_up] | rw [World.size_dr] | rw [World.size_drN])) <;> omega))))); (with_reducible exact Below.refl _ _)
  have e1 : (W0.alloc (.cells #[.int .i64 (hereS st)] 2)).heap.size = w.heap.size + 1 + 1 := by rw [World.size_up, hsz]
  have hcb1 := (U HCB).alloc (.cells #[.int .i64 (hereS st)] 2)
  have hp := pushW B x st (W0.alloc (.cells #[.int .i64 (hereS st)] 2)) ((U H0).below hb1).e (.func (.func 190) #[] #[.pointer (some ⟨w.heap.size, 0, none⟩), .pointer (some ⟨w.heap.size + 1, 0, none⟩)]) rfl (⟨#[98, 101, 103, 105, 110]⟩, hereS st, 0) ⟨_, hcb1, Or.inr (Or.inr (Or.inl ⟨rfl, _, (by (repeat (first | with_reducible refine Blk.drew ?_ | with_reducible refine Blk.drewN ?_ _ | (with_reducible refine blk_newAt _ _ ?_; (first | omega | ((repeat (first | rw [World.size_up] | rw [World.size_dr] | rw [World.size_drN])) <;> omega))) | with_reducible refine Blk.alloc ?_ _)); (first | done | with_reducible assumption)), rfl⟩))⟩ (by omega)
  rw [e1] at hp
  refine hp.mono ?_
  rintro e w2 ⟨rfl, k1, k2, k3⟩
  clear hp hcb1
  have HB1 := V hb1
  clear hb1
  go_wp2_with fail
  go_end0
  exact ⟨rfl, k1, (BoxStill.ofBelow (U HB0)).trans ((BoxStill.ofBelow (U HB1)).trans k2), (below_less (U HB0) (by omega)).trans ((below_less (U HB1) (by omega)).trans k3)⟩
set_option maxRecDepth 100000 in
set_option maxHeartbeats 4000000 in
theorem openDo_any (B : Nat) (x : CX) (st : RS) (w : World) (h : CpE B w x st) (hlen : hereS st < 4000) (hop : st.opens.length < 3980) :
    Calls Tryz.prog 145 #[.pointer (some ⟨x.b, 0, none⟩)] w fun e w' => e = .returned (.tuple #[]) ∧ CpE B w' x (openS (putS st 6 0) (⟨#[100, 111]⟩, (hereS st : Int) + 1, 0)) ∧ BoxStill w w' ∧ Below B w w' := by
  obtain ⟨fw, fo, h⟩ := h.f
  have hb0 : Below w.heap.size w (w.alloc (.cells #[.pointer (some ⟨x.b, 0, none⟩)] 91)) := by (repeat (first | with_reducible refine below_drew ?_ | with_reducible refine below_drawn ?_ _ | with_reducible refine below_longer ?_ _ | (with_reducible refine Below.alloc ?_ ?_ _; rotate_left; (first | omega | ((repeat (first | rw [World.size_up] | rw [World.size_dr] | rw [World.size_drN])) <;> omega))))); (with_reducible exact Below.refl _ _)
  have hcb : Blk (w.alloc (.cells #[.pointer (some ⟨x.b, 0, none⟩)] 91)) w.heap.size #[.pointer (some ⟨x.b, 0, none⟩)] 91 := by (repeat (first | with_reducible refine Blk.drew ?_ | with_reducible refine Blk.drewN ?_ _ | (with_reducible refine blk_newAt _ _ ?_; (first | omega | ((repeat (first | rw [World.size_up] | rw [World.size_dr] | rw [World.size_drN])) <;> omega))) | with_reducible refine Blk.alloc ?_ _)); (first | done | with_reducible assumption)
  have h0 := h.below hb0
  have hB := h.size
  obtain ⟨s0, vo, hblk⟩ := h0.blk
  have hc := hblk.cell
  have hxl := h.size0
  have hxa0 : x.b < w.heap.size := by omega
  have hxb0 : x.b ≤ w.heap.size := by omega
  have hxa1 : x.b < w.heap.size + 1 := by omega
  have hxb1 : x.b ≤ w.heap.size + 1 := by omega
  have hxa2 : x.b < w.heap.size + 1 + 1 := by omega
  have hxb2 : x.b ≤ w.heap.size + 1 + 1 := by omega
  have hxa3 : x.b < w.heap.size + 1 + 1 + 1 := by omega
  have hxb3 : x.b ≤ w.heap.size + 1 + 1 + 1 := by omega
  have hxa4 : x.b < w.heap.size + 1 + 1 + 1 + 1 := by omega
  have hxb4 : x.b ≤ w.heap.size + 1 + 1 + 1 + 1 := by omega
  have hxa5 : x.b < w.heap.size + 1 + 1 + 1 + 1 + 1 := by omega
  have hxb5 : x.b ≤ w.heap.size + 1 + 1 + 1 + 1 + 1 := by omega
  unfold cpArr at hc
  have HADD := V (addW B x st _ fw fo h0 6 0 hlen)
  have H0 := V h0
  have hsz : (w.alloc (.cells #[.pointer (some ⟨x.b, 0, none⟩)] 91)).heap.size = w.heap.size + 1 := by simp
  have hcc := hcb.cell
  have HCB := V hcb
  have HB0 := V hb0
  clear hblk hcb hb0 h h0
  generalize hhx : hereX x st = hx at *
  have HHX := V hhx
  clear hhx
  go_enter Tryz.func145, Tryz.ntmps145
  go_wp2_with fail
  generalize w.alloc (.cells #[.pointer (some ⟨x.b, 0, none⟩)] 91) = W0 at *
  go_cut [] from 3 to 19 (fun wc => CpF B wc x (putS st 6 0) fw fo ∧ Things W0 x.b st fw fo ∧ BoxStill W0 wc ∧ Below B W0 wc)
  case first =>
    go_region_law (first
      | (refine step_call rfl 51 #[.const (.int .i64 6)] #[3] rfl Tryz.func51 Tryz.name51 Tryz.body51 #[.int .i64 6] (by first | (simp [Act.eval]; done) | rfl) (plainI_any 6 _) ?_; rintro e w1 ⟨rfl, rfl⟩; refine ⟨_, rfl, ?_⟩)
      | (refine step_call rfl 50 #[.tmp 6, .tmp 8] #[96, 33] rfl Tryz.func50 Tryz.name50 Tryz.body50 #[.pointer (some ⟨hx, 0, none⟩), .slice (some ⟨w.heap.size + 1 + 1, 0, none⟩) 1 1] (by first | (simp [Act.eval]; done) | rfl) (U HADD _ (w.heap.size + 1 + 1) (by (repeat (first | with_reducible refine below_drew ?_ | with_reducible refine below_drawn ?_ _ | with_reducible refine below_longer ?_ _ | (with_reducible refine Below.alloc ?_ ?_ _; rotate_left; (first | omega | ((repeat (first | rw [World.size_up] | rw [World.size_dr] | rw [World.size_drN])) <;> omega))))); (with_reducible exact Below.refl _ _)) (by (repeat (first | with_reducible refine Blk.drew ?_ | with_reducible refine Blk.drewN ?_ _ | (with_reducible refine blk_newAt _ _ ?_; (first | omega | ((repeat (first | rw [World.size_up] | rw [World.size_dr] | rw [World.size_drN])) <;> omega))) | with_reducible refine Blk.alloc ?_ _)); (first | done | with_reducible assumption))) ?_; rintro e w1 ⟨rfl, h2, h1⟩; refine ⟨_, rfl, ?_⟩; skip; have H1 := V h1; clear h1 h2))
    all_goals
      go_wp2_with fail
      go_meet
      exact U H1
  case rest =>
    obtain ⟨hF, hT, hbx, hbl⟩ := hcut
    have hcb := hbx _ _ _ (U HCB) (Or.inl rfl)
    have hcc2 := hcb.cell
    have hnx := nextF_any B x (putS st 6 0) wc hF.e
    rw [hereX_put, U HHX, hereS_put, show ((hereS st + 1 : Nat) : Int) = (hereS st : Int) + 1 by omega] at hnx
    obtain ⟨s1, vo1, hblk1⟩ := hF.blk
    have hc1 := hblk1.cell
    unfold cpArr at hc1
    rw [hereX_put, U HHX] at hc1
    have HNX := V hnx
    have H1 := V (And.intro hcb (And.intro hF (And.intro hbx hbl)))
    clear hF hT hbx hbl hcb hcc hc HADD hnx hblk1
    have hwl : w.heap.size < wc.heap.size := by have := (U H1).1.lt; exact this
    go_wp2_with fail
    refine (U HNX).mono ?_
    rintro e w1 ⟨rfl, rfl⟩
    go_wp2_with fail
    have hb1 : Below w1.heap.size w1 (w1.alloc (.cells #[.int .i64 ((hereS st : Int) + 1)] 2)) := by (repeat (first | with_reducible refine below_drew ?_ | with_reducible refine below_drawn ?_ _ | with_reducible refine below_longer ?_ _ | (with_reducible refine Below.alloc ?_ ?_ _; rotate_left; (first | omega | ((repeat (first | rw [World.size_up] | rw [World.size_dr] | rw [World.size_drN])) <;> omega))))); (with_reducible exact Below.refl _ _)
    have e1 : (w1.alloc (.cells #[.int .i64 ((hereS st : Int) + 1)] 2)).heap.size = w1.heap.size + 1 := by rw [World.size_up]
    obtain ⟨hcb, hF, hbx, hbl⟩ := U H1
    have hcb1 := hcb.alloc (.cells #[.int .i64 ((hereS st : Int) + 1)] 2)
    have hp := pushW B x (putS st 6 0) (w1.alloc (.cells #[.int .i64 ((hereS st : Int) + 1)] 2)) (hF.below hb1).e (.func (.func 192) #[] #[.pointer (some ⟨w.heap.size, 0, none⟩), .pointer (some ⟨w1.heap.size, 0, none⟩)]) rfl (⟨#[100, 111]⟩, (hereS st : Int) + 1, 0) ⟨_, hcb1, Or.inr (Or.inr (Or.inr (Or.inr ⟨rfl, _, (by (repeat (first | with_reducible refine Blk.drew ?_ | with_reducible refine Blk.drewN ?_ _ | (with_reducible refine blk_newAt _ _ ?_; (first | omega | ((repeat (first | rw [World.size_up] | rw [World.size_dr] | rw [World.size_drN])) <;> omega))) | with_reducible refine Blk.alloc ?_ _)); (first | done | with_reducible assumption)), rfl⟩)))⟩ (by rw [(putS_as _ _ _).2.2]; omega)
    rw [e1] at hp
    refine hp.mono ?_
    rintro e w2 ⟨rfl, k1, k2, k3⟩
    have HB1 := V hb1
    clear hp hcb1 hcb hF hbx hbl hb1 hcc2 hc1
    go_wp2_with fail
    go_end0
    obtain ⟨hcb, hF, hbx, hbl⟩ := U H1
    have hsF := hF.size
    exact ⟨rfl, k1, (BoxStill.ofBelow (U HB0)).trans (hbx.trans ((BoxStill.ofBelow (U HB1)).trans k2)), (below_less (U HB0) (by omega)).trans (hbl.trans ((below_less (U HB1) (by omega)).trans k3))⟩
end Go.Proofs.YtmeiikjpaepogaaGreatDoor
