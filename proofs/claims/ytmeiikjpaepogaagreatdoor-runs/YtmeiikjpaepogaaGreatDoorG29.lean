/- The program's compiler: openDo. -/
import Derived.Test.YtmeiikjpaepogaaGreatDoorG24
import Derived.Test.YtmeiikjpaepogaaGreatDoorG28
namespace Go.Proofs.YtmeiikjpaepogaaGreatDoor
open Go Go.RowKit

set_option maxRecDepth 100000 in
set_option maxHeartbeats 4000000 in
theorem openDo_any (B : Nat) (x : CX) (st : RS) (w : World) (h : CpE B w x st) (hlen : hereS st < 4000) (hop : st.opens.length < 3980) :
    Calls Tryz.prog 145 #[.pointer (some ⟨x.b, 0, none⟩)] w fun e w' => e = .returned (.tuple #[]) ∧ CpE B w' x (openS (putS st 6 0) (⟨#[100, 111]⟩, (hereS st : Int) + 1, 0)) ∧ BoxStill w w' ∧ Below B w w' := by
  obtain ⟨fw, fo, h⟩ := h.f
  have hb0 : Below w.heap.size w (w.alloc (.cells #[.pointer (some ⟨x.b, 0, none⟩)] 91)) := by (repeat (first | with_reducible refine below_drew ?_ | with_reducible refine below_drawn ?_ _ | with_reducible refine below_longer ?_ _ | (with_reducible refine Below.alloc ?_ ?_ _; rotate_left; (first | omega | ((try simp only [World.size_up]) <;> (try simp only [World.size_dr]) <;> (try simp only [World.size_drN]) <;> (try simp only [World.size_up]) <;> (try simp only [World.size_dr]) <;> (try simp only [World.size_up]) <;> omega))))); (with_reducible exact Below.refl _ _)
  have hcb : Blk (w.alloc (.cells #[.pointer (some ⟨x.b, 0, none⟩)] 91)) w.heap.size #[.pointer (some ⟨x.b, 0, none⟩)] 91 := by (repeat (first | with_reducible refine Blk.drew ?_ | with_reducible refine Blk.drewN ?_ _ | (with_reducible refine blk_newAt _ _ ?_; (first | omega | ((try simp only [World.size_up]) <;> (try simp only [World.size_dr]) <;> (try simp only [World.size_drN]) <;> (try simp only [World.size_up]) <;> (try simp only [World.size_dr]) <;> (try simp only [World.size_up]) <;> omega))) | with_reducible refine Blk.alloc ?_ _)); (first | done | with_reducible assumption)
  have h0 := h.below hb0
  have hB := h.size
  obtain ⟨s0, vo, hblk⟩ := h0.blk
  have hc := hblk.cell
  have hxl := h.size0
  have hxa0 : x.b < w.heap.size := by omega
  have hxb0 : x.b ≤ w.heap.size := by omega
  have hxa1 : x.b < w.heap.size + 1 := by omega
  have hxb1 : x.b ≤ w.heap.size + 1 := by omega
  have hxa2 : x.b < w.heap.size + 1 + 1 := by omega
  have hxb2 : x.b ≤ w.heap.size + 1 + 1 := by omega
  have hxa3 : x.b < w.heap.size + 1 + 1 + 1 := by omega
  have hxb3 : x.b ≤ w.heap.size + 1 + 1 + 1 := by omega
  have hxa4 : x.b < w.heap.size + 1 + 1 + 1 + 1 := by omega
  have hxb4 : x.b ≤ w.heap.size + 1 + 1 + 1 + 1 := by omega
  have hxa5 : x.b < w.heap.size + 1 + 1 + 1 + 1 + 1 := by omega
  have hxb5 : x.b ≤ w.heap.size + 1 + 1 + 1 + 1 + 1 := by omega
  unfold cpArr at hc
  have HADD := hide (addW B x st _ fw fo h0 6 0 hlen)
  have H0 := hide h0
  have hsz : (w.alloc (.cells #[.pointer (some ⟨x.b, 0, none⟩)] 91)).heap.size = w.heap.size + 1 := by simp
  have hcc := hcb.cell
  have HCB := hide hcb
  have HB0 := hide hb0
  clear hblk hcb hb0 h h0
  generalize hhx : hereX x st = hx at *
  have HHX := hide hhx
  clear hhx
  go_enter Tryz.func145, Tryz.ntmps145
  go_wp2_with fail
  generalize w.alloc (.cells #[.pointer (some ⟨x.b, 0, none⟩)] 91) = W0 at *
  go_cut [] from 3 to 19 (fun wc => CpF B wc x (putS st 6 0) fw fo ∧ Things W0 x.b st fw fo ∧ BoxStill W0 wc ∧ Below B W0 wc)
  case first =>
    go_region_law (first
      | (refine step_call rfl 51 #[.const (.int .i64 6)] #[3] rfl Tryz.func51 Tryz.name51 Tryz.body51 #[.int .i64 6] (by first | (simp [Act.eval]; done) | rfl) (plainI_any 6 _) ?_; rintro e w1 ⟨rfl, rfl⟩; refine ⟨_, rfl, ?_⟩)
      | (refine step_call rfl 50 #[.tmp 6, .tmp 8] #[96, 33] rfl Tryz.func50 Tryz.name50 Tryz.body50 #[.pointer (some ⟨hx, 0, none⟩), .slice (some ⟨w.heap.size + 1 + 1, 0, none⟩) 1 1] (by first | (simp [Act.eval]; done) | rfl) (unhide HADD _ (w.heap.size + 1 + 1) (by (repeat (first | with_reducible refine below_drew ?_ | with_reducible refine below_drawn ?_ _ | with_reducible refine below_longer ?_ _ | (with_reducible refine Below.alloc ?_ ?_ _; rotate_left; (first | omega | ((try simp only [World.size_up]) <;> (try simp only [World.size_dr]) <;> (try simp only [World.size_drN]) <;> (try simp only [World.size_up]) <;> (try simp only [World.size_dr]) <;> (try simp only [World.size_up]) <;> omega))))); (with_reducible exact Below.refl _ _)) (by (repeat (first | with_reducible refine Blk.drew ?_ | with_reducible refine Blk.drewN ?_ _ | (with_reducible refine blk_newAt _ _ ?_; (first | omega | ((try simp only [World.size_up]) <;> (try simp only [World.size_dr]) <;> (try simp only [World.size_drN]) <;> (try simp only [World.size_up]) <;> (try simp only [World.size_dr]) <;> (try simp only [World.size_up]) <;> omega))) | with_reducible refine Blk.alloc ?_ _)); (first | done | with_reducible assumption))) ?_; rintro e w1 ⟨rfl, h2, h1⟩; refine ⟨_, rfl, ?_⟩; skip; have H1 := hide h1; clear h1 h2))
    all_goals
      go_wp2_with fail
      go_meet
      exact unhide H1
  case rest =>
    obtain ⟨hF, hT, hbx, hbl⟩ := hcut
    have hcb := hbx _ _ _ (unhide HCB) (Or.inl rfl)
    have hcc2 := hcb.cell
    have hnx := nextF_any B x (putS st 6 0) wc hF.e
    rw [hereX_put, unhide HHX, hereS_put, show ((hereS st + 1 : Nat) : Int) = (hereS st : Int) + 1 by omega] at hnx
    obtain ⟨s1, vo1, hblk1⟩ := hF.blk
    have hc1 := hblk1.cell
    unfold cpArr at hc1
    rw [hereX_put, unhide HHX] at hc1
    have HNX := hide hnx
    have H1 := hide (And.intro hcb (And.intro hF (And.intro hbx hbl)))
    clear hF hT hbx hbl hcb hcc hc HADD hnx hblk1
    have hwl : w.heap.size < wc.heap.size := by have := (unhide H1).1.lt; exact this
    go_wp2_with fail
    refine (unhide HNX).mono ?_
    rintro e w1 ⟨rfl, rfl⟩
    go_wp2_with fail
    have hb1 : Below w1.heap.size w1 (w1.alloc (.cells #[.int .i64 ((hereS st : Int) + 1)] 2)) := by (repeat (first | with_reducible refine below_drew ?_ | with_reducible refine below_drawn ?_ _ | with_reducible refine below_longer ?_ _ | (with_reducible refine Below.alloc ?_ ?_ _; rotate_left; (first | omega | ((try simp only [World.size_up]) <;> (try simp only [World.size_dr]) <;> (try simp only [World.size_drN]) <;> (try simp only [World.size_up]) <;> (try simp only [World.size_dr]) <;> (try simp only [World.size_up]) <;> omega))))); (with_reducible exact Below.refl _ _)
    have e1 : (w1.alloc (.cells #[.int .i64 ((hereS st : Int) + 1)] 2)).heap.size = w1.heap.size + 1 := by rw [World.size_up]
    obtain ⟨hcb, hF, hbx, hbl⟩ := unhide H1
    have hcb1 := hcb.alloc (.cells #[.int .i64 ((hereS st : Int) + 1)] 2)
    have hp := pushW B x (putS st 6 0) (w1.alloc (.cells #[.int .i64 ((hereS st : Int) + 1)] 2)) (hF.below hb1).e (.func (.func 192) #[] #[.pointer (some ⟨w.heap.size, 0, none⟩), .pointer (some ⟨w1.heap.size, 0, none⟩)]) rfl (⟨#[100, 111]⟩, (hereS st : Int) + 1, 0) ⟨_, hcb1, Or.inr (Or.inr (Or.inr (Or.inr ⟨rfl, _, (by (repeat (first | with_reducible refine Blk.drew ?_ | with_reducible refine Blk.drewN ?_ _ | (with_reducible refine blk_newAt _ _ ?_; (first | omega | ((try simp only [World.size_up]) <;> (try simp only [World.size_dr]) <;> (try simp only [World.size_drN]) <;> (try simp only [World.size_up]) <;> (try simp only [World.size_dr]) <;> (try simp only [World.size_up]) <;> omega))) | with_reducible refine Blk.alloc ?_ _)); (first | done | with_reducible assumption)), rfl⟩)))⟩ (by rw [(putS_as _ _ _).2.2]; omega)
    rw [e1] at hp
    refine hp.mono ?_
    rintro e w2 ⟨rfl, k1, k2, k3⟩
    have HB1 := hide hb1
    clear hp hcb1 hcb hF hbx hbl hb1 hcc2 hc1
    go_wp2_with fail
    go_end0
    obtain ⟨hcb, hF, hbx, hbl⟩ := unhide H1
    have hsF := hF.size
    exact ⟨rfl, k1, (BoxStill.ofBelow (unhide HB0)).trans (hbx.trans ((BoxStill.ofBelow (unhide HB1)).trans k2)), (below_less (unhide HB0) (by omega)).trans (hbl.trans ((below_less (unhide HB1) (by omega)).trans k3))⟩

end Go.Proofs.YtmeiikjpaepogaaGreatDoor

/- The program's compiler: follow. -/
namespace Go.Proofs.YtmeiikjpaepogaaGreatDoor
open Go Go.RowKit

set_option maxRecDepth 100000 in
set_option maxHeartbeats 4000000 in
theorem fol_op (B : Nat) (x : CX) (st : RS) (w : World) (h : CpE B w x st) (t : ByteArray) (o : Int) (hlen : hereS st < 4000) (h0 : st.err = 0) :
    Calls Tryz.prog 75 #[.pointer (some ⟨x.b, 0, none⟩), .agg #[.string t, .int .i64 0, .int .i64 o]] w (Took B w x (putS st o 0)) := by
  have hb0 : Below w.heap.size w (w.alloc (.cells #[.string t, .int .i64 0, .int .i64 o] 146)) := by (repeat (first | with_reducible refine below_drew ?_ | with_reducible refine below_drawn ?_ _ | with_reducible refine below_longer ?_ _ | (with_reducible refine Below.alloc ?_ ?_ _; rotate_left; (first | omega | ((try simp only [World.size_up]) <;> (try simp only [World.size_dr]) <;> (try simp only [World.size_drN]) <;> (try simp only [World.size_up]) <;> (try simp only [World.size_dr]) <;> (try simp only [World.size_up]) <;> omega))))); (with_reducible exact Below.refl _ _)
  have hmb : Blk (w.alloc (.cells #[.string t, .int .i64 0, .int .i64 o] 146)) w.heap.size #[.string t, .int .i64 0, .int .i64 o] 146 := Blk.new _ _ _
  have hB := h.size
  obtain ⟨fw, fo, hF⟩ := (h.below hb0).f
  obtain ⟨s0, vo, hblk⟩ := hF.blk
  have hc := hblk.cell
  unfold cpArr at hc
  have hmc := hmb.cell
  have hml := hmb.lt
  have hxl := hblk.lt
  have HADD := hide (addW B x st _ fw fo hF o 0 hlen)
  have HB0 := hide hb0
  have HP0 := hide (show (putS st o 0).err = 0 by unfold putS; split <;> exact h0)
  clear h hb0 hmb hblk hF h0
  generalize hereX x st = hx at *
  go_enter Tryz.func75, Tryz.ntmps75
  go_wp2_with fail
  generalize w.alloc (.cells #[.string t, .int .i64 0, .int .i64 o] 146) = W0 at *
  have hxa : x.b < W0.heap.size + 1 := by omega
  have hxb : x.b ≤ W0.heap.size := by omega
  have hxc : x.b ≤ W0.heap.size + 1 := by omega
  have hxd : x.b < W0.heap.size + 1 + 1 := by omega
  have hma : w.heap.size < W0.heap.size + 1 := by omega
  have hmb : w.heap.size ≤ W0.heap.size := by omega
  have hmc1 : w.heap.size ≤ W0.heap.size + 1 := by omega
  have hmd : w.heap.size < W0.heap.size + 1 + 1 := by omega
  go_region_law (first
      | (refine step_call rfl 51 #[.tmp 18] #[3] rfl Tryz.func51 Tryz.name51 Tryz.body51 #[.int .i64 o] (by first | (simp [Act.eval]; done) | (simp [Act.eval, Act.put]; done) | rfl) (plainI_any o _) ?_; rintro e w1 ⟨rfl, rfl⟩; refine ⟨_, rfl, ?_⟩)
      | (refine step_call rfl 50 #[.tmp 16, .tmp 20] #[96, 33] rfl Tryz.func50 Tryz.name50 Tryz.body50 #[.pointer (some ⟨hx, 0, none⟩), .slice (some ⟨W0.heap.size + 1, 0, none⟩) 1 1] (by first | (simp [Act.eval]; done) | (simp [Act.eval, Act.put]; done) | rfl) (unhide HADD _ (W0.heap.size + 1) (by (repeat (first | with_reducible refine below_drew ?_ | with_reducible refine below_drawn ?_ _ | with_reducible refine below_longer ?_ _ | (with_reducible refine Below.alloc ?_ ?_ _; rotate_left; (first | omega | ((try simp only [World.size_up]) <;> (try simp only [World.size_dr]) <;> (try simp only [World.size_drN]) <;> (try simp only [World.size_up]) <;> (try simp only [World.size_dr]) <;> (try simp only [World.size_up]) <;> omega))))); (with_reducible exact Below.refl _ _)) (by (repeat (first | with_reducible refine Blk.drew ?_ | with_reducible refine Blk.drewN ?_ _ | (with_reducible refine blk_newAt _ _ ?_; (first | omega | ((try simp only [World.size_up]) <;> (try simp only [World.size_dr]) <;> (try simp only [World.size_drN]) <;> (try simp only [World.size_up]) <;> (try simp only [World.size_dr]) <;> (try simp only [World.size_up]) <;> omega))) | with_reducible refine Blk.alloc ?_ _)); (first | done | with_reducible assumption))) ?_; rintro e w1 ⟨rfl, h2, h1⟩; refine ⟨_, rfl, ?_⟩; have H1 := hide h1; clear h1 h2))
  all_goals
    go_wp2_with fail
    go_ret
    obtain ⟨k1, _, k2, k3⟩ := unhide H1
    exact Took.ok (unhide HP0) k1.e ((below_less (unhide HB0) hB).trans k3)

set_option maxRecDepth 100000 in
set_option maxHeartbeats 4000000 in
theorem fol_recur (B : Nat) (x : CX) (w : World) (hB : B ≤ w.heap.size) (t : ByteArray) (o : Int) (r : RS)
    (hcall : ∀ W : World, Below w.heap.size w W → Calls Tryz.prog 142 #[.pointer (some ⟨x.b, 0, none⟩)] W (Took B W x r)) :
    Calls Tryz.prog 75 #[.pointer (some ⟨x.b, 0, none⟩), .agg #[.string t, .int .i64 4, .int .i64 o]] w (Took B w x r) := by
  have hb0 : Below w.heap.size w (w.alloc (.cells #[.string t, .int .i64 4, .int .i64 o] 146)) := by (repeat (first | with_reducible refine below_drew ?_ | with_reducible refine below_drawn ?_ _ | with_reducible refine below_longer ?_ _ | (with_reducible refine Below.alloc ?_ ?_ _; rotate_left; (first | omega | ((try simp only [World.size_up]) <;> (try simp only [World.size_dr]) <;> (try simp only [World.size_drN]) <;> (try simp only [World.size_up]) <;> (try simp only [World.size_dr]) <;> (try simp only [World.size_up]) <;> omega))))); (with_reducible exact Below.refl _ _)
  have HC := hide (hcall _ hb0)
  have HB := hide (below_less hb0 hB)
  clear hcall hb0
  go_enter Tryz.func75, Tryz.ntmps75
  go_wp2_with fail
  refine (unhide HC).mono ?_
  rintro e w1 ⟨rfl, h1, h2, h3⟩
  have H1 := hide (And.intro h1 (And.intro h2 h3))
  clear h1 h2 h3 HC
  go_wp2_with fail
  go_ret
  exact ⟨rfl, (unhide H1).1, (unhide H1).2.1, (unhide HB).trans (unhide H1).2.2⟩
theorem fol_recurse (B : Nat) (x : CX) (st : RS) (w : World) (h : CpE B w x st) (t : ByteArray) (o : Int) (hlen : hereS st < 4000) (h0 : st.err = 0) :
    Calls Tryz.prog 75 #[.pointer (some ⟨x.b, 0, none⟩), .agg #[.string t, .int .i64 4, .int .i64 o]] w (Took B w x (if 0 ≤ st.start then putS st 3 st.start else failS st 2)) := by
  refine fol_recur B x w h.size t o _ (fun W hW => ?_)
  have h1 := h.below hW
  by_cases hs : 0 ≤ st.start
  · rw [if_pos hs]
    refine (recur_yes B x st _ h1 hs hlen).mono ?_
    rintro e w' ⟨rfl, k1, _, k3⟩
    exact Took.ok (by unfold putS; split <;> exact h0) k1 k3
  · rw [if_neg hs]
    refine (recur_no B x st _ h1 (by omega)).mono ?_
    rintro e w' ⟨rfl, k0, k3⟩
    exact Took.fail h0 (by decide) k0.atIs k3

set_option maxRecDepth 100000 in
set_option maxHeartbeats 4000000 in
theorem fol_if (B : Nat) (x : CX) (st : RS) (w : World) (h : CpE B w x st) (t : ByteArray) (o : Int) (hlen : hereS st < 4000) (hop : st.opens.length < 3980) (h0 : st.err = 0) :
    Calls Tryz.prog 75 #[.pointer (some ⟨x.b, 0, none⟩), .agg #[.string t, .int .i64 5, .int .i64 o]] w (Took B w x (openS (putS st 2 0) (⟨#[105, 102]⟩, 0, hereS st))) := by
  have hb0 : Below w.heap.size w (w.alloc (.cells #[.string t, .int .i64 5, .int .i64 o] 146)) := by (repeat (first | with_reducible refine below_drew ?_ | with_reducible refine below_drawn ?_ _ | with_reducible refine below_longer ?_ _ | (with_reducible refine Below.alloc ?_ ?_ _; rotate_left; (first | omega | ((try simp only [World.size_up]) <;> (try simp only [World.size_dr]) <;> (try simp only [World.size_drN]) <;> (try simp only [World.size_up]) <;> (try simp only [World.size_dr]) <;> (try simp only [World.size_up]) <;> omega))))); (with_reducible exact Below.refl _ _)
  have HC := hide (openIf_any B x st _ (h.below hb0) hlen hop)
  have HB := hide (below_less hb0 h.size)
  have HP0 := hide (show (openS (putS st 2 0) (⟨#[105, 102]⟩, 0, hereS st)).err = 0 by unfold openS putS; split <;> exact h0)
  clear h hb0 h0
  go_enter Tryz.func75, Tryz.ntmps75
  go_wp2_with fail
  refine (unhide HC).mono ?_
  rintro e w1 ⟨rfl, h1, _, h2⟩
  have H1 := hide (And.intro h1 h2)
  clear h1 h2 HC
  go_wp2_with fail
  go_ret
  exact Took.ok (unhide HP0) (unhide H1).1 ((unhide HB).trans (unhide H1).2)

set_option maxRecDepth 100000 in
set_option maxHeartbeats 4000000 in
theorem fol_begin (B : Nat) (x : CX) (st : RS) (w : World) (h : CpE B w x st) (t : ByteArray) (o : Int) (hop : st.opens.length < 3980) (h0 : st.err = 0) :
    Calls Tryz.prog 75 #[.pointer (some ⟨x.b, 0, none⟩), .agg #[.string t, .int .i64 6, .int .i64 o]] w (Took B w x (openS st (⟨#[98, 101, 103, 105, 110]⟩, hereS st, 0))) := by
  have hb0 : Below w.heap.size w (w.alloc (.cells #[.string t, .int .i64 6, .int .i64 o] 146)) := by (repeat (first | with_reducible refine below_drew ?_ | with_reducible refine below_drawn ?_ _ | with_reducible refine below_longer ?_ _ | (with_reducible refine Below.alloc ?_ ?_ _; rotate_left; (first | omega | ((try simp only [World.size_up]) <;> (try simp only [World.size_dr]) <;> (try simp only [World.size_drN]) <;> (try simp only [World.size_up]) <;> (try simp only [World.size_dr]) <;> (try simp only [World.size_up]) <;> omega))))); (with_reducible exact Below.refl _ _)
  have HC := hide (openBegin_any B x st _ (h.below hb0) hop)
  have HB := hide (below_less hb0 h.size)
  have HP0 := hide (show (openS st (⟨#[98, 101, 103, 105, 110]⟩, hereS st, 0)).err = 0 from h0)
  clear h hb0 h0
  go_enter Tryz.func75, Tryz.ntmps75
  go_wp2_with fail
  refine (unhide HC).mono ?_
  rintro e w1 ⟨rfl, h1, _, h2⟩
  have H1 := hide (And.intro h1 h2)
  clear h1 h2 HC
  go_wp2_with fail
  go_ret
  exact Took.ok (unhide HP0) (unhide H1).1 ((unhide HB).trans (unhide H1).2)

set_option maxRecDepth 100000 in
set_option maxHeartbeats 4000000 in
theorem fol_do (B : Nat) (x : CX) (st : RS) (w : World) (h : CpE B w x st) (t : ByteArray) (o : Int) (hlen : hereS st < 4000) (hop : st.opens.length < 3980) (h0 : st.err = 0) :
    Calls Tryz.prog 75 #[.pointer (some ⟨x.b, 0, none⟩), .agg #[.string t, .int .i64 7, .int .i64 o]] w (Took B w x (openS (putS st 6 0) (⟨#[100, 111]⟩, (hereS st : Int) + 1, 0))) := by
  have hb0 : Below w.heap.size w (w.alloc (.cells #[.string t, .int .i64 7, .int .i64 o] 146)) := by (repeat (first | with_reducible refine below_drew ?_ | with_reducible refine below_drawn ?_ _ | with_reducible refine below_longer ?_ _ | (with_reducible refine Below.alloc ?_ ?_ _; rotate_left; (first | omega | ((try simp only [World.size_up]) <;> (try simp only [World.size_dr]) <;> (try simp only [World.size_drN]) <;> (try simp only [World.size_up]) <;> (try simp only [World.size_dr]) <;> (try simp only [World.size_up]) <;> omega))))); (with_reducible exact Below.refl _ _)
  have HC := hide (openDo_any B x st _ (h.below hb0) hlen hop)
  have HB := hide (below_less hb0 h.size)
  have HP0 := hide (show (openS (putS st 6 0) (⟨#[100, 111]⟩, (hereS st : Int) + 1, 0)).err = 0 by unfold openS putS; split <;> exact h0)
  clear h hb0 h0
  go_enter Tryz.func75, Tryz.ntmps75
  go_wp2_with fail
  refine (unhide HC).mono ?_
  rintro e w1 ⟨rfl, h1, _, h2⟩
  have H1 := hide (And.intro h1 h2)
  clear h1 h2 HC
  go_wp2_with fail
  go_ret
  exact Took.ok (unhide HP0) (unhide H1).1 ((unhide HB).trans (unhide H1).2)

set_option maxRecDepth 100000 in
set_option maxHeartbeats 4000000 in
theorem fol_closes (B : Nat) (x : CX) (w : World) (hB : B ≤ w.heap.size) (t : ByteArray) (o : Int) (r : RS)
    (hcall : ∀ W : World, Below w.heap.size w W → Calls Tryz.prog 146 #[.pointer (some ⟨x.b, 0, none⟩), .string t] W (Took B W x r)) :
    Calls Tryz.prog 75 #[.pointer (some ⟨x.b, 0, none⟩), .agg #[.string t, .int .i64 8, .int .i64 o]] w (Took B w x r) := by
  have hb0 : Below w.heap.size w (w.alloc (.cells #[.string t, .int .i64 8, .int .i64 o] 146)) := by (repeat (first | with_reducible refine below_drew ?_ | with_reducible refine below_drawn ?_ _ | with_reducible refine below_longer ?_ _ | (with_reducible refine Below.alloc ?_ ?_ _; rotate_left; (first | omega | ((try simp only [World.size_up]) <;> (try simp only [World.size_dr]) <;> (try simp only [World.size_drN]) <;> (try simp only [World.size_up]) <;> (try simp only [World.size_dr]) <;> (try simp only [World.size_up]) <;> omega))))); (with_reducible exact Below.refl _ _)
  have HC := hide (hcall _ hb0)
  have HB := hide (below_less hb0 hB)
  clear hcall hb0
  go_enter Tryz.func75, Tryz.ntmps75
  go_wp2_with fail
  refine (unhide HC).mono ?_
  rintro e w1 ⟨rfl, h1, h2, h3⟩
  have H1 := hide (And.intro h1 (And.intro h2 h3))
  clear h1 h2 h3 HC
  go_wp2_with fail
  go_ret
  exact ⟨rfl, (unhide H1).1, (unhide H1).2.1, (unhide HB).trans (unhide H1).2.2⟩

set_option maxRecDepth 100000 in
set_option maxHeartbeats 4000000 in
theorem fol_define (B : Nat) (x : CX) (w : World) (hB : B ≤ w.heap.size) (t : ByteArray) (k o : Int) (hk : k = 1 ∨ k = 2 ∨ k = 3) (r : RS)
    (hcall : ∀ W : World, Below w.heap.size w W → Calls Tryz.prog 147 #[.pointer (some ⟨x.b, 0, none⟩), .int .i64 k] W (Took B W x r)) :
    Calls Tryz.prog 75 #[.pointer (some ⟨x.b, 0, none⟩), .agg #[.string t, .int .i64 k, .int .i64 o]] w (Took B w x r) := by
  have hb0 : Below w.heap.size w (w.alloc (.cells #[.string t, .int .i64 k, .int .i64 o] 146)) := by (repeat (first | with_reducible refine below_drew ?_ | with_reducible refine below_drawn ?_ _ | with_reducible refine below_longer ?_ _ | (with_reducible refine Below.alloc ?_ ?_ _; rotate_left; (first | omega | ((try simp only [World.size_up]) <;> (try simp only [World.size_dr]) <;> (try simp only [World.size_drN]) <;> (try simp only [World.size_up]) <;> (try simp only [World.size_dr]) <;> (try simp only [World.size_up]) <;> omega))))); (with_reducible exact Below.refl _ _)
  have HC := hide (hcall _ hb0)
  have HB := hide (below_less hb0 hB)
  clear hcall hb0
  rcases hk with rfl | rfl | rfl
  all_goals
    go_enter Tryz.func75, Tryz.ntmps75
    go_wp2_with fail
    refine (unhide HC).mono ?_
    rintro e w1 ⟨rfl, h1, h2, h3⟩
    have H1 := hide (And.intro h1 (And.intro h2 h3))
    clear h1 h2 h3 HC
    go_wp2_with fail
    go_ret
    exact ⟨rfl, (unhide H1).1, (unhide H1).2.1, (unhide HB).trans (unhide H1).2.2⟩

end Go.Proofs.YtmeiikjpaepogaaGreatDoor

/- The program's compiler: define and closeLast by the reference's plain functions; follow whole. -/
namespace Go.Proofs.YtmeiikjpaepogaaGreatDoor
open Go Go.RowKit

theorem toL_iff (s : ByteArray) (l : List UInt8) : (s.toList == l) = (s.data.toList == l) := by rw [ByteArray.toList_eq]
theorem bad_name {st : RS} (h0 : st.err = 0) (hb : ¬ (newNameS st).err = 0) : badName (stepS st) = true ∧ newNameS st = failS (stepS st) 3 := by
  cases e : badName (stepS st)
  · unfold newNameS at hb
    rw [e] at hb
    exact absurd (show (stepS st).err = 0 from h0) (by simpa using hb)
  · exact ⟨rfl, by unfold newNameS; rw [e]; rfl⟩

theorem cdefine_any (B : Nat) (x : CX) (st : RS) (w : World) (h : CpE B w x st) (m : Nat) (hi : Inv st m) (hm : m < 3000) (h0 : st.err = 0) (hB : 6 ≤ B) (hV : VocOk w) (hE : ErrsOk w) (k : Int)
    (hk : k = 1 ∧ st.token.data.toList = [58] ∨ k = 2 ∧ st.token.data.toList = [118, 97, 114, 105, 97, 98, 108, 101] ∨ k = 3 ∧ st.token.data.toList = [99, 111, 110, 115, 116, 97, 110, 116]) :
    Calls Tryz.prog 147 #[.pointer (some ⟨x.b, 0, none⟩), .int .i64 k] w (Took B w x (defineS st)) := by
  unfold defineS
  rw [toL_iff, toL_iff, toL_iff]
  have h59 : (st.token.data.toList == [59]) = false := by rcases hk with ⟨_, e⟩ | ⟨_, e⟩ | ⟨_, e⟩ <;> rw [e] <;> decide
  rw [h59]
  simp only [Bool.false_eq_true, if_false]
  by_cases hno : 0 ≤ st.start ∨ st.opens ≠ []
  · rw [if_pos hno]; exact cdef_nest B x st w h k hno h0
  · rw [if_neg hno]
    have hst : st.start < 0 := by omega
    have hop : st.opens = [] := by
      rcases Classical.em (st.opens = []) with e | e
      · exact e
      · exact absurd (Or.inr e) hno
    by_cases hbad : (newNameS st).err = 0
    · rw [if_neg (by simpa using hbad)]
      obtain ⟨g1, g2, g3, g4, g5⟩ := good_name hi hbad
      rw [g2]
      rcases hk with ⟨rfl, e⟩ | ⟨rfl, e⟩ | ⟨rfl, e⟩
      · rw [e, if_pos (by decide)]
        exact cdef_colon B x st w h m hi hst hop h0 hB hV hE g1
      · rw [e, if_neg (by decide), if_pos (by decide)]
        exact cdef_variable B x st w h m hi hm hst hop h0 hB hV hE g1 g4
      · rw [e, if_neg (by decide), if_neg (by decide)]
        exact cdef_constant B x st w h m hi hm hst hop h0 hB hV hE g1 g4
    · rw [if_pos (by simpa using hbad)]
      obtain ⟨g1, g2⟩ := bad_name h0 hbad
      rw [g2]
      exact cdef_bad B x st w h m hi k hst hop h0 hB hV hE g1

theorem CpE.kinds {B : Nat} {w : World} {x : CX} {st : RS} (h : CpE B w x st) : ∀ o ∈ st.opens, o.1 = ⟨#[105, 102]⟩ ∨ o.1 = ⟨#[101, 108, 115, 101]⟩ ∨ o.1 = ⟨#[98, 101, 103, 105, 110]⟩ ∨ o.1 = ⟨#[119, 104, 105, 108, 101]⟩ ∨ o.1 = ⟨#[100, 111]⟩ := by
  obtain ⟨_, _, _, _, fw, fo, h⟩ := h
  intro o ho
  obtain ⟨i, hi⟩ := List.getElem?_of_mem ho
  have hl := (List.getElem?_eq_some_iff.1 hi).1
  obtain ⟨f, hf⟩ : ∃ f, fo[i]? = some f := ⟨_, List.getElem?_eq_getElem (by rw [h.things.len]; exact hl)⟩
  obtain ⟨cb, _, hc⟩ := h.things.each i f o hf hi
  rcases hc with ⟨e, _⟩ | ⟨e, _⟩ | ⟨e, _⟩ | ⟨e, _⟩ | ⟨e, _⟩
  · exact Or.inl e
  · exact Or.inr (Or.inl e)
  · exact Or.inr (Or.inr (Or.inl e))
  · exact Or.inr (Or.inr (Or.inr (Or.inl e)))
  · exact Or.inr (Or.inr (Or.inr (Or.inr e)))

/-- What a thing makes of a token is what the reference makes of it. -/
theorem thing_close (st : RS) (l : List (ByteArray × Int × Int)) (o : ByteArray × Int × Int) (ho : o.1 = ⟨#[105, 102]⟩ ∨ o.1 = ⟨#[101, 108, 115, 101]⟩ ∨ o.1 = ⟨#[98, 101, 103, 105, 110]⟩ ∨ o.1 = ⟨#[119, 104, 105, 108, 101]⟩ ∨ o.1 = ⟨#[100, 111]⟩) :
    closeS st l o = (thingR { st with opens := l } o st.token).getD (failS st 4) := by
  obtain ⟨t, a, n⟩ := o
  unfold closeS thingR closeIfR closeElseR closeBeginR closeWhileR closeDoR
  simp only [toL_iff]
  generalize st.token.data.toList = tk
  simp only at ho
  by_cases e1 : tk = [101, 108, 115, 101]
  · subst e1; rcases ho with rfl | rfl | rfl | rfl | rfl <;> rfl
  by_cases e2 : tk = [116, 104, 101, 110]
  · subst e2; rcases ho with rfl | rfl | rfl | rfl | rfl <;> rfl
  by_cases e3 : tk = [117, 110, 116, 105, 108]
  · subst e3; rcases ho with rfl | rfl | rfl | rfl | rfl <;> rfl
  by_cases e4 : tk = [119, 104, 105, 108, 101]
  · subst e4; rcases ho with rfl | rfl | rfl | rfl | rfl <;> rfl
  by_cases e5 : tk = [114, 101, 112, 101, 97, 116]
  · subst e5; rcases ho with rfl | rfl | rfl | rfl | rfl <;> rfl
  by_cases e6 : tk = [108, 111, 111, 112]
  · subst e6; rcases ho with rfl | rfl | rfl | rfl | rfl <;> rfl
  have n1 := beq_false_of_ne e1
  have n2 := beq_false_of_ne e2
  have n3 := beq_false_of_ne e3
  have n4 := beq_false_of_ne e4
  have n5 := beq_false_of_ne e5
  have n6 := beq_false_of_ne e6
  simp only [n1, n2, n3, n4, n5, n6, Bool.false_eq_true, false_and, if_false]
  split
  · rfl
  · split
    · rfl
    · split
      · rfl
      · split <;> rfl

theorem thing_err {st : RS} {o : ByteArray × Int × Int} {tok : ByteArray} {r : RS} (h : thingR st o tok = some r) : r.err = st.err := by
  have hp : ∀ (u : RS) (a b : Int), (putS u a b).err = u.err := fun u a b => by unfold putS; split <;> rfl
  have ht : ∀ (u : RS) (n : Nat), (tellS u n).err = u.err := fun u n => by unfold tellS; split <;> rfl
  unfold thingR closeIfR closeElseR closeBeginR closeWhileR closeDoR at h
  repeat' split at h
  all_goals first
    | (simp at h; done)
    | (obtain rfl := Option.some.inj h; first | (rw [ht, hp]; done) | (rw [ht]; done) | (rw [hp]; done) | (show (tellS _ _).err = _; rw [ht, hp]; done) | (show (putS _ _ _).err = _; rw [hp]; done))

theorem Done.took {B : Nat} {w : World} {x : CX} {st R : RS} {r : Option RS} (h0 : st.err = 0) (hr : R = r.getD (failS st 4)) (he : ∀ s, r = some s → s.err = 0) {e : Ending} {w' : World} (h : Done B w x st.place0 r e w') : Took B w x R e w' := by
  obtain ⟨h1, h2, h3, _, h5⟩ := h
  subst hr
  cases r with
  | none =>
    subst h1
    exact Took.fail h0 (by decide) (h3 rfl) h5
  | some s =>
    subst h1
    exact Took.ok (he s rfl) (h2 s rfl) h5

theorem ctrl_other {st : RS} (k1 : isDefine st.token.toList = false) (k2 : isControl st.token = true) (k3 : (st.token.toList == [105, 102]) = false) (k4 : (st.token.toList == [98, 101, 103, 105, 110]) = false) (k5 : (st.token.toList == [100, 111]) = false) :
    itemS st = match st.opens.getLast? with | none => failS st 4 | some x => closeS st st.opens.dropLast x := by
  unfold itemS controlS
  simp only [k1, k2, k3, k4, k5, Bool.false_eq_true, if_false, if_true]
  rfl
theorem semi_thing (st : RS) (o : ByteArray × Int × Int) (tok : ByteArray) (ht : tok.data.toList = [59]) : thingR st o tok = none := by
  unfold thingR closeIfR closeElseR closeBeginR closeWhileR closeDoR
  simp only [toL_iff, ht]
  split
  · rfl
  · split
    · rfl
    · split
      · rfl
      · split <;> rfl

theorem cclose_any (B : Nat) (x : CX) (st : RS) (w : World) (h : CpE B w x st) (m : Nat) (hi : Inv st m) (hm : m < 3000) (hn : NmOk st) (h0 : st.err = 0)
    (hk : st.token.data.toList = [59] ∨ (isDefine st.token.toList = false ∧ isControl st.token = true ∧ (st.token.toList == [105, 102]) = false ∧ (st.token.toList == [98, 101, 103, 105, 110]) = false ∧ (st.token.toList == [100, 111]) = false)) :
    Calls Tryz.prog 146 #[.pointer (some ⟨x.b, 0, none⟩), .string st.token] w (Took B w x (itemS st)) := by
  have hl := hi.lens
  unfold lens at hl
  have hlen : hereS st < 4000 := by unfold hereS; split <;> omega
  rcases List.eq_nil_or_concat st.opens with hop | ⟨l, o, hop⟩
  · -- nothing is open, but perhaps a word
    by_cases hs : 0 ≤ st.start
    · obtain ⟨w1, w2, w3⟩ := hn.word hs
      refine (closeLast_word B x st w h hs hop st.token (by omega) (by omega) w2 w3).mono (fun e w' hd => ?_)
      refine hd.took h0 ?_ ?_
      · rcases hk with ht | ⟨k1, k2, k3, k4, k5⟩
        · have e59 : (st.token.toList == [59]) = true := by rw [toL_iff, ht]; rfl
          have ed : isDefine st.token.toList = true := by rw [ByteArray.toList_eq, ht]; rfl
          unfold itemS defineS
          rw [ed, e59]
          simp only [if_true]
          rw [if_neg (by rintro (e | e); omega; exact e hop)]
          rfl
        · have e59 : (st.token.toList == [59]) = false := by
            cases e : (st.token.toList == [59])
            · rfl
            · unfold isDefine at k1; rw [e] at k1; simp at k1
          rw [ctrl_other k1 k2 k3 k4 k5, e59, hop]
          rfl
      · intro s hs'
        split at hs'
        · obtain rfl := Option.some.inj hs'
          unfold semiS putS
          split <;> exact h0
        · simp at hs'
    · refine (closeLast_empty B x st w h (by omega) hop st.token).mono (fun e w' hd => ?_)
      refine hd.took h0 ?_ (fun s e => by simp at e)
      rcases hk with ht | ⟨k1, k2, k3, k4, k5⟩
      · have e59 : (st.token.toList == [59]) = true := by rw [toL_iff, ht]; rfl
        have ed : isDefine st.token.toList = true := by rw [ByteArray.toList_eq, ht]; rfl
        unfold itemS defineS
        rw [ed, e59]
        simp only [if_true]
        rw [if_pos (Or.inl (by omega))]
        rfl
      · rw [ctrl_other k1 k2 k3 k4 k5, hop]
        rfl
  · rw [List.concat_eq_append] at hop
    have hin : o ∈ st.opens := by rw [hop]; simp
    refine (closeLast_thing B x st w h l o hop (hi.opens o hin) st.token hlen (by omega)).mono (fun e w' hd => ?_)
    refine hd.took h0 ?_ (fun s e => by rw [thing_err e]; exact h0)
    rcases hk with ht | ⟨k1, k2, k3, k4, k5⟩
    · have e59 : (st.token.toList == [59]) = true := by rw [toL_iff, ht]; rfl
      have ed : isDefine st.token.toList = true := by rw [ByteArray.toList_eq, ht]; rfl
      rw [semi_thing _ _ _ ht]
      unfold itemS defineS
      rw [ed, e59]
      simp only [if_true]
      rw [if_pos (Or.inr (by rw [hop]; simp))]
      rfl
    · rw [ctrl_other k1 k2 k3 k4 k5]
      have e1 : st.opens.getLast? = some o := by rw [hop]; simp
      have e2 : st.opens.dropLast = l := by rw [hop]; simp
      rw [e1, e2]
      exact thing_close st l o (h.kinds o hin)

theorem cfollow_any (B : Nat) (x : CX) (st : RS) (w : World) (h : CpE B w x st) (m : Nat) (hi : Inv st m) (hm : m < 3000) (hn : NmOk st) (h0 : st.err = 0) (hB : 6 ≤ B) (hV : VocOk w) (hE : ErrsOk w) (y : ByteArray × Int × Int) (hy : meanS st.token = some y) :
    Calls Tryz.prog 75 #[.pointer (some ⟨x.b, 0, none⟩), .agg #[.string y.1, .int .i64 y.2.1, .int .i64 y.2.2]] w (Took B w x (itemS st)) := by
  obtain ⟨hl1, hl2⟩ := link hy
  have hlens := hi.lens
  unfold lens at hlens
  have hlen : hereS st < 4000 := by unfold hereS; split <;> omega
  have hBw := h.size
  obtain ⟨t, k, o⟩ := y
  simp only at hl1
  have etok : st.token.data.toList = t.data.toList := by rw [hl1]
  have elist : st.token.toList = t.data.toList := by rw [ByteArray.toList_eq, etok]
  unfold linkB at hl2
  simp only at hl2 ⊢
  by_cases k0 : k = 0
  · rw [item_op hy k0]
    subst k0
    exact fol_op B x st w h t o hlen h0
  rw [if_neg k0] at hl2
  have hdef : ∀ {l : List UInt8}, t.data.toList = l → isDefine l = true → itemS st = defineS st := fun e1 e2 => by unfold itemS; rw [elist, e1, e2]; rfl
  by_cases k1 : k = 1
  · rw [if_pos k1] at hl2
    have e1 : t.data.toList = [58] := by simpa using hl2
    rw [hdef e1 rfl]
    exact fol_define B x w hBw t k o (Or.inl k1) _ (fun W hW => cdefine_any B x st W (h.below hW) m hi hm h0 hB (hV.below hW) (hE.below hW) k (Or.inl ⟨k1, by rw [etok, e1]⟩))
  rw [if_neg k1] at hl2
  by_cases k2 : k = 2
  · rw [if_pos k2] at hl2
    have e1 : t.data.toList = [118, 97, 114, 105, 97, 98, 108, 101] := by simpa using hl2
    rw [hdef e1 rfl]
    exact fol_define B x w hBw t k o (Or.inr (Or.inl k2)) _ (fun W hW => cdefine_any B x st W (h.below hW) m hi hm h0 hB (hV.below hW) (hE.below hW) k (Or.inr (Or.inl ⟨k2, by rw [etok, e1]⟩)))
  rw [if_neg k2] at hl2
  by_cases k3 : k = 3
  · rw [if_pos k3] at hl2
    have e1 : t.data.toList = [99, 111, 110, 115, 116, 97, 110, 116] := by simpa using hl2
    rw [hdef e1 rfl]
    exact fol_define B x w hBw t k o (Or.inr (Or.inr k3)) _ (fun W hW => cdefine_any B x st W (h.below hW) m hi hm h0 hB (hV.below hW) (hE.below hW) k (Or.inr (Or.inr ⟨k3, by rw [etok, e1]⟩)))
  rw [if_neg k3] at hl2
  by_cases k4 : k = 4
  · rw [item_rec hn hy k4]
    subst k4
    exact fol_recurse B x st w h t o hlen h0
  rw [if_neg k4] at hl2
  by_cases k5 : k = 5
  · rw [if_pos k5] at hl2
    have e1 : t.data.toList = [105, 102] := by simpa using hl2
    have ei : itemS st = openS (putS st 2 0) (⟨#[105, 102]⟩, 0, hereS st) := by
      unfold itemS isControl controlS
      rw [structS_L, etok, elist, e1]
      rfl
    rw [ei]
    subst k5
    exact fol_if B x st w h t o hlen (by omega) h0
  rw [if_neg k5] at hl2
  by_cases k6 : k = 6
  · rw [if_pos k6] at hl2
    have e1 : t.data.toList = [98, 101, 103, 105, 110] := by simpa using hl2
    have ei : itemS st = openS st (⟨#[98, 101, 103, 105, 110]⟩, hereS st, 0) := by
      unfold itemS isControl controlS
      rw [structS_L, etok, elist, e1]
      rfl
    rw [ei]
    subst k6
    exact fol_begin B x st w h t o (by omega) h0
  rw [if_neg k6] at hl2
  by_cases k7 : k = 7
  · rw [if_pos k7] at hl2
    have e1 : t.data.toList = [100, 111] := by simpa using hl2
    have ei : itemS st = openS (putS st 6 0) (⟨#[100, 111]⟩, (hereS st : Int) + 1, 0) := by
      unfold itemS isControl controlS
      rw [structS_L, etok, elist, e1]
      rfl
    rw [ei]
    subst k7
    exact fol_do B x st w h t o hlen (by omega) h0
  rw [if_neg k7] at hl2
  simp only [Bool.and_eq_true, beq_iff_eq, Bool.or_eq_true, Bool.not_eq_true'] at hl2
  obtain ⟨k8, hl2⟩ := hl2
  subst k8
  refine fol_closes B x w hBw t o _ (fun W hW => ?_)
  rw [← hl1]
  refine cclose_any B x st W (h.below hW) m hi hm hn h0 ?_
  rcases hl2 with e | ⟨⟨⟨⟨⟨a, b⟩, c⟩, d⟩, e⟩, f⟩
  · exact Or.inl (by rw [etok, e])
  · refine Or.inr ⟨by rw [elist]; exact c, ?_, by rw [elist]; exact d, by rw [elist]; exact e, by rw [elist]; exact f⟩
    unfold isControl
    rw [structS_L, etok, a, elist]
    unfold recL at b
    rw [b]
    rfl

end Go.Proofs.YtmeiikjpaepogaaGreatDoor

