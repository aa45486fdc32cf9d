/- The program's compiler: openWhile. -/
import Derived.Test.YtbcjfiaacenhgaaGreatDoorG33
import Derived.Test.YtbcjfiaacenhgaaGreatDoorG34
import Derived.Deep.CutRange
namespace Go.Proofs.YtbcjfiaacenhgaaGreatDoor
open Go Go.RowKit

set_option maxRecDepth 100000 in
set_option maxHeartbeats 4000000 in
theorem openWhile_any (B : Nat) (x : CX) (st : RS) (w : World) (h : CpE B w x st) (s : Int) (hlen : hereS st < 4000) (hop : st.opens.length < 3980) :
    Calls Tryz.prog 94 #[.pointer (some ⟨x.b, 0, none⟩), .int .i64 s] w fun e w' => e = .returned (.tuple #[]) ∧ CpE B w' x (openS (putS st 2 0) (⟨#[119, 104, 105, 108, 101]⟩, s, hereS st)) ∧ BoxStill w w' ∧ Below B w w' := by
  obtain ⟨fw, fo, h⟩ := h.f
  have hb0 : Below w.heap.size w ((w.alloc (.cells #[.pointer (some ⟨x.b, 0, none⟩)] 105)).alloc (.cells #[.int .i64 s] 2)) := by (repeat (first | with_reducible refine below_drew ?_ | with_reducible refine below_drawn ?_ _ | with_reducible refine below_longer ?_ _ | (with_reducible refine Below.alloc ?_ ?_ _; rotate_left; (first | omega | ((try simp only [World.size_up]) <;> (try simp only [World.size_dr]) <;> (try simp only [World.size_drN]) <;> (try simp only [World.size_up]) <;> (try simp only [World.size_dr]) <;> (try simp only [World.size_up]) <;> omega))))); (with_reducible exact Below.refl _ _)
  have hcb : Blk ((w.alloc (.cells #[.pointer (some ⟨x.b, 0, none⟩)] 105)).alloc (.cells #[.int .i64 s] 2)) w.heap.size #[.pointer (some ⟨x.b, 0, none⟩)] 105 := by (repeat (first | with_reducible refine Blk.drew ?_ | with_reducible refine Blk.drewN ?_ _ | (with_reducible refine blk_newAt _ _ ?_; (first | omega | ((try simp only [World.size_up]) <;> (try simp only [World.size_dr]) <;> (try simp only [World.size_drN]) <;> (try simp only [World.size_up]) <;> (try simp only [World.size_dr]) <;> (try simp only [World.size_up]) <;> omega))) | with_reducible refine Blk.alloc ?_ _)); (first | done | with_reducible assumption)
  have hsb : Blk ((w.alloc (.cells #[.pointer (some ⟨x.b, 0, none⟩)] 105)).alloc (.cells #[.int .i64 s] 2)) (w.heap.size + 1) #[.int .i64 s] 2 := by (repeat (first | with_reducible refine Blk.drew ?_ | with_reducible refine Blk.drewN ?_ _ | (with_reducible refine blk_newAt _ _ ?_; (first | omega | ((try simp only [World.size_up]) <;> (try simp only [World.size_dr]) <;> (try simp only [World.size_drN]) <;> (try simp only [World.size_up]) <;> (try simp only [World.size_dr]) <;> (try simp only [World.size_up]) <;> omega))) | with_reducible refine Blk.alloc ?_ _)); (first | done | with_reducible assumption)
  have h0 := h.below hb0
  have hB := h.size
  obtain ⟨s0, vo, hblk⟩ := h0.blk
  have hc := hblk.cell
  have hxl := h.size0
  have hxa0 : x.b < w.heap.size := by omega
  have hxb0 : x.b ≤ w.heap.size := by omega
  have hxa1 : x.b < w.heap.size + 1 := by omega
  have hxb1 : x.b ≤ w.heap.size + 1 := by omega
  have hxa2 : x.b < w.heap.size + 1 + 1 := by omega
  have hxb2 : x.b ≤ w.heap.size + 1 + 1 := by omega
  have hxa3 : x.b < w.heap.size + 1 + 1 + 1 := by omega
  have hxb3 : x.b ≤ w.heap.size + 1 + 1 + 1 := by omega
  have hxa4 : x.b < w.heap.size + 1 + 1 + 1 + 1 := by omega
  have hxb4 : x.b ≤ w.heap.size + 1 + 1 + 1 + 1 := by omega
  have hxa5 : x.b < w.heap.size + 1 + 1 + 1 + 1 + 1 := by omega
  have hxb5 : x.b ≤ w.heap.size + 1 + 1 + 1 + 1 + 1 := by omega
  unfold cpArr at hc
  have HADD := hide (addW B x st _ fw fo h0 2 0 hlen)
  have H0 := hide h0
  have hsz : ((w.alloc (.cells #[.pointer (some ⟨x.b, 0, none⟩)] 105)).alloc (.cells #[.int .i64 s] 2)).heap.size = w.heap.size + 1 + 1 := by simp
  have hcc := hcb.cell
  have HCB := hide hcb
  have HB0 := hide hb0
  have HSB := hide hsb
  clear hsb
  clear hblk hcb hb0 h h0
  generalize hhx : hereX x st = hx at *
  have HHX := hide hhx
  clear hhx
  go_enter Tryz.func94, Tryz.ntmps94
  go_wp2_with fail
  generalize (w.alloc (.cells #[.pointer (some ⟨x.b, 0, none⟩)] 105)).alloc (.cells #[.int .i64 s] 2) = W0 at *
  go_cut [4] from 5 to 16 (fun s4 wc => Boxed B W0 x (putS st 2 0) fw fo (hereS st) s4 wc)
  case first =>
    go_region_law (first
      | (refine step_call rfl 48 #[.const (.int .i64 2)] #[3] rfl Tryz.func48 Tryz.name48 Tryz.body48 #[.int .i64 2] (by first | (simp [Act.eval]; done) | rfl) (plainI_any 2 _) ?_; rintro e w1 ⟨rfl, rfl⟩; refine ⟨_, rfl, ?_⟩)
      | (refine step_call rfl 47 #[.tmp 8, .tmp 10] #[110, 30] rfl Tryz.func47 Tryz.name47 Tryz.body47 #[.pointer (some ⟨hx, 0, none⟩), .slice (some ⟨w.heap.size + 1 + 1 + 1 + 1, 0, none⟩) 1 1] (by first | (simp [Act.eval]; done) | rfl) (unhide HADD _ (w.heap.size + 1 + 1 + 1 + 1) (by (repeat (first | with_reducible refine below_drew ?_ | with_reducible refine below_drawn ?_ _ | with_reducible refine below_longer ?_ _ | (with_reducible refine Below.alloc ?_ ?_ _; rotate_left; (first | omega | ((try simp only [World.size_up]) <;> (try simp only [World.size_dr]) <;> (try simp only [World.size_drN]) <;> (try simp only [World.size_up]) <;> (try simp only [World.size_dr]) <;> (try simp only [World.size_up]) <;> omega))))); (with_reducible exact Below.refl _ _)) (by (repeat (first | with_reducible refine Blk.drew ?_ | with_reducible refine Blk.drewN ?_ _ | (with_reducible refine blk_newAt _ _ ?_; (first | omega | ((try simp only [World.size_up]) <;> (try simp only [World.size_dr]) <;> (try simp only [World.size_drN]) <;> (try simp only [World.size_up]) <;> (try simp only [World.size_dr]) <;> (try simp only [World.size_up]) <;> omega))) | with_reducible refine Blk.alloc ?_ _)); (first | done | with_reducible assumption))) ?_; rintro e w1 ⟨rfl, h2, h1⟩; refine ⟨_, rfl, ?_⟩; have hjb : Blk w1 (w.heap.size + 1 + 1) #[.int .i64 0] 2 := h2 _ _ _ (by (repeat (first | with_reducible refine Blk.drew ?_ | with_reducible refine Blk.drewN ?_ _ | (with_reducible refine blk_newAt _ _ ?_; (first | omega | ((try simp only [World.size_up]) <;> (try simp only [World.size_dr]) <;> (try simp only [World.size_drN]) <;> (try simp only [World.size_up]) <;> (try simp only [World.size_dr]) <;> (try simp only [World.size_up]) <;> omega))) | with_reducible refine Blk.alloc ?_ _)); (first | done | with_reducible assumption)) (Or.inr (Or.inl rfl)); have hcj := hjb.cell; have hfj := hjb.free; have HJ := hide hjb; clear hjb; have H1 := hide h1; clear h1 h2)
      | (refine step_call rfl 47 #[.tmp 8, .tmp 10] #[110, 30] rfl Tryz.func47 Tryz.name47 Tryz.body47 #[.pointer (some ⟨hx, 0, none⟩), .slice (some ⟨w.heap.size + 1 + 1 + 1 + 1, 0, none⟩) 1 1] (by first | (simp [Act.eval]; done) | rfl) (unhide HADD _ (w.heap.size + 1 + 1 + 1 + 1) (by (repeat (first | with_reducible refine below_drew ?_ | with_reducible refine below_drawn ?_ _ | with_reducible refine below_longer ?_ _ | (with_reducible refine Below.alloc ?_ ?_ _; rotate_left; (first | omega | ((try simp only [World.size_up]) <;> (try simp only [World.size_dr]) <;> (try simp only [World.size_drN]) <;> (try simp only [World.size_up]) <;> (try simp only [World.size_dr]) <;> (try simp only [World.size_up]) <;> omega))))); (with_reducible exact Below.refl _ _)) (by (repeat (first | with_reducible refine Blk.drew ?_ | with_reducible refine Blk.drewN ?_ _ | (with_reducible refine blk_newAt _ _ ?_; (first | omega | ((try simp only [World.size_up]) <;> (try simp only [World.size_dr]) <;> (try simp only [World.size_drN]) <;> (try simp only [World.size_up]) <;> (try simp only [World.size_dr]) <;> (try simp only [World.size_up]) <;> omega))) | with_reducible refine Blk.alloc ?_ _)); (first | done | with_reducible assumption))) ?_; rintro e w1 ⟨rfl, h2, h1⟩; refine ⟨_, rfl, ?_⟩; have hjb : Blk w1 (w.heap.size + 1 + 1 + 1) #[.int .i64 0] 2 := h2 _ _ _ (by (repeat (first | with_reducible refine Blk.drew ?_ | with_reducible refine Blk.drewN ?_ _ | (with_reducible refine blk_newAt _ _ ?_; (first | omega | ((try simp only [World.size_up]) <;> (try simp only [World.size_dr]) <;> (try simp only [World.size_drN]) <;> (try simp only [World.size_up]) <;> (try simp only [World.size_dr]) <;> (try simp only [World.size_up]) <;> omega))) | with_reducible refine Blk.alloc ?_ _)); (first | done | with_reducible assumption)) (Or.inr (Or.inl rfl)); have hcj := hjb.cell; have hfj := hjb.free; have HJ := hide hjb; clear hjb; have H1 := hide h1; clear h1 h2)
      | (refine step_call rfl 47 #[.tmp 8, .tmp 10] #[110, 30] rfl Tryz.func47 Tryz.name47 Tryz.body47 #[.pointer (some ⟨hx, 0, none⟩), .slice (some ⟨w.heap.size + 1 + 1 + 1, 0, none⟩) 1 1] (by first | (simp [Act.eval]; done) | rfl) (unhide HADD _ (w.heap.size + 1 + 1 + 1) (by (repeat (first | with_reducible refine below_drew ?_ | with_reducible refine below_drawn ?_ _ | with_reducible refine below_longer ?_ _ | (with_reducible refine Below.alloc ?_ ?_ _; rotate_left; (first | omega | ((try simp only [World.size_up]) <;> (try simp only [World.size_dr]) <;> (try simp only [World.size_drN]) <;> (try simp only [World.size_up]) <;> (try simp only [World.size_dr]) <;> (try simp only [World.size_up]) <;> omega))))); (with_reducible exact Below.refl _ _)) (by (repeat (first | with_reducible refine Blk.drew ?_ | with_reducible refine Blk.drewN ?_ _ | (with_reducible refine blk_newAt _ _ ?_; (first | omega | ((try simp only [World.size_up]) <;> (try simp only [World.size_dr]) <;> (try simp only [World.size_drN]) <;> (try simp only [World.size_up]) <;> (try simp only [World.size_dr]) <;> (try simp only [World.size_up]) <;> omega))) | with_reducible refine Blk.alloc ?_ _)); (first | done | with_reducible assumption))) ?_; rintro e w1 ⟨rfl, h2, h1⟩; refine ⟨_, rfl, ?_⟩; have hjb : Blk w1 (w.heap.size + 1 + 1 + 1 + 1) #[.int .i64 0] 2 := h2 _ _ _ (by (repeat (first | with_reducible refine Blk.drew ?_ | with_reducible refine Blk.drewN ?_ _ | (with_reducible refine blk_newAt _ _ ?_; (first | omega | ((try simp only [World.size_up]) <;> (try simp only [World.size_dr]) <;> (try simp only [World.size_drN]) <;> (try simp only [World.size_up]) <;> (try simp only [World.size_dr]) <;> (try simp only [World.size_up]) <;> omega))) | with_reducible refine Blk.alloc ?_ _)); (first | done | with_reducible assumption)) (Or.inr (Or.inl rfl)); have hcj := hjb.cell; have hfj := hjb.free; have HJ := hide hjb; clear hjb; have H1 := hide h1; clear h1 h2)
      | (refine step_call rfl 47 #[.tmp 8, .tmp 10] #[110, 30] rfl Tryz.func47 Tryz.name47 Tryz.body47 #[.pointer (some ⟨hx, 0, none⟩), .slice (some ⟨w.heap.size + 1 + 1 + 1, 0, none⟩) 1 1] (by first | (simp [Act.eval]; done) | rfl) (unhide HADD _ (w.heap.size + 1 + 1 + 1) (by (repeat (first | with_reducible refine below_drew ?_ | with_reducible refine below_drawn ?_ _ | with_reducible refine below_longer ?_ _ | (with_reducible refine Below.alloc ?_ ?_ _; rotate_left; (first | omega | ((try simp only [World.size_up]) <;> (try simp only [World.size_dr]) <;> (try simp only [World.size_drN]) <;> (try simp only [World.size_up]) <;> (try simp only [World.size_dr]) <;> (try simp only [World.size_up]) <;> omega))))); (with_reducible exact Below.refl _ _)) (by (repeat (first | with_reducible refine Blk.drew ?_ | with_reducible refine Blk.drewN ?_ _ | (with_reducible refine blk_newAt _ _ ?_; (first | omega | ((try simp only [World.size_up]) <;> (try simp only [World.size_dr]) <;> (try simp only [World.size_drN]) <;> (try simp only [World.size_up]) <;> (try simp only [World.size_dr]) <;> (try simp only [World.size_up]) <;> omega))) | with_reducible refine Blk.alloc ?_ _)); (first | done | with_reducible assumption))) ?_; rintro e w1 ⟨rfl, h2, h1⟩; refine ⟨_, rfl, ?_⟩; skip; have H1 := hide h1; clear h1 h2))
    all_goals
      go_wp2_with fail
      go_meet
      first
      | exact boxed_new (unhide H1)
      | exact boxed_set (by omega) (putS_as _ _ _) (unhide H1) (unhide HJ) (by omega)
  case rest =>
    obtain ⟨jb, rfl, hj, hF, hbx, hbl⟩ := hcut
    have hcb := hbx _ _ _ (unhide HCB) (Or.inl rfl)
    have hsb := hbx _ _ _ (unhide HSB) (Or.inr (Or.inl rfl))
    have hcc2 := hcb.cell
    have H1 := hide (And.intro hcb (And.intro hj (And.intro hF (And.intro hbx (And.intro hbl hsb)))))
    clear hj hF hbx hbl hcb hcc hc HADD hsb
    go_wp2_with fail
    obtain ⟨hcb, hj, hF, hbx, hbl, hsb⟩ := unhide H1
    refine (pushW B x (putS st 2 0) wc hF.e _ rfl (⟨#[119, 104, 105, 108, 101]⟩, s, hereS st) ⟨_, hcb, Or.inr (Or.inr (Or.inr (Or.inl ⟨rfl, _, jb, hsb, hj, rfl⟩)))⟩ (by rw [(putS_as _ _ _).2.2]; omega)).mono ?_
    rintro e w2 ⟨rfl, k1, k2, k3⟩
    clear hcb hj hF hbx hbl hcc2 hsb
    go_wp2_with fail
    go_end0
    obtain ⟨hcb, hj, hF, hbx, hbl, hsb⟩ := unhide H1
    exact ⟨rfl, k1, (BoxStill.ofBelow (unhide HB0)).trans (hbx.trans k2), (below_less (unhide HB0) (by omega)).trans (hbl.trans k3)⟩

end Go.Proofs.YtbcjfiaacenhgaaGreatDoor

/- The program's compiler: what closes a begin. -/
namespace Go.Proofs.YtbcjfiaacenhgaaGreatDoor
open Go Go.RowKit

def closeBeginR (st : RS) (s : Int) (tok : ByteArray) : Option RS :=
  if tok.toList == [117, 110, 116, 105, 108] then some (putS st 2 s)
  else if tok.toList == [119, 104, 105, 108, 101] then some (openS (putS st 2 0) (⟨#[119, 104, 105, 108, 101]⟩, s, hereS st))
  else none

set_option maxRecDepth 100000 in
set_option maxHeartbeats 4000000 in
theorem closeBegin_any (B : Nat) (x : CX) (st : RS) (w : World) (h : CpE B w x st) (cb sb : Nat) (s : Int) (hcb : Blk w cb #[.pointer (some ⟨x.b, 0, none⟩)] 105) (hsb : Blk w sb #[.int .i64 s] 2) (tok : ByteArray) (hlen : hereS st < 4000) (hop : st.opens.length < 3980) :
    Calls Tryz.prog 93 #[.string tok, .pointer (some ⟨cb, 0, none⟩), .pointer (some ⟨sb, 0, none⟩)] w (Closed B w x (closeBeginR st s tok)) := by
  obtain ⟨fw, fo, hF⟩ := h.f
  have HADD := hide (addW B x st w fw fo hF 2 s hlen)
  have HWH := hide (openWhile_any B x st w h s hlen hop)
  obtain ⟨s0, vo, hblk⟩ := hF.blk
  have hc := hblk.cell
  have hxl := hF.size0
  unfold cpArr at hc
  have hcc := hcb.cell
  have hcs := hsb.cell
  have hcl := hcb.lt
  have hsl := hsb.lt
  have hxa0 : x.b < w.heap.size + 1 := by omega
  have hxb0 : x.b ≤ w.heap.size := by omega
  have hxc0 : x.b ≤ w.heap.size + 1 := by omega
  have hxd0 : x.b < w.heap.size + 1 + 1 := by omega
  have hxa1 : cb < w.heap.size + 1 := by omega
  have hxb1 : cb ≤ w.heap.size := by omega
  have hxc1 : cb ≤ w.heap.size + 1 := by omega
  have hxd1 : cb < w.heap.size + 1 + 1 := by omega
  have hxa2 : sb < w.heap.size + 1 := by omega
  have hxb2 : sb ≤ w.heap.size := by omega
  have hxc2 : sb ≤ w.heap.size + 1 := by omega
  have hxd2 : sb < w.heap.size + 1 + 1 := by omega
  clear hblk hF h hcb hsb
  generalize hhx : hereX x st = hx at *
  have HHX := hide hhx
  clear hhx
  unfold closeBeginR
  by_cases h1 : (tok.toList == [117, 110, 116, 105, 108]) = true
  · rw [if_pos h1]
    have h1e := tok_eq h1
    subst h1e
    clear h1
    go_enter Tryz.func93, Tryz.ntmps93
    go_wp2_with fail
    go_region_law (first
      | (refine step_call rfl 69 #[.const (.int .i64 2), .tmp 12] #[3, 2] rfl Tryz.func69 Tryz.name69 Tryz.body69 #[.int .i64 2, .int .i64 s] (by first | (simp [Act.eval]; done) | (simp [Act.eval, Act.put]; done) | rfl) (withI_any 2 s _) ?_; rintro e w1 ⟨rfl, rfl⟩; refine ⟨_, rfl, ?_⟩)
      | (refine step_call rfl 47 #[.tmp 11, .tmp 14] #[110, 30] rfl Tryz.func47 Tryz.name47 Tryz.body47 #[.pointer (some ⟨hx, 0, none⟩), .slice (some ⟨w.heap.size + 1, 0, none⟩) 1 1] (by first | (simp [Act.eval]; done) | (simp [Act.eval, Act.put]; done) | rfl) (unhide HADD _ (w.heap.size + 1) (by (repeat (first | with_reducible refine below_drew ?_ | with_reducible refine below_drawn ?_ _ | with_reducible refine below_longer ?_ _ | (with_reducible refine Below.alloc ?_ ?_ _; rotate_left; (first | omega | ((try simp only [World.size_up]) <;> (try simp only [World.size_dr]) <;> (try simp only [World.size_drN]) <;> (try simp only [World.size_up]) <;> (try simp only [World.size_dr]) <;> (try simp only [World.size_up]) <;> omega))))); (with_reducible exact Below.refl _ _)) (by (repeat (first | with_reducible refine Blk.drew ?_ | with_reducible refine Blk.drewN ?_ _ | (with_reducible refine blk_newAt _ _ ?_; (first | omega | ((try simp only [World.size_up]) <;> (try simp only [World.size_dr]) <;> (try simp only [World.size_drN]) <;> (try simp only [World.size_up]) <;> (try simp only [World.size_dr]) <;> (try simp only [World.size_up]) <;> omega))) | with_reducible refine Blk.alloc ?_ _)); (first | done | with_reducible assumption))) ?_; rintro e w1 ⟨rfl, h2, h1⟩; refine ⟨_, rfl, ?_⟩; have H1 := hide h1; clear h1 h2))
    all_goals
      go_wp2_with fail
      go_ret
      obtain ⟨k1, _, k2, k3⟩ := unhide H1
      exact Closed.yes k1.e k2 k3
  · rw [if_neg h1]
    by_cases h2 : (tok.toList == [119, 104, 105, 108, 101]) = true
    · rw [if_pos h2]
      have h2e := tok_eq h2
      subst h2e
      clear h1 h2
      go_enter Tryz.func93, Tryz.ntmps93
      go_wp2_with fail
      refine (unhide HWH).mono ?_
      rintro e w2 ⟨rfl, k1, k2, k3⟩
      go_wp2_with fail
      go_ret
      exact Closed.yes k1 k2 k3
    · rw [if_neg h2]
      have e1 : (tok.toList == [117, 110, 116, 105, 108]) = false := by simpa using h1
      have e2 : (tok.toList == [119, 104, 105, 108, 101]) = false := by simpa using h2
      go_enter Tryz.func93, Tryz.ntmps93
      go_wp2_with fail
      go_ret
      exact Closed.no


end Go.Proofs.YtbcjfiaacenhgaaGreatDoor

/- The program's compiler: what closes a while. -/
namespace Go.Proofs.YtbcjfiaacenhgaaGreatDoor
open Go Go.RowKit

def closeWhileR (st : RS) (s : Int) (n : Nat) (tok : ByteArray) : Option RS :=
  if tok.toList == [114, 101, 112, 101, 97, 116] then some (tellS (putS st 1 s) n) else none

set_option maxRecDepth 100000 in
set_option maxHeartbeats 4000000 in
theorem closeWhile_any (B : Nat) (x : CX) (st : RS) (w : World) (h : CpE B w x st) (cb sb jb n : Nat) (s : Int) (hcb : Blk w cb #[.pointer (some ⟨x.b, 0, none⟩)] 105) (hsb : Blk w sb #[.int .i64 s] 2) (hjb : Blk w jb #[.int .i64 n] 2) (tok : ByteArray) (hlen : hereS st < 4000) (hn : n < hereS st) :
    Calls Tryz.prog 102 #[.string tok, .pointer (some ⟨cb, 0, none⟩), .pointer (some ⟨sb, 0, none⟩), .pointer (some ⟨jb, 0, none⟩)] w (Closed B w x (closeWhileR st s n tok)) := by
  obtain ⟨fw, fo, hF⟩ := h.f
  have HADD := hide (addW B x st w fw fo hF 1 s hlen)
  obtain ⟨s0, vo, hblk⟩ := hF.blk
  have hc := hblk.cell
  have hxl := hF.size0
  unfold cpArr at hc
  have hcc := hcb.cell
  have hcs := hsb.cell
  have hcl := hcb.lt
  have hsl := hsb.lt
  have hxa0 : x.b < w.heap.size + 1 := by omega
  have hxb0 : x.b ≤ w.heap.size := by omega
  have hxc0 : x.b ≤ w.heap.size + 1 := by omega
  have hxd0 : x.b < w.heap.size + 1 + 1 := by omega
  have hxa1 : cb < w.heap.size + 1 := by omega
  have hxb1 : cb ≤ w.heap.size := by omega
  have hxc1 : cb ≤ w.heap.size + 1 := by omega
  have hxd1 : cb < w.heap.size + 1 + 1 := by omega
  have hxa2 : sb < w.heap.size + 1 := by omega
  have hxb2 : sb ≤ w.heap.size := by omega
  have hxc2 : sb ≤ w.heap.size + 1 := by omega
  have hxd2 : sb < w.heap.size + 1 + 1 := by omega
  have HCB := hide hcb
  have HJB := hide hjb
  clear hblk hF h hcb hsb hjb
  generalize hhx : hereX x st = hx at *
  have HHX := hide hhx
  clear hhx
  unfold closeWhileR
  by_cases h1 : (tok.toList == [114, 101, 112, 101, 97, 116]) = true
  · rw [if_pos h1]
    have h1e := tok_eq h1
    subst h1e
    clear h1
    go_enter Tryz.func102, Tryz.ntmps102
    go_wp2_with fail
    go_cut [] from 8 to 21 (fun wc => CpF B wc x (putS st 1 s) fw fo ∧ Things w x.b st fw fo ∧ BoxStill w wc ∧ Below B w wc)
    case first =>
      go_region_law (first
      | (refine step_call rfl 69 #[.const (.int .i64 1), .tmp 12] #[3, 2] rfl Tryz.func69 Tryz.name69 Tryz.body69 #[.int .i64 1, .int .i64 s] (by first | (simp [Act.eval]; done) | (simp [Act.eval, Act.put]; done) | rfl) (withI_any 1 s _) ?_; rintro e w1 ⟨rfl, rfl⟩; refine ⟨_, rfl, ?_⟩)
      | (refine step_call rfl 47 #[.tmp 11, .tmp 14] #[110, 30] rfl Tryz.func47 Tryz.name47 Tryz.body47 #[.pointer (some ⟨hx, 0, none⟩), .slice (some ⟨w.heap.size + 1, 0, none⟩) 1 1] (by first | (simp [Act.eval]; done) | (simp [Act.eval, Act.put]; done) | rfl) (unhide HADD _ (w.heap.size + 1) (by (repeat (first | with_reducible refine below_drew ?_ | with_reducible refine below_drawn ?_ _ | with_reducible refine below_longer ?_ _ | (with_reducible refine Below.alloc ?_ ?_ _; rotate_left; (first | omega | ((try simp only [World.size_up]) <;> (try simp only [World.size_dr]) <;> (try simp only [World.size_drN]) <;> (try simp only [World.size_up]) <;> (try simp only [World.size_dr]) <;> (try simp only [World.size_up]) <;> omega))))); (with_reducible exact Below.refl _ _)) (by (repeat (first | with_reducible refine Blk.drew ?_ | with_reducible refine Blk.drewN ?_ _ | (with_reducible refine blk_newAt _ _ ?_; (first | omega | ((try simp only [World.size_up]) <;> (try simp only [World.size_dr]) <;> (try simp only [World.size_drN]) <;> (try simp only [World.size_up]) <;> (try simp only [World.size_dr]) <;> (try simp only [World.size_up]) <;> omega))) | with_reducible refine Blk.alloc ?_ _)); (first | done | with_reducible assumption))) ?_; rintro e w1 ⟨rfl, h2, h1⟩; refine ⟨_, rfl, ?_⟩; have H1 := hide h1; clear h1 h2))
      all_goals
        go_wp2_with fail
        go_meet
        exact unhide H1
    case rest =>
      obtain ⟨hF, hT, hbx, hbl⟩ := hcut
      have hcc2 := (hbx _ _ _ (unhide HCB) (Or.inl rfl)).cell
      have hcj2 := (hbx _ _ _ (unhide HJB) (Or.inr (Or.inl rfl))).cell
      have hax := aimW B x (putS st 1 s) wc hF.e n (by rw [hereS_put]; omega)
      rw [hereX_put, unhide HHX] at hax
      have HAX := hide hax
      obtain ⟨s1, vo1, hblk1⟩ := hF.blk
      have hc1 := hblk1.cell
      unfold cpArr at hc1
      rw [hereX_put, unhide HHX] at hc1
      have HX := hide (And.intro hbx hbl)
      clear hF hT hbx hbl hcc hc HADD hax hblk1
      go_wp2_with fail
      go_region_law (refine step_call rfl 91 #[.tmp 19, .tmp 20] #[110, 2] rfl Tryz.func91 Tryz.name91 Tryz.body91 #[.pointer (some ⟨hx, 0, none⟩), .int .i64 n] (by first | (simp [Act.eval]; done) | (simp [Act.eval, Act.put]; done) | rfl) (unhide HAX _ (by (repeat (first | with_reducible refine below_drew ?_ | with_reducible refine below_drawn ?_ _ | with_reducible refine below_longer ?_ _ | (with_reducible refine Below.alloc ?_ ?_ _; rotate_left; (first | omega | ((try simp only [World.size_up]) <;> (try simp only [World.size_dr]) <;> (try simp only [World.size_drN]) <;> (try simp only [World.size_up]) <;> (try simp only [World.size_dr]) <;> (try simp only [World.size_up]) <;> omega))))); (with_reducible exact Below.refl _ _))) ?_; rintro e w1 ⟨rfl, h1⟩; refine ⟨_, rfl, ?_⟩; have H1 := hide h1; clear h1)
      all_goals
        go_wp2_with fail
        go_ret
        obtain ⟨k1, k2, k3⟩ := unhide H1
        obtain ⟨m2, m3⟩ := unhide HX
        exact Closed.yes k1 (m2.trans k2) (m3.trans k3)
  · rw [if_neg h1]
    have e1 : (tok.toList == [114, 101, 112, 101, 97, 116]) = false := by simpa using h1
    go_enter Tryz.func102, Tryz.ntmps102
    go_wp2_with fail
    go_ret
    exact Closed.no


end Go.Proofs.YtbcjfiaacenhgaaGreatDoor

/- The program's compiler: what closes a do. -/
namespace Go.Proofs.YtbcjfiaacenhgaaGreatDoor
open Go Go.RowKit

def closeDoR (st : RS) (s : Int) (tok : ByteArray) : Option RS :=
  if tok.toList == [108, 111, 111, 112] then some (putS st 7 s) else none

set_option maxRecDepth 100000 in
set_option maxHeartbeats 4000000 in
theorem closeDo_any (B : Nat) (x : CX) (st : RS) (w : World) (h : CpE B w x st) (cb sb : Nat) (s : Int) (hcb : Blk w cb #[.pointer (some ⟨x.b, 0, none⟩)] 105) (hsb : Blk w sb #[.int .i64 s] 2) (tok : ByteArray) (hlen : hereS st < 4000) :
    Calls Tryz.prog 95 #[.string tok, .pointer (some ⟨cb, 0, none⟩), .pointer (some ⟨sb, 0, none⟩)] w (Closed B w x (closeDoR st s tok)) := by
  obtain ⟨fw, fo, hF⟩ := h.f
  have HADD := hide (addW B x st w fw fo hF 7 s hlen)
  obtain ⟨s0, vo, hblk⟩ := hF.blk
  have hc := hblk.cell
  have hxl := hF.size0
  unfold cpArr at hc
  have hcc := hcb.cell
  have hcs := hsb.cell
  have hcl := hcb.lt
  have hsl := hsb.lt
  have hxa0 : x.b < w.heap.size + 1 := by omega
  have hxb0 : x.b ≤ w.heap.size := by omega
  have hxc0 : x.b ≤ w.heap.size + 1 := by omega
  have hxd0 : x.b < w.heap.size + 1 + 1 := by omega
  have hxa1 : cb < w.heap.size + 1 := by omega
  have hxb1 : cb ≤ w.heap.size := by omega
  have hxc1 : cb ≤ w.heap.size + 1 := by omega
  have hxd1 : cb < w.heap.size + 1 + 1 := by omega
  have hxa2 : sb < w.heap.size + 1 := by omega
  have hxb2 : sb ≤ w.heap.size := by omega
  have hxc2 : sb ≤ w.heap.size + 1 := by omega
  have hxd2 : sb < w.heap.size + 1 + 1 := by omega
  clear hblk hF h hcb hsb
  generalize hhx : hereX x st = hx at *
  have HHX := hide hhx
  clear hhx
  unfold closeDoR
  by_cases h1 : (tok.toList == [108, 111, 111, 112]) = true
  · rw [if_pos h1]
    have h1e := tok_eq h1
    subst h1e
    clear h1
    go_enter Tryz.func95, Tryz.ntmps95
    go_wp2_with fail
    go_region_law (first
      | (refine step_call rfl 69 #[.const (.int .i64 7), .tmp 11] #[3, 2] rfl Tryz.func69 Tryz.name69 Tryz.body69 #[.int .i64 7, .int .i64 s] (by first | (simp [Act.eval]; done) | (simp [Act.eval, Act.put]; done) | rfl) (withI_any 7 s _) ?_; rintro e w1 ⟨rfl, rfl⟩; refine ⟨_, rfl, ?_⟩)
      | (refine step_call rfl 47 #[.tmp 10, .tmp 13] #[110, 30] rfl Tryz.func47 Tryz.name47 Tryz.body47 #[.pointer (some ⟨hx, 0, none⟩), .slice (some ⟨w.heap.size + 1, 0, none⟩) 1 1] (by first | (simp [Act.eval]; done) | (simp [Act.eval, Act.put]; done) | rfl) (unhide HADD _ (w.heap.size + 1) (by (repeat (first | with_reducible refine below_drew ?_ | with_reducible refine below_drawn ?_ _ | with_reducible refine below_longer ?_ _ | (with_reducible refine Below.alloc ?_ ?_ _; rotate_left; (first | omega | ((try simp only [World.size_up]) <;> (try simp only [World.size_dr]) <;> (try simp only [World.size_drN]) <;> (try simp only [World.size_up]) <;> (try simp only [World.size_dr]) <;> (try simp only [World.size_up]) <;> omega))))); (with_reducible exact Below.refl _ _)) (by (repeat (first | with_reducible refine Blk.drew ?_ | with_reducible refine Blk.drewN ?_ _ | (with_reducible refine blk_newAt _ _ ?_; (first | omega | ((try simp only [World.size_up]) <;> (try simp only [World.size_dr]) <;> (try simp only [World.size_drN]) <;> (try simp only [World.size_up]) <;> (try simp only [World.size_dr]) <;> (try simp only [World.size_up]) <;> omega))) | with_reducible refine Blk.alloc ?_ _)); (first | done | with_reducible assumption))) ?_; rintro e w1 ⟨rfl, h2, h1⟩; refine ⟨_, rfl, ?_⟩; have H1 := hide h1; clear h1 h2))
    all_goals
      go_wp2_with fail
      go_ret
      obtain ⟨k1, _, k2, k3⟩ := unhide H1
      exact Closed.yes k1.e k2 k3
  · rw [if_neg h1]
    have e1 : (tok.toList == [108, 111, 111, 112]) = false := by simpa using h1
    go_enter Tryz.func95, Tryz.ntmps95
    go_wp2_with fail
    go_ret
    exact Closed.no


end Go.Proofs.YtbcjfiaacenhgaaGreatDoor

