/- The program's compiler: openElse. -/
import Derived.Test.YtbcjfiaacenhgaaGreatDoorG33
import Derived.Deep.CutRange
import Derived.Lib.Builder
namespace Go.Proofs.YtbcjfiaacenhgaaGreatDoor
open Go Go.RowKit

set_option maxRecDepth 100000 in
set_option maxHeartbeats 4000000 in
theorem openElse_any (B : Nat) (x : CX) (st : RS) (w : World) (h : CpE B w x st) (j : Nat) (hj0 : j < hereS st) (hlen : hereS st < 4000) (hop : st.opens.length < 3980) :
    Calls Tryz.prog 92 #[.pointer (some ⟨x.b, 0, none⟩), .int .i64 j] w fun e w' => e = .returned (.tuple #[]) ∧ CpE B w' x (openS (tellS (putS st 1 0) j) (⟨#[101, 108, 115, 101]⟩, 0, hereS st)) ∧ BoxStill w w' ∧ Below B w w' := by
  obtain ⟨fw, fo, h⟩ := h.f
  have hb0 : Below w.heap.size w (w.alloc (.cells #[.pointer (some ⟨x.b, 0, none⟩)] 105)) := by (repeat (first | with_reducible refine below_drew ?_ | with_reducible refine below_drawn ?_ _ | with_reducible refine below_longer ?_ _ | (with_reducible refine Below.alloc ?_ ?_ _; rotate_left; (first | omega | ((try simp only [World.size_up]) <;> (try simp only [World.size_dr]) <;> (try simp only [World.size_drN]) <;> (try simp only [World.size_up]) <;> (try simp only [World.size_dr]) <;> (try simp only [World.size_up]) <;> omega))))); (with_reducible exact Below.refl _ _)
  have hcb : Blk (w.alloc (.cells #[.pointer (some ⟨x.b, 0, none⟩)] 105)) w.heap.size #[.pointer (some ⟨x.b, 0, none⟩)] 105 := by (repeat (first | with_reducible refine Blk.drew ?_ | with_reducible refine Blk.drewN ?_ _ | (with_reducible refine blk_newAt _ _ ?_; (first | omega | ((try simp only [World.size_up]) <;> (try simp only [World.size_dr]) <;> (try simp only [World.size_drN]) <;> (try simp only [World.size_up]) <;> (try simp only [World.size_dr]) <;> (try simp only [World.size_up]) <;> omega))) | with_reducible refine Blk.alloc ?_ _)); (first | done | with_reducible assumption)
  have h0 := h.below hb0
  have hB := h.size
  obtain ⟨s0, vo, hblk⟩ := h0.blk
  have hc := hblk.cell
  have hxl := h.size0
  have hxa0 : x.b < w.heap.size := by omega
  have hxb0 : x.b ≤ w.heap.size := by omega
  have hxa1 : x.b < w.heap.size + 1 := by omega
  have hxb1 : x.b ≤ w.heap.size + 1 := by omega
  have hxa2 : x.b < w.heap.size + 1 + 1 := by omega
  have hxb2 : x.b ≤ w.heap.size + 1 + 1 := by omega
  have hxa3 : x.b < w.heap.size + 1 + 1 + 1 := by omega
  have hxb3 : x.b ≤ w.heap.size + 1 + 1 + 1 := by omega
  have hxa4 : x.b < w.heap.size + 1 + 1 + 1 + 1 := by omega
  have hxb4 : x.b ≤ w.heap.size + 1 + 1 + 1 + 1 := by omega
  have hxa5 : x.b < w.heap.size + 1 + 1 + 1 + 1 + 1 := by omega
  have hxb5 : x.b ≤ w.heap.size + 1 + 1 + 1 + 1 + 1 := by omega
  unfold cpArr at hc
  have HADD := hide (addW B x st _ fw fo h0 1 0 hlen)
  have H0 := hide h0
  have hsz : (w.alloc (.cells #[.pointer (some ⟨x.b, 0, none⟩)] 105)).heap.size = w.heap.size + 1 := by simp
  have hcc := hcb.cell
  have HCB := hide hcb
  have HB0 := hide hb0
  clear hblk hcb hb0 h h0
  generalize hhx : hereX x st = hx at *
  have HHX := hide hhx
  clear hhx
  go_enter Tryz.func92, Tryz.ntmps92
  go_wp2_with fail
  generalize w.alloc (.cells #[.pointer (some ⟨x.b, 0, none⟩)] 105) = W0 at *
  go_cut [4] from 5 to 22 (fun s4 wc => Boxed B W0 x (putS st 1 0) fw fo (hereS st) s4 wc)
  case first =>
    go_region_law (first
      | (refine step_call rfl 48 #[.const (.int .i64 1)] #[3] rfl Tryz.func48 Tryz.name48 Tryz.body48 #[.int .i64 1] (by first | (simp [Act.eval]; done) | rfl) (plainI_any 1 _) ?_; rintro e w1 ⟨rfl, rfl⟩; refine ⟨_, rfl, ?_⟩)
      | (refine step_call rfl 47 #[.tmp 8, .tmp 10] #[110, 30] rfl Tryz.func47 Tryz.name47 Tryz.body47 #[.pointer (some ⟨hx, 0, none⟩), .slice (some ⟨w.heap.size + 1 + 1 + 1, 0, none⟩) 1 1] (by first | (simp [Act.eval]; done) | rfl) (unhide HADD _ (w.heap.size + 1 + 1 + 1) (by (repeat (first | with_reducible refine below_drew ?_ | with_reducible refine below_drawn ?_ _ | with_reducible refine below_longer ?_ _ | (with_reducible refine Below.alloc ?_ ?_ _; rotate_left; (first | omega | ((try simp only [World.size_up]) <;> (try simp only [World.size_dr]) <;> (try simp only [World.size_drN]) <;> (try simp only [World.size_up]) <;> (try simp only [World.size_dr]) <;> (try simp only [World.size_up]) <;> omega))))); (with_reducible exact Below.refl _ _)) (by (repeat (first | with_reducible refine Blk.drew ?_ | with_reducible refine Blk.drewN ?_ _ | (with_reducible refine blk_newAt _ _ ?_; (first | omega | ((try simp only [World.size_up]) <;> (try simp only [World.size_dr]) <;> (try simp only [World.size_drN]) <;> (try simp only [World.size_up]) <;> (try simp only [World.size_dr]) <;> (try simp only [World.size_up]) <;> omega))) | with_reducible refine Blk.alloc ?_ _)); (first | done | with_reducible assumption))) ?_; rintro e w1 ⟨rfl, h2, h1⟩; refine ⟨_, rfl, ?_⟩; have hjb : Blk w1 (w.heap.size + 1) #[.int .i64 0] 2 := h2 _ _ _ (by (repeat (first | with_reducible refine Blk.drew ?_ | with_reducible refine Blk.drewN ?_ _ | (with_reducible refine blk_newAt _ _ ?_; (first | omega | ((try simp only [World.size_up]) <;> (try simp only [World.size_dr]) <;> (try simp only [World.size_drN]) <;> (try simp only [World.size_up]) <;> (try simp only [World.size_dr]) <;> (try simp only [World.size_up]) <;> omega))) | with_reducible refine Blk.alloc ?_ _)); (first | done | with_reducible assumption)) (Or.inr (Or.inl rfl)); have hcj := hjb.cell; have hfj := hjb.free; have HJ := hide hjb; clear hjb; have H1 := hide h1; clear h1 h2)
      | (refine step_call rfl 47 #[.tmp 8, .tmp 10] #[110, 30] rfl Tryz.func47 Tryz.name47 Tryz.body47 #[.pointer (some ⟨hx, 0, none⟩), .slice (some ⟨w.heap.size + 1 + 1 + 1, 0, none⟩) 1 1] (by first | (simp [Act.eval]; done) | rfl) (unhide HADD _ (w.heap.size + 1 + 1 + 1) (by (repeat (first | with_reducible refine below_drew ?_ | with_reducible refine below_drawn ?_ _ | with_reducible refine below_longer ?_ _ | (with_reducible refine Below.alloc ?_ ?_ _; rotate_left; (first | omega | ((try simp only [World.size_up]) <;> (try simp only [World.size_dr]) <;> (try simp only [World.size_drN]) <;> (try simp only [World.size_up]) <;> (try simp only [World.size_dr]) <;> (try simp only [World.size_up]) <;> omega))))); (with_reducible exact Below.refl _ _)) (by (repeat (first | with_reducible refine Blk.drew ?_ | with_reducible refine Blk.drewN ?_ _ | (with_reducible refine blk_newAt _ _ ?_; (first | omega | ((try simp only [World.size_up]) <;> (try simp only [World.size_dr]) <;> (try simp only [World.size_drN]) <;> (try simp only [World.size_up]) <;> (try simp only [World.size_dr]) <;> (try simp only [World.size_up]) <;> omega))) | with_reducible refine Blk.alloc ?_ _)); (first | done | with_reducible assumption))) ?_; rintro e w1 ⟨rfl, h2, h1⟩; refine ⟨_, rfl, ?_⟩; have hjb : Blk w1 (w.heap.size + 1 + 1) #[.int .i64 0] 2 := h2 _ _ _ (by (repeat (first | with_reducible refine Blk.drew ?_ | with_reducible refine Blk.drewN ?_ _ | (with_reducible refine blk_newAt _ _ ?_; (first | omega | ((try simp only [World.size_up]) <;> (try simp only [World.size_dr]) <;> (try simp only [World.size_drN]) <;> (try simp only [World.size_up]) <;> (try simp only [World.size_dr]) <;> (try simp only [World.size_up]) <;> omega))) | with_reducible refine Blk.alloc ?_ _)); (first | done | with_reducible assumption)) (Or.inr (Or.inl rfl)); have hcj := hjb.cell; have hfj := hjb.free; have HJ := hide hjb; clear hjb; have H1 := hide h1; clear h1 h2)
      | (refine step_call rfl 47 #[.tmp 8, .tmp 10] #[110, 30] rfl Tryz.func47 Tryz.name47 Tryz.body47 #[.pointer (some ⟨hx, 0, none⟩), .slice (some ⟨w.heap.size + 1 + 1, 0, none⟩) 1 1] (by first | (simp [Act.eval]; done) | rfl) (unhide HADD _ (w.heap.size + 1 + 1) (by (repeat (first | with_reducible refine below_drew ?_ | with_reducible refine below_drawn ?_ _ | with_reducible refine below_longer ?_ _ | (with_reducible refine Below.alloc ?_ ?_ _; rotate_left; (first | omega | ((try simp only [World.size_up]) <;> (try simp only [World.size_dr]) <;> (try simp only [World.size_drN]) <;> (try simp only [World.size_up]) <;> (try simp only [World.size_dr]) <;> (try simp only [World.size_up]) <;> omega))))); (with_reducible exact Below.refl _ _)) (by (repeat (first | with_reducible refine Blk.drew ?_ | with_reducible refine Blk.drewN ?_ _ | (with_reducible refine blk_newAt _ _ ?_; (first | omega | ((try simp only [World.size_up]) <;> (try simp only [World.size_dr]) <;> (try simp only [World.size_drN]) <;> (try simp only [World.size_up]) <;> (try simp only [World.size_dr]) <;> (try simp only [World.size_up]) <;> omega))) | with_reducible refine Blk.alloc ?_ _)); (first | done | with_reducible assumption))) ?_; rintro e w1 ⟨rfl, h2, h1⟩; refine ⟨_, rfl, ?_⟩; have hjb : Blk w1 (w.heap.size + 1 + 1 + 1) #[.int .i64 0] 2 := h2 _ _ _ (by (repeat (first | with_reducible refine Blk.drew ?_ | with_reducible refine Blk.drewN ?_ _ | (with_reducible refine blk_newAt _ _ ?_; (first | omega | ((try simp only [World.size_up]) <;> (try simp only [World.size_dr]) <;> (try simp only [World.size_drN]) <;> (try simp only [World.size_up]) <;> (try simp only [World.size_dr]) <;> (try simp only [World.size_up]) <;> omega))) | with_reducible refine Blk.alloc ?_ _)); (first | done | with_reducible assumption)) (Or.inr (Or.inl rfl)); have hcj := hjb.cell; have hfj := hjb.free; have HJ := hide hjb; clear hjb; have H1 := hide h1; clear h1 h2)
      | (refine step_call rfl 47 #[.tmp 8, .tmp 10] #[110, 30] rfl Tryz.func47 Tryz.name47 Tryz.body47 #[.pointer (some ⟨hx, 0, none⟩), .slice (some ⟨w.heap.size + 1 + 1, 0, none⟩) 1 1] (by first | (simp [Act.eval]; done) | rfl) (unhide HADD _ (w.heap.size + 1 + 1) (by (repeat (first | with_reducible refine below_drew ?_ | with_reducible refine below_drawn ?_ _ | with_reducible refine below_longer ?_ _ | (with_reducible refine Below.alloc ?_ ?_ _; rotate_left; (first | omega | ((try simp only [World.size_up]) <;> (try simp only [World.size_dr]) <;> (try simp only [World.size_drN]) <;> (try simp only [World.size_up]) <;> (try simp only [World.size_dr]) <;> (try simp only [World.size_up]) <;> omega))))); (with_reducible exact Below.refl _ _)) (by (repeat (first | with_reducible refine Blk.drew ?_ | with_reducible refine Blk.drewN ?_ _ | (with_reducible refine blk_newAt _ _ ?_; (first | omega | ((try simp only [World.size_up]) <;> (try simp only [World.size_dr]) <;> (try simp only [World.size_drN]) <;> (try simp only [World.size_up]) <;> (try simp only [World.size_dr]) <;> (try simp only [World.size_up]) <;> omega))) | with_reducible refine Blk.alloc ?_ _)); (first | done | with_reducible assumption))) ?_; rintro e w1 ⟨rfl, h2, h1⟩; refine ⟨_, rfl, ?_⟩; skip; have H1 := hide h1; clear h1 h2))
    all_goals
      go_wp2_with fail
      go_meet
      first
      | exact boxed_new (unhide H1)
      | exact boxed_set (by omega) (putS_as _ _ _) (unhide H1) (unhide HJ) (by omega)
  case rest =>
    obtain ⟨jb, rfl, hj, hF, hbx, hbl⟩ := hcut
    have hcb := hbx _ _ _ (unhide HCB) (Or.inl rfl)
    have hcc2 := hcb.cell
    have hax := aimHere_any B x (putS st 1 0) wc hF.e j (by rw [hereS_put]; omega)
    rw [hereX_put, unhide HHX] at hax
    have HAX := hide hax
    obtain ⟨s1, vo1, hblk1⟩ := hF.blk
    have hc1 := hblk1.cell
    unfold cpArr at hc1
    rw [hereX_put, unhide HHX] at hc1
    have H1 := hide (And.intro hcb (And.intro hj (And.intro hF (And.intro hbx hbl))))
    clear hj hF hbx hbl hcb hcc hc HADD hax hblk1
    go_wp2_with fail
    refine (unhide HAX).mono ?_
    rintro e w2 ⟨rfl, k1, k2, k3⟩
    obtain ⟨hcb, hj, hF, hbx, hbl⟩ := unhide H1
    have hcb2 := k2 _ _ _ hcb (Or.inl rfl)
    have hj2 := k2 _ _ _ hj (Or.inr (Or.inl rfl))
    have hcc3 := hcb2.cell
    have H2 := hide (And.intro hcb2 (And.intro hj2 (And.intro k1 (And.intro k2 k3))))
    clear hcb hj hF hbx hbl hcb2 hj2 k1 k2 k3 hcc2 hc1 HAX
    go_wp2_with fail
    obtain ⟨hcb2, hj2, k1, k2, k3⟩ := unhide H2
    refine (pushW B x (tellS (putS st 1 0) j) w2 k1 _ rfl (⟨#[101, 108, 115, 101]⟩, 0, hereS st) ⟨_, hcb2, Or.inr (Or.inl ⟨rfl, jb, hj2, rfl⟩)⟩ (by rw [(tellS_as _ _).2.2, (putS_as _ _ _).2.2]; omega)).mono ?_
    rintro e w3 ⟨rfl, m1, m2, m3⟩
    clear hcb2 hj2 k1 k2 k3 hcc3
    go_wp2_with fail
    go_end0
    obtain ⟨hcb, hj, hF, hbx, hbl⟩ := unhide H1
    obtain ⟨hcb2, hj2, k1, k2, k3⟩ := unhide H2
    exact ⟨rfl, m1, (BoxStill.ofBelow (unhide HB0)).trans (hbx.trans (k2.trans m2)), (below_less (unhide HB0) (by omega)).trans (hbl.trans (k3.trans m3))⟩

end Go.Proofs.YtbcjfiaacenhgaaGreatDoor

/- The program's compiler: what closes an if, and what closes its other half. -/
namespace Go.Proofs.YtbcjfiaacenhgaaGreatDoor
open Go Go.RowKit

theorem Tryz.name91 : (Tryz.f91.name == "runtime.NumGoroutine") = false := by kernel_rfl
theorem Tryz.body91 : Tryz.f91.body.isNone = false := by kernel_rfl

theorem CpE.below {B : Nat} {w w' : World} {x : CX} {st : RS} (h : CpE B w x st) (hb : Below w.heap.size w w') : CpE B w' x st := by
  obtain ⟨_, _, h⟩ := h.f
  exact (h.below hb).e
theorem CpE.size {B : Nat} {w : World} {x : CX} {st : RS} (h : CpE B w x st) : B ≤ w.heap.size := by
  obtain ⟨_, _, h⟩ := h.f
  exact h.size
/-- What comes of it, with no word of the things. -/
def After (B : Nat) (w : World) (x : CX) (st : RS) (v : Value) (e : Ending) (w' : World) : Prop := e = .returned v ∧ CpE B w' x st ∧ BoxStill w w' ∧ Below B w w'
theorem aimW (B : Nat) (x : CX) (st : RS) (w : World) (h : CpE B w x st) (n : Nat) (hn : n < hereS st) :
    ∀ W : World, Below w.heap.size w W → Calls Tryz.prog 91 #[.pointer (some ⟨hereX x st, 0, none⟩), .int .i64 n] W (After B w x (tellS st n) (.tuple #[])) := by
  intro W hW
  refine (aimHere_any B x st W (h.below hW) n hn).mono ?_
  rintro e w' ⟨rfl, h1, h2, h3⟩
  exact ⟨rfl, h1, (BoxStill.ofBelow hW).trans h2, (below_less hW h.size).trans h3⟩

/-- What a function of a thing answers. -/
def Closed (B : Nat) (w : World) (x : CX) (r : Option RS) (e : Ending) (w' : World) : Prop := e = .returned (.bool r.isSome) ∧ (∀ st', r = some st' → CpE B w' x st') ∧ (r = none → w' = w) ∧ BoxStill w w' ∧ Below B w w'
theorem Closed.yes {B : Nat} {w : World} {x : CX} {st : RS} {w' : World} (h1 : CpE B w' x st) (h2 : BoxStill w w') (h3 : Below B w w') : Closed B w x (some st) (.returned (.bool true)) w' :=
  ⟨rfl, fun st' e => by cases e; exact h1, fun e => by (cases e), h2, h3⟩
theorem Closed.no {B : Nat} {w : World} {x : CX} : Closed B w x none (.returned (.bool false)) w :=
  ⟨rfl, fun st' e => by (cases e), fun _ => rfl, BoxStill.refl _, Below.refl _ _⟩

def closeIfR (st : RS) (n : Nat) (tok : ByteArray) : Option RS :=
  if tok.toList == [116, 104, 101, 110] then some (tellS st n)
  else if tok.toList == [101, 108, 115, 101] then some (openS (tellS (putS st 1 0) n) (⟨#[101, 108, 115, 101]⟩, 0, hereS st))
  else none
def closeElseR (st : RS) (n : Nat) (tok : ByteArray) : Option RS :=
  if tok.toList == [116, 104, 101, 110] then some (tellS st n) else none

set_option maxRecDepth 100000 in
set_option maxHeartbeats 4000000 in
theorem closeIf_any (B : Nat) (x : CX) (st : RS) (w : World) (h : CpE B w x st) (cb jb n : Nat) (hcb : Blk w cb #[.pointer (some ⟨x.b, 0, none⟩)] 105) (hjb : Blk w jb #[.int .i64 n] 2) (tok : ByteArray) (hn : n < hereS st) (hlen : hereS st < 4000) (hop : st.opens.length < 3980) :
    Calls Tryz.prog 90 #[.string tok, .pointer (some ⟨cb, 0, none⟩), .pointer (some ⟨jb, 0, none⟩)] w (Closed B w x (closeIfR st n tok)) := by
  obtain ⟨fw, fo, hF⟩ := h.f
  have HAX := hide (aimW B x st w h n hn)
  have HEL := hide (openElse_any B x st w h n hn hlen hop)
  obtain ⟨s0, vo, hblk⟩ := hF.blk
  have hc := hblk.cell
  unfold cpArr at hc
  have hcc := hcb.cell
  have hcj := hjb.cell
  clear hblk hF h hcb hjb
  generalize hereX x st = hx at *
  unfold closeIfR
  by_cases h1 : (tok.toList == [116, 104, 101, 110]) = true
  · rw [if_pos h1]
    have h1e := tok_eq h1
    subst h1e
    clear h1
    go_enter Tryz.func90, Tryz.ntmps90
    go_wp2_with fail
    go_region_law (refine step_call rfl 91 #[.tmp 11, .tmp 12] #[110, 2] rfl Tryz.func91 Tryz.name91 Tryz.body91 #[.pointer (some ⟨hx, 0, none⟩), .int .i64 n] (by first | (simp [Act.eval]; done) | rfl) (unhide HAX _ (by (repeat (first | with_reducible refine below_drew ?_ | with_reducible refine below_drawn ?_ _ | with_reducible refine below_longer ?_ _ | (with_reducible refine Below.alloc ?_ ?_ _; rotate_left; (first | omega | ((try simp only [World.size_up]) <;> (try simp only [World.size_dr]) <;> (try simp only [World.size_drN]) <;> (try simp only [World.size_up]) <;> (try simp only [World.size_dr]) <;> (try simp only [World.size_up]) <;> omega))))); (with_reducible exact Below.refl _ _))) ?_; rintro e w1 ⟨rfl, h1⟩; refine ⟨_, rfl, ?_⟩; have H1 := hide h1; clear h1)
    all_goals
      go_wp2_with fail
      go_ret
      obtain ⟨k1, k2, k3⟩ := unhide H1
      exact Closed.yes k1 k2 k3
  · rw [if_neg h1]
    by_cases h2 : (tok.toList == [101, 108, 115, 101]) = true
    · rw [if_pos h2]
      have h2e := tok_eq h2
      subst h2e
      clear h1 h2
      go_enter Tryz.func90, Tryz.ntmps90
      go_wp2_with fail
      refine (unhide HEL).mono ?_
      rintro e w2 ⟨rfl, k1, k2, k3⟩
      go_wp2_with fail
      go_ret
      exact Closed.yes k1 k2 k3
    · rw [if_neg h2]
      have e1 : (tok.toList == [116, 104, 101, 110]) = false := by simpa using h1
      have e2 : (tok.toList == [101, 108, 115, 101]) = false := by simpa using h2
      go_enter Tryz.func90, Tryz.ntmps90
      go_wp2_with fail
      go_ret
      exact Closed.no

set_option maxRecDepth 100000 in
set_option maxHeartbeats 4000000 in
theorem closeElse_any (B : Nat) (x : CX) (st : RS) (w : World) (h : CpE B w x st) (cb jb n : Nat) (hcb : Blk w cb #[.pointer (some ⟨x.b, 0, none⟩)] 105) (hjb : Blk w jb #[.int .i64 n] 2) (tok : ByteArray) (hn : n < hereS st) :
    Calls Tryz.prog 101 #[.string tok, .pointer (some ⟨cb, 0, none⟩), .pointer (some ⟨jb, 0, none⟩)] w (Closed B w x (closeElseR st n tok)) := by
  obtain ⟨fw, fo, hF⟩ := h.f
  have HAX := hide (aimW B x st w h n hn)
  obtain ⟨s0, vo, hblk⟩ := hF.blk
  have hc := hblk.cell
  unfold cpArr at hc
  have hcc := hcb.cell
  have hcj := hjb.cell
  clear hblk hF h hcb hjb
  generalize hereX x st = hx at *
  unfold closeElseR
  by_cases h1 : (tok.toList == [116, 104, 101, 110]) = true
  · rw [if_pos h1]
    have h1e := tok_eq h1
    subst h1e
    clear h1
    go_enter Tryz.func101, Tryz.ntmps101
    go_wp2_with fail
    go_region_law (refine step_call rfl 91 #[.tmp 10, .tmp 11] #[110, 2] rfl Tryz.func91 Tryz.name91 Tryz.body91 #[.pointer (some ⟨hx, 0, none⟩), .int .i64 n] (by first | (simp [Act.eval]; done) | rfl) (unhide HAX _ (by (repeat (first | with_reducible refine below_drew ?_ | with_reducible refine below_drawn ?_ _ | with_reducible refine below_longer ?_ _ | (with_reducible refine Below.alloc ?_ ?_ _; rotate_left; (first | omega | ((try simp only [World.size_up]) <;> (try simp only [World.size_dr]) <;> (try simp only [World.size_drN]) <;> (try simp only [World.size_up]) <;> (try simp only [World.size_dr]) <;> (try simp only [World.size_up]) <;> omega))))); (with_reducible exact Below.refl _ _))) ?_; rintro e w1 ⟨rfl, h1⟩; refine ⟨_, rfl, ?_⟩; have H1 := hide h1; clear h1)
    all_goals
      go_wp2_with fail
      go_ret
      obtain ⟨k1, k2, k3⟩ := unhide H1
      exact Closed.yes k1 k2 k3
  · rw [if_neg h1]
    have e1 : (tok.toList == [116, 104, 101, 110]) = false := by simpa using h1
    go_enter Tryz.func101, Tryz.ntmps101
    go_wp2_with fail
    go_ret
    exact Closed.no

end Go.Proofs.YtbcjfiaacenhgaaGreatDoor

/- The program's compiler: recurse. -/
namespace Go.Proofs.YtbcjfiaacenhgaaGreatDoor
open Go Go.RowKit

theorem Tryz.infoPart : (Tryz.prog.info? 119).map (fun i => i.size) = some 1 := by kernel_rfl
theorem Tryz.partInfo : ∃ i, Tryz.prog.info? 119 = some i ∧ i.size ≠ 0 := by
  match hq : Tryz.prog.info? 119 with
  | none => have := Tryz.infoPart; rw [hq] at this; cases this
  | some i => exact ⟨i, rfl, by have := Tryz.infoPart; rw [hq] at this; simp at this; omega⟩
theorem part_same (w : World) (a : Addr) : (binOp .neq 110 (.pointer (some a)) (.pointer (some a))).run Tryz.prog w = .ok (.bool false) w := by
  obtain ⟨i, hi, _⟩ := Tryz.partInfo
  exact Lib.run_neq_ptr_same w a Tryz.underlying110 hi
theorem part_other (w : World) {a b : Nat} {ca cb : Array Value} {ta tb : TypeId} (hne : a ≠ b) (ha : Blk w a ca ta) (hb : Blk w b cb tb) : (binOp .neq 110 (.pointer (some ⟨a, 0, none⟩)) (.pointer (some ⟨b, 0, none⟩))).run Tryz.prog w = .ok (.bool true) w := by
  obtain ⟨i, hi, hz⟩ := Tryz.partInfo
  have h : ∀ d : Nat, (Op.equalIn (d + 1) 110 (.pointer (some ⟨a, 0, none⟩)) (.pointer (some ⟨b, 0, none⟩))).run Tryz.prog w = .ok false w := fun d => by
    simp [Op.equalIn, run_underlying Tryz.underlying110, sizeOf, typeInfo, hi, hz, run_sameAddr_other w (a := ⟨a, 0, none⟩) (b := ⟨b, 0, none⟩) (fun e => hne (congrArg Addr.block e)) ha hb]
  simp only [binOp]
  simp [Op.equal, Op.maxDepth, h 9999]

theorem CpF.parts {B : Nat} {w : World} {x : CX} {st : RS} {fw fo : List Value} (h : CpF B w x st fw fo) : ∃ vd vm, Blk w x.d #[vd] 119 ∧ Blk w x.m #[vm] 119 := by
  obtain ⟨_, vd, vm, _, h⟩ := h
  exact ⟨vd, vm, h.dp, h.mn⟩
theorem CpF.st0 {B : Nat} {w : World} {x : CX} {st : RS} {fw fo : List Value} (h : CpF B w x st fw fo) : ∃ s0 vo, Blk w x.b (cpArr x st s0 vo) 114 ∧ (0 ≤ st.start → s0 = st.start) ∧ x.d ≠ x.m := by
  obtain ⟨s0, _, _, vo, h⟩ := h
  exact ⟨s0, vo, h.blk, h.start, h.dm⟩

set_option maxRecDepth 100000 in
set_option maxHeartbeats 4000000 in
theorem recur_yes (B : Nat) (x : CX) (st : RS) (w : World) (h : CpE B w x st) (hs : 0 ≤ st.start) (hlen : hereS st < 4000) :
    Calls Tryz.prog 80 #[.pointer (some ⟨x.b, 0, none⟩)] w (After B w x (putS st 3 st.start) (.int .i64 0)) := by
  obtain ⟨fw, fo, hF⟩ := h.f
  obtain ⟨s0, vo, hblk, hs0, _⟩ := hF.st0
  obtain rfl := hs0 hs
  have hc := hblk.cell
  unfold cpArr at hc
  have e : hereX x st = x.d := by unfold hereX; rw [if_pos hs]
  rw [e] at hc
  have hpq := part_same w.drew ⟨x.d, 0, none⟩
  have HF := hide hF
  have HBK := hide hblk
  have HE := hide e
  clear hblk hF h e hs0
  generalize hse : st.start = s at *
  have HSE := hide hse
  clear hse
  go_enter Tryz.func80, Tryz.ntmps80
  go_wp2_with fail
  go_cut [11] from 3 to 22 (fun s11 wc => s11 = .bool false ∧ Below w.heap.size w wc)
  case first =>
    go_region_law (fail)
    all_goals
      go_wp2_with fail
      go_meet
      exact ⟨rfl, below_drawn (Below.refl _ _) 1⟩
  case rest =>
    obtain ⟨rfl, hbw⟩ := hcut
    have hF1 := (unhide HF).below hbw
    have HADD := hide (addW B x st wc fw fo hF1 3 s hlen)
    rw [unhide HE] at HADD
    have hc1 := ((unhide HBK).below hbw (unhide HBK).lt).cell
    unfold cpArr at hc1
    rw [unhide HE] at hc1
    have hxl := hF1.size0
    have hxa : x.b < wc.heap.size + 1 := by omega
    have hxb : x.b ≤ wc.heap.size := by omega
    have hxc : x.b ≤ wc.heap.size + 1 := by omega
    have hxd : x.b < wc.heap.size + 1 + 1 := by omega
    have HBW := hide hbw
    clear hF1 hbw hc hpq
    go_wp2_with fail
    go_region_law (first
      | (refine step_call rfl 69 #[.const (.int .i64 3), .tmp 19] #[3, 2] rfl Tryz.func69 Tryz.name69 Tryz.body69 #[.int .i64 3, .int .i64 s] (by first | (simp [Act.eval]; done) | (simp [Act.eval, Act.put]; done) | rfl) (withI_any 3 s _) ?_; rintro e w1 ⟨rfl, rfl⟩; refine ⟨_, rfl, ?_⟩)
      | (refine step_call rfl 47 #[.tmp 15, .tmp 21] #[110, 30] rfl Tryz.func47 Tryz.name47 Tryz.body47 #[.pointer (some ⟨x.d, 0, none⟩), .slice (some ⟨wc.heap.size + 1, 0, none⟩) 1 1] (by first | (simp [Act.eval]; done) | (simp [Act.eval, Act.put]; done) | rfl) (unhide HADD _ (wc.heap.size + 1) (by (repeat (first | with_reducible refine below_drew ?_ | with_reducible refine below_drawn ?_ _ | with_reducible refine below_longer ?_ _ | (with_reducible refine Below.alloc ?_ ?_ _; rotate_left; (first | omega | ((try simp only [World.size_up]) <;> (try simp only [World.size_dr]) <;> (try simp only [World.size_drN]) <;> (try simp only [World.size_up]) <;> (try simp only [World.size_dr]) <;> (try simp only [World.size_up]) <;> omega))))); (with_reducible exact Below.refl _ _)) (by (repeat (first | with_reducible refine Blk.drew ?_ | with_reducible refine Blk.drewN ?_ _ | (with_reducible refine blk_newAt _ _ ?_; (first | omega | ((try simp only [World.size_up]) <;> (try simp only [World.size_dr]) <;> (try simp only [World.size_drN]) <;> (try simp only [World.size_up]) <;> (try simp only [World.size_dr]) <;> (try simp only [World.size_up]) <;> omega))) | with_reducible refine Blk.alloc ?_ _)); (first | done | with_reducible assumption))) ?_; rintro e w1 ⟨rfl, h2, h1⟩; refine ⟨_, rfl, ?_⟩; have H1 := hide h1; clear h1 h2))
    all_goals
      go_wp2_with fail
      go_ret
      obtain ⟨k1, _, k2, k3⟩ := unhide H1
      exact ⟨rfl, k1.e, (BoxStill.ofBelow (unhide HBW)).trans k2, (below_less (unhide HBW) (unhide HF).size).trans k3⟩

set_option maxRecDepth 100000 in
set_option maxHeartbeats 4000000 in
theorem recur_no (B : Nat) (x : CX) (st : RS) (w : World) (h : CpE B w x st) (hs : st.start < 0) :
    Calls Tryz.prog 80 #[.pointer (some ⟨x.b, 0, none⟩)] w (fun e w' => e = .returned (.int .i64 2) ∧ CpE B w' x st ∧ Below B w w') := by
  have HH := hide h
  obtain ⟨fw, fo, hF⟩ := h.f
  obtain ⟨s0, vo, hblk, _, hdm⟩ := hF.st0
  have hc := hblk.cell
  unfold cpArr at hc
  have e : hereX x st = x.m := by unfold hereX; rw [if_neg (by omega)]
  rw [e] at hc
  have hmd : x.m ≠ x.d := fun e => hdm e.symm
  obtain ⟨vd, vm, hd, hm⟩ := hF.parts
  have hpq := part_other w.drew hmd hm.drew hd.drew
  clear hd hm
  clear hblk hF h e
  go_enter Tryz.func80, Tryz.ntmps80
  go_wp2_with fail
  go_cut [11] from 3 to 22 (fun s11 wc => s11 = .bool true ∧ wc = w.drewN 1)
  case first =>
    go_region_law (fail)
    all_goals
      go_wp2_with fail
      go_meet
      exact ⟨rfl, rfl⟩
  case rest =>
    obtain ⟨rfl, rfl⟩ := hcut
    go_wp2_with fail
    go_ret
    exact ⟨rfl, (unhide HH).below (below_drawn (Below.refl _ _) 1), below_drawn (Below.refl _ _) 1⟩

end Go.Proofs.YtbcjfiaacenhgaaGreatDoor

