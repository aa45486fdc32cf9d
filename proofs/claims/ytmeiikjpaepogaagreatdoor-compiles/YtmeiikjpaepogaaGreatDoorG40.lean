/- The program's machine: Table.Run. -/
import Derived.Test.YtmeiikjpaepogaaGreatDoorG39
import Derived.Test.YtmeiikjpaepogaaGreatDoorG24
import Derived.Test.YtmeiikjpaepogaaGreatDoorG21
import Derived.Test.YtmeiikjpaepogaaGreatDoorG20
namespace Go.Proofs.YtmeiikjpaepogaaGreatDoor
open Go Go.RowKit

theorem plims {ls la lc lo : Int} : (plimOk ls && plimOk la && plimOk lc && plimOk lo) = true ↔ limsOk ls la lc lo := by
  unfold plimOk limsOk limOk
  simp [and_assoc]
theorem plims_no {ls la lc lo : Int} (h : ¬ limsOk ls la lc lo) : (plimOk ls && plimOk la && plimOk lc && plimOk lo) = false := by
  cases e : (plimOk ls && plimOk la && plimOk lc && plimOk lo)
  · rfl
  · exact absurd (plims.1 e) h
/-- The world in which the limits are asked. -/
def askW (w : World) (vl : Value) (en ce ls la lc lo : Int) : World :=
  (((w.alloc (.cells #[vl, .int .i64 en, .int .i64 ce] 73)).alloc (.cells #[.int .i64 ls, .int .i64 la, .int .i64 lc, .int .i64 lo] 39)).alloc (.cells #[.int .i64 0, .slice none 0 0, .slice none 0 0, .string ⟨#[]⟩, .int .i64 0] 44)).alloc (.cells #[.int .i64 ls, .int .i64 la, .int .i64 lc, .int .i64 lo] 3)
structure AskOk (w : World) (vl : Value) (en ce ls la lc lo : Int) (W : World) : Prop where
  p : Blk W w.heap.size #[vl, .int .i64 en, .int .i64 ce] 73
  l : Blk W (w.heap.size + 1) #[.int .i64 ls, .int .i64 la, .int .i64 lc, .int .i64 lo] 39
  r : Blk W (w.heap.size + 1 + 1) #[.int .i64 0, .slice none 0 0, .slice none 0 0, .string ⟨#[]⟩, .int .i64 0] 44
  a : Blk W (w.heap.size + 1 + 1 + 1) #[.int .i64 ls, .int .i64 la, .int .i64 lc, .int .i64 lo] 3
  size : W.heap.size = w.heap.size + 4
  below : Below w.heap.size w W
theorem ask_ok (w : World) (vl : Value) (en ce ls la lc lo : Int) : AskOk w vl en ce ls la lc lo (askW w vl en ce ls la lc lo) := by
  unfold askW
  refine ⟨?_, ?_, ?_, ?_, by simp, ?_⟩
  · (repeat (first | with_reducible refine Blk.drew ?_ | with_reducible refine Blk.drewN ?_ _ | (with_reducible refine blk_newAt _ _ ?_; (first | omega | ((try simp only [World.size_up]) <;> (try simp only [World.size_dr]) <;> (try simp only [World.size_drN]) <;> (try simp only [World.size_up]) <;> (try simp only [World.size_dr]) <;> (try simp only [World.size_up]) <;> omega))) | with_reducible refine Blk.alloc ?_ _)); (first | done | with_reducible assumption)
  · (repeat (first | with_reducible refine Blk.drew ?_ | with_reducible refine Blk.drewN ?_ _ | (with_reducible refine blk_newAt _ _ ?_; (first | omega | ((try simp only [World.size_up]) <;> (try simp only [World.size_dr]) <;> (try simp only [World.size_drN]) <;> (try simp only [World.size_up]) <;> (try simp only [World.size_dr]) <;> (try simp only [World.size_up]) <;> omega))) | with_reducible refine Blk.alloc ?_ _)); (first | done | with_reducible assumption)
  · (repeat (first | with_reducible refine Blk.drew ?_ | with_reducible refine Blk.drewN ?_ _ | (with_reducible refine blk_newAt _ _ ?_; (first | omega | ((try simp only [World.size_up]) <;> (try simp only [World.size_dr]) <;> (try simp only [World.size_drN]) <;> (try simp only [World.size_up]) <;> (try simp only [World.size_dr]) <;> (try simp only [World.size_up]) <;> omega))) | with_reducible refine Blk.alloc ?_ _)); (first | done | with_reducible assumption)
  · (repeat (first | with_reducible refine Blk.drew ?_ | with_reducible refine Blk.drewN ?_ _ | (with_reducible refine blk_newAt _ _ ?_; (first | omega | ((try simp only [World.size_up]) <;> (try simp only [World.size_dr]) <;> (try simp only [World.size_drN]) <;> (try simp only [World.size_up]) <;> (try simp only [World.size_dr]) <;> (try simp only [World.size_up]) <;> omega))) | with_reducible refine Blk.alloc ?_ _)); (first | done | with_reducible assumption)
  · (repeat (first | with_reducible refine below_drew ?_ | with_reducible refine below_drawn ?_ _ | with_reducible refine below_longer ?_ _ | (with_reducible refine Below.alloc ?_ ?_ _; rotate_left; (first | omega | ((try simp only [World.size_up]) <;> (try simp only [World.size_dr]) <;> (try simp only [World.size_drN]) <;> (try simp only [World.size_up]) <;> (try simp only [World.size_dr]) <;> (try simp only [World.size_up]) <;> omega))))); (with_reducible exact Below.refl _ _)

set_option maxRecDepth 100000 in
set_option maxHeartbeats 4000000 in
theorem tableRun_no (tb g len cap : Nat) (en ce ls la lc lo fuel : Int) (w : World) (hno : ¬ limsOk ls la lc lo) :
    Calls Tryz.prog 40 #[.pointer (some ⟨tb, 0, none⟩), .agg #[.slice (some ⟨g, 0, none⟩) len cap, .int .i64 en, .int .i64 ce], .agg #[.int .i64 ls, .int .i64 la, .int .i64 lc, .int .i64 lo], .int .i64 fuel] w fun e w' => e = .returned (outV 6 (.slice none 0 0) (.slice none 0 0) ⟨#[]⟩ 0) ∧ Below w.heap.size w w' := by
  unfold outV
  have hask := ask_ok w (.slice (some ⟨g, 0, none⟩) len cap) en ce ls la lc lo
  have HAL := hide (areLimits_any (w.heap.size + 1 + 1 + 1) 4 ls la lc lo _ hask.a.cell)
  rw [plims_no hno] at HAL
  have HASK := hide hask
  unfold askW at HAL HASK
  clear hask
  go_enter Tryz.func40, Tryz.ntmps40
  go_wp2_with fail
  refine (unhide HAL).mono ?_
  rintro e w1 ⟨rfl, hw⟩
  rw [← hw] at HASK
  clear hw HAL
  have hc := (unhide HASK).r.cell
  have hf := (unhide HASK).r.free
  have hl := (unhide HASK).r.lt
  go_wp2_with fail
  refine bodyPost_ret (results_cell_row (P := Tryz.prog) rfl _ _ (w.heap.size + 1 + 1) 44 _ (0, 0) _ rfl (out_set (unhide HASK).r rfl) Tryz.underlying44 rfl Tryz.sizeOutcome) rfl ?_
  exact ⟨rfl, (((((unhide HASK).below.setCell (by simp; omega) _).setCell (by simp; omega) _).setCell (by simp; omega) _).setCell (by simp; omega) _).setCell (by simp; omega) _⟩

theorem out_two {w : World} {x : Nat} {er st : Int} {out : ByteArray} (h : Blk w x #[.int .i64 er, .slice none 0 0, .slice none 0 0, .string out, .int .i64 st] 44) (a b : Value) :
    Blk ((w.setCell ⟨x, 1, none⟩ a).setCell ⟨x, 2, none⟩ b) x #[.int .i64 er, a, b, .string out, .int .i64 st] 44 := by
  have h2 := (h.set 1 a).set 2 b
  simpa only [List.setIfInBounds_toArray, List.set_cons_succ, List.set_cons_zero] using h2
theorem out_owt {w : World} {x : Nat} {er st : Int} {out : ByteArray} (h : Blk w x #[.int .i64 er, .slice none 0 0, .slice none 0 0, .string out, .int .i64 st] 44) (a b : Value) :
    Blk ((w.setCell ⟨x, 2, none⟩ b).setCell ⟨x, 1, none⟩ a) x #[.int .i64 er, a, b, .string out, .int .i64 st] 44 := by
  have h2 := (h.set 2 b).set 1 a
  simpa only [List.setIfInBounds_toArray, List.set_cons_succ, List.set_cons_zero] using h2

/-- The outcome of a run. -/
def RunOut (w : World) (r : MS × Int × Int) (e : Ending) (w' : World) : Prop :=
  ∃ vS vC, e = .returned (outV r.2.1 vS vC r.1.out r.2.2) ∧
    (r.2.1 = 0 → w'.ownsRow w.heap.size 2 1 vS r.1.stack.length (intCells r.1.stack) ∧ w'.ownsRow w.heap.size 2 1 vC r.1.cells.length (intCells r.1.cells) ∧ r.1.stack.length ≤ 1000 ∧ r.1.cells.length ≤ 1000 ∧ ∀ j, vS.ownBlock = some j → vC.ownBlock ≠ some j) ∧
    (r.2.1 ≠ 0 → vS = .slice none 0 0 ∧ vC = .slice none 0 0) ∧ Below w.heap.size w w'

set_option maxRecDepth 100000 in
set_option maxHeartbeats 16000000 in
theorem tableRun_any (tb g cap p : Nat) (l : List (Int × Int)) (en ce ls la lc lo fuel : Int) (w : World) (hT : TabAt w tb) (ht : Lib.TabBelow Tryz.prog w.heap.size w "internal/strconv.uint64pow10" .u64 Lib.pow10Tab) (hg : ListAt w.heap.size w g l) (hok : CodeOk l) (hen : 0 ≤ en ∧ en < l.length) (hce : 0 ≤ ce ∧ ce ≤ 1000) (hyes : limsOk ls la lc lo) (hfu : fuel ≤ 1000000000) :
    Calls Tryz.prog 40 #[.pointer (some ⟨tb, 0, none⟩), .agg #[.slice (some ⟨g, 0, none⟩) l.length cap, .int .i64 en, .int .i64 ce], .agg #[.int .i64 ls, .int .i64 la, .int .i64 lc, .int .i64 lo], .int .i64 fuel] w (RunOut w (runM l fuel.toNat 0 (startM p ls la lc lo en ce))) := by
  have hask := ask_ok w (.slice (some ⟨g, 0, none⟩) l.length cap) en ce ls la lc lo
  have HAL := hide (areLimits_any (w.heap.size + 1 + 1 + 1) 4 ls la lc lo _ hask.a.cell)
  rw [plims.2 hyes] at HAL
  have HASK := hide hask
  have hbw := hask.below
  have hwsz : w.heap.size ≤ (askW w (.slice (some ⟨g, 0, none⟩) l.length cap) en ce ls la lc lo).heap.size := hbw.size
  have HT : Hid (TableOk (askW w (.slice (some ⟨g, 0, none⟩) l.length cap) en ce ls la lc lo).heap.size (askW w (.slice (some ⟨g, 0, none⟩) l.length cap) en ce ls la lc lo) tb) := hT.ok hbw hwsz (fun w' h' => ht w' (hbw.trans (h'.mono hwsz)))
  have hla := hg.to hbw
  have HG : Hid (ListAt (askW w (.slice (some ⟨g, 0, none⟩) l.length cap) en ce ls la lc lo).heap.size (askW w (.slice (some ⟨g, 0, none⟩) l.length cap) en ce ls la lc lo) g l) := ⟨Nat.lt_of_lt_of_le hla.low hwsz, hla.cell⟩
  have HNM := hide (newMachine_any tb p g l.length cap ls la lc lo en ce (askW w (.slice (some ⟨g, 0, none⟩) l.length cap) en ce ls la lc lo) hce)
  have hmo : MOk (startM p ls la lc lo en ce) := by
    obtain ⟨c, rfl⟩ : ∃ c : Nat, ce = c := ⟨ce.toNat, by omega⟩
    exact start_mok p ls la lc lo en c (by omega) hyes
  have hro : RunOk l (startM p ls la lc lo en ce) := ⟨hen, by simp [startM]⟩
  have HMO := hide hmo
  have HRO := hide hro
  have HOK := hide hok
  generalize startM p ls la lc lo en ce = m0 at *
  clear hask hbw hwsz hT ht hla hmo hro hok hg hyes hce hen
  unfold askW at HAL HASK HT HG HNM
  go_enter Tryz.func40, Tryz.ntmps40
  go_wp2_with fail
  refine (unhide HAL).mono ?_
  rintro e W ⟨rfl, hw⟩
  rw [← hw] at HASK HT HG HNM
  clear hw HAL
  have hcp := (unhide HASK).p.cell
  have hcl := (unhide HASK).l.cell
  have hl1 := (unhide HASK).p.lt
  have hl2 := (unhide HASK).l.lt
  go_wp2_with fail
  refine (unhide HNM).mono ?_
  rintro e w1 ⟨b, rfl, hpm, hb1⟩
  have HRUN := hide (pmRun_any W.heap.size b tb g cap l m0 w1 W fuel hfu hb1 (unhide HT) hpm (unhide HMO) (unhide HOK) (unhide HRO) (unhide HG))
  have HB1 := hide hb1
  generalize runM l fuel.toNat 0 m0 = res at *
  obtain ⟨rm, re, rs⟩ := res
  clear hpm hb1 HNM hcp hcl hl1 hl2 HT HG HRO HMO HOK
  go_wp2_with fail
  refine (unhide HRUN).mono ?_
  rintro e w2 ⟨rfl, hpm, hmo, hb2⟩
  have hbB : Below W.heap.size W w2 := (unhide HB1).trans hb2
  obtain ⟨vS, vA, vC, vE, vO, hp⟩ := hpm
  obtain ⟨aS, kS, hvS⟩ := own_shape hp.oS
  obtain ⟨aE, kE, hvE⟩ := own_shape hp.oE
  obtain ⟨aO, kO, hvO⟩ := own_shape hp.oO
  subst hvS hvE hvO
  have hsm1 : rm.stack.length ≤ 1000 := by have := hmo.stack; have := hmo.lims; omega
  have hsm2 : rm.cells.length ≤ 1000 := hmo.cells
  have hoS := hp.oS
  have hoE := hp.oE
  have hap : ∀ j, (Value.slice aS rm.stack.length kS).ownBlock = some j → (Value.slice aE rm.cells.length kE).ownBlock ≠ some j := by
    intro j h1 h2
    have := hp.owned.apart 0 3 _ _ j rfl rfl h1 h2
    omega
  have hcvW : ∀ W', Below w2.heap.size w2 W' → (convert 86 9 (.slice aO rm.out.size kO)).run Tryz.prog W' = .ok (.string rm.out) W' := fun W' hW => conv_out W' W.heap.size _ rm.out (hp.below hW).oO
  have hcv0 := hcvW w2 (Below.refl _ _)
  have hcv1 := hcvW w2.drew (below_drew (Below.refl _ _))
  have hcv2 := hcvW (w2.alloc (.cells #[.int .i64 0, .slice none 0 0, .slice none 0 0, .string ⟨#[]⟩, .int .i64 0] 44)) (below_box _ _)
  have hcv3 := hcvW (w2.alloc (.cells #[.int .i64 0, .slice none 0 0, .slice none 0 0, .string ⟨#[]⟩, .int .i64 0] 44)).drew (below_drew (below_box _ _))
  have hc := hp.blk.cell
  unfold pmArr at hc
  have hbl := hp.blk.lt
  have hbB2 : W.heap.size ≤ b := hp.base
  have hrb := (unhide HASK).r.below hbB (unhide HASK).r.lt
  have hsz := (unhide HASK).size
  have HP := hide hp
  have HR := hide hrb
  have HBB := hide hbB
  have HOS := hide hoS
  have HOE := hide hoE
  have HAP := hide hap
  clear hcvW hp hrb hbB hoS hoE hap hb2 hmo HRUN HB1
  generalize hout : rm.out = out at *
  have HOUT := hide hout
  clear hout
  go_wp2_with fail
  go_cut [11] from 12 to 54 (fun s11 wc => ∃ x, s11 = .pointer (some ⟨x, 0, none⟩) ∧ Blk wc x #[.int .i64 re, .slice none 0 0, .slice none 0 0, .string out, .int .i64 rs] 44 ∧ w2.heap.size ≤ x ∧ Below w2.heap.size w2 wc)
  case first =>
    go_region
    all_goals
      go_wp2_with fail
      go_meet
      refine ⟨w2.heap.size, rfl, ?_, Nat.le_refl _, ?_⟩
      · (repeat (first | with_reducible refine Blk.drew ?_ | with_reducible refine Blk.drewN ?_ _ | (with_reducible refine blk_newAt _ _ ?_; (first | omega | ((try simp only [World.size_up]) <;> (try simp only [World.size_dr]) <;> (try simp only [World.size_drN]) <;> (try simp only [World.size_up]) <;> (try simp only [World.size_dr]) <;> (try simp only [World.size_up]) <;> omega))) | with_reducible refine Blk.alloc ?_ _)); (first | done | with_reducible assumption)
      · (repeat (first | with_reducible refine below_drew ?_ | with_reducible refine below_drawn ?_ _ | with_reducible refine below_longer ?_ _ | (with_reducible refine Below.alloc ?_ ?_ _; rotate_left; (first | omega | ((try simp only [World.size_up]) <;> (try simp only [World.size_dr]) <;> (try simp only [World.size_drN]) <;> (try simp only [World.size_up]) <;> (try simp only [World.size_dr]) <;> (try simp only [World.size_up]) <;> omega))))); (with_reducible exact Below.refl _ _)
  case rest =>
    obtain ⟨x, rfl, hx, hxg, hbc⟩ := hcut
    obtain ⟨w3, rfl⟩ : ∃ w3 : World, w3 = wc := ⟨_, rfl⟩
    have hr3 := (unhide HR).below hbc (unhide HR).lt
    have hcx := hx.cell
    have hfx := hx.free
    have hxl := hx.lt
    have hcr := hr3.cell
    have hfr := hr3.free
    have hrl := (unhide HR).lt
    have hxr : x ≠ w.heap.size + 1 + 1 := by omega
    have hb3 : Below w.heap.size w w3 := (unhide HASK).below.trans (((unhide HBB).trans (hbc.mono (unhide HBB).size)).mono (unhide HASK).below.size)
    have HX := hide hx
    have HR3 := hide hr3
    have HB3 := hide hb3
    by_cases he : re = 0
    · subst he
      have hp3 := (unhide HP).below hbc
      have hc3 := hp3.blk.cell
      unfold pmArr at hc3
      have hbl3 := hp3.blk.lt
      have hxb : x ≠ b := by omega
      have hnS : (Value.slice aS rm.stack.length kS).ownBlock ≠ some x := fun e => by have := (ownsRow_lt (unhide HOS) e).1; omega
      have hnE : (Value.slice aE rm.cells.length kE).ownBlock ≠ some x := fun e => by have := (ownsRow_lt (unhide HOE) e).1; omega
      have hrS : (Value.slice aS rm.stack.length kS).ownBlock ≠ some (w.heap.size + 1 + 1) := fun e => by have := (ownsRow_lt (unhide HOS) e).2; omega
      have hrE : (Value.slice aE rm.cells.length kE).ownBlock ≠ some (w.heap.size + 1 + 1) := fun e => by have := (ownsRow_lt (unhide HOE) e).2; omega
      have HS3 := hide (And.intro hp3.oS hp3.oE)
      clear hc hx hr3 hb3 hbc hp3 hcv0 hcv1 hcv2 hcv3 hcr hfr
      go_wp2_with fail
      go_cut [] from 12 to 54 (fun wd => Blk wd x #[.int .i64 0, .slice aS rm.stack.length kS, .slice aE rm.cells.length kE, .string out, .int .i64 rs] 44 ∧ Blk wd (w.heap.size + 1 + 1) #[.int .i64 0, .slice none 0 0, .slice none 0 0, .string ⟨#[]⟩, .int .i64 0] 44 ∧ wd.ownsRow W.heap.size 2 1 (.slice aS rm.stack.length kS) rm.stack.length (intCells rm.stack) ∧ wd.ownsRow W.heap.size 2 1 (.slice aE rm.cells.length kE) rm.cells.length (intCells rm.cells) ∧ Below w.heap.size w wd)
      case first =>
        have hxw : w.heap.size ≤ x := by omega
        have HXW := hide hxw
        have HN := hide (And.intro hnS hnE)
        have HXR := hide hxr
        clear hnS hnE hrS hrE
        go_region
        all_goals
          go_wp2_with fail
          go_meet
          refine ⟨?_, ?_, ?_, ?_, ?_⟩
          · first | exact (out_two (unhide HX) _ _).drew | exact (out_owt (unhide HX) _ _).drew | exact out_two (unhide HX).drew _ _ | exact out_owt (unhide HX).drew _ _
          · exact ((unhide HR3).drew.far (unhide HXR).symm _).far (unhide HXR).symm _
          · exact ownsRow_far (ownsRow_far (w := w3.drew) (unhide HS3).1 (unhide HN).1 _) (unhide HN).1 _
          · exact ownsRow_far (ownsRow_far (w := w3.drew) (unhide HS3).2 (unhide HN).2 _) (unhide HN).2 _
          · exact ((below_drew (unhide HB3)).setCell (unhide HXW) _).setCell (unhide HXW) _
      case rest =>
        obtain ⟨d1, d2, d3, d4, d5⟩ := hcut
        have hcd := d1.cell
        have hfd := d1.free
        have hld := d1.lt
        have hcr := d2.cell
        have hfr := d2.free
        have hrl2 := d2.lt
        have D1 := hide d1
        have D2 := hide d2
        have D3 := hide d3
        have D4 := hide d4
        have D5 := hide d5
        clear d1 d2 d3 d4 d5 hcx hfx hc3
        go_wp2_with fail
        refine bodyPost_ret (results_cell_row (P := Tryz.prog) rfl _ _ (w.heap.size + 1 + 1) 44 _ (0, 0) _ rfl (out_set (unhide D2) rfl) Tryz.underlying44 rfl Tryz.sizeOutcome) rfl ?_
        refine ⟨.slice aS rm.stack.length kS, .slice aE rm.cells.length kE, (by show _ = Ending.returned (outV _ _ _ rm.out _); rw [unhide HOUT]; rfl), fun _ => ⟨?_, ?_, hsm1, hsm2, unhide HAP⟩, fun e => absurd rfl e, ?_⟩
        · exact ownsRow_base (ownsRow_far (ownsRow_far (ownsRow_far (ownsRow_far (ownsRow_far (unhide D3) hrS _) hrS _) hrS _) hrS _) hrS _) (by omega)
        · exact ownsRow_base (ownsRow_far (ownsRow_far (ownsRow_far (ownsRow_far (ownsRow_far (unhide D4) hrE _) hrE _) hrE _) hrE _) hrE _) (by omega)
        · exact (((((unhide D5).setCell (by simp; omega) _).setCell (by simp; omega) _).setCell (by simp; omega) _).setCell (by simp; omega) _).setCell (by simp; omega) _
    · have he' : (re == 0) = false := by simpa using he
      clear hc hx hr3 hb3 hbc hcv0 hcv1 hcv2 hcv3
      go_wp2_with fail
      refine bodyPost_ret (results_cell_row (P := Tryz.prog) rfl _ _ (w.heap.size + 1 + 1) 44 _ (0, 0) _ rfl (out_set (unhide HR3) rfl) Tryz.underlying44 rfl Tryz.sizeOutcome) rfl ?_
      exact ⟨.slice none 0 0, .slice none 0 0, (by show _ = Ending.returned (outV _ _ _ rm.out _); rw [unhide HOUT]; rfl), fun e => absurd e he, fun _ => ⟨rfl, rfl⟩, (((((unhide HB3).setCell (by simp; omega) _).setCell (by simp; omega) _).setCell (by simp; omega) _).setCell (by simp; omega) _).setCell (by simp; omega) _⟩

end Go.Proofs.YtmeiikjpaepogaaGreatDoor

/- The program's code in memory; List, Run. -/
namespace Go.Proofs.YtmeiikjpaepogaaGreatDoor
open Go Go.RowKit

/-- The program's code in memory. -/
def CodeR3 (w : World) (c : Nat) (l : List (Int × Int)) (en ce : Int) : Prop :=
  ∃ g cap, Blk w c #[.slice (some ⟨g, 0, none⟩) l.length cap, .int .i64 en, .int .i64 ce] 78 ∧ w.ownsRow 0 65 2 (.slice (some ⟨g, 0, none⟩) l.length cap) l.length (instrCells l)
theorem CodeR3.law {w w' : World} {c : Nat} {l : List (Int × Int)} {en ce : Int} (h : CodeR3 w c l en ce) (hl : LawStill w w') : CodeR3 w' c l en ce := by
  obtain ⟨g, cap, h1, h2⟩ := h
  exact ⟨g, cap, hl.blk h1, hl.row h2⟩

set_option maxRecDepth 100000 in
set_option maxHeartbeats 2000000 in
theorem clone3_any (g cap : Nat) (l : List (Int × Int)) (w : World) (ho : w.ownsRow 0 65 2 (.slice (some ⟨g, 0, none⟩) l.length cap) l.length (instrCells l)) (hpos : 0 < l.length) (hl : l.length ≤ 50000) :
    Calls Tryz.prog 37 #[.slice (some ⟨g, 0, none⟩) l.length cap] w fun e w' => ∃ v, e = .returned v ∧ w'.ownsRow w.heap.size 65 2 v l.length (instrCells l) ∧ Below w.heap.size w w' := by
  obtain ⟨iI, hiI, hzI0, hzI1, hzI2⟩ := info_parts Tryz.infoInstr
  have hgl := (ownsRow_lt ho (k := g) rfl).1
  have hE : (w.alloc (.cells #[] 65)).ownsRow w.heap.size 65 2 (.slice (some ⟨w.heap.size, 0, none⟩) 0 0) 0 [] := ⟨rfl, Or.inr ⟨w.heap.size, 0, #[], rfl, Nat.le_refl _, Blk.new w _ _, Nat.le_refl _, by unfold maxLen; omega, rfl, rfl⟩⟩
  have HE := hide hE
  have HN := hide (own_news (ownsRow_alloc ho (.cells #[] 65)))
  have HL : Hid ((instrCells l).length = l.length * 2) := ho.1
  have qn : ∀ W : World, (binOp .eql 33 (.slice (some ⟨g, 0, none⟩) l.length cap) (.slice none 0 0)).run Tryz.prog W = .ok (.bool false) W := fun W => Lib.run_eql_slice_nil W _ _ _ _ _ _ _ Tryz.underlying33
  clear hE ho
  go_enter Tryz.func37, Tryz.ntmps37
  go_wp2_with (at_builtin; refine wpList_append_lies _ rfl (.tmp 5) (.tmp 6) 33 rfl w.heap.size 65 iI _ 2 16 Tryz.underlying33 hiI hzI0 hzI1 hzI2 rfl (by decide) (.slice (some ⟨w.heap.size, 0, none⟩) 0 0) 0 [] (by simp [Act.eval]) (unhide HE) ⟨g, 0, none⟩ l.length cap (instrCells l) (by simp [Act.eval]) (unhide HL) (unhide HN) (instr_oneCell l) hpos (by unfold maxLen; omega) (by omega) (by simp) _ rfl ?_; intro g2 cap2 w5 hown hgrow hat hlt1; have HOW := hide hown; have HG := hide hgrow; clear hown hgrow hat)
  go_ret
  have ho := unhide HOW
  rw [Nat.zero_add, List.nil_append] at ho
  refine ⟨_, rfl, ho, ((Below.refl _ _).alloc (Nat.le_refl _) _).grown (unhide HG) (by simp) (fun k hk => by simp [Value.ownBlock] at hk; omega)⟩

theorem Tryz.name37 : (Tryz.f37.name == "runtime.NumGoroutine") = false := by kernel_rfl
theorem Tryz.body37 : Tryz.f37.body.isNone = false := by kernel_rfl

set_option maxRecDepth 100000 in
theorem isNone_no (c g n cap : Nat) (x y : Value) (w : World) (h : Blk w c #[.slice (some ⟨g, 0, none⟩) n cap, x, y] 78) (hn : 0 < n) :
    Calls Tryz.prog 36 #[.pointer (some ⟨c, 0, none⟩)] w fun e w' => e = .returned (.bool false) ∧ w' = w := by
  have hc := h.cell
  have hl := h.lt
  have hnB : ((n : Int) == 0) = false := by
    have : ¬ (n : Int) = 0 := by omega
    simpa using this
  clear h
  go_enter Tryz.func36, Tryz.ntmps36
  go_wp2_with fail
  go_ret
  exact ⟨rfl, rfl⟩

set_option maxRecDepth 100000 in
set_option maxHeartbeats 2000000 in
theorem list3_any (w : World) (c : Nat) (l : List (Int × Int)) (en ce : Int) (h : CodeR3 w c l en ce) (hpos : 0 < l.length) (hl : l.length ≤ 50000) :
    Calls Tryz.prog 19 #[.pointer (some ⟨c, 0, none⟩)] w fun e w' => ∃ v, e = .returned (.tuple #[v, .int .i64 en]) ∧ w'.ownsRow w.heap.size 65 2 v l.length (instrCells l) ∧ Below w.heap.size w w' := by
  obtain ⟨g, cap, hb, ho⟩ := h
  have HC : Hid (∀ n, Calls Tryz.prog 37 #[.slice (some ⟨g, 0, none⟩) l.length cap] (w.drewN n) fun e w' => ∃ v, e = .returned v ∧ w'.ownsRow w.heap.size 65 2 v l.length (instrCells l) ∧ Below w.heap.size (w.drewN n) w') := fun n => clone3_any g cap l (w.drewN n) ho hpos hl
  have HNO := hide (isNone_no c g l.length cap _ _ w hb hpos)
  have hc := hb.cell
  have HB := hide hb
  have hcl := hb.lt
  clear hb ho
  go_enter Tryz.func19, Tryz.ntmps19
  go_wp2_with fail
  refine (unhide HNO).mono ?_
  rintro e w0 ⟨rfl, hw⟩
  obtain rfl := hw.symm
  clear hw HNO
  go_wp2_with fail
  go_region_law (refine step_call rfl 37 #[.tmp 10] #[33] rfl Tryz.func37 Tryz.name37 Tryz.body37 #[.slice (some ⟨g, 0, none⟩) l.length cap] (by first | (simp [Act.eval]; done) | (simp [Act.eval, Act.put]; done) | rfl) (unhide HC 1) ?_; rintro e w1 ⟨v, rfl, ho1, hb1⟩; have hc1 := ((unhide HB).drewN 1).below hb1 hcl; have hcc := hc1.cell; have HO1 := hide ho1; have HB1 := hide (below_drewN hb1); clear ho1 hb1 hc1; refine ⟨_, rfl, ?_⟩)
  all_goals
    go_wp2_with fail
    go_ret2
    exact ⟨v, rfl, unhide HO1, unhide HB1⟩

theorem Tryz.name39 : (Tryz.f39.name == "runtime.NumGoroutine") = false := by kernel_rfl
theorem Tryz.body39 : Tryz.f39.body.isNone = false := by kernel_rfl
theorem Tryz.name40 : (Tryz.f40.name == "runtime.NumGoroutine") = false := by kernel_rfl
theorem Tryz.body40 : Tryz.f40.body.isNone = false := by kernel_rfl

/-- The outcome of a run of code, with any limits. -/
def CodeOut (w : World) (l : List (Int × Int)) (p : Nat) (en ce ls la lc lo fuel : Int) (e : Ending) (w' : World) : Prop :=
  (¬ limsOk ls la lc lo → e = .returned (outV 6 (.slice none 0 0) (.slice none 0 0) ⟨#[]⟩ 0) ∧ Below w.heap.size w w') ∧
  (limsOk ls la lc lo → RunOut w (runM l fuel.toNat 0 (startM p ls la lc lo en ce)) e w')
theorem tableRun_all (tb g cap p : Nat) (l : List (Int × Int)) (en ce ls la lc lo fuel : Int) (w : World) (hT : TabAt w tb) (ht : Lib.TabIs Tryz.prog w "internal/strconv.uint64pow10" .u64 Lib.pow10Tab) (hg : ListAt w.heap.size w g l) (hok : CodeOk l) (hen : 0 ≤ en ∧ en < l.length) (hce : 0 ≤ ce ∧ ce ≤ 1000) (hfu : fuel ≤ 1000000000) :
    Calls Tryz.prog 40 #[.pointer (some ⟨tb, 0, none⟩), .agg #[.slice (some ⟨g, 0, none⟩) l.length cap, .int .i64 en, .int .i64 ce], .agg #[.int .i64 ls, .int .i64 la, .int .i64 lc, .int .i64 lo], .int .i64 fuel] w (CodeOut w l p en ce ls la lc lo fuel) := by
  by_cases h : limsOk ls la lc lo
  · exact (tableRun_any tb g cap p l en ce ls la lc lo fuel w hT (Lib.tabBelow_of_tabIs ht) hg hok hen hce h hfu).mono (fun e w' h2 => ⟨fun hn => absurd h hn, fun _ => h2⟩)
  · exact (tableRun_no tb g l.length cap en ce ls la lc lo fuel w h).mono (fun e w' h2 => ⟨fun _ => h2, fun hy => absurd hy h⟩)

end Go.Proofs.YtmeiikjpaepogaaGreatDoor

