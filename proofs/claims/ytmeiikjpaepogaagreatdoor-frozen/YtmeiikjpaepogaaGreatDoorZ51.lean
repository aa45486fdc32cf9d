/- The statements without the reference: Frozen. -/
import Derived.Test.YtmeiikjpaepogaaGreatDoorZ50
import Derived.BigQuiet
import Derived.Deep.RegionHeldLaw
import Derived.Test.YtmeiikjpaepogaaGreatDoorCards
import Derived.Test.YtmeiikjpaepogaaGreatDoorTie
import Derived.Deep.DeepWitnessRowRef
import Derived.WideKeyArgs
import Derived.Test.YtmeiikjpaepogaaGreatDoorZ28
import Derived.Test.YtmeiikjpaepogaaGreatDoorZ29
namespace Go.Proofs.YtmeiikjpaepogaaGreatDoor
open Go Go.RowKit

theorem lim_cells {w : World} {b : Nat} {l1 : Int} (h : Blk w b #[.int .i64 l1, .int .i64 51, .int .i64 51, .int .i64 301] 39) : w.cell? ⟨b, 0, none⟩ = some (.int .i64 l1) ∧ w.cell? ⟨b, 1, none⟩ = some (.int .i64 51) ∧ w.cell? ⟨b, 2, none⟩ = some (.int .i64 51) ∧ w.cell? ⟨b, 3, none⟩ = some (.int .i64 301) := ⟨h.cell 0, h.cell 1, h.cell 2, h.cell 3⟩
theorem lim_cells5 {w : World} {b : Nat} {l1 : Int} (h : Blk w b #[.int .i64 l1, .int .i64 51, .int .i64 51, .int .i64 301] 39) {g : Nat} (hn : b ≠ g) (y0 y1 y2 y3 y4 : Value) : (((((w.setCell ⟨g, 0, none⟩ y0).setCell ⟨g, 1, none⟩ y1).setCell ⟨g, 2, none⟩ y2).setCell ⟨g, 3, none⟩ y3).setCell ⟨g, 4, none⟩ y4).cell? ⟨b, 0, none⟩ = some (.int .i64 l1) ∧ (((((w.setCell ⟨g, 0, none⟩ y0).setCell ⟨g, 1, none⟩ y1).setCell ⟨g, 2, none⟩ y2).setCell ⟨g, 3, none⟩ y3).setCell ⟨g, 4, none⟩ y4).cell? ⟨b, 1, none⟩ = some (.int .i64 51) ∧ (((((w.setCell ⟨g, 0, none⟩ y0).setCell ⟨g, 1, none⟩ y1).setCell ⟨g, 2, none⟩ y2).setCell ⟨g, 3, none⟩ y3).setCell ⟨g, 4, none⟩ y4).cell? ⟨b, 2, none⟩ = some (.int .i64 51) ∧ (((((w.setCell ⟨g, 0, none⟩ y0).setCell ⟨g, 1, none⟩ y1).setCell ⟨g, 2, none⟩ y2).setCell ⟨g, 3, none⟩ y3).setCell ⟨g, 4, none⟩ y4).cell? ⟨b, 3, none⟩ = some (.int .i64 301) :=
  lim_cells (((((h.far (a := ⟨g, 0, none⟩) hn y0).far (a := ⟨g, 1, none⟩) hn y1).far (a := ⟨g, 2, none⟩) hn y2).far (a := ⟨g, 3, none⟩) hn y3).far (a := ⟨g, 4, none⟩) hn y4)
theorem kn_pick : (Tryz.f22.name == "runtime.NumGoroutine") = false := by kernel_rfl
theorem kb_pick : Tryz.f22.body.isNone = false := by kernel_rfl
theorem kn_run : (Tryz.f23.name == "runtime.NumGoroutine") = false := by kernel_rfl
theorem kb_run : Tryz.f23.body.isNone = false := by kernel_rfl
set_option maxRecDepth 100000 in
set_option maxHeartbeats 16000000 in
theorem frozen_any (hch : ChainedOk) (s s2 : ByteArray) (i1 i2 i3 : Int) (w : World) (henv : Env3 w) (hi1 : inI i1) (hi2 : inI i2) (hi3 : inI i3) :
    Calls Tryz.prog 13 #[.string s, .string s2, .int .i64 i1, .int .i64 i2, .int .i64 i3] w fun e w' => e = .returned (.bool true) ∧ Below w.heap.size w w' := by
  have HK := V (known_any hch w henv)
  have HLI := V (fun W => limitsK_any i1 50 50 300 W hi1 ⟨by omega, by omega⟩ ⟨by omega, by omega⟩ ⟨by omega, by omega⟩)
  have HPI := V (fun W => pickK_any i2 2000 W hi2 ⟨by omega, by omega⟩)
  have hpk := pickK_in i2 2000 (by omega)
  have p1 := pickK_in i1 1000 (by omega)
  have e5 : 1 + pickK 50 1000 = 51 := by decide
  have e3 : 1 + pickK 300 1000 = 301 := by decide
  rw [e5, e3] at HLI
  generalize pickK i2 2000 = f at hpk HPI
  have HPJ := V (fun W => pickK_any i3 (f + 1) W hi3 ⟨by omega, by omega⟩)
  have hpz := pickK_in i3 (f + 1) (by omega)
  generalize pickK i3 (f + 1) = fz at hpz HPJ
  obtain ⟨l1, hl1⟩ : ∃ x, x = 1 + pickK i1 1000 := ⟨_, rfl⟩
  rw [← hl1] at HLI
  have HLM : Hid (limsOk l1 51 51 301) := ⟨⟨by omega, by omega⟩, ⟨by omega, by omega⟩, ⟨by omega, by omega⟩, ⟨by omega, by omega⟩⟩
  have HLW : Hid (limsOk 1000 1000 1000 1000) := ⟨⟨by omega, by omega⟩, ⟨by omega, by omega⟩, ⟨by omega, by omega⟩, ⟨by omega, by omega⟩⟩
  clear hl1 p1 e5 e3 hi1 hi2 hi3
  have HEN : Hid (∀ W, Below w.heap.size w W → Env3 W) := fun W hW => henv.below hW
  have HCO : Hid (∀ (t : ByteArray) (W : World), Below w.heap.size w W → Calls Tryz.prog 18 #[.string t, .agg #[.bool true, .bool false, .bool true]] W (TextOut W)) := fun t W hW => fcompileO_all hch t true false true W (U HEN W hW)
  have HWI := V wide_any
  have hfw : IntKind.i64.wrap (f + 1) = f + 1 := by rw [IntKind.wrap_i64]; omega
  clear henv
  go_enter Tryz.func13, Tryz.ntmps13
  go_wp2_with fail
  refine (U HK).mono ?_
  rintro e w1 ⟨rfl, hb1⟩
  have hbx1 := below_box w1 (.cells #[.bool true, .bool false, .bool true] 32)
  have HB1 : Hid (Below w.heap.size w (w1.alloc (.cells #[.bool true, .bool false, .bool true] 32))) := hb1.trans (hbx1.mono hb1.size)
  have hO1 := Blk.new w1 #[.bool true, .bool false, .bool true] 32
  have q1 := hO1.cell
  have q2 := hO1.lt
  have HO1 := V hO1
  clear hb1 hbx1 HK hO1
  go_wp2_with fail
  refine (U HCO s _ (U HB1)).mono ?_
  rintro e w2 ⟨hcase, hb2⟩
  have HB2 : Hid (Below w.heap.size w w2) := (U HB1).trans (hb2.mono (U HB1).size)
  have hO2 := (U HO1).below hb2 (U HO1).lt
  have r1 := hO2.cell
  have r2 := hO2.lt
  clear hb2 hO2 HO1 q1 q2
  rcases hcase with ⟨er, pl, her, rfl⟩ | ⟨c, l, en, ce, rfl, hc, hok, hen, hce⟩
  · have her' : ¬ er = 0 := her
    clear her
    go_wp2_with fail
    refine (U HCO s2 _ (U HB2)).mono ?_
    rintro e w3 ⟨hcase, hb3⟩
    have HB3 : Hid (Below w.heap.size w w3) := (U HB2).trans (hb3.mono (U HB2).size)
    clear hb3 r1 r2
    rcases hcase with ⟨er2, pl2, _, rfl⟩ | ⟨c2, l2, en2, ce2, rfl, _⟩
    all_goals
      go_wp2_with fail
      go_ret
      exact ⟨(by first | rfl | (simp; omega)), U HB3⟩
  have HC2 := V hc
  have HOK := V hok
  have HCE := V hce
  have HENL := V hen
  have HLE := V (fun (m : MS) => less_run l m (n := fz.toNat) (n' := f.toNat) (by omega))
  have HST := V (fun (m : MS) => steps_run l m f.toNat)
  have HRU : Hid (∀ (W : World) (a1 a2 a3 a4 fu : Int), Below w.heap.size w W → CodeR3 W c l en ce → fu ≤ 2000 → Calls Tryz.prog 23 #[.pointer (some ⟨c, 0, none⟩), .agg #[.int .i64 a1, .int .i64 a2, .int .i64 a3, .int .i64 a4], .int .i64 fu] W fun e w' => ∃ er vS vC out st, e = .returned (outV er vS vC out st) ∧ CodeRes W l 0 en ce a1 a2 a3 a4 fu er vS vC out st w') := fun W a1 a2 a3 a4 fu hW hc hf => run3_any W c 0 l en ce a1 a2 a3 a4 fu hc (U HEN W hW).2.2 (U HOK) ⟨by omega, by have := U HENL; omega⟩ (U HCE) (by omega)
  obtain ⟨R, hR⟩ : ∃ R, R = runM l f.toNat 0 (startM 0 l1 51 51 301 en ce) := ⟨_, rfl⟩
  obtain ⟨Rz, hRz⟩ : ∃ R, R = runM l fz.toNat 0 (startM 0 l1 51 51 301 en ce) := ⟨_, rfl⟩
  obtain ⟨Ry, hRy⟩ : ∃ R, R = runM l f.toNat 0 (startM 0 1000 1000 1000 1000 en ce) := ⟨_, rfl⟩
  have HR := V hR
  have HRz := V hRz
  have HRy := V hRy
  clear hc hok hce hen hR hRz hRy
  go_wp2_with fail
  refine (U HCO s2 _ (U HB2)).mono ?_
  rintro e w3 ⟨hcase, hb3⟩
  have HB3 : Hid (Below w.heap.size w w3) := (U HB2).trans (hb3.mono (U HB2).size)
  have HC3 := V ((U HC2).law (LawStill.ofBelow hb3))
  have HCD : Hid ((∃ er pl : Int, e = .returned (.tuple #[.pointer none, .int .i64 er, .int .i64 pl])) ∨ ∃ (c : Nat) (l : List (Int × Int)) (en : Nat) (ce : Int), e = .returned (.tuple #[.pointer (some ⟨c, 0, none⟩), .int .i64 0, .int .i64 0]) ∧ CodeR3 w3 c l en ce ∧ CodeOk l ∧ en < l.length ∧ 0 ≤ ce ∧ ce ≤ 1000) := by
    rcases hcase with ⟨er, pl, _, h⟩ | h
    · exact Or.inl ⟨er, pl, h⟩
    · exact Or.inr h
  clear hcase hb3 HC2 r1 r2
  obtain ⟨vd, er2, pl2, he, hvd⟩ : ∃ vd er2 pl2, e = .returned (.tuple #[vd, .int .i64 er2, .int .i64 pl2]) ∧ (vd = .pointer none ∨ ∃ (c : Nat) (l : List (Int × Int)) (en : Nat) (ce : Int), vd = .pointer (some ⟨c, 0, none⟩) ∧ CodeR3 w3 c l en ce ∧ CodeOk l ∧ en < l.length ∧ 0 ≤ ce ∧ ce ≤ 1000) := by
    rcases U HCD with ⟨er, pl, h⟩ | ⟨c, l, en, ce, h, hh⟩
    · exact ⟨_, _, _, h, Or.inl rfl⟩
    · exact ⟨_, _, _, h, Or.inr ⟨c, l, en, ce, rfl, hh⟩⟩
  subst he
  have HVD := V hvd
  clear hvd HCD
  go_wp2_with fail
  refine (U HLI _).mono ?_
  rintro e w4 ⟨rfl, hb4⟩
  have hB4 := (U HB3).trans (hb4.mono (U HB3).size)
  have hbx4 := below_box w4 (.cells #[.int .i64 l1, .int .i64 51, .int .i64 51, .int .i64 301] 39)
  have HB4 : Hid (Below w.heap.size w (w4.alloc (.cells #[.int .i64 l1, .int .i64 51, .int .i64 51, .int .i64 301] 39))) := hB4.trans (hbx4.mono hB4.size)
  have hL4 := Blk.new w4 #[.int .i64 l1, .int .i64 51, .int .i64 51, .int .i64 301] 39
  have HL4 := V hL4
  have HC4 := V (((U HC3).law (LawStill.ofBelow hb4)).law (LawStill.ofBelow hbx4))
  have HVD4 : Hid (vd = .pointer none ∨ ∃ (c : Nat) (l : List (Int × Int)) (en : Nat) (ce : Int), vd = .pointer (some ⟨c, 0, none⟩) ∧ CodeR3 (w4.alloc (.cells #[.int .i64 l1, .int .i64 51, .int .i64 51, .int .i64 301] 39)) c l en ce ∧ CodeOk l ∧ en < l.length ∧ 0 ≤ ce ∧ ce ≤ 1000) := by
    rcases U HVD with h | ⟨c, l, en, ce, h, h1, h2⟩
    · exact Or.inl h
    · exact Or.inr ⟨c, l, en, ce, h, (h1.law (LawStill.ofBelow hb4)).law (LawStill.ofBelow hbx4), h2⟩
  have q1 := hL4.cell
  have q2 := hL4.lt
  clear hb4 hB4 hbx4 hL4 HC3 HVD
  go_wp2_with fail
  refine (U HPI _).mono ?_
  rintro e w4' ⟨rfl, hw4⟩
  subst hw4
  go_wp2_with fail
  refine (U HRU _ _ _ _ _ _ (U HB4) (U HC4) (by omega)).mono ?_
  rintro e w5 ⟨erx, vS, vC, outx, stx, rfl, hres⟩
  obtain ⟨hx1, hx2, hx3, hx4, _⟩ := hres.outIs (U HLM)
  rw [← U HR] at hx1 hx2 hx3 hx4
  obtain ⟨aSx, kSx, rfl⟩ := own_shape hx4.s
  obtain ⟨aCx, kCx, rfl⟩ := own_shape hx4.c
  have hb5 := hres.below
  have hB5 := (U HB4).trans (hb5.mono (U HB4).size)
  have hbx5 := below_box w5 (.cells #[.int .i64 erx, .slice aSx (shownS R).length kSx, .slice aCx (shownC R).length kCx, .string outx, .int .i64 stx] 44)
  have HB5 : Hid (Below w.heap.size w (w5.alloc (.cells #[.int .i64 erx, .slice aSx (shownS R).length kSx, .slice aCx (shownC R).length kCx, .string outx, .int .i64 stx] 44))) := hB5.trans (hbx5.mono hB5.size)
  have hL5 := ((U HL4).below hb5 (U HL4).lt).alloc (.cells #[.int .i64 erx, .slice aSx (shownS R).length kSx, .slice aCx (shownC R).length kCx, .string outx, .int .i64 stx] 44)
  have hX5 := Blk.new w5 #[.int .i64 erx, .slice aSx (shownS R).length kSx, .slice aCx (shownC R).length kCx, .string outx, .int .i64 stx] 44
  have HL5 := V hL5
  have HX5 := V hX5
  have HOX5 := V (hx4.below hbx5)
  have HC5 := V (((U HC4).law (LawStill.ofBelow hb5)).law (LawStill.ofBelow hbx5))
  have HVD5 : Hid (vd = .pointer none ∨ ∃ (c : Nat) (l : List (Int × Int)) (en : Nat) (ce : Int), vd = .pointer (some ⟨c, 0, none⟩) ∧ CodeR3 (w5.alloc (.cells #[.int .i64 erx, .slice aSx (shownS R).length kSx, .slice aCx (shownC R).length kCx, .string outx, .int .i64 stx] 44)) c l en ce ∧ CodeOk l ∧ en < l.length ∧ 0 ≤ ce ∧ ce ≤ 1000) := by
    rcases U HVD4 with h | ⟨c, l, en, ce, h, h1, h2⟩
    · exact Or.inl h
    · exact Or.inr ⟨c, l, en, ce, h, (h1.law (LawStill.ofBelow hb5)).law (LawStill.ofBelow hbx5), h2⟩
  have HX := V (And.intro hx1 (And.intro hx2 hx3))
  have q1 := hL5.cell
  have q2 := hL5.lt
  clear hres hx1 hx2 hx3 hx4 hb5 hB5 hbx5 hL5 hX5 HL4 HC4 HVD4
  unfold outV
  rcases U HVD5 with rfl | ⟨c2, l2, en2, ce2, rfl, hc2, hok2, hen2, hce2⟩
  focus
    clear HVD5
    go_wp2_with fail
    have HB6 := HB5
    have HL6 := HL5
    have HX6 := HX5
    have HOX6 := HOX5
    have HC6 := HC5
    clear HB5 HL5 HX5 HOX5 HC5
    generalize w5.alloc (.cells #[.int .i64 erx, .slice aSx (shownS R).length kSx, .slice aCx (shownC R).length kCx, .string outx, .int .i64 stx] 44) = W6 at HB6 HL6 HX6 HOX6 HC6 q1 q2 ⊢
  rotate_left 1
  focus
    have HRD := V (run3_any (w5.alloc (.cells #[.int .i64 erx, .slice aSx (shownS R).length kSx, .slice aCx (shownC R).length kCx, .string outx, .int .i64 stx] 44)) c2 0 l2 en2 ce2 l1 51 51 301 f hc2 (U HEN _ (U HB5)).2.2 hok2 ⟨by omega, by omega⟩ hce2 (by omega))
    clear HVD5 hc2 hok2 hen2 hce2
    go_wp2_with fail
    refine (U HRD).mono ?_
    rintro e W6 ⟨erd, vSd, vCd, outd, std, rfl, hres⟩
    have hb6 := hres.below
    have HB6 : Hid (Below w.heap.size w W6) := (U HB5).trans (hb6.mono (U HB5).size)
    have hL6 := (U HL5).below hb6 (U HL5).lt
    have HL6 := V hL6
    have HX6 := V ((U HX5).below hb6 (U HX5).lt)
    have HOX6 := V ((U HOX5).below hb6)
    have HC6 := V ((U HC5).law (LawStill.ofBelow hb6))
    clear q1 q2
    have q1 := hL6.cell
    have q2 := hL6.lt
    clear hres hb6 hL6 HB5 HL5 HX5 HOX5 HC5 HRD
    go_wp2_with fail
  all_goals
    have hb67 : Below W6.heap.size W6 W6.drew := below_drew (Below.refl _ _)
    have hb68 : Below W6.heap.size W6 (W6.alloc (.cells #[.int .i64 0, .slice none 0 0, .slice none 0 0, .string ⟨#[]⟩, .int .i64 0] 44)).drew := below_drew (below_box W6 _)
    have hL6 := U HL6
    have HS0 := V (lim_cells (hL6.below hb67 hL6.lt))
    have HS1 := V (lim_cells (hL6.below hb68 hL6.lt))
    have HL7 : Hid (∀ W, Below W6.heap.size W6 W → Blk W w4.heap.size #[.int .i64 l1, .int .i64 51, .int .i64 51, .int .i64 301] 39) := fun W hW => hL6.below hW hL6.lt
    have HZ8 : Hid (Blk (W6.alloc (.cells #[.int .i64 0, .slice none 0 0, .slice none 0 0, .string ⟨#[]⟩, .int .i64 0] 44)).drew W6.heap.size #[.int .i64 0, .slice none 0 0, .slice none 0 0, .string ⟨#[]⟩, .int .i64 0] 44) := Blk.new W6 #[.int .i64 0, .slice none 0 0, .slice none 0 0, .string ⟨#[]⟩, .int .i64 0] 44
    have HN8 : Hid (w4.heap.size < W6.heap.size) := hL6.lt
    have HRZ : Hid (∀ W, Below W6.heap.size W6 W → Calls Tryz.prog 23 #[.pointer (some ⟨c, 0, none⟩), .agg #[.int .i64 l1, .int .i64 51, .int .i64 51, .int .i64 301], .int .i64 fz] W fun e w' => ∃ er vS vC out st, e = .returned (outV er vS vC out st) ∧ CodeRes W l 0 en ce l1 51 51 301 fz er vS vC out st w') := fun W hW => U HRU W l1 51 51 301 fz ((U HB6).trans (hW.mono (U HB6).size)) ((U HC6).law (LawStill.ofBelow hW)) (by omega)
    have HR7 := V (U HRZ _ hb67)
    have HR8 := V (U HRZ _ hb68)
    have HP7 := V (U HPJ W6.drew)
    have HP8 := V (U HPJ (W6.alloc (.cells #[.int .i64 0, .slice none 0 0, .slice none 0 0, .string ⟨#[]⟩, .int .i64 0] 44)).drew)
    have HB67 := V hb67
    have HB68 := V hb68
    clear hb67 hb68 hL6 q1 q2 HRZ
    go_cut [22] from 63 to 69 (fun v wc => ∃ bz erz aSz kSz aCz kCz outz stz, v = .pointer (some ⟨bz, 0, none⟩) ∧ Blk wc bz #[.int .i64 erz, .slice aSz (shownS Rz).length kSz, .slice aCz (shownC Rz).length kCz, .string outz, .int .i64 stz] 44 ∧ outz = Rz.1.out ∧ stz = Rz.2.2 ∧ Below W6.heap.size W6 wc)
    case first =>
      go_region_held_law (fun w' => w'.cell? ⟨w4.heap.size, 0, none⟩ = some (.int .i64 l1) ∧ w'.cell? ⟨w4.heap.size, 1, none⟩ = some (.int .i64 51) ∧ w'.cell? ⟨w4.heap.size, 2, none⟩ = some (.int .i64 51) ∧ w'.cell? ⟨w4.heap.size, 3, none⟩ = some (.int .i64 301)) (first | with_reducible exact U HS6 _ | with_reducible exact U HS5 | with_reducible exact U HS9 _ _ _ _ _ | with_reducible exact U HS0 | with_reducible exact U HS1) (first
        | (refine step_call rfl 22 #[.tmp 65, .tmp 67] #[3, 3] rfl Tryz.func22 kn_pick kb_pick #[.int .i64 i3, .int .i64 (f + 1)] (by simp [Act.eval]) (by with_reducible exact U HP7) ?_; rintro e wt ⟨rfl, hwt⟩; subst hwt; refine ⟨_, rfl, ?_⟩)
        | (refine step_call rfl 22 #[.tmp 65, .tmp 67] #[3, 3] rfl Tryz.func22 kn_pick kb_pick #[.int .i64 i3, .int .i64 (f + 1)] (by simp [Act.eval]) (by with_reducible exact U HP8) ?_; rintro e wt ⟨rfl, hwt⟩; subst hwt; refine ⟨_, rfl, ?_⟩)
        | (refine step_call rfl 23 #[.tmp 63, .tmp 64, .tmp 68] #[27, 39, 3] rfl Tryz.func23 kn_run kb_run #[.pointer (some ⟨c, 0, none⟩), .agg #[.int .i64 l1, .int .i64 51, .int .i64 51, .int .i64 301], .int .i64 fz] (by first | (simp [Act.eval]; done) | (simp [Act.eval, Act.put]; done)) (by with_reducible exact U HR7) ?_; rintro e w7 ⟨erz, vSz, vCz, outz, stz, rfl, hres⟩; obtain ⟨u1, u2, u3, hz4, u5⟩ := hres.outIs (U HLM); rw [← U HRz] at u2 u3 hz4; obtain ⟨aSz, kSz, rfl⟩ := own_shape hz4.s; obtain ⟨aCz, kCz, rfl⟩ := own_shape hz4.c; have HU := V (And.intro u2 u3); have hb7 := (U HB67).trans (hres.below.mono (U HB67).size); have hL8 := U HL7 w7 hb7; have HS5 := V (lim_cells hL8); have HS6 := V (fun o => lim_cells (hL8.alloc o)); have HB7 := V hb7; clear hres hz4 hL8 u1 u2 u3 u5 hb7; unfold outV; refine ⟨_, rfl, ?_⟩)
        | (refine step_call rfl 23 #[.tmp 63, .tmp 64, .tmp 68] #[27, 39, 3] rfl Tryz.func23 kn_run kb_run #[.pointer (some ⟨c, 0, none⟩), .agg #[.int .i64 l1, .int .i64 51, .int .i64 51, .int .i64 301], .int .i64 fz] (by first | (simp [Act.eval]; done) | (simp [Act.eval, Act.put]; done)) (by with_reducible exact U HR8) ?_; rintro e w7 ⟨erz, vSz, vCz, outz, stz, rfl, hres⟩; obtain ⟨u1, u2, u3, hz4, u5⟩ := hres.outIs (U HLM); rw [← U HRz] at u2 u3 hz4; obtain ⟨aSz, kSz, rfl⟩ := own_shape hz4.s; obtain ⟨aCz, kCz, rfl⟩ := own_shape hz4.c; have HU := V (And.intro u2 u3); have hb7 := (U HB68).trans (hres.below.mono (U HB68).size); have hL8 := U HL7 w7 hb7; have HS5 := V (lim_cells hL8); have HS9 := V (lim_cells5 hL8 (Nat.ne_of_lt (U HN8))); have hz7 := (U HZ8).below hres.below (U HZ8).lt; have hzc := hz7.cell; have hzf := hz7.free; have hzl := hz7.lt; have HZ7 := V hz7; have HB7 := V hb7; clear hres hz4 hL8 u1 u2 u3 u5 hb7 hz7; unfold outV; refine ⟨_, rfl, ?_⟩))
      all_goals
        go_wp2_with fail
        go_meet
        first
          | (have hz := U HZ7; exact ⟨_, erz, aSz, kSz, aCz, kCz, outz, stz, rfl, ((((hz.set 0 _).set 1 _).set 2 _).set 3 _).set 4 _, (U HU).1, (U HU).2, (((((U HB7).setCell (Nat.le_refl _) _).setCell (Nat.le_refl _) _).setCell (Nat.le_refl _) _).setCell (Nat.le_refl _) _).setCell (Nat.le_refl _) _⟩)
          | exact ⟨_, erz, aSz, kSz, aCz, kCz, outz, stz, rfl, Blk.new w7 _ _, (U HU).1, (U HU).2, (U HB7).trans ((below_box w7 _).mono (U HB7).size)⟩
    case rest =>
      obtain ⟨bz, erz, aSz, kSz, aCz, kCz, outz, stz, rfl, hZ, hz2, hz3, hbz⟩ := hcut
      have HUZ := V (And.intro hz2 hz3)
      have HB8 := V ((U HB6).trans (hbz.mono (U HB6).size))
      have HL8 := V ((U HL6).below hbz (U HL6).lt)
      have HX8 := V ((U HX6).below hbz (U HX6).lt)
      have HOX8 := V ((U HOX6).below hbz)
      have HC8 := V ((U HC6).law (LawStill.ofBelow hbz))
      have HZ9 := V hZ
      clear hz2 hz3 hZ hbz HB6 HL6 HX6 HOX6 HC6 HS0 HS1 HL7 HZ8 HN8 HR7 HR8 HP7 HP8 HB67 HB68
      go_wp2_with fail
      refine (U HWI _).mono ?_
      rintro e w9 ⟨rfl, hb9⟩
      have HB10 := V ((U HB8).trans (hb9.mono (U HB8).size))
      have HL10 := V ((U HL8).below hb9 (U HL8).lt)
      have HX10 := V ((U HX8).below hb9 (U HX8).lt)
      have HOX10 := V ((U HOX8).below hb9)
      have HC10 := V ((U HC8).law (LawStill.ofBelow hb9))
      have HZ10 := V ((U HZ9).below hb9 (U HZ9).lt)
      clear hb9 HB8 HL8 HX8 HOX8 HC8 HZ9
      go_wp2_with fail
      refine (U HRU w9 1000 1000 1000 1000 f (U HB10) (U HC10) (by omega)).mono ?_
      rintro e w10 ⟨ery, vSy, vCy, outy, sty, rfl, hres⟩
      obtain ⟨u1, u2, hy3, hy4, u5⟩ := hres.outIs (U HLW)
      clear u1 u2 u5
      rw [← U HRy] at hy3 hy4
      obtain ⟨aSy, kSy, rfl⟩ := own_shape hy4.s
      obtain ⟨aCy, kCy, rfl⟩ := own_shape hy4.c
      have HY3 := V hy3
      have hb10 := hres.below
      have hbx := below_box w10 (.cells #[.int .i64 ery, .slice aSy (shownS Ry).length kSy, .slice aCy (shownC Ry).length kCy, .string outy, .int .i64 sty] 44)
      have hB11 := (U HB10).trans (hb10.mono (U HB10).size)
      have HB11 := V (hB11.trans (hbx.mono hB11.size))
      have hL11 := ((U HL10).below hb10 (U HL10).lt).alloc (.cells #[.int .i64 ery, .slice aSy (shownS Ry).length kSy, .slice aCy (shownC Ry).length kCy, .string outy, .int .i64 sty] 44)
      have HL11 := V hL11
      have HX11 := V (((U HX10).below hb10 (U HX10).lt).alloc (.cells #[.int .i64 ery, .slice aSy (shownS Ry).length kSy, .slice aCy (shownC Ry).length kCy, .string outy, .int .i64 sty] 44))
      have HZ11 := V (((U HZ10).below hb10 (U HZ10).lt).alloc (.cells #[.int .i64 ery, .slice aSy (shownS Ry).length kSy, .slice aCy (shownC Ry).length kCy, .string outy, .int .i64 sty] 44))
      have HY11 := V (Blk.new w10 #[.int .i64 ery, .slice aSy (shownS Ry).length kSy, .slice aCy (shownC Ry).length kCy, .string outy, .int .i64 sty] 44)
      have HOX11 := V (((U HOX10).below hb10).below hbx)
      have HC11 := V (((U HC10).law (LawStill.ofBelow hb10)).law (LawStill.ofBelow hbx))
      have q1 := hL11.cell
      have q2 := hL11.lt
      clear hres hy3 hy4 hb10 hbx hB11 hL11 HB10 HL10 HX10 HOX10 HC10 HZ10
      unfold outV
      go_wp2_with fail
      refine (U HRU _ l1 51 51 301 f (U HB11) (U HC11) (by omega)).mono ?_
      rintro e w11 ⟨era, vSa, vCa, outa, sta, rfl, hres⟩
      obtain ⟨ha1, ha2, ha3, ha4, _⟩ := hres.outIs (U HLM)
      rw [← U HR] at ha1 ha2 ha3 ha4
      obtain ⟨aSa, kSa, rfl⟩ := own_shape ha4.s
      obtain ⟨aCa, kCa, rfl⟩ := own_shape ha4.c
      have HA := V (And.intro ha1 (And.intro ha2 ha3))
      have hb11 := hres.below
      have hbx := below_box w11 (.cells #[.int .i64 era, .slice aSa (shownS R).length kSa, .slice aCa (shownC R).length kCa, .string outa, .int .i64 sta] 44)
      have hB12 := (U HB11).trans (hb11.mono (U HB11).size)
      have HB12 := V (hB12.trans (hbx.mono hB12.size))
      have hX12 := ((U HX11).below hb11 (U HX11).lt).alloc (.cells #[.int .i64 era, .slice aSa (shownS R).length kSa, .slice aCa (shownC R).length kCa, .string outa, .int .i64 sta] 44)
      have HX12 := V hX12
      have HZ12 := V (((U HZ11).below hb11 (U HZ11).lt).alloc (.cells #[.int .i64 era, .slice aSa (shownS R).length kSa, .slice aCa (shownC R).length kCa, .string outa, .int .i64 sta] 44))
      have HY12 := V (((U HY11).below hb11 (U HY11).lt).alloc (.cells #[.int .i64 era, .slice aSa (shownS R).length kSa, .slice aCa (shownC R).length kCa, .string outa, .int .i64 sta] 44))
      have hA12 := Blk.new w11 #[.int .i64 era, .slice aSa (shownS R).length kSa, .slice aCa (shownC R).length kCa, .string outa, .int .i64 sta] 44
      have HA12 := V hA12
      have HSA := V (sameK_any erx era _ _ _ _ outx outa stx sta _ _ _ _ _ _ _ (((U HOX11).below hb11).below hbx) (ha4.below hbx))
      clear q1 q2
      have q1 := hX12.cell
      have q2 := hX12.lt
      have q3 := hA12.cell
      have q4 := hA12.lt
      clear hres ha1 ha2 ha3 ha4 hb11 hbx hB12 hX12 hA12 HB11 HL11 HX11 HOX11 HC11 HZ11 HY11
      unfold outV at HSA ⊢
      go_wp2_with fail
      refine (U HSA).mono ?_
      rintro e w12 ⟨rfl, hb12⟩
      have HB13 := V ((U HB12).trans (hb12.mono (U HB12).size))
      have hX13 := (U HX12).below hb12 (U HX12).lt
      have hZ13 := (U HZ12).below hb12 (U HZ12).lt
      have hY13 := (U HY12).below hb12 (U HY12).lt
      have hA13 := (U HA12).below hb12 (U HA12).lt
      clear q1 q2 q3 q4
      have q1 := hX13.cell
      have q2 := hX13.lt
      have q3 := hZ13.cell
      have q4 := hZ13.lt
      have q5 := hY13.cell
      have q6 := hY13.lt
      have q7 := hA13.cell
      have q8 := hA13.lt
      clear hb12 hX13 hZ13 hY13 hA13 HX12 HZ12 HY12 HA12 HSA HB12
      obtain ⟨x1, x2, x3⟩ := U HX
      obtain ⟨a1, a2, a3⟩ := U HA
      obtain ⟨z2, z3⟩ := U HUZ
      have hsame : sameS erx era (shownS R) (shownS R) (shownC R) (shownC R) outx outa = true := by
        unfold sameS
        rw [x1, a1, x2, a2]
        simp
      rw [hsame]
      have hl := U HLE (startM 0 l1 51 51 301 en ce)
      rw [← U HR, ← U HRz, ← x2, ← x3, ← z2, ← z3] at hl
      obtain ⟨g1, g2, g3⟩ := hl
      have g1I : (outz.size : Int) ≤ outx.size := by omega
      have g5 := U HST (startM 0 l1 51 51 301 en ce)
      have g6 := U HST (startM 0 1000 1000 1000 1000 en ce)
      rw [← U HR, ← x3] at g5
      rw [← U HRy, ← U HY3] at g6
      have g5' : stx ≤ f := by omega
      have g6' : sty ≤ f := by omega
      have g4 : stx = sta := by rw [x3, a3]
      clear x1 x2 x3 a1 a2 a3 z2 z3 hsame g5 g6 HLE HST HR HRz HRy HX HA HUZ HY3
      subst g4
      go_wp2_with fail
      go_quiet (fail)
      go_wp2_with fail
      exact ⟨rfl, .bool true, by first | exact results_tmp (t := 10) rfl _ _ _ | rfl, rfl, below_drawn (U HB13) _⟩
end Go.Proofs.YtmeiikjpaepogaaGreatDoor
namespace Go.Proofs.YtmeiikjpaepogaaGreatDoor
open Go Go.ChangeShapes Go.WideShapes Go.ChangeAt

theorem Tryz.wfZ : Rows.frozenRow.wf (OpenSpec.ofChange (OpenSpec.ofChange Rows.frozenSpec).bare) = true := by kernel_rfl
theorem Tryz.inPlaceZ : (Rows.frozenRow.inPlace == Tryz.prog.inPlace 13) = true := by kernel_rfl
theorem Tryz.unfollowedZ : (Rows.frozenRow.unfollowed == Tryz.prog.unfollowed 13) = true := by kernel_rfl
theorem Tryz.recursesZ : (Rows.frozenRow.recurses == Tryz.prog.recurses 13) = true := by kernel_rfl
theorem Tryz.namedZ : (Rows.frozenRow.named == Tryz.prog.varsNamed 13) = true := by kernel_rfl
theorem Tryz.plainKeysZ : (Rows.frozenRow.plainKeys == Tryz.prog.plainKeys) = true := by kernel_rfl
theorem Tryz.liftedZ : (Rows.frozenRow.lifted == Tryz.prog.liftsFinal) = true := by kernel_rfl
theorem Tryz.makeZ : (Tryz.prog.make == some Rows.frozenRow.make) = true := by kernel_rfl
theorem Tryz.closedZ : joinedFacts Tryz.prog 13 Tryz.f13 (OpenSpec.ofChange Rows.frozenSpec).bare Rows.frozenRow = true := by
  unfold joinedFacts
  simp only [Bool.and_eq_true]
  refine ⟨⟨⟨⟨⟨⟨⟨⟨⟨⟨⟨⟨⟨⟨⟨⟨⟨⟨⟨⟨⟨⟨⟨⟨⟨⟨⟨⟨⟨⟨⟨?_, ?_⟩, ?_⟩, ?_⟩, ?_⟩, ?_⟩, ?_⟩, ?_⟩, ?_⟩, ?_⟩, ?_⟩, ?_⟩, ?_⟩, ?_⟩, ?_⟩, ?_⟩, ?_⟩, ?_⟩, ?_⟩, ?_⟩, ?_⟩, ?_⟩, ?_⟩, ?_⟩, ?_⟩, ?_⟩, ?_⟩, ?_⟩, ?_⟩, ?_⟩, ?_⟩, ?_⟩
  all_goals first
    | with_reducible exact Tryz.laidOut
    | with_reducible exact Tryz.mapsRowed
    | with_reducible exact Tryz.stops0
    | with_reducible exact Tryz.knobs0
    | with_reducible exact Tryz.heardC
    | with_reducible exact Tryz.mayEnterC
    | with_reducible exact Tryz.wfZ
    | with_reducible exact Tryz.inPlaceZ
    | with_reducible exact Tryz.unfollowedZ
    | with_reducible exact Tryz.recursesZ
    | with_reducible exact Tryz.namedZ
    | with_reducible exact Tryz.plainKeysZ
    | with_reducible exact Tryz.liftedZ
    | with_reducible exact Tryz.makeZ
    | as_aux_lemma => kernel_rfl
end Go.Proofs.YtmeiikjpaepogaaGreatDoor
namespace Go.Proofs.YtmeiikjpaepogaaGreatDoor
open Go Go.RowKit Go.ChangeShapes Go.WideShapes Go.ChangeAt Go.Deep

section
variable {H : Type} {enc : TypeId × Value → H} {w : World} {base : Nat} {spare : Nat → Bool} {held : Bool} {v : Value} {d : DataW H} {p : List MemPlace} {r : Reach} {b : Nat}
set_option maxRecDepth 100000 in
theorem open_int (hv : Value.okWide Tryz.prog w r b 3 v) (h : DataW.Trod enc Tryz.prog w base spare held 3 v d p) : ∃ n, v = .int .i64 n ∧ inI n := by
  obtain ⟨n, rfl⟩ := okWide_int Tryz.underlying3 hv
  obtain ⟨fuel, h⟩ := h
  obtain ⟨n', g, _, hw⟩ := DataW.trod_int Tryz.underlying3 h
  simp only [Value.cells, List.cons.injEq, Value.int.injEq, and_true, true_and] at g
  subst g
  exact ⟨_, rfl, inI_lit hw⟩
end
end Go.Proofs.YtmeiikjpaepogaaGreatDoor
