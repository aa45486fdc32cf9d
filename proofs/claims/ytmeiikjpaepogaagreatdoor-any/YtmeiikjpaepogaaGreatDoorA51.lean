/- The statements without the reference: what a text puts out with any options. -/
import Derived.Test.YtmeiikjpaepogaaGreatDoorA50
import Derived.Test.YtmeiikjpaepogaaGreatDoorA44
import Derived.BigQuiet
import Derived.Test.YtmeiikjpaepogaaGreatDoorCards
import Derived.Test.YtmeiikjpaepogaaGreatDoorTie
import Derived.Deep.DeepWitnessRowRef
import Derived.WideKeyArgs
import Derived.Test.YtmeiikjpaepogaaGreatDoorA29
import Derived.Test.YtmeiikjpaepogaaGreatDoorA30
namespace Go.Proofs.YtmeiikjpaepogaaGreatDoor
open Go Go.RowKit

theorem Tryz.sizeLims : (Tryz.prog.info? 39).map (fun i => i.size) = some 4 := by kernel_rfl
set_option maxRecDepth 100000 in
set_option maxHeartbeats 4000000 in
theorem wide_any (w : World) : Calls Tryz.prog 31 #[] w fun e w' => e = .returned (.agg #[.int .i64 1000, .int .i64 1000, .int .i64 1000, .int .i64 1000]) ∧ Below w.heap.size w w' := by
  go_enter Tryz.func31, Tryz.ntmps31
  go_wp2_with fail
  exact bodyPost_ret (results_row3 (P := Tryz.prog) rfl _ _ w.heap.size 39 _ (0, 0) _ rfl (Blk.new w _ _) Tryz.underlying39 rfl Tryz.sizeLims) rfl ⟨rfl, below_box w _⟩
/-- What a run of code comes to, with the greatest limits. -/
structure PutsTo (q : PrS) (ce : Int) (want : ByteArray) : Prop where
  code : CodeOk q.1
  entry : q.2 < q.1.length
  err : (runM q.1 2000 0 (startM 0 1000 1000 1000 1000 q.2 ce)).2.1 = 0
  out : (runM q.1 2000 0 (startM 0 1000 1000 1000 1000 q.2 ce)).1.out = want
set_option maxRecDepth 100000 in
set_option maxHeartbeats 16000000 in
theorem puts_any (hch : ChainedOk) (s want : ByteArray) (w : World) (henv : Env3 w) (hs : s.size ≤ 2000) (h0 : (endS s).err = 0) (hput : ∀ f t su : Bool, PutsTo (withP f t su (fullS (endS s), (endS s).c0.length)) (endS s).cells want) :
    Calls Tryz.prog 28 #[.string s, .string want] w fun e w' => e = .returned (.bool true) ∧ Below w.heap.size w w' := by
  have hce : 0 ≤ (endS s).cells ∧ (endS s).cells ≤ 1000 := (read_facts s hs).2.2
  have HCO : Hid (∀ (f t su : Bool) (W : World), Below w.heap.size w W → Calls Tryz.prog 18 #[.string s, .agg #[.bool f, .bool t, .bool su]] W fun e w' => ∃ (c : Nat) (q : PrS), e = .returned (.tuple #[.pointer (some ⟨c, 0, none⟩), .int .i64 0, .int .i64 0]) ∧ CodeR3 w' c q.1 q.2 (endS s).cells ∧ PutsTo q (endS s).cells want ∧ Below W.heap.size W w') := fun f t su W hW => by
    have he := henv.below hW
    refine (fcompileO_yes hch s f t su W hs he.1 he.2.1 he.2.2 h0).mono ?_
    rintro e w' ⟨c, rfl, hc, hb⟩
    exact ⟨c, _, rfl, hc, hput f t su, hb⟩
  have HTA := V (Lib.tabBelow_of_tabIs henv.2.2)
  have HWI := V wide_any
  clear henv hput h0
  generalize (endS s).cells = ce at *
  go_enter Tryz.func28, Tryz.ntmps28
  go_wp2_with fail
  go_loopw [5] (fun v wr => ∃ k : Nat, v = .int .i64 k ∧ k ≤ 8 ∧ Below w.heap.size w wr) (fun v _ => 8 - (intOf v).toNat)
  case atStart => exact ⟨0, rfl, by omega, Below.refl _ _⟩
  case round =>
    obtain ⟨k, rfl, hk, hbw⟩ := hrel
    have HBW := V hbw
    clear hbw
    have hk8 : k = 0 ∨ k = 1 ∨ k = 2 ∨ k = 3 ∨ k = 4 ∨ k = 5 ∨ k = 6 ∨ k = 7 ∨ k = 8 := by omega
    clear hk
    rcases hk8 with rfl | rfl | rfl | rfl | rfl | rfl | rfl | rfl | rfl
    case inr.inr.inr.inr.inr.inr.inr.inr =>
      go_wp2_with fail
      go_ret
      exact ⟨rfl, U HBW⟩
    all_goals
      go_wp2_with fail
      refine (U HCO _ _ _ wr (U HBW)).mono ?_
      rintro e w1 ⟨c, q, rfl, hc, hpt, hb1⟩
      have HB1 : Hid (Below w.heap.size w w1) := (U HBW).trans (hb1.mono (U HBW).size)
      have HC1 := V hc
      have HPT := V hpt
      clear hc hpt hb1
      go_wp2_with fail
      refine (U HWI w1).mono ?_
      rintro e w2 ⟨rfl, hb2⟩
      have HB2 : Hid (Below w.heap.size w w2) := (U HB1).trans (hb2.mono (U HB1).size)
      have HRU := V (run3_any w2 c 0 q.1 q.2 ce 1000 1000 1000 1000 2000 ((U HC1).law (LawStill.ofBelow hb2)) (U HTA w2 (U HB2)) (U HPT).code (by have := (U HPT).entry; omega) (by omega) (by omega))
      clear hb2
      go_wp2_with fail
      refine (U HRU).mono ?_
      rintro e w3 ⟨er, vS, vC, out, st, rfl, hres⟩
      have lim : limsOk 1000 1000 1000 1000 := by unfold limsOk limOk; omega
      have her : er = 0 := (hres.yes lim).1.trans (U HPT).err
      have hout : out = want := (hres.yes lim).2.1.trans (U HPT).out
      subst her hout
      have HB3 : Hid (Below w.heap.size w w3) := (U HB2).trans (hres.below.mono (U HB2).size)
      obtain ⟨o1, o2, _⟩ := hres.ok lim rfl
      obtain ⟨aS, kS, rfl⟩ := own_shape o1
      obtain ⟨aC, kC, rfl⟩ := own_shape o2
      unfold outV
      clear hres HRU lim o1 o2
      generalize (runM q.1 (2000 : Int).toNat 0 (startM 0 1000 1000 1000 1000 q.2 ce)).1.stack.length = nS at *
      generalize (runM q.1 (2000 : Int).toNat 0 (startM 0 1000 1000 1000 1000 q.2 ce)).1.cells.length = nC at *
      have HBX : Hid (Below w.heap.size w (w3.alloc (.cells #[.int .i64 0, .slice aS nS kS, .slice aC nC kC, .string out, .int .i64 st] 44))) := (U HB3).trans ((below_box w3 _).mono (U HB3).size)
      go_wp2_with fail
      go_roundw
      case rel => first | exact ⟨1, rfl, by omega, U HBX⟩ | exact ⟨2, rfl, by omega, U HBX⟩ | exact ⟨3, rfl, by omega, U HBX⟩ | exact ⟨4, rfl, by omega, U HBX⟩ | exact ⟨5, rfl, by omega, U HBX⟩ | exact ⟨6, rfl, by omega, U HBX⟩ | exact ⟨7, rfl, by omega, U HBX⟩ | exact ⟨8, rfl, by omega, U HBX⟩
      case measure => simp [intOf]
def knText : ByteArray := ⟨#[58, 32, 102, 32, 100, 117, 112, 32, 105, 102, 32, 49, 32, 45, 32, 114, 101, 99, 117, 114, 115, 101, 32, 116, 104, 101, 110, 32, 59, 32, 51, 32, 102, 32, 46, 32, 49, 32, 50, 32, 43, 32, 46, 32, 51, 32, 48, 32, 100, 111, 32, 105, 32, 46, 32, 108, 111, 111, 112]⟩
def knWant : ByteArray := ⟨#[48, 32, 51, 32, 48, 32, 49, 32, 50, 32]⟩
def knElse : ByteArray := ⟨#[49, 32, 101, 108, 115, 101]⟩
def knP : PrS := ([(21, 0), (2, 5), (0, 1), (10, 0), (3, 0), (4, 0), (0, 3), (3, 0), (32, 0), (0, 1), (0, 2), (9, 0), (32, 0), (0, 3), (0, 0), (6, 0), (8, 0), (32, 0), (7, 16), (5, 0)], 6)
set_option maxRecDepth 1000000
theorem kn_err : (endS knText).err = 0 := by kernel_rfl
theorem kn_full : (fullS (endS knText), (endS knText).c0.length) = knP := by kernel_rfl
theorem kn_cells : (endS knText).cells = 0 := by kernel_rfl
theorem kn_else : (endS knElse).err = 4 ∧ (endS knElse).place = 2 := by
  constructor
  · kernel_rfl
  · kernel_rfl
theorem kne_fff : (runM (withP false false false knP).1 2000 0 (startM 0 1000 1000 1000 1000 (withP false false false knP).2 0)).2.1 = 0 := by kernel_rfl
theorem kno_fff : (runM (withP false false false knP).1 2000 0 (startM 0 1000 1000 1000 1000 (withP false false false knP).2 0)).1.out = knWant := by kernel_rfl
theorem kne_fft : (runM (withP false false true knP).1 2000 0 (startM 0 1000 1000 1000 1000 (withP false false true knP).2 0)).2.1 = 0 := by kernel_rfl
theorem kno_fft : (runM (withP false false true knP).1 2000 0 (startM 0 1000 1000 1000 1000 (withP false false true knP).2 0)).1.out = knWant := by kernel_rfl
theorem kne_ftf : (runM (withP false true false knP).1 2000 0 (startM 0 1000 1000 1000 1000 (withP false true false knP).2 0)).2.1 = 0 := by kernel_rfl
theorem kno_ftf : (runM (withP false true false knP).1 2000 0 (startM 0 1000 1000 1000 1000 (withP false true false knP).2 0)).1.out = knWant := by kernel_rfl
theorem kne_ftt : (runM (withP false true true knP).1 2000 0 (startM 0 1000 1000 1000 1000 (withP false true true knP).2 0)).2.1 = 0 := by kernel_rfl
theorem kno_ftt : (runM (withP false true true knP).1 2000 0 (startM 0 1000 1000 1000 1000 (withP false true true knP).2 0)).1.out = knWant := by kernel_rfl
theorem kne_tff : (runM (withP true false false knP).1 2000 0 (startM 0 1000 1000 1000 1000 (withP true false false knP).2 0)).2.1 = 0 := by kernel_rfl
theorem kno_tff : (runM (withP true false false knP).1 2000 0 (startM 0 1000 1000 1000 1000 (withP true false false knP).2 0)).1.out = knWant := by kernel_rfl
theorem kne_tft : (runM (withP true false true knP).1 2000 0 (startM 0 1000 1000 1000 1000 (withP true false true knP).2 0)).2.1 = 0 := by kernel_rfl
theorem kno_tft : (runM (withP true false true knP).1 2000 0 (startM 0 1000 1000 1000 1000 (withP true false true knP).2 0)).1.out = knWant := by kernel_rfl
theorem kne_ttf : (runM (withP true true false knP).1 2000 0 (startM 0 1000 1000 1000 1000 (withP true true false knP).2 0)).2.1 = 0 := by kernel_rfl
theorem kno_ttf : (runM (withP true true false knP).1 2000 0 (startM 0 1000 1000 1000 1000 (withP true true false knP).2 0)).1.out = knWant := by kernel_rfl
theorem kne_ttt : (runM (withP true true true knP).1 2000 0 (startM 0 1000 1000 1000 1000 (withP true true true knP).2 0)).2.1 = 0 := by kernel_rfl
theorem kno_ttt : (runM (withP true true true knP).1 2000 0 (startM 0 1000 1000 1000 1000 (withP true true true knP).2 0)).1.out = knWant := by kernel_rfl
theorem kn_size : knText.size ≤ 2000 := by decide
theorem kn_puts (f t u : Bool) : PutsTo (withP f t u (fullS (endS knText), (endS knText).c0.length)) (endS knText).cells knWant := by
  have hp : PrOk knP := by rw [← kn_full]; exact full_pr knText kn_size
  rw [kn_full, kn_cells]
  refine ⟨(withP_code hp).1, (withP_code hp).2, ?_, ?_⟩
  · cases f <;> cases t <;> cases u
    · exact kne_fff
    · exact kne_fft
    · exact kne_ftf
    · exact kne_ftt
    · exact kne_tff
    · exact kne_tft
    · exact kne_ttf
    · exact kne_ttt
  · cases f <;> cases t <;> cases u
    · exact kno_fff
    · exact kno_fft
    · exact kno_ftf
    · exact kno_ftt
    · exact kno_tff
    · exact kno_tft
    · exact kno_ttf
    · exact kno_ttt
theorem kn_elseSize : knElse.size ≤ 2000 := by decide

set_option maxHeartbeats 4000000 in
theorem known_any (hch : ChainedOk) (w : World) (henv : Env3 w) : Calls Tryz.prog 17 #[] w fun e w' => e = .returned (.bool true) ∧ Below w.heap.size w w' := by
  have HC : Hid (Calls Tryz.prog 18 #[.string knElse, .agg #[.bool false, .bool false, .bool false]] w fun e w' => e = .returned (.tuple #[.pointer none, .int .i64 4, .int .i64 2]) ∧ Below w.heap.size w w') := fcompile3_no knElse false false false w 4 2 (by omega) (fun W hW => comp3_no knElse W (henv.below hW).1 (henv.below hW).2.1 4 2 (Or.inr ⟨kn_elseSize, kn_else.1, kn_else.2, by omega⟩))
  have HP : Hid (∀ W, Below w.heap.size w W → Calls Tryz.prog 28 #[.string knText, .string knWant] W fun e w' => e = .returned (.bool true) ∧ Below W.heap.size W w') := fun W hW => puts_any hch knText knWant W (henv.below hW) kn_size kn_err kn_puts
  clear henv
  go_enter Tryz.func17, Tryz.ntmps17
  go_wp2_with fail
  refine (U HC).mono ?_
  rintro e w1 ⟨rfl, hb1⟩
  have HB1 := V hb1
  clear hb1 HC
  go_wp2_with fail
  refine (U HP w1 (U HB1)).mono ?_
  rintro e w2 ⟨rfl, hb2⟩
  have HB2 : Hid (Below w.heap.size w w2) := (U HB1).trans (hb2.mono (U HB1).size)
  clear hb2 HP
  go_wp2_with fail
  go_ret
  exact ⟨rfl, U HB2⟩
/-- Which of n things a number speaks of. -/
def pickK (c n : Int) : Int := (if c < 0 then -(c + 1) else c) % n
theorem pickK_in (c n : Int) (hn : 0 < n) : 0 ≤ pickK c n ∧ pickK c n < n := ⟨Int.emod_nonneg _ (by omega), Int.emod_lt_of_pos _ hn⟩
set_option maxRecDepth 100000 in
set_option maxHeartbeats 2000000 in
theorem pickK_any (c n : Int) (w : World) (hc : inI c) (hn : 0 < n ∧ n ≤ 1000000) :
    Calls Tryz.prog 22 #[.int .i64 c, .int .i64 n] w fun e w' => e = .returned (.int .i64 (pickK c n)) ∧ w' = w := by
  unfold inI at hc
  unfold pickK
  by_cases h : c < 0
  · rw [if_pos h]
    have h1 : IntKind.i64.wrap (c + 1) = c + 1 := by rw [IntKind.wrap_i64]; omega
    have h2 : IntKind.i64.wrap (-(c + 1)) = -(c + 1) := by rw [IntKind.wrap_i64]; omega
    have hn0 : n ≠ 0 := by omega
    go_enter Tryz.func22, Tryz.ntmps22
    go_wp2_with fail
    go_ret
    have e : -((c + 1).tmod n) = (-(c + 1)) % n := by rw [← Int.neg_tmod, Int.tmod_eq_emod_of_nonneg (by omega)]
    refine ⟨?_, rfl⟩
    rw [← e]
    rfl
  · rw [if_neg h]
    have hn0 : n ≠ 0 := by omega
    go_enter Tryz.func22, Tryz.ntmps22
    go_wp2_with fail
    go_ret
    exact ⟨rfl, rfl⟩
theorem max0_any (n : Int) (w : World) : Calls Tryz.prog 25 #[.int .i64 n] w fun e w' => e = .returned (.int .i64 (if n < 0 then 0 else n)) ∧ w' = w := by
  by_cases h : n < 0
  · rw [if_pos h]
    go_enter Tryz.func25, Tryz.ntmps25
    go_wp2_with fail
    go_ret
    exact ⟨rfl, rfl⟩
  · rw [if_neg h]
    go_enter Tryz.func25, Tryz.ntmps25
    go_wp2_with fail
    go_ret
    exact ⟨rfl, rfl⟩
set_option maxRecDepth 100000 in
set_option maxHeartbeats 16000000 in
theorem any_any (hch : ChainedOk) (ao : Option Addr) (c : Nat) (l : List (Int × Int)) (en ce l1 l2 l3 l4 fuel : Int) (w : World) (henv : Env3 w) (hin : InL w ao l) (hi : ∀ x ∈ l, inI x.2) (hfu : inI fuel) :
    Calls Tryz.prog 7 #[.slice ao l.length c, .int .i64 en, .int .i64 ce, .agg #[.int .i64 l1, .int .i64 l2, .int .i64 l3, .int .i64 l4], .int .i64 fuel] w fun e w' => e = .returned (.bool true) ∧ Below w.heap.size w w' := by
  have hb0 := below_box w (.cells #[.int .i64 l1, .int .i64 l2, .int .i64 l3, .int .i64 l4] 39)
  have HL0 := V (Blk.new w #[.int .i64 l1, .int .i64 l2, .int .i64 l3, .int .i64 l4] 39)
  have HK := V (known_any hch _ (henv.below hb0))
  have HTA := V (Lib.tabBelow_of_tabIs henv.2.2)
  have HIN := V hin
  have HI := V hi
  have HB0 := V hb0
  have HPI := V (fun W => pickK_any fuel 2000 W hfu ⟨by omega, by omega⟩)
  have hpk := pickK_in fuel 2000 (by omega)
  generalize pickK fuel 2000 = f at *
  clear hb0 henv hin hi
  go_enter Tryz.func7, Tryz.ntmps7
  go_wp2_with fail
  refine (U HK).mono ?_
  rintro e w1 ⟨rfl, hb1⟩
  have hL1 := (U HL0).below hb1 (U HL0).lt
  have HL1 := V hL1
  have HB1 : Hid (Below w.heap.size w w1) := (U HB0).trans (hb1.mono (U HB0).size)
  have HLO := V (fload_any ao c l en ce w1 ((U HIN).below (U HB1)))
  clear hb1 HK HL0 hL1
  go_wp2_with fail
  refine (U HLO).mono ?_
  rintro e w2 ⟨hcase, hb2⟩
  have HB2 : Hid (Below w.heap.size w w2) := (U HB1).trans (hb2.mono (U HB1).size)
  rcases hcase with ⟨_, rfl⟩ | ⟨hload, c2, g2, cap2, rfl, hcode, hc2, hrow⟩
  · clear HLO hb2
    go_wp2_with fail
    go_ret
    exact ⟨rfl, U HB2⟩
  · obtain ⟨hok, hen, hce⟩ := load_code hload (U HI)
    have hcr : CodeR3 w2 c2 l en ce := ⟨g2, cap2, hcode, ownsRow_base hrow (Nat.zero_le _)⟩
    have HRU := V (run3_any w2 c2 0 l en ce l1 l2 l3 l4 f hcr (U HTA w2 (U HB2)) hok hen hce (by omega))
    have hL2 := (U HL1).below hb2 (U HL1).lt
    have HL2 := V hL2
    have q1 := hL2.cell
    have q2 := hL2.lt
    have HCE := V hce
    clear HLO hb2 hcode hc2 hrow hcr hok hen hload hL2 HL1
    go_wp2_with fail
    refine (U HPI _).mono ?_
    rintro e w2' ⟨rfl, hw2⟩
    obtain rfl := hw2.symm
    clear hw2
    go_wp2_with fail
    refine (U HRU).mono ?_
    rintro e w3 ⟨er, vS, vC, out, st, rfl, hres⟩
    have hoo := hres.outOk (U HI) (U HCE) hpk.1
    have hb3 := hres.below
    obtain ⟨⟨aS, nS, kS, aC, nC, kC, rfl, rfl, s1, s2, s3, s4, s5⟩, s6, s7, s8⟩ := hoo
    have HB3 : Hid (Below w.heap.size w w3) := (U HB2).trans (hb3.mono (U HB2).size)
    have hL3 := (U HL2).below hb3 (U HL2).lt
    have hbx := below_box w3 (.cells #[.int .i64 er, .slice aS nS kS, .slice aC nC kC, .string out, .int .i64 st] 44)
    have hL4 := hL3.alloc (.cells #[.int .i64 er, .slice aS nS kS, .slice aC nC kC, .string out, .int .i64 st] 44)
    have hO4 := Blk.new w3 #[.int .i64 er, .slice aS nS kS, .slice aC nC kC, .string out, .int .i64 st] 44
    have z1 := hL4.cell
    have z2 := hL4.lt
    have z3 := hO4.cell
    have z4 := hO4.lt
    have HB4 : Hid (Below w.heap.size w (w3.alloc (.cells #[.int .i64 er, .slice aS nS kS, .slice aC nC kC, .string out, .int .i64 st] 44))) := (U HB3).trans (hbx.mono (U HB3).size)
    have st0 : st ≥ 0 := s7.1
    have st1 : st ≤ f := s7.2
    have hmx1 : (nS : Int) ≤ (if l1 < 0 then 0 else l1) := s1
    have hmx4 : (out.size : Int) ≤ (if l4 < 0 then 0 else l4) := s6
    have HM1 := V (max0_any l1)
    have HM4 := V (max0_any l4)
    unfold outV
    clear hres hb3 hL3 hL4 hO4 hbx HRU q1 q2 s1 s6 s7
    generalize (if l1 < 0 then (0 : Int) else l1) = m1 at HM1 hmx1
    generalize (if l4 < 0 then (0 : Int) else l4) = m4 at HM4 hmx4
    by_cases h0 : er = 0
    · subst h0
      have hnc := s2 rfl
      clear s2 s3 s8
      go_wp2_with fail
      go_quiet ((go_at_call 25; first | exact Calls.quiet_of_same (U HM1 _) | exact Calls.quiet_of_same (U HM4 _)))
      go_wp2_with fail
      go_ret
      exact ⟨rfl, below_drawn (U HB4) _⟩
    · obtain ⟨rfl, rfl⟩ := s3 h0
      clear s2 s3
      have g0 : decide (er = 0) = false := by simpa using h0
      have hmz : (0 : Int) ≤ m1 := by simpa using hmx1
      by_cases h15 : er = 15
      · subst h15
        have hst := s8 rfl
        subst hst
        go_wp2_with fail
        go_quiet ((go_at_call 25; first | exact Calls.quiet_of_same (U HM1 _) | exact Calls.quiet_of_same (U HM4 _)))
        go_wp2_with fail
        go_ret
        exact ⟨rfl, below_drawn (U HB4) _⟩
      · have g15 : decide (er = 15) = false := by simpa using h15
        clear s8
        go_wp2_with fail
        go_quiet ((go_at_call 25; first | exact Calls.quiet_of_same (U HM1 _) | exact Calls.quiet_of_same (U HM4 _)))
        go_wp2_with fail
        go_ret
        exact ⟨(by show Ending.returned (.bool (!(er == 0))) = _; rw [show (er == 0) = false by simpa using h0]; rfl), below_drawn (U HB4) _⟩
end Go.Proofs.YtmeiikjpaepogaaGreatDoor
namespace Go.Proofs.YtmeiikjpaepogaaGreatDoor
open Go Go.ChangeShapes Go.WideShapes Go.ChangeAt

theorem Tryz.wfA : Rows.anyRow.wf (OpenSpec.ofChange (OpenSpec.ofChange Rows.anySpec).bare) = true := by kernel_rfl
theorem Tryz.inPlaceA : (Rows.anyRow.inPlace == Tryz.prog.inPlace 7) = true := by kernel_rfl
theorem Tryz.unfollowedA : (Rows.anyRow.unfollowed == Tryz.prog.unfollowed 7) = true := by kernel_rfl
theorem Tryz.recursesA : (Rows.anyRow.recurses == Tryz.prog.recurses 7) = true := by kernel_rfl
theorem Tryz.namedA : (Rows.anyRow.named == Tryz.prog.varsNamed 7) = true := by kernel_rfl
theorem Tryz.plainKeysA : (Rows.anyRow.plainKeys == Tryz.prog.plainKeys) = true := by kernel_rfl
theorem Tryz.liftedA : (Rows.anyRow.lifted == Tryz.prog.liftsFinal) = true := by kernel_rfl
theorem Tryz.makeA : (Tryz.prog.make == some Rows.anyRow.make) = true := by kernel_rfl
theorem Tryz.closedA : joinedFacts Tryz.prog 7 Tryz.f7 (OpenSpec.ofChange Rows.anySpec).bare Rows.anyRow = true := by
  unfold joinedFacts
  simp only [Bool.and_eq_true]
  refine ⟨⟨⟨⟨⟨⟨⟨⟨⟨⟨⟨⟨⟨⟨⟨⟨⟨⟨⟨⟨⟨⟨⟨⟨⟨⟨⟨⟨⟨⟨⟨?_, ?_⟩, ?_⟩, ?_⟩, ?_⟩, ?_⟩, ?_⟩, ?_⟩, ?_⟩, ?_⟩, ?_⟩, ?_⟩, ?_⟩, ?_⟩, ?_⟩, ?_⟩, ?_⟩, ?_⟩, ?_⟩, ?_⟩, ?_⟩, ?_⟩, ?_⟩, ?_⟩, ?_⟩, ?_⟩, ?_⟩, ?_⟩, ?_⟩, ?_⟩, ?_⟩, ?_⟩
  all_goals first
    | with_reducible exact Tryz.laidOut
    | with_reducible exact Tryz.mapsRowed
    | with_reducible exact Tryz.stops0
    | with_reducible exact Tryz.knobs0
    | with_reducible exact Tryz.heardC
    | with_reducible exact Tryz.mayEnterC
    | with_reducible exact Tryz.wfA
    | with_reducible exact Tryz.inPlaceA
    | with_reducible exact Tryz.unfollowedA
    | with_reducible exact Tryz.recursesA
    | with_reducible exact Tryz.namedA
    | with_reducible exact Tryz.plainKeysA
    | with_reducible exact Tryz.liftedA
    | with_reducible exact Tryz.makeA
    | as_aux_lemma => kernel_rfl
end Go.Proofs.YtmeiikjpaepogaaGreatDoor
namespace Go.Proofs.YtmeiikjpaepogaaGreatDoor
open Go Go.RowKit Go.ChangeShapes Go.WideShapes Go.ChangeAt Go.Deep

section
variable {H : Type} {enc : TypeId × Value → H} {w : World} {base : Nat} {spare : Nat → Bool} {held : Bool} {v : Value} {d : DataW H} {p : List MemPlace} {r : Reach} {b : Nat}
set_option maxRecDepth 100000 in
theorem open_int (hv : Value.okWide Tryz.prog w r b 3 v) (h : DataW.Trod enc Tryz.prog w base spare held 3 v d p) : ∃ n, v = .int .i64 n ∧ inI n := by
  obtain ⟨n, rfl⟩ := okWide_int Tryz.underlying3 hv
  obtain ⟨fuel, h⟩ := h
  obtain ⟨n', g, _, hw⟩ := DataW.trod_int Tryz.underlying3 h
  simp only [Value.cells, List.cons.injEq, Value.int.injEq, and_true, true_and] at g
  subst g
  exact ⟨_, rfl, inI_lit hw⟩
set_option maxRecDepth 100000 in
theorem open_lims (hv : Value.okWide Tryz.prog w r b 39 v) (h : DataW.Trod enc Tryz.prog w base spare held 39 v d p) : ∃ l1 l2 l3 l4, v = .agg #[.int .i64 l1, .int .i64 l2, .int .i64 l3, .int .i64 l4] := by
  obtain ⟨cs, rfl, hcs⟩ := okWide_struct Tryz.underlying39 hv
  obtain ⟨fuel, h⟩ := h
  obtain ⟨t0, t1, t2, t3, n7, hl, k0, k1, k2, k3⟩ := trod_structs4 Tryz.underlying39 h
  rw [Tryz.cells39] at hl
  obtain ⟨cs⟩ := cs
  simp only [Value.cells] at hl k0 k1 k2 k3
  match cs, hl with
  | [a, b, c, d], _ =>
    simp only [Tryz.cells3, List.drop_succ_cons, List.drop_zero, List.take_succ_cons, List.take_zero] at k0 k1 k2 k3
    obtain ⟨l1, m1, _, _⟩ := DataW.trod_int Tryz.underlying3 k0
    obtain ⟨l2, m2, _, _⟩ := DataW.trod_int Tryz.underlying3 k1
    obtain ⟨l3, m3, _, _⟩ := DataW.trod_int Tryz.underlying3 k2
    obtain ⟨l4, m4, _, _⟩ := DataW.trod_int Tryz.underlying3 k3
    simp only [List.cons.injEq, and_true] at m1 m2 m3 m4
    subst m1 m2 m3 m4
    exact ⟨_, _, _, _, rfl⟩
set_option maxRecDepth 100000 in
theorem open_instrs (hv : Value.okWide Tryz.prog w r b 33 v) (h : DataW.Trod enc Tryz.prog w 0 (fun _ => true) true 33 v d p) (hw : (d.weights Tryz.prog 33).all (· ≤ reachBytes) = true) : ∃ ao c l, v = .slice ao (List.length l) c ∧ InL w ao l ∧ (∀ y ∈ l, inI y.2) ∧ l.length ≤ 8796093021960 := by
  obtain ⟨a, n, c, rfl⟩ := okWide_slice Tryz.underlying33 hv
  obtain ⟨fuel, h⟩ := h
  exact open_list (x := (d, p)) h hw
end
end Go.Proofs.YtmeiikjpaepogaaGreatDoor
