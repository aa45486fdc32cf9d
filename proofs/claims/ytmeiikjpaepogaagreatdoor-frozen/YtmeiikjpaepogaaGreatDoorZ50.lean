/- The statements without the reference: what a text puts out with any options. -/
import Derived.Test.YtmeiikjpaepogaaGreatDoorZ49
import Derived.Test.YtmeiikjpaepogaaGreatDoorZ43
import Derived.Test.YtmeiikjpaepogaaGreatDoorZ08
import Derived.Test.YtmeiikjpaepogaaGreatDoorZ28
namespace Go.Proofs.YtmeiikjpaepogaaGreatDoor
open Go Go.RowKit

theorem Tryz.sizeLims : (Tryz.prog.info? 39).map (fun i => i.size) = some 4 := by kernel_rfl
set_option maxRecDepth 100000 in
set_option maxHeartbeats 4000000 in
theorem wide_any (w : World) : Calls Tryz.prog 31 #[] w fun e w' => e = .returned (.agg #[.int .i64 1000, .int .i64 1000, .int .i64 1000, .int .i64 1000]) ∧ Below w.heap.size w w' := by
  go_enter Tryz.func31, Tryz.ntmps31
  go_wp2_with fail
  exact bodyPost_ret (results_row3 (P := Tryz.prog) rfl _ _ w.heap.size 39 _ (0, 0) _ rfl (Blk.new w _ _) Tryz.underlying39 rfl Tryz.sizeLims) rfl ⟨rfl, below_box w _⟩
/-- What a run of code comes to, with the greatest limits. -/
structure PutsTo (q : PrS) (ce : Int) (want : ByteArray) : Prop where
  code : CodeOk q.1
  entry : q.2 < q.1.length
  err : (runM q.1 2000 0 (startM 0 1000 1000 1000 1000 q.2 ce)).2.1 = 0
  out : (runM q.1 2000 0 (startM 0 1000 1000 1000 1000 q.2 ce)).1.out = want
/-- Which of n things a number speaks of. -/
def pickK (c n : Int) : Int := (if c < 0 then -(c + 1) else c) % n
theorem pickK_in (c n : Int) (hn : 0 < n) : 0 ≤ pickK c n ∧ pickK c n < n := ⟨Int.emod_nonneg _ (by omega), Int.emod_lt_of_pos _ hn⟩
set_option maxRecDepth 100000 in
set_option maxHeartbeats 2000000 in
theorem pickK_any (c n : Int) (w : World) (hc : inI c) (hn : 0 < n ∧ n ≤ 1000000) :
    Calls Tryz.prog 22 #[.int .i64 c, .int .i64 n] w fun e w' => e = .returned (.int .i64 (pickK c n)) ∧ w' = w := by
  unfold inI at hc
  unfold pickK
  by_cases h : c < 0
  · rw [if_pos h]
    have h1 : IntKind.i64.wrap (c + 1) = c + 1 := by rw [IntKind.wrap_i64]; omega
    have h2 : IntKind.i64.wrap (-(c + 1)) = -(c + 1) := by rw [IntKind.wrap_i64]; omega
    have hn0 : n ≠ 0 := by omega
    go_enter Tryz.func22, Tryz.ntmps22
    go_wp2_with fail
    go_ret
    have e : -((c + 1).tmod n) = (-(c + 1)) % n := by rw [← Int.neg_tmod, Int.tmod_eq_emod_of_nonneg (by omega)]
    refine ⟨?_, rfl⟩
    rw [← e]
    rfl
  · rw [if_neg h]
    have hn0 : n ≠ 0 := by omega
    go_enter Tryz.func22, Tryz.ntmps22
    go_wp2_with fail
    go_ret
    exact ⟨rfl, rfl⟩
set_option maxRecDepth 100000 in
set_option maxHeartbeats 2000000 in
theorem sameNumsK_any (va vb : Value) (la lb : List Int) (ba bb : Nat) (w : World) (ha : w.ownsRow ba 2 1 va la.length (intCells la)) (hb : w.ownsRow bb 2 1 vb lb.length (intCells lb)) (hla : la.length ≤ 17592186044416) (hlb : lb.length ≤ 17592186044416) :
    Calls Tryz.prog 24 #[va, vb] w fun e w' => e = .returned (.bool (decide (la = lb))) ∧ ∃ n, w' = w.drewN n := by
  obtain ⟨aa, ca, hva⟩ := own_shape ha
  obtain ⟨ab, cb, hvb⟩ := own_shape hb
  subst hva hvb
  have hlaI : (la.length : Int) ≤ 17592186044416 := by omega
  have hlbI : (lb.length : Int) ≤ 17592186044416 := by omega
  by_cases hll : la.length = lb.length
  · have HA := V ha
    have HB := V hb
    have hllI : (la.length : Int) = lb.length := by omega
    clear ha hb
    go_enter Tryz.func24, Tryz.ntmps24
    go_wp2_with fail
    go_loopw [5] (fun i wr => ∃ (k n : Nat), i = .int .i64 k ∧ k ≤ la.length ∧ la.take k = lb.take k ∧ wr = w.drewN n) (fun i _ => la.length - (intOf i).toNat)
    case atStart => exact ⟨0, 0, rfl, Nat.zero_le _, rfl, rfl⟩
    case round =>
      obtain ⟨k, n, rfl, hk, heq, rfl⟩ := hrel
      have HEQ := V heq
      clear heq
      by_cases hlt : k < la.length
      · obtain ⟨g, cap, hv, _, _⟩ := (U HA).form (by omega)
        simp only [Value.slice.injEq, true_and] at hv
        obtain ⟨rfl, rfl⟩ := hv
        obtain ⟨g2, cap2, hv, _, _⟩ := (U HB).form (by omega)
        simp only [Value.slice.injEq, true_and] at hv
        obtain ⟨rfl, rfl⟩ := hv
        obtain ⟨x, hx⟩ : ∃ x, la[k]? = some x := ⟨_, List.getElem?_eq_getElem hlt⟩
        obtain ⟨y, hy⟩ : ∃ y, lb[k]? = some y := ⟨_, List.getElem?_eq_getElem (by omega)⟩
        have hc1 := own_cell (U HA) k (by omega)
        have hc2 := own_cell (U HB) k (by omega)
        have e1 : (intCells la)[k]? = some (.int .i64 x) := by unfold intCells; rw [List.getElem?_map, hx]; rfl
        have e2 : (intCells lb)[k]? = some (.int .i64 y) := by unfold intCells; rw [List.getElem?_map, hy]; rfl
        rw [e1] at hc1
        rw [e2] at hc2
        have hltI : (k : Int) < la.length := by omega
        have hltJ : (k : Int) < lb.length := by omega
        have HX := V hx
        have HY := V hy
        clear hx hy e1 e2
        by_cases hxy : x = y
        · subst hxy
          go_wp2_with fail
          go_region
          go_wp2_with fail
          go_roundw
          case rel =>
            refine ⟨k + 1, n + 1, by go_num, by omega, ?_, rfl⟩
            rw [take_one la k x (U HX), take_one lb k x (U HY), U HEQ]
          case measure => simp [intOf]; omega
        · have hxy' : (x == y) = false := by simpa using hxy
          go_wp2_with fail
          go_region
          go_wp2_with fail
          go_ret
          refine ⟨ret_bool ?_, n + 1, rfl⟩
          have : la ≠ lb := by
            rintro rfl
            have h1 := U HX
            rw [U HY] at h1
            exact hxy (Option.some.inj h1).symm
          simp [this]
      · have hkn : k = la.length := by omega
        subst hkn
        go_wp2_with fail
        go_ret
        refine ⟨ret_bool ?_, _, rfl⟩
        have h1 := U HEQ
        rw [List.take_of_length_le (Nat.le_refl _), hll, List.take_of_length_le (Nat.le_refl _)] at h1
        simp [h1]
  · have hll' : (((la.length : Int) == (lb.length : Int))) = false := by
      simp
      omega
    have hne : la ≠ lb := fun e => hll (by rw [e])
    go_enter Tryz.func24, Tryz.ntmps24
    go_wp2_with fail
    go_ret
    refine ⟨ret_bool ?_, 0, rfl⟩
    simp [hne]

set_option maxRecDepth 100000 in
set_option maxHeartbeats 2000000 in
theorem sameK_any (ea eb : Int) (sa sb ca cb : List Int) (oa ob : ByteArray) (ta tb : Int) (ba bb : Nat) (vSa vCa vSb vCb : Value) (w : World) (ha : OutIs w ba vSa vCa sa ca) (hb : OutIs w bb vSb vCb sb cb) :
    Calls Tryz.prog 26 #[outV ea vSa vCa oa ta, outV eb vSb vCb ob tb] w fun e w' => e = .returned (.bool (sameS ea eb sa sb ca cb oa ob)) ∧ Below w.heap.size w w' := by
  unfold outV
  obtain ⟨a1, k1, hv1⟩ := own_shape ha.s
  obtain ⟨a2, k2, hv2⟩ := own_shape ha.c
  obtain ⟨a3, k3, hv3⟩ := own_shape hb.s
  obtain ⟨a4, k4, hv4⟩ := own_shape hb.c
  subst hv1 hv2 hv3 hv4
  have hbW : Below w.heap.size w ((w.alloc (.cells #[.int .i64 ea, .slice a1 sa.length k1, .slice a2 ca.length k2, .string oa, .int .i64 ta] 44)).alloc (.cells #[.int .i64 eb, .slice a3 sb.length k3, .slice a4 cb.length k4, .string ob, .int .i64 tb] 44)) := ((Below.refl _ _).alloc (Nat.le_refl _) _).alloc (by simp) _
  have ha' := ha.below hbW
  have hb' := hb.below hbW
  have H1 := V (sameNumsK_any _ _ sa sb ba bb _ ha'.s hb'.s ha.small.1 hb.small.1)
  have H2 : Hid (∀ n, Calls Tryz.prog 24 #[.slice a2 ca.length k2, .slice a4 cb.length k4] (((w.alloc (.cells #[.int .i64 ea, .slice a1 sa.length k1, .slice a2 ca.length k2, .string oa, .int .i64 ta] 44)).alloc (.cells #[.int .i64 eb, .slice a3 sb.length k3, .slice a4 cb.length k4, .string ob, .int .i64 tb] 44)).drewN n) fun e w' => e = .returned (.bool (decide (ca = cb))) ∧ ∃ m, w' = (((w.alloc (.cells #[.int .i64 ea, .slice a1 sa.length k1, .slice a2 ca.length k2, .string oa, .int .i64 ta] 44)).alloc (.cells #[.int .i64 eb, .slice a3 sb.length k3, .slice a4 cb.length k4, .string ob, .int .i64 tb] 44)).drewN n).drewN m) :=
    fun n => sameNumsK_any _ _ ca cb ba bb _ ha'.c hb'.c ha.small.2 hb.small.2
  have hu : sameS ea eb sa sb ca cb oa ob = (ea == eb && oa.toList == ob.toList && decide (sa = sb) && decide (ca = cb)) := rfl
  rw [hu]
  generalize decide (sa = sb) = d1 at H1 ⊢
  generalize decide (ca = cb) = d2 at H2 ⊢
  have HB := V hbW
  clear ha hb ha' hb' hbW hu
  go_enter Tryz.func26, Tryz.ntmps26
  go_wp2_with fail
  refine (U H1).mono ?_
  rintro e w1 ⟨rfl, n, rfl⟩
  go_wp2_with fail
  refine (U H2 n).mono ?_
  rintro e w1 ⟨rfl, m, rfl⟩
  cases he : (ea == eb)
  · go_wp2_with fail
    go_ret
    exact ⟨ret_bool (by simp [he]), (U HB).trans ⟨rfl, rfl, rfl, Nat.le_refl _, fun _ _ => rfl⟩⟩
  · cases ho : (oa.toList == ob.toList)
    · go_wp2_with fail
      go_ret
      exact ⟨ret_bool (by simp [ho]), (U HB).trans ⟨rfl, rfl, rfl, Nat.le_refl _, fun _ _ => rfl⟩⟩
    · cases d1 <;> cases d2
      all_goals
        go_wp2_with fail
        go_ret
        exact ⟨ret_bool (by simp [he, ho]), (U HB).trans ⟨rfl, rfl, rfl, Nat.le_refl _, fun _ _ => rfl⟩⟩

set_option maxRecDepth 100000 in
set_option maxHeartbeats 2000000 in
theorem limitsK_any (a b c d : Int) (w : World) (ha : inI a) (hb : inI b) (hc : inI c) (hd : inI d) :
    Calls Tryz.prog 21 #[.int .i64 a, .int .i64 b, .int .i64 c, .int .i64 d] w fun e w' => e = .returned (.agg #[.int .i64 (1 + pickK a 1000), .int .i64 (1 + pickK b 1000), .int .i64 (1 + pickK c 1000), .int .i64 (1 + pickK d 1000)]) ∧ Below w.heap.size w w' := by
  have HA := V (fun W => pickK_any a 1000 W ha ⟨by omega, by omega⟩)
  have HB := V (fun W => pickK_any b 1000 W hb ⟨by omega, by omega⟩)
  have HC := V (fun W => pickK_any c 1000 W hc ⟨by omega, by omega⟩)
  have HD := V (fun W => pickK_any d 1000 W hd ⟨by omega, by omega⟩)
  have pa := pickK_in a 1000 (by omega)
  have pb := pickK_in b 1000 (by omega)
  have pc := pickK_in c 1000 (by omega)
  have pd := pickK_in d 1000 (by omega)
  generalize pickK a 1000 = a' at *
  generalize pickK b 1000 = b' at *
  generalize pickK c 1000 = c' at *
  generalize pickK d 1000 = d' at *
  clear ha hb hc hd
  have HB0 := V (below_box w (.cells #[.int .i64 0, .int .i64 0, .int .i64 0, .int .i64 0] 39))
  have hR := (Blk.new w #[.int .i64 0, .int .i64 0, .int .i64 0, .int .i64 0] 39)
  have hc0 := hR.cell
  have hl0 := hR.lt
  clear hR
  go_enter Tryz.func21, Tryz.ntmps21
  go_wp2_with fail
  refine (U HA _).mono ?_
  rintro e w' ⟨rfl, hw2⟩
  subst hw2
  go_wp2_with fail
  refine (U HB _).mono ?_
  rintro e w' ⟨rfl, hw2⟩
  subst hw2
  go_wp2_with fail
  refine (U HC _).mono ?_
  rintro e w' ⟨rfl, hw2⟩
  subst hw2
  go_wp2_with fail
  refine (U HD _).mono ?_
  rintro e w' ⟨rfl, hw2⟩
  subst hw2
  go_wp2_with fail
  exact bodyPost_ret (results_row3 (P := Tryz.prog) rfl _ _ w.heap.size 39 _ (0, 0) _ rfl (Blk.new w _ _) Tryz.underlying39 rfl Tryz.sizeLims) rfl ⟨rfl, below_box w _⟩
set_option maxRecDepth 100000 in
set_option maxHeartbeats 16000000 in
theorem puts_any (hch : ChainedOk) (s want : ByteArray) (w : World) (henv : Env3 w) (hs : s.size ≤ 2000) (h0 : (endS s).err = 0) (hput : ∀ f t su : Bool, PutsTo (withP f t su (fullS (endS s), (endS s).c0.length)) (endS s).cells want) :
    Calls Tryz.prog 28 #[.string s, .string want] w fun e w' => e = .returned (.bool true) ∧ Below w.heap.size w w' := by
  have hce : 0 ≤ (endS s).cells ∧ (endS s).cells ≤ 1000 := (read_facts s hs).2.2
  have HCO : Hid (∀ (f t su : Bool) (W : World), Below w.heap.size w W → Calls Tryz.prog 18 #[.string s, .agg #[.bool f, .bool t, .bool su]] W fun e w' => ∃ (c : Nat) (q : PrS), e = .returned (.tuple #[.pointer (some ⟨c, 0, none⟩), .int .i64 0, .int .i64 0]) ∧ CodeR3 w' c q.1 q.2 (endS s).cells ∧ PutsTo q (endS s).cells want ∧ Below W.heap.size W w') := fun f t su W hW => by
    have he := henv.below hW
    refine (fcompileO_yes hch s f t su W hs he.1 he.2.1 he.2.2 h0).mono ?_
    rintro e w' ⟨c, rfl, hc, hb⟩
    exact ⟨c, _, rfl, hc, hput f t su, hb⟩
  have HTA := V (Lib.tabBelow_of_tabIs henv.2.2)
  have HWI := V wide_any
  clear henv hput h0
  generalize (endS s).cells = ce at *
  go_enter Tryz.func28, Tryz.ntmps28
  go_wp2_with fail
  go_loopw [5] (fun v wr => ∃ k : Nat, v = .int .i64 k ∧ k ≤ 8 ∧ Below w.heap.size w wr) (fun v _ => 8 - (intOf v).toNat)
  case atStart => exact ⟨0, rfl, by omega, Below.refl _ _⟩
  case round =>
    obtain ⟨k, rfl, hk, hbw⟩ := hrel
    have HBW := V hbw
    clear hbw
    have hk8 : k = 0 ∨ k = 1 ∨ k = 2 ∨ k = 3 ∨ k = 4 ∨ k = 5 ∨ k = 6 ∨ k = 7 ∨ k = 8 := by omega
    clear hk
    rcases hk8 with rfl | rfl | rfl | rfl | rfl | rfl | rfl | rfl | rfl
    case inr.inr.inr.inr.inr.inr.inr.inr =>
      go_wp2_with fail
      go_ret
      exact ⟨rfl, U HBW⟩
    all_goals
      go_wp2_with fail
      refine (U HCO _ _ _ wr (U HBW)).mono ?_
      rintro e w1 ⟨c, q, rfl, hc, hpt, hb1⟩
      have HB1 : Hid (Below w.heap.size w w1) := (U HBW).trans (hb1.mono (U HBW).size)
      have HC1 := V hc
      have HPT := V hpt
      clear hc hpt hb1
      go_wp2_with fail
      refine (U HWI w1).mono ?_
      rintro e w2 ⟨rfl, hb2⟩
      have HB2 : Hid (Below w.heap.size w w2) := (U HB1).trans (hb2.mono (U HB1).size)
      have HRU := V (run3_any w2 c 0 q.1 q.2 ce 1000 1000 1000 1000 2000 ((U HC1).law (LawStill.ofBelow hb2)) (U HTA w2 (U HB2)) (U HPT).code (by have := (U HPT).entry; omega) (by omega) (by omega))
      clear hb2
      go_wp2_with fail
      refine (U HRU).mono ?_
      rintro e w3 ⟨er, vS, vC, out, st, rfl, hres⟩
      have lim : limsOk 1000 1000 1000 1000 := by unfold limsOk limOk; omega
      have her : er = 0 := (hres.yes lim).1.trans (U HPT).err
      have hout : out = want := (hres.yes lim).2.1.trans (U HPT).out
      subst her hout
      have HB3 : Hid (Below w.heap.size w w3) := (U HB2).trans (hres.below.mono (U HB2).size)
      obtain ⟨o1, o2, _⟩ := hres.ok lim rfl
      obtain ⟨aS, kS, rfl⟩ := own_shape o1
      obtain ⟨aC, kC, rfl⟩ := own_shape o2
      unfold outV
      clear hres HRU lim o1 o2
      generalize (runM q.1 (2000 : Int).toNat 0 (startM 0 1000 1000 1000 1000 q.2 ce)).1.stack.length = nS at *
      generalize (runM q.1 (2000 : Int).toNat 0 (startM 0 1000 1000 1000 1000 q.2 ce)).1.cells.length = nC at *
      have HBX : Hid (Below w.heap.size w (w3.alloc (.cells #[.int .i64 0, .slice aS nS kS, .slice aC nC kC, .string out, .int .i64 st] 44))) := (U HB3).trans ((below_box w3 _).mono (U HB3).size)
      go_wp2_with fail
      go_roundw
      case rel => first | exact ⟨1, rfl, by omega, U HBX⟩ | exact ⟨2, rfl, by omega, U HBX⟩ | exact ⟨3, rfl, by omega, U HBX⟩ | exact ⟨4, rfl, by omega, U HBX⟩ | exact ⟨5, rfl, by omega, U HBX⟩ | exact ⟨6, rfl, by omega, U HBX⟩ | exact ⟨7, rfl, by omega, U HBX⟩ | exact ⟨8, rfl, by omega, U HBX⟩
      case measure => simp [intOf]
def knText : ByteArray := ⟨#[58, 32, 102, 32, 100, 117, 112, 32, 105, 102, 32, 49, 32, 45, 32, 114, 101, 99, 117, 114, 115, 101, 32, 116, 104, 101, 110, 32, 59, 32, 51, 32, 102, 32, 46, 32, 49, 32, 50, 32, 43, 32, 46, 32, 51, 32, 48, 32, 100, 111, 32, 105, 32, 46, 32, 108, 111, 111, 112]⟩
def knWant : ByteArray := ⟨#[48, 32, 51, 32, 48, 32, 49, 32, 50, 32]⟩
def knElse : ByteArray := ⟨#[49, 32, 101, 108, 115, 101]⟩
def knP : PrS := ([(21, 0), (2, 5), (0, 1), (10, 0), (3, 0), (4, 0), (0, 3), (3, 0), (32, 0), (0, 1), (0, 2), (9, 0), (32, 0), (0, 3), (0, 0), (6, 0), (8, 0), (32, 0), (7, 16), (5, 0)], 6)
set_option maxRecDepth 1000000
theorem kn_err : (endS knText).err = 0 := by kernel_rfl
theorem kn_full : (fullS (endS knText), (endS knText).c0.length) = knP := by kernel_rfl
theorem kn_cells : (endS knText).cells = 0 := by kernel_rfl
theorem kn_else : (endS knElse).err = 4 ∧ (endS knElse).place = 2 := by
  constructor
  · kernel_rfl
  · kernel_rfl
theorem kne_fff : (runM (withP false false false knP).1 2000 0 (startM 0 1000 1000 1000 1000 (withP false false false knP).2 0)).2.1 = 0 := by kernel_rfl
theorem kno_fff : (runM (withP false false false knP).1 2000 0 (startM 0 1000 1000 1000 1000 (withP false false false knP).2 0)).1.out = knWant := by kernel_rfl
theorem kne_fft : (runM (withP false false true knP).1 2000 0 (startM 0 1000 1000 1000 1000 (withP false false true knP).2 0)).2.1 = 0 := by kernel_rfl
theorem kno_fft : (runM (withP false false true knP).1 2000 0 (startM 0 1000 1000 1000 1000 (withP false false true knP).2 0)).1.out = knWant := by kernel_rfl
theorem kne_ftf : (runM (withP false true false knP).1 2000 0 (startM 0 1000 1000 1000 1000 (withP false true false knP).2 0)).2.1 = 0 := by kernel_rfl
theorem kno_ftf : (runM (withP false true false knP).1 2000 0 (startM 0 1000 1000 1000 1000 (withP false true false knP).2 0)).1.out = knWant := by kernel_rfl
theorem kne_ftt : (runM (withP false true true knP).1 2000 0 (startM 0 1000 1000 1000 1000 (withP false true true knP).2 0)).2.1 = 0 := by kernel_rfl
theorem kno_ftt : (runM (withP false true true knP).1 2000 0 (startM 0 1000 1000 1000 1000 (withP false true true knP).2 0)).1.out = knWant := by kernel_rfl
theorem kne_tff : (runM (withP true false false knP).1 2000 0 (startM 0 1000 1000 1000 1000 (withP true false false knP).2 0)).2.1 = 0 := by kernel_rfl
theorem kno_tff : (runM (withP true false false knP).1 2000 0 (startM 0 1000 1000 1000 1000 (withP true false false knP).2 0)).1.out = knWant := by kernel_rfl
theorem kne_tft : (runM (withP true false true knP).1 2000 0 (startM 0 1000 1000 1000 1000 (withP true false true knP).2 0)).2.1 = 0 := by kernel_rfl
theorem kno_tft : (runM (withP true false true knP).1 2000 0 (startM 0 1000 1000 1000 1000 (withP true false true knP).2 0)).1.out = knWant := by kernel_rfl
theorem kne_ttf : (runM (withP true true false knP).1 2000 0 (startM 0 1000 1000 1000 1000 (withP true true false knP).2 0)).2.1 = 0 := by kernel_rfl
theorem kno_ttf : (runM (withP true true false knP).1 2000 0 (startM 0 1000 1000 1000 1000 (withP true true false knP).2 0)).1.out = knWant := by kernel_rfl
theorem kne_ttt : (runM (withP true true true knP).1 2000 0 (startM 0 1000 1000 1000 1000 (withP true true true knP).2 0)).2.1 = 0 := by kernel_rfl
theorem kno_ttt : (runM (withP true true true knP).1 2000 0 (startM 0 1000 1000 1000 1000 (withP true true true knP).2 0)).1.out = knWant := by kernel_rfl
theorem kn_size : knText.size ≤ 2000 := by decide
theorem kn_puts (f t u : Bool) : PutsTo (withP f t u (fullS (endS knText), (endS knText).c0.length)) (endS knText).cells knWant := by
  have hp : PrOk knP := by rw [← kn_full]; exact full_pr knText kn_size
  rw [kn_full, kn_cells]
  refine ⟨(withP_code hp).1, (withP_code hp).2, ?_, ?_⟩
  · cases f <;> cases t <;> cases u
    · exact kne_fff
    · exact kne_fft
    · exact kne_ftf
    · exact kne_ftt
    · exact kne_tff
    · exact kne_tft
    · exact kne_ttf
    · exact kne_ttt
  · cases f <;> cases t <;> cases u
    · exact kno_fff
    · exact kno_fft
    · exact kno_ftf
    · exact kno_ftt
    · exact kno_tff
    · exact kno_tft
    · exact kno_ttf
    · exact kno_ttt
theorem kn_elseSize : knElse.size ≤ 2000 := by decide

set_option maxHeartbeats 4000000 in
theorem known_any (hch : ChainedOk) (w : World) (henv : Env3 w) : Calls Tryz.prog 17 #[] w fun e w' => e = .returned (.bool true) ∧ Below w.heap.size w w' := by
  have HC : Hid (Calls Tryz.prog 18 #[.string knElse, .agg #[.bool false, .bool false, .bool false]] w fun e w' => e = .returned (.tuple #[.pointer none, .int .i64 4, .int .i64 2]) ∧ Below w.heap.size w w') := fcompile3_no knElse false false false w 4 2 (by omega) (fun W hW => comp3_no knElse W (henv.below hW).1 (henv.below hW).2.1 4 2 (Or.inr ⟨kn_elseSize, kn_else.1, kn_else.2, by omega⟩))
  have HP : Hid (∀ W, Below w.heap.size w W → Calls Tryz.prog 28 #[.string knText, .string knWant] W fun e w' => e = .returned (.bool true) ∧ Below W.heap.size W w') := fun W hW => puts_any hch knText knWant W (henv.below hW) kn_size kn_err kn_puts
  clear henv
  go_enter Tryz.func17, Tryz.ntmps17
  go_wp2_with fail
  refine (U HC).mono ?_
  rintro e w1 ⟨rfl, hb1⟩
  have HB1 := V hb1
  clear hb1 HC
  go_wp2_with fail
  refine (U HP w1 (U HB1)).mono ?_
  rintro e w2 ⟨rfl, hb2⟩
  have HB2 : Hid (Below w.heap.size w w2) := (U HB1).trans (hb2.mono (U HB1).size)
  clear hb2 HP
  go_wp2_with fail
  go_ret
  exact ⟨rfl, U HB2⟩
def BadText (s : ByteArray) (er pl : Int) : Prop := er ≠ 0 ∧ (2000 < s.size ∧ er = 1 ∧ pl = 0 ∨ s.size ≤ 2000 ∧ (endS s).err = er ∧ (endS s).place = pl ∧ er ≠ 0)
theorem text_cases (s : ByteArray) : (∃ er pl, BadText s er pl) ∨ (s.size ≤ 2000 ∧ (endS s).err = 0) := by
  by_cases h : s.size ≤ 2000
  · by_cases h0 : (endS s).err = 0
    · exact Or.inr ⟨h, h0⟩
    · exact Or.inl ⟨_, _, h0, Or.inr ⟨h, rfl, rfl, h0⟩⟩
  · exact Or.inl ⟨1, 0, by omega, Or.inl ⟨by omega, rfl, rfl⟩⟩
theorem fcompileO_no (s : ByteArray) (f t su : Bool) (er pl : Int) (w : World) (henv : Env3 w) (h : BadText s er pl) :
    Calls Tryz.prog 18 #[.string s, .agg #[.bool f, .bool t, .bool su]] w fun e w' => e = .returned (.tuple #[.pointer none, .int .i64 er, .int .i64 pl]) ∧ Below w.heap.size w w' :=
  fcompile3_no s f t su w er pl h.1 (fun W hW => comp3_no s W (henv.below hW).1 (henv.below hW).2.1 er pl h.2)
/-- The lists that an outcome shows. -/
def shownS (r : MS × Int × Int) : List Int := if r.2.1 = 0 then r.1.stack else []
def shownC (r : MS × Int × Int) : List Int := if r.2.1 = 0 then r.1.cells else []
theorem CodeRes.outIs {w : World} {l : List (Int × Int)} {p : Nat} {en ce ls la lc lo fuel : Int} {er : Int} {vS vC : Value} {out : ByteArray} {st : Int} {w' : World} (h : CodeRes w l p en ce ls la lc lo fuel er vS vC out st w') (hl : limsOk ls la lc lo) :
    er = (runM l fuel.toNat 0 (startM p ls la lc lo en ce)).2.1 ∧ out = (runM l fuel.toNat 0 (startM p ls la lc lo en ce)).1.out ∧ st = (runM l fuel.toNat 0 (startM p ls la lc lo en ce)).2.2 ∧ OutIs w' w.heap.size vS vC (shownS (runM l fuel.toNat 0 (startM p ls la lc lo en ce))) (shownC (runM l fuel.toNat 0 (startM p ls la lc lo en ce))) ∧ (shownC (runM l fuel.toNat 0 (startM p ls la lc lo en ce))).length ≤ 1000 := by
  obtain ⟨h1, h2, h3⟩ := h.yes hl
  refine ⟨h1, h2, h3, ?_, ?_⟩
  · unfold shownS shownC
    by_cases he : er = 0
    · obtain ⟨o1, o2, o3, o4, _⟩ := h.ok hl he
      rw [← h1, if_pos he, if_pos he]
      exact ⟨o1, o2, by omega, by omega⟩
    · obtain ⟨rfl, rfl⟩ := h.bad he
      rw [← h1, if_neg he, if_neg he]
      exact ⟨own_nil _ _ _, own_nil _ _ _, by simp, by simp⟩
  · unfold shownC
    by_cases he : er = 0
    · obtain ⟨o1, o2, o3, o4, _⟩ := h.ok hl he
      rw [← h1, if_pos he]
      exact o4
    · rw [← h1, if_neg he]
      simp
/-- What Compile answers to a text: it is refused, or it is code. -/
def TextOut (W : World) (e : Ending) (w' : World) : Prop :=
  ((∃ er pl : Int, er ≠ 0 ∧ e = .returned (.tuple #[.pointer none, .int .i64 er, .int .i64 pl])) ∨ ∃ (c : Nat) (l : List (Int × Int)) (en : Nat) (ce : Int), e = .returned (.tuple #[.pointer (some ⟨c, 0, none⟩), .int .i64 0, .int .i64 0]) ∧ CodeR3 w' c l en ce ∧ CodeOk l ∧ en < l.length ∧ 0 ≤ ce ∧ ce ≤ 1000) ∧ Below W.heap.size W w'
theorem fcompileO_all (hch : ChainedOk) (s : ByteArray) (f t su : Bool) (W : World) (henv : Env3 W) :
    Calls Tryz.prog 18 #[.string s, .agg #[.bool f, .bool t, .bool su]] W (TextOut W) := by
  rcases text_cases s with ⟨er, pl, hbad⟩ | ⟨hs, h0⟩
  · refine (fcompileO_no s f t su er pl W henv hbad).mono ?_
    rintro e w' ⟨rfl, hb⟩
    exact ⟨Or.inl ⟨er, pl, hbad.1, rfl⟩, hb⟩
  · refine (fcompileO_yes hch s f t su W hs henv.1 henv.2.1 henv.2.2 h0).mono ?_
    rintro e w' ⟨c, rfl, hc, hb⟩
    have hk := withP_code (f := f) (t := t) (s := su) (full_pr s hs)
    exact ⟨Or.inr ⟨c, _, _, _, rfl, hc, hk.1, hk.2, (read_facts s hs).2.2⟩, hb⟩
/-- Less fuel puts out a beginning. -/
theorem less_run (l : List (Int × Int)) (m : MS) {n n' : Nat} (h : n ≤ n') :
    (runM l n 0 m).1.out.size ≤ (runM l n' 0 m).1.out.size ∧ (runM l n' 0 m).1.out.extract 0 (runM l n 0 m).1.out.size = (runM l n 0 m).1.out ∧ (runM l n 0 m).2.2 ≤ (runM l n' 0 m).2.2 := by
  obtain ⟨⟨t, h1⟩, h2⟩ := runM_less l n n' 0 m h
  refine ⟨?_, ?_, h2⟩
  · rw [h1, ByteArray.size_append]; omega
  · rw [h1]
    apply ByteArray.ext
    simp
theorem steps_run (l : List (Int × Int)) (m : MS) (n : Nat) : (runM l n 0 m).2.2 ≤ n := by
  have := (runM_facts l n 0 m).2.2.2.1
  omega
end Go.Proofs.YtmeiikjpaepogaaGreatDoor
