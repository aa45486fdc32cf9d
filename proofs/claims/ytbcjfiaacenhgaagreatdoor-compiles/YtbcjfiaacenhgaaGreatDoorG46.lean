/- The statements' world: a step. -/
import Derived.Test.YtbcjfiaacenhgaaGreatDoorG45
namespace Go.Proofs.YtbcjfiaacenhgaaGreatDoor
open Go Go.RowKit

theorem pickS_range (c n : Int) (hn : 1 ≤ n) : 0 ≤ pickS c n ∧ pickS c n < n := by
  unfold pickS
  split
  · exact ⟨Int.emod_nonneg _ (by omega), Int.emod_lt_of_pos _ (by omega)⟩
  · exact ⟨Int.emod_nonneg _ (by omega), Int.emod_lt_of_pos _ (by omega)⟩

/-- What a step leaves. -/
def StepPost (P : Prg) (B : Nat) (w : World) (bw : Nat) (hs : List Nat) (w' : World) : Prop :=
  ∃ ps' hs' vp' vh', Lw B w' bw ps' hs' vp' vh' ∧ PlayersOk P w' ps' ∧ HoldsOk w' hs' ∧ hs'.length ≤ hs.length + 8 ∧ LawStill w w' ∧ Below B w w'
theorem StepPost.ahead {P : Prg} {B : Nat} {w W w' : World} {bw : Nat} {hs : List Nat} (h : StepPost P B W bw hs w') (hb : Below w.heap.size w W) (hB : B ≤ w.heap.size) : StepPost P B w bw hs w' := by
  obtain ⟨ps', hs', vp', vh', h1, h2, h3, h4, h5, h6⟩ := h
  exact ⟨ps', hs', vp', vh', h1, h2, h3, h4, (LawStill.ofBelow hb).trans h5, (hb.mono hB).trans h6⟩

theorem Tryz.name10 : (Tryz.f10.name == "runtime.NumGoroutine") = false := by kernel_rfl
theorem Tryz.body10 : Tryz.f10.body.isNone = false := by kernel_rfl

theorem compiled_any (P : Prg) (B bw : Nat) (ps hs : List Nat) (vp vh : Value) (w : World) (henv : P.Env w) (h : Lw B w bw ps hs vp vh) (hh : HoldsOk w hs) (hp : PlayersOk P w ps)
    (kind n : Int) (s : ByteArray) (vl : Value) (en ce l1 l2 l3 l4 fu : Int) :
    Calls Tryz.prog 8 #[.pointer (some ⟨bw, 0, none⟩), opV kind n s false false false vl en ce l1 l2 l3 l4 fu] w fun e w' => e = .returned (.bool true) ∧ StepPost P B w bw hs w' := by
  have fin : ∀ (e : Ending) (w' : World), (e = .returned (.bool true) ∧ ∃ ps' vp', Lw B w' bw ps' hs vp' vh ∧ PlayersOk P w' ps' ∧ HoldsOk w' hs ∧ LawStill w w' ∧ Below B w w') → e = .returned (.bool true) ∧ StepPost P B w bw hs w' := by
    rintro e w' ⟨rfl, ps', vp', h1, h2, h3, h4, h5⟩
    exact ⟨rfl, ps', hs, vp', vh, h1, h2, h3, by omega, h4, h5⟩
  by_cases hl : 2000 < s.size
  · exact (compiled_no P B bw ps hs vp vh w henv h hh hp kind n s vl en ce l1 l2 l3 l4 fu 1 0 (Or.inl ⟨hl, rfl, rfl⟩)).mono fin
  · by_cases he : (endS s).err = 0
    · exact (compiled_yes P B bw ps hs vp vh w henv h hh hp kind n s vl en ce l1 l2 l3 l4 fu (by omega) he).mono fin
    · exact (compiled_no P B bw ps hs vp vh w henv h hh hp kind n s vl en ce l1 l2 l3 l4 fu _ _ (Or.inr ⟨by omega, rfl, rfl, he⟩)).mono fin

set_option maxRecDepth 100000 in
set_option maxHeartbeats 4000000 in
theorem lstep_any (P : Prg) (B bw : Nat) (ps hs : List Nat) (vp vh : Value) (w : World) (henv : P.Env w) (h : Lw B w bw ps hs vp vh) (hh : HoldsOk w hs) (hp : PlayersOk P w ps) (hlen : hs.length + 8 ≤ 17592186044416)
    (kind n : Int) (s : ByteArray) (ao : Option Addr) (m c : Nat) (en ce l1 l2 l3 l4 fu : Int) (hn : inI n) (hk2 : kind ≠ 2) :
    Calls Tryz.prog 6 #[.pointer (some ⟨bw, 0, none⟩), opV kind n s false false false (.slice ao m c) en ce l1 l2 l3 l4 fu] w fun e w' => (∃ r, e = .returned (.bool r) ∧ (kind ≠ 4 → r = true)) ∧ StepPost P B w bw hs w' := by
  have hBw : B ≤ w.heap.size := by have := h.base; have := h.blk.lt; omega
  have hb0 : Below w.heap.size w (w.alloc (.cells (opC kind n s false false false (.slice ao m c) en ce l1 l2 l3 l4 fu) 32)) := (Below.refl _ _).alloc (Nat.le_refl _) _
  have hOp := Blk.new w (opC kind n s false false false (.slice ao m c) en ce l1 l2 l3 l4 fu) 32
  have hlaw0 := LawStill.ofBelow hb0
  have henv0 := P.env henv hb0
  have hl0 := h.below hb0
  have hh0 := hh.law hlaw0
  have hp0 := hp.law hlaw0
  have hfew := h.few
  have hO := hOp.cell
  have hbl := h.blk.lt
  unfold opC at *
  unfold opV
  by_cases hk1 : kind = 1
  · subst hk1
    have HC := hide (compiled_any P B bw ps hs vp vh _ henv0 hl0 hh0 hp0 1 n s (.slice ao m c) en ce l1 l2 l3 l4 fu)
    unfold opV at HC
    have HB0 := hide hb0
    clear hOp hb0 hlaw0 henv0 hl0 hh0 hp0 h hh hp henv
    go_enter Tryz.func6, Tryz.ntmps6
    go_wp2_with fail
    refine (unhide HC).mono ?_
    rintro e w1 ⟨rfl, hpost⟩
    have HPO := hide hpost
    clear hpost HC
    go_wp2_with fail
    go_ret
    exact ⟨⟨true, rfl, fun _ => rfl⟩, (unhide HPO).ahead (unhide HB0) hBw⟩
  · have hk1' : (kind == 1) = false := by simpa using hk1
    have hk2' : (kind == 2) = false := by simpa using hk2
    by_cases hk34 : kind ≠ 3 ∧ kind ≠ 4
    · have hk3' : ¬ kind = 3 := hk34.1
      have hk4' : ¬ kind = 4 := hk34.2
      have hk1'' : ¬ kind = 1 := hk1
      have hk2'' : ¬ kind = 2 := hk2
      have HFIN : Hid (StepPost P B w bw hs (w.alloc (.cells #[.int .i64 kind, .int .i64 n, .string s, .bool false, .bool false, .bool false, .slice ao m c, .int .i64 en, .int .i64 ce, .int .i64 l1, .int .i64 l2, .int .i64 l3, .int .i64 l4, .int .i64 fu] 32))) := ⟨ps, hs, vp, vh, hl0, hp0, hh0, by omega, hlaw0, hb0.mono hBw⟩
      clear hOp hb0 hlaw0 henv0 hl0 hh0 hp0 h hh hp henv hk1 hk2 hk34
      go_enter Tryz.func6, Tryz.ntmps6
      go_wp2_with fail
      go_ret
      exact ⟨⟨true, rfl, fun _ => rfl⟩, unhide HFIN⟩
    · by_cases hps : ps.length = 0
      · have HFIN : Hid (StepPost P B w bw hs (w.alloc (.cells #[.int .i64 kind, .int .i64 n, .string s, .bool false, .bool false, .bool false, .slice ao m c, .int .i64 en, .int .i64 ce, .int .i64 l1, .int .i64 l2, .int .i64 l3, .int .i64 l4, .int .i64 fu] 32))) := ⟨ps, hs, vp, vh, hl0, hp0, hh0, by omega, hlaw0, hb0.mono hBw⟩
        obtain ⟨ap, cp, hvp⟩ := own_shape h.op
        subst hvp
        have hc := h.blk.cell
        rw [hps] at hc
        have hk : kind = 3 ∨ kind = 4 := by omega
        clear hOp hb0 hlaw0 henv0 hl0 hh0 hp0 h hh hp henv hk1 hk2 hk34 hk1' hk2' hO
        rcases hk with rfl | rfl
        all_goals
          go_enter Tryz.func6, Tryz.ntmps6
          go_wp2_with fail
          go_ret
          exact ⟨⟨true, rfl, fun _ => rfl⟩, unhide HFIN⟩
      · obtain ⟨gp, cp, hvp, _, hgl⟩ := h.op.form (by omega)
        subst hvp
        have hnp : (1 : Int) ≤ ps.length := by omega
        obtain ⟨kq, hkq⟩ : ∃ kq : Nat, pickS n ps.length = kq := ⟨(pickS n ps.length).toNat, by have := (pickS_range n ps.length hnp).1; omega⟩
        have hkl : kq < ps.length := by have := (pickS_range n ps.length hnp).2; omega
        obtain ⟨q, hq⟩ : ∃ q, ps[kq]? = some q := ⟨_, List.getElem?_eq_getElem hkl⟩
        have hcell := own_cell h.op kq (by omega)
        rw [ptrs_at ps kq q hq] at hcell
        have hPl := hp0 q (List.mem_of_getElem? hq)
        unfold inI at hn
        have HPK : Hid (∀ W : World, Calls Tryz.prog 10 #[.int .i64 n, .int .i64 ps.length] W fun e w' => e = .returned (.int .i64 kq) ∧ w' = W) := fun W => by
          have := pick_any n ps.length W hn.1 hn.2 hnp (by omega)
          rw [hkq] at this
          exact this
        have hc := h.blk.cell
        have hpI : (ps.length : Int) ≤ 6 := by omega
        have hklI : (kq : Int) < ps.length := by omega
        have hbD : ∀ k, Below w.heap.size w ((w.alloc (.cells #[.int .i64 kind, .int .i64 n, .string s, .bool false, .bool false, .bool false, .slice ao m c, .int .i64 en, .int .i64 ce, .int .i64 l1, .int .i64 l2, .int .i64 l3, .int .i64 l4, .int .i64 fu] 32)).drewN k) := fun k => below_drawn hb0 k
        have HBD := hide hbD
        have hk : kind = 3 ∨ kind = 4 := by omega
        have hps' : ¬ ((ps.length : Int) = 0) := by omega
        clear hk1 hk2 hk34 hk1' hk2' hkq
        rcases hk with rfl | rfl
        · have HLI : Hid (∀ k, Calls Tryz.prog 11 #[.pointer (some ⟨bw, 0, none⟩), .pointer (some ⟨q, 0, none⟩)] ((w.alloc (.cells #[.int .i64 3, .int .i64 n, .string s, .bool false, .bool false, .bool false, .slice ao m c, .int .i64 en, .int .i64 ce, .int .i64 l1, .int .i64 l2, .int .i64 l3, .int .i64 l4, .int .i64 fu] 32)).drewN k) fun e w' => e = .returned (.bool true) ∧ StepPost P B w bw hs w') := fun k => by
            refine (listed_any P B bw ps hs _ vh q _ (P.env henv (hbD k)) ((hp.law (LawStill.ofBelow (hbD k))) q (List.mem_of_getElem? hq)) (h.below (hbD k)) (hh.law (LawStill.ofBelow (hbD k))) (by omega)).mono ?_
            rintro e w' ⟨rfl, hs', vh', a1, a2, a3, a4, a5⟩
            exact ⟨rfl, ps, hs', _, vh', a1, (hp.law (LawStill.ofBelow (hbD k))).law a4, a2, by omega, (LawStill.ofBelow (hbD k)).trans a4, ((hbD k).mono hBw).trans a5⟩
          clear hOp hb0 hlaw0 henv0 hl0 hh0 hp0 h hh hp henv hPl hq hbD
          go_enter Tryz.func6, Tryz.ntmps6
          go_wp2_with fail
          go_quiet ((go_at_call 10; exact Calls.quiet_of_same (unhide HPK _)))
          go_wp2_with fail
          refine (unhide HLI _).mono ?_
          rintro e w1 ⟨rfl, hpost⟩
          have HPO := hide hpost
          clear hpost
          go_wp2_with fail
          go_ret
          exact ⟨⟨true, rfl, fun _ => rfl⟩, unhide HPO⟩
        · have HRA : Hid (∀ k, Calls Tryz.prog 12 #[.pointer (some ⟨bw, 0, none⟩), .pointer (some ⟨q, 0, none⟩), .agg #[.int .i64 4, .int .i64 n, .string s, .bool false, .bool false, .bool false, .slice ao m c, .int .i64 en, .int .i64 ce, .int .i64 l1, .int .i64 l2, .int .i64 l3, .int .i64 l4, .int .i64 fu]] ((w.alloc (.cells #[.int .i64 4, .int .i64 n, .string s, .bool false, .bool false, .bool false, .slice ao m c, .int .i64 en, .int .i64 ce, .int .i64 l1, .int .i64 l2, .int .i64 l3, .int .i64 l4, .int .i64 fu] 32)).drewN k) fun e w' => (∃ r, e = .returned (.bool r)) ∧ StepPost P B w bw hs w') := fun k => by
            refine (ran_any P B bw ps hs _ vh q _ (P.env henv (hbD k)) ((hp.law (LawStill.ofBelow (hbD k))) q (List.mem_of_getElem? hq)) (h.below (hbD k)) (hh.law (LawStill.ofBelow (hbD k))) (by omega) 4 n s false false false (.slice ao m c) en ce l1 l2 l3 l4 fu).mono ?_
            rintro e w' ⟨hr, hs', vh', a1, a2, a3, a4, a5⟩
            exact ⟨hr, ps, hs', _, vh', a1, (hp.law (LawStill.ofBelow (hbD k))).law a4, a2, by omega, (LawStill.ofBelow (hbD k)).trans a4, ((hbD k).mono hBw).trans a5⟩
          clear hOp hb0 hlaw0 henv0 hl0 hh0 hp0 h hh hp henv hPl hq hbD
          go_enter Tryz.func6, Tryz.ntmps6
          go_wp2_with fail
          go_quiet ((go_at_call 10; exact Calls.quiet_of_same (unhide HPK _)))
          go_wp2_with fail
          refine (unhide HRA _).mono ?_
          rintro e w1 ⟨⟨r, rfl⟩, hpost⟩
          have HPO := hide hpost
          clear hpost
          go_wp2_with fail
          go_ret
          exact ⟨⟨r, rfl, fun e => absurd rfl e⟩, unhide HPO⟩

end Go.Proofs.YtbcjfiaacenhgaaGreatDoor

/- The statements' UpTo. -/
namespace Go.Proofs.YtbcjfiaacenhgaaGreatDoor
open Go Go.RowKit

def OpOk (cs : Array Value) : Prop := ∃ kind n s b0 b1 b2 ao m c en ce l1 l2 l3 l4 fu, cs = opC kind n s b0 b1 b2 (.slice ao m c) en ce l1 l2 l3 l4 fu ∧ inI n
/-- A script in memory. -/
def ScriptIs (w : World) (v : Value) (n : Nat) : Prop :=
  ∃ ao cap, v = .slice ao n cap ∧ ∀ k, k < n → ∃ g off cs, ao = some ⟨g, off, none⟩ ∧ g < w.heap.size ∧ OpOk cs ∧ ∀ i, i < 14 → w.cell? ⟨g, off + k * 14 + i, none⟩ = cs[i]?
theorem ScriptIs.below {w w' : World} {v : Value} {n : Nat} (h : ScriptIs w v n) (hb : Below w.heap.size w w') : ScriptIs w' v n := by
  obtain ⟨ao, cap, rfl, h⟩ := h
  refine ⟨ao, cap, rfl, fun k hk => ?_⟩
  obtain ⟨g, off, cs, h1, h2, h3, h4⟩ := h k hk
  refine ⟨g, off, cs, h1, by have := hb.size; omega, h3, fun i hi => ?_⟩
  rw [hb.cell (by simpa using h2)]
  exact h4 i hi

theorem lw_new (w : World) : Lw w.heap.size (w.alloc (.cells #[.slice none 0 0, .slice none 0 0] 39)) w.heap.size [] [] (.slice none 0 0) (.slice none 0 0) := by
  refine ⟨Blk.new _ _ _, Nat.le_refl _, ⟨?_, ?_, ?_, rfl⟩, by simp⟩
  · intro i v t hv ht
    match i, (List.getElem?_eq_some_iff.1 hv).1 with
    | 0, _ => simp [ptrs] at hv ht; subst hv ht; exact World.ownsRow_nil _ _ _ _
    | 1, _ => simp [ptrs] at hv ht; subst hv ht; exact World.ownsRow_nil _ _ _ _
  · intro i j v v' k hv hv' hk
    match i, (List.getElem?_eq_some_iff.1 hv).1 with
    | 0, _ => simp at hv; subst hv; simp [Value.ownBlock] at hk
    | 1, _ => simp at hv; subst hv; simp [Value.ownBlock] at hk
  · intro i v b hv _ e
    match i, (List.getElem?_eq_some_iff.1 hv).1 with
    | 0, _ => simp at hv; subst hv; simp [Value.ownBlock] at e
    | 1, _ => simp at hv; subst hv; simp [Value.ownBlock] at e

/-- What holds ahead of step k. -/
def UpRel (P : Prg) (w : World) (k : Nat) (wr : World) : Prop :=
  ∃ ps hs vp vh, Lw w.heap.size wr w.heap.size ps hs vp vh ∧ PlayersOk P wr ps ∧ HoldsOk wr hs ∧ hs.length ≤ 8 * k ∧ Below w.heap.size w wr
theorem UpRel.longer {P : Prg} {w wr w' : World} {k : Nat} (h : UpRel P w k wr) (hb : Below wr.heap.size wr w') : UpRel P w (k + 1) w' := by
  obtain ⟨ps, hs, vp, vh, h1, h2, h3, h4, h5⟩ := h
  have hl := LawStill.ofBelow hb
  exact ⟨ps, hs, vp, vh, h1.below hb, h2.law hl, h3.law hl, by omega, h5.trans (hb.mono h5.size)⟩

set_option maxRecDepth 100000 in
set_option maxHeartbeats 8000000 in
theorem upto_any (P : Prg) (v : Value) (n : Nat) (w : World) (henv : P.Env w) (hsc : ScriptIs w v n) (hn : n ≤ 1500000000000) :
    Calls Tryz.prog 5 #[v, .int .i64 1, .int .i64 3, .bool false, .bool false] w fun e w' => e = .returned (.int .i64 (-1)) ∧ Below w.heap.size w w' := by
  have hrel0 : UpRel P w 0 (w.alloc (.cells #[.slice none 0 0, .slice none 0 0] 39)) := ⟨[], [], _, _, lw_new w, fun q hq => by simp at hq, fun q hq => by simp at hq, by simp, (Below.refl _ _).alloc (Nat.le_refl _) _⟩
  obtain ⟨ao, cap, rfl, hops⟩ := hsc
  have HOPS := hide hops
  have HREL := hide hrel0
  have HENV := hide henv
  have hnI : (n : Int) ≤ 1500000000000 := by omega
  clear hops hrel0 henv
  go_enter Tryz.func5, Tryz.ntmps5
  go_wp2_with fail
  go_loopw [12] (fun i wr => ∃ k : Nat, i = .int .i64 k ∧ k ≤ n ∧ UpRel P w k wr) (fun i _ => n - (intOf i).toNat)
  case atStart => exact ⟨0, rfl, Nat.zero_le _, unhide HREL⟩
  case round =>
    clear HREL
    obtain ⟨k, rfl, hk, hrel⟩ := hrel
    by_cases hlt : k < n
    · obtain ⟨g, off, cs, rfl, hg, ⟨kind, on, os, b0, b1, b2, oa, om, oc, en, ce, l1, l2, l3, l4, fu, rfl, hon⟩, hcells⟩ := unhide HOPS k hlt
      have hbw : Below w.heap.size w wr := by obtain ⟨_, _, _, _, _, _, _, _, h5⟩ := hrel; exact h5
      have hcell : ∀ i, i < 14 → wr.cell? ⟨g, off + k * 14 + i, none⟩ = (opC kind on os b0 b1 b2 (.slice oa om oc) en ce l1 l2 l3 l4 fu)[i]? := fun i hi => by
        rw [hbw.cell (by simpa using hg)]; exact hcells i hi
      have c0 := hcell 0 (by omega)
      have c1 := hcell 1 (by omega)
      have c2 := hcell 2 (by omega)
      have c3 := hcell 3 (by omega)
      have c4 := hcell 4 (by omega)
      have c5 := hcell 5 (by omega)
      have c6 := hcell 6 (by omega)
      have c7 := hcell 7 (by omega)
      have c8 := hcell 8 (by omega)
      have c9 := hcell 9 (by omega)
      have c10 := hcell 10 (by omega)
      have c11 := hcell 11 (by omega)
      have c12 := hcell 12 (by omega)
      have c13 := hcell 13 (by omega)
      simp only [opC, Nat.add_zero, List.getElem?_toArray, List.getElem?_cons_zero, List.getElem?_cons_succ] at c0 c1 c2 c3 c4 c5 c6 c7 c8 c9 c10 c11 c12 c13
      have hltI : (k : Int) < n := by omega
      have hgw : g < wr.heap.size := by have := hbw.size; omega
      have HUP := hide hrel
      clear hcell hcells hbw
      have hbN : Below wr.heap.size wr (wr.alloc (.cells (opC kind on os false false false (.slice oa om oc) en ce l1 l2 l3 l4 fu) 32)) := (Below.refl _ _).alloc (Nat.le_refl _) _
      have hN := Blk.new wr (opC kind on os false false false (.slice oa om oc) en ce l1 l2 l3 l4 fu) 32
      by_cases hk2 : kind = 2
      · subst hk2
        have HNX := hide (hrel.longer hbN)
        unfold opC at HNX
        clear hN hbN hrel
        go_wp2_with fail
        go_roundw
        case rel => exact ⟨k + 1, by go_num, by omega, unhide HNX⟩
        case measure => simp [intOf]; omega
      · obtain ⟨ps, hs, vp, vh, hl, hp, hh, hlen, hbw⟩ := hrel
        have hlawN := LawStill.ofBelow hbN
        have hbwN : Below w.heap.size w (wr.alloc (.cells (opC kind on os false false false (.slice oa om oc) en ce l1 l2 l3 l4 fu) 32)) := hbw.trans (hbN.mono hbw.size)
        have HST := hide (lstep_any P w.heap.size w.heap.size ps hs vp vh _ (P.env (unhide HENV) hbwN) (hl.below hbN) (hh.law hlawN) (hp.law hlawN) (by omega) kind on os oa om oc en ce l1 l2 l3 l4 fu hon hk2)
        have HN := hide hN
        have HBN := hide hbwN
        have hlN : wr.heap.size < (wr.alloc (.cells (opC kind on os false false false (.slice oa om oc) en ce l1 l2 l3 l4 fu) 32)).heap.size := by simp
        unfold opC at HST HN HBN
        unfold opV at HST
        clear hN hbN hlawN hbwN hl hp hh hbw hlN
        go_wp2_with fail
        refine (unhide HST).mono ?_
        rintro e w2 ⟨⟨r, rfl, hr⟩, ps', hs', vp', vh', hl2, hp2, hh2, hlen2, hlaw2, hb2⟩
        have hN2 := hlaw2.blk (unhide HN)
        have hcN := hN2.cell
        have HLK := hide (looks_any w.heap.size w.heap.size ps' hs' vp' vh' w2 hl2 hh2 (by omega))
        have HNX : Hid (UpRel P w (k + 1) w2) := ⟨ps', hs', vp', vh', hl2, hp2, hh2, by omega, (unhide HBN).trans hb2⟩
        clear hl2 hp2 hh2 hlaw2 hb2 hN2 HST c0 c1 c2 c3 c4 c5 c6 c7 c8 c9 c10 c11 c12 c13
        go_wp2_with fail
        refine (unhide HLK).mono ?_
        rintro e w3 ⟨rfl, hw⟩
        obtain rfl := hw.symm
        clear hw HLK
        by_cases hk4 : kind = 4
        · subst hk4
          clear hr
          cases r
          all_goals
            go_wp2_with fail
            go_roundw
            case rel => exact ⟨k + 1, by go_num, by omega, unhide HNX⟩
            case measure => simp [intOf]; omega
        · obtain rfl := hr hk4
          clear hr
          go_wp2_with fail
          all_goals
            go_roundw
            case rel => exact ⟨k + 1, by go_num, by omega, unhide HNX⟩
            case measure => simp [intOf]; omega
    · have hkn : k = n := by omega
      subst hkn
      obtain ⟨_, _, _, _, _, _, _, _, h5⟩ := hrel
      go_wp2_with fail
      go_ret
      exact ⟨rfl, h5⟩

end Go.Proofs.YtbcjfiaacenhgaaGreatDoor

