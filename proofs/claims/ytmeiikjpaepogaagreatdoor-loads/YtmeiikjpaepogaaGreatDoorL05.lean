/- The statements' example with what is loaded; Loads, given the program's contracts. -/
import Derived.Test.YtmeiikjpaepogaaGreatDoorL04
import Derived.Test.YtmeiikjpaepogaaGreatDoorK24
namespace Go.Proofs.YtmeiikjpaepogaaGreatDoor
open Go Go.RowKit

/-- A step, and its list. -/
def OpOkL (w : World) (cs : Array Value) : Prop := OpOk cs ∧ ∀ oa om oc, cs[6]? = some (.slice oa om oc) → ∃ l, om = List.length l ∧ InL w oa l ∧ (∀ x ∈ l, inI x.2) ∧ l.length ≤ 8796093021960
theorem OpOkL.below {w w' : World} {cs : Array Value} (h : OpOkL w cs) (hb : Below w.heap.size w w') : OpOkL w' cs := by
  refine ⟨h.1, fun oa om oc hc => ?_⟩
  obtain ⟨l, h1, h2, h3, h4⟩ := h.2 oa om oc hc
  exact ⟨l, h1, h2.below hb, h3, h4⟩
theorem exOp_okL {w : World} {b : Nat} (hb : Blk w b #[.int .i64 5, .int .i64 0] 65) (k : Nat) : OpOkL w (exOp b k) := by
  refine ⟨exOp_ok b k, fun oa om oc hc => ?_⟩
  have hnil : (none : Option Addr) = oa ∧ 0 = om ∧ 0 = oc → ∃ l, om = List.length l ∧ InL w oa l ∧ (∀ x ∈ l, inI x.2) ∧ l.length ≤ 8796093021960 := by
    rintro ⟨rfl, rfl, rfl⟩
    exact ⟨[], rfl, Or.inl rfl, fun x hx => by simp at hx, by simp⟩
  unfold exOp at hc
  split at hc
  all_goals simp only [opC, List.getElem?_toArray, List.getElem?_cons_succ, List.getElem?_cons_zero, Option.some.injEq, Value.slice.injEq] at hc
  all_goals first
    | exact hnil hc
    | (obtain ⟨rfl, rfl, rfl⟩ := hc
       refine ⟨[(5, 0)], rfl, Or.inr ⟨b, 0, rfl, hb.lt, fun j u hj => ?_⟩, fun x hx => ?_, by simp⟩
       · rw [Nat.zero_add, hb.cell]
         have e : instrCells [(5, 0)] = [.int .i64 5, .int .i64 0] := rfl
         rw [e] at hj
         simpa using hj
       · simp at hx
         subst hx
         exact inI_zero)
theorem loads_of_row {w : World} {B : Nat} {v : Value} {xs : List (Array Value)} (h : w.ownsRow B 63 14 v xs.length (xs.flatMap Array.toList)) (hx : ∀ cs ∈ xs, OpOkL w cs) : LoadsAs prg3 w v xs.length := by
  intro k g off cap on os b0 b1 b2 oa om oc en ce l1 l2 l3 l4 fu hk hv hcells B' bw ps hs vp vh W hW _ hL hH hP hlen
  obtain ⟨g0, cap0, hv0, _, _⟩ := h.form (by omega)
  rw [hv0] at hv h
  simp only [Value.slice.injEq, Option.some.injEq, Addr.mk.injEq, and_true, true_and] at hv
  obtain ⟨⟨rfl, rfl⟩, rfl⟩ := hv
  obtain ⟨cs, hcs⟩ : ∃ cs, xs[k]? = some cs := ⟨_, List.getElem?_eq_getElem hk⟩
  have hc := own_cell h (k * 14 + 6) (by omega)
  rw [flat14 xs (fun cs hcs => (hx cs hcs).1.size) k cs hcs 6 (by omega)] at hc
  have h6 := hcells 6 (by decide)
  rw [Nat.zero_add, hc] at h6
  obtain ⟨l, rfl, hin, hi, hll⟩ := (hx cs (List.mem_of_getElem? hcs)).2 oa om oc h6
  exact loaded_any B' bw ps hs vp vh W hL hH hP hlen on os oa oc l en ce l1 l2 l3 l4 fu (hin.below hW) hi hll
theorem LoadsAs.below {P : Prg} {w w' : World} {v : Value} {n : Nat} (h : LoadsAs P w v n) (hs : ∀ g off cap, v = .slice (some ⟨g, off, none⟩) n cap → 0 < n → g < w.heap.size) (hb : Below w.heap.size w w') : LoadsAs P w' v n := by
  intro k g off cap on os b0 b1 b2 oa om oc en ce l1 l2 l3 l4 fu hk hv hcells B bw ps hs' vp vh W hW
  have hg := hs g off cap hv (by omega)
  exact h k g off cap on os b0 b1 b2 oa om oc en ce l1 l2 l3 l4 fu hk hv (fun i hi => by rw [← hcells i hi, hb.cell (by simpa using hg)]) B bw ps hs' vp vh W (hb.trans (hW.mono hb.size))

set_option maxRecDepth 100000 in
set_option maxHeartbeats 8000000 in
theorem exampleL_any (hRA : RunsAs prg3) (last : Int) (h2l : 2 ≤ last) (w : World) (henv : prg3.Env w) :
    Calls Tryz.prog 15 #[.int .i64 last, .bool true, .bool false] w fun e w' => e = .returned (.bool true) ∧ Below w.heap.size w w' := by
  go_enter Tryz.func15, Tryz.ntmps15
  go_upto_region 4 with fail
  go_cut [10] from 13 to 67 (fun s10 wc => ∃ b, s10 = .slice (some ⟨b, 0, none⟩) 9 9 ∧ b < wc.heap.size ∧ (∀ k, k < 9 → ∃ cs, OpOkL wc cs ∧ ∀ i, i < 14 → wc.cell? ⟨b, k * 14 + i, none⟩ = cs[i]?) ∧ Below w.heap.size w wc)
  case first =>
    go_wp2_with fail
    go_meet
    refine ⟨w.heap.size + 1 + 1 + 1, rfl, by simp, ?_, ?_⟩
    · intro k hk
      refine ⟨exOp (w.heap.size + 1 + 1) k, exOp_okL (by (repeat (first | with_reducible refine Blk.drew ?_ | with_reducible refine Blk.drewN ?_ _ | (with_reducible refine blk_newAt _ _ ?_; (first | omega | ((repeat (first | rw [World.size_up] | rw [World.size_dr] | rw [World.size_drN])) <;> omega))) | with_reducible refine Blk.alloc ?_ _)); (first | done | with_reducible assumption)) _, fun i hi => ?_⟩
      rw [World.cell?_alloc_at _ _ _ _ (by simp)]
      have hk' : k = 0 ∨ k = 1 ∨ k = 2 ∨ k = 3 ∨ k = 4 ∨ k = 5 ∨ k = 6 ∨ k = 7 ∨ k = 8 := by omega
      have hi' : i = 0 ∨ i = 1 ∨ i = 2 ∨ i = 3 ∨ i = 4 ∨ i = 5 ∨ i = 6 ∨ i = 7 ∨ i = 8 ∨ i = 9 ∨ i = 10 ∨ i = 11 ∨ i = 12 ∨ i = 13 := by omega
      clear hk hi
      rcases hk' with rfl | rfl | rfl | rfl | rfl | rfl | rfl | rfl | rfl <;> rcases hi' with rfl | rfl | rfl | rfl | rfl | rfl | rfl | rfl | rfl | rfl | rfl | rfl | rfl | rfl <;> rfl
    · exact ((((Below.refl _ _).alloc (Nat.le_refl _) _).alloc (by simp) _).alloc (by simp; omega) _).alloc (by simp; omega) _
  case rest =>
    obtain ⟨b, rfl, hbl, hcs, hbw⟩ := hcut
    obtain ⟨iO, hiO, hzO0, hzO1, hzO2⟩ := info_parts Tryz.infoOp
    have HCS := V hcs
    have HBW := V hbw
    have HENV := V henv
    clear hcs hbw henv
    obtain ⟨wo, rfl⟩ : ∃ wo : World, wo = wc := ⟨_, rfl⟩
    go_wp2_with fail
    go_loopw [11, 12] (fun v i wr => ∃ (k : Nat) (xs : List (Array Value)), i = .int .i64 k ∧ k ≤ 9 ∧ xs.length ≤ k ∧ (∀ cs ∈ xs, OpOkL wo cs) ∧ wr.ownsRow wo.heap.size 63 14 v xs.length (xs.flatMap Array.toList) ∧ Below wo.heap.size wo wr) (fun _ i _ => 9 - (intOf i).toNat)
    case atStart => exact ⟨0, [], rfl, by omega, by simp, by simp, World.ownsRow_nil _ _ _ _, Below.refl _ _⟩
    case round =>
      obtain ⟨k, xs, rfl, hk, hxl, hxo, hrow, hbr⟩ := hrel
      obtain ⟨av, cv, hv⟩ := own_shape hrow
      subst hv
      have HXO := V hxo
      have HROW := V hrow
      have HBR := V hbr
      clear hxo
      by_cases hlt : k < 9
      · obtain ⟨cs, ⟨⟨kind, on, os, b0, b1, b2, oa, om, oc, en, ce, l1, l2, l3, l4, fu, rfl, hon⟩, hlst⟩, hcells⟩ := U HCS k hlt
        have HLST := V hlst
        clear hlst
        have hcell : ∀ i, i < 14 → wr.cell? ⟨b, k * 14 + i, none⟩ = (opC kind on os b0 b1 b2 (.slice oa om oc) en ce l1 l2 l3 l4 fu)[i]? := fun i hi => by
          rw [hbr.cell (by simpa using hbl)]; exact hcells i hi
        have c0 := hcell 0 (by omega)
        have c1 := hcell 1 (by omega)
        have c2 := hcell 2 (by omega)
        have c3 := hcell 3 (by omega)
        have c4 := hcell 4 (by omega)
        have c5 := hcell 5 (by omega)
        have c6 := hcell 6 (by omega)
        have c7 := hcell 7 (by omega)
        have c8 := hcell 8 (by omega)
        have c9 := hcell 9 (by omega)
        have c10 := hcell 10 (by omega)
        have c11 := hcell 11 (by omega)
        have c12 := hcell 12 (by omega)
        have c13 := hcell 13 (by omega)
        simp only [opC, Nat.add_zero, List.getElem?_toArray, List.getElem?_cons_zero, List.getElem?_cons_succ] at c0 c1 c2 c3 c4 c5 c6 c7 c8 c9 c10 c11 c12 c13
        have hltI : (k : Int) < 9 := by omega
        have hbw' : b < wr.heap.size := by have := hbr.size; omega
        by_cases hk3 : kind ≤ last
        · have HW := V (ownsRow_alloc hrow (.cells (opC kind on os b0 b1 b2 (.slice oa om oc) en ce l1 l2 l3 l4 fu) 63))
          have hBs : wo.heap.size ≤ (wr.alloc (.cells (opC kind on os b0 b1 b2 (.slice oa om oc) en ce l1 l2 l3 l4 fu) 63)).heap.size := by have := hbr.size; simp; omega
          have HBs := V hBs
          have HNW := V (Blk.new wr (opC kind on os b0 b1 b2 (.slice oa om oc) en ce l1 l2 l3 l4 fu) 63)
          have HOK : Hid (OpOkL wo (opC kind on os b0 b1 b2 (.slice oa om oc) en ce l1 l2 l3 l4 fu)) := ⟨⟨_, _, _, _, _, _, _, _, _, _, _, _, _, _, _, _, rfl, hon⟩, U HLST⟩
          unfold opC at HW HBs HNW
          clear hcells hcell hrow hbr hBs
          go_wp2_with (at_builtin; refine wpList_append_lies _ rfl (.tmp 55) (.tmp 60) 22 rfl wo.heap.size 63 iO _ 14 120 Tryz.underlying22 hiO hzO0 hzO1 hzO2 rfl (by decide) (.slice av xs.length cv) xs.length (xs.flatMap Array.toList) (by simp [Act.eval]) (U HW) ⟨wr.heap.size, 0, none⟩ 1 1 [.int .i64 kind, .int .i64 on, .string os, .bool b0, .bool b1, .bool b2, .slice oa om oc, .int .i64 en, .int .i64 ce, .int .i64 l1, .int .i64 l2, .int .i64 l3, .int .i64 l4, .int .i64 fu] (by simp [Act.eval]) rfl (World.news_of_block (U HNW)) (by simp [Value.oneCell']) (by omega) (by unfold maxLen; omega) (by omega) (U HBs) _ rfl ?_; intro g cap w5 hown hgrow hat hlt1; have HO := V hown; have HG := V hgrow; clear hown hgrow hat)
          go_roundw
          case rel =>
            refine ⟨k + 1, xs ++ [opC kind on os b0 b1 b2 (.slice oa om oc) en ce l1 l2 l3 l4 fu], by go_num, by omega, by simp; omega, ?_, ?_, ?_⟩
            · intro cs hcs
              rcases List.mem_append.1 hcs with h1 | h1
              · exact U HXO cs h1
              · simp at h1; subst h1; exact U HOK
            · have ho := U HO
              rw [List.flatMap_append, List.length_append]
              exact ho
            · exact ((U HBR).trans (((Below.refl _ _).alloc (Nat.le_refl _) _).mono (U HBR).size)).grown (U HG) (U HBs) (fun j hj => (ownsRow_lt (U HROW) hj).2)
          case measure => simp [intOf]; omega
        · have hk3' : last < kind := by omega
          have hk2 : ¬ kind = 2 := by omega
          clear hcells hcell hrow hbr
          go_wp2_with fail
          go_roundw
          case rel => exact ⟨k + 1, xs, by go_num, by omega, by omega, U HXO, U HROW, U HBR⟩
          case measure => simp [intOf]; omega
      · have hkn : k = 9 := by omega
        subst hkn
        have hbw2 : Below w.heap.size w wr := (U HBW).trans (hbr.mono (U HBW).size)
        have hxw : ∀ cs ∈ xs, OpOkL wr cs := fun cs hcs => (U HXO cs hcs).below hbr
        have HUP := V (uptoS_any prg3 hRA 1 last true _ _ wr (prg3.env (U HENV) hbw2) (script_of_row hrow (fun cs hcs => (hxw cs hcs).1)) (by omega) (fun _ => loads_of_row hrow hxw))
        have HB2 := V hbw2
        clear hrow hbr hbw2 hxw
        go_wp2_with fail
        refine (U HUP).mono ?_
        rintro e w3 ⟨rfl, hb3⟩
        have HB3 := V hb3
        clear hb3 HUP
        go_wp2_with fail
        go_ret
        exact ⟨rfl, (U HB2).trans ((U HB3).mono (U HB2).size)⟩



theorem script_low {w : World} {v : Value} {n : Nat} (h : ScriptIs w v n) : ∀ g off cap, v = .slice (some ⟨g, off, none⟩) n cap → 0 < n → g < w.heap.size := by
  intro g off cap hv hn
  obtain ⟨ao, cap', rfl, h⟩ := h
  obtain ⟨g', off', cs, h1, h2, _⟩ := h 0 hn
  simp only [Value.slice.injEq] at hv
  obtain ⟨rfl, _, _⟩ := hv
  simp only [Option.some.injEq, Addr.mk.injEq, and_true] at h1
  omega

set_option maxRecDepth 100000 in
set_option maxHeartbeats 4000000 in
theorem loads_any (hRA : RunsAs prg3) (v : Value) (n : Nat) (w : World) (henv : prg3.Env w) (hsc : ScriptIs w v n) (hn : n ≤ 1500000000000) (hld : LoadsAs prg3 w v n) (hsb : ∀ g off cap, v = .slice (some ⟨g, off, none⟩) n cap → 0 < n → g < w.heap.size) :
    Calls Tryz.prog 5 #[v] w fun e w' => e = .returned (.bool true) ∧ Below w.heap.size w w' := by
  have HE := V (exampleL_any hRA 4 (by omega) w henv)
  have HU : Hid (∀ W, Below w.heap.size w W → Calls Tryz.prog 16 #[v, .int .i64 2, .int .i64 4, .bool true, .bool false] W fun e w' => e = .returned (.int .i64 (-1)) ∧ Below W.heap.size W w') := fun W hW => uptoS_any prg3 hRA 2 4 true v n W (prg3.env henv hW) (hsc.below hW) hn (fun _ => hld.below hsb hW)
  obtain ⟨ao, cap, rfl, _⟩ := hsc
  clear henv hld hsb
  go_enter Tryz.func5, Tryz.ntmps5
  go_wp2_with fail
  refine (U HE).mono ?_
  rintro e w1 ⟨rfl, hb1⟩
  have HB1 := V hb1
  clear hb1 HE
  go_wp2_with fail
  refine (U HU w1 (U HB1)).mono ?_
  rintro e w2 ⟨rfl, hb2⟩
  have HB2 := V hb2
  clear hb2
  go_wp2_with fail
  go_ret
  exact ⟨rfl, (U HB1).trans ((U HB2).mono (U HB1).size)⟩
end Go.Proofs.YtmeiikjpaepogaaGreatDoor
