/- The statements' UpTo, where the program runs as the reference does. -/
import Derived.Test.YtmeiikjpaepogaaGreatDoorG42
import Derived.Test.YtmeiikjpaepogaaGreatDoorG21
import Derived.Test.YtmeiikjpaepogaaGreatDoorG41
namespace Go.Proofs.YtmeiikjpaepogaaGreatDoor
open Go Go.RowKit

/-- What a step that loads must come to, in whatever world it is done. -/
def LoadsAs (P : Prg) (w : World) (v : Value) (n : Nat) : Prop :=
  ∀ (k g off cap : Nat) (on : Int) (os : ByteArray) (b0 b1 b2 : Bool) (oa : Option Addr) (om oc : Nat) (en ce l1 l2 l3 l4 fu : Int), k < n → v = .slice (some ⟨g, off, none⟩) n cap →
    (∀ i, i < 14 → w.cell? ⟨g, off + k * 14 + i, none⟩ = (opC 2 on os b0 b1 b2 (.slice oa om oc) en ce l1 l2 l3 l4 fu)[i]?) →
    ∀ (B bw : Nat) (ps hs : List Nat) (vp vh : Value) (W : World), Below w.heap.size w W → P.Env W → Lw B W bw ps hs vp vh → HoldsOk W hs → PlayersOk P W ps → hs.length + 8 ≤ 17592186044416 →
    Calls Tryz.prog 42 #[.pointer (some ⟨bw, 0, none⟩), opV 2 on os false false false (.slice oa om oc) en ce l1 l2 l3 l4 fu] W (fun e w' => e = .returned (.bool true) ∧ StepPost P B W bw hs w')

set_option maxRecDepth 100000 in
set_option maxHeartbeats 8000000 in
theorem uptoS_any (P : Prg) (hRA : RunsAs P) (least last : Int) (loads : Bool) (v : Value) (n : Nat) (w : World) (henv : P.Env w) (hsc : ScriptIs w v n) (hn : n ≤ 1500000000000) (hld : loads = true → LoadsAs P w v n) :
    Calls Tryz.prog 16 #[v, .int .i64 least, .int .i64 last, .bool loads, .bool false] w fun e w' => e = .returned (.int .i64 (-1)) ∧ Below w.heap.size w w' := by
  have hrel0 : UpRel P w 0 (w.alloc (.cells #[.slice none 0 0, .slice none 0 0] 70)) := ⟨[], [], _, _, lw_new w, fun q hq => by simp at hq, fun q hq => by simp at hq, by simp, (Below.refl _ _).alloc (Nat.le_refl _) _⟩
  obtain ⟨ao, cap, rfl, hops⟩ := hsc
  have HOPS := hide hops
  have HLD := hide hld
  have HREL := hide hrel0
  have HENV := hide henv
  have hnI : (n : Int) ≤ 1500000000000 := by omega
  clear hops hrel0 henv hld
  go_enter Tryz.func16, Tryz.ntmps16
  go_wp2_with fail
  go_loopw [12] (fun i wr => ∃ k : Nat, i = .int .i64 k ∧ k ≤ n ∧ UpRel P w k wr) (fun i _ => n - (intOf i).toNat)
  case atStart => exact ⟨0, rfl, Nat.zero_le _, unhide HREL⟩
  case round =>
    clear HREL
    obtain ⟨k, rfl, hk, hrel⟩ := hrel
    by_cases hlt : k < n
    · obtain ⟨g, off, cs, rfl, hg, ⟨kind, on, os, b0, b1, b2, oa, om, oc, en, ce, l1, l2, l3, l4, fu, rfl, hon⟩, hcells⟩ := unhide HOPS k hlt
      have hbw : Below w.heap.size w wr := by obtain ⟨_, _, _, _, _, _, _, _, h5⟩ := hrel; exact h5
      have hcell : ∀ i, i < 14 → wr.cell? ⟨g, off + k * 14 + i, none⟩ = (opC kind on os b0 b1 b2 (.slice oa om oc) en ce l1 l2 l3 l4 fu)[i]? := fun i hi => by
        rw [hbw.cell (by simpa using hg)]; exact hcells i hi
      have c0 := hcell 0 (by omega)
      have c1 := hcell 1 (by omega)
      have c2 := hcell 2 (by omega)
      have c3 := hcell 3 (by omega)
      have c4 := hcell 4 (by omega)
      have c5 := hcell 5 (by omega)
      have c6 := hcell 6 (by omega)
      have c7 := hcell 7 (by omega)
      have c8 := hcell 8 (by omega)
      have c9 := hcell 9 (by omega)
      have c10 := hcell 10 (by omega)
      have c11 := hcell 11 (by omega)
      have c12 := hcell 12 (by omega)
      have c13 := hcell 13 (by omega)
      simp only [opC, Nat.add_zero, List.getElem?_toArray, List.getElem?_cons_zero, List.getElem?_cons_succ] at c0 c1 c2 c3 c4 c5 c6 c7 c8 c9 c10 c11 c12 c13
      have hltI : (k : Int) < n := by omega
      have hgw : g < wr.heap.size := by have := hbw.size; omega
      have HUP := hide hrel
      have HCELLS := hide hcells
      clear hcell hcells hbw
      have hbN : Below wr.heap.size wr (wr.alloc (.cells (opC kind on os false false false (.slice oa om oc) en ce l1 l2 l3 l4 fu) 63)) := (Below.refl _ _).alloc (Nat.le_refl _) _
      have hN := Blk.new wr (opC kind on os false false false (.slice oa om oc) en ce l1 l2 l3 l4 fu) 63
      by_cases hk2 : kind = 2 ∧ loads = false
      · obtain ⟨hk2, hlo⟩ := hk2
        subst hk2 hlo
        have HNX := hide (hrel.longer hbN)
        unfold opC at HNX
        clear hN hbN hrel
        go_wp2_with fail
        go_roundw
        case rel => exact ⟨k + 1, by go_num, by omega, unhide HNX⟩
        case measure => simp [intOf]; omega
      · obtain ⟨ps, hs, vp, vh, hl, hp, hh, hlen, hbw⟩ := hrel
        have hlawN := LawStill.ofBelow hbN
        have hbwN : Below w.heap.size w (wr.alloc (.cells (opC kind on os false false false (.slice oa om oc) en ce l1 l2 l3 l4 fu) 63)) := hbw.trans (hbN.mono hbw.size)
        have hload : kind = 2 → Calls Tryz.prog 42 #[.pointer (some ⟨w.heap.size, 0, none⟩), opV kind on os false false false (.slice oa om oc) en ce l1 l2 l3 l4 fu] ((wr.alloc (.cells (opC kind on os false false false (.slice oa om oc) en ce l1 l2 l3 l4 fu) 63)).alloc (.cells (opC kind on os false false false (.slice oa om oc) en ce l1 l2 l3 l4 fu) 63)) (fun e w' => e = .returned (.bool true) ∧ StepPost P w.heap.size ((wr.alloc (.cells (opC kind on os false false false (.slice oa om oc) en ce l1 l2 l3 l4 fu) 63)).alloc (.cells (opC kind on os false false false (.slice oa om oc) en ce l1 l2 l3 l4 fu) 63)) w.heap.size hs w') := by
          rintro rfl
          have hlo : loads = true := by
            cases loads
            · exact absurd ⟨rfl, rfl⟩ hk2
            · rfl
          have hbM : Below wr.heap.size wr ((wr.alloc (.cells (opC 2 on os false false false (.slice oa om oc) en ce l1 l2 l3 l4 fu) 63)).alloc (.cells (opC 2 on os false false false (.slice oa om oc) en ce l1 l2 l3 l4 fu) 63)) := hbN.alloc (by simp) _
          have hlawM := LawStill.ofBelow hbM
          have hbwM := hbw.trans (hbM.mono hbw.size)
          exact unhide HLD hlo k g off cap on os b0 b1 b2 oa om oc en ce l1 l2 l3 l4 fu hlt rfl (unhide HCELLS) _ _ ps hs vp vh _ hbwM (P.env (unhide HENV) hbwM) (hl.below hbM) (hh.law hlawM) (hp.law hlawM) (by omega)
        have HST := hide (lstepS_any P hRA w.heap.size w.heap.size ps hs vp vh _ (P.env (unhide HENV) hbwN) (hl.below hbN) (hh.law hlawN) (hp.law hlawN) (by omega) kind on os oa om oc en ce l1 l2 l3 l4 fu hon hload)
        have HN := hide hN
        have HBN := hide hbwN
        have hlN : wr.heap.size < (wr.alloc (.cells (opC kind on os false false false (.slice oa om oc) en ce l1 l2 l3 l4 fu) 63)).heap.size := by simp
        unfold opC at HST HN HBN
        unfold opV at HST
        clear hN hbN hlawN hbwN hl hp hh hbw hlN hload
        have hk2' : (kind == 2 && !loads) = false := by
          cases loads
          · have : ¬ kind = 2 := fun e => hk2 ⟨e, rfl⟩
            simpa using this
          · simp
        rcases Classical.em (kind = 2) with hke | hke
        · subst hke
          obtain rfl : loads = true := by
            cases loads
            · exact absurd ⟨rfl, rfl⟩ hk2
            · rfl
          go_wp2_with fail
          refine (unhide HST).mono ?_
          rintro e w2 ⟨rfl, ps', hs', vp', vh', hl2, hp2, hh2, hlen2, hlaw2, hb2⟩
          have hN2 := hlaw2.blk (unhide HN)
          have hcN := hN2.cell
          have HLK := hide (looks_any w.heap.size w.heap.size ps' hs' vp' vh' w2 hl2 hh2 (by omega))
          have HNX : Hid (UpRel P w (k + 1) w2) := ⟨ps', hs', vp', vh', hl2, hp2, hh2, by omega, (unhide HBN).trans hb2⟩
          clear hl2 hp2 hh2 hlaw2 hb2 hN2 HST c0 c1 c2 c3 c4 c5 c6 c7 c8 c9 c10 c11 c12 c13
          go_wp2_with fail
          refine (unhide HLK).mono ?_
          rintro e w3 ⟨rfl, hw⟩
          obtain rfl := hw.symm
          clear hw HLK
          go_wp2_with fail
          all_goals
            go_roundw
            case rel => exact ⟨k + 1, by go_num, by omega, unhide HNX⟩
            case measure => simp [intOf]; omega
        · go_wp2_with fail
          refine (unhide HST).mono ?_
          rintro e w2 ⟨rfl, ps', hs', vp', vh', hl2, hp2, hh2, hlen2, hlaw2, hb2⟩
          have hN2 := hlaw2.blk (unhide HN)
          have hcN := hN2.cell
          have HLK := hide (looks_any w.heap.size w.heap.size ps' hs' vp' vh' w2 hl2 hh2 (by omega))
          have HNX : Hid (UpRel P w (k + 1) w2) := ⟨ps', hs', vp', vh', hl2, hp2, hh2, by omega, (unhide HBN).trans hb2⟩
          clear hl2 hp2 hh2 hlaw2 hb2 hN2 HST c0 c1 c2 c3 c4 c5 c6 c7 c8 c9 c10 c11 c12 c13
          go_wp2_with fail
          refine (unhide HLK).mono ?_
          rintro e w3 ⟨rfl, hw⟩
          obtain rfl := hw.symm
          clear hw HLK
          go_wp2_with fail
          all_goals
            go_roundw
            case rel => exact ⟨k + 1, by go_num, by omega, unhide HNX⟩
            case measure => simp [intOf]; omega
    · have hkn : k = n := by omega
      subst hkn
      obtain ⟨_, _, _, _, _, _, _, _, h5⟩ := hrel
      go_wp2_with fail
      go_ret
      exact ⟨rfl, h5⟩

end Go.Proofs.YtmeiikjpaepogaaGreatDoor

/- The statements' example, where the program runs as the reference does. -/
namespace Go.Proofs.YtmeiikjpaepogaaGreatDoor
open Go Go.RowKit

set_option maxRecDepth 100000 in
set_option maxHeartbeats 8000000 in
theorem exampleS_any (P : Prg) (hRA : RunsAs P) (last : Int) (h2l : 2 ≤ last) (w : World) (henv : P.Env w) :
    Calls Tryz.prog 15 #[.int .i64 last, .bool false, .bool false] w fun e w' => e = .returned (.bool true) ∧ Below w.heap.size w w' := by
  go_enter Tryz.func15, Tryz.ntmps15
  go_upto_region 4 with fail
  go_cut [10] from 13 to 67 (fun s10 wc => ∃ b, s10 = .slice (some ⟨b, 0, none⟩) 9 9 ∧ b < wc.heap.size ∧ (∀ k, k < 9 → ∃ cs, OpOk cs ∧ ∀ i, i < 14 → wc.cell? ⟨b, k * 14 + i, none⟩ = cs[i]?) ∧ Below w.heap.size w wc)
  case first =>
    go_wp2_with fail
    go_meet
    refine ⟨w.heap.size + 1 + 1 + 1, rfl, by simp, ?_, ?_⟩
    · intro k hk
      refine ⟨exOp (w.heap.size + 1 + 1) k, exOp_ok _ _, fun i hi => ?_⟩
      rw [World.cell?_alloc_at _ _ _ _ (by simp)]
      match k, hk, i, hi with
      | 0, _, 0, _ => rfl
      | 0, _, 1, _ => rfl
      | 0, _, 2, _ => rfl
      | 0, _, 3, _ => rfl
      | 0, _, 4, _ => rfl
      | 0, _, 5, _ => rfl
      | 0, _, 6, _ => rfl
      | 0, _, 7, _ => rfl
      | 0, _, 8, _ => rfl
      | 0, _, 9, _ => rfl
      | 0, _, 10, _ => rfl
      | 0, _, 11, _ => rfl
      | 0, _, 12, _ => rfl
      | 0, _, 13, _ => rfl
      | 1, _, 0, _ => rfl
      | 1, _, 1, _ => rfl
      | 1, _, 2, _ => rfl
      | 1, _, 3, _ => rfl
      | 1, _, 4, _ => rfl
      | 1, _, 5, _ => rfl
      | 1, _, 6, _ => rfl
      | 1, _, 7, _ => rfl
      | 1, _, 8, _ => rfl
      | 1, _, 9, _ => rfl
      | 1, _, 10, _ => rfl
      | 1, _, 11, _ => rfl
      | 1, _, 12, _ => rfl
      | 1, _, 13, _ => rfl
      | 2, _, 0, _ => rfl
      | 2, _, 1, _ => rfl
      | 2, _, 2, _ => rfl
      | 2, _, 3, _ => rfl
      | 2, _, 4, _ => rfl
      | 2, _, 5, _ => rfl
      | 2, _, 6, _ => rfl
      | 2, _, 7, _ => rfl
      | 2, _, 8, _ => rfl
      | 2, _, 9, _ => rfl
      | 2, _, 10, _ => rfl
      | 2, _, 11, _ => rfl
      | 2, _, 12, _ => rfl
      | 2, _, 13, _ => rfl
      | 3, _, 0, _ => rfl
      | 3, _, 1, _ => rfl
      | 3, _, 2, _ => rfl
      | 3, _, 3, _ => rfl
      | 3, _, 4, _ => rfl
      | 3, _, 5, _ => rfl
      | 3, _, 6, _ => rfl
      | 3, _, 7, _ => rfl
      | 3, _, 8, _ => rfl
      | 3, _, 9, _ => rfl
      | 3, _, 10, _ => rfl
      | 3, _, 11, _ => rfl
      | 3, _, 12, _ => rfl
      | 3, _, 13, _ => rfl
      | 4, _, 0, _ => rfl
      | 4, _, 1, _ => rfl
      | 4, _, 2, _ => rfl
      | 4, _, 3, _ => rfl
      | 4, _, 4, _ => rfl
      | 4, _, 5, _ => rfl
      | 4, _, 6, _ => rfl
      | 4, _, 7, _ => rfl
      | 4, _, 8, _ => rfl
      | 4, _, 9, _ => rfl
      | 4, _, 10, _ => rfl
      | 4, _, 11, _ => rfl
      | 4, _, 12, _ => rfl
      | 4, _, 13, _ => rfl
      | 5, _, 0, _ => rfl
      | 5, _, 1, _ => rfl
      | 5, _, 2, _ => rfl
      | 5, _, 3, _ => rfl
      | 5, _, 4, _ => rfl
      | 5, _, 5, _ => rfl
      | 5, _, 6, _ => rfl
      | 5, _, 7, _ => rfl
      | 5, _, 8, _ => rfl
      | 5, _, 9, _ => rfl
      | 5, _, 10, _ => rfl
      | 5, _, 11, _ => rfl
      | 5, _, 12, _ => rfl
      | 5, _, 13, _ => rfl
      | 6, _, 0, _ => rfl
      | 6, _, 1, _ => rfl
      | 6, _, 2, _ => rfl
      | 6, _, 3, _ => rfl
      | 6, _, 4, _ => rfl
      | 6, _, 5, _ => rfl
      | 6, _, 6, _ => rfl
      | 6, _, 7, _ => rfl
      | 6, _, 8, _ => rfl
      | 6, _, 9, _ => rfl
      | 6, _, 10, _ => rfl
      | 6, _, 11, _ => rfl
      | 6, _, 12, _ => rfl
      | 6, _, 13, _ => rfl
      | 7, _, 0, _ => rfl
      | 7, _, 1, _ => rfl
      | 7, _, 2, _ => rfl
      | 7, _, 3, _ => rfl
      | 7, _, 4, _ => rfl
      | 7, _, 5, _ => rfl
      | 7, _, 6, _ => rfl
      | 7, _, 7, _ => rfl
      | 7, _, 8, _ => rfl
      | 7, _, 9, _ => rfl
      | 7, _, 10, _ => rfl
      | 7, _, 11, _ => rfl
      | 7, _, 12, _ => rfl
      | 7, _, 13, _ => rfl
      | 8, _, 0, _ => rfl
      | 8, _, 1, _ => rfl
      | 8, _, 2, _ => rfl
      | 8, _, 3, _ => rfl
      | 8, _, 4, _ => rfl
      | 8, _, 5, _ => rfl
      | 8, _, 6, _ => rfl
      | 8, _, 7, _ => rfl
      | 8, _, 8, _ => rfl
      | 8, _, 9, _ => rfl
      | 8, _, 10, _ => rfl
      | 8, _, 11, _ => rfl
      | 8, _, 12, _ => rfl
      | 8, _, 13, _ => rfl
    · exact ((((Below.refl _ _).alloc (Nat.le_refl _) _).alloc (by simp) _).alloc (by simp; omega) _).alloc (by simp; omega) _
  case rest =>
    obtain ⟨b, rfl, hbl, hcs, hbw⟩ := hcut
    obtain ⟨iO, hiO, hzO0, hzO1, hzO2⟩ := info_parts Tryz.infoOp
    have HCS := hide hcs
    have HBW := hide hbw
    have HENV := hide henv
    clear hcs hbw henv
    obtain ⟨wo, rfl⟩ : ∃ wo : World, wo = wc := ⟨_, rfl⟩
    go_wp2_with fail
    go_loopw [11, 12] (fun v i wr => ∃ (k : Nat) (xs : List (Array Value)), i = .int .i64 k ∧ k ≤ 9 ∧ xs.length ≤ k ∧ (∀ cs ∈ xs, OpOk cs) ∧ wr.ownsRow wo.heap.size 63 14 v xs.length (xs.flatMap Array.toList) ∧ Below wo.heap.size wo wr) (fun _ i _ => 9 - (intOf i).toNat)
    case atStart => exact ⟨0, [], rfl, by omega, by simp, by simp, World.ownsRow_nil _ _ _ _, Below.refl _ _⟩
    case round =>
      obtain ⟨k, xs, rfl, hk, hxl, hxo, hrow, hbr⟩ := hrel
      obtain ⟨av, cv, hv⟩ := own_shape hrow
      subst hv
      have HXO := hide hxo
      have HROW := hide hrow
      have HBR := hide hbr
      clear hxo
      by_cases hlt : k < 9
      · obtain ⟨cs, ⟨kind, on, os, b0, b1, b2, oa, om, oc, en, ce, l1, l2, l3, l4, fu, rfl, hon⟩, hcells⟩ := unhide HCS k hlt
        have hcell : ∀ i, i < 14 → wr.cell? ⟨b, k * 14 + i, none⟩ = (opC kind on os b0 b1 b2 (.slice oa om oc) en ce l1 l2 l3 l4 fu)[i]? := fun i hi => by
          rw [hbr.cell (by simpa using hbl)]; exact hcells i hi
        have c0 := hcell 0 (by omega)
        have c1 := hcell 1 (by omega)
        have c2 := hcell 2 (by omega)
        have c3 := hcell 3 (by omega)
        have c4 := hcell 4 (by omega)
        have c5 := hcell 5 (by omega)
        have c6 := hcell 6 (by omega)
        have c7 := hcell 7 (by omega)
        have c8 := hcell 8 (by omega)
        have c9 := hcell 9 (by omega)
        have c10 := hcell 10 (by omega)
        have c11 := hcell 11 (by omega)
        have c12 := hcell 12 (by omega)
        have c13 := hcell 13 (by omega)
        simp only [opC, Nat.add_zero, List.getElem?_toArray, List.getElem?_cons_zero, List.getElem?_cons_succ] at c0 c1 c2 c3 c4 c5 c6 c7 c8 c9 c10 c11 c12 c13
        have hltI : (k : Int) < 9 := by omega
        have hbw' : b < wr.heap.size := by have := hbr.size; omega
        by_cases hk3 : kind ≤ last
        · have HW := hide (ownsRow_alloc hrow (.cells (opC kind on os b0 b1 b2 (.slice oa om oc) en ce l1 l2 l3 l4 fu) 63))
          have hBs : wo.heap.size ≤ (wr.alloc (.cells (opC kind on os b0 b1 b2 (.slice oa om oc) en ce l1 l2 l3 l4 fu) 63)).heap.size := by have := hbr.size; simp; omega
          have HBs := hide hBs
          have HNW := hide (Blk.new wr (opC kind on os b0 b1 b2 (.slice oa om oc) en ce l1 l2 l3 l4 fu) 63)
          have HOK : Hid (OpOk (opC kind on os b0 b1 b2 (.slice oa om oc) en ce l1 l2 l3 l4 fu)) := ⟨_, _, _, _, _, _, _, _, _, _, _, _, _, _, _, _, rfl, hon⟩
          unfold opC at HW HBs HNW
          clear hcells hcell hrow hbr hBs
          go_wp2_with (at_builtin; refine wpList_append_lies _ rfl (.tmp 55) (.tmp 60) 22 rfl wo.heap.size 63 iO _ 14 120 Tryz.underlying22 hiO hzO0 hzO1 hzO2 rfl (by decide) (.slice av xs.length cv) xs.length (xs.flatMap Array.toList) (by simp [Act.eval]) (unhide HW) ⟨wr.heap.size, 0, none⟩ 1 1 [.int .i64 kind, .int .i64 on, .string os, .bool b0, .bool b1, .bool b2, .slice oa om oc, .int .i64 en, .int .i64 ce, .int .i64 l1, .int .i64 l2, .int .i64 l3, .int .i64 l4, .int .i64 fu] (by simp [Act.eval]) rfl (World.news_of_block (unhide HNW)) (by simp [Value.oneCell']) (by omega) (by unfold maxLen; omega) (by omega) (unhide HBs) _ rfl ?_; intro g cap w5 hown hgrow hat hlt1; have HO := hide hown; have HG := hide hgrow; clear hown hgrow hat)
          go_roundw
          case rel =>
            refine ⟨k + 1, xs ++ [opC kind on os b0 b1 b2 (.slice oa om oc) en ce l1 l2 l3 l4 fu], by go_num, by omega, by simp; omega, ?_, ?_, ?_⟩
            · intro cs hcs
              rcases List.mem_append.1 hcs with h1 | h1
              · exact unhide HXO cs h1
              · simp at h1; subst h1; exact unhide HOK
            · have ho := unhide HO
              rw [List.flatMap_append, List.length_append]
              exact ho
            · exact ((unhide HBR).trans (((Below.refl _ _).alloc (Nat.le_refl _) _).mono (unhide HBR).size)).grown (unhide HG) (unhide HBs) (fun j hj => (ownsRow_lt (unhide HROW) hj).2)
          case measure => simp [intOf]; omega
        · have hk3' : last < kind := by omega
          have hk2 : ¬ kind = 2 := by omega
          clear hcells hcell hrow hbr
          go_wp2_with fail
          go_roundw
          case rel => exact ⟨k + 1, xs, by go_num, by omega, by omega, unhide HXO, unhide HROW, unhide HBR⟩
          case measure => simp [intOf]; omega
      · have hkn : k = 9 := by omega
        subst hkn
        have hbw2 : Below w.heap.size w wr := (unhide HBW).trans (hbr.mono (unhide HBW).size)
        have HUP := hide (uptoS_any P hRA 1 last false _ _ wr (P.env (unhide HENV) hbw2) (script_of_row hrow (unhide HXO)) (by omega) (fun e => by cases e))
        have HB2 := hide hbw2
        clear hrow hbr hbw2
        go_wp2_with fail
        refine (unhide HUP).mono ?_
        rintro e w3 ⟨rfl, hb3⟩
        have HB3 := hide hb3
        clear hb3 HUP
        go_wp2_with fail
        go_ret
        exact ⟨rfl, (unhide HB2).trans ((unhide HB3).mono (unhide HB2).size)⟩


end Go.Proofs.YtmeiikjpaepogaaGreatDoor

/- Runs and Compiles, given the program's contracts. -/
namespace Go.Proofs.YtmeiikjpaepogaaGreatDoor
open Go Go.RowKit

set_option maxRecDepth 100000 in
set_option maxHeartbeats 4000000 in
theorem runs_any (P : Prg) (hRA : RunsAs P) (v : Value) (n : Nat) (w : World) (henv : P.Env w) (hsc : ScriptIs w v n) (hn : n ≤ 1500000000000) :
    Calls Tryz.prog 4 #[v] w fun e w' => e = .returned (.bool true) ∧ Below w.heap.size w w' := by
  have HE := hide (exampleS_any P hRA 4 (by omega) w henv)
  have HU : Hid (∀ W, Below w.heap.size w W → Calls Tryz.prog 16 #[v, .int .i64 4, .int .i64 4, .bool false, .bool false] W fun e w' => e = .returned (.int .i64 (-1)) ∧ Below W.heap.size W w') := fun W hW => uptoS_any P hRA 4 4 false v n W (P.env henv hW) (hsc.below hW) hn (fun e => by cases e)
  obtain ⟨ao, cap, rfl, _⟩ := hsc
  clear henv
  go_enter Tryz.func4, Tryz.ntmps4
  go_wp2_with fail
  refine (unhide HE).mono ?_
  rintro e w1 ⟨rfl, hb1⟩
  have HB1 := hide hb1
  clear hb1 HE
  go_wp2_with fail
  refine (unhide HU w1 (unhide HB1)).mono ?_
  rintro e w2 ⟨rfl, hb2⟩
  have HB2 := hide hb2
  clear hb2
  go_wp2_with fail
  go_ret
  exact ⟨rfl, (unhide HB1).trans ((unhide HB2).mono (unhide HB1).size)⟩

set_option maxRecDepth 100000 in
set_option maxHeartbeats 4000000 in
theorem compiles_any (P : Prg) (hRA : RunsAs P) (v : Value) (n : Nat) (w : World) (henv : P.Env w) (hsc : ScriptIs w v n) (hn : n ≤ 1500000000000) :
    Calls Tryz.prog 3 #[v] w fun e w' => e = .returned (.bool true) ∧ Below w.heap.size w w' := by
  have HE := hide (exampleS_any P hRA 3 (by omega) w henv)
  have HU : Hid (∀ W, Below w.heap.size w W → Calls Tryz.prog 16 #[v, .int .i64 1, .int .i64 3, .bool false, .bool false] W fun e w' => e = .returned (.int .i64 (-1)) ∧ Below W.heap.size W w') := fun W hW => uptoS_any P hRA 1 3 false v n W (P.env henv hW) (hsc.below hW) hn (fun e => by cases e)
  obtain ⟨ao, cap, rfl, _⟩ := hsc
  clear henv
  go_enter Tryz.func3, Tryz.ntmps3
  go_wp2_with fail
  refine (unhide HE).mono ?_
  rintro e w1 ⟨rfl, hb1⟩
  have HB1 := hide hb1
  clear hb1 HE
  go_wp2_with fail
  refine (unhide HU w1 (unhide HB1)).mono ?_
  rintro e w2 ⟨rfl, hb2⟩
  have HB2 := hide hb2
  clear hb2
  go_wp2_with fail
  go_ret
  exact ⟨rfl, (unhide HB1).trans ((unhide HB2).mono (unhide HB1).size)⟩

end Go.Proofs.YtmeiikjpaepogaaGreatDoor

/- The program runs code as the reference does. -/
namespace Go.Proofs.YtmeiikjpaepogaaGreatDoor
open Go Go.RowKit

theorem runsAs3 : RunsAs prg3 := by
  intro w c p l en ce l1 l2 l3 l4 fuel henv h hok hen hce hfu
  refine (run3_any w c p l en ce l1 l2 l3 l4 fuel h henv.2.2 hok hen hce (by omega)).mono ?_
  rintro e w' ⟨er, vS, vC, out, st, rfl, hres⟩
  have hnil : ∀ b : Nat, OutIs w' b (.slice none 0 0) (.slice none 0 0) [] [] := fun b => ⟨World.ownsRow_nil _ _ _ _, World.ownsRow_nil _ _ _ _, by simp⟩
  by_cases hl : limsOk l1 l2 l3 l4
  · obtain ⟨y1, y2, y3⟩ := hres.yes hl
    by_cases he : er = 0
    · obtain ⟨o1, o2, o3, o4, o5⟩ := hres.ok hl he
      refine ⟨er, vS, vC, out, st, _, _, rfl, ⟨o1, o2, by omega⟩, ⟨o3, o4, o5⟩, hres.below, fun hn => absurd hl hn, fun _ _ => by rw [y1, y2, y3], fun _ hn => absurd (y1.symm.trans he) hn⟩
    · obtain ⟨rfl, rfl⟩ := hres.bad he
      exact ⟨er, _, _, out, st, [], [], rfl, hnil _, ⟨by simp, by simp, fun j hj => by simp [Value.ownBlock] at hj⟩, hres.below, fun hn => absurd hl hn, fun _ h0 => absurd (y1.trans h0) he, fun _ _ => by rw [y1, y2, y3]⟩
  · obtain ⟨rfl, rfl, rfl, rfl, rfl⟩ := hres.no hl
    exact ⟨_, _, _, _, _, [], [], rfl, hnil _, ⟨by simp, by simp, fun j hj => by simp [Value.ownBlock] at hj⟩, hres.below, fun _ => rfl, fun hy => absurd hy hl, fun hy => absurd hy hl⟩

end Go.Proofs.YtmeiikjpaepogaaGreatDoor

