/- The statements' UpTo, where the program runs as the reference does. -/
import Derived.Test.YtmeiikjpaepogaaGreatDoorK24
import Derived.Test.YtmeiikjpaepogaaGreatDoorK23
import Derived.Test.YtmeiikjpaepogaaGreatDoorK02
namespace Go.Proofs.YtmeiikjpaepogaaGreatDoor
open Go Go.RowKit

/-- What a step that loads must come to, in whatever world it is done. -/
def LoadsAs (P : Prg) (w : World) (v : Value) (n : Nat) : Prop :=
  ∀ (k g off cap : Nat) (on : Int) (os : ByteArray) (b0 b1 b2 : Bool) (oa : Option Addr) (om oc : Nat) (en ce l1 l2 l3 l4 fu : Int), k < n → v = .slice (some ⟨g, off, none⟩) n cap →
    (∀ i, i < 14 → w.cell? ⟨g, off + k * 14 + i, none⟩ = (opC 2 on os b0 b1 b2 (.slice oa om oc) en ce l1 l2 l3 l4 fu)[i]?) →
    ∀ (B bw : Nat) (ps hs : List Nat) (vp vh : Value) (W : World), Below w.heap.size w W → P.Env W → Lw B W bw ps hs vp vh → HoldsOk W hs → PlayersOk P W ps → hs.length + 8 ≤ 17592186044416 →
    Calls Tryz.prog 42 #[.pointer (some ⟨bw, 0, none⟩), opV 2 on os false false false (.slice oa om oc) en ce l1 l2 l3 l4 fu] W (fun e w' => e = .returned (.bool true) ∧ StepPost P B W bw hs w')

set_option maxRecDepth 100000 in
set_option maxHeartbeats 8000000 in
theorem uptoS_any (P : Prg) (hRA : RunsAs P) (least last : Int) (loads : Bool) (v : Value) (n : Nat) (w : World) (henv : P.Env w) (hsc : ScriptIs w v n) (hn : n ≤ 1500000000000) (hld : loads = true → LoadsAs P w v n) :
    Calls Tryz.prog 16 #[v, .int .i64 least, .int .i64 last, .bool loads, .bool false] w fun e w' => e = .returned (.int .i64 (-1)) ∧ Below w.heap.size w w' := by
  have hrel0 : UpRel P w 0 (w.alloc (.cells #[.slice none 0 0, .slice none 0 0] 70)) := ⟨[], [], _, _, lw_new w, fun q hq => by simp at hq, fun q hq => by simp at hq, by simp, (Below.refl _ _).alloc (Nat.le_refl _) _⟩
  obtain ⟨ao, cap, rfl, hops⟩ := hsc
  have HOPS := V hops
  have HLD := V hld
  have HREL := V hrel0
  have HENV := V henv
  have hnI : (n : Int) ≤ 1500000000000 := by omega
  clear hops hrel0 henv hld
  go_enter Tryz.func16, Tryz.ntmps16
  go_wp2_with fail
  go_loopw [12] (fun i wr => ∃ k : Nat, i = .int .i64 k ∧ k ≤ n ∧ UpRel P w k wr) (fun i _ => n - (intOf i).toNat)
  case atStart => exact ⟨0, rfl, Nat.zero_le _, U HREL⟩
  case round =>
    clear HREL
    obtain ⟨k, rfl, hk, hrel⟩ := hrel
    by_cases hlt : k < n
    · obtain ⟨g, off, cs, rfl, hg, ⟨kind, on, os, b0, b1, b2, oa, om, oc, en, ce, l1, l2, l3, l4, fu, rfl, hon⟩, hcells⟩ := U HOPS k hlt
      have hbw : Below w.heap.size w wr := by obtain ⟨_, _, _, _, _, _, _, _, h5⟩ := hrel; exact h5
      have hcell : ∀ i, i < 14 → wr.cell? ⟨g, off + k * 14 + i, none⟩ = (opC kind on os b0 b1 b2 (.slice oa om oc) en ce l1 l2 l3 l4 fu)[i]? := fun i hi => by
        rw [hbw.cell (by simpa using hg)]; exact hcells i hi
      have c0 := hcell 0 (by omega)
      have c1 := hcell 1 (by omega)
      have c2 := hcell 2 (by omega)
      have c3 := hcell 3 (by omega)
      have c4 := hcell 4 (by omega)
      have c5 := hcell 5 (by omega)
      have c6 := hcell 6 (by omega)
      have c7 := hcell 7 (by omega)
      have c8 := hcell 8 (by omega)
      have c9 := hcell 9 (by omega)
      have c10 := hcell 10 (by omega)
      have c11 := hcell 11 (by omega)
      have c12 := hcell 12 (by omega)
      have c13 := hcell 13 (by omega)
      simp only [opC, Nat.add_zero, List.getElem?_toArray, List.getElem?_cons_zero, List.getElem?_cons_succ] at c0 c1 c2 c3 c4 c5 c6 c7 c8 c9 c10 c11 c12 c13
      have hltI : (k : Int) < n := by omega
      have hgw : g < wr.heap.size := by have := hbw.size; omega
      have HUP := V hrel
      have HCELLS := V hcells
      clear hcell hcells hbw
      have hbN : Below wr.heap.size wr (wr.alloc (.cells (opC kind on os false false false (.slice oa om oc) en ce l1 l2 l3 l4 fu) 63)) := (Below.refl _ _).alloc (Nat.le_refl _) _
      have hN := Blk.new wr (opC kind on os false false false (.slice oa om oc) en ce l1 l2 l3 l4 fu) 63
      by_cases hk2 : kind = 2 ∧ loads = false
      · obtain ⟨hk2, hlo⟩ := hk2
        subst hk2 hlo
        have HNX := V (hrel.longer hbN)
        unfold opC at HNX
        clear hN hbN hrel
        go_wp2_with fail
        go_roundw
        case rel => exact ⟨k + 1, by go_num, by omega, U HNX⟩
        case measure => simp [intOf]; omega
      · obtain ⟨ps, hs, vp, vh, hl, hp, hh, hlen, hbw⟩ := hrel
        have hlawN := LawStill.ofBelow hbN
        have hbwN : Below w.heap.size w (wr.alloc (.cells (opC kind on os false false false (.slice oa om oc) en ce l1 l2 l3 l4 fu) 63)) := hbw.trans (hbN.mono hbw.size)
        have hload : kind = 2 → Calls Tryz.prog 42 #[.pointer (some ⟨w.heap.size, 0, none⟩), opV kind on os false false false (.slice oa om oc) en ce l1 l2 l3 l4 fu] ((wr.alloc (.cells (opC kind on os false false false (.slice oa om oc) en ce l1 l2 l3 l4 fu) 63)).alloc (.cells (opC kind on os false false false (.slice oa om oc) en ce l1 l2 l3 l4 fu) 63)) (fun e w' => e = .returned (.bool true) ∧ StepPost P w.heap.size ((wr.alloc (.cells (opC kind on os false false false (.slice oa om oc) en ce l1 l2 l3 l4 fu) 63)).alloc (.cells (opC kind on os false false false (.slice oa om oc) en ce l1 l2 l3 l4 fu) 63)) w.heap.size hs w') := by
          rintro rfl
          have hlo : loads = true := by
            cases loads
            · exact absurd ⟨rfl, rfl⟩ hk2
            · rfl
          have hbM : Below wr.heap.size wr ((wr.alloc (.cells (opC 2 on os false false false (.slice oa om oc) en ce l1 l2 l3 l4 fu) 63)).alloc (.cells (opC 2 on os false false false (.slice oa om oc) en ce l1 l2 l3 l4 fu) 63)) := hbN.alloc (by simp) _
          have hlawM := LawStill.ofBelow hbM
          have hbwM := hbw.trans (hbM.mono hbw.size)
          exact U HLD hlo k g off cap on os b0 b1 b2 oa om oc en ce l1 l2 l3 l4 fu hlt rfl (U HCELLS) _ _ ps hs vp vh _ hbwM (P.env (U HENV) hbwM) (hl.below hbM) (hh.law hlawM) (hp.law hlawM) (by omega)
        have HST := V (lstepS_any P hRA w.heap.size w.heap.size ps hs vp vh _ (P.env (U HENV) hbwN) (hl.below hbN) (hh.law hlawN) (hp.law hlawN) (by omega) kind on os oa om oc en ce l1 l2 l3 l4 fu hon hload)
        have HN := V hN
        have HBN := V hbwN
        have hlN : wr.heap.size < (wr.alloc (.cells (opC kind on os false false false (.slice oa om oc) en ce l1 l2 l3 l4 fu) 63)).heap.size := by simp
        unfold opC at HST HN HBN
        unfold opV at HST
        clear hN hbN hlawN hbwN hl hp hh hbw hlN hload
        have hk2' : (kind == 2 && !loads) = false := by
          cases loads
          · have : ¬ kind = 2 := fun e => hk2 ⟨e, rfl⟩
            simpa using this
          · simp
        rcases Classical.em (kind = 2) with hke | hke
        · subst hke
          obtain rfl : loads = true := by
            cases loads
            · exact absurd ⟨rfl, rfl⟩ hk2
            · rfl
          go_wp2_with fail
          refine (U HST).mono ?_
          rintro e w2 ⟨rfl, ps', hs', vp', vh', hl2, hp2, hh2, hlen2, hlaw2, hb2⟩
          have hN2 := hlaw2.blk (U HN)
          have hcN := hN2.cell
          have HLK := V (looks_any w.heap.size w.heap.size ps' hs' vp' vh' w2 hl2 hh2 (by omega))
          have HNX : Hid (UpRel P w (k + 1) w2) := ⟨ps', hs', vp', vh', hl2, hp2, hh2, by omega, (U HBN).trans hb2⟩
          clear hl2 hp2 hh2 hlaw2 hb2 hN2 HST c0 c1 c2 c3 c4 c5 c6 c7 c8 c9 c10 c11 c12 c13
          go_wp2_with fail
          refine (U HLK).mono ?_
          rintro e w3 ⟨rfl, hw⟩
          obtain rfl := hw.symm
          clear hw HLK
          go_wp2_with fail
          all_goals
            go_roundw
            case rel => exact ⟨k + 1, by go_num, by omega, U HNX⟩
            case measure => simp [intOf]; omega
        · go_wp2_with fail
          refine (U HST).mono ?_
          rintro e w2 ⟨rfl, ps', hs', vp', vh', hl2, hp2, hh2, hlen2, hlaw2, hb2⟩
          have hN2 := hlaw2.blk (U HN)
          have hcN := hN2.cell
          have HLK := V (looks_any w.heap.size w.heap.size ps' hs' vp' vh' w2 hl2 hh2 (by omega))
          have HNX : Hid (UpRel P w (k + 1) w2) := ⟨ps', hs', vp', vh', hl2, hp2, hh2, by omega, (U HBN).trans hb2⟩
          clear hl2 hp2 hh2 hlaw2 hb2 hN2 HST c0 c1 c2 c3 c4 c5 c6 c7 c8 c9 c10 c11 c12 c13
          go_wp2_with fail
          refine (U HLK).mono ?_
          rintro e w3 ⟨rfl, hw⟩
          obtain rfl := hw.symm
          clear hw HLK
          go_wp2_with fail
          all_goals
            go_roundw
            case rel => exact ⟨k + 1, by go_num, by omega, U HNX⟩
            case measure => simp [intOf]; omega
    · have hkn : k = n := by omega
      subst hkn
      obtain ⟨_, _, _, _, _, _, _, _, h5⟩ := hrel
      go_wp2_with fail
      go_ret
      exact ⟨rfl, h5⟩
/-- Instructions that were handed in: a list in memory, wherever in its block it begins. -/
def InL (w : World) (ao : Option Addr) (l : List (Int × Int)) : Prop :=
  l = [] ∨ ∃ g off, ao = some ⟨g, off, none⟩ ∧ g < w.heap.size ∧ ∀ j u, (instrCells l)[j]? = some u → w.cell? ⟨g, off + j, none⟩ = some u
theorem InL.below {w w' : World} {ao : Option Addr} {l : List (Int × Int)} (h : InL w ao l) (hb : Below w.heap.size w w') : InL w' ao l := by
  rcases h with h | ⟨g, off, h1, h2, h3⟩
  · exact Or.inl h
  · exact Or.inr ⟨g, off, h1, by have := hb.size; omega, fun j u hj => by rw [hb.cell (by simpa using h2)]; exact h3 j u hj⟩
def opS (op : Int) : Bool := decide (0 ≤ op ∧ op ≤ 32 ∨ 40 ≤ op ∧ op ≤ 59)
def soundS (n : Nat) (x : Int × Int) : Bool := opS x.1 && (!namesS x.1 || decide (0 ≤ x.2 ∧ x.2 < n))
def endsS (l : List (Int × Int)) : Bool := match l.getLast? with | some x => decide (x.1 = 1 ∨ x.1 = 4 ∨ x.1 = 5) | none => false
def shapeS (n : Nat) (en ce : Int) : Bool := decide ((1 ≤ n ∧ n ≤ 5000) ∧ (0 ≤ en ∧ en < n) ∧ 0 ≤ ce ∧ ce ≤ 1000)
def loadS (l : List (Int × Int)) (en ce : Int) : Bool := shapeS l.length en ce && l.all (soundS l.length) && endsS l
theorem parts_empty (op : Int) : (partsS op).length = 0 ↔ opS op = false := by
  by_cases h : 0 ≤ op ∧ op ≤ 59
  · obtain ⟨k, rfl⟩ : ∃ k : Nat, op = k := ⟨op.toNat, by omega⟩
    have : ∀ k : Fin 60, (partsS ((k.val : Nat) : Int)).length = 0 ↔ opS ((k.val : Nat) : Int) = false := by decide
    exact this ⟨k, by omega⟩
  · have e1 : opS op = false := by unfold opS; simp; omega
    have e2 : partsS op = [] := by
      unfold partsS
      split
      · rename_i y hy
        have hm := List.mem_of_find?_eq_some hy
        have hp := List.find?_some hy
        have : ∀ y ∈ partsTab, 40 ≤ y.1 ∧ y.1 ≤ 59 := by
          unfold partsTab
          simp
        have := this y hm
        simp at hp
        omega
      · rw [if_neg (by omega)]
    rw [e1, e2]
    simp
theorem load_code {l : List (Int × Int)} {en ce : Int} (h : loadS l en ce = true) (hi : ∀ x ∈ l, inI x.2) : CodeOk l ∧ (0 ≤ en ∧ en < l.length) ∧ (0 ≤ ce ∧ ce ≤ 1000) := by
  unfold loadS at h
  simp only [Bool.and_eq_true] at h
  obtain ⟨⟨h1, h2⟩, h3⟩ := h
  unfold shapeS at h1
  have h1' := of_decide_eq_true h1
  refine ⟨⟨fun x hx => ?_, ?_, by omega⟩, by omega, by omega⟩
  · have := List.all_eq_true.1 h2 x hx
    unfold soundS at this
    simp only [Bool.and_eq_true] at this
    refine ⟨by have := of_decide_eq_true this.1; omega, hi x hx, fun hn => ?_⟩
    have k := this.2
    rw [hn] at k
    simpa using k
  · unfold endsS at h3
    split at h3
    · rename_i x hx
      exact ⟨x, hx, of_decide_eq_true h3⟩
    · cases h3
theorem in_cell {w : World} {g off : Nat} {l : List (Int × Int)} (h : ∀ j u, (instrCells l)[j]? = some u → w.cell? ⟨g, off + j, none⟩ = some u) {k : Nat} {x : Int × Int} (hx : l[k]? = some x) :
    w.cell? ⟨g, off + k * 2, none⟩ = some (.int .i64 x.1) ∧ w.cell? ⟨g, off + k * 2 + 1, none⟩ = some (.int .i64 x.2) := by
  obtain ⟨e1, e2⟩ := instrCells_at l k x hx
  exact ⟨h _ _ e1, by have := h _ _ e2; rwa [← Nat.add_assoc] at this⟩

set_option maxRecDepth 100000 in
set_option maxHeartbeats 8000000 in
/-- The shape is not one. -/
theorem refLoad_shape (ao : Option Addr) (n c : Nat) (en ce : Int) (w : World) (h : shapeS n en ce = false) :
    Calls Tryz.prog 67 #[.slice ao n c, .int .i64 en, .int .i64 ce] w fun e w' => e = .returned (.tuple #[.pointer none, .int .i64 5]) ∧ w' = w := by
  unfold shapeS at h
  have h' := of_decide_eq_false h
  by_cases c1 : (n : Int) < 1
  · clear h h'
    go_enter Tryz.func67, Tryz.ntmps67
    go_wp2_with fail
    go_ret2
    exact ⟨rfl, rfl⟩
  by_cases c2 : (5000 : Int) < n
  · clear h h'
    go_enter Tryz.func67, Tryz.ntmps67
    go_wp2_with fail
    go_ret2
    exact ⟨rfl, rfl⟩
  by_cases c3 : en < 0
  · clear h h'
    go_enter Tryz.func67, Tryz.ntmps67
    go_wp2_with fail
    go_ret2
    exact ⟨rfl, rfl⟩
  by_cases c4 : (n : Int) ≤ en
  · clear h h'
    go_enter Tryz.func67, Tryz.ntmps67
    go_wp2_with fail
    go_ret2
    exact ⟨rfl, rfl⟩
  by_cases c5 : ce < 0
  · clear h h'
    go_enter Tryz.func67, Tryz.ntmps67
    go_wp2_with fail
    go_ret2
    exact ⟨rfl, rfl⟩
  · have c6 : 1000 < ce := by omega
    clear h h'
    go_enter Tryz.func67, Tryz.ntmps67
    go_wp2_with fail
    go_ret2
    exact ⟨rfl, rfl⟩
theorem addr_off (g n j : Nat) : (⟨g, n, none⟩ : Addr).add j = ⟨g, n + j, none⟩ := by simp [Addr.add]
/-- What the reference's Load answers. -/
def RefLoad (w : World) (l : List (Int × Int)) (en ce : Int) (e : Ending) (w' : World) : Prop :=
  (loadS l en ce = false ∧ e = .returned (.tuple #[.pointer none, .int .i64 5]) ∨ loadS l en ce = true ∧ ∃ p g cap vH, e = .returned (.tuple #[.pointer (some ⟨p, 0, none⟩), .int .i64 0]) ∧ Blk w' p #[.slice (some ⟨g, 0, none⟩) l.length cap, .int .i64 en, .int .i64 ce, vH] 137 ∧ w.heap.size ≤ p ∧ w'.ownsRow w.heap.size 65 2 (.slice (some ⟨g, 0, none⟩) l.length cap) l.length (instrCells l)) ∧ Below w.heap.size w w'
theorem load_bad {l : List (Int × Int)} {en ce : Int} {k : Nat} {x : Int × Int} (hx : l[k]? = some x) (h : soundS l.length x = false) : loadS l en ce = false := by
  unfold loadS
  have : l.all (soundS l.length) = false := by
    rw [List.all_eq_false]
    exact ⟨x, List.mem_of_getElem? hx, by rw [h]; simp⟩
  rw [this]
  simp
theorem load_last {l : List (Int × Int)} {en ce : Int} (h : endsS l = false) : loadS l en ce = false := by
  unfold loadS
  rw [h]
  simp
theorem load_all {l : List (Int × Int)} {en ce : Int} (h1 : shapeS l.length en ce = true) (h2 : ∀ j x, j < l.length → l[j]? = some x → soundS l.length x = true) (h3 : endsS l = true) : loadS l en ce = true := by
  unfold loadS
  rw [h1, h3]
  simp only [Bool.true_and, Bool.and_true, List.all_eq_true]
  intro x hx
  obtain ⟨j, hj, e⟩ := List.getElem_of_mem hx
  exact h2 j x hj (by rw [List.getElem?_eq_getElem hj, e])

set_option maxRecDepth 100000 in
set_option maxHeartbeats 8000000 in
theorem refLoad_any (ao : Option Addr) (c : Nat) (l : List (Int × Int)) (en ce : Int) (w : World) (hin : InL w ao l) :
    Calls Tryz.prog 67 #[.slice ao l.length c, .int .i64 en, .int .i64 ce] w (RefLoad w l en ce) := by
  cases hs : shapeS l.length en ce
  · refine (refLoad_shape ao l.length c en ce w hs).mono ?_
    rintro e w' ⟨rfl, rfl⟩
    exact ⟨Or.inl ⟨by unfold loadS; rw [hs]; simp, rfl⟩, Below.refl _ _⟩
  · have hs' := hs
    unfold shapeS at hs'
    have hsd := of_decide_eq_true hs'
    rcases hin with h0 | ⟨g, off, rfl, hg, hcells⟩
    · rw [h0] at hsd
      simp at hsd
    have c1 : ¬ (l.length : Int) < 1 := by omega
    have c2 : ¬ (5000 : Int) < l.length := by omega
    have c3 : ¬ en < 0 := by omega
    have c4 : ¬ (l.length : Int) ≤ en := by omega
    have c5 : ¬ ce < 0 := by omega
    have c6 : ¬ 1000 < ce := by omega
    have HS := V hs
    have HCE := V hcells
    obtain ⟨iI, hiI, hzI0, hzI1, hzI2⟩ := info_parts Tryz.infoInstr
    clear hs hs' hsd hcells
    go_enter Tryz.func67, Tryz.ntmps67
    go_wp2_with fail
    go_loopw [8] (fun i wr => ∃ k : Nat, i = .int .i64 k ∧ k ≤ l.length ∧ (∀ j x, j < k → l[j]? = some x → soundS l.length x = true) ∧ Below w.heap.size w wr) (fun i _ => l.length - (intOf i).toNat)
    case atStart => exact ⟨0, rfl, Nat.zero_le _, fun j x hj => absurd hj (Nat.not_lt_zero _), Below.refl _ _⟩
    case round =>
      obtain ⟨k, rfl, hk, hall, hbr⟩ := hrel
      have HALL := V hall
      have HBR := V hbr
      have hgr : g < wr.heap.size := by have := hbr.size; omega
      by_cases hlt : k < l.length
      · obtain ⟨x, hx⟩ : ∃ x, l[k]? = some x := ⟨_, List.getElem?_eq_getElem hlt⟩
        have hc0 := in_cell (U HCE) hx
        have hcr : ∀ W, Below wr.heap.size wr W → W.cell? ⟨g, off + k * 2, none⟩ = some (.int .i64 x.1) ∧ W.cell? ⟨g, off + k * 2 + 1, none⟩ = some (.int .i64 x.2) := fun W hW => by
          have hb := hbr.trans (hW.mono hbr.size)
          rw [hb.cell (by simpa using hg), hb.cell (by simpa using hg)]
          exact hc0
        have hcr0 := hcr wr (Below.refl _ _)
        have HCR := V hcr
        have hltI : (k : Int) < l.length := by omega
        have HPA := V (parts_any x.1 wr)
        have HPE := V (parts_empty x.1)
        have HX := V hx
        obtain ⟨hcr1, hcr2⟩ := hcr0
        clear hx hcr hc0 hall hbr
        generalize hpn : (partsS x.1).length = pn at HPA HPE
        generalize (partsS x.1).map (Value.int .i64) = pv at HPA
        clear hpn
        go_wp2_with fail
        refine (U HPA).mono ?_
        rintro e w1 ⟨v, rfl, hv, hb1⟩
        obtain ⟨av, cv, rfl⟩ := own_shape hv
        obtain ⟨hd1, hd2⟩ := U HCR w1 hb1
        have HNA := V (names_any x.1 w1)
        have HB1 := V ((U HBR).trans (hb1.mono (U HBR).size))
        have hg1 : g < w1.heap.size := by have := hb1.size; omega
        clear hv hb1 HPA hcr1 hcr2
        generalize hnn : namesS x.1 = nn at HNA
        go_wp2_with fail
        refine (U HNA).mono ?_
        rintro e w2 ⟨rfl, hw2⟩
        obtain rfl := hw2.symm
        clear hw2 HNA
        by_cases hpz : pn = 0
        · have hop := (U HPE).1 hpz
          have hbad : soundS l.length x = false := by unfold soundS; rw [hop]; rfl
          have HBAD := V (load_bad (en := en) (ce := ce) (U HX) hbad)
          clear hop hbad HPE
          subst hpz
          go_wp2_with fail
          go_ret2
          exact ⟨Or.inl ⟨U HBAD, rfl⟩, U HB1⟩
        · have hop : opS x.1 = true := by
            cases e : opS x.1
            · exact absurd ((U HPE).2 e) hpz
            · rfl
          have hpB : ((pn : Int) == 0) = false := by
            have : ¬ (pn : Int) = 0 := by omega
            simpa using this
          clear HPE
          by_cases hbd : nn = true ∧ x.2 < 0
          · obtain ⟨rfl, hneg⟩ := hbd
            have hbad : soundS l.length x = false := by
              unfold soundS
              rw [hop, hnn]
              simp
              omega
            have HBAD := V (load_bad (en := en) (ce := ce) (U HX) hbad)
            clear hop hbad
            go_wp2_with fail
            go_ret2
            exact ⟨Or.inl ⟨U HBAD, rfl⟩, U HB1⟩
          by_cases hbg : nn = true ∧ (l.length : Int) ≤ x.2
          · obtain ⟨rfl, hbig⟩ := hbg
            have hneg : ¬ x.2 < 0 := by omega
            have hbad : soundS l.length x = false := by
              unfold soundS
              rw [hop, hnn]
              simp
              omega
            have HBAD := V (load_bad (en := en) (ce := ce) (U HX) hbad)
            clear hop hbad hbd
            go_wp2_with fail
            go_ret2
            exact ⟨Or.inl ⟨U HBAD, rfl⟩, U HB1⟩
          · have hgood : soundS l.length x = true := by
              unfold soundS
              rw [hop, hnn]
              cases nn
              · rfl
              · simp
                simp at hbd hbg
                omega
            have HGOOD := V hgood
            clear hop hgood
            cases nn
            · clear hbd hbg
              go_wp2_with fail
              go_roundw
              case rel =>
                refine ⟨k + 1, by go_num, by omega, ?_, U HB1⟩
                intro j y hj hy
                rcases Nat.lt_or_ge j k with h1 | h1
                · exact U HALL j y h1 hy
                · obtain rfl : j = k := by omega
                  rw [U HX] at hy
                  obtain rfl := Option.some.inj hy
                  exact U HGOOD
              case measure => simp [intOf]; omega
            · have hneg : ¬ x.2 < 0 := fun e => hbd ⟨rfl, e⟩
              have hbig : ¬ (l.length : Int) ≤ x.2 := fun e => hbg ⟨rfl, e⟩
              clear hbd hbg
              go_wp2_with fail
              go_roundw
              case rel =>
                refine ⟨k + 1, by go_num, by omega, ?_, U HB1⟩
                intro j y hj hy
                rcases Nat.lt_or_ge j k with h1 | h1
                · exact U HALL j y h1 hy
                · obtain rfl : j = k := by omega
                  rw [U HX] at hy
                  obtain rfl := Option.some.inj hy
                  exact U HGOOD
              case measure => simp [intOf]; omega
      · have hkn : k = l.length := by omega
        subst hkn
        have hpos : 0 < l.length := by omega
        obtain ⟨x, hx⟩ : ∃ x, l[l.length - 1]? = some x := ⟨_, List.getElem?_eq_getElem (by omega)⟩
        have hlast : l.getLast? = some x := by rw [List.getLast?_eq_getElem?]; exact hx
        have hc0 := in_cell (U HCE) hx
        have hcw : wr.cell? ⟨g, off + (l.length - 1) * 2, none⟩ = some (.int .i64 x.1) := by
          rw [hbr.cell (by simpa using hg)]
          exact hc0.1
        have hsub : (l.length : Int) - 1 = ((l.length - 1 : Nat) : Int) := by omega
        have hln : (((l.length - 1 : Nat)) : Int) < l.length := by omega
        have hends : endsS l = decide (x.1 = 1 ∨ x.1 = 4 ∨ x.1 = 5) := by unfold endsS; rw [hlast]
        clear hx hlast hc0 hall
        by_cases hend : x.1 = 1 ∨ x.1 = 4 ∨ x.1 = 5
        · have hload : loadS l en ce = true := load_all (U HS) (U HALL) (by rw [hends]; exact decide_eq_true hend)
          have HLOAD := V hload
          have hnil : ((wr.alloc (.cells #[.slice none 0 0, .int .i64 en, .int .i64 ce, .slice none 0 0] 137))).ownsRow wr.heap.size 65 2 (.slice none 0 0) 0 [] := World.ownsRow_nil _ _ _ _
          have HNIL := V hnil
          have hPB := Blk.new wr #[.slice none 0 0, .int .i64 en, .int .i64 ce, .slice none 0 0] 137
          have HPB := V hPB
          have hnews : ∀ j u, (instrCells l)[j]? = some u → ((wr.alloc (.cells #[.slice none 0 0, .int .i64 en, .int .i64 ce, .slice none 0 0] 137))).cell? ((⟨g, off, none⟩ : Addr).add j) = some u := fun j u hj => by
            have hb := hbr.trans (((Below.refl _ _).alloc (Nat.le_refl _) (.cells #[.slice none 0 0, .int .i64 en, .int .i64 ce, .slice none 0 0] 137)).mono hbr.size)
            rw [addr_off, hb.cell (by simpa using hg)]
            exact U HCE j u hj
          have HNEWS := V hnews
          have HIL : Hid ((instrCells l).length = l.length * 2) := instrCells_length l
          have hBs : wr.heap.size ≤ (wr.alloc (.cells #[.slice none 0 0, .int .i64 en, .int .i64 ce, .slice none 0 0] 137)).heap.size := by simp
          have HBS := V hBs
          have h5 : l.length ≤ 5000 := by omega
          have H5 := V h5
          clear h5
          clear hload hnil hPB hnews hBs hends hbr hlt
          rcases hend with he | he | he
          all_goals
            rw [he] at hcw
            clear he
            go_wp2_with (at_builtin; refine wpList_append_lies _ rfl (.tmp 106) (.tmp 107) 33 rfl wr.heap.size 65 iI _ 2 16 Tryz.underlying33 hiI hzI0 hzI1 hzI2 rfl (by decide) (.slice none 0 0) 0 [] (by simp [Act.eval]) (U HNIL) ⟨g, off, none⟩ l.length c (instrCells l) (by simp [Act.eval]) (U HIL) (U HNEWS) (instr_oneCell l) hpos (by have := U H5; unfold maxLen; omega) (by have := U H5; omega) (U HBS) _ rfl ?_; intro g2 cap2 w5 hown hgrow hat hlt1; have hb5 := (U HPB).grown hgrow (by simp [Value.ownBlock]); have hc5 := hb5.cell; have hf5 := hb5.free; have hl5 := hb5.lt; have HO := V hown; have HG := V hgrow; have HB5 := V hb5; clear hown hgrow hat hb5)
            go_ret2
            have ho := U HO
            rw [Nat.zero_add, List.nil_append] at ho
            have hg2 : (Value.slice (some ⟨g2, 0, none⟩) l.length cap2).ownBlock ≠ some wr.heap.size := fun e => row_not_blk (U HB5) ho (by decide) e
            refine ⟨Or.inr ⟨U HLOAD, wr.heap.size, g2, cap2, .slice none 0 0, rfl, ?_, (U HBR).size, ?_⟩, ?_⟩
            · have := (U HB5).set 0 (.slice (some ⟨g2, 0, none⟩) (0 + l.length) cap2)
              simpa only [List.setIfInBounds_toArray, List.set_cons_zero, Nat.zero_add] using this
            · exact ownsRow_base (ownsRow_far ho hg2 _) (U HBR).size
            · exact (((U HBR).trans (((Below.refl _ _).alloc (Nat.le_refl _) _).mono (U HBR).size)).grown (U HG) (by have := (U HBR).size; simp; omega) (fun j hj => by simp [Value.ownBlock] at hj)).setCell (U HBR).size _
        · have HNO := V (load_last (en := en) (ce := ce) (show endsS l = false by rw [hends]; exact decide_eq_false hend))
          have n1 : ¬ x.1 = 1 := fun e => hend (Or.inl e)
          have n4 : ¬ x.1 = 4 := fun e => hend (Or.inr (Or.inl e))
          have n5 : ¬ x.1 = 5 := fun e => hend (Or.inr (Or.inr e))
          generalize x.1 = o at hcw n1 n4 n5
          have m1 : (o == 1) = false := by simpa using n1
          have m4 : (o == 4) = false := by simpa using n4
          have m5 : (o == 5) = false := by simpa using n5
          have r1 : (o != 1) = true := by rw [bne, m1]; rfl
          have r4 : (o != 4) = true := by rw [bne, m4]; rfl
          have r5 : (o != 5) = true := by rw [bne, m5]; rfl
          clear hends hend hbr hlt
          go_upto_region 12 with fail
          go_wp2_with fail
          go_ret2
          exact ⟨Or.inl ⟨U HNO, rfl⟩, U HBR⟩
end Go.Proofs.YtmeiikjpaepogaaGreatDoor
