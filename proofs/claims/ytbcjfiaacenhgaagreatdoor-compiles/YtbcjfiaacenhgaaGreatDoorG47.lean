/- The statements' example; Compiles, given the program's contracts. -/
import Derived.Test.YtbcjfiaacenhgaaGreatDoorG46
import Derived.Deep.CutRange
import Derived.ProofKit
import Derived.OpenShut
import Derived.Deep.Slices
import Derived.Deep.DeepHandedRow
namespace Go.Proofs.YtbcjfiaacenhgaaGreatDoor
open Go Go.RowKit

def exText : ByteArray := ⟨#[58, 32, 102, 32, 100, 117, 112, 32, 105, 102, 32, 49, 32, 45, 32, 114, 101, 99, 117, 114, 115, 101, 32, 116, 104, 101, 110, 32, 59, 32, 51, 32, 102, 32, 46, 32, 49, 32, 50, 32, 43, 32, 46, 32, 51, 32, 48, 32, 100, 111, 32, 105, 32, 46, 32, 108, 111, 111, 112]⟩

def exOp (b : Nat) : Nat → Array Value
  | 0 => opC 1 0 exText false false false (.slice none 0 0) 0 0 0 0 0 0 0
  | 1 => opC 1 0 ⟨#[49, 32, 101, 108, 115, 101]⟩ false false false (.slice none 0 0) 0 0 0 0 0 0 0
  | 2 => opC 3 0 ⟨#[]⟩ false false false (.slice none 0 0) 0 0 0 0 0 0 0
  | 3 => opC 4 0 ⟨#[]⟩ false false false (.slice none 0 0) 0 0 10 10 10 100 100
  | 4 => opC 1 0 exText true true true (.slice none 0 0) 0 0 0 0 0 0 0
  | 5 => opC 4 1 ⟨#[]⟩ false false false (.slice none 0 0) 0 0 10 10 10 100 100
  | 6 => opC 1 0 exText false false true (.slice none 0 0) 0 0 0 0 0 0 0
  | 7 => opC 3 2 ⟨#[]⟩ false false false (.slice none 0 0) 0 0 0 0 0 0 0
  | _ => opC 2 0 ⟨#[]⟩ false false false (.slice (some ⟨b, 0, none⟩) 1 1) 0 0 0 0 0 0 0
theorem exOp_ok (b k : Nat) : OpOk (exOp b k) := by
  unfold exOp
  split
  all_goals exact ⟨_, _, _, _, _, _, _, _, _, _, _, _, _, _, _, _, rfl, by unfold inI; omega⟩

theorem Tryz.infoOp : (Tryz.prog.info? 32).map (fun i => (i.zero, i.size, i.bytes)) = some (some (.agg #[.int .i64 0, .int .i64 0, .string ⟨#[]⟩, .bool false, .bool false, .bool false, .slice none 0 0, .int .i64 0, .int .i64 0, .int .i64 0, .int .i64 0, .int .i64 0, .int .i64 0, .int .i64 0]), 14, 120) := by kernel_rfl
theorem flat14 (xs : List (Array Value)) (h : ∀ cs ∈ xs, cs.size = 14) : ∀ (k : Nat) (cs : Array Value), xs[k]? = some cs → ∀ i, i < 14 → (xs.flatMap Array.toList)[k * 14 + i]? = cs[i]? := by
  induction xs with
  | nil => intro k cs hk; simp at hk
  | cons x xs ih =>
    intro k cs hk i hi
    have hx : x.toList.length = 14 := by have := h x (List.mem_cons_self ..); simpa using this
    rw [List.flatMap_cons]
    cases k with
    | zero =>
      simp at hk
      subst hk
      rw [List.getElem?_append_left (by omega)]
      simp
    | succ k =>
      simp at hk
      rw [List.getElem?_append_right (by omega)]
      have e : (k + 1) * 14 + i - x.toList.length = k * 14 + i := by omega
      rw [e]
      exact ih (fun cs hcs => h cs (List.mem_cons_of_mem _ hcs)) k cs hk i hi
theorem OpOk.size {cs : Array Value} (h : OpOk cs) : cs.size = 14 := by
  obtain ⟨_, _, _, _, _, _, _, _, _, _, _, _, _, _, _, _, rfl, _⟩ := h
  rfl
theorem script_of_row {w : World} {B : Nat} {v : Value} {xs : List (Array Value)} (h : w.ownsRow B 32 14 v xs.length (xs.flatMap Array.toList)) (hx : ∀ cs ∈ xs, OpOk cs) : ScriptIs w v xs.length := by
  obtain ⟨ao, cap, hv⟩ := own_shape h
  subst hv
  refine ⟨ao, cap, rfl, fun k hk => ?_⟩
  obtain ⟨g, cap', hv, _, hg⟩ := h.form (by omega)
  simp only [Value.slice.injEq, true_and] at hv
  obtain ⟨rfl, rfl⟩ := hv
  obtain ⟨cs, hcs⟩ : ∃ cs, xs[k]? = some cs := ⟨_, List.getElem?_eq_getElem hk⟩
  refine ⟨g, 0, cs, rfl, hg, hx cs (List.mem_of_getElem? hcs), fun i hi => ?_⟩
  have := own_cell h (k * 14 + i) (by omega)
  rw [flat14 xs (fun cs hcs => (hx cs hcs).size) k cs hcs i hi] at this
  rw [Nat.zero_add]
  exact this

set_option maxRecDepth 100000 in
set_option maxHeartbeats 8000000 in
theorem example_any (P : Prg) (w : World) (henv : P.Env w) :
    Calls Tryz.prog 4 #[.int .i64 3, .bool false, .bool false] w fun e w' => e = .returned (.bool true) ∧ Below w.heap.size w w' := by
  go_enter Tryz.func4, Tryz.ntmps4
  go_upto_region 4 with fail
  go_cut [10] from 13 to 67 (fun s10 wc => ∃ b, s10 = .slice (some ⟨b, 0, none⟩) 9 9 ∧ b < wc.heap.size ∧ (∀ k, k < 9 → ∃ cs, OpOk cs ∧ ∀ i, i < 14 → wc.cell? ⟨b, k * 14 + i, none⟩ = cs[i]?) ∧ Below w.heap.size w wc)
  case first =>
    go_wp2_with fail
    go_meet
    refine ⟨w.heap.size + 1 + 1 + 1, rfl, by simp, ?_, ?_⟩
    · intro k hk
      refine ⟨exOp (w.heap.size + 1 + 1) k, exOp_ok _ _, fun i hi => ?_⟩
      rw [World.cell?_alloc_at _ _ _ _ (by simp)]
      match k, hk, i, hi with
      | 0, _, 0, _ => rfl
      | 0, _, 1, _ => rfl
      | 0, _, 2, _ => rfl
      | 0, _, 3, _ => rfl
      | 0, _, 4, _ => rfl
      | 0, _, 5, _ => rfl
      | 0, _, 6, _ => rfl
      | 0, _, 7, _ => rfl
      | 0, _, 8, _ => rfl
      | 0, _, 9, _ => rfl
      | 0, _, 10, _ => rfl
      | 0, _, 11, _ => rfl
      | 0, _, 12, _ => rfl
      | 0, _, 13, _ => rfl
      | 1, _, 0, _ => rfl
      | 1, _, 1, _ => rfl
      | 1, _, 2, _ => rfl
      | 1, _, 3, _ => rfl
      | 1, _, 4, _ => rfl
      | 1, _, 5, _ => rfl
      | 1, _, 6, _ => rfl
      | 1, _, 7, _ => rfl
      | 1, _, 8, _ => rfl
      | 1, _, 9, _ => rfl
      | 1, _, 10, _ => rfl
      | 1, _, 11, _ => rfl
      | 1, _, 12, _ => rfl
      | 1, _, 13, _ => rfl
      | 2, _, 0, _ => rfl
      | 2, _, 1, _ => rfl
      | 2, _, 2, _ => rfl
      | 2, _, 3, _ => rfl
      | 2, _, 4, _ => rfl
      | 2, _, 5, _ => rfl
      | 2, _, 6, _ => rfl
      | 2, _, 7, _ => rfl
      | 2, _, 8, _ => rfl
      | 2, _, 9, _ => rfl
      | 2, _, 10, _ => rfl
      | 2, _, 11, _ => rfl
      | 2, _, 12, _ => rfl
      | 2, _, 13, _ => rfl
      | 3, _, 0, _ => rfl
      | 3, _, 1, _ => rfl
      | 3, _, 2, _ => rfl
      | 3, _, 3, _ => rfl
      | 3, _, 4, _ => rfl
      | 3, _, 5, _ => rfl
      | 3, _, 6, _ => rfl
      | 3, _, 7, _ => rfl
      | 3, _, 8, _ => rfl
      | 3, _, 9, _ => rfl
      | 3, _, 10, _ => rfl
      | 3, _, 11, _ => rfl
      | 3, _, 12, _ => rfl
      | 3, _, 13, _ => rfl
      | 4, _, 0, _ => rfl
      | 4, _, 1, _ => rfl
      | 4, _, 2, _ => rfl
      | 4, _, 3, _ => rfl
      | 4, _, 4, _ => rfl
      | 4, _, 5, _ => rfl
      | 4, _, 6, _ => rfl
      | 4, _, 7, _ => rfl
      | 4, _, 8, _ => rfl
      | 4, _, 9, _ => rfl
      | 4, _, 10, _ => rfl
      | 4, _, 11, _ => rfl
      | 4, _, 12, _ => rfl
      | 4, _, 13, _ => rfl
      | 5, _, 0, _ => rfl
      | 5, _, 1, _ => rfl
      | 5, _, 2, _ => rfl
      | 5, _, 3, _ => rfl
      | 5, _, 4, _ => rfl
      | 5, _, 5, _ => rfl
      | 5, _, 6, _ => rfl
      | 5, _, 7, _ => rfl
      | 5, _, 8, _ => rfl
      | 5, _, 9, _ => rfl
      | 5, _, 10, _ => rfl
      | 5, _, 11, _ => rfl
      | 5, _, 12, _ => rfl
      | 5, _, 13, _ => rfl
      | 6, _, 0, _ => rfl
      | 6, _, 1, _ => rfl
      | 6, _, 2, _ => rfl
      | 6, _, 3, _ => rfl
      | 6, _, 4, _ => rfl
      | 6, _, 5, _ => rfl
      | 6, _, 6, _ => rfl
      | 6, _, 7, _ => rfl
      | 6, _, 8, _ => rfl
      | 6, _, 9, _ => rfl
      | 6, _, 10, _ => rfl
      | 6, _, 11, _ => rfl
      | 6, _, 12, _ => rfl
      | 6, _, 13, _ => rfl
      | 7, _, 0, _ => rfl
      | 7, _, 1, _ => rfl
      | 7, _, 2, _ => rfl
      | 7, _, 3, _ => rfl
      | 7, _, 4, _ => rfl
      | 7, _, 5, _ => rfl
      | 7, _, 6, _ => rfl
      | 7, _, 7, _ => rfl
      | 7, _, 8, _ => rfl
      | 7, _, 9, _ => rfl
      | 7, _, 10, _ => rfl
      | 7, _, 11, _ => rfl
      | 7, _, 12, _ => rfl
      | 7, _, 13, _ => rfl
      | 8, _, 0, _ => rfl
      | 8, _, 1, _ => rfl
      | 8, _, 2, _ => rfl
      | 8, _, 3, _ => rfl
      | 8, _, 4, _ => rfl
      | 8, _, 5, _ => rfl
      | 8, _, 6, _ => rfl
      | 8, _, 7, _ => rfl
      | 8, _, 8, _ => rfl
      | 8, _, 9, _ => rfl
      | 8, _, 10, _ => rfl
      | 8, _, 11, _ => rfl
      | 8, _, 12, _ => rfl
      | 8, _, 13, _ => rfl
    · exact ((((Below.refl _ _).alloc (Nat.le_refl _) _).alloc (by simp) _).alloc (by simp; omega) _).alloc (by simp; omega) _
  case rest =>
    obtain ⟨b, rfl, hbl, hcs, hbw⟩ := hcut
    obtain ⟨iO, hiO, hzO0, hzO1, hzO2⟩ := info_parts Tryz.infoOp
    have HCS := hide hcs
    have HBW := hide hbw
    have HENV := hide henv
    clear hcs hbw henv
    obtain ⟨wo, rfl⟩ : ∃ wo : World, wo = wc := ⟨_, rfl⟩
    go_wp2_with fail
    go_loopw [11, 12] (fun v i wr => ∃ (k : Nat) (xs : List (Array Value)), i = .int .i64 k ∧ k ≤ 9 ∧ xs.length ≤ k ∧ (∀ cs ∈ xs, OpOk cs) ∧ wr.ownsRow wo.heap.size 32 14 v xs.length (xs.flatMap Array.toList) ∧ Below wo.heap.size wo wr) (fun _ i _ => 9 - (intOf i).toNat)
    case atStart => exact ⟨0, [], rfl, by omega, by simp, by simp, World.ownsRow_nil _ _ _ _, Below.refl _ _⟩
    case round =>
      obtain ⟨k, xs, rfl, hk, hxl, hxo, hrow, hbr⟩ := hrel
      obtain ⟨av, cv, hv⟩ := own_shape hrow
      subst hv
      have HXO := hide hxo
      have HROW := hide hrow
      have HBR := hide hbr
      clear hxo
      by_cases hlt : k < 9
      · obtain ⟨cs, ⟨kind, on, os, b0, b1, b2, oa, om, oc, en, ce, l1, l2, l3, l4, fu, rfl, hon⟩, hcells⟩ := unhide HCS k hlt
        have hcell : ∀ i, i < 14 → wr.cell? ⟨b, k * 14 + i, none⟩ = (opC kind on os b0 b1 b2 (.slice oa om oc) en ce l1 l2 l3 l4 fu)[i]? := fun i hi => by
          rw [hbr.cell (by simpa using hbl)]; exact hcells i hi
        have c0 := hcell 0 (by omega)
        have c1 := hcell 1 (by omega)
        have c2 := hcell 2 (by omega)
        have c3 := hcell 3 (by omega)
        have c4 := hcell 4 (by omega)
        have c5 := hcell 5 (by omega)
        have c6 := hcell 6 (by omega)
        have c7 := hcell 7 (by omega)
        have c8 := hcell 8 (by omega)
        have c9 := hcell 9 (by omega)
        have c10 := hcell 10 (by omega)
        have c11 := hcell 11 (by omega)
        have c12 := hcell 12 (by omega)
        have c13 := hcell 13 (by omega)
        simp only [opC, Nat.add_zero, List.getElem?_toArray, List.getElem?_cons_zero, List.getElem?_cons_succ] at c0 c1 c2 c3 c4 c5 c6 c7 c8 c9 c10 c11 c12 c13
        have hltI : (k : Int) < 9 := by omega
        have hbw' : b < wr.heap.size := by have := hbr.size; omega
        by_cases hk3 : kind ≤ 3
        · have HW := hide (ownsRow_alloc hrow (.cells (opC kind on os b0 b1 b2 (.slice oa om oc) en ce l1 l2 l3 l4 fu) 32))
          have hBs : wo.heap.size ≤ (wr.alloc (.cells (opC kind on os b0 b1 b2 (.slice oa om oc) en ce l1 l2 l3 l4 fu) 32)).heap.size := by have := hbr.size; simp; omega
          have HBs := hide hBs
          have HNW := hide (Blk.new wr (opC kind on os b0 b1 b2 (.slice oa om oc) en ce l1 l2 l3 l4 fu) 32)
          have HOK : Hid (OpOk (opC kind on os b0 b1 b2 (.slice oa om oc) en ce l1 l2 l3 l4 fu)) := ⟨_, _, _, _, _, _, _, _, _, _, _, _, _, _, _, _, rfl, hon⟩
          unfold opC at HW HBs HNW
          clear hcells hcell hrow hbr hBs
          go_wp2_with (at_builtin; refine wpList_append_lies _ rfl (.tmp 55) (.tmp 60) 22 rfl wo.heap.size 32 iO _ 14 120 Tryz.underlying22 hiO hzO0 hzO1 hzO2 rfl (by decide) (.slice av xs.length cv) xs.length (xs.flatMap Array.toList) (by simp [Act.eval]) (unhide HW) ⟨wr.heap.size, 0, none⟩ 1 1 [.int .i64 kind, .int .i64 on, .string os, .bool b0, .bool b1, .bool b2, .slice oa om oc, .int .i64 en, .int .i64 ce, .int .i64 l1, .int .i64 l2, .int .i64 l3, .int .i64 l4, .int .i64 fu] (by simp [Act.eval]) rfl (World.news_of_block (unhide HNW)) (by simp [Value.oneCell']) (by omega) (by unfold maxLen; omega) (by omega) (unhide HBs) _ rfl ?_; intro g cap w5 hown hgrow hat hlt1; have HO := hide hown; have HG := hide hgrow; clear hown hgrow hat)
          go_roundw
          case rel =>
            refine ⟨k + 1, xs ++ [opC kind on os b0 b1 b2 (.slice oa om oc) en ce l1 l2 l3 l4 fu], by go_num, by omega, by simp; omega, ?_, ?_, ?_⟩
            · intro cs hcs
              rcases List.mem_append.1 hcs with h1 | h1
              · exact unhide HXO cs h1
              · simp at h1; subst h1; exact unhide HOK
            · have ho := unhide HO
              rw [List.flatMap_append, List.length_append]
              exact ho
            · exact ((unhide HBR).trans (((Below.refl _ _).alloc (Nat.le_refl _) _).mono (unhide HBR).size)).grown (unhide HG) (unhide HBs) (fun j hj => (ownsRow_lt (unhide HROW) hj).2)
          case measure => simp [intOf]; omega
        · have hk3' : 3 < kind := by omega
          have hk2 : ¬ kind = 2 := by omega
          clear hcells hcell hrow hbr
          go_wp2_with fail
          go_roundw
          case rel => exact ⟨k + 1, xs, by go_num, by omega, by omega, unhide HXO, unhide HROW, unhide HBR⟩
          case measure => simp [intOf]; omega
      · have hkn : k = 9 := by omega
        subst hkn
        have hbw2 : Below w.heap.size w wr := (unhide HBW).trans (hbr.mono (unhide HBW).size)
        have HUP := hide (upto_any P _ _ wr (P.env (unhide HENV) hbw2) (script_of_row hrow (unhide HXO)) (by omega))
        have HB2 := hide hbw2
        clear hrow hbr hbw2
        go_wp2_with fail
        refine (unhide HUP).mono ?_
        rintro e w3 ⟨rfl, hb3⟩
        have HB3 := hide hb3
        clear hb3 HUP
        go_wp2_with fail
        go_ret
        exact ⟨rfl, (unhide HB2).trans ((unhide HB3).mono (unhide HB2).size)⟩

set_option maxRecDepth 100000 in
set_option maxHeartbeats 4000000 in
theorem compiles_any (P : Prg) (v : Value) (n : Nat) (w : World) (henv : P.Env w) (hsc : ScriptIs w v n) (hn : n ≤ 1500000000000) :
    Calls Tryz.prog 3 #[v] w fun e w' => e = .returned (.bool true) ∧ Below w.heap.size w w' := by
  have HE := hide (example_any P w henv)
  have HU : Hid (∀ W, Below w.heap.size w W → Calls Tryz.prog 5 #[v, .int .i64 1, .int .i64 3, .bool false, .bool false] W fun e w' => e = .returned (.int .i64 (-1)) ∧ Below W.heap.size W w') := fun W hW => upto_any P v n W (P.env henv hW) (hsc.below hW) hn
  obtain ⟨ao, cap, rfl, _⟩ := hsc
  clear henv
  go_enter Tryz.func3, Tryz.ntmps3
  go_wp2_with fail
  refine (unhide HE).mono ?_
  rintro e w1 ⟨rfl, hb1⟩
  have HB1 := hide hb1
  clear hb1 HE
  go_wp2_with fail
  refine (unhide HU w1 (unhide HB1)).mono ?_
  rintro e w2 ⟨rfl, hb2⟩
  have HB2 := hide hb2
  clear hb2
  go_wp2_with fail
  go_ret
  exact ⟨rfl, (unhide HB1).trans ((unhide HB2).mono (unhide HB1).size)⟩

end Go.Proofs.YtbcjfiaacenhgaaGreatDoor

/- The script as it came in: its cells. -/
namespace Go.Proofs.YtbcjfiaacenhgaaGreatDoor
open Go Go.RowKit Go.ChangeShapes Go.WideShapes Go.ChangeAt Go.Deep

theorem Tryz.cells32 : Tryz.prog.cellsOf 32 = 14 := by kernel_rfl
theorem Tryz.bytesOp : Tryz.prog.bytesOf 32 = 120 := by kernel_rfl
theorem Tryz.cells3 : Tryz.prog.cellsOf 3 = 1 := by kernel_rfl
theorem Tryz.cells9 : Tryz.prog.cellsOf 9 = 1 := by kernel_rfl
theorem Tryz.cells4 : Tryz.prog.cellsOf 4 = 1 := by kernel_rfl
theorem Tryz.cells29 : Tryz.prog.cellsOf 29 = 3 := by kernel_rfl
theorem Tryz.cells30 : Tryz.prog.cellsOf 30 = 1 := by kernel_rfl
theorem Tryz.cells27 : Tryz.prog.cellsOf 27 = 4 := by kernel_rfl

section
variable {H : Type} {enc : TypeId × Value → H} {w : World} {base : Nat} {spare : Nat → Bool} {held : Bool}
theorem list14 {cs : List Value} (h : cs.length = 14) : ∃ a b c d e f g i j k l m n o, cs = [a, b, c, d, e, f, g, i, j, k, l, m, n, o] := by
  match cs, h with
  | [a, b, c, d, e, f, g, i, j, k, l, m, n, o], _ => exact ⟨a, b, c, d, e, f, g, i, j, k, l, m, n, o, rfl⟩

theorem trod_structs3 {P : Program} {t : TypeId} {f0 f1 f2 : Field} {fuel : Nat} {cs : List Value} {x : DataW H × List MemPlace} (ht : P.underlying t = some (.struct #[f0, f1, f2])) (h : DataW.trod enc P w base spare held fuel t cs = some x) :
    ∃ y0 y1 y2 n, cs.length = P.cellsOf t ∧ DataW.trod enc P w base spare held n f0.type ((cs.drop f0.offset).take (P.cellsOf f0.type)) = some y0 ∧ DataW.trod enc P w base spare held n f1.type ((cs.drop f1.offset).take (P.cellsOf f1.type)) = some y1 ∧ DataW.trod enc P w base spare held n f2.type ((cs.drop f2.offset).take (P.cellsOf f2.type)) = some y2 := by
  obtain ⟨xs, n, _, rfl, hl, hlen, hf⟩ := DataW.trod_struct ht h
  match xs, hlen with
  | [y0, y1, y2], _ => exact ⟨y0, y1, y2, n, hl, by simpa using hf 0 f0 rfl, by simpa using hf 1 f1 rfl, by simpa using hf 2 f2 rfl⟩
theorem trod_structs4 {P : Program} {t : TypeId} {f0 f1 f2 f3 : Field} {fuel : Nat} {cs : List Value} {x : DataW H × List MemPlace} (ht : P.underlying t = some (.struct #[f0, f1, f2, f3])) (h : DataW.trod enc P w base spare held fuel t cs = some x) :
    ∃ y0 y1 y2 y3 n, cs.length = P.cellsOf t ∧ DataW.trod enc P w base spare held n f0.type ((cs.drop f0.offset).take (P.cellsOf f0.type)) = some y0 ∧ DataW.trod enc P w base spare held n f1.type ((cs.drop f1.offset).take (P.cellsOf f1.type)) = some y1 ∧ DataW.trod enc P w base spare held n f2.type ((cs.drop f2.offset).take (P.cellsOf f2.type)) = some y2 ∧ DataW.trod enc P w base spare held n f3.type ((cs.drop f3.offset).take (P.cellsOf f3.type)) = some y3 := by
  obtain ⟨xs, n, _, rfl, hl, hlen, hf⟩ := DataW.trod_struct ht h
  match xs, hlen with
  | [y0, y1, y2, y3], _ => exact ⟨y0, y1, y2, y3, n, hl, by simpa using hf 0 f0 rfl, by simpa using hf 1 f1 rfl, by simpa using hf 2 f2 rfl, by simpa using hf 3 f3 rfl⟩
theorem trod_structs9 {P : Program} {t : TypeId} {f0 f1 f2 f3 f4 f5 f6 f7 f8 : Field} {fuel : Nat} {cs : List Value} {x : DataW H × List MemPlace} (ht : P.underlying t = some (.struct #[f0, f1, f2, f3, f4, f5, f6, f7, f8])) (h : DataW.trod enc P w base spare held fuel t cs = some x) :
    ∃ y0 y1 y2 y3 y4 y5 y6 y7 y8 n, cs.length = P.cellsOf t ∧ DataW.trod enc P w base spare held n f0.type ((cs.drop f0.offset).take (P.cellsOf f0.type)) = some y0 ∧ DataW.trod enc P w base spare held n f1.type ((cs.drop f1.offset).take (P.cellsOf f1.type)) = some y1 ∧ DataW.trod enc P w base spare held n f2.type ((cs.drop f2.offset).take (P.cellsOf f2.type)) = some y2 ∧ DataW.trod enc P w base spare held n f3.type ((cs.drop f3.offset).take (P.cellsOf f3.type)) = some y3 ∧ DataW.trod enc P w base spare held n f4.type ((cs.drop f4.offset).take (P.cellsOf f4.type)) = some y4 ∧ DataW.trod enc P w base spare held n f5.type ((cs.drop f5.offset).take (P.cellsOf f5.type)) = some y5 ∧ DataW.trod enc P w base spare held n f6.type ((cs.drop f6.offset).take (P.cellsOf f6.type)) = some y6 ∧ DataW.trod enc P w base spare held n f7.type ((cs.drop f7.offset).take (P.cellsOf f7.type)) = some y7 ∧ DataW.trod enc P w base spare held n f8.type ((cs.drop f8.offset).take (P.cellsOf f8.type)) = some y8 := by
  obtain ⟨xs, n, _, rfl, hl, hlen, hf⟩ := DataW.trod_struct ht h
  match xs, hlen with
  | [y0, y1, y2, y3, y4, y5, y6, y7, y8], _ => exact ⟨y0, y1, y2, y3, y4, y5, y6, y7, y8, n, hl, by simpa using hf 0 f0 rfl, by simpa using hf 1 f1 rfl, by simpa using hf 2 f2 rfl, by simpa using hf 3 f3 rfl, by simpa using hf 4 f4 rfl, by simpa using hf 5 f5 rfl, by simpa using hf 6 f6 rfl, by simpa using hf 7 f7 rfl, by simpa using hf 8 f8 rfl⟩
/-- One step of a script. -/
theorem open_op {fuel : Nat} {cs : List Value} {x : DataW H × List MemPlace} (h : DataW.trod enc Tryz.prog w base spare held fuel 32 cs = some x) :
    ∃ kind n s b0 b1 b2 ao m c en ce l1 l2 l3 l4 fu, cs = (opC kind n s b0 b1 b2 (.slice ao m c) en ce l1 l2 l3 l4 fu).toList ∧ inI n := by
  obtain ⟨y0, y1, y2, y3, y4, y5, y6, y7, y8, n, hl, f0, f1, f2, f3, f4, f5, f6, f7, f8⟩ := trod_structs9 Tryz.underlying32 h
  rw [Tryz.cells32] at hl
  obtain ⟨a, b, c, d, e, f, g, i, j, k, l, m, n', o, rfl⟩ := list14 hl
  simp only [Tryz.cells3, List.drop_zero, List.take_succ_cons, List.take_zero] at f0
  simp only [Tryz.cells3, List.drop_succ_cons, List.drop_zero, List.take_succ_cons, List.take_zero] at f1
  simp only [Tryz.cells9, List.drop_succ_cons, List.drop_zero, List.take_succ_cons, List.take_zero] at f2
  simp only [Tryz.cells29, List.drop_succ_cons, List.drop_zero, List.take_succ_cons, List.take_zero] at f3
  simp only [Tryz.cells30, List.drop_succ_cons, List.drop_zero, List.take_succ_cons, List.take_zero] at f4
  simp only [Tryz.cells3, List.drop_succ_cons, List.drop_zero, List.take_succ_cons, List.take_zero] at f5
  simp only [Tryz.cells3, List.drop_succ_cons, List.drop_zero, List.take_succ_cons, List.take_zero] at f6
  simp only [Tryz.cells27, List.drop_succ_cons, List.drop_zero, List.take_succ_cons, List.take_zero] at f7
  simp only [Tryz.cells3, List.drop_succ_cons, List.drop_zero, List.take_succ_cons, List.take_zero] at f8
  obtain ⟨v0, g0, _, _⟩ := DataW.trod_int Tryz.underlying3 f0
  obtain ⟨v1, g1, _, w1⟩ := DataW.trod_int Tryz.underlying3 f1
  obtain ⟨v2, g2, _, _⟩ := DataW.trod_string Tryz.underlying9 f2
  obtain ⟨z0, z1, z2, n3, _, r0, r1, r2⟩ := trod_structs3 Tryz.underlying29 f3
  simp only [Tryz.cells4, List.drop_succ_cons, List.drop_zero, List.take_succ_cons, List.take_zero] at r0 r1 r2
  obtain ⟨u0, s0, _⟩ := DataW.trod_bool Tryz.underlying4 r0
  obtain ⟨u1, s1, _⟩ := DataW.trod_bool Tryz.underlying4 r1
  obtain ⟨u2, s2, _⟩ := DataW.trod_bool Tryz.underlying4 r2
  obtain ⟨v5, g5, _, _⟩ := DataW.trod_int Tryz.underlying3 f5
  obtain ⟨v6, g6, _, _⟩ := DataW.trod_int Tryz.underlying3 f6
  obtain ⟨v8, g8, _, _⟩ := DataW.trod_int Tryz.underlying3 f8
  obtain ⟨t0, t1, t2, t3, n7, _, k0, k1, k2, k3⟩ := trod_structs4 Tryz.underlying27 f7
  simp only [Tryz.cells3, List.drop_succ_cons, List.drop_zero, List.take_succ_cons, List.take_zero] at k0 k1 k2 k3
  obtain ⟨l1, m1, _, _⟩ := DataW.trod_int Tryz.underlying3 k0
  obtain ⟨l2, m2, _, _⟩ := DataW.trod_int Tryz.underlying3 k1
  obtain ⟨l3, m3, _, _⟩ := DataW.trod_int Tryz.underlying3 k2
  obtain ⟨l4, m4, _, _⟩ := DataW.trod_int Tryz.underlying3 k3
  obtain ⟨ao, om, oc, hg⟩ : ∃ ao om oc, g = .slice ao om oc := by
    rcases open_slice Tryz.underlying30 f4 with ⟨e, _⟩ | ⟨a', len, cap, _, _, _, _, e, _⟩
    · exact ⟨_, _, _, by simpa using e⟩
    · exact ⟨_, _, _, by simpa using e⟩
  simp only [List.cons.injEq, and_true] at g0 g1 g2 s0 s1 s2 g5 g6 g8 m1 m2 m3 m4
  subst g0 g1 g2 s0 s1 s2 g5 g6 g8 m1 m2 m3 m4 hg
  refine ⟨v0, v1, v2, u0, u1, u2, ao, om, oc, v5, v6, l1, l2, l3, l4, v8, rfl, ?_⟩
  have := w1
  simp [Lit.wf, IntKind.min, IntKind.max, IntKind.bits, IntKind.signed] at this
  unfold inI
  omega

set_option maxRecDepth 100000 in
/-- A script. -/
theorem open_script {v : Value} {d : DataW H} {p : List MemPlace} (hv : ∃ a l c, v = .slice a l c) (h : DataW.Trod enc Tryz.prog w 0 (fun _ => true) true 22 v d p) (hw : (d.weights Tryz.prog 22).all (· ≤ reachBytes) = true) : ∃ n, ScriptIs w v n ∧ n ≤ 1500000000000 := by
  obtain ⟨fuel, h⟩ := h
  obtain ⟨a0, l0, c0, rfl⟩ := hv
  rcases open_slice Tryz.underlying22 h with ⟨e, _⟩ | ⟨a, len, cap, m, n, D, Pl, e, hb, hl, hm, hmm, hx, hall⟩
  · simp only [Value.cells, List.cons.injEq, Value.slice.injEq, and_true] at e
    obtain ⟨rfl, rfl, rfl⟩ := e
    exact ⟨0, ⟨none, 0, rfl, fun k hk => absurd hk (Nat.not_lt_zero _)⟩, by omega⟩
  · simp only [Value.cells, List.cons.injEq, Value.slice.injEq, and_true] at e
    obtain ⟨rfl, rfl, rfl⟩ := e
    simp only [if_true] at hmm
    subst hmm
    simp only [Prod.mk.injEq] at hx
    obtain ⟨rfl, rfl⟩ := hx
    refine ⟨_, ⟨some a, _, rfl, ?_⟩, ?_⟩
    · intro k hk
      obtain ⟨cs', h1, h2⟩ := hall k (by omega)
      rw [Tryz.cells32] at h1
      obtain ⟨_, hlen, hcell⟩ := World.cells?_some h1
      obtain ⟨kind, n', s, b0, b1, b2, ao, om, oc, en, ce, l1, l2, l3, l4, fu, rfl, hin⟩ := open_op h2
      have hspot : a.spot = none ∧ a.block < w.heap.size := by
        obtain ⟨cs0, hc0, _⟩ := hall 0 (by omega)
        rw [Tryz.cells32] at hc0
        obtain ⟨_, hl0, hcell0⟩ := World.cells?_some hc0
        have h0 := hcell0 0 (by decide)
        have e2 : (a.add (0 * 14)).add 0 = a := by
          rw [Deep.add_add, Nat.zero_mul]
          rfl
        rw [e2, List.getElem?_eq_getElem (by omega)] at h0
        unfold World.cell? at h0
        split at h0
        · rename_i hh
          refine ⟨?_, lt_of_block hh⟩
          split at h0
          · cases h0
          · rename_i hn
            simpa using hn
        · cases h0
      refine ⟨a.block, a.off, _, ?_, hspot.2, ⟨kind, n', s, b0, b1, b2, ao, om, oc, en, ce, l1, l2, l3, l4, fu, rfl, hin⟩, ?_⟩
      · have := hspot.1
        cases a
        simp only at this
        subst this
        rfl
      · intro i hi
        have := hcell i hi
        rw [Array.getElem?_toList] at this
        rw [← this, Deep.add_add]
        have e3 : a.add (k * 14 + i) = ⟨a.block, a.off + k * 14 + i, none⟩ := by
          unfold Addr.add
          split
          · rename_i e0
            have := hspot.1
            cases a
            simp only at this
            subst this
            simp only [Addr.mk.injEq, and_true, true_and]
            omega
          · simp only [Addr.mk.injEq, and_true, true_and]
            omega
        rw [e3]
    · unfold DataW.weights at hw
      rw [Tryz.underlying22] at hw
      simp only [List.all_cons, Bool.and_eq_true, decide_eq_true_eq, List.length_map, List.length_range, Tryz.bytesOp] at hw
      have := hw.1
      unfold reachBytes at this
      omega

end
end Go.Proofs.YtbcjfiaacenhgaaGreatDoor

