/- The program's options: Fold: what is known of the stack behind a row. -/
import Derived.Test.YtmeiikjpaepogaaGreatDoorZ30
import Derived.Test.YtmeiikjpaepogaaGreatDoorZ32
import Derived.Test.YtmeiikjpaepogaaGreatDoorZ28
namespace Go.Proofs.YtmeiikjpaepogaaGreatDoor
open Go Go.RowKit

theorem TabAt.below {w w' : World} {tb : Nat} (h : TabAt w tb) (hb : Below w.heap.size w w') : TabAt w' tb := by
  obtain ⟨cs, h1, h2, h3⟩ := h
  exact ⟨cs, h1.below hb h1.lt, h2.keep (KeepT.ofBelow hb), fun op a b => (h3 op a b).keep (KeepT.ofBelow hb)⟩
theorem change_small (op : Nat) (h : op < 33) : (0 ≤ (changeS op).1 ∧ (changeS op).1 ≤ 3) ∧ (0 ≤ (changeS op).2 ∧ (changeS op).2 ≤ 3) := by
  have e : changeS op = (((entS op).1 : Int), ((entS op).2.1 : Int)) := by
    unfold changeS
    rw [if_pos (by omega), Int.toNat_natCast]
  have := ent_small op h
  rw [e]
  simp only
  omega
/-- What is known of the stack behind a row. -/
def knownStep (k : Int × Int) (c : Int × Int) : Int × Int := (max k.1 c.1 + (c.2 - c.1), max k.2 (c.2 - c.1) - (c.2 - c.1))
def knownTo (row : List (Int × Int)) : Nat → Int × Int
  | 0 => (0, 0)
  | n + 1 => match row[n]? with
    | some x => knownStep (knownTo row n) (changeS x.1)
    | none => knownTo row n
def knownS (row : List (Int × Int)) : Int × Int := knownTo row row.length
theorem knownTo_small (row : List (Int × Int)) (h : ∀ x ∈ row, 0 ≤ x.1 ∧ x.1 ≤ 32) (n : Nat) : (0 ≤ (knownTo row n).1 ∧ (knownTo row n).1 ≤ 3 * n) ∧ (0 ≤ (knownTo row n).2 ∧ (knownTo row n).2 ≤ 3 * n) := by
  induction n with
  | zero => simp [knownTo]
  | succ n ih =>
    unfold knownTo
    split
    next x hx =>
      have hx1 := h x (List.mem_of_getElem? hx)
      have e : x.1 = ((x.1.toNat : Nat) : Int) := by omega
      have := change_small x.1.toNat (by omega)
      rw [← e] at this
      unfold knownStep
      simp only
      omega
    next => omega
/-- The folder in memory. -/
def FoldAt (w : World) (fb tb : Nat) (rv : Value) : Prop := Blk w fb #[.pointer (some ⟨tb, 0, none⟩), rv] 203 ∧ TabAt w tb
theorem FoldAt.below {w w' : World} {fb tb : Nat} {rv : Value} (h : FoldAt w fb tb rv) (hb : Below w.heap.size w w') : FoldAt w' fb tb rv := ⟨h.1.below hb h.1.lt, h.2.below hb⟩
theorem Tryz.name248 : (Tryz.f248.name == "runtime.NumGoroutine") = false := by kernel_rfl
theorem Tryz.body248 : Tryz.f248.body.isNone = false := by kernel_rfl
theorem Tryz.sizeKnown : (Tryz.prog.info? 277).map (fun i => i.size) = some 2 := by kernel_rfl

set_option maxRecDepth 100000 in
set_option maxHeartbeats 8000000 in
theorem knownBehind_any (fb tb : Nat) (rv : Value) (ao : Option Addr) (c : Nat) (row : List (Int × Int)) (w : World) (hf : FoldAt w fb tb rv) (hin : InL w ao row) (hn : row.length ≤ 100000) (hops : ∀ x ∈ row, 0 ≤ x.1 ∧ x.1 ≤ 32) :
    Calls Tryz.prog 240 #[.pointer (some ⟨fb, 0, none⟩), .slice ao row.length c] w fun e w' => e = .returned (.agg #[.int .i64 (knownS row).1, .int .i64 (knownS row).2]) ∧ Below w.heap.size w w' := by
  have hnI : (row.length : Int) ≤ 100000 := by omega
  have hb0 := below_box2 w (.cells #[.int .i64 0, .int .i64 0] 277) (.cells #[.int .i64 0, .int .i64 0] 277)
  have hk0 := blk_two w (.cells #[.int .i64 0, .int .i64 0] 277) #[.int .i64 0, .int .i64 0] 277
  have hr0 : Blk ((w.alloc (.cells #[.int .i64 0, .int .i64 0] 277)).alloc (.cells #[.int .i64 0, .int .i64 0] 277)) w.heap.size #[.int .i64 0, .int .i64 0] 277 := (Blk.new w _ _).alloc _
  have HB0 := V hb0
  have HK0 := V hk0
  have HR0 := V hr0
  have HF := V hf
  have HIN := V hin
  have HOPS := V hops
  clear hb0 hk0 hr0 hf hin hops
  go_enter Tryz.func240, Tryz.ntmps240
  go_wp2_with fail
  go_loopw [12] (fun i wr => ∃ k : Nat, i = .int .i64 k ∧ k ≤ row.length ∧ Blk wr (w.heap.size + 1) #[.int .i64 (knownTo row k).1, .int .i64 (knownTo row k).2] 277 ∧ Blk wr w.heap.size #[.int .i64 0, .int .i64 0] 277 ∧ Below w.heap.size w wr) (fun i _ => row.length - (intOf i).toNat)
  case atStart => exact ⟨0, rfl, Nat.zero_le _, U HK0, U HR0, U HB0⟩
  case round =>
    obtain ⟨k, rfl, hk, hkn, hrs, hbw⟩ := hrel
    have HKN := V hkn
    have HRS := V hrs
    have HBW := V hbw
    by_cases hlt : k < row.length
    · obtain ⟨x, hx⟩ : ∃ x, row[k]? = some x := ⟨_, List.getElem?_eq_getElem hlt⟩
      obtain ⟨g, off, rfl, hgl, c1, c2⟩ := in_at ((U HIN).below hbw) hx
      have hltI : (k : Int) < row.length := by omega
      have hxo := U HOPS x (List.mem_of_getElem? hx)
      have HNX : Hid (knownTo row (k + 1) = knownStep (knownTo row k) (changeS x.1)) := by
        show knownTo row (k + 1) = _
        rw [knownTo, hx]
      have hsm := knownTo_small row (U HOPS) k
      obtain ⟨x1, x2⟩ := x
      simp only at c1 c2 hxo HNX
      obtain ⟨op, rfl⟩ : ∃ op : Nat, x1 = op := ⟨x1.toNat, by omega⟩
      have hcs := change_small op (by omega)
      have hbx := Blk.new wr #[.int .i64 op, .int .i64 x2] 65
      have hbN : Below wr.heap.size wr (wr.alloc (.cells #[.int .i64 op, .int .i64 x2] 65)) := below_box wr _
      have HBX := V hbx
      have HBN := V hbN
      have HFO : Hid (∀ W, Below wr.heap.size wr W → FoldAt W fb tb rv) := fun W hW => ((U HF).below (U HBW)).below hW
      have HCH : Hid (∀ W, Below wr.heap.size wr W → Calls Tryz.prog 248 #[.pointer (some ⟨tb, 0, none⟩), .int .i64 op] W fun e w' => e = .returned (.agg #[.int .i64 (changeS op).1, .int .i64 (changeS op).2]) ∧ Below W.heap.size W w') := fun W hW => change_any tb op W (U HFO W hW).2 (Or.inl (by omega))
      clear hkn hrs hbw hx hbx hbN
      generalize hkt : knownTo row k = kt at *
      clear hkt
      generalize hct : changeS op = ct at *
      clear hct
      obtain ⟨k1, k2⟩ := kt
      obtain ⟨t, gv⟩ := ct
      simp only at hsm hcs HCH HKN
      have hfb := (U HFO _ (U HBN)).1
      have hcf := hfb.cell
      have hlf := hfb.lt
      go_wp2_with fail
      generalize hW0 : wr.alloc (.cells #[.int .i64 op, .int .i64 x2] 65) = W0 at *
      have hcx := (U HBX).cell
      have hlx := (U HBX).lt
      have hWs : wr.heap.size < W0.heap.size := hlx
      have HCH0 : Hid (∀ W, Below W0.heap.size W0 W → Calls Tryz.prog 248 #[.pointer (some ⟨tb, 0, none⟩), .int .i64 op] W fun e w' => e = .returned (.agg #[.int .i64 t, .int .i64 gv]) ∧ Below W.heap.size W w') := fun W hW => U HCH W ((U HBN).trans (hW.mono (by omega)))
      clear hW0 hfb c1 c2
      go_cut [8] from 13 to 42 (fun s8 wc => ∃ q, s8 = .pointer (some ⟨q, 0, none⟩) ∧ Blk wc q #[.int .i64 t, .int .i64 gv] 107 ∧ W0.heap.size ≤ q ∧ Below W0.heap.size W0 wc)
      case first =>
        go_region_law (first
          | (refine step_call rfl 248 #[.tmp 19, .tmp 21] #[82, 3] rfl Tryz.func248 Tryz.name248 Tryz.body248 #[.pointer (some ⟨tb, 0, none⟩), .int .i64 op] (by first | (simp [Act.eval]; done) | rfl) (U HCH0 _ (by (repeat (first | with_reducible refine below_drew ?_ | with_reducible refine below_drawn ?_ _ | with_reducible refine below_longer ?_ _ | (with_reducible refine Below.alloc ?_ ?_ _; rotate_left; (first | omega | ((repeat (first | rw [World.size_up] | rw [World.size_dr] | rw [World.size_drN])) <;> omega))))); (with_reducible exact Below.refl _ _))) ?_; rintro e w1 ⟨rfl, h1⟩; refine ⟨_, rfl, ?_⟩; have hjb : Blk w1 W0.heap.size #[.int .i64 0, .int .i64 0] 107 := Blk.below (by (repeat (first | with_reducible refine Blk.drew ?_ | with_reducible refine Blk.drewN ?_ _ | (with_reducible refine blk_newAt _ _ ?_; (first | omega | ((repeat (first | rw [World.size_up] | rw [World.size_dr] | rw [World.size_drN])) <;> omega))) | with_reducible refine Blk.alloc ?_ _)); (first | done | with_reducible assumption)) h1 (by simp); have hcj := hjb.cell; have hfj := hjb.free; have hlj := hjb.lt; have HJ := V hjb; clear hjb; have H1 : Hid (Below W0.heap.size W0 w1) := Below.trans (by (repeat (first | with_reducible refine below_drew ?_ | with_reducible refine below_drawn ?_ _ | with_reducible refine below_longer ?_ _ | (with_reducible refine Below.alloc ?_ ?_ _; rotate_left; (first | omega | ((repeat (first | rw [World.size_up] | rw [World.size_dr] | rw [World.size_drN])) <;> omega))))); (with_reducible exact Below.refl _ _)) (h1.mono (by simp)); clear h1)
          | (refine step_call rfl 248 #[.tmp 19, .tmp 21] #[82, 3] rfl Tryz.func248 Tryz.name248 Tryz.body248 #[.pointer (some ⟨tb, 0, none⟩), .int .i64 op] (by first | (simp [Act.eval]; done) | rfl) (U HCH0 _ (by (repeat (first | with_reducible refine below_drew ?_ | with_reducible refine below_drawn ?_ _ | with_reducible refine below_longer ?_ _ | (with_reducible refine Below.alloc ?_ ?_ _; rotate_left; (first | omega | ((repeat (first | rw [World.size_up] | rw [World.size_dr] | rw [World.size_drN])) <;> omega))))); (with_reducible exact Below.refl _ _))) ?_; rintro e w1 ⟨rfl, h1⟩; refine ⟨_, rfl, ?_⟩; have H1 : Hid (Below W0.heap.size W0 w1) := Below.trans (by (repeat (first | with_reducible refine below_drew ?_ | with_reducible refine below_drawn ?_ _ | with_reducible refine below_longer ?_ _ | (with_reducible refine Below.alloc ?_ ?_ _; rotate_left; (first | omega | ((repeat (first | rw [World.size_up] | rw [World.size_dr] | rw [World.size_drN])) <;> omega))))); (with_reducible exact Below.refl _ _)) (h1.mono (by simp)); clear h1))
        all_goals
          go_wp2_with fail
          go_meet
          first
          | exact ⟨_, rfl, Blk.new _ _ _, (U H1).size, (U H1).trans ((below_box _ _).mono (U H1).size)⟩
          | exact ⟨_, rfl, two_cells (U HJ) rfl, Nat.le_refl _, ((U H1).setCell (Nat.le_refl _) _).setCell (Nat.le_refl _) _⟩
      case rest =>
        obtain ⟨q, rfl, hq, hqg, hbc⟩ := hcut
        obtain ⟨w3, rfl⟩ : ∃ w3 : World, w3 = wc := ⟨_, rfl⟩
        have hb3 : Below wr.heap.size wr w3 := (U HBN).trans (hbc.mono (by omega))
        have hkn3 := (U HKN).below hb3 (U HKN).lt
        have hrs3 := (U HRS).below hb3 (U HRS).lt
        have hcq := hq.cell
        have hlq := hq.lt
        have hck := hkn3.cell
        have hfk := hkn3.free
        have hlk := hkn3.lt
        have HK3 := V hkn3
        have HR3 := V hrs3
        have HB3 : Hid (Below w.heap.size w w3) := (U HBW).trans (hb3.mono (U HBW).size)
        clear hq hbc hb3 hkn3 hrs3 hcf hlf hcx hlx HCH HCH0
        go_wp2_with fail
        go_roundw
        case rel =>
          refine ⟨k + 1, by go_num, by omega, ?_, (((U HR3).far (a := ⟨w.heap.size + 1, 0, none⟩) (by simp) _).far (a := ⟨w.heap.size + 1, 1, none⟩) (by simp) _), ((U HB3).setCell (by simp) _).setCell (by simp) _⟩
          rw [U HNX]
          exact two_cells (U HK3) rfl
        case measure => simp [intOf]; omega
    · have hkk : k = row.length := by omega
      subst hkk
      have hck := hkn.cell
      have hlk := hkn.lt
      have hcr := hrs.cell
      have hfr := hrs.free
      have hlr := hrs.lt
      clear hkn hrs hbw
      go_wp2_with fail
      refine bodyPost_ret (results_cell_row (P := Tryz.prog) rfl _ _ w.heap.size 277 _ (0, 0) _ rfl (two_cells (U HRS) rfl) Tryz.underlying277 rfl Tryz.sizeKnown) rfl ?_
      exact ⟨rfl, ((U HBW).setCell (Nat.le_refl _) _).setCell (Nat.le_refl _) _⟩
/-- A row of changes of one's own. -/
def OwnC (B : Nat) (w : World) (v : Value) (l : List (Int × Int)) : Prop := w.ownsRow B 107 2 v l.length (instrCells l)
theorem OwnC.below {B : Nat} {w w' : World} {v : Value} {l : List (Int × Int)} (h : OwnC B w v l) (hb : Below w.heap.size w w') : OwnC B w' v l := by
  unfold OwnC at h ⊢
  exact (LawStill.ofBelow hb).row h
theorem OwnC.pairs {B : Nat} {w : World} {ao : Option Addr} {n c : Nat} {l : List (Int × Int)} (h : OwnC B w (.slice ao n c) l) : PairsAt w ao l := by
  unfold OwnC at h
  obtain ⟨a, k, hv⟩ := own_shape h
  simp only [Value.slice.injEq] at hv
  obtain ⟨rfl, rfl, rfl⟩ := hv
  rcases h.2 with ⟨e1, e2⟩ | ⟨g, cap, cur, e, _⟩
  · have : l.length = 0 := by
      simp only [Value.slice.injEq] at e1
      exact e1.2.1
    exact Or.inl (List.length_eq_zero_iff.1 this)
  · simp only [Value.slice.injEq] at e
    obtain ⟨rfl, _, rfl⟩ := e
    refine Or.inr ⟨g, rfl, (ownsRow_lt h (k := g) rfl).1, fun k x hx => ?_⟩
    have hk : k < l.length := (List.getElem?_eq_some_iff.1 hx).1
    have c1 := own_cell h (k * 2) (by omega)
    have c2 := own_cell h (k * 2 + 1) (by omega)
    rw [(instrCells_at _ _ _ hx).1] at c1
    rw [(instrCells_at _ _ _ hx).2] at c2
    exact ⟨c1, c2⟩
theorem Tryz.infoChange : (Tryz.prog.info? 107).map (fun i => (i.zero, i.size, i.bytes)) = some (some (.agg #[.int .i64 0, .int .i64 0]), 2, 16) := by kernel_rfl
/-- What rows take and give. -/
def chRow (row : List (Int × Int)) : List (Int × Int) := row.map (fun x => changeS x.1)
theorem chRow_app (a b : List (Int × Int)) : chRow (a ++ b) = chRow a ++ chRow b := List.map_append ..
theorem chRow_next {row : List (Int × Int)} {k : Nat} {x : Int × Int} (h : row[k]? = some x) : chRow (row.take (k + 1)) = chRow (row.take k) ++ [changeS x.1] := by
  rw [List.take_add_one, h, chRow_app]
  rfl
theorem chRow_len (row : List (Int × Int)) : (chRow row).length = row.length := List.length_map ..

set_option maxRecDepth 100000 in
set_option maxHeartbeats 8000000 in
theorem changesOf_any (fb tb q cq : Nat) (rv : Value) (rs : List (Option Addr × Nat × List (Int × Int))) (w : World) (hf : FoldAt w fb tb rv) (hq : RowsAt w q rs) (hn : rs.length ≤ 100) (hs : (catS rs).length ≤ 1000) (hops : ∀ x ∈ catS rs, 0 ≤ x.1 ∧ x.1 ≤ 32) :
    Calls Tryz.prog 246 #[.pointer (some ⟨fb, 0, none⟩), .slice (some ⟨q, 0, none⟩) rs.length cq] w fun e w' => ∃ ao c, e = .returned (.slice ao (chRow (catS rs)).length c) ∧ OwnC w.heap.size w' (.slice ao (chRow (catS rs)).length c) (chRow (catS rs)) ∧ Below w.heap.size w w' := by
  obtain ⟨iI, hiI, hzI0, hzI1, hzI2⟩ := info_parts Tryz.infoChange
  have hnI : (rs.length : Int) ≤ 100 := by omega
  have HF := V hf
  have HQ := V hq
  have HOPS := V hops
  have hql := hq.1
  clear hf hq hops
  go_enter Tryz.func246, Tryz.ntmps246
  go_wp2_with fail
  go_loopw [5, 12] (fun lv i wr => ∃ (k : Nat) (ao : Option Addr) (c : Nat), i = .int .i64 k ∧ k ≤ rs.length ∧ lv = .slice ao (chRow (catS (rs.take k))).length c ∧ OwnC w.heap.size wr (.slice ao (chRow (catS (rs.take k))).length c) (chRow (catS (rs.take k))) ∧ Below w.heap.size w wr) (fun _ i _ => rs.length - (intOf i).toNat)
  case atStart => exact ⟨0, none, 0, rfl, Nat.zero_le _, rfl, ⟨rfl, Or.inl ⟨rfl, rfl⟩⟩, Below.refl _ _⟩
  case round =>
    obtain ⟨k, ao, c, rfl, hk, rfl, hown, hbw⟩ := hrel
    have HOWN := V hown
    have HBW := V hbw
    by_cases hlt : k < rs.length
    · obtain ⟨r, hr⟩ : ∃ r, rs[k]? = some r := ⟨_, List.getElem?_eq_getElem hlt⟩
      obtain ⟨hc, hin⟩ := ((U HQ).below hbw).2 k r hr
      have hqb := ((U HQ).below hbw).1
      have hltI : (k : Int) < rs.length := by omega
      have HNX := V (catS_next hr)
      have e1 := congrArg List.length (catS_next hr)
      rw [List.length_append] at e1
      have e2 := catS_le rs (k + 1)
      have hro : ∀ x ∈ r.2.2, 0 ≤ x.1 ∧ x.1 ≤ 32 := fun x hx => U HOPS x (List.mem_flatMap.2 ⟨r, List.mem_of_getElem? hr, hx⟩)
      have HRO := V hro
      have HIN := V hin
      have HIN0 := V ((U HQ).2 k r hr).2
      have hlb : (chRow (catS (rs.take k))).length + r.2.2.length ≤ 1000 := by rw [chRow_len]; omega
      obtain ⟨ra, rc, row⟩ := r
      simp only at hc HIN HIN0 HNX HRO hlb
      generalize hcl : catS (rs.take k) = cl at *
      have hrI : (row.length : Int) ≤ 1000 := by omega
      obtain ⟨w0, hw0⟩ : ∃ w0 : World, w0 = wr := ⟨_, rfl⟩
      rw [hw0.symm] at HOWN HBW HIN hc hqb ⊢
      clear e1 e2 hr hown hbw hin hro hcl hw0
      go_wp2_with fail
      go_loopw [5, 18] (fun lv i wr => ∃ (j : Nat) (ao : Option Addr) (c : Nat), i = .int .i64 j ∧ j ≤ row.length ∧ lv = .slice ao (chRow cl ++ chRow (row.take j)).length c ∧ OwnC w.heap.size wr (.slice ao (chRow cl ++ chRow (row.take j)).length c) (chRow cl ++ chRow (row.take j)) ∧ Below w.heap.size w wr ∧ InL wr ra row) (fun _ i _ => row.length - (intOf i).toNat)
      case atStart => exact ⟨0, ao, c, rfl, Nat.zero_le _, by simp [chRow], by simpa [chRow] using U HOWN, U HBW, U HIN⟩
      case round =>
        obtain ⟨j, ao, c, rfl, hj, rfl, hown, hbw, hin⟩ := hrel
        have HOWN := V hown
        have HBW := V hbw
        have HIN := V hin
        by_cases hlj : j < row.length
        · obtain ⟨x, hx⟩ : ∃ x, row[j]? = some x := ⟨_, List.getElem?_eq_getElem hlj⟩
          obtain ⟨g, off, rfl, hgl, c1, c2⟩ := in_at hin hx
          have hljI : (j : Int) < row.length := by omega
          have hxo := U HRO x (List.mem_of_getElem? hx)
          have HNJ := V (chRow_next hx)
          have hle : (chRow cl ++ chRow (row.take j)).length < 1000 := by rw [List.length_append, chRow_len (row.take j), List.length_take]; omega
          obtain ⟨x1, x2⟩ := x
          simp only at c1 c2 hxo HNJ
          obtain ⟨op, rfl⟩ : ∃ op : Nat, x1 = op := ⟨x1.toNat, by omega⟩
          have hbN : Below wr.heap.size wr (wr.alloc (.cells #[.int .i64 op, .int .i64 x2] 65)) := below_box wr _
          have HBX := V (Blk.new wr #[.int .i64 op, .int .i64 x2] 65)
          have HBN := V hbN
          have HFO : Hid (∀ W, Below wr.heap.size wr W → FoldAt W fb tb rv) := fun W hW => ((U HF).below (U HBW)).below hW
          have HCH : Hid (∀ W, Below wr.heap.size wr W → Calls Tryz.prog 248 #[.pointer (some ⟨tb, 0, none⟩), .int .i64 op] W fun e w' => e = .returned (.agg #[.int .i64 (changeS op).1, .int .i64 (changeS op).2]) ∧ Below W.heap.size W w') := fun W hW => change_any tb op W (U HFO W hW).2 (Or.inl (by omega))
          clear hown hbw hx hbN hin
          generalize hl1 : chRow cl ++ chRow (row.take j) = l1 at *
          have HL1 := V hl1
          generalize hct : changeS op = ct at *
          clear hct hl1
          obtain ⟨t, gv⟩ := ct
          simp only at HCH
          have hfb := (U HFO _ (U HBN)).1
          have hcf := hfb.cell
          have hlf := hfb.lt
          have hws := (U HBW).size
          go_wp2_with fail
          generalize hW0 : wr.alloc (.cells #[.int .i64 op, .int .i64 x2] 65) = W0 at *
          have hcx := (U HBX).cell
          have hlx := (U HBX).lt
          have HCH0 : Hid (∀ W, Below W0.heap.size W0 W → Calls Tryz.prog 248 #[.pointer (some ⟨tb, 0, none⟩), .int .i64 op] W fun e w' => e = .returned (.agg #[.int .i64 t, .int .i64 gv]) ∧ Below W.heap.size W w') := fun W hW => U HCH W ((U HBN).trans (hW.mono (by omega)))
          clear hW0 hfb c1 c2
          go_region_law (first
              | (refine step_call rfl 248 #[.tmp 26, .tmp 28] #[82, 3] rfl Tryz.func248 Tryz.name248 Tryz.body248 #[.pointer (some ⟨tb, 0, none⟩), .int .i64 op] (by first | (simp [Act.eval]; done) | rfl) (U HCH0 _ (by (repeat (first | with_reducible refine below_drew ?_ | with_reducible refine below_drawn ?_ _ | with_reducible refine below_longer ?_ _ | (with_reducible refine Below.alloc ?_ ?_ _; rotate_left; (first | omega | ((repeat (first | rw [World.size_up] | rw [World.size_dr] | rw [World.size_drN])) <;> omega))))); (with_reducible exact Below.refl _ _))) ?_; rintro e w1 ⟨rfl, h1⟩; refine ⟨_, rfl, ?_⟩; have H1 : Hid (Below W0.heap.size W0 w1) := Below.trans (by (repeat (first | with_reducible refine below_drew ?_ | with_reducible refine below_drawn ?_ _ | with_reducible refine below_longer ?_ _ | (with_reducible refine Below.alloc ?_ ?_ _; rotate_left; (first | omega | ((repeat (first | rw [World.size_up] | rw [World.size_dr] | rw [World.size_drN])) <;> omega))))); (with_reducible exact Below.refl _ _)) (h1.mono (by simp)); clear h1; have H2 : Hid (Below wr.heap.size wr w1) := (U HBN).trans ((U H1).mono (by omega)); have HW1 := V (ownsRow_alloc ((U HOWN).below (U H2)) (.cells #[.int .i64 t, .int .i64 gv] 107)); have hs1 := (U H2).size; have HS1 : Hid (w.heap.size ≤ (w1.alloc (.cells #[.int .i64 t, .int .i64 gv] 107)).heap.size) := V (by simp; omega))
              | (refine step_append_lies _ rfl (.tmp 22) (.tmp 30) 288 rfl w.heap.size 107 iI _ 2 16 Tryz.underlying288 hiI hzI0 hzI1 hzI2 rfl (by decide) (.slice ao l1.length c) l1.length (instrCells l1) (by simp [Act.eval]) (U HW1) ⟨w1.heap.size, 0, none⟩ 1 1 [.int .i64 t, .int .i64 gv] (by simp [Act.eval]) rfl (World.news_of_block (Blk.new w1 _ _)) (oneCells2 t gv) (by omega) (by unfold maxLen; omega) (by omega) (U HS1) _ rfl ?_; intro g5 cap5 w5 hown5 hgrow hat hlt1; have HO := V hown5; have HG := V hgrow; clear hown5 hgrow hat))
          all_goals
            go_wp2_with fail
            go_roundw
            case rel =>
              have e5 : chRow cl ++ chRow (row.take (j + 1)) = l1 ++ [(t, gv)] := by rw [U HNJ, ← List.append_assoc, U HL1]
              have el : (l1 ++ [(t, gv)]).length = l1.length + 1 := by simp
              have hb5 : Below w.heap.size w w5 := (((U HBW).trans ((U H2).mono hws)).trans ((below_box w1 _).mono (by omega))).grown (U HG) (U HS1) (fun j hj => (ownsRow_lt (U HOWN) hj).2)
              refine ⟨j + 1, some ⟨g5, 0, none⟩, cap5, by go_num, by omega, ?_, ?_, ?_, ?_⟩
              · rw [e5, el]
              · rw [e5, el]
                unfold OwnC
                rw [el, instr_app]
                exact U HO
              · exact hb5
              · exact (U HIN0).below hb5
            case measure => simp [intOf]; omega
        · have hjj : j = row.length := by omega
          subst hjj
          rw [List.take_length, ← chRow_app] at HOWN ⊢
          clear hown hbw hin
          go_wp2_with fail
          go_roundw
          case rel =>
            refine ⟨k + 1, ao, c, by go_num, by omega, ?_, ?_, U HBW⟩
            · rw [U HNX]
            · rw [U HNX]; exact U HOWN
          case measure => simp [intOf]; omega
    · have hkk : k = rs.length := by omega
      subst hkk
      rw [List.take_length] at HOWN ⊢
      clear hown hbw
      go_wp2_with fail
      go_ret
      exact ⟨ao, c, rfl, U HOWN, U HBW⟩
/-- Does a shorter row fail alike on every stack of which that is known? -/
def failsS (k : Int × Int) (old short next : List (Int × Int)) : Bool :=
  (List.range (3 * (old.length + next.length) + 1)).all fun i => (List.range (3 * (old.length + next.length) + 1)).all fun j => alikeS (chRow (old ++ next)) (chRow (short ++ next)) (k.1 + i) (k.1 + i + (k.2 + j))
theorem all_next (n : Nat) (f : Nat → Bool) : (List.range (n + 1)).all f = ((List.range n).all f && f n) := by
  rw [List.range_succ, List.all_append]
  simp
theorem all_false {n i : Nat} {f : Nat → Bool} (h : i < n) (hf : f i = false) : (List.range n).all f = false := by
  cases e : (List.range n).all f with
  | false => rfl
  | true =>
    have := List.all_eq_true.1 e i (List.mem_range.2 h)
    rw [hf] at this
    cases this
theorem rows_two (w : World) (a b : Option Addr) (c d : Nat) (l1 l2 : List (Int × Int)) (h1 : InL w a l1) (h2 : InL w b l2) (T : TypeId) : RowsAt (w.alloc (.cells #[.slice a l1.length c, .slice b l2.length d] T)) w.heap.size [(a, c, l1), (b, d, l2)] := by
  have hb := Blk.new w #[.slice a l1.length c, .slice b l2.length d] T
  have hbel := below_box w (.cells #[.slice a l1.length c, .slice b l2.length d] T)
  refine ⟨hb.lt, fun j r hj => ?_⟩
  rw [hb.cell]
  match j, hj with
  | 0, hj => simp at hj; subst hj; exact ⟨rfl, h1.below hbel⟩
  | 1, hj => simp at hj; subst hj; exact ⟨rfl, h2.below hbel⟩
  | j + 2, hj => simp at hj
theorem chRow_small {row : List (Int × Int)} (h : ∀ x ∈ row, 0 ≤ x.1 ∧ x.1 ≤ 32) : ∀ x ∈ chRow row, (0 ≤ x.1 ∧ x.1 ≤ 10) ∧ (0 ≤ x.2 ∧ x.2 ≤ 10) := by
  intro x hx
  obtain ⟨y, hy, rfl⟩ := List.mem_map.1 hx
  have hy1 := h y hy
  have e : y.1 = ((y.1.toNat : Nat) : Int) := by omega
  have := change_small y.1.toNat (by omega)
  rw [← e] at this
  omega

set_option maxRecDepth 100000 in
set_option maxHeartbeats 8000000 in
theorem failsAlike_any (fb tb : Nat) (rv : Value) (k1 k2 : Int) (ao so no : Option Addr) (ac sc nc : Nat) (old short next : List (Int × Int)) (w : World) (hf : FoldAt w fb tb rv) (ha : InL w ao old) (hs : InL w so short) (hx : InL w no next) (hn : old.length + next.length ≤ 50 ∧ short.length + next.length ≤ 50) (hk : (0 ≤ k1 ∧ k1 ≤ 500000) ∧ (0 ≤ k2 ∧ k2 ≤ 500000))
    (hoa : ∀ x ∈ old, 0 ≤ x.1 ∧ x.1 ≤ 32) (hos : ∀ x ∈ short, 0 ≤ x.1 ∧ x.1 ≤ 32) (hox : ∀ x ∈ next, 0 ≤ x.1 ∧ x.1 ≤ 32) :
    Calls Tryz.prog 239 #[.pointer (some ⟨fb, 0, none⟩), .agg #[.int .i64 k1, .int .i64 k2], .slice ao old.length ac, .slice so short.length sc, .slice no next.length nc] w fun e w' => e = .returned (.bool (failsS (k1, k2) old short next)) ∧ Below w.heap.size w w' := by
  have hb0 := below_box w (.cells #[.int .i64 k1, .int .i64 k2] 277)
  have hkb := Blk.new w #[.int .i64 k1, .int .i64 k2] 277
  have eb : catS [(ao, ac, old), (no, nc, next)] = old ++ next := by simp [catS]
  have ea : catS [(so, sc, short), (no, nc, next)] = short ++ next := by simp [catS]
  have HC1 : Hid (∀ W, Below w.heap.size w W → Calls Tryz.prog 246 #[.pointer (some ⟨fb, 0, none⟩), .slice (some ⟨W.heap.size, 0, none⟩) 2 2] (W.alloc (.cells #[.slice ao old.length ac, .slice no next.length nc] 33)) fun e w' => ∃ ao' c', e = .returned (.slice ao' (chRow (old ++ next)).length c') ∧ PairsAt w' ao' (chRow (old ++ next)) ∧ Below W.heap.size W w') := fun W hW => by
    have hbW := below_box W (.cells #[.slice ao old.length ac, .slice no next.length nc] 33)
    have := changesOf_any fb tb W.heap.size 2 rv [(ao, ac, old), (no, nc, next)] _ ((hf.below hW).below hbW) (rows_two W ao no ac nc old next (ha.below hW) (hx.below hW) 33) (by simp) (by rw [eb, List.length_append]; omega) (by rw [eb]; intro x hx'; rcases List.mem_append.1 hx' with h | h; exact hoa x h; exact hox x h)
    rw [eb] at this
    refine this.mono ?_
    rintro e w' ⟨a', c', rfl, h1, h2⟩
    exact ⟨a', c', rfl, h1.pairs, hbW.trans (h2.mono hbW.size)⟩
  have HC2 : Hid (∀ W, Below w.heap.size w W → Calls Tryz.prog 246 #[.pointer (some ⟨fb, 0, none⟩), .slice (some ⟨W.heap.size, 0, none⟩) 2 2] (W.alloc (.cells #[.slice so short.length sc, .slice no next.length nc] 33)) fun e w' => ∃ ao' c', e = .returned (.slice ao' (chRow (short ++ next)).length c') ∧ PairsAt w' ao' (chRow (short ++ next)) ∧ Below W.heap.size W w') := fun W hW => by
    have hbW := below_box W (.cells #[.slice so short.length sc, .slice no next.length nc] 33)
    have := changesOf_any fb tb W.heap.size 2 rv [(so, sc, short), (no, nc, next)] _ ((hf.below hW).below hbW) (rows_two W so no sc nc short next (hs.below hW) (hx.below hW) 33) (by simp) (by rw [ea, List.length_append]; omega) (by rw [ea]; intro x hx'; rcases List.mem_append.1 hx' with h | h; exact hos x h; exact hox x h)
    rw [ea] at this
    refine this.mono ?_
    rintro e w' ⟨a', c', rfl, h1, h2⟩
    exact ⟨a', c', rfl, h1.pairs, hbW.trans (h2.mono hbW.size)⟩
  have hsb : ∀ x ∈ chRow (old ++ next), (0 ≤ x.1 ∧ x.1 ≤ 10) ∧ (0 ≤ x.2 ∧ x.2 ≤ 10) := chRow_small (fun x hx' => by rcases List.mem_append.1 hx' with h | h; exact hoa x h; exact hox x h)
  have hsa : ∀ x ∈ chRow (short ++ next), (0 ≤ x.1 ∧ x.1 ≤ 10) ∧ (0 ≤ x.2 ∧ x.2 ≤ 10) := chRow_small (fun x hx' => by rcases List.mem_append.1 hx' with h | h; exact hos x h; exact hox x h)
  have hlb : (chRow (old ++ next)).length = old.length + next.length := by rw [chRow_len, List.length_append]
  have hla : (chRow (short ++ next)).length = short.length + next.length := by rw [chRow_len, List.length_append]
  unfold failsS
  rw [← hlb]
  have hl50 : (chRow (old ++ next)).length ≤ 50 := by omega
  have hl51 : (chRow (short ++ next)).length ≤ 50 := by omega
  have HSB := V hsb
  have HSA := V hsa
  have HB0 := V hb0
  have HKB := V hkb
  clear hf ha hs hx hoa hos hox eb ea hsb hsa hlb hla hb0 hkb hn
  generalize chRow (old ++ next) = b at *
  generalize chRow (short ++ next) = a at *
  simp only
  generalize hP : (fun (i j : Nat) => alikeS b a (k1 + i) (k1 + i + (k2 + j))) = P
  have HPE : Hid (∀ i j : Nat, P i j = alikeS b a (k1 + i) (k1 + i + (k2 + j))) := fun i j => by rw [← hP]
  have e2 : ((List.range (3 * b.length + 1)).all fun i => (List.range (3 * b.length + 1)).all fun j => alikeS b a (k1 + i) (k1 + i + (k2 + j))) = (List.range (3 * b.length + 1)).all (fun i => (List.range (3 * b.length + 1)).all (P i)) := by rw [← hP]
  rw [e2]
  clear hP e2
  have hsz : (w.alloc (.cells #[.int .i64 k1, .int .i64 k2] 277)).heap.size = w.heap.size + 1 := by simp
  have hc1 := U HC1 _ (U HB0)
  rw [hsz] at hc1
  have HC1' := V hc1
  clear hc1 HC1
  generalize hres : ((List.range (3 * b.length + 1)).all (fun i => (List.range (3 * b.length + 1)).all (P i))) = res
  have HRES := V hres
  clear hres
  go_enter Tryz.func239, Tryz.ntmps239
  go_wp2_with fail
  refine (U HC1').mono ?_
  rintro e w1 ⟨bo, bc, rfl, hpb, hb1⟩
  have hkb1 := Blk.below (U HKB) hb1 (by simp)
  have hbw1 : Below w.heap.size w w1 := (U HB0).trans (hb1.mono (by omega))
  have HK1 := V hkb1
  have HBW1 := V hbw1
  have HPB := V hpb
  have HC2' := V (U HC2 w1 hbw1)
  clear hpb hb1 hkb1 hbw1 HC1' HC2 HKB HB0
  go_wp2_with fail
  refine (U HC2').mono ?_
  rintro e w2 ⟨aa, ac2, rfl, hpa, hb2⟩
  have hkb2 := (U HK1).below hb2 (U HK1).lt
  have HBW2 : Hid (Below w.heap.size w w2) := (U HBW1).trans (hb2.mono (U HBW1).size)
  have HPB2 := V ((U HPB).below hb2)
  have HPA := V hpa
  have HK2 := V hkb2
  have hck := hkb2.cell
  have hlk := hkb2.lt
  clear hpa hb2 hkb2 HC2' HK1 HPB HBW1
  have hbI : (b.length : Int) ≤ 50 := by omega
  have hm3 : IntKind.i64.wrap (3 * (b.length : Int)) = 3 * (b.length : Int) := by rw [IntKind.wrap_i64]; omega
  go_wp2_with fail
  go_loopw [14] (fun v wr => ∃ i : Nat, v = .int .i64 (k1 + i) ∧ i ≤ 3 * b.length + 1 ∧ (List.range i).all (fun i => (List.range (3 * b.length + 1)).all (P i)) = true ∧ Below w2.heap.size w2 wr) (fun v _ => (3 * b.length + 1) - (intOf v - k1).toNat)
  case atStart => exact ⟨0, by simp, Nat.zero_le _, rfl, Below.refl _ _⟩
  case round =>
    obtain ⟨i, rfl, hi, hall, hbw⟩ := hrel
    have HBW := V hbw
    have HALL := V hall
    have hk3 := (U HK2).below hbw (U HK2).lt
    have hck3 := hk3.cell
    have hlk3 := hk3.lt
    clear hck hlk hall hbw hk3
    by_cases hlt : i < 3 * b.length + 1
    · have hg : (k1 + i : Int) ≤ k1 + 3 * (b.length : Int) := by omega
      obtain ⟨w0, hw0⟩ : ∃ w0 : World, w0 = wr := ⟨_, rfl⟩
      rw [hw0.symm] at HBW hck3 hlk3 ⊢
      clear hw0
      go_wp2_with fail
      go_loopw [15] (fun v wr => ∃ j : Nat, v = .int .i64 (k2 + j) ∧ j ≤ 3 * b.length + 1 ∧ (List.range j).all (P i) = true ∧ Below w2.heap.size w2 wr) (fun v _ => (3 * b.length + 1) - (intOf v - k2).toNat)
      case atStart => exact ⟨0, by simp, Nat.zero_le _, rfl, U HBW⟩
      case round =>
        obtain ⟨j, rfl, hj, hallj, hbw⟩ := hrel
        have HBJ := V hbw
        have HALJ := V hallj
        have hk4 := (U HK2).below hbw (U HK2).lt
        have hck4 := hk4.cell
        have hlk4 := hk4.lt
        clear hck3 hlk3 hallj hbw hk4
        by_cases hltj : j < 3 * b.length + 1
        · have hgj : (k2 + j : Int) ≤ k2 + 3 * (b.length : Int) := by omega
          have HAL := V (isAlike_any bo aa bc ac2 b a (k1 + i) (k1 + i + (k2 + j)) wr ((U HPB2).below (U HBJ)) ((U HPA).below (U HBJ)) ⟨hl50, hl51⟩ (U HSB) (U HSA) (by omega))
          rw [← U HPE i j] at HAL
          generalize hpij : P i j = pij at *
          have HPIJ := V hpij
          clear hpij
          go_wp2_with fail
          refine (U HAL).mono ?_
          rintro e w3 ⟨rfl, hb3⟩
          have HB3 : Hid (Below w2.heap.size w2 w3) := (U HBJ).trans (hb3.mono (U HBJ).size)
          clear HAL hb3 hck4 hlk4
          cases pij with
          | true =>
            go_wp2_with fail
            go_roundw
            case rel => exact ⟨j + 1, by go_num, by omega, by rw [all_next, U HALJ, U HPIJ]; rfl, U HB3⟩
            case measure => simp [intOf]; omega
          | false =>
            go_wp2_with fail
            go_ret
            refine ⟨?_, (U HBW2).trans ((U HB3).mono (U HBW2).size)⟩
            rw [← U HRES, all_false hlt (all_false hltj (U HPIJ))]
            rfl
        · have hjj : j = 3 * b.length + 1 := by omega
          subst hjj
          have hgj : ¬ (k2 + ((3 * b.length + 1 : Nat) : Int) ≤ k2 + 3 * (b.length : Int)) := by omega
          go_wp2_with fail
          go_roundw
          case rel => exact ⟨i + 1, by go_num, by omega, by rw [all_next, U HALL, U HALJ]; rfl, U HBJ⟩
          case measure => simp [intOf]; omega
    · have hii : i = 3 * b.length + 1 := by omega
      subst hii
      have hg : ¬ (k1 + ((3 * b.length + 1 : Nat) : Int) ≤ k1 + 3 * (b.length : Int)) := by omega
      go_wp2_with fail
      go_ret
      refine ⟨?_, (U HBW2).trans ((U HBW).mono (U HBW2).size)⟩
      rw [← U HRES, U HALL]
      rfl
/-- The run of a row by itself. -/
def reckRun (row : List (Int × Int)) : MS × Int × Int := runM (row ++ [(5, 0)]) (row.length + 1) 0 (startM 0 1000 1000 1000 1000 0 0)
/-- A row that hangs on no values but its own: the values that it leaves. -/
def reckonedS (row : List (Int × Int)) : Option (List (Int × Int)) :=
  if (row.getD 0 (0, 0)).1 ≠ 0 ∨ row.all reckS = false then none
  else if (reckRun row).2.1 ≠ 0 ∨ row.length ≤ (reckRun row).1.stack.length then none
  else some ((reckRun row).1.stack.map (fun p => ((0 : Int), p)))
theorem reck_ok {row : List (Int × Int)} (h : row.all reckS = true) (hi : ∀ x ∈ row, inI x.2) (hn : row.length ≤ 1000) : CodeOk (row ++ [(5, 0)]) := by
  refine ⟨fun x hx => ?_, ⟨(5, 0), by simp, Or.inr (Or.inr rfl)⟩, by simp; omega⟩
  rcases List.mem_append.1 hx with hx | hx
  · have h1 := List.all_eq_true.1 h x hx
    have h2 : x.1 = 0 ∨ 9 ≤ x.1 ∧ x.1 ≤ 25 := of_decide_eq_true h1
    refine ⟨by omega, hi x hx, fun h3 => ?_⟩
    exfalso
    unfold namesS at h3
    simp only [Bool.or_eq_true, beq_iff_eq] at h3
    omega
  · simp at hx
    subst hx
    exact ⟨by simp, by unfold inI; simp, fun h3 => by simp [namesS] at h3⟩
theorem ints_row {B : Nat} {w : World} {ao : Option Addr} {n k : Nat} {l : List Int} (h : w.ownsRow B 2 1 (.slice ao n k) l.length (intCells l)) : IntsL w ao l ∧ n = l.length := by
  obtain ⟨a, c, hv⟩ := own_shape h
  simp only [Value.slice.injEq] at hv
  obtain ⟨rfl, rfl, rfl⟩ := hv
  refine ⟨?_, rfl⟩
  rcases h.2 with ⟨e1, e2⟩ | ⟨g, cap, cur, e, _⟩
  · have : l.length = 0 := by
      simp only [Value.slice.injEq] at e1
      exact e1.2.1
    exact Or.inl (List.length_eq_zero_iff.1 this)
  · simp only [Value.slice.injEq] at e
    obtain ⟨rfl, _, rfl⟩ := e
    refine Or.inr ⟨g, rfl, (ownsRow_lt h (k := g) rfl).1, fun j p hj => ?_⟩
    have hjl : j < l.length := (List.getElem?_eq_some_iff.1 hj).1
    rw [own_cell h j (by omega)]
    unfold intCells
    rw [List.getElem?_map, hj]
    rfl
end Go.Proofs.YtmeiikjpaepogaaGreatDoor
