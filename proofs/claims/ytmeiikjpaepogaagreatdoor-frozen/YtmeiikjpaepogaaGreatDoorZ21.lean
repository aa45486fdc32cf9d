/- The program's machine: order. -/
import Derived.Test.YtmeiikjpaepogaaGreatDoorZ20
import Derived.Test.YtmeiikjpaepogaaGreatDoorZ02
import Derived.Laws.CopyOwn
import Derived.Deep.RegionHeldLaw
namespace Go.Proofs.YtmeiikjpaepogaaGreatDoor
open Go Go.RowKit

/-- The value at a place of the three. -/
def valAt (x0 x1 x2 : Int) (p : Nat) : Int := if p = 0 then x0 else if p = 1 then x1 else x2
/-- Places that lie in memory below B. -/
def PlacesAt (B : Nat) (w : World) (qo : Option Addr) (ps : List Nat) : Prop := ∀ (j p : Nat), ps[j]? = some p → p < 3 ∧ ∃ q, qo = some ⟨q, 0, none⟩ ∧ q < B ∧ w.cell? ⟨q, j, none⟩ = some (.int .i64 p)
theorem PlacesAt.to {B : Nat} {w w' : World} {qo : Option Addr} {ps : List Nat} (h : PlacesAt B w qo ps) (hb : Below B w w') : PlacesAt B w' qo ps := by
  intro j p hj
  obtain ⟨h1, q, h2, h3, h4⟩ := h j p hj
  exact ⟨h1, q, h2, h3, by rw [hb.cell (by simpa using h3)]; exact h4⟩

theorem PmPost.step {B : Nat} {w w0 w1 w' : World} {b tb : Nat} {vl : Value} {st : Int} {m : MS} (hk : KeepB w w0) (hb : Below B w w0) (ha : Below w0.heap.size w0 w1) (hB : B ≤ w0.heap.size) (h : PmE B w' b tb vl m st ∧ KeepB w1 w' ∧ Below B w1 w') : PmE B w' b tb vl m st ∧ KeepB w w' ∧ Below B w w' :=
  ⟨h.1, hk.trans ((KeepB.ofBelow ha).trans h.2.1), hb.trans ((ha.mono hB).trans h.2.2)⟩

set_option maxRecDepth 100000 in
set_option maxHeartbeats 8000000 in
theorem deed_order (B b tb : Nat) (vl : Value) (m : MS) (st : Int) (w : World) (h : PmE B w b tb vl m st) (arg x0 x1 x2 : Int) (hs : m.stack.length ≤ 1000) (pb c : Nat) (qo : Option Addr) (ps : List Nat) (hpb : Blk w pb #[.slice qo ps.length c] 115) (hat : PlacesAt B w qo ps) (hps : ps.length ≤ 3) :
    Calls Tryz.prog 166 #[.pointer (some ⟨b, 0, none⟩), .int .i64 arg, .agg #[.int .i64 x0, .int .i64 x1, .int .i64 x2], .pointer (some ⟨pb, 0, none⟩)] w (DeedPost B w b tb vl st { m with stack := m.stack ++ ps.map (valAt x0 x1 x2) } 0) := by
  have hb := below_box w (.cells #[.int .i64 x0, .int .i64 x1, .int .i64 x2] 171)
  have hnew := Blk.new w #[.int .i64 x0, .int .i64 x1, .int .i64 x2] 171
  have hB := h.size
  have hcp := hpb.cell
  have hlp := hpb.lt
  have HB := V hb
  have HN := V hnew
  have HH := V (h.below hb)
  have HA := V hat
  have hpsI : (ps.length : Int) ≤ 3 := by omega
  clear h hb hnew hpb hat
  go_enter Tryz.func166, Tryz.ntmps166
  go_wp2_with fail
  go_loopw [12] (fun i wr => ∃ k : Nat, i = .int .i64 k ∧ k ≤ ps.length ∧ PmE B wr b tb vl { m with stack := m.stack ++ (ps.take k).map (valAt x0 x1 x2) } st ∧ KeepB (w.alloc (.cells #[.int .i64 x0, .int .i64 x1, .int .i64 x2] 171)) wr ∧ Below B (w.alloc (.cells #[.int .i64 x0, .int .i64 x1, .int .i64 x2] 171)) wr) (fun i _ => ps.length - (intOf i).toNat)
  case atStart => exact ⟨0, rfl, Nat.zero_le _, by simpa using U HH, KeepB.refl _, Below.refl _ _⟩
  case round =>
    obtain ⟨k, rfl, hk, hm, hkb, hbl⟩ := hrel
    have hbox := hkb _ _ _ (U HN) (Or.inl rfl)
    have hcb := hbox.cell
    have hlb := hbox.lt
    by_cases hlt : k < ps.length
    · obtain ⟨p, hp⟩ : ∃ p, ps[k]? = some p := ⟨_, List.getElem?_eq_getElem hlt⟩
      obtain ⟨hp3, q, rfl, hqB, hqc⟩ := ((U HA).to (((U HB).mono hB).trans hbl)) k p hp
      have hltI : (k : Int) < ps.length := by omega
      have hT : (ps.take (k + 1)).map (valAt x0 x1 x2) = (ps.take k).map (valAt x0 x1 x2) ++ [valAt x0 x1 x2 p] := by
        rw [List.take_add_one, hp]; simp
      have hlen : (m.stack ++ (ps.take k).map (valAt x0 x1 x2)).length ≤ 2000 ∧ 1 ≤ 10 := by simp; omega
      have hbn := below_box wr (.cells #[.int .i64 (valAt x0 x1 x2 p)] 2)
      have HP := V (pmPush_any B b tb vl _ st _ (hm.below hbn) wr.heap.size 1 1 [valAt x0 x1 x2 p] rfl (NumsAt.new _ _ _) hlen)
      have HBN := V hbn
      have HT := V hT
      have HKB := V hkb
      have HBL := V hbl
      have hBr := hm.size
      have hql : q < wr.heap.size := by omega
      have h012 : p = 0 ∨ p = 1 ∨ p = 2 := by omega
      clear hm hkb hbl hbn hT hbox hlen hp hp3 HH HN hcp
      rcases h012 with rfl | rfl | rfl
      all_goals
        simp only [valAt] at HP HBN
        go_wp2_with fail
        refine (U HP).mono ?_
        rintro e w1 ⟨rfl, h1⟩
        have H1 := V h1
        clear h1 HP
        go_wp2_with fail
        go_roundw
        case rel =>
          obtain ⟨k1, k2, k3⟩ := PmPost.step (U HKB) (U HBL) (U HBN) hBr (U H1)
          refine ⟨k + 1, by go_num, by omega, ?_, k2, k3⟩
          rw [U HT]
          simpa [valAt] using k1
        case measure => simp [intOf]; omega
    · have hkk : k = ps.length := by omega
      subst hkk
      have HM := V hm
      have HKB := V hkb
      have HBL := V hbl
      clear hm hkb hbl hbox hcp
      go_wp2_with fail
      go_ret
      have := U HM
      rw [List.take_length] at this
      exact PmPost.deed (U HB) hB ⟨this, U HKB, U HBL⟩
def nth (r : List Int) (i : Nat) : Int := r[i]?.getD 0
theorem splice_three (r : List Int) (h : r.length ≤ 3) : (splice [Value.int .i64 0, .int .i64 0, .int .i64 0] 0 (intCells r)).toArray = #[.int .i64 (nth r 0), .int .i64 (nth r 1), .int .i64 (nth r 2)] := by
  match r, h with
  | [], _ => simp [splice, intCells, nth]
  | [a], _ => simp [splice, intCells, nth]
  | [a, b], _ => simp [splice, intCells, nth]
  | [a, b, c], _ => simp [splice, intCells, nth]
  | _ :: _ :: _ :: _ :: _, h => simp at h
theorem Tryz.infoSz : (Tryz.prog.info? 2).map (·.size) = some 1 := by kernel_rfl
theorem add_off (g n j : Nat) : (⟨g, n, none⟩ : Addr).add j = ⟨g, n + j, none⟩ := by
  by_cases h : j = 0 <;> simp [Addr.add, h]
theorem Tryz.sizeValues : (Tryz.prog.info? 171).map (fun i => i.size) = some 3 := by kernel_rfl
def Taken (B : Nat) (w : World) (b tb : Nat) (vl : Value) (m : MS) (st : Int) (y0 y1 y2 : Int) (e : Ending) (w' : World) : Prop := e = .returned (.agg #[.int .i64 y0, .int .i64 y1, .int .i64 y2]) ∧ PmE B w' b tb vl m st ∧ KeepB w w' ∧ Below B w w'

theorem below_both {n b c : Nat} {w wc : World} {cs : Array Value} {T : TypeId} (h : Below n w wc) (hb : Blk w b cs T) (hlt : b < n) (v : Value) : Below n (w.setCell ⟨b, c, none⟩ v) (wc.setCell ⟨b, c, none⟩ v) := by
  refine ⟨h.os, h.tape, h.output, by simpa [World.setCell] using h.size, fun k hk => ?_⟩
  by_cases e : k = b
  · subst e
    exact ((hb.below h hlt).set c v).trans (hb.set c v).symm
  · rw [Below.heap_setCell _ _ _ _ (by simpa using e), Below.heap_setCell _ _ _ _ (by simpa using e)]
    exact h.block k hk

set_option maxRecDepth 100000 in
set_option maxHeartbeats 8000000 in
theorem pmTake_some (B b tb : Nat) (vl : Value) (m : MS) (st : Int) (w : World) (g k : Nat) (vA vC vE vO : Value) (h : Pm B w b tb vl m st (.slice (some ⟨g, 0, none⟩) m.stack.length k) vA vC vE vO) (l r : List Int) (he : m.stack = l ++ r) (hr : r.length ≤ 3) (hs : m.stack.length ≤ 1000) :
    Calls Tryz.prog 171 #[.pointer (some ⟨b, 0, none⟩), .int .i64 r.length] w (Taken B w b tb vl { m with stack := l } st (nth r 0) (nth r 1) (nth r 2)) := by
  have hn : m.stack.length = l.length + r.length := by rw [he]; simp
  have hown := own_cut h.oS l.length (by omega)
  rw [he, intCells_take] at hown
  have hk : (l.length : Int) + r.length ≤ k := by have := (own_cap h.oS).1; omega
  have hsrc : ∀ (j : Nat) (v : Value), (intCells r)[j]? = some v → w.cell? ((⟨g, l.length, none⟩ : Addr).add j) = some v := by
    intro j v hj
    have hjl : j < r.length := by have := (List.getElem?_eq_some_iff.1 hj).1; simpa [intCells] using this
    have := own_cell h.oS (l.length + j) (by omega)
    rw [add_off, this, he, ← hj]
    unfold intCells
    rw [List.map_append, List.getElem?_append_right (by simp)]
    simp
  have hb := h.blk
  unfold pmArr at hb
  rw [hn] at hb
  have hc := hb.cell
  have hf := hb.free
  have hbl := hb.lt
  have hgl : g < w.heap.size := (ownsRow_lt h.oS rfl).1
  have HH := V h
  have HS := V hsrc
  have HO := V hown
  have HST := V (splice_three r hr)
  clear hb h hown hsrc
  have hln : Hid (l.length = l.length) := rfl
  generalize hln' : l.length = n at *
  generalize hrn : r.length = rn at *
  have h1 : (n : Int) ≤ 1000 := by omega
  have h2 : (rn : Int) ≤ 3 := by omega
  have hk2 : (n : Int) ≤ k := by omega
  have hwr : IntKind.i64.wrap ((n : Int) + rn - rn) = n := by rw [IntKind.wrap_i64]; omega
  have hsub : (n : Int) + rn - rn = n := by omega
  have hnr : ((n + rn : Nat) : Int) = (n : Int) + rn := by omega
  have HZ : Hid ((((w.alloc (.cells #[.int .i64 0, .int .i64 0, .int .i64 0] 171)).alloc (.cells #[.int .i64 0, .int .i64 0, .int .i64 0] 171)).drew).heap[w.heap.size + 1]? = some (.cells [Value.int .i64 0, .int .i64 0, .int .i64 0].toArray 171 (0, 0))) := by
    have := Blk.new (w.alloc (.cells #[.int .i64 0, .int .i64 0, .int .i64 0] 171)) #[.int .i64 0, .int .i64 0, .int .i64 0] 171
    rw [size_up'] at this
    exact this.drew
  have HB2 : Hid (Below (w.heap.size + 1) (w.alloc (.cells #[.int .i64 0, .int .i64 0, .int .i64 0] 171)) (((w.alloc (.cells #[.int .i64 0, .int .i64 0, .int .i64 0] 171)).alloc (.cells #[.int .i64 0, .int .i64 0, .int .i64 0] 171)).drew)) := by
    have := below_drew' (below_box (w.alloc (.cells #[.int .i64 0, .int .i64 0, .int .i64 0] 171)) (.cells #[.int .i64 0, .int .i64 0, .int .i64 0] 171))
    rw [size_up'] at this
    exact this
  have HS2 : Hid (∀ (j : Nat) (v : Value), (intCells r)[j]? = some v → (((w.alloc (.cells #[.int .i64 0, .int .i64 0, .int .i64 0] 171)).alloc (.cells #[.int .i64 0, .int .i64 0, .int .i64 0] 171)).drew).cell? ((⟨g, n, none⟩ : Addr).add j) = some v) := by
    intro j v hj
    have := U HS j v hj
    rw [add_off] at this ⊢
    rw [(below_drew' (below_box2 w _ _)).cell (by simpa using hgl)]
    exact this
  have HL : Hid ((intCells r).length = Nat.min rn 3) := by
    show (intCells r).length = Nat.min rn 3
    rw [intCells_len, hrn]
    exact (Nat.min_eq_left hr).symm
  have HF : Hid (0 + (intCells r).length ≤ [Value.int .i64 0, .int .i64 0, .int .i64 0].length) := by
    show 0 + (intCells r).length ≤ 3
    rw [intCells_len, hrn]; omega
  have hnn : (n : Int) ≤ (n : Int) + rn := by omega
  obtain ⟨o, hko, HPO⟩ : ∃ o, (if k = n then some (⟨g, 0, none⟩ : Addr) else some ⟨g, n, none⟩) = some ⟨g, o, none⟩ ∧ Hid (0 < (intCells r).length → ∃ ad, some (⟨g, o, none⟩ : Addr) = some ad ∧ ∀ (j : Nat) (v : Value), (intCells r)[j]? = some v → (((w.alloc (.cells #[.int .i64 0, .int .i64 0, .int .i64 0] 171)).alloc (.cells #[.int .i64 0, .int .i64 0, .int .i64 0] 171)).drew).cell? (ad.add j) = some v) := by
    by_cases e : k = n
    · refine ⟨0, by rw [if_pos e], fun hp => ?_⟩
      rw [intCells_len, hrn] at hp
      omega
    · exact ⟨n, by rw [if_neg e], fun _ => ⟨_, rfl, U HS2⟩⟩
  clear HS HS2
  generalize nth r 0 = y0 at *
  generalize nth r 1 = y1 at *
  generalize nth r 2 = y2 at *
  go_enter Tryz.func171, Tryz.ntmps171
  go_wp2_with fail
  go_cut [] from 14 to 32 (fun wc => Blk wc (w.heap.size + 1) #[.int .i64 y0, .int .i64 y1, .int .i64 y2] 171 ∧ Below (w.heap.size + 1) (w.alloc (.cells #[.int .i64 0, .int .i64 0, .int .i64 0] 171)) wc)
  case first =>
    go_region_law (refine step_copy_splice rfl (.tmp 14) (.tmp 20) 42 42 rfl 2 Tryz.underlying42 Tryz.infoSz (some ⟨w.heap.size + 1, 0, none⟩) (some ⟨g, o, none⟩) 3 3 rn (k - n) (by first | (simp [Act.eval]; done) | (simp [Act.eval, Act.put]; done) | rfl) (by first | (simp [Act.eval]; done) | (simp [Act.eval, Act.put]; done) | rfl) (w.heap.size + 1) 0 [.int .i64 0, .int .i64 0, .int .i64 0] 171 (U HZ) (intCells r) (U HL) (fun hp => ⟨rfl, U HPO hp⟩) (U HF) (int_oneCell _) (w.heap.size + 1) (w.alloc (.cells #[.int .i64 0, .int .i64 0, .int .i64 0] 171)) (U HB2) (Nat.le_refl _) ?_; intro w4 hg4 hb4)
    all_goals
      go_wp2_with fail
      go_meet
      have hz := U hg4
      rw [U HST] at hz
      exact ⟨hz, hb4⟩
  case rest =>
    obtain ⟨hx, hbc⟩ := hcut
    have hzero := (Blk.new w #[.int .i64 0, .int .i64 0, .int .i64 0] 171).below hbc (by omega)
    have hbw : Below w.heap.size w wc := (below_box w _).trans (hbc.mono (by omega))
    have hm := (U HH).below hbw
    have hbk := hm.blk
    unfold pmArr at hbk
    rw [hn] at hbk
    have hc1 := hbk.cell
    have hf1 := hbk.free
    have hcx := hx.cell
    have hcz := hzero.cell
    have hfz := hzero.free
    have hlx := hx.lt
    have hne1 : ¬ b = w.heap.size := by omega
    have hne2 : ¬ b = w.heap.size + 1 := by omega
    have HBW := V hbw
    have HZR := V (hzero.far (a := ⟨b, 9, none⟩) (by simp; omega) (.slice (some ⟨g, 0, none⟩) n k))
    clear hx hbc hzero hbw hm hbk hc hf
    go_wp2_with fail
    have hR := (((U HZR).set 0 (.int .i64 y0)).set 1 (.int .i64 y1)).set 2 (.int .i64 y2)
    simp only [List.setIfInBounds_toArray, List.set_cons_succ, List.set_cons_zero] at hR
    refine bodyPost_ret (results_cell_row (P := Tryz.prog) rfl _ _ w.heap.size 171 _ (0, 0) _ rfl hR Tryz.underlying171 rfl Tryz.sizeValues) rfl ?_
    obtain ⟨k1, k2, k3⟩ := (U HH).grow 0 9 _ (.slice (some ⟨g, 0, none⟩) n k) ⟨2, 1, n, intCells l⟩ { m with stack := l } (.slice (some ⟨g, 0, none⟩) n k) vA vC vE vO rfl (World.grownBy.refl _ _) (U HO) (Or.inl rfl) (by simp [pmArr]) rfl (by simp [pmRows, hln'])
    have hbb := (((below_both (c := 9) (U HBW) (U HH).blk (U HH).blk.lt (.slice (some ⟨g, 0, none⟩) n k)).setCell (p := ⟨w.heap.size, 0, none⟩) (Nat.le_refl _) (.int .i64 y0)).setCell (p := ⟨w.heap.size, 1, none⟩) (Nat.le_refl _) (.int .i64 y1)).setCell (p := ⟨w.heap.size, 2, none⟩) (Nat.le_refl _) (.int .i64 y2)
    have hsz : (w.setCell ⟨b, 9, none⟩ (.slice (some ⟨g, 0, none⟩) n k)).heap.size = w.heap.size := by simp
    exact ⟨rfl, ⟨_, _, _, _, _, k1.below (by rw [hsz]; exact hbb)⟩, k2.trans (KeepB.ofBelow (by rw [hsz]; exact hbb)), k3.trans (hbb.mono (U HH).size)⟩

set_option maxRecDepth 100000 in
set_option maxHeartbeats 8000000 in
theorem pmTake_none (B b tb : Nat) (vl : Value) (m : MS) (st : Int) (w : World) (vA vC vE vO : Value) (h : Pm B w b tb vl m st (.slice none 0 0) vA vC vE vO) :
    Calls Tryz.prog 171 #[.pointer (some ⟨b, 0, none⟩), .int .i64 0] w (Taken B w b tb vl m st 0 0 0) := by
  have hb := h.blk
  unfold pmArr at hb
  have hc := hb.cell
  have hf := hb.free
  have hbl := hb.lt
  have HH := V h
  clear hb h
  have HZ : Hid ((((w.alloc (.cells #[.int .i64 0, .int .i64 0, .int .i64 0] 171)).alloc (.cells #[.int .i64 0, .int .i64 0, .int .i64 0] 171)).drew).heap[w.heap.size + 1]? = some (.cells [Value.int .i64 0, .int .i64 0, .int .i64 0].toArray 171 (0, 0))) := by
    have := Blk.new (w.alloc (.cells #[.int .i64 0, .int .i64 0, .int .i64 0] 171)) #[.int .i64 0, .int .i64 0, .int .i64 0] 171
    rw [size_up'] at this
    exact this.drew
  have HB2 : Hid (Below (w.heap.size + 1) (w.alloc (.cells #[.int .i64 0, .int .i64 0, .int .i64 0] 171)) (((w.alloc (.cells #[.int .i64 0, .int .i64 0, .int .i64 0] 171)).alloc (.cells #[.int .i64 0, .int .i64 0, .int .i64 0] 171)).drew)) := by
    have := below_drew' (below_box (w.alloc (.cells #[.int .i64 0, .int .i64 0, .int .i64 0] 171)) (.cells #[.int .i64 0, .int .i64 0, .int .i64 0] 171))
    rw [size_up'] at this
    exact this
  go_enter Tryz.func171, Tryz.ntmps171
  go_wp2_with fail
  go_cut [] from 14 to 32 (fun wc => Blk wc (w.heap.size + 1) #[.int .i64 0, .int .i64 0, .int .i64 0] 171 ∧ Below (w.heap.size + 1) (w.alloc (.cells #[.int .i64 0, .int .i64 0, .int .i64 0] 171)) wc)
  case first =>
    go_region_law (refine step_copy_splice rfl (.tmp 14) (.tmp 20) 42 42 rfl 2 Tryz.underlying42 Tryz.infoSz (some ⟨w.heap.size + 1, 0, none⟩) none 3 3 0 0 (by first | (simp [Act.eval]; done) | (simp [Act.eval, Act.put]; done) | rfl) (by first | (simp [Act.eval]; done) | (simp [Act.eval, Act.put]; done) | rfl) (w.heap.size + 1) 0 [.int .i64 0, .int .i64 0, .int .i64 0] 171 (U HZ) [] rfl (fun hp => absurd hp (by simp)) (by simp) (by simp) (w.heap.size + 1) (w.alloc (.cells #[.int .i64 0, .int .i64 0, .int .i64 0] 171)) (U HB2) (Nat.le_refl _) ?_; intro w4 hg4 hb4)
    all_goals
      go_wp2_with fail
      go_meet
      have hz := U hg4
      exact ⟨hz, hb4⟩
  case rest =>
    obtain ⟨hx, hbc⟩ := hcut
    have hzero := (Blk.new w #[.int .i64 0, .int .i64 0, .int .i64 0] 171).below hbc (by omega)
    have hbw : Below w.heap.size w wc := (below_box w _).trans (hbc.mono (by omega))
    have hm := (U HH).below hbw
    have hbk := hm.blk
    unfold pmArr at hbk
    have hc1 := hbk.cell
    have hf1 := hbk.free
    have hcx := hx.cell
    have hcz := hzero.cell
    have hfz := hzero.free
    have hlx := hx.lt
    have hne1 : ¬ b = w.heap.size := by omega
    have hne2 : ¬ b = w.heap.size + 1 := by omega
    have HBW := V hbw
    have HZR := V (hzero.far (a := ⟨b, 9, none⟩) (by simp; omega) (.slice none 0 0))
    clear hx hbc hzero hbw hm hbk hc hf
    go_wp2_with fail
    have hR := (((U HZR).set 0 (.int .i64 0)).set 1 (.int .i64 0)).set 2 (.int .i64 0)
    simp only [List.setIfInBounds_toArray, List.set_cons_succ, List.set_cons_zero] at hR
    refine bodyPost_ret (results_cell_row (P := Tryz.prog) rfl _ _ w.heap.size 171 _ (0, 0) _ rfl hR Tryz.underlying171 rfl Tryz.sizeValues) rfl ?_
    obtain ⟨k1, k2, k3⟩ := (U HH).field 9 (.slice none 0 0) m st (by simp [pmArr]) rfl
    have hbb := (((below_both (c := 9) (U HBW) (U HH).blk (U HH).blk.lt (.slice none 0 0)).setCell (p := ⟨w.heap.size, 0, none⟩) (Nat.le_refl _) (.int .i64 0)).setCell (p := ⟨w.heap.size, 1, none⟩) (Nat.le_refl _) (.int .i64 0)).setCell (p := ⟨w.heap.size, 2, none⟩) (Nat.le_refl _) (.int .i64 0)
    have hsz : (w.setCell ⟨b, 9, none⟩ (.slice none 0 0)).heap.size = w.heap.size := by simp
    exact ⟨rfl, ⟨_, _, _, _, _, k1.below (by rw [hsz]; exact hbb)⟩, k2.trans (KeepB.ofBelow (by rw [hsz]; exact hbb)), k3.trans (hbb.mono (U HH).size)⟩

theorem pmTake_any (B b tb : Nat) (vl : Value) (m : MS) (st : Int) (w : World) (h : PmE B w b tb vl m st) (l r : List Int) (he : m.stack = l ++ r) (hr : r.length ≤ 3) (hs : m.stack.length ≤ 1000) :
    Calls Tryz.prog 171 #[.pointer (some ⟨b, 0, none⟩), .int .i64 r.length] w (Taken B w b tb vl { m with stack := l } st (nth r 0) (nth r 1) (nth r 2)) := by
  obtain ⟨vS, vA, vC, vE, vO, h⟩ := h
  rcases h.oS.2 with ⟨hv, h0⟩ | ⟨g, k, cur, hv, _⟩
  · subst hv
    have e0 : m.stack = [] := List.eq_nil_of_length_eq_zero h0
    rw [e0] at he
    obtain ⟨rfl, rfl⟩ := List.append_eq_nil_iff.1 he.symm
    have em : { m with stack := [] } = m := by cases m; simp only at e0; subst e0; rfl
    rw [em]
    exact pmTake_none B b tb vl m st w vA vC vE vO h
  · subst hv
    exact pmTake_some B b tb vl m st w g k vA vC vE vO h l r he hr hs
section
variable {B : Nat} {w : World} {b tb : Nat} {vl : Value} {m : MS} {st : Int} {vS vA vC vE vO : Value} {g k n : Nat}
theorem Pm.wrote (h : Pm B w b tb vl m st vS vA vC vE vO) (i : Nat) (hv : [vS, vA, vC, vE, vO][i]? = some (.slice (some ⟨g, 0, none⟩) n k)) (j : Nat) (u : Value) (m' : MS) (hr : ∀ s, (pmRows m)[i]? = some s → (pmRows m).set i { s with xs := s.xs.set j u } = pmRows m') (ha : pmArr tb vl m' st vS vA vC vE vO = pmArr tb vl m st vS vA vC vE vO) :
    Pm B (w.setCell ⟨g, j, none⟩ u) b tb vl m' st vS vA vC vE vO ∧ KeepB w (w.setCell ⟨g, j, none⟩ u) ∧ Below B w (w.setCell ⟨g, j, none⟩ u) := by
  have hl := h.owned.len
  have hi : i < (pmRows m).length := by rw [← hl]; exact (List.getElem?_eq_some_iff.1 hv).1
  have hs := List.getElem?_eq_getElem hi
  have hg : b ≠ g := fun e => h.off i _ hv (by rw [e]; rfl)
  refine ⟨⟨?_, h.base, ?_⟩, ?_, ?_⟩
  · rw [ha]; exact h.blk.far hg u
  · have := h.owned.write i g n k _ hv hs j u
    rw [hr _ hs] at this
    exact this
  · exact h.keeps (F := fun q => q = g) (Still.set (F := fun q => q = g) (Still.refl w _) (Or.inl rfl) _ _) (fun q e => Or.inr ⟨i, _, hv, by rw [e]; rfl⟩)
  · exact (Below.refl B w).setCell (ownsRow_lt (h.owned.own i _ _ hv hs) (k := g) rfl).2 _
end

set_option maxRecDepth 100000 in
set_option maxHeartbeats 4000000 in
theorem deed_store (B b tb : Nat) (vl : Value) (m : MS) (st : Int) (w : World) (h : PmE B w b tb vl m st) (arg x0 : Int) (k : Nat) (x2 : Int) (hs : m.cells.length ≤ 1000) (hk : k < m.cells.length) :
    Calls Tryz.prog 119 #[.pointer (some ⟨b, 0, none⟩), .int .i64 arg, .agg #[.int .i64 x0, .int .i64 k, .int .i64 x2]] w (DeedPost B w b tb vl st { m with cells := m.cells.set k x0 } 0) := by
  have hb := below_drew' (below_box w (.cells #[.int .i64 x0, .int .i64 k, .int .i64 x2] 171))
  have HC := V (pmHas_any B b tb vl m st _ (h.below hb) k hs)
  have e : (decide (0 ≤ (k : Int)) && decide ((k : Int) < (m.cells.length : Int))) = true := by simp; omega
  rw [e] at HC
  obtain ⟨vS, vA, vC, vE, vO, h0⟩ := h
  obtain ⟨g, c, hv, hg, hgl⟩ := h0.oE.form (by omega)
  subst hv
  have h1 := h0.below hb
  have hc := h0.blk.cell
  unfold pmArr at hc
  have hbl := h0.blk.lt
  have hx := own_cell h0.oE k (by omega)
  have hf := own_free h0.oE k
  obtain ⟨y, hy⟩ : ∃ y, m.cells[k]? = some y := ⟨_, List.getElem?_eq_getElem hk⟩
  have hx2 : (intCells m.cells)[k]? = some (.int .i64 y) := by simp [intCells, hy]
  rw [hx2] at hx
  have HX2 := V hx2
  have hkI : (k : Int) < m.cells.length := by omega
  have hsI : (m.cells.length : Int) ≤ 1000 := by omega
  have hB := h0.size
  have H1 := V h1
  have HB := V hb
  have hgn : g ≠ w.heap.size := by omega
  clear h0 hb e hx2 hy h1
  go_enter Tryz.func119, Tryz.ntmps119
  go_wp2_with fail
  go_region
  go_wp2_with fail
  refine (U HC).mono ?_
  rintro e w1 ⟨rfl, rfl⟩
  clear HC
  have h1 := U H1
  have hb := U HB
  generalize (w.alloc (.cells #[.int .i64 x0, .int .i64 k, .int .i64 x2] 171)).drew = W0 at h1 hb ⊢
  have hc1 := h1.blk.cell
  unfold pmArr at hc1
  have hx1 := own_cell h1.oE k (by omega)
  rw [U HX2] at hx1
  have hf1 := own_free h1.oE k
  have H1 := V h1
  have HB := V hb
  clear h1 hb hc hx hf
  go_wp2_with fail
  go_ret
  obtain ⟨k1, k2, k3⟩ := (U H1).wrote 3 rfl k (.int .i64 x0) { m with cells := m.cells.set k x0 } (fun s hs => by simp [pmRows] at hs; subst hs; simp [pmRows, intCells, List.map_set]) rfl
  exact PmPost.deed (U HB) hB ⟨⟨_, _, _, _, _, k1⟩, k2, k3⟩

set_option maxRecDepth 100000 in
set_option maxHeartbeats 4000000 in
theorem deed_loop (B b tb : Nat) (vl : Value) (m : MS) (st : Int) (w : World) (h : PmE B w b tb vl m st) (arg x0 x1 x2 : Int) (l : List Int) (x y : Int) (he : m.side = l ++ [x, y]) (hs : m.side.length ≤ 1000) :
    Calls Tryz.prog 98 #[.pointer (some ⟨b, 0, none⟩), .int .i64 arg, .agg #[.int .i64 x0, .int .i64 x1, .int .i64 x2]] w (DeedPost B w b tb vl st (if wrap64 (y + 1) = x then { m with side := l } else { m with side := l ++ [x, wrap64 (y + 1)], pc := arg }) 0) := by
  have hb := below_box w (.cells #[.int .i64 x0, .int .i64 x1, .int .i64 x2] 171)
  obtain ⟨vS, vA, vC, vE, vO, h0⟩ := h
  have hn : m.side.length = l.length + 2 := by rw [he]; simp
  obtain ⟨g, k, hv, hg, hgl⟩ := h0.oA.form (by omega)
  subst hv
  have ho := h0.oA
  have hcs : intCells m.side = intCells l ++ [.int .i64 x, .int .i64 y] := by rw [he, intCells_app]; rfl
  have hxa := own_cell ho l.length (by omega)
  have hxb := own_cell ho (l.length + 1) (by omega)
  rw [hcs] at hxa hxb
  have hla : (intCells l ++ [Value.int .i64 x, .int .i64 y])[l.length]? = some (.int .i64 x) := by rw [List.getElem?_append_right (by rw [intCells_len]; omega), intCells_len, Nat.sub_self]; rfl
  have hlb : (intCells l ++ [Value.int .i64 x, .int .i64 y])[l.length + 1]? = some (.int .i64 y) := by rw [List.getElem?_append_right (by rw [intCells_len]; omega), intCells_len, Nat.add_sub_cancel_left]; rfl
  rw [hla] at hxa
  rw [hlb] at hxb
  have hfb := own_free ho (l.length + 1)
  have hB := h0.size
  have hsI : (l.length : Int) ≤ 1000 := by omega
  have hk : (l.length : Int) + 2 ≤ k := by have := (own_cap ho).1; omega
  have hb1 := h0.blk
  unfold pmArr at hb1
  rw [hn] at hb1
  have hc := hb1.cell
  have hf := hb1.free
  have hbl := h0.blk.lt
  have hbg : b ≠ g := fun e => h0.off 1 _ rfl (by rw [e]; rfl)
  have hgb : g ≠ b := fun e => hbg e.symm
  generalize hz : wrap64 (y + 1) = z
  have hwz : IntKind.i64.wrap (y + 1) = z := by rw [← hz, IntKind.wrap_i64]; unfold wrap64; first | rfl | omega
  obtain ⟨k1, k2, k3⟩ := h0.wrote 1 rfl (l.length + 1) (.int .i64 z) { m with side := l ++ [x, z] } (fun s hs => by
    simp [pmRows] at hs
    subst hs
    have e1 : (intCells m.side).set (l.length + 1) (.int .i64 z) = intCells (l ++ [x, z]) := by
      rw [hcs, intCells_app, List.set_append_right _ _ (by rw [intCells_len]; omega), intCells_len, Nat.add_sub_cancel_left]
      rfl
    simp [pmRows, e1, hn]) (by simp [pmArr])
  have HK := V (And.intro k1 (And.intro k2 k3))
  have HD : Hid (∀ W : World, Below (w.setCell ⟨g, l.length + 1, none⟩ (.int .i64 z)).heap.size (w.setCell ⟨g, l.length + 1, none⟩ (.int .i64 z)) W → Calls Tryz.prog 160 #[.pointer (some ⟨b, 0, none⟩), .int .i64 2] W (PmPost B W b tb vl { m with side := l } st (.tuple #[]))) := by
    intro W hW
    exact pmDrop_any B b tb vl { m with side := l ++ [x, z] } st W ⟨_, _, _, _, _, k1.below hW⟩ l [x, z] rfl (by simp) (by simp; omega)
  have hne : b ≠ w.heap.size := by omega
  have hgn : g ≠ w.heap.size := by omega
  have h1000 : IntKind.i64.wrap ((l.length : Int) + 2 - 1) = (l.length : Int) + 1 := by rw [IntKind.wrap_i64]; omega
  have h1001 : (l.length : Int) + 2 - 1 = (l.length : Int) + 1 := by omega
  clear h0 ho hcs hla hlb k1 k2 k3 hb1 hz
  by_cases hq : z = x
  · rw [if_pos hq]
    subst hq
    go_enter Tryz.func98, Tryz.ntmps98
    go_wp2_with fail
    go_region
    go_wp2_with fail
    have hbW := below_drew' (below_box (w.setCell ⟨g, l.length + 1, none⟩ (.int .i64 z)) (.cells #[.int .i64 x0, .int .i64 x1, .int .i64 x2] 171))
    refine (U HD _ hbW).mono ?_
    rintro e w1 ⟨rfl, h1⟩
    have H1 := V h1
    have HW := V hbW
    clear h1 hbW
    go_wp2_with fail
    go_ret
    obtain ⟨_, n2, n3⟩ := U HK
    obtain ⟨o1, o2, o3⟩ := U H1
    exact ⟨rfl, o1, (n2.trans (KeepB.ofBelow (U HW))).trans o2, (n3.trans ((U HW).mono (by simpa using hB))).trans o3⟩
  · rw [if_neg hq]
    have hq' : (z == x) = false := by simpa using hq
    go_enter Tryz.func98, Tryz.ntmps98
    go_wp2_with fail
    go_region
    have hbW := below_drew' (below_box (w.setCell ⟨g, l.length + 1, none⟩ (.int .i64 z)) (.cells #[.int .i64 x0, .int .i64 x1, .int .i64 x2] 171))
    have h2 := (U HK).1.below hbW
    generalize ((w.setCell ⟨g, l.length + 1, none⟩ (.int .i64 z)).alloc (.cells #[.int .i64 x0, .int .i64 x1, .int .i64 x2] 171)).drew = W0 at h2 hbW ⊢
    have hc2 := h2.blk.cell
    have hf2 := h2.blk.free
    unfold pmArr at hc2
    have H2 := V h2
    have HW := V hbW
    clear h2 hbW hc hf hxa hxb hfb
    go_wp2_with fail
    go_ret
    obtain ⟨_, n2, n3⟩ := U HK
    obtain ⟨o1, o2, o3⟩ := (U H2).field 6 (.int .i64 arg) { m with side := l ++ [x, z], pc := arg } st (by simp [pmArr]) rfl
    exact ⟨rfl, ⟨_, _, _, _, _, o1⟩, (n2.trans (KeepB.ofBelow (U HW))).trans o2, (n3.trans ((U HW).mono (by simpa using hB))).trans o3⟩
theorem Tryz.infoByte : (Tryz.prog.info? 5).map (fun i => (i.zero, i.size, i.bytes)) = some (some (.int .u8 0), 1, 1) := by kernel_rfl
theorem byteCells_len (s : ByteArray) : (byteCells s).length = s.size := by simp [byteCells, bytes_len]
theorem byte_oneCell (s : ByteArray) : ∀ u ∈ byteCells s, u.oneCell' = true := by
  intro u hu
  simp [byteCells] at hu
  obtain ⟨x, _, rfl⟩ := hu
  rfl
theorem toList_app (a b : ByteArray) : (a ++ b).toList = a.toList ++ b.toList := by
  rw [ByteArray.toList_eq, Joins.data_append, ByteArray.toList_eq, ByteArray.toList_eq]
theorem byteCells_app (a b : ByteArray) : byteCells (a ++ b) = byteCells a ++ byteCells b := by
  unfold byteCells
  rw [toList_app, List.map_append]
/-- Bytes that lie in a row. -/
def BytesAt (w : World) (q : Nat) (s : ByteArray) : Prop := ∀ j u, (byteCells s)[j]? = some u → w.cell? ((⟨q, 0, none⟩ : Addr).add j) = some u

set_option maxRecDepth 100000 in
set_option maxHeartbeats 2000000 in
theorem pmPut_no (B b tb : Nat) (vl : Value) (m : MS) (st : Int) (w : World) (h : PmE B w b tb vl m st) (q : Option Addr) (k c : Nat) (hk : k ≤ 100) (hs : m.out.size ≤ 1000) (hq : m.lo < (m.out.size : Int) + k) :
    Calls Tryz.prog 168 #[.pointer (some ⟨b, 0, none⟩), .slice q k c] w fun e w' => e = .returned (.int .i64 14) ∧ Below w.heap.size w w' := by
  obtain ⟨vS, vA, vC, vE, vO, h⟩ := h
  obtain ⟨aO, kO, hvO⟩ := own_shape h.oO
  subst hvO
  have hc := h.blk.cell
  unfold pmArr at hc
  have hsI : (m.out.size : Int) ≤ 1000 := by omega
  have hkI : (k : Int) ≤ 100 := by omega
  have hwr : IntKind.i64.wrap ((m.out.size : Int) + k) = (m.out.size : Int) + k := by rw [IntKind.wrap_i64]; omega
  clear h
  go_enter Tryz.func168, Tryz.ntmps168
  go_wp2_with fail
  go_region
  go_wp2_with fail
  go_ret
  exact ⟨rfl, below_drew' (Below.refl _ _)⟩

set_option maxRecDepth 100000 in
set_option maxHeartbeats 2000000 in
theorem pmPut_any (B b tb : Nat) (vl : Value) (m : MS) (st : Int) (w : World) (h : PmE B w b tb vl m st) (q c : Nat) (s : ByteArray) (hat : BytesAt w q s) (hk : s.size ≤ 100) (hs : m.out.size ≤ 1000) (hq : (m.out.size : Int) + s.size ≤ m.lo) :
    Calls Tryz.prog 168 #[.pointer (some ⟨b, 0, none⟩), .slice (some ⟨q, 0, none⟩) s.size c] w (PmPost B w b tb vl { m with out := m.out ++ s } st (.int .i64 0)) := by
  obtain ⟨i0, hi, hz0, hz1, hz2⟩ := info_parts Tryz.infoByte
  obtain ⟨vS, vA, vC, vE, vO, h⟩ := h
  obtain ⟨aO, kO, hvO⟩ := own_shape h.oO
  subst hvO
  have hne := h.off 4 _ rfl
  have hc := h.blk.cell
  have hf := h.blk.free
  unfold pmArr at hc
  have HO := V h.oO
  have HB := V h.blk
  unfold pmArr at HB
  have HS := V h.size
  have HH := V h
  have HQ := V hat
  have HL : Hid ((byteCells s).length = s.size * 1) := by show (byteCells s).length = s.size * 1; rw [byteCells_len, Nat.mul_one]
  have HOC := V (byte_oneCell s)
  have hsI : (m.out.size : Int) ≤ 1000 := by omega
  have hkI : (s.size : Int) ≤ 100 := by omega
  have hwr : IntKind.i64.wrap ((m.out.size : Int) + s.size) = (m.out.size : Int) + s.size := by rw [IntKind.wrap_i64]; omega
  clear h hat
  go_enter Tryz.func168, Tryz.ntmps168
  go_wp2_with fail
  go_region
  go_wp2_with (at_builtin; refine wpList_append_own_at _ rfl (.tmp 23) (.tmp 24) 86 rfl B 5 i0 _ 1 1 Tryz.underlying86 hi hz0 hz1 hz2 rfl (by decide) (.slice aO m.out.size kO) m.out.size (byteCells m.out) (by simp [Act.eval]) (show w.drew.ownsRow B 5 1 _ _ _ from U HO) ⟨q, 0, none⟩ s.size c (byteCells s) (by simp [Act.eval]) (U HL) (U HQ) (U HOC) (by unfold maxLen; omega) (by omega) (U HS) ?_; intro v5 w5 hown hgrow _ hat; obtain ⟨a5, c5, hv5⟩ := own_shape hown; subst hv5; have hb5 := (show Blk w.drew b _ 122 from U HB).grown hgrow hne; have hc5 := hb5.cell; have hf5 := hb5.free; have HOW := V hown; have HG := V hgrow; have HA := V hat; clear hown hgrow hat hb5 hc hf)
  go_ret
  have ho := U HOW
  rw [← byteCells_app] at ho
  obtain ⟨k1, k2, k3⟩ := ((U HH).below (below_drew' (Below.refl _ _))).grow 4 13 _ (.slice a5 (m.out.size + s.size) c5) ⟨5, 1, m.out.size + s.size, byteCells (m.out ++ s)⟩ { m with out := m.out ++ s } vS vA vC vE (.slice a5 (m.out.size + s.size) c5) rfl (U HG) ho (lies_own (U HA)) (by simp [pmArr]) rfl (by simp [pmRows, ByteArray.size_append])
  exact ⟨rfl, ⟨_, _, _, _, _, k1⟩, k2, (below_drew' (Below.refl _ _)).trans k3⟩

theorem byteCells_one (n : Int) (h0 : 0 ≤ n ∧ n < 256) : byteCells (strOfNums [n]) = [.int .u8 n] := by
  unfold byteCells
  rw [ByteArray.toList_eq, strOfNums_data]
  simp
  omega
theorem size_one (n : Int) : (strOfNums [n]).size = 1 := by rw [strOfNums_size]; rfl

set_option maxRecDepth 100000 in
set_option maxHeartbeats 4000000 in
theorem deed_emit_no (B b tb : Nat) (vl : Value) (m : MS) (st : Int) (w : World) (h : PmE B w b tb vl m st) (arg x0 x1 x2 : Int) (hs : m.out.size ≤ 1000) (hq : m.lo < (m.out.size : Int) + 1) :
    Calls Tryz.prog 121 #[.pointer (some ⟨b, 0, none⟩), .int .i64 arg, .agg #[.int .i64 x0, .int .i64 x1, .int .i64 x2]] w (DeedPost B w b tb vl st m 14) := by
  have hu : IntKind.u8.wrap x0 = x0 % 256 := by simp [IntKind.wrap, IntKind.signed, IntKind.bits]
  have hb := below_box2 w (.cells #[.int .i64 x0, .int .i64 x1, .int .i64 x2] 171) (.cells #[.int .u8 (x0 % 256)] 5)
  have HC := V (pmPut_no B b tb vl m st _ (h.below hb) (some ⟨w.heap.size + 1, 0, none⟩) 1 1 (by omega) hs hq)
  have HH := V h
  have HB := V hb
  clear h hb
  go_enter Tryz.func121, Tryz.ntmps121
  go_wp2_with fail
  refine (U HC).mono ?_
  rintro e w1 ⟨rfl, hb1⟩
  have H1 := V hb1
  clear hb1 HC
  go_wp2_with fail
  go_ret
  exact DeedPost.no ((U HB).trans ((U H1).mono (U HB).size)) (U HH)

set_option maxRecDepth 100000 in
set_option maxHeartbeats 4000000 in
theorem deed_emit (B b tb : Nat) (vl : Value) (m : MS) (st : Int) (w : World) (h : PmE B w b tb vl m st) (arg x0 x1 x2 : Int) (hs : m.out.size ≤ 1000) (hq : (m.out.size : Int) + 1 ≤ m.lo) :
    Calls Tryz.prog 121 #[.pointer (some ⟨b, 0, none⟩), .int .i64 arg, .agg #[.int .i64 x0, .int .i64 x1, .int .i64 x2]] w (DeedPost B w b tb vl st { m with out := m.out ++ strOfNums [x0 % 256] } 0) := by
  have hu : IntKind.u8.wrap x0 = x0 % 256 := by simp [IntKind.wrap, IntKind.signed, IntKind.bits]
  have hb := below_box2 w (.cells #[.int .i64 x0, .int .i64 x1, .int .i64 x2] 171) (.cells #[.int .u8 (x0 % 256)] 5)
  have hat : BytesAt ((w.alloc (.cells #[.int .i64 x0, .int .i64 x1, .int .i64 x2] 171)).alloc (.cells #[.int .u8 (x0 % 256)] 5)) (w.heap.size + 1) (strOfNums [x0 % 256]) := by
    unfold BytesAt
    rw [byteCells_one _ (by omega)]
    have := World.news_of_block (Blk.new (w.alloc (.cells #[.int .i64 x0, .int .i64 x1, .int .i64 x2] 171)) #[.int .u8 (x0 % 256)] 5)
    rw [size_up'] at this
    exact this
  have HC := V (pmPut_any B b tb vl m st _ (h.below hb) (w.heap.size + 1) 1 (strOfNums [x0 % 256]) hat (by rw [size_one]; omega) hs (by rw [size_one]; simpa using hq))
  rw [size_one] at HC
  have hB := h.size
  have HB := V hb
  clear h hb hat
  generalize strOfNums [x0 % 256] = sx at *
  go_enter Tryz.func121, Tryz.ntmps121
  go_wp2_with fail
  refine (U HC).mono ?_
  rintro e w1 ⟨rfl, h1⟩
  have H1 := V h1
  clear h1 HC
  go_wp2_with fail
  go_ret
  exact PmPost.deed (U HB) hB (U H1)
end Go.Proofs.YtmeiikjpaepogaaGreatDoor
