/- The reference's Read, up to its end: what is refused. -/
import Derived.Test.YtmeiikjpaepogaaGreatDoorK11
namespace Go.Proofs.YtmeiikjpaepogaaGreatDoor
open Go Go.RowKit

set_option maxRecDepth 100000 in
set_option maxHeartbeats 1000000 in
theorem read_long (s : ByteArray) (w : World) (h : 2000 < s.size) :
    Calls Tryz.prog 64 #[.string s] w fun e w' => e = .returned (.tuple #[.pointer none, .int .i64 1, .int .i64 0]) ∧ w' = w := by
  have h' : (2000 : Int) < s.size := by omega
  go_enter Tryz.func64, Tryz.ntmps64
  go_wp2_with fail
  go_ret3
  exact ⟨rfl, rfl⟩

theorem rd_new (s : ByteArray) (w : World) (hs : s.size ≤ 2000) : Rd w.heap.size (w.alloc (.cells (rdArr (startS s) (.slice none 0 0) (.slice none 0 0) (.slice none 0 0) (.slice none 0 0) (.slice none 0 0)) 178)) w.heap.size (startS s) (.slice none 0 0) (.slice none 0 0) (.slice none 0 0) (.slice none 0 0) (.slice none 0 0) := by
  refine ⟨Blk.new _ _ _, Nat.le_refl _, ⟨?_, ?_, ?_, rfl⟩, by simp [startS]; exact hs⟩
  · intro i v t hv ht
    have hi : i < 5 := (List.getElem?_eq_some_iff.1 hv).1
    match i, hi with
    | 0, _ => simp [rdRows] at hv ht; subst hv ht; exact World.ownsRow_nil _ _ _ _
    | 1, _ => simp [rdRows] at hv ht; subst hv ht; exact World.ownsRow_nil _ _ _ _
    | 2, _ => simp [rdRows] at hv ht; subst hv ht; exact World.ownsRow_nil _ _ _ _
    | 3, _ => simp [rdRows] at hv ht; subst hv ht; exact World.ownsRow_nil _ _ _ _
    | 4, _ => simp [rdRows] at hv ht; subst hv ht; exact World.ownsRow_nil _ _ _ _
  · intro i j v v' k hv hv' hk
    have hi : i < 5 := (List.getElem?_eq_some_iff.1 hv).1
    match i, hi with
    | 0, _ => simp at hv; subst hv; simp [Value.ownBlock] at hk
    | 1, _ => simp at hv; subst hv; simp [Value.ownBlock] at hk
    | 2, _ => simp at hv; subst hv; simp [Value.ownBlock] at hk
    | 3, _ => simp at hv; subst hv; simp [Value.ownBlock] at hk
    | 4, _ => simp at hv; subst hv; simp [Value.ownBlock] at hk
  · intro i v b hv _ hk
    have hi : i < 5 := (List.getElem?_eq_some_iff.1 hv).1
    match i, hi with
    | 0, _ => simp at hv; subst hv; simp [Value.ownBlock] at hk
    | 1, _ => simp at hv; subst hv; simp [Value.ownBlock] at hk
    | 2, _ => simp at hv; subst hv; simp [Value.ownBlock] at hk
    | 3, _ => simp at hv; subst hv; simp [Value.ownBlock] at hk
    | 4, _ => simp at hv; subst hv; simp [Value.ownBlock] at hk

/-- The loop's relation. -/
def ReadRel (B b : Nat) (w : World) (s : ByteArray) (wr : World) : Prop :=
  ∃ (st : RS) (m : Nat), RdE B wr b st ∧ Inv st m ∧ (st.err = 0 → m ≤ st.place0) ∧ st.s = s ∧ loopS (fuelS st) st = finS s ∧ Below B w wr
def readMeasure (b n : Nat) (wr : World) : Nat := if cellInt wr b 12 = 0 then n - (cellInt wr b 2).toNat + 1 else 0

theorem four_ways {t : List UInt8} (h : isDefine t = true) : (t == [58]) = true ∨ ((t == [58]) = false ∧ (t == [59]) = true) ∨ ((t == [58]) = false ∧ (t == [59]) = false ∧ (t == [118, 97, 114, 105, 97, 98, 108, 101]) = true) ∨ ((t == [58]) = false ∧ (t == [59]) = false ∧ (t == [118, 97, 114, 105, 97, 98, 108, 101]) = false ∧ (t == [99, 111, 110, 115, 116, 97, 110, 116]) = true) := by
  unfold isDefine at h
  cases h1 : (t == [58]) <;> cases h2 : (t == [59]) <;> cases h3 : (t == [118, 97, 114, 105, 97, 98, 108, 101]) <;> simp_all
theorem four_no {t : List UInt8} (h : isDefine t = false) : (t == [58]) = false ∧ (t == [59]) = false ∧ (t == [118, 97, 114, 105, 97, 98, 108, 101]) = false ∧ (t == [99, 111, 110, 115, 116, 97, 110, 116]) = false := by
  unfold isDefine at h
  simp only [Bool.or_eq_false_iff] at h
  exact ⟨h.1.1.1, h.1.1.2, h.1.2, h.2⟩
theorem control_yes {s : ByteArray} (h : isControl s = true) : structS s = true ∧ (s.toList == [114, 101, 99, 117, 114, 115, 101]) = false := by
  unfold isControl at h
  simpa using h
theorem control_no {s : ByteArray} (h : isControl s = false) : structS s = false ∨ structS s = true ∧ (s.toList == [114, 101, 99, 117, 114, 115, 101]) = true := by
  unfold isControl at h
  cases h1 : structS s
  · exact Or.inl rfl
  · rw [h1] at h
    exact Or.inr ⟨rfl, by simpa using h⟩

/-- Behind a token without an error: the relation, and less is left. -/
theorem rel_next {B b : Nat} {w w3 : World} {s : ByteArray} {st : RS} {m : Nat} (hi : Inv st m) (hm : m ≤ st.place0) (hne : st.token.toList.isEmpty = false) (h0 : st.err = 0) (he : (itemS st).err = 0) (hss : st.s = s) (hl : loopS (fuelS st) st = finS s) (h3 : RdE B w3 b (stepS (itemS st))) (hb : Below B w w3) : ReadRel B b w s w3 := by
  obtain ⟨h1, h2, _, h4⟩ := round_inv hi hm hne
  exact ⟨_, m + 1, h3, h1, fun _ => h2, by rw [h4, hss], by rw [← loop_round hi hm hne h0 he]; exact hl, hb⟩
theorem rel_end {B b : Nat} {w w3 : World} {s : ByteArray} {st : RS} {m : Nat} (hi : Inv st m) (hne : st.token.toList.isEmpty = false) (h0 : st.err = 0) (he : (itemS st).err ≠ 0) (hss : st.s = s) (hl : loopS (fuelS st) st = finS s) (h3 : RdE B w3 b (itemS st)) (hb : Below B w w3) : ReadRel B b w s w3 := by
  refine ⟨_, m + 1, h3, itemS_inv hi, fun e => absurd e he, by rw [(adv_item hi).1, hss], ?_, hb⟩
  rw [loop_stop _ (Or.inr he), ← loop_end hne h0 he]; exact hl

theorem Rd.cellErr {B : Nat} {w : World} {b : Nat} {st : RS} {v4 v5 v6 v7 v11 : Value} (h : Rd B w b st v4 v5 v6 v7 v11) : YtmeiikjpaepogaaGreatDoor.cellInt w b 12 = st.err ∧ YtmeiikjpaepogaaGreatDoor.cellInt w b 2 = st.place0 := by
  have h1 := h.blk.cell 12
  have h2 := h.blk.cell 2
  simp [rdArr] at h1 h2
  simp [YtmeiikjpaepogaaGreatDoor.cellInt, h1, h2, intOf]

theorem less_next {B b : Nat} {w w3 : World} {s : ByteArray} {st : RS} {m : Nat} {v4 v5 v6 v7 v11 : Value} (h : Rd B w b st v4 v5 v6 v7 v11) (hi : Inv st m) (hm : m ≤ st.place0) (hne : st.token.toList.isEmpty = false) (h0 : st.err = 0) (he : (itemS st).err = 0) (hss : st.s = s) (h3 : RdE B w3 b (stepS (itemS st))) : readMeasure b s.size w3 < readMeasure b s.size w := by
  obtain ⟨h1, _, h2, h4⟩ := round_inv hi hm hne
  obtain ⟨x4, x5, x6, x7, x11, h3⟩ := h3
  have e1 := h.cellErr
  have e2 := h3.cellErr
  have h5 := h1.place
  have h6 := h1.next
  rw [h4, hss] at h6
  have he' : (stepS (itemS st)).err = 0 := he
  unfold readMeasure
  rw [e1.1, e1.2, e2.1, e2.2, he', h0]
  simp
  omega
theorem less_end {B b n : Nat} {w w3 : World} {st : RS} {v4 v5 v6 v7 v11 : Value} (h : Rd B w b st v4 v5 v6 v7 v11) (h0 : st.err = 0) (he : (itemS st).err ≠ 0) (h3 : RdE B w3 b (itemS st)) : readMeasure b n w3 < readMeasure b n w := by
  obtain ⟨x4, x5, x6, x7, x11, h3⟩ := h3
  have e1 := h.cellErr
  have e2 := h3.cellErr
  unfold readMeasure
  rw [e1.1, e2.1, h0, if_neg he]
  simp

set_option maxRecDepth 100000 in
set_option maxHeartbeats 2000000 in
theorem read_no (s : ByteArray) (w : World) (hs : s.size ≤ 2000) (e0 p0 : Int) (he0 : e0 ≠ 0) (hfin : (endS s).err = e0 ∧ (endS s).place = p0) :
    Calls Tryz.prog 64 #[.string s] w fun e w' => e = .returned (.tuple #[.pointer none, .int .i64 e0, .int .i64 p0]) ∧ Below w.heap.size w w' := by
  have h' : (s.size : Int) ≤ 2000 := by omega
  have h12 : decide ((2000 : Int) < (s.size : Int)) = false := by simp; omega
  have h0 := rd_new s w hs
  have hi0 := start_inv s hs
  have HS := V (step_any w.heap.size w.heap.size (startS s) _ ⟨_, _, _, _, _, h0⟩ hi0.next)
  unfold rdArr startS at HS
  have HI := V (stepS_inv hi0)
  have HE := V hfin
  clear hfin hi0 h0
  go_enter Tryz.func64, Tryz.ntmps64
  go_wp2_with fail
  refine (U HS).mono ?_
  rintro e w1 ⟨rfl, h1, hb1⟩
  have hb2 : Below w.heap.size w w1 := ((Below.refl _ _).alloc (Nat.le_refl _) _).trans hb1
  have hrel0 : ReadRel w.heap.size w.heap.size w s w1 := ⟨stepS (startS s), 0, h1, (U HI).1, fun _ => Nat.zero_le _, rfl, rfl, hb2⟩
  clear HS HI h1 hb1 hb2
  go_wp2_with fail
  go_loopw [] (fun wr => ReadRel w.heap.size w.heap.size w s wr) (fun wr => readMeasure w.heap.size s.size wr)
  case atStart => exact hrel0
  case round =>
    clear hrel0
    obtain ⟨st, m, ⟨v4, v5, v6, v7, v11, h⟩, hi, hmp, hss, hloop, hbel⟩ := hrel
    have HL := V hloop
    have HSS := V hss
    have hmm := h.cellErr
    have HM := V hmm
    clear hloop hss hmm
    have hc := h.blk.cell
    have hf := h.blk.free
    unfold rdArr at hc
    cases hne : st.token.toList.isEmpty
    · by_cases herr : st.err = 0
      · have HMP := V (hmp herr)
        have h3000 : m < 3000 := by have := hmp herr; have := hi.place; have := hi.next; have := hi.size; omega
        clear hmp
        have HI := V hi
        have hnx : st.next ≤ st.s.size := hi.next
        clear hi
        have HIT : Hid (∀ w2, RdE w.heap.size w2 w.heap.size st → (isDefine st.token.toList = true → Calls Tryz.prog 127 #[.pointer (some ⟨w.heap.size, 0, none⟩)] w2 fun e w' => e = .returned (.tuple #[]) ∧ RdE w.heap.size w' w.heap.size (itemS st) ∧ Below w.heap.size w2 w') ∧ (isDefine st.token.toList = false → isControl st.token = true → Calls Tryz.prog 128 #[.pointer (some ⟨w.heap.size, 0, none⟩)] w2 fun e w' => e = .returned (.tuple #[]) ∧ RdE w.heap.size w' w.heap.size (itemS st) ∧ Below w.heap.size w2 w') ∧ (isDefine st.token.toList = false → isControl st.token = false → Calls Tryz.prog 129 #[.pointer (some ⟨w.heap.size, 0, none⟩)] w2 fun e w' => e = .returned (.tuple #[]) ∧ RdE w.heap.size w' w.heap.size (itemS st) ∧ Below w.heap.size w2 w')) := by
          intro w2 h2
          refine ⟨fun hd => ?_, fun hd hk => ?_, fun hd hk => ?_⟩
          · have := define_any w.heap.size w.heap.size st w2 m h2 (U HI) h3000 hd
            simp only [itemS, hd, if_true]; exact this
          · have := control_any w.heap.size w.heap.size st w2 m h2 (U HI) h3000 hk hd
            simp only [itemS, hd, hk, if_true, Bool.false_eq_true, if_false]; exact this
          · have := element_any w.heap.size w.heap.size st w2 m h2 (U HI) h3000
            simp only [itemS, hd, hk, Bool.false_eq_true, if_false]; exact this
        have HST : Hid (∀ w2, RdE w.heap.size w2 w.heap.size (itemS st) → Calls Tryz.prog 125 #[.pointer (some ⟨w.heap.size, 0, none⟩)] w2 fun e w' => e = .returned (.tuple #[]) ∧ RdE w.heap.size w' w.heap.size (stepS (itemS st)) ∧ Below w.heap.size w2 w') := fun w2 h2 => step_any _ _ _ w2 h2 (itemS_inv (U HI)).next
        have HNE := V hne
        have H0 := V herr
        go_wp2_with fail
        refine (structure_any st.token wr).mono ?_
        rintro e w2 ⟨rfl, hw⟩
        obtain rfl := hw.symm
        clear hw
        cases hdef : isDefine st.token.toList
        · obtain ⟨q1, q2, q3, q4⟩ := four_no hdef
          cases hctl : isControl st.token
          · have HC := V ((U HIT wr ⟨_, _, _, _, _, h⟩).2.2 hdef hctl)
            clear HIT
            rcases control_no hctl with c1 | ⟨c1, c2⟩
            all_goals
              clear hctl hdef
              go_wp2_with fail
              refine (U HC).mono ?_
              rintro e w2 ⟨rfl, ⟨x4, x5, x6, x7, x11, h2⟩, hb2⟩
              clear HC hc hf
              by_cases he : (itemS st).err = 0
              · have HEQ := V he
                have hc := h2.blk.cell
                have hf := h2.blk.free
                unfold rdArr at hc
                go_wp2_with fail
                refine (U HST w2 ⟨_, _, _, _, _, h2⟩).mono ?_
                rintro e w3 ⟨rfl, h3, hb3⟩
                go_wp2_with fail
                go_roundw
                case rel => exact rel_next (U HI) (U HMP) (U HNE) (U H0) (U HEQ) (U HSS) (U HL) h3 ((hbel.trans hb2).trans hb3)
                case measure => exact less_next h (U HI) (U HMP) (U HNE) (U H0) (U HEQ) (U HSS) h3
              · have HEQ := V he
                have he' : ((itemS st).err == 0) = false := by simpa using he
                have hc := h2.blk.cell
                have hf := h2.blk.free
                unfold rdArr at hc
                go_wp2_with fail
                go_roundw
                case rel => exact rel_end (U HI) (U HNE) (U H0) (U HEQ) (U HSS) (U HL) ⟨_, _, _, _, _, h2⟩ (hbel.trans hb2)
                case measure => exact less_end h (U H0) (U HEQ) ⟨_, _, _, _, _, h2⟩
          · have HC := V ((U HIT wr ⟨_, _, _, _, _, h⟩).2.1 hdef hctl)
            clear HIT
            obtain ⟨c1, c2⟩ := control_yes hctl
            clear hctl hdef
            go_wp2_with fail
            refine (U HC).mono ?_
            rintro e w2 ⟨rfl, ⟨x4, x5, x6, x7, x11, h2⟩, hb2⟩
            clear HC hc hf
            by_cases he : (itemS st).err = 0
            · have HEQ := V he
              have hc := h2.blk.cell
              have hf := h2.blk.free
              unfold rdArr at hc
              go_wp2_with fail
              refine (U HST w2 ⟨_, _, _, _, _, h2⟩).mono ?_
              rintro e w3 ⟨rfl, h3, hb3⟩
              go_wp2_with fail
              go_roundw
              case rel => exact rel_next (U HI) (U HMP) (U HNE) (U H0) (U HEQ) (U HSS) (U HL) h3 ((hbel.trans hb2).trans hb3)
              case measure => exact less_next h (U HI) (U HMP) (U HNE) (U H0) (U HEQ) (U HSS) h3
            · have HEQ := V he
              have he' : ((itemS st).err == 0) = false := by simpa using he
              have hc := h2.blk.cell
              have hf := h2.blk.free
              unfold rdArr at hc
              go_wp2_with fail
              go_roundw
              case rel => exact rel_end (U HI) (U HNE) (U H0) (U HEQ) (U HSS) (U HL) ⟨_, _, _, _, _, h2⟩ (hbel.trans hb2)
              case measure => exact less_end h (U H0) (U HEQ) ⟨_, _, _, _, _, h2⟩
        · have HC := V ((U HIT wr ⟨_, _, _, _, _, h⟩).1 hdef)
          clear HIT
          rcases four_ways hdef with q1 | ⟨q1, q2⟩ | ⟨q1, q2, q3⟩ | ⟨q1, q2, q3, q4⟩
          all_goals
            clear hdef
            go_wp2_with fail
            refine (U HC).mono ?_
            rintro e w2 ⟨rfl, ⟨x4, x5, x6, x7, x11, h2⟩, hb2⟩
            clear HC hc hf
            by_cases he : (itemS st).err = 0
            · have HEQ := V he
              have hc := h2.blk.cell
              have hf := h2.blk.free
              unfold rdArr at hc
              go_wp2_with fail
              refine (U HST w2 ⟨_, _, _, _, _, h2⟩).mono ?_
              rintro e w3 ⟨rfl, h3, hb3⟩
              go_wp2_with fail
              go_roundw
              case rel => exact rel_next (U HI) (U HMP) (U HNE) (U H0) (U HEQ) (U HSS) (U HL) h3 ((hbel.trans hb2).trans hb3)
              case measure => exact less_next h (U HI) (U HMP) (U HNE) (U H0) (U HEQ) (U HSS) h3
            · have HEQ := V he
              have he' : ((itemS st).err == 0) = false := by simpa using he
              have hc := h2.blk.cell
              have hf := h2.blk.free
              unfold rdArr at hc
              go_wp2_with fail
              go_roundw
              case rel => exact rel_end (U HI) (U HNE) (U H0) (U HEQ) (U HSS) (U HL) ⟨_, _, _, _, _, h2⟩ (hbel.trans hb2)
              case measure => exact less_end h (U H0) (U HEQ) ⟨_, _, _, _, _, h2⟩
      · have hfin : endS s = st := by
          have e1 : finS s = st := by rw [← U HL]; exact loop_stop _ (Or.inr herr)
          unfold endS
          rw [e1, if_neg (by intro e; exact herr e.1)]
        have h5 := U HE
        rw [hfin] at h5
        obtain ⟨h5, h6⟩ := h5
        have he1 : (st.err == 0) = false := by simpa using herr
        have he2 : (st.err != 0) = true := by simpa using herr
        clear hfin herr hmp hi HE HL HM
        go_wp2_with fail
        go_quiet (fail)
        go_wp2_with fail
        go_ret3
        exact ⟨by simp, below_drawn hbel _⟩
    · by_cases herr : st.err = 0
      · have e1 : finS s = st := by rw [← U HL]; exact loop_stop _ (Or.inl hne)
        have hcond : 0 ≤ st.start ∨ st.opens ≠ [] := by
          rcases Classical.em (0 ≤ st.start ∨ st.opens ≠ []) with e | e
          · exact e
          · exfalso
            have h5 := (U HE).1
            unfold endS at h5
            rw [e1, if_neg (by intro e'; exact e e'.2), herr] at h5
            exact he0 h5.symm
        have hfin : endS s = failS st 4 := by
          unfold endS
          rw [e1, if_pos ⟨herr, hcond⟩]
        have h5 := U HE
        rw [hfin] at h5
        obtain ⟨h5, h6⟩ := h5
        have HF := V (fail_rd w.heap.size w.heap.size st v4 v5 v6 v7 v11 4 wr h)
        have e9 : (failS st 4).err = 4 := by unfold failS; rw [if_pos herr]
        have he2 : ((failS st 4).err != 0) = true := by rw [e9]; rfl
        generalize failS st 4 = st4 at HF h5 h6 he2
        obtain ⟨a7, k7, hv7⟩ := own_shape h.o7
        have hs7 : (st.opens.length : Int) ≤ 4000 := by have := h.small; omega
        have hways : 0 ≤ st.start ∨ st.start < 0 ∧ (0 : Int) < st.opens.length := by
          by_cases e : 0 ≤ st.start
          · exact Or.inl e
          · refine Or.inr ⟨by omega, ?_⟩
            rcases hcond with e' | e'
            · exact absurd e' e
            · have := List.length_pos_iff.2 e'; omega
        subst hv7
        have hd7 : 0 < st.opens.length → decide (0 < st.opens.length) = true := fun e => by simpa using e
        clear hfin hmp hi HE HL HM e1 hcond e9
        rcases hways with e1 | ⟨e1, e2⟩
        all_goals
          go_wp2_with fail
          refine (U HF).mono ?_
          rintro e w2 ⟨rfl, h2, hb2⟩
          have hc2 := h2.blk.cell
          unfold rdArr at hc2
          go_wp2_with fail
          go_quiet (fail)
          go_wp2_with fail
          go_ret3
          exact ⟨by simp, below_drawn (hbel.trans hb2) _⟩
      · have hfin : endS s = st := by
          have e1 : finS s = st := by rw [← U HL]; exact loop_stop _ (Or.inr herr)
          unfold endS
          rw [e1, if_neg (by intro e; exact herr e.1)]
        have h5 := U HE
        rw [hfin] at h5
        obtain ⟨h5, h6⟩ := h5
        have he1 : (st.err == 0) = false := by simpa using herr
        have he2 : (st.err != 0) = true := by simpa using herr
        clear hfin herr hmp hi HE HL HM
        go_wp2_with fail
        go_quiet (fail)
        go_wp2_with fail
        go_ret3
        exact ⟨by simp, below_drawn hbel _⟩
end Go.Proofs.YtmeiikjpaepogaaGreatDoor
