/- The reference's Read: what is read. -/
import Derived.Test.YtmeiikjpaepogaaGreatDoorK12
import Derived.Test.YtmeiikjpaepogaaGreatDoorK01
import Derived.Deep.CutRange
namespace Go.Proofs.YtmeiikjpaepogaaGreatDoor
open Go Go.RowKit

def shiftS (e : Int) (x : Int × Int) : Int × Int := if x.1 = 1 ∨ x.1 = 2 ∨ x.1 = 7 then (x.1, wrap64 (x.2 + e)) else x
def fullS (st : RS) : List (Int × Int) := st.c0 ++ st.c1.map (shiftS st.c0.length) ++ [(5, 0)]

/-- A program in memory. -/
structure Pg (B : Nat) (w : World) (p : Nat) (l : List (Int × Int)) (en ce : Int) (he : List Int) (vL vH : Value) : Prop where
  blk : Blk w p #[vL, .int .i64 en, .int .i64 ce, vH] 137
  base : B ≤ p
  owned : Owned B w [p] [vL, vH] [⟨65, 2, l.length, instrCells l⟩, ⟨3, 1, he.length, he.map (Value.int .i64)⟩]
def PgE (B : Nat) (w : World) (p : Nat) (l : List (Int × Int)) (en ce : Int) (he : List Int) : Prop := ∃ vL vH, Pg B w p l en ce he vL vH

/-- While a program is made: the reader's two codes, the program's lists. -/
structure Mk (B : Nat) (w : World) (b p : Nat) (st : RS) (v4 v5 v6 v7 v11 : Value) (l : List (Int × Int)) (he : List Int) (vL vH : Value) : Prop where
  blkR : Blk w b (rdArr st v4 v5 v6 v7 v11) 178
  blkP : Blk w p #[vL, .int .i64 st.c0.length, .int .i64 st.cells, vH] 137
  baseR : B ≤ b
  baseP : B ≤ p
  ne : b ≠ p
  owned : Owned B w [b, p] [v4, v5, vH, vL] [⟨65, 2, st.c0.length, instrCells st.c0⟩, ⟨65, 2, st.c1.length, instrCells st.c1⟩, ⟨3, 1, he.length, he.map (Value.int .i64)⟩, ⟨65, 2, l.length, instrCells l⟩]

def subF (i : Nat) : Nat := match i with | 0 => 0 | 1 => 1 | 2 => 4 | n + 3 => n + 5

theorem mk_new {B : Nat} {w : World} {b : Nat} {st : RS} {v4 v5 v6 v7 v11 : Value} (h : Rd B w b st v4 v5 v6 v7 v11) :
    Mk B (w.alloc (.cells #[.slice none 0 0, .int .i64 st.c0.length, .int .i64 st.cells, v11] 137)) b w.heap.size st v4 v5 v6 v7 v11 [] st.heads (.slice none 0 0) v11 := by
  have hlt := h.blk.lt
  refine ⟨h.blk.alloc _, Blk.new _ _ _, h.base, by have := h.base; omega, by omega, ?_⟩
  have h1 := h.owned.sub (bs' := [b, w.heap.size]) (vs' := [v4, v5, v11]) (ss' := [⟨65, 2, st.c0.length, instrCells st.c0⟩, ⟨65, 2, st.c1.length, instrCells st.c1⟩, ⟨3, 1, st.heads.length, st.heads.map (Value.int .i64)⟩]) subF ?_ rfl ?_ ?_ ?_
  · exact (h1.alloc _).nil 65 2
  · intro i j e
    match i, j with
    | 0, 0 => rfl
    | 0, 1 => simp [subF] at e
    | 0, 2 => simp [subF] at e
    | 0, n + 3 => simp [subF] at e
    | 1, 0 => simp [subF] at e
    | 1, 1 => rfl
    | 1, 2 => simp [subF] at e
    | 1, n + 3 => simp [subF] at e
    | 2, 0 => simp [subF] at e
    | 2, 1 => simp [subF] at e
    | 2, 2 => rfl
    | 2, n + 3 => simp [subF] at e
    | m + 3, 0 => simp [subF] at e
    | m + 3, 1 => simp [subF] at e
    | m + 3, 2 => simp [subF] at e
    | m + 3, n + 3 => simp [subF] at e; omega
  · intro i v hv
    have hi := (List.getElem?_eq_some_iff.1 hv).1
    match i, hi with
    | 0, _ => exact hv
    | 1, _ => exact hv
    | 2, _ => exact hv
  · intro i v hv
    have hi := (List.getElem?_eq_some_iff.1 hv).1
    match i, hi with
    | 0, _ => exact hv
    | 1, _ => exact hv
    | 2, _ => exact hv
  · intro k hk
    simp at hk
    rcases hk with rfl | rfl
    · exact Or.inl (by simp)
    · exact Or.inr (Nat.le_refl _)

section
variable {B : Nat} {w : World} {b p : Nat} {st : RS} {v4 v5 v6 v7 v11 : Value} {l : List (Int × Int)} {he : List Int} {vL vH : Value}
theorem Mk.drew (h : Mk B w b p st v4 v5 v6 v7 v11 l he vL vH) : Mk B w.drew b p st v4 v5 v6 v7 v11 l he vL vH := ⟨h.blkR, h.blkP, h.baseR, h.baseP, h.ne, h.owned.drew⟩
theorem Mk.alloc (h : Mk B w b p st v4 v5 v6 v7 v11 l he vL vH) (o : Obj) : Mk B (w.alloc o) b p st v4 v5 v6 v7 v11 l he vL vH := ⟨h.blkR.alloc o, h.blkP.alloc o, h.baseR, h.baseP, h.ne, h.owned.alloc o⟩
theorem Mk.o4 (h : Mk B w b p st v4 v5 v6 v7 v11 l he vL vH) : w.ownsRow B 65 2 v4 st.c0.length (instrCells st.c0) := h.owned.own 0 v4 _ rfl rfl
theorem Mk.o5 (h : Mk B w b p st v4 v5 v6 v7 v11 l he vL vH) : w.ownsRow B 65 2 v5 st.c1.length (instrCells st.c1) := h.owned.own 1 v5 _ rfl rfl
theorem Mk.oH (h : Mk B w b p st v4 v5 v6 v7 v11 l he vL vH) : w.ownsRow B 3 1 vH he.length (he.map (Value.int .i64)) := h.owned.own 2 vH _ rfl rfl
theorem Mk.oL (h : Mk B w b p st v4 v5 v6 v7 v11 l he vL vH) : w.ownsRow B 65 2 vL l.length (instrCells l) := h.owned.own 3 vL _ rfl rfl
theorem Mk.far (h : Mk B w b p st v4 v5 v6 v7 v11 l he vL vH) (i : Nat) (v : Value) (hv : [v4, v5, vH, vL][i]? = some v) : some b ≠ v.ownBlock ∧ some p ≠ v.ownBlock := ⟨fun e => h.owned.off i v b hv (by simp) e.symm, fun e => h.owned.off i v p hv (by simp) e.symm⟩
theorem Mk.lts (h : Mk B w b p st v4 v5 v6 v7 v11 l he vL vH) : ∀ k ∈ [b, p], k < w.heap.size := by
  intro k hk
  simp at hk
  rcases hk with rfl | rfl
  · exact h.blkR.lt
  · exact h.blkP.lt
theorem Mk.growH {w1 : World} (h : Mk B w b p st v4 v5 v6 v7 v11 l he vL vH) {x : Int} {g cap H : Nat} (hw1 : w.grownBy w1 vH.ownBlock)
    (hown : w1.ownsRow B 3 1 (.slice (some ⟨g, 0, none⟩) (he.length + 1) cap) (he.length + 1) (he.map (Value.int .i64) ++ [.int .i64 x])) (hat : vH.ownBlock = some g ∨ g = H) (hH : w.heap.size ≤ H) :
    Mk B (w1.setCell ⟨p, 3, none⟩ (.slice (some ⟨g, 0, none⟩) (he.length + 1) cap)) b p st v4 v5 v6 v7 v11 l (he ++ [x]) vL (.slice (some ⟨g, 0, none⟩) (he.length + 1) cap) := by
  have hf := h.far 2 vH rfl
  refine ⟨(h.blkR.grown hw1 hf.1).far (a := ⟨p, 3, none⟩) h.ne _, ?_, h.baseR, h.baseP, h.ne, ?_⟩
  · have := (h.blkP.grown hw1 hf.2).set 3 (.slice (some ⟨g, 0, none⟩) (he.length + 1) cap)
    simpa using this
  · have := (h.owned.grow 2 vH (.slice (some ⟨g, 0, none⟩) (he.length + 1) cap) ⟨3, 1, he.length + 1, he.map (Value.int .i64) ++ [.int .i64 x]⟩ rfl h.lts hw1 hown (lies_at hat hH)).set (b := p) (by simp) 3 (.slice (some ⟨g, 0, none⟩) (he.length + 1) cap)
    simpa using this
theorem Mk.growL {w1 : World} (h : Mk B w b p st v4 v5 v6 v7 v11 l he vL vH) {xs : List (Int × Int)} {v' : Value} (hw1 : w.grownBy w1 vL.ownBlock)
    (hown : w1.ownsRow B 65 2 v' (l.length + xs.length) (instrCells l ++ instrCells xs)) (hat : v'.ownBlock = vL.ownBlock ∨ ∃ g, v'.ownBlock = some g ∧ w.heap.size ≤ g) :
    Mk B (w1.setCell ⟨p, 0, none⟩ v') b p st v4 v5 v6 v7 v11 (l ++ xs) he v' vH := by
  have hf := h.far 3 vL rfl
  refine ⟨(h.blkR.grown hw1 hf.1).far (a := ⟨p, 0, none⟩) h.ne _, ?_, h.baseR, h.baseP, h.ne, ?_⟩
  · have := (h.blkP.grown hw1 hf.2).set 0 v'
    simpa using this
  · have := (h.owned.grow 3 vL v' ⟨65, 2, l.length + xs.length, instrCells l ++ instrCells xs⟩ rfl h.lts hw1 hown hat).set (b := p) (by simp) 0 v'
    simpa [instrCells] using this
theorem Mk.setFar (h : Mk B w b p st v4 v5 v6 v7 v11 l he vL vH) (n c : Nat) (u : Value) (h1 : n ≠ b) (h2 : n ≠ p) (h3 : ∀ (i : Nat) (v : Value), [v4, v5, vH, vL][i]? = some v → v.ownBlock ≠ some n) : Mk B (w.setCell ⟨n, c, none⟩ u) b p st v4 v5 v6 v7 v11 l he vL vH :=
  ⟨h.blkR.far (a := ⟨n, c, none⟩) (fun e => h1 e.symm) u, h.blkP.far (a := ⟨n, c, none⟩) (fun e => h2 e.symm) u, h.baseR, h.baseP, h.ne, h.owned.to (fun i v k hv e _ => Below.heap_setCell _ _ _ _ (fun e2 => h3 i v hv (by rw [e, e2])))⟩
theorem Mk.pg (h : Mk B w b p st v4 v5 v6 v7 v11 l he vL vH) : Pg B w p l st.c0.length st.cells he vL vH := by
  refine ⟨h.blkP, h.baseP, ?_⟩
  refine h.owned.sub (fun i => match i with | 0 => 3 | 1 => 2 | n + 2 => n + 4) ?_ rfl ?_ ?_ (by simp)
  · intro i j e
    match i, j with
    | 0, 0 => rfl
    | 0, 1 => simp at e
    | 0, n + 2 => simp at e
    | 1, 0 => simp at e
    | 1, 1 => rfl
    | 1, n + 2 => simp at e
    | m + 2, 0 => simp at e
    | m + 2, 1 => simp at e
    | m + 2, n + 2 => simp at e; omega
  · intro i v hv
    have hi := (List.getElem?_eq_some_iff.1 hv).1
    match i, hi with
    | 0, _ => exact hv
    | 1, _ => exact hv
  · intro i v hv
    have hi := (List.getElem?_eq_some_iff.1 hv).1
    match i, hi with
    | 0, _ => exact hv
    | 1, _ => exact hv
end
def jumpB (op : Int) : Bool := op == 1 || op == 2 || op == 7
theorem shiftS_eq (e : Int) (x : Int × Int) : shiftS e x = (x.1, if jumpB x.1 then wrap64 (x.2 + e) else x.2) := by
  unfold shiftS jumpB
  by_cases h : x.1 = 1 ∨ x.1 = 2 ∨ x.1 = 7
  · rw [if_pos h]
    rcases h with h | h | h <;> simp [h]
  · rw [if_neg h]
    have h1 : x.1 ≠ 1 := fun e => h (Or.inl e)
    have h2 : x.1 ≠ 2 := fun e => h (Or.inr (Or.inl e))
    have h3 : x.1 ≠ 7 := fun e => h (Or.inr (Or.inr e))
    simp [h1, h2, h3]
theorem take_one {α : Type} (l : List α) (k : Nat) (c : α) (h : l[k]? = some c) : l.take (k + 1) = l.take k ++ [c] := by
  obtain ⟨hlt, rfl⟩ := List.getElem?_eq_some_iff.1 h
  rw [List.take_succ_eq_append_getElem hlt]
theorem own_none {w : World} {base : Nat} {e : TypeId} {size n cap : Nat} {xs : List Value} (h : w.ownsRow base e size (.slice none n cap) n xs) : cap = 0 := by
  rcases h.2 with ⟨h2, _⟩ | ⟨g, cap', cur, hv, _⟩
  · simp at h2; exact h2.2
  · simp at hv
theorem own_news {w : World} {base : Nat} {e : TypeId} {size n g cap : Nat} {xs : List Value} (h : w.ownsRow base e size (.slice (some ⟨g, 0, none⟩) n cap) n xs) : ∀ j u, xs[j]? = some u → w.cell? ((⟨g, 0, none⟩ : Addr).add j) = some u := by
  intro j u hu
  have hadd : (⟨g, 0, none⟩ : Addr).add j = ⟨g, j, none⟩ := by unfold Addr.add; split <;> simp_all
  have hj : j < n * size := by have := (List.getElem?_eq_some_iff.1 hu).1; rw [h.1] at this; exact this
  rw [hadd, own_cell h j hj, hu]
theorem instr_oneCell (l : List (Int × Int)) : ∀ u ∈ instrCells l, u.oneCell' = true := by
  intro u hu
  unfold instrCells at hu
  rw [List.mem_flatMap] at hu
  obtain ⟨x, _, hx⟩ := hu
  simp at hx
  rcases hx with rfl | rfl <;> rfl

set_option maxRecDepth 100000 in
set_option maxHeartbeats 8000000 in
theorem read_yes (s : ByteArray) (w : World) (hs : s.size ≤ 2000) (he0 : (endS s).err = 0) :
    Calls Tryz.prog 64 #[.string s] w fun e w' => ∃ p, e = .returned (.tuple #[.pointer (some ⟨p, 0, none⟩), .int .i64 0, .int .i64 0]) ∧ PgE w.heap.size w' p (fullS (endS s)) (endS s).c0.length (endS s).cells ((endS s).heads ++ [((endS s).c0.length : Int)]) ∧ Below w.heap.size w w' := by
  obtain ⟨iI, hiI, hzI0, hzI1, hzI2⟩ := info_parts Tryz.infoInstr
  obtain ⟨iN, hiN, hzN0, hzN1, hzN2⟩ := info_parts Tryz.infoInt
  have h' : (s.size : Int) ≤ 2000 := by omega
  have h12 : decide ((2000 : Int) < (s.size : Int)) = false := by simp; omega
  have h0 := rd_new s w hs
  have hi0 := start_inv s hs
  have HS := V (step_any w.heap.size w.heap.size (startS s) _ ⟨_, _, _, _, _, h0⟩ hi0.next)
  unfold rdArr startS at HS
  have HI := V (stepS_inv hi0)
  have HE := V he0
  generalize hend : endS s = sE at he0 ⊢
  have HEND := V hend
  clear he0 hend hi0 h0
  go_enter Tryz.func64, Tryz.ntmps64
  go_wp2_with fail
  refine (U HS).mono ?_
  rintro e w1 ⟨rfl, h1, hb1⟩
  have hb2 : Below w.heap.size w w1 := ((Below.refl _ _).alloc (Nat.le_refl _) _).trans hb1
  have hrel0 : ReadRel w.heap.size w.heap.size w s w1 := ⟨stepS (startS s), 0, h1, (U HI).1, fun _ => Nat.zero_le _, rfl, rfl, hb2⟩
  clear HS HI h1 hb1 hb2
  go_wp2_with fail
  go_loopw [] (fun wr => ReadRel w.heap.size w.heap.size w s wr) (fun wr => readMeasure w.heap.size s.size wr)
  case atStart => exact hrel0
  case round =>
    clear hrel0
    obtain ⟨st, m, ⟨v4, v5, v6, v7, v11, h⟩, hi, hmp, hss, hloop, hbel⟩ := hrel
    have HL := V hloop
    have HSS := V hss
    have hmm := h.cellErr
    have HM := V hmm
    clear hloop hss hmm
    have hc := h.blk.cell
    have hf := h.blk.free
    unfold rdArr at hc
    cases hne : st.token.toList.isEmpty
    · by_cases herr : st.err = 0
      · have HMP := V (hmp herr)
        have h3000 : m < 3000 := by have := hmp herr; have := hi.place; have := hi.next; have := hi.size; omega
        clear hmp
        have HI := V hi
        have hnx : st.next ≤ st.s.size := hi.next
        clear hi
        have HIT : Hid (∀ w2, RdE w.heap.size w2 w.heap.size st → (isDefine st.token.toList = true → Calls Tryz.prog 127 #[.pointer (some ⟨w.heap.size, 0, none⟩)] w2 fun e w' => e = .returned (.tuple #[]) ∧ RdE w.heap.size w' w.heap.size (itemS st) ∧ Below w.heap.size w2 w') ∧ (isDefine st.token.toList = false → isControl st.token = true → Calls Tryz.prog 128 #[.pointer (some ⟨w.heap.size, 0, none⟩)] w2 fun e w' => e = .returned (.tuple #[]) ∧ RdE w.heap.size w' w.heap.size (itemS st) ∧ Below w.heap.size w2 w') ∧ (isDefine st.token.toList = false → isControl st.token = false → Calls Tryz.prog 129 #[.pointer (some ⟨w.heap.size, 0, none⟩)] w2 fun e w' => e = .returned (.tuple #[]) ∧ RdE w.heap.size w' w.heap.size (itemS st) ∧ Below w.heap.size w2 w')) := by
          intro w2 h2
          refine ⟨fun hd => ?_, fun hd hk => ?_, fun hd hk => ?_⟩
          · have := define_any w.heap.size w.heap.size st w2 m h2 (U HI) h3000 hd
            simp only [itemS, hd, if_true]; exact this
          · have := control_any w.heap.size w.heap.size st w2 m h2 (U HI) h3000 hk hd
            simp only [itemS, hd, hk, if_true, Bool.false_eq_true, if_false]; exact this
          · have := element_any w.heap.size w.heap.size st w2 m h2 (U HI) h3000
            simp only [itemS, hd, hk, Bool.false_eq_true, if_false]; exact this
        have HST : Hid (∀ w2, RdE w.heap.size w2 w.heap.size (itemS st) → Calls Tryz.prog 125 #[.pointer (some ⟨w.heap.size, 0, none⟩)] w2 fun e w' => e = .returned (.tuple #[]) ∧ RdE w.heap.size w' w.heap.size (stepS (itemS st)) ∧ Below w.heap.size w2 w') := fun w2 h2 => step_any _ _ _ w2 h2 (itemS_inv (U HI)).next
        have HNE := V hne
        have H0 := V herr
        go_wp2_with fail
        refine (structure_any st.token wr).mono ?_
        rintro e w2 ⟨rfl, hw⟩
        obtain rfl := hw.symm
        clear hw
        cases hdef : isDefine st.token.toList
        · obtain ⟨q1, q2, q3, q4⟩ := four_no hdef
          cases hctl : isControl st.token
          · have HC := V ((U HIT wr ⟨_, _, _, _, _, h⟩).2.2 hdef hctl)
            clear HIT
            rcases control_no hctl with c1 | ⟨c1, c2⟩
            all_goals
              clear hctl hdef
              go_wp2_with fail
              refine (U HC).mono ?_
              rintro e w2 ⟨rfl, ⟨x4, x5, x6, x7, x11, h2⟩, hb2⟩
              clear HC hc hf
              by_cases he : (itemS st).err = 0
              · have HEQ := V he
                have hc := h2.blk.cell
                have hf := h2.blk.free
                unfold rdArr at hc
                go_wp2_with fail
                refine (U HST w2 ⟨_, _, _, _, _, h2⟩).mono ?_
                rintro e w3 ⟨rfl, h3, hb3⟩
                go_wp2_with fail
                go_roundw
                case rel => exact rel_next (U HI) (U HMP) (U HNE) (U H0) (U HEQ) (U HSS) (U HL) h3 ((hbel.trans hb2).trans hb3)
                case measure => exact less_next h (U HI) (U HMP) (U HNE) (U H0) (U HEQ) (U HSS) h3
              · have HEQ := V he
                have he' : ((itemS st).err == 0) = false := by simpa using he
                have hc := h2.blk.cell
                have hf := h2.blk.free
                unfold rdArr at hc
                go_wp2_with fail
                go_roundw
                case rel => exact rel_end (U HI) (U HNE) (U H0) (U HEQ) (U HSS) (U HL) ⟨_, _, _, _, _, h2⟩ (hbel.trans hb2)
                case measure => exact less_end h (U H0) (U HEQ) ⟨_, _, _, _, _, h2⟩
          · have HC := V ((U HIT wr ⟨_, _, _, _, _, h⟩).2.1 hdef hctl)
            clear HIT
            obtain ⟨c1, c2⟩ := control_yes hctl
            clear hctl hdef
            go_wp2_with fail
            refine (U HC).mono ?_
            rintro e w2 ⟨rfl, ⟨x4, x5, x6, x7, x11, h2⟩, hb2⟩
            clear HC hc hf
            by_cases he : (itemS st).err = 0
            · have HEQ := V he
              have hc := h2.blk.cell
              have hf := h2.blk.free
              unfold rdArr at hc
              go_wp2_with fail
              refine (U HST w2 ⟨_, _, _, _, _, h2⟩).mono ?_
              rintro e w3 ⟨rfl, h3, hb3⟩
              go_wp2_with fail
              go_roundw
              case rel => exact rel_next (U HI) (U HMP) (U HNE) (U H0) (U HEQ) (U HSS) (U HL) h3 ((hbel.trans hb2).trans hb3)
              case measure => exact less_next h (U HI) (U HMP) (U HNE) (U H0) (U HEQ) (U HSS) h3
            · have HEQ := V he
              have he' : ((itemS st).err == 0) = false := by simpa using he
              have hc := h2.blk.cell
              have hf := h2.blk.free
              unfold rdArr at hc
              go_wp2_with fail
              go_roundw
              case rel => exact rel_end (U HI) (U HNE) (U H0) (U HEQ) (U HSS) (U HL) ⟨_, _, _, _, _, h2⟩ (hbel.trans hb2)
              case measure => exact less_end h (U H0) (U HEQ) ⟨_, _, _, _, _, h2⟩
        · have HC := V ((U HIT wr ⟨_, _, _, _, _, h⟩).1 hdef)
          clear HIT
          rcases four_ways hdef with q1 | ⟨q1, q2⟩ | ⟨q1, q2, q3⟩ | ⟨q1, q2, q3, q4⟩
          all_goals
            clear hdef
            go_wp2_with fail
            refine (U HC).mono ?_
            rintro e w2 ⟨rfl, ⟨x4, x5, x6, x7, x11, h2⟩, hb2⟩
            clear HC hc hf
            by_cases he : (itemS st).err = 0
            · have HEQ := V he
              have hc := h2.blk.cell
              have hf := h2.blk.free
              unfold rdArr at hc
              go_wp2_with fail
              refine (U HST w2 ⟨_, _, _, _, _, h2⟩).mono ?_
              rintro e w3 ⟨rfl, h3, hb3⟩
              go_wp2_with fail
              go_roundw
              case rel => exact rel_next (U HI) (U HMP) (U HNE) (U H0) (U HEQ) (U HSS) (U HL) h3 ((hbel.trans hb2).trans hb3)
              case measure => exact less_next h (U HI) (U HMP) (U HNE) (U H0) (U HEQ) (U HSS) h3
            · have HEQ := V he
              have he' : ((itemS st).err == 0) = false := by simpa using he
              have hc := h2.blk.cell
              have hf := h2.blk.free
              unfold rdArr at hc
              go_wp2_with fail
              go_roundw
              case rel => exact rel_end (U HI) (U HNE) (U H0) (U HEQ) (U HSS) (U HL) ⟨_, _, _, _, _, h2⟩ (hbel.trans hb2)
              case measure => exact less_end h (U H0) (U HEQ) ⟨_, _, _, _, _, h2⟩
      · exfalso
        have e1 : finS s = st := by rw [← U HL]; exact loop_stop _ (Or.inr herr)
        have h5 := U HE
        unfold endS at h5
        rw [e1, if_neg (by intro e; exact herr e.1)] at h5
        exact herr h5
    · by_cases herr : st.err = 0
      · have e1 : finS s = st := by rw [← U HL]; exact loop_stop _ (Or.inl hne)
        have hcond : ¬ (0 ≤ st.start ∨ st.opens ≠ []) := by
          intro e
          have h5 := U HE
          unfold endS at h5
          rw [e1, if_pos ⟨herr, e⟩] at h5
          unfold failS at h5
          rw [if_pos herr] at h5
          simp at h5
        have hfin : endS s = st := by
          unfold endS
          rw [e1, if_neg (by intro e; exact hcond e.2)]
        have hEq : sE = st := by rw [← U HEND, hfin]
        subst hEq
        have hst : sE.start < 0 := by
          rcases Int.lt_or_le sE.start 0 with e | e
          · exact e
          · exact absurd (Or.inl e) hcond
        have hop : sE.opens = [] := by
          rcases Classical.em (sE.opens = []) with e | e
          · exact e
          · exact absurd (Or.inr e) hcond
        obtain ⟨a7, k7, hv7⟩ := own_shape h.o7
        rw [hop, List.length_nil] at hv7
        obtain ⟨a4, k4, hv4⟩ := own_shape h.o4
        obtain ⟨a11, k11, hv11⟩ := own_shape h.o11
        subst hv7
        subst hv4
        subst hv11
        have hs4 : (sE.c0.length : Int) ≤ 4000 := by have := h.small; omega
        have hhe : sE.heads.length ≤ 4000 := h.small.2.2.2.2.1
        have hc1s : (sE.c1.length : Int) ≤ 4000 := by have := h.small; omega
        have hlt := h.blk.lt
        clear hfin hmp hi HE HL HM e1 hcond HEND HSS hop
        go_wp2_with fail
        go_region
        go_wp2_with fail
        have hM0 := (mk_new h).drew
        have hbM : Below w.heap.size w (wr.alloc (.cells #[.slice none 0 0, .int .i64 sE.c0.length, .int .i64 sE.cells, .slice a11 sE.heads.length k11] 137)).drew := (hbel.alloc (by have := h.base; omega) _).drew
        generalize (wr.alloc (.cells #[.slice none 0 0, .int .i64 sE.c0.length, .int .i64 sE.cells, .slice a11 sE.heads.length k11] 137)).drew = w1 at hM0 hbM ⊢
        generalize wr.heap.size = p at hM0 ⊢
        clear h hbel hc hf hlt
        have hlt1 := hM0.lts
        have hpl : p < w1.heap.size := hM0.blkP.lt
        have hcp := hM0.blkP.cell
        have hfp := hM0.blkP.free
        have HB := V hM0.blkP
        have hne := (hM0.far 2 _ rfl).2
        have HW := V (ownsRow_alloc hM0.oH (.cells #[.int .i64 sE.c0.length] 3))
        have hBs : w.heap.size ≤ (w1.alloc (.cells #[.int .i64 sE.c0.length] 3)).drew.heap.size := by
          have := hM0.baseP
          show w.heap.size ≤ (w1.alloc _).heap.size
          simp; omega
        have HBs := V hBs
        have hsh : sE.heads.length ≤ 4000 := hhe
        clear hBs
        go_cut [] from 119 to 147 (fun wc => ∃ vH, Mk w.heap.size wc w.heap.size p sE (.slice a4 sE.c0.length k4) v5 v6 (.slice a7 0 k7) (.slice a11 sE.heads.length k11) [] (sE.heads ++ [(sE.c0.length : Int)]) (.slice none 0 0) vH ∧ Below w.heap.size w wc)
        case first =>
          go_region_law (refine step_append_lies _ rfl (.tmp 139) (.tmp 144) 115 rfl w.heap.size 3 iN _ 1 8 Tryz.underlying115 hiN hzN0 hzN1 hzN2 rfl (by decide) (.slice a11 sE.heads.length k11) sE.heads.length (sE.heads.map (Value.int .i64)) (by simp [Act.eval]) (U HW) ⟨w1.heap.size, 0, none⟩ 1 1 [.int .i64 sE.c0.length] (by simp [Act.eval]) rfl (World.news_of_block (Blk.new w1 _ _)) (oneCells1 _) (by omega) (by unfold maxLen; omega) (by omega) (U HBs) _ rfl ?_; intro g cap w2 hown hgrow hat hlt2; have hb5 := ((U HB).alloc _).drew.grown hgrow hne; have hc5 := hb5.cell; have hf5 := hb5.free; have HO := V hown; have HG := V hgrow; have HA := V hat; clear hown hgrow hat hb5)
          all_goals
            go_wp2_with fail
            go_meet
            · refine ⟨_, hM0.growH (grownBy_alloc (U HG)) (U HO) (U HA) (by simp), ?_⟩
              exact hbM.trans ((below_grown_alloc (by have := hM0.baseP; omega) (fun k hk => (ownsRow_lt hM0.oH hk).2) (U HG)).setCell (p := ⟨p, 3, none⟩) hM0.baseP (.slice (some ⟨g, 0, none⟩) (sE.heads.length + 1) cap))
        case rest =>
          clear HB HW HBs hcp hfp hlt1 hpl hne hM0 hbM
          obtain ⟨vH, hM2, hbM2⟩ := hcut
          have hcp := hM2.blkP.cell
          have hfp := hM2.blkP.free
          have hcr := hM2.blkR.cell
          have hpl : p < wc.heap.size := hM2.blkP.lt
          have hrl : w.heap.size < wc.heap.size := hM2.blkR.lt
          unfold rdArr at hcr
          have hpb : p ≠ w.heap.size := fun e => hM2.ne e.symm
          go_wp2_with fail
          go_cut [] from 119 to 160 (fun wd => ∃ vL vH, Mk w.heap.size wd w.heap.size p sE (.slice a4 sE.c0.length k4) v5 v6 (.slice a7 0 k7) (.slice a11 sE.heads.length k11) sE.c0 (sE.heads ++ [(sE.c0.length : Int)]) vL vH ∧ Below w.heap.size w wd)
          case first =>
            have HBP := V hM2.blkP
            have HBR := V hM2.blkR
            by_cases h0 : sE.c0 = []
            · have hl0 : sE.c0.length = 0 := by rw [h0]; rfl
              have HN : Hid (a4 = none → k4 = 0) := fun e => by
                have := hM2.o4
                rw [e] at this
                exact own_none this
              go_region_law (refine step_append_zero rfl (.tmp 152) (.tmp 157) 33 rfl 65 iI _ 2 16 Tryz.underlying33 hiI hzI0 hzI1 hzI2 rfl (by decide) (by simp [Act.eval]) a4 k4 (by simp [Act.eval]) (U HN) ?_; intro w2 hgrow; have hb5 := (U HBP).drew.grown hgrow (by simp); have hc5 := hb5.cell; have hf5 := hb5.free; have HG := V hgrow; clear hgrow hb5)
              all_goals
                go_wp2_with fail
                go_meet
                · have h1 := hM2.drew.growL (xs := []) (v' := .slice none 0 0) (U HG) (World.ownsRow_nil _ _ _ _) (Or.inl rfl)
                  rw [List.append_nil] at h1
                  rw [← h0] at h1
                  refine ⟨_, _, h1, ?_⟩
                  exact (hbM2.drew.grown (U HG) (by show w.heap.size ≤ wc.heap.size; omega) (fun k hk => by cases hk)).setCell hM2.baseP _
            · have hl0 : 0 < sE.c0.length := List.length_pos_iff.2 h0
              obtain ⟨g4, k4', hv4, _, hg4⟩ := hM2.o4.form hl0
              simp only [Value.slice.injEq, true_and] at hv4
              obtain ⟨rfl, rfl⟩ := hv4
              go_region_law (refine step_append_lies _ rfl (.tmp 152) (.tmp 157) 33 rfl w.heap.size 65 iI _ 2 16 Tryz.underlying33 hiI hzI0 hzI1 hzI2 rfl (by decide) (.slice none 0 0) 0 [] (by simp [Act.eval]) (World.ownsRow_nil _ _ _ _) ⟨g4, 0, none⟩ sE.c0.length k4 (instrCells sE.c0) (by simp [Act.eval]) (instrCells_length _) (own_news hM2.drew.o4) (instr_oneCell _) hl0 (by unfold maxLen; omega) (by omega) (by show w.heap.size ≤ wc.heap.size; omega) _ rfl ?_; intro g cap w2 hown hgrow hat hlt2; have hb5 := (U HBP).drew.grown hgrow (by simp [Value.ownBlock]); have hc5 := hb5.cell; have hf5 := hb5.free; have HO := V hown; have HG := V hgrow; have HA := V hat; clear hown hgrow hat hb5)
              all_goals
                go_wp2_with fail
                go_meet
                · have hown := U HO
                  rw [Nat.zero_add, List.nil_append] at hown
                  refine ⟨_, _, hM2.drew.growL (xs := sE.c0) (U HG) (by simpa [instrCells] using hown) (lies_at (U HA) (Nat.le_refl _)), ?_⟩
                  exact (hbM2.drew.grown (U HG) (by show w.heap.size ≤ wc.heap.size; omega) (fun k hk => by cases hk)).setCell hM2.baseP _
          case rest =>
            clear hcp hfp hcr hpl hrl hM2 hbM2
            obtain ⟨vL, vH', hM3, hbM3⟩ := hcut
            rename_i wd
            go_wp2_with fail
            go_loopw [8] (fun i wr' => ∃ (k : Nat) (vL vH : Value), i = .int .i64 k ∧ k ≤ sE.c1.length ∧ Mk w.heap.size wr' w.heap.size p sE (.slice a4 sE.c0.length k4) v5 v6 (.slice a7 0 k7) (.slice a11 sE.heads.length k11) (sE.c0 ++ (sE.c1.take k).map (shiftS sE.c0.length)) (sE.heads ++ [(sE.c0.length : Int)]) vL vH ∧ Below w.heap.size w wr') (fun i _ => sE.c1.length - (intOf i).toNat)
            case atStart => exact ⟨0, _, _, rfl, Nat.zero_le _, by simpa using hM3, hbM3⟩
            case round =>
              clear hM3 hbM3
              obtain ⟨k, vL, vH, rfl, hk, hM, hbM⟩ := hrel
              obtain ⟨a5, k5, hv5⟩ := own_shape hM.o5
              have hs5 : (sE.c1.length : Int) ≤ 4000 := hc1s
              have hk1 : (k : Int) ≤ 4000 := by omega
              subst hv5
              have hcp := hM.blkP.cell
              have hfp := hM.blkP.free
              have hcr := hM.blkR.cell
              have hpl : p < wr.heap.size := hM.blkP.lt
              have hrl : w.heap.size < wr.heap.size := hM.blkR.lt
              unfold rdArr at hcr
              by_cases hlt : k < sE.c1.length
              · obtain ⟨g5, k5', hv5, _, hg5⟩ := hM.o5.form (by omega)
                simp only [Value.slice.injEq, true_and] at hv5
                obtain ⟨rfl, rfl⟩ := hv5
                obtain ⟨x, hx⟩ : ∃ x, sE.c1[k]? = some x := ⟨_, List.getElem?_eq_getElem hlt⟩
                have hx1 := own_cell hM.o5 (k * 2) (by omega)
                have hx2 := own_cell hM.o5 (k * 2 + 1) (by omega)
                rw [(instrCells_at _ _ _ hx).1] at hx1
                rw [(instrCells_at _ _ _ hx).2] at hx2
                have HX := V hx
                clear hx
                have hltI : (k : Int) < sE.c1.length := by omega
                have ways : (x.1 == 1) = true ∨ ((x.1 == 1) = false ∧ (x.1 == 2) = true) ∨ ((x.1 == 1) = false ∧ (x.1 == 2) = false ∧ (x.1 == 7) = true) ∨ ((x.1 == 1) = false ∧ (x.1 == 2) = false ∧ (x.1 == 7) = false) := by
                  cases (x.1 == 1) <;> cases (x.1 == 2) <;> cases (x.1 == 7) <;> simp
                have HWY := V ways
                clear ways
                have hNb : wr.heap.size ≠ w.heap.size := by omega
                have hNp : wr.heap.size ≠ p := by omega
                have hNr : ∀ (i : Nat) (v : Value), [.slice a4 sE.c0.length k4, .slice (some ⟨g5, 0, none⟩) sE.c1.length k5, vH, vL][i]? = some v → v.ownBlock ≠ some wr.heap.size := by
                  intro i v hv e
                  have hi := (List.getElem?_eq_some_iff.1 hv).1
                  have := (ownsRow_lt (hM.owned.own i v _ hv (List.getElem?_eq_getElem (by rw [← hM.owned.len]; exact hi))) e).1
                  omega
                have HNR := V hNr
                have HNB : Hid (w.heap.size ≤ wr.heap.size) := by show w.heap.size ≤ wr.heap.size; omega
                clear hNr
                have hN0 : Blk (wr.alloc (.cells #[.int .i64 x.1, .int .i64 x.2] 65)) wr.heap.size #[.int .i64 x.1, .int .i64 x.2] 65 := Blk.new wr _ _
                have hM1 := hM.alloc (.cells #[.int .i64 x.1, .int .i64 x.2] 65)
                have hbM1 : Below w.heap.size w (wr.alloc (.cells #[.int .i64 x.1, .int .i64 x.2] 65)) := hbM.alloc (by have := hM.baseP; omega) _
                go_upto_region 25 with fail
                generalize wr.alloc (.cells #[.int .i64 x.1, .int .i64 x.2] 65) = wy at hN0 hM1 hbM1 ⊢
                generalize wr.heap.size = nb at hN0 hNb hNp HNR HNB ⊢
                clear hcp hfp hcr hpl hrl hM hbM hx1 hx2
                have hcn := hN0.cell
                have hcp := hM1.blkP.cell
                go_cut [191] from 161 to 209 (fun s191 wz => s191 = .bool (jumpB x.1) ∧ wz = wy)
                case first =>
                  rcases U HWY with q | ⟨q1, q⟩ | ⟨q1, q2, q⟩ | ⟨q1, q2, q3⟩
                  all_goals
                    go_wp2_with fail
                    go_meet
                    exact ⟨by simp [jumpB, *], rfl⟩
                case rest =>
                  obtain ⟨rfl, rfl⟩ := hcut
                  go_upto_if 191 with fail
                  go_cut [] from 161 to 209 (fun wz => ∃ y2, shiftS sE.c0.length x = (x.1, y2) ∧ Blk wz nb #[.int .i64 x.1, .int .i64 y2] 65 ∧ Mk w.heap.size wz w.heap.size p sE (.slice a4 sE.c0.length k4) (.slice (some ⟨g5, 0, none⟩) sE.c1.length k5) v6 (.slice a7 0 k7) (.slice a11 sE.heads.length k11) (sE.c0 ++ (sE.c1.take k).map (shiftS sE.c0.length)) (sE.heads ++ [(sE.c0.length : Int)]) vL vH ∧ Below w.heap.size w wz)
                  case first =>
                    have hsh := shiftS_eq sE.c0.length x
                    cases hj : jumpB x.1
                    · rw [hj] at hsh
                      go_wp2_with fail
                      go_meet
                      exact ⟨x.2, hsh, hN0, hM1, hbM1⟩
                    · rw [hj] at hsh
                      have HSH := V hsh
                      clear hsh
                      have hfn := hN0.free
                      go_wp2_with fail
                      go_region
                      go_wp2_with fail
                      go_meet
                      exact ⟨_, U HSH, by have := (hN0.set 1 (.int .i64 (wrap64 (x.2 + sE.c0.length)))).drew; simpa using this, (hM1.setFar nb 1 _ hNb hNp (U HNR)).drew, (hbM1.setCell (by show w.heap.size ≤ nb; have := U HNB; omega) _).drew⟩
                  case rest =>
                    clear hcn hcp hN0 hM1 hbM1
                    obtain ⟨y2, hsh, hN, hMx, hbx⟩ := hcut
                    have HSH := V hsh
                    clear hsh
                    have hcp := hMx.blkP.cell
                    have hfp := hMx.blkP.free
                    have hcn := hN.cell
                    have hpl := hMx.blkP.lt
                    have hnl := hN.lt
                    have HB := V hMx.blkP
                    have hne := (hMx.far 3 _ rfl).2
                    have hll : (sE.c0 ++ (sE.c1.take k).map (shiftS sE.c0.length)).length ≤ 9000 := by simp; omega
                    have hlast : sE.c0 ++ (sE.c1.take (k + 1)).map (shiftS sE.c0.length) = (sE.c0 ++ (sE.c1.take k).map (shiftS sE.c0.length)) ++ [(x.1, y2)] := by
                      rw [take_one _ _ _ (U HX), List.map_append, ← List.append_assoc, List.map_singleton, U HSH]
                    have HLA := V hlast
                    clear hlast
                    generalize sE.c0 ++ (sE.c1.take k).map (shiftS sE.c0.length) = ll at hMx hll HLA
                    have HW := V (ownsRow_alloc hMx.oL (.cells #[.int .i64 x.1, .int .i64 y2] 65))
                    have hBs : w.heap.size ≤ (wc.alloc (.cells #[.int .i64 x.1, .int .i64 y2] 65)).drew.heap.size := by
                      have := hMx.baseP
                      show w.heap.size ≤ (wc.alloc _).heap.size
                      simp; omega
                    have HBs := V hBs
                    clear hBs
                    go_wp2_with fail
                    go_region_law (refine step_append_lies _ rfl (.tmp 204) (.tmp 206) 33 rfl w.heap.size 65 iI _ 2 16 Tryz.underlying33 hiI hzI0 hzI1 hzI2 rfl (by decide) vL ll.length (instrCells ll) (by simp [Act.eval]) (U HW) ⟨wc.heap.size, 0, none⟩ 1 1 [.int .i64 x.1, .int .i64 y2] (by simp [Act.eval]) rfl (World.news_of_block (Blk.new wc _ _)) (oneCells2 _ _) (by omega) (by unfold maxLen; omega) (by omega) (U HBs) _ rfl ?_; intro g cap w2 hown hgrow hat hlt2; have hb5 := ((U HB).alloc _).drew.grown hgrow hne; have hc5 := hb5.cell; have hf5 := hb5.free; have HO := V hown; have HG := V hgrow; have HA := V hat; clear hown hgrow hat hb5)
                    all_goals
                      go_wp2_with fail
                      go_roundw
                      case rel =>
                        have hg := hMx.growL (xs := [(x.1, y2)]) (grownBy_alloc (U HG)) (U HO) (lies_at (U HA) (by simp))
                        rw [← U HLA] at hg
                        refine ⟨k + 1, _, _, by go_num, by omega, hg, ?_⟩
                        exact hbx.trans ((below_grown_alloc (by have := hMx.baseP; omega) (fun k hk => (ownsRow_lt hMx.oL hk).2) (U HG)).setCell (p := ⟨p, 0, none⟩) hMx.baseP _)
                      case measure => simp [intOf]; omega
              · have hkk : sE.c1.take k = sE.c1 := List.take_of_length_le (by omega)
                have hfull : fullS sE = (sE.c0 ++ sE.c1.map (shiftS sE.c0.length)) ++ [(5, 0)] := rfl
                rw [hkk] at hM
                have hll : (sE.c0 ++ sE.c1.map (shiftS sE.c0.length)).length ≤ 9000 := by simp; omega
                have HFU := V hfull
                clear hfull hkk
                generalize sE.c0 ++ sE.c1.map (shiftS sE.c0.length) = ll at hM hll HFU
                have HB := V hM.blkP
                have hne := (hM.far 3 _ rfl).2
                have HW := V (ownsRow_alloc hM.oL (.cells #[.int .i64 5, .int .i64 0] 65))
                have hBs : w.heap.size ≤ (wr.alloc (.cells #[.int .i64 5, .int .i64 0] 65)).heap.size := by
                  have := hM.baseP
                  simp; omega
                have HBs := V hBs
                clear hBs
                go_wp2_with (at_builtin; refine wpList_append_lies _ rfl (.tmp 214) (.tmp 216) 33 rfl w.heap.size 65 iI _ 2 16 Tryz.underlying33 hiI hzI0 hzI1 hzI2 rfl (by decide) vL ll.length (instrCells ll) (by simp [Act.eval]) (U HW) ⟨wr.heap.size, 0, none⟩ 1 1 [.int .i64 5, .int .i64 0] (by simp [Act.eval]) rfl (World.news_of_block (Blk.new wr _ _)) (oneCells2 _ _) (by omega) (by unfold maxLen; omega) (by omega) (U HBs) _ rfl ?_; intro g cap w2 hown hgrow hat hlt2; have hb5 := ((U HB).alloc _).grown hgrow hne; have hc5 := hb5.cell; have hf5 := hb5.free; have HO := V hown; have HG := V hgrow; have HA := V hat; clear hown hgrow hat hb5)
                go_ret3
                have hpg := (hM.growL (xs := [(5, 0)]) (grownBy_alloc' (U HG)) (U HO) (lies_at (U HA) (by simp))).pg
                rw [← U HFU] at hpg
                refine ⟨p, rfl, ⟨_, _, hpg⟩, ?_⟩
                · exact hbM.trans ((below_grown_alloc' (by have := hM.baseP; omega) (fun k hk => (ownsRow_lt hM.oL hk).2) (U HG)).setCell (p := ⟨p, 0, none⟩) hM.baseP _)
      · exfalso
        have e1 : finS s = st := by rw [← U HL]; exact loop_stop _ (Or.inr herr)
        have h5 := U HE
        unfold endS at h5
        rw [e1, if_neg (by intro e; exact herr e.1)] at h5
        exact herr h5
end Go.Proofs.YtmeiikjpaepogaaGreatDoor
