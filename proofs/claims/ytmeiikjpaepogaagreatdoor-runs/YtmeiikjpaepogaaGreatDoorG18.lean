/- The code that is read is safe to run: what its instructions name are instructions. -/
import Derived.Test.YtmeiikjpaepogaaGreatDoorG12
import Derived.Test.YtmeiikjpaepogaaGreatDoorG04
import Derived.Test.YtmeiikjpaepogaaGreatDoorG17
import Derived.Deep.CutRange
namespace Go.Proofs.YtmeiikjpaepogaaGreatDoor
open Go Go.RowKit

/-- An instruction of a part that is h long; both parts together are d long. -/
def insOk (h d : Nat) (x : Int × Int) : Prop := (0 ≤ x.1 ∧ x.1 ≤ 32) ∧ inI x.2 ∧ (x.1 = 1 ∨ x.1 = 2 ∨ x.1 = 7 → 0 ≤ x.2 ∧ x.2 ≤ h) ∧ (x.1 = 3 → 0 ≤ x.2 ∧ x.2 ≤ d)
structure Good (st : RS) : Prop where
  c0 : ∀ x ∈ st.c0, insOk st.c0.length (st.c0.length + st.c1.length) x
  c1 : ∀ x ∈ st.c1, insOk st.c1.length (st.c0.length + st.c1.length) x
  names : ∀ x ∈ st.names, (x.2.1 = 0 ∨ x.2.1 = 3) ∧ inI x.2.2 ∧ (x.2.1 = 3 → 0 ≤ x.2.2 ∧ x.2.2 ≤ st.c0.length)

theorem insOk_mono {h d h' d' : Nat} {x : Int × Int} (hx : insOk h d x) (hh : h ≤ h') (hd : d ≤ d') : insOk h' d' x := by
  obtain ⟨h1, h2, h3, h4⟩ := hx
  exact ⟨h1, h2, fun e => by have := h3 e; omega, fun e => by have := h4 e; omega⟩
theorem inI_small {x : Int} (h0 : 0 ≤ x) (h1 : x ≤ 100000) : inI x := ⟨by omega, by omega⟩
theorem insOk_plain {h d : Nat} {op arg : Int} (h0 : 0 ≤ op ∧ op ≤ 32) (ha : inI arg) (hn : op ≠ 1 ∧ op ≠ 2 ∧ op ≠ 7 ∧ op ≠ 3) : insOk h d (op, arg) :=
  ⟨h0, ha, fun e => absurd e (by simp <;> omega), fun e => absurd e (by simp <;> omega)⟩

theorem put_good {st : RS} (g : Good st) {op arg : Int} (ho : insOk (hereS st) (st.c0.length + st.c1.length) (op, arg)) : Good (putS st op arg) := by
  unfold putS
  unfold hereS at ho
  split
  · rename_i hs
    rw [if_pos hs] at ho
    refine ⟨?_, ?_, ?_⟩
    · intro x hx
      simp only [List.mem_append, List.mem_singleton] at hx
      rcases hx with hx | rfl
      · exact insOk_mono (g.c0 x hx) (by simp) (by simp <;> omega)
      · exact insOk_mono ho (by simp) (by simp <;> omega)
    · intro x hx
      exact insOk_mono (g.c1 x hx) (by simp) (by simp <;> omega)
    · intro x hx
      obtain ⟨a, b, c⟩ := g.names x hx
      exact ⟨a, b, fun e => by have := c e; simp; omega⟩
  · rename_i hs
    rw [if_neg hs] at ho
    refine ⟨?_, ?_, ?_⟩
    · intro x hx
      exact insOk_mono (g.c0 x hx) (by simp) (by simp <;> omega)
    · intro x hx
      simp only [List.mem_append, List.mem_singleton] at hx
      rcases hx with hx | rfl
      · exact insOk_mono (g.c1 x hx) (by simp) (by simp <;> omega)
      · exact insOk_mono ho (by simp) (by simp <;> omega)
    · intro x hx
      exact g.names x hx

theorem setArg_mem {l : List (Int × Int)} {n : Nat} {a : Int} {x : Int × Int} (h : x ∈ setArg l n a) : x ∈ l ∨ ∃ y ∈ l, x = (y.1, a) := by
  unfold setArg at h
  obtain ⟨i, hi⟩ := List.getElem?_of_mem h
  rw [List.getElem?_modify] at hi
  cases e : l[i]? with
  | none => rw [e] at hi; simp at hi
  | some y =>
    have hy := List.mem_of_getElem? e
    rw [e] at hi
    by_cases hn : n = i
    · simp [hn] at hi
      exact Or.inr ⟨y, hy, hi.symm⟩
    · simp [hn] at hi
      exact Or.inl (by rw [← hi]; exact hy)

theorem tell_good {st : RS} (g : Good st) (hl : st.c0.length ≤ 4000 ∧ st.c1.length ≤ 4000) (n : Nat) : Good (tellS st n) := by
  unfold tellS
  split
  · refine ⟨?_, ?_, ?_⟩
    · intro x hx
      simp only [setArg_length]
      rcases setArg_mem hx with hx | ⟨y, hy, rfl⟩
      · exact g.c0 x hx
      · obtain ⟨a, b, c, d⟩ := g.c0 y hy
        exact ⟨a, inI_small (by simp) (by simp <;> omega), fun e => ⟨by simp, by simp⟩, fun e => ⟨by simp, by simp; omega⟩⟩
    · intro x hx
      simp only [setArg_length]
      exact g.c1 x hx
    · intro x hx
      simp only [setArg_length]
      exact g.names x hx
  · refine ⟨?_, ?_, ?_⟩
    · intro x hx
      simp only [setArg_length]
      exact g.c0 x hx
    · intro x hx
      simp only [setArg_length]
      rcases setArg_mem hx with hx | ⟨y, hy, rfl⟩
      · exact g.c1 x hx
      · obtain ⟨a, b, c, d⟩ := g.c1 y hy
        exact ⟨a, inI_small (by simp) (by simp <;> omega), fun e => ⟨by simp, by simp⟩, fun e => ⟨by simp, by simp; omega⟩⟩
    · intro x hx
      exact g.names x hx

theorem Good.of {st st' : RS} (g : Good st) (h0 : st'.c0 = st.c0) (h1 : st'.c1 = st.c1) (hn : st'.names = st.names) : Good st' := by
  refine ⟨?_, ?_, ?_⟩
  · rw [h0, h1]; exact g.c0
  · rw [h0, h1]; exact g.c1
  · rw [hn, h0]; exact g.names
theorem fail_good {st : RS} (g : Good st) (e : Int) : Good (failS st e) := by
  unfold failS
  split
  · exact g.of rfl rfl rfl
  · exact g
theorem step_good {st : RS} (g : Good st) : Good (stepS st) := g.of rfl rfl rfl
theorem newName_good {st : RS} (g : Good st) : Good (newNameS st) := by
  unfold newNameS
  split
  · exact fail_good (step_good g) _
  · exact step_good g

theorem numFrom_le {D : List UInt8} {most n : Nat} (h : numFrom D most = some n) : n ≤ most := by
  unfold numFrom at h
  split at h
  · simp at h
  · split at h
    · rename_i hc
      simp at h hc
      omega
    · simp at h
theorem numV_in (s : ByteArray) : inI (numV s) := by
  unfold numV numS
  split
  · cases e : numFrom s.toList.tail 9223372036854775808 with
    | none => simp [inI]
    | some n =>
      have := numFrom_le e
      simp [inI]
      omega
  · cases e : numFrom s.toList 9223372036854775807 with
    | none => simp [inI]
    | some n =>
      have := numFrom_le e
      simp [inI]
      omega
theorem plainS_range (s : ByteArray) (h : 0 ≤ plainS s) : 8 ≤ plainS s ∧ plainS s ≤ 32 := by
  unfold plainS at *
  cases e : plainWords.find? (fun x => x.1.toList == s.toList) with
  | none => rw [e] at h; simp at h
  | some x =>
    have hx := List.mem_of_find?_eq_some e
    have : ∀ x ∈ plainWords, 8 ≤ x.2 ∧ x.2 ≤ 32 := by
      unfold plainWords
      simp
    exact this x hx

theorem names_more {st : RS} (g : Good st) {x : ByteArray × Int × Int} (hx : (x.2.1 = 0 ∨ x.2.1 = 3) ∧ inI x.2.2 ∧ (x.2.1 = 3 → 0 ≤ x.2.2 ∧ x.2.2 ≤ st.c0.length)) {st' : RS} (h0 : st'.c0 = st.c0) (h1 : st'.c1 = st.c1) (hn : st'.names = st.names ++ [x]) : Good st' := by
  refine ⟨?_, ?_, ?_⟩
  · rw [h0, h1]; exact g.c0
  · rw [h0, h1]; exact g.c1
  · rw [hn, h0]
    intro y hy
    simp only [List.mem_append, List.mem_singleton] at hy
    rcases hy with hy | rfl
    · exact g.names y hy
    · exact hx

theorem defineS_good {st : RS} {m : Nat} (h : Inv st m) (hm : m < 3000) (g : Good st) : Good (defineS st) := by
  have gn := newName_good g
  have hni := newNameS_inv h
  have hnl := hni.lens
  have hl := h.lens
  unfold lens at hnl hl
  unfold defineS
  split
  · split
    · exact fail_good g _
    · rename_i hno
      have hs : 0 ≤ st.start := by omega
      have gp : Good (putS st 4 0) := put_good g (insOk_plain (by omega) (inI_small (by omega) (by omega)) (by omega))
      have hst := h.start
      refine names_more gp (x := ((putS st 4 0).name, 3, (putS st 4 0).start)) ?_ rfl rfl rfl
      have e : (putS st 4 0).start = st.start := by unfold putS; split <;> rfl
      have e2 : (putS st 4 0).c0.length = st.c0.length + 1 := by unfold putS; rw [if_pos hs]; simp
      simp only [e, e2]
      exact ⟨Or.inr trivial, inI_small hs (by omega), fun _ => ⟨hs, by omega⟩⟩
  · split
    · exact fail_good g _
    · split
      · exact gn
      · split
        · exact gn.of rfl rfl rfl
        · split
          · refine names_more gn (x := ((stepS st).token, 0, (newNameS st).cells)) ?_ rfl rfl rfl
            refine ⟨Or.inl rfl, inI_small ?_ ?_, fun e => ?_⟩ <;> simp_all <;> omega
          · have gc : Good (constant3 (newNameS st)) := by
              unfold constant3
              split
              · exact step_good gn
              · exact fail_good (step_good gn) _
            refine names_more gc (x := ((stepS st).token, 0, numV (stepS (newNameS st)).token)) ?_ rfl rfl rfl
            refine ⟨Or.inl rfl, numV_in _, fun e => ?_⟩
            simp at e

theorem insOk_jump {h d : Nat} {op arg : Int} (ho : op = 1 ∨ op = 2 ∨ op = 7) (h0 : 0 ≤ arg) (h1 : arg ≤ h) (hh : h ≤ 4000) : insOk h d (op, arg) :=
  ⟨by simp; omega, inI_small (by simpa using h0) (by simp <;> omega), fun _ => ⟨h0, h1⟩, fun e => absurd e (by simp <;> omega)⟩
theorem hereS_le {st : RS} {m : Nat} (h : lens st m) : hereS st ≤ m := by
  unfold lens at h
  unfold hereS
  split <;> omega
theorem put_lens {st : RS} {m : Nat} (h : lens st m) (op arg : Int) : lens (putS st op arg) (m + 1) := by
  unfold lens at *
  unfold putS
  split <;> simp <;> omega

theorem closeS_good {st : RS} {m : Nat} (h : Inv st m) (hm : m < 3000) (g : Good st) (l : List (ByteArray × Int × Int)) (x : ByteArray × Int × Int) (ho : st.opens = l ++ [x]) : Good (closeS st l x) := by
  have hx := h.opens x (by rw [ho]; simp)
  have hl := h.lens
  have hh := hereS_le hl
  have gu : Good { st with opens := l } := g.of rfl rfl rfl
  have hlu : lens { st with opens := l } m := by
    unfold lens at hl ⊢
    rw [ho] at hl
    simp at hl ⊢
    omega
  have gj : ∀ (op arg : Int), op = 1 ∨ op = 2 ∨ op = 7 → 0 ≤ arg → arg ≤ hereS st → Good (putS { st with opens := l } op arg) ∧ (putS { st with opens := l } op arg).c0.length ≤ 4000 ∧ (putS { st with opens := l } op arg).c1.length ≤ 4000 := by
    intro op arg h1 h2 h3
    have hp := put_lens hlu op arg
    unfold lens at hp
    exact ⟨put_good gu (insOk_jump h1 h2 (by rw [hereS_opens]; exact h3) (by rw [hereS_opens]; omega)), by omega, by omega⟩
  obtain ⟨⟨ha0, ha1⟩, hn0, hn1⟩ := hx
  unfold closeS
  simp only
  split
  · have k := gj 1 0 (by omega) (by omega) (by omega)
    exact (tell_good k.1 k.2 _).of rfl rfl rfl
  · split
    · unfold lens at hlu
      exact tell_good gu (by simp at hlu ⊢; omega) _
    · split
      · exact (gj 2 _ (by omega) ha0 ha1).1
      · split
        · exact (gj 2 0 (by omega) (by omega) (by omega)).1.of rfl rfl rfl
        · split
          · have k := gj 1 x.2.1 (by omega) ha0 ha1
            exact tell_good k.1 k.2 _
          · split
            · exact (gj 7 _ (by omega) ha0 ha1).1
            · exact fail_good g _

theorem controlS_good {st : RS} {m : Nat} (h : Inv st m) (hm : m < 3000) (g : Good st) : Good (controlS st) := by
  have hl := h.lens
  have hh := hereS_le hl
  unfold controlS
  simp only
  split
  · exact (put_good g (insOk_jump (by omega) (by omega) (by omega) (by omega))).of rfl rfl rfl
  · split
    · exact g.of rfl rfl rfl
    · split
      · exact (put_good g (insOk_plain (by omega) (inI_small (by omega) (by omega)) (by omega))).of rfl rfl rfl
      · split
        · exact fail_good g _
        · rename_i x hx
          exact closeS_good h hm g _ _ (opens_last hx)

theorem elementS_good {st : RS} {m : Nat} (h : Inv st m) (hm : m < 3000) (g : Good st) : Good (elementS st) := by
  have hst := h.start
  have hl := h.lens
  unfold lens at hl
  unfold elementS
  split
  · rename_i hp
    have := plainS_range _ hp
    exact put_good g (insOk_plain (by omega) (inI_small (by omega) (by omega)) (by omega))
  · split
    · exact put_good g (insOk_plain (by omega) (numV_in _) (by omega))
    · split
      · split
        · rename_i x hx
          obtain ⟨a, b, c⟩ := g.names x (List.mem_of_getElem? hx)
          refine put_good g ⟨by simp; omega, b, fun e => ?_, fun e => ?_⟩
          · simp at e; omega
          · have := c e; simp; omega
        · exact g
      · split
        · rename_i hr
          refine put_good g ⟨by simp, inI_small (by simpa using hr.2) (by simp <;> omega), fun e => ?_, fun e => ?_⟩
          · simp at e
          · simp; omega
        · exact fail_good g _

theorem itemS_good {st : RS} {m : Nat} (h : Inv st m) (hm : m < 3000) (g : Good st) : Good (itemS st) := by
  unfold itemS
  split
  · exact defineS_good h hm g
  · split
    · exact controlS_good h hm g
    · exact elementS_good h hm g

theorem loop_good (f : Nat) : ∀ {st : RS} {m : Nat}, Inv st m → m ≤ st.place0 → Good st → Good (loopS f st) ∧ ∃ k, Inv (loopS f st) k ∧ k ≤ 2001 := by
  induction f with
  | zero =>
    intro st m h hm g
    have h1 := h.place
    have h2 := h.next
    have h3 := h.size
    exact ⟨g, m, h, by omega⟩
  | succ f ih =>
    intro st m h hm g
    have h1 := h.place
    have h2 := h.next
    have h3 := h.size
    unfold loopS
    split
    · exact ⟨g, m, h, by omega⟩
    · rename_i hno
      have hne : st.token.toList.isEmpty = false := by
        cases e : st.token.toList.isEmpty
        · rfl
        · exact absurd (Or.inl e) hno
      have gi := itemS_good h (by omega) g
      have hr := round_inv h hm hne
      unfold roundS
      split
      · exact ih hr.1 hr.2.1 (step_good gi)
      · rename_i he
        rw [loop_stop _ (Or.inr he)]
        exact ⟨gi, m + 1, itemS_inv h, by omega⟩

theorem start_good (s : ByteArray) : Good (startS s) := ⟨by simp [startS], by simp [startS], by simp [startS]⟩
theorem end_good (s : ByteArray) (hs : s.size ≤ 2000) : Good (endS s) ∧ ∃ k, Inv (endS s) k ∧ k ≤ 2001 := by
  have h0 := stepS_inv (start_inv s hs)
  have k := loop_good (fuelS (stepS (startS s))) h0.1 (Nat.zero_le _) (step_good (start_good s))
  obtain ⟨g, m, hi, hm⟩ := k
  unfold endS
  split
  · exact ⟨fail_good g _, m, failS_inv hi _, hm⟩
  · exact ⟨g, m, hi, hm⟩

/-- Instructions that may be run. -/
structure CodeOk (l : List (Int × Int)) : Prop where
  ins : ∀ x ∈ l, (0 ≤ x.1 ∧ x.1 ≤ 32 ∨ 40 ≤ x.1 ∧ x.1 ≤ 59) ∧ inI x.2 ∧ (namesS x.1 = true → 0 ≤ x.2 ∧ x.2 < l.length)
  last : ∃ x, l.getLast? = some x ∧ (x.1 = 1 ∨ x.1 = 4 ∨ x.1 = 5)
  small : l.length ≤ 5000

theorem full_ok {st : RS} {m : Nat} (h : Inv st m) (hm : m ≤ 2001) (g : Good st) : CodeOk (fullS st) := by
  have hl := h.lens
  unfold lens at hl
  have hlen : (fullS st).length = st.c0.length + st.c1.length + 1 := by simp [fullS]; omega
  refine ⟨?_, ⟨(5, 0), by simp [fullS], by simp⟩, by omega⟩
  intro x hx
  rw [hlen]
  unfold fullS at hx
  simp only [List.mem_append, List.mem_singleton, List.mem_map] at hx
  have key : ∀ x : Int × Int, insOk (st.c0.length + st.c1.length) (st.c0.length + st.c1.length) x → (0 ≤ x.1 ∧ x.1 ≤ 32 ∨ 40 ≤ x.1 ∧ x.1 ≤ 59) ∧ inI x.2 ∧ (namesS x.1 = true → 0 ≤ x.2 ∧ x.2 < ((st.c0.length + st.c1.length + 1 : Nat) : Int)) := by
    intro x ⟨a, b, c, d⟩
    refine ⟨Or.inl a, b, fun e => ?_⟩
    unfold namesS at e
    simp at e
    rcases e with ((e | e) | e) | e
    · have := c (Or.inl e); omega
    · have := c (Or.inr (Or.inl e)); omega
    · have := d e; omega
    · have := c (Or.inr (Or.inr e)); omega
  rcases hx with (hx | ⟨y, hy, rfl⟩) | rfl
  · exact key x (insOk_mono (g.c0 x hx) (by omega) (Nat.le_refl _))
  · have hy' := g.c1 y hy
    apply key
    obtain ⟨a, b, c, d⟩ := hy'
    unfold shiftS
    split
    · rename_i e
      have := c e
      have hw : wrap64 (y.2 + (st.c0.length : Int)) = y.2 + st.c0.length := by
        unfold wrap64; omega
      rw [hw]
      exact ⟨a, inI_small (by simp <;> omega) (by simp <;> omega), fun _ => ⟨by simp; omega, by simp; omega⟩, fun e3 => by simp at e3; omega⟩
    · exact ⟨a, b, fun e => by rename_i hn; exact absurd e hn, d⟩
  · exact key (5, 0) (insOk_plain (by omega) (inI_small (by omega) (by omega)) (by omega))

end Go.Proofs.YtmeiikjpaepogaaGreatDoor

/- The reference's Machine: foreign blocks that are kept; a program that lies below; one step as a plain function. -/
namespace Go.Proofs.YtmeiikjpaepogaaGreatDoor
open Go Go.RowKit

def partsRun (arg : Int) : List Int → MS → MS × Int
  | [], m => (m, 0)
  | op :: r, m => if refusedS m op = 0 then partsRun arg r (doS m op arg) else (m, refusedS m op)
def stepM (l : List (Int × Int)) (m : MS) : MS × Int :=
  match l[m.pc.toNat]? with
  | some x => partsRun x.2 (partsS x.1) { m with pc := m.pc + 1 }
  | none => (m, 0)

theorem ite_ks {c : Prop} [Decidable c] {a b a' b' : MS} {k : List (Nat × Array Value × TypeId)} (ha : a = { a' with ks := k }) (hb : b = { b' with ks := k }) : (if c then a else b) = { (if c then a' else b') with ks := k } := by
  split <;> assumption
theorem doS_ks (m : MS) (k : List (Nat × Array Value × TypeId)) (op arg : Int) : doS { m with ks := k } op arg = { doS m op arg with ks := k } := by
  unfold doS
  repeat' (first | apply ite_ks | rfl)
theorem doS_keeps (m : MS) (op arg : Int) : (doS m op arg).ks = m.ks := by
  have h : (doS { m with ks := m.ks } op arg).ks = m.ks := by rw [doS_ks]
  exact h
theorem partsRun_ks (arg : Int) (ps : List Int) (m : MS) (k : List (Nat × Array Value × TypeId)) : partsRun arg ps { m with ks := k } = ({ (partsRun arg ps m).1 with ks := k }, (partsRun arg ps m).2) := by
  induction ps generalizing m with
  | nil => rfl
  | cons op r ih =>
    have hr : refusedS { m with ks := k } op = refusedS m op := rfl
    unfold partsRun
    rw [hr, doS_ks, ih]
    split <;> rfl
theorem parts_range (op : Int) : ∀ x ∈ partsS op, 0 ≤ x ∧ x ≤ 32 := by
  unfold partsS
  split
  · rename_i y hy
    have hm := List.mem_of_find?_eq_some hy
    have : ∀ y ∈ partsTab, ∀ x ∈ y.2, 0 ≤ x ∧ x ≤ 32 := by
      unfold partsTab
      simp
    exact this y hm
  · split
    · intro x hx
      simp at hx
      omega
    · simp
theorem parts_length (op : Int) : (partsS op).length ≤ 3 := by
  unfold partsS
  split
  · rename_i y hy
    have hm := List.mem_of_find?_eq_some hy
    have : ∀ y ∈ partsTab, y.2.length ≤ 3 := by
      unfold partsTab
      simp
    exact this y hm
  · split <;> simp
theorem parts_some (op : Int) (h : 0 ≤ op ∧ op ≤ 32 ∨ 40 ≤ op ∧ op ≤ 59) : 1 ≤ (partsS op).length := by
  unfold partsS
  split
  · rename_i y hy
    have hm := List.mem_of_find?_eq_some hy
    have : ∀ y ∈ partsTab, 1 ≤ y.2.length := by
      unfold partsTab
      simp
    exact this y hm
  · rename_i hn
    rcases h with h | h
    · rw [if_pos h]; simp
    · exfalso
      have h1 : op = 40 ∨ op = 41 ∨ op = 42 ∨ op = 43 ∨ op = 44 ∨ op = 45 ∨ op = 46 ∨ op = 47 ∨ op = 48 ∨ op = 49 ∨ op = 50 ∨ op = 51 ∨ op = 52 ∨ op = 53 ∨ op = 54 ∨ op = 55 ∨ op = 56 ∨ op = 57 ∨ op = 58 ∨ op = 59 := by omega
      rcases h1 with rfl | rfl | rfl | rfl | rfl | rfl | rfl | rfl | rfl | rfl | rfl | rfl | rfl | rfl | rfl | rfl | rfl | rfl | rfl | rfl <;> simp [partsTab] at hn

/-- One foreign block more is kept. -/
theorem McE.tag {B : Nat} {w w' : World} {b : Nat} {m : MS} (h : McE B w b m) (hb : Below w.heap.size w w') {q : Nat} {cs : Array Value} {T : TypeId} (hq : Blk w' q cs T) (hn : w.heap.size ≤ q) : McE B w' b { m with ks := (q, cs, T) :: m.ks } := by
  obtain ⟨_, _, _, _, h⟩ := h
  have hlt := h.blk.lt
  refine ⟨_, _, _, _, ⟨h.blk.below hb h.blk.lt, h.base, ?_, h.lims, h.small, h.ints, ?_, ?_⟩⟩
  · refine (h.owned.more (bs' := b :: q :: m.ks.map (fun x => x.1)) ?_).below_all hb
    intro c hc
    simp only [List.mem_cons] at hc ⊢
    rcases hc with hc | hc | hc
    · exact Or.inl (Or.inl hc)
    · exact Or.inr (by omega)
    · exact Or.inl (Or.inr hc)
  · intro x hx
    rcases List.mem_cons.1 hx with rfl | hx
    · exact hq
    · exact (h.kept x hx).below hb (h.kept x hx).lt
  · intro x hx
    rcases List.mem_cons.1 hx with rfl | hx
    · simp only; omega
    · exact h.kne x hx
/-- Two fewer. -/
theorem McE.untag {B : Nat} {w : World} {b : Nat} {m : MS} {x y : Nat × Array Value × TypeId} {k : List (Nat × Array Value × TypeId)} (h : McE B w b { m with ks := x :: y :: k }) : McE B w b { m with ks := k } := by
  obtain ⟨_, _, _, _, h⟩ := h
  refine ⟨_, _, _, _, ⟨h.blk, h.base, ?_, h.lims, h.small, h.ints, ?_, ?_⟩⟩
  · refine h.owned.more ?_
    intro c hc
    simp only [List.mem_cons, List.map_cons] at hc ⊢
    rcases hc with hc | hc
    · exact Or.inl (Or.inl hc)
    · exact Or.inl (Or.inr (Or.inr (Or.inr hc)))
  · exact fun z hz => h.kept z (List.mem_cons_of_mem _ (List.mem_cons_of_mem _ hz))
  · exact fun z hz => h.kne z (List.mem_cons_of_mem _ (List.mem_cons_of_mem _ hz))

/-- A program in memory, below B. -/
def Cd (B : Nat) (w : World) (p : Nat) (l : List (Int × Int)) (en ce : Int) : Prop :=
  ∃ g cap vH, Blk w p #[.slice (some ⟨g, 0, none⟩) l.length cap, .int .i64 en, .int .i64 ce, vH] 137 ∧ p < B ∧ g < B ∧ w.ownsRow 0 65 2 (.slice (some ⟨g, 0, none⟩) l.length cap) l.length (instrCells l)
theorem Cd.below {B : Nat} {w w' : World} {p : Nat} {l : List (Int × Int)} {en ce : Int} (h : Cd B w p l en ce) (hb : Below B w w') : Cd B w' p l en ce := by
  obtain ⟨g, cap, vH, h1, h2, h3, h4⟩ := h
  refine ⟨g, cap, vH, h1.below hb h2, h2, h3, ownsRow_of_block h4 ?_⟩
  intro k hk _
  simp [Value.ownBlock] at hk
  exact hb.block k (by omega)

theorem step_fin {B : Nat} {w : World} {b : Nat} {m mk : MS} {x y : Nat × Array Value × TypeId} {arg e : Int} {ps : List Int} (hr : partsRun arg ps { m with ks := x :: y :: m.ks } = (mk, e)) (h : McE B w b mk) : McE B w b (partsRun arg ps m).1 ∧ e = (partsRun arg ps m).2 := by
  have e1 := partsRun_ks arg ps m (x :: y :: m.ks)
  have e2 : (partsRun arg ps m).1.ks = m.ks := by
    have := partsRun_ks arg ps m m.ks
    have h3 : ({ m with ks := m.ks } : MS) = m := rfl
    rw [h3] at this
    have := congrArg (fun z : MS × Int => z.1.ks) this
    simpa using this
  rw [hr] at e1
  simp only [Prod.mk.injEq] at e1
  obtain ⟨rfl, rfl⟩ := e1
  refine ⟨?_, rfl⟩
  have h4 := h.untag
  generalize partsRun arg ps m = z at *
  obtain ⟨z1, z2⟩ := z
  simp only at h4 e2 ⊢
  rw [← e2] at h4
  exact h4

theorem Tryz.name184 : (Tryz.f184.name == "runtime.NumGoroutine") = false := by kernel_rfl
theorem Tryz.body184 : Tryz.f184.body.isNone = false := by kernel_rfl

set_option maxRecDepth 100000 in
set_option maxHeartbeats 2000000 in
theorem step_m (B b : Nat) (m : MS) (l : List (Int × Int)) (en ce : Int) (w : World) (h : McE B w b m) (hcd : Cd B w m.p l en ce) (hok : CodeOk l) (hpc : 0 ≤ m.pc ∧ m.pc < l.length) :
    Calls Tryz.prog 138 #[.pointer (some ⟨b, 0, none⟩)] w fun e w' => e = .returned (.int .i64 (stepM l m).2) ∧ McE B w' b (stepM l m).1 ∧ Below B w w' := by
  obtain ⟨k0, hk0⟩ : ∃ k0 : Nat, m.pc = k0 := ⟨m.pc.toNat, by omega⟩
  have hlt : k0 < l.length := by omega
  obtain ⟨x, hx⟩ : ∃ x, l[k0]? = some x := ⟨_, List.getElem?_eq_getElem hlt⟩
  have hxok := hok.ins x (List.mem_of_getElem? hx)
  have hsm := hok.small
  have hst : stepM l m = partsRun x.2 (partsS x.1) { m with pc := m.pc + 1 } := by
    unfold stepM
    rw [hk0, Int.toNat_natCast, hx]
  rw [hst]
  have HS := hide hst
  have harg := hide hxok.2.1
  have hps := parts_some x.1 hxok.1
  have hpl := parts_length x.1
  have hpr := hide (parts_range x.1)
  clear hxok hst hok
  obtain ⟨v5, v6, v7, v8, h⟩ := h
  obtain ⟨g, cap, vH, hP, hpB, hgB, hrow⟩ := hcd
  have hx1 := own_cell hrow (k0 * 2) (by omega)
  have hx2 := own_cell hrow (k0 * 2 + 1) (by omega)
  rw [(instrCells_at _ _ _ hx).1] at hx1
  rw [(instrCells_at _ _ _ hx).2] at hx2
  have hpcell := hP.cell
  have hc := h.blk.cell
  have hf := h.blk.free
  unfold mcArr at hc
  rw [hk0] at hc
  have hltI : (k0 : Int) < l.length := by omega
  have hk5 : (k0 : Int) ≤ 5000 := by omega
  have hl5 : (l.length : Int) ≤ 5000 := by omega
  have hbl := h.blk.lt
  have hpl' := hP.lt
  have hgl' := (ownsRow_lt hrow (k := g) rfl).1
  have hwx : IntKind.i64.wrap ((k0 : Int) + 1) = (k0 : Int) + 1 := by rw [IntKind.wrap_i64]; omega
  have HPC := hide hpc
  have HXL := hide hx
  have HH := hide h
  have HK0 := hide hk0
  clear hpc hx h hk0 hrow hP
  go_enter Tryz.func138, Tryz.ntmps138
  go_wp2_with fail
  go_region
  go_wp2_with fail
  have h := unhide HH
  have hk0 := unhide HK0
  have hf1 : McE B (w.setCell ⟨b, 10, none⟩ (.int .i64 ((k0 : Int) + 1))) b { m with pc := m.pc + 1 } :=
    ⟨_, _, _, _, h.field 10 _ _ (by simp [mcArr, hk0]) rfl h.lims h.small h.ints⟩
  have hsz1 : (w.setCell ⟨b, 10, none⟩ (.int .i64 ((k0 : Int) + 1))).heap.size = w.heap.size := by simp [World.setCell]
  have hN1 := Blk.new (w.setCell ⟨b, 10, none⟩ (.int .i64 ((k0 : Int) + 1))) #[.int .i64 x.1, .int .i64 x.2] 65
  rw [hsz1] at hN1
  have ht1 := hf1.tag (w' := ((w.setCell ⟨b, 10, none⟩ (.int .i64 ((k0 : Int) + 1))).alloc (.cells #[.int .i64 x.1, .int .i64 x.2] 65)).drew) ((Below.refl _ _).alloc (Nat.le_refl _) _).drew hN1.drew (by omega)
  have hb1 : Below B w ((w.setCell ⟨b, 10, none⟩ (.int .i64 ((k0 : Int) + 1))).alloc (.cells #[.int .i64 x.1, .int .i64 x.2] 65)).drew := (((Below.refl B w).setCell h.base _).alloc (by have := h.base; omega) _).drew
  have hBw : B ≤ ((w.setCell ⟨b, 10, none⟩ (.int .i64 ((k0 : Int) + 1))).alloc (.cells #[.int .i64 x.1, .int .i64 x.2] 65)).drew.heap.size := by have := h.base; show B ≤ (World.alloc _ _).heap.size; simp; omega
  clear hc hf hpcell hx1 hx2 hN1 hf1 h hk0
  generalize ((w.setCell ⟨b, 10, none⟩ (.int .i64 ((k0 : Int) + 1))).alloc (.cells #[.int .i64 x.1, .int .i64 x.2] 65)).drew = W1 at ht1 hb1 hBw ⊢
  refine (parts_any x.1 W1).mono ?_
  rintro e w2 ⟨v, rfl, hrow, hb2⟩
  have hrow2 := hrow.2
  rcases hrow2 with ⟨_, h0⟩ | ⟨gp, cp, cur, rfl, hgp, hcur, hncp, hcpm, hcs, htake⟩
  · omega
  have ht2 := ht1.tag hb2 (q := gp) (cs := cur) (T := 3) hcur hgp
  have hb12 : Below B w w2 := hb1.trans ⟨hb2.os, hb2.tape, hb2.output, hb2.size, fun k hk => hb2.block k (by omega)⟩
  have hcc : ∀ (k : Nat) (op : Int), (partsS x.1)[k]? = some op → cur[k]? = some (Value.int .i64 op) := by
    intro k op hop
    have hk : k < (partsS x.1).length := (List.getElem?_eq_some_iff.1 hop).1
    have h1 : (cur.toList.take ((partsS x.1).length * 1))[k]? = some (.int .i64 op) := by rw [htake, List.getElem?_map, hop]; rfl
    rw [List.getElem?_take_of_lt (by omega)] at h1
    simpa using h1
  have HCC := hide hcc
  have HPL : Hid ((partsS x.1).length ≤ 3) := hpl
  generalize hps0 : partsS x.1 = ps at *
  have HPS := hide hps0
  have hplI : (ps.length : Int) ≤ 3 := by omega
  clear hb1 hb2 hBw ht1 hrow htake hcs hcpm hncp hcur hcc hgp HPC HXL HH HK0 HS hps0
  go_wp2_with fail
  go_loopw [5] (fun i wr => ∃ (k : Nat) (mk : MS), i = .int .i64 k ∧ k ≤ ps.length ∧ McE B wr b mk ∧ mk.ks = (gp, cur, 3) :: (w.heap.size, #[.int .i64 x.1, .int .i64 x.2], 65) :: m.ks ∧ partsRun x.2 (ps.drop k) mk = partsRun x.2 ps { m with pc := m.pc + 1, ks := (gp, cur, 3) :: (w.heap.size, #[.int .i64 x.1, .int .i64 x.2], 65) :: m.ks } ∧ Below B w wr) (fun i _ => ps.length - (intOf i).toNat)
  case atStart => exact ⟨0, _, rfl, Nat.zero_le _, ht2, rfl, rfl, hb12⟩
  case round =>
    clear ht2 hb12
    obtain ⟨k, mk, rfl, hk, ⟨u5, u6, u7, u8, hm⟩, hks, hrun, hbel⟩ := hrel
    by_cases hlt2 : k < ps.length
    · obtain ⟨op, hop⟩ : ∃ op, ps[k]? = some op := ⟨_, List.getElem?_eq_getElem hlt2⟩
      have hkept := hm.kept
      rw [hks] at hkept
      have hq1 : Blk wr gp cur 3 := hkept (gp, cur, 3) (List.mem_cons_self ..)
      have hcell := hq1.cell k
      rw [unhide HCC k op hop] at hcell
      have hq2 : Blk wr w.heap.size #[.int .i64 x.1, .int .i64 x.2] 65 := hkept (w.heap.size, #[.int .i64 x.1, .int .i64 x.2], 65) (List.mem_cons_of_mem _ (List.mem_cons_self ..))
      have hcell2 := hq2.cell
      have hq1l := hq1.lt
      have hBr : B ≤ wr.heap.size := by have := hm.base; have := hm.blk.lt; omega
      have hdrop : ps.drop k = op :: ps.drop (k + 1) := by
        obtain ⟨hlt', rfl⟩ := List.getElem?_eq_some_iff.1 hop
        exact List.drop_eq_getElem_cons hlt'
      rw [hdrop] at hrun
      have hoprange := unhide hpr op (List.mem_of_getElem? hop)
      have hltI2 : (k : Int) < ps.length := by omega
      have HR := hide (refused_any B b mk op wr ⟨_, _, _, _, hm⟩)
      have HRUN := hide hrun
      have HM := hide hm
      have HKS := hide hks
      clear hrun hkept hq1 hks hm hop
      go_wp2_with fail
      refine (unhide HR).mono ?_
      rintro e w3 ⟨rfl, hb3⟩
      have hm3 := McE.below ⟨_, _, _, _, unhide HM⟩ hb3
      have hq3 := hq2.below hb3 hq2.lt
      by_cases hz : refusedS mk op = 0
      · have HD : Hid (∀ n, Calls Tryz.prog 184 #[.pointer (some ⟨b, 0, none⟩), .int .i64 op, .int .i64 x.2] (w3.drewN n) fun e w' => e = .returned (.tuple #[]) ∧ McE B w' b (doS mk op x.2) ∧ Below B (w3.drewN n) w') := fun n => do_any B b mk op x.2 (w3.drewN n) (by obtain ⟨_, _, _, _, h3⟩ := hm3; exact ⟨_, _, _, _, h3.drewN n⟩) (unhide harg) hoprange hz
        have hcell3 := hq3.cell
        have hp3 : w3.cell? ⟨gp, k, none⟩ = some (.int .i64 op) := by
          have : gp < wr.heap.size := hq1l
          rw [hb3.cell (by simpa using this)]; exact hcell
        go_wp2_with fail
        go_region_law (refine step_call rfl 184 #[.tmp 45, .tmp 49, .tmp 51] #[185, 3, 2] rfl Tryz.func184 Tryz.name184 Tryz.body184 #[.pointer (some ⟨b, 0, none⟩), .int .i64 op, .int .i64 x.2] (by first | (simp [Act.eval]; done) | (simp [Act.eval, Act.put]; done) | rfl) (unhide HD _) ?_; rintro e w4 ⟨rfl, hm4, hb4⟩; refine ⟨_, rfl, ?_⟩; have HM4 := hide hm4; have HB4 := hide (below_drewN hb4); clear hm4 hb4)
        all_goals
          go_wp2_with fail
          go_roundw
          case rel =>
            refine ⟨k + 1, doS mk op x.2, by go_num, by omega, unhide HM4, by rw [doS_keeps]; exact unhide HKS, ?_, (hbel.trans (hb3.mono hBr)).trans (unhide HB4)⟩
            have hr := unhide HRUN
            rw [partsRun, if_pos hz] at hr
            exact hr
          case measure => simp [intOf]; omega
      · have hz' : (refusedS mk op == 0) = false := by simpa using hz
        go_wp2_with fail
        go_ret
        have hr := unhide HRUN
        rw [partsRun, if_neg hz] at hr
        obtain ⟨h1, h2⟩ := step_fin (m := { m with pc := m.pc + 1 }) hr.symm hm3
        rw [← unhide HPS] at h1 h2
        exact ⟨ret_int h2, h1, hbel.trans (hb3.mono hBr)⟩
    · have hkn : k = ps.length := by omega
      subst hkn
      go_wp2_with fail
      go_ret
      rw [List.drop_length, partsRun] at hrun
      obtain ⟨h1, h2⟩ := step_fin (m := { m with pc := m.pc + 1 }) hrun.symm ⟨_, _, _, _, hm⟩
      rw [← unhide HPS] at h1 h2
      exact ⟨ret_int h2, h1, hbel⟩

end Go.Proofs.YtmeiikjpaepogaaGreatDoor

