/- The code that is read is safe to run: what its instructions name are instructions. -/
import Derived.Test.YtmeiikjpaepogaaGreatDoorZ03
import Derived.Test.YtmeiikjpaepogaaGreatDoorZ02
namespace Go.Proofs.YtmeiikjpaepogaaGreatDoor
open Go Go.RowKit

/-- An instruction of a part that is h long; both parts together are d long. -/
def insOk (h d : Nat) (x : Int × Int) : Prop := (0 ≤ x.1 ∧ x.1 ≤ 32) ∧ inI x.2 ∧ (x.1 = 1 ∨ x.1 = 2 ∨ x.1 = 7 → 0 ≤ x.2 ∧ x.2 ≤ h) ∧ (x.1 = 3 → 0 ≤ x.2 ∧ x.2 ≤ d)
structure Good (st : RS) : Prop where
  c0 : ∀ x ∈ st.c0, insOk st.c0.length (st.c0.length + st.c1.length) x
  c1 : ∀ x ∈ st.c1, insOk st.c1.length (st.c0.length + st.c1.length) x
  names : ∀ x ∈ st.names, (x.2.1 = 0 ∨ x.2.1 = 3) ∧ inI x.2.2 ∧ (x.2.1 = 3 → 0 ≤ x.2.2 ∧ x.2.2 ≤ st.c0.length)

theorem insOk_mono {h d h' d' : Nat} {x : Int × Int} (hx : insOk h d x) (hh : h ≤ h') (hd : d ≤ d') : insOk h' d' x := by
  obtain ⟨h1, h2, h3, h4⟩ := hx
  exact ⟨h1, h2, fun e => by have := h3 e; omega, fun e => by have := h4 e; omega⟩
theorem inI_small {x : Int} (h0 : 0 ≤ x) (h1 : x ≤ 100000) : inI x := ⟨by omega, by omega⟩
theorem insOk_plain {h d : Nat} {op arg : Int} (h0 : 0 ≤ op ∧ op ≤ 32) (ha : inI arg) (hn : op ≠ 1 ∧ op ≠ 2 ∧ op ≠ 7 ∧ op ≠ 3) : insOk h d (op, arg) :=
  ⟨h0, ha, fun e => absurd e (by simp <;> omega), fun e => absurd e (by simp <;> omega)⟩

theorem put_good {st : RS} (g : Good st) {op arg : Int} (ho : insOk (hereS st) (st.c0.length + st.c1.length) (op, arg)) : Good (putS st op arg) := by
  unfold putS
  unfold hereS at ho
  split
  · rename_i hs
    rw [if_pos hs] at ho
    refine ⟨?_, ?_, ?_⟩
    · intro x hx
      simp only [List.mem_append, List.mem_singleton] at hx
      rcases hx with hx | rfl
      · exact insOk_mono (g.c0 x hx) (by simp) (by simp <;> omega)
      · exact insOk_mono ho (by simp) (by simp <;> omega)
    · intro x hx
      exact insOk_mono (g.c1 x hx) (by simp) (by simp <;> omega)
    · intro x hx
      obtain ⟨a, b, c⟩ := g.names x hx
      exact ⟨a, b, fun e => by have := c e; simp; omega⟩
  · rename_i hs
    rw [if_neg hs] at ho
    refine ⟨?_, ?_, ?_⟩
    · intro x hx
      exact insOk_mono (g.c0 x hx) (by simp) (by simp <;> omega)
    · intro x hx
      simp only [List.mem_append, List.mem_singleton] at hx
      rcases hx with hx | rfl
      · exact insOk_mono (g.c1 x hx) (by simp) (by simp <;> omega)
      · exact insOk_mono ho (by simp) (by simp <;> omega)
    · intro x hx
      exact g.names x hx

theorem setArg_mem {l : List (Int × Int)} {n : Nat} {a : Int} {x : Int × Int} (h : x ∈ setArg l n a) : x ∈ l ∨ ∃ y ∈ l, x = (y.1, a) := by
  unfold setArg at h
  obtain ⟨i, hi⟩ := List.getElem?_of_mem h
  rw [List.getElem?_modify] at hi
  cases e : l[i]? with
  | none => rw [e] at hi; simp at hi
  | some y =>
    have hy := List.mem_of_getElem? e
    rw [e] at hi
    by_cases hn : n = i
    · simp [hn] at hi
      exact Or.inr ⟨y, hy, hi.symm⟩
    · simp [hn] at hi
      exact Or.inl (by rw [← hi]; exact hy)

theorem tell_good {st : RS} (g : Good st) (hl : st.c0.length ≤ 4000 ∧ st.c1.length ≤ 4000) (n : Nat) : Good (tellS st n) := by
  unfold tellS
  split
  · refine ⟨?_, ?_, ?_⟩
    · intro x hx
      simp only [setArg_length]
      rcases setArg_mem hx with hx | ⟨y, hy, rfl⟩
      · exact g.c0 x hx
      · obtain ⟨a, b, c, d⟩ := g.c0 y hy
        exact ⟨a, inI_small (by simp) (by simp <;> omega), fun e => ⟨by simp, by simp⟩, fun e => ⟨by simp, by simp; omega⟩⟩
    · intro x hx
      simp only [setArg_length]
      exact g.c1 x hx
    · intro x hx
      simp only [setArg_length]
      exact g.names x hx
  · refine ⟨?_, ?_, ?_⟩
    · intro x hx
      simp only [setArg_length]
      exact g.c0 x hx
    · intro x hx
      simp only [setArg_length]
      rcases setArg_mem hx with hx | ⟨y, hy, rfl⟩
      · exact g.c1 x hx
      · obtain ⟨a, b, c, d⟩ := g.c1 y hy
        exact ⟨a, inI_small (by simp) (by simp <;> omega), fun e => ⟨by simp, by simp⟩, fun e => ⟨by simp, by simp; omega⟩⟩
    · intro x hx
      exact g.names x hx

theorem Good.of {st st' : RS} (g : Good st) (h0 : st'.c0 = st.c0) (h1 : st'.c1 = st.c1) (hn : st'.names = st.names) : Good st' := by
  refine ⟨?_, ?_, ?_⟩
  · rw [h0, h1]; exact g.c0
  · rw [h0, h1]; exact g.c1
  · rw [hn, h0]; exact g.names
theorem fail_good {st : RS} (g : Good st) (e : Int) : Good (failS st e) := by
  unfold failS
  split
  · exact g.of rfl rfl rfl
  · exact g
theorem step_good {st : RS} (g : Good st) : Good (stepS st) := g.of rfl rfl rfl
theorem newName_good {st : RS} (g : Good st) : Good (newNameS st) := by
  unfold newNameS
  split
  · exact fail_good (step_good g) _
  · exact step_good g

theorem numFrom_le {D : List UInt8} {most n : Nat} (h : numFrom D most = some n) : n ≤ most := by
  unfold numFrom at h
  split at h
  · simp at h
  · split at h
    · rename_i hc
      simp at h hc
      omega
    · simp at h
theorem numV_in (s : ByteArray) : inI (numV s) := by
  unfold numV numS
  split
  · cases e : numFrom s.toList.tail 9223372036854775808 with
    | none => simp [inI]
    | some n =>
      have := numFrom_le e
      simp [inI]
      omega
  · cases e : numFrom s.toList 9223372036854775807 with
    | none => simp [inI]
    | some n =>
      have := numFrom_le e
      simp [inI]
      omega
theorem plainS_range (s : ByteArray) (h : 0 ≤ plainS s) : 8 ≤ plainS s ∧ plainS s ≤ 32 := by
  unfold plainS at *
  cases e : plainWords.find? (fun x => x.1.toList == s.toList) with
  | none => rw [e] at h; simp at h
  | some x =>
    have hx := List.mem_of_find?_eq_some e
    have : ∀ x ∈ plainWords, 8 ≤ x.2 ∧ x.2 ≤ 32 := by
      unfold plainWords
      simp
    exact this x hx

theorem names_more {st : RS} (g : Good st) {x : ByteArray × Int × Int} (hx : (x.2.1 = 0 ∨ x.2.1 = 3) ∧ inI x.2.2 ∧ (x.2.1 = 3 → 0 ≤ x.2.2 ∧ x.2.2 ≤ st.c0.length)) {st' : RS} (h0 : st'.c0 = st.c0) (h1 : st'.c1 = st.c1) (hn : st'.names = st.names ++ [x]) : Good st' := by
  refine ⟨?_, ?_, ?_⟩
  · rw [h0, h1]; exact g.c0
  · rw [h0, h1]; exact g.c1
  · rw [hn, h0]
    intro y hy
    simp only [List.mem_append, List.mem_singleton] at hy
    rcases hy with hy | rfl
    · exact g.names y hy
    · exact hx

theorem defineS_good {st : RS} {m : Nat} (h : Inv st m) (hm : m < 3000) (g : Good st) : Good (defineS st) := by
  have gn := newName_good g
  have hni := newNameS_inv h
  have hnl := hni.lens
  have hl := h.lens
  unfold lens at hnl hl
  unfold defineS
  split
  · split
    · exact fail_good g _
    · rename_i hno
      have hs : 0 ≤ st.start := by omega
      have gp : Good (putS st 4 0) := put_good g (insOk_plain (by omega) (inI_small (by omega) (by omega)) (by omega))
      have hst := h.start
      refine names_more gp (x := ((putS st 4 0).name, 3, (putS st 4 0).start)) ?_ rfl rfl rfl
      have e : (putS st 4 0).start = st.start := by unfold putS; split <;> rfl
      have e2 : (putS st 4 0).c0.length = st.c0.length + 1 := by unfold putS; rw [if_pos hs]; simp
      simp only [e, e2]
      exact ⟨Or.inr trivial, inI_small hs (by omega), fun _ => ⟨hs, by omega⟩⟩
  · split
    · exact fail_good g _
    · split
      · exact gn
      · split
        · exact gn.of rfl rfl rfl
        · split
          · refine names_more gn (x := ((stepS st).token, 0, (newNameS st).cells)) ?_ rfl rfl rfl
            refine ⟨Or.inl rfl, inI_small ?_ ?_, fun e => ?_⟩ <;> simp_all <;> omega
          · have gc : Good (constant3 (newNameS st)) := by
              unfold constant3
              split
              · exact step_good gn
              · exact fail_good (step_good gn) _
            refine names_more gc (x := ((stepS st).token, 0, numV (stepS (newNameS st)).token)) ?_ rfl rfl rfl
            refine ⟨Or.inl rfl, numV_in _, fun e => ?_⟩
            simp at e

theorem insOk_jump {h d : Nat} {op arg : Int} (ho : op = 1 ∨ op = 2 ∨ op = 7) (h0 : 0 ≤ arg) (h1 : arg ≤ h) (hh : h ≤ 4000) : insOk h d (op, arg) :=
  ⟨by simp; omega, inI_small (by simpa using h0) (by simp <;> omega), fun _ => ⟨h0, h1⟩, fun e => absurd e (by simp <;> omega)⟩
theorem hereS_le {st : RS} {m : Nat} (h : lens st m) : hereS st ≤ m := by
  unfold lens at h
  unfold hereS
  split <;> omega
theorem put_lens {st : RS} {m : Nat} (h : lens st m) (op arg : Int) : lens (putS st op arg) (m + 1) := by
  unfold lens at *
  unfold putS
  split <;> simp <;> omega

theorem closeS_good {st : RS} {m : Nat} (h : Inv st m) (hm : m < 3000) (g : Good st) (l : List (ByteArray × Int × Int)) (x : ByteArray × Int × Int) (ho : st.opens = l ++ [x]) : Good (closeS st l x) := by
  have hx := h.opens x (by rw [ho]; simp)
  have hl := h.lens
  have hh := hereS_le hl
  have gu : Good { st with opens := l } := g.of rfl rfl rfl
  have hlu : lens { st with opens := l } m := by
    unfold lens at hl ⊢
    rw [ho] at hl
    simp at hl ⊢
    omega
  have gj : ∀ (op arg : Int), op = 1 ∨ op = 2 ∨ op = 7 → 0 ≤ arg → arg ≤ hereS st → Good (putS { st with opens := l } op arg) ∧ (putS { st with opens := l } op arg).c0.length ≤ 4000 ∧ (putS { st with opens := l } op arg).c1.length ≤ 4000 := by
    intro op arg h1 h2 h3
    have hp := put_lens hlu op arg
    unfold lens at hp
    exact ⟨put_good gu (insOk_jump h1 h2 (by rw [hereS_opens]; exact h3) (by rw [hereS_opens]; omega)), by omega, by omega⟩
  obtain ⟨⟨ha0, ha1⟩, hn0, hn1⟩ := hx
  unfold closeS
  simp only
  split
  · have k := gj 1 0 (by omega) (by omega) (by omega)
    exact (tell_good k.1 k.2 _).of rfl rfl rfl
  · split
    · unfold lens at hlu
      exact tell_good gu (by simp at hlu ⊢; omega) _
    · split
      · exact (gj 2 _ (by omega) ha0 ha1).1
      · split
        · exact (gj 2 0 (by omega) (by omega) (by omega)).1.of rfl rfl rfl
        · split
          · have k := gj 1 x.2.1 (by omega) ha0 ha1
            exact tell_good k.1 k.2 _
          · split
            · exact (gj 7 _ (by omega) ha0 ha1).1
            · exact fail_good g _

theorem controlS_good {st : RS} {m : Nat} (h : Inv st m) (hm : m < 3000) (g : Good st) : Good (controlS st) := by
  have hl := h.lens
  have hh := hereS_le hl
  unfold controlS
  simp only
  split
  · exact (put_good g (insOk_jump (by omega) (by omega) (by omega) (by omega))).of rfl rfl rfl
  · split
    · exact g.of rfl rfl rfl
    · split
      · exact (put_good g (insOk_plain (by omega) (inI_small (by omega) (by omega)) (by omega))).of rfl rfl rfl
      · split
        · exact fail_good g _
        · rename_i x hx
          exact closeS_good h hm g _ _ (opens_last hx)

theorem elementS_good {st : RS} {m : Nat} (h : Inv st m) (hm : m < 3000) (g : Good st) : Good (elementS st) := by
  have hst := h.start
  have hl := h.lens
  unfold lens at hl
  unfold elementS
  split
  · rename_i hp
    have := plainS_range _ hp
    exact put_good g (insOk_plain (by omega) (inI_small (by omega) (by omega)) (by omega))
  · split
    · exact put_good g (insOk_plain (by omega) (numV_in _) (by omega))
    · split
      · split
        · rename_i x hx
          obtain ⟨a, b, c⟩ := g.names x (List.mem_of_getElem? hx)
          refine put_good g ⟨by simp; omega, b, fun e => ?_, fun e => ?_⟩
          · simp at e; omega
          · have := c e; simp; omega
        · exact g
      · split
        · rename_i hr
          refine put_good g ⟨by simp, inI_small (by simpa using hr.2) (by simp <;> omega), fun e => ?_, fun e => ?_⟩
          · simp at e
          · simp; omega
        · exact fail_good g _

theorem itemS_good {st : RS} {m : Nat} (h : Inv st m) (hm : m < 3000) (g : Good st) : Good (itemS st) := by
  unfold itemS
  split
  · exact defineS_good h hm g
  · split
    · exact controlS_good h hm g
    · exact elementS_good h hm g

theorem loop_good (f : Nat) : ∀ {st : RS} {m : Nat}, Inv st m → m ≤ st.place0 → Good st → Good (loopS f st) ∧ ∃ k, Inv (loopS f st) k ∧ k ≤ 2001 := by
  induction f with
  | zero =>
    intro st m h hm g
    have h1 := h.place
    have h2 := h.next
    have h3 := h.size
    exact ⟨g, m, h, by omega⟩
  | succ f ih =>
    intro st m h hm g
    have h1 := h.place
    have h2 := h.next
    have h3 := h.size
    unfold loopS
    split
    · exact ⟨g, m, h, by omega⟩
    · rename_i hno
      have hne : st.token.toList.isEmpty = false := by
        cases e : st.token.toList.isEmpty
        · rfl
        · exact absurd (Or.inl e) hno
      have gi := itemS_good h (by omega) g
      have hr := round_inv h hm hne
      unfold roundS
      split
      · exact ih hr.1 hr.2.1 (step_good gi)
      · rename_i he
        rw [loop_stop _ (Or.inr he)]
        exact ⟨gi, m + 1, itemS_inv h, by omega⟩

theorem start_good (s : ByteArray) : Good (startS s) := ⟨by simp [startS], by simp [startS], by simp [startS]⟩
theorem end_good (s : ByteArray) (hs : s.size ≤ 2000) : Good (endS s) ∧ ∃ k, Inv (endS s) k ∧ k ≤ 2001 := by
  have h0 := stepS_inv (start_inv s hs)
  have k := loop_good (fuelS (stepS (startS s))) h0.1 (Nat.zero_le _) (step_good (start_good s))
  obtain ⟨g, m, hi, hm⟩ := k
  unfold endS
  split
  · exact ⟨fail_good g _, m, failS_inv hi _, hm⟩
  · exact ⟨g, m, hi, hm⟩

/-- Instructions that may be run. -/
structure CodeOk (l : List (Int × Int)) : Prop where
  ins : ∀ x ∈ l, (0 ≤ x.1 ∧ x.1 ≤ 32 ∨ 40 ≤ x.1 ∧ x.1 ≤ 59) ∧ inI x.2 ∧ (namesS x.1 = true → 0 ≤ x.2 ∧ x.2 < l.length)
  last : ∃ x, l.getLast? = some x ∧ (x.1 = 1 ∨ x.1 = 4 ∨ x.1 = 5)
  small : l.length ≤ 5000

theorem full_ok {st : RS} {m : Nat} (h : Inv st m) (hm : m ≤ 2001) (g : Good st) : CodeOk (fullS st) := by
  have hl := h.lens
  unfold lens at hl
  have hlen : (fullS st).length = st.c0.length + st.c1.length + 1 := by simp [fullS]; omega
  refine ⟨?_, ⟨(5, 0), by simp [fullS], by simp⟩, by omega⟩
  intro x hx
  rw [hlen]
  unfold fullS at hx
  simp only [List.mem_append, List.mem_singleton, List.mem_map] at hx
  have key : ∀ x : Int × Int, insOk (st.c0.length + st.c1.length) (st.c0.length + st.c1.length) x → (0 ≤ x.1 ∧ x.1 ≤ 32 ∨ 40 ≤ x.1 ∧ x.1 ≤ 59) ∧ inI x.2 ∧ (namesS x.1 = true → 0 ≤ x.2 ∧ x.2 < ((st.c0.length + st.c1.length + 1 : Nat) : Int)) := by
    intro x ⟨a, b, c, d⟩
    refine ⟨Or.inl a, b, fun e => ?_⟩
    unfold namesS at e
    simp at e
    rcases e with ((e | e) | e) | e
    · have := c (Or.inl e); omega
    · have := c (Or.inr (Or.inl e)); omega
    · have := d e; omega
    · have := c (Or.inr (Or.inr e)); omega
  rcases hx with (hx | ⟨y, hy, rfl⟩) | rfl
  · exact key x (insOk_mono (g.c0 x hx) (by omega) (Nat.le_refl _))
  · have hy' := g.c1 y hy
    apply key
    obtain ⟨a, b, c, d⟩ := hy'
    unfold shiftS
    split
    · rename_i e
      have := c e
      have hw : wrap64 (y.2 + (st.c0.length : Int)) = y.2 + st.c0.length := by
        unfold wrap64; omega
      rw [hw]
      exact ⟨a, inI_small (by simp <;> omega) (by simp <;> omega), fun _ => ⟨by simp; omega, by simp; omega⟩, fun e3 => by simp at e3; omega⟩
    · exact ⟨a, b, fun e => by rename_i hn; exact absurd e hn, d⟩
  · exact key (5, 0) (insOk_plain (by omega) (inI_small (by omega) (by omega)) (by omega))
end Go.Proofs.YtmeiikjpaepogaaGreatDoor
