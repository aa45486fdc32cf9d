/- The reference's Reader as plain functions; what holds of its states. -/
import Derived.Test.YtmeiikjpaepogaaGreatDoorZ01
import Derived.Deep.CutRange
namespace Go.Proofs.YtmeiikjpaepogaaGreatDoor
open Go Go.RowKit

def defineS (st : RS) : RS :=
  if st.token.toList == [59] then (if st.start < 0 ∨ st.opens ≠ [] then failS st 4 else semiS st)
  else if 0 ≤ st.start ∨ st.opens ≠ [] then failS st 4
  else if (newNameS st).err ≠ 0 then newNameS st
  else if st.token.toList == [58] then colonS (newNameS st) (stepS st).token
  else if st.token.toList == [118, 97, 114, 105, 97, 98, 108, 101] then variableS (newNameS st) (stepS st).token
  else constantS (newNameS st) (stepS st).token

/-- What closes or goes on: with what was opened last. -/
def closeS (st : RS) (l : List (ByteArray × Int × Int)) (x : ByteArray × Int × Int) : RS :=
  let t := st.token.toList
  let u := { st with opens := l }
  let n := x.2.2.toNat
  if t == [101, 108, 115, 101] ∧ x.1.toList == [105, 102] then openS (tellS (putS u 1 0) n) (⟨#[101, 108, 115, 101]⟩, 0, hereS u)
  else if t == [116, 104, 101, 110] ∧ (x.1.toList == [105, 102] ∨ x.1.toList == [101, 108, 115, 101]) then tellS u n
  else if t == [117, 110, 116, 105, 108] ∧ x.1.toList == [98, 101, 103, 105, 110] then putS u 2 x.2.1
  else if t == [119, 104, 105, 108, 101] ∧ x.1.toList == [98, 101, 103, 105, 110] then openS (putS u 2 0) (⟨#[119, 104, 105, 108, 101]⟩, x.2.1, hereS u)
  else if t == [114, 101, 112, 101, 97, 116] ∧ x.1.toList == [119, 104, 105, 108, 101] then tellS (putS u 1 x.2.1) n
  else if t == [108, 111, 111, 112] ∧ x.1.toList == [100, 111] then putS u 7 x.2.1
  else failS st 4

def controlS (st : RS) : RS :=
  let t := st.token.toList
  if t == [105, 102] then openS (putS st 2 0) (⟨#[105, 102]⟩, 0, hereS st)
  else if t == [98, 101, 103, 105, 110] then openS st (⟨#[98, 101, 103, 105, 110]⟩, hereS st, 0)
  else if t == [100, 111] then openS (putS st 6 0) (⟨#[100, 111]⟩, (hereS st : Int) + 1, 0)
  else match st.opens.getLast? with
    | none => failS st 4
    | some x => closeS st st.opens.dropLast x

def elementS (st : RS) : RS :=
  if 0 ≤ plainS st.token then putS st (plainS st.token) 0
  else if (numS st.token).isSome then putS st 0 (numV st.token)
  else if 0 ≤ findS st.names st.token then (match st.names[(findS st.names st.token).toNat]? with | some x => putS st x.2.1 x.2.2 | none => st)
  else if (st.token.toList == [114, 101, 99, 117, 114, 115, 101]) ∧ 0 ≤ st.start then putS st 3 st.start
  else failS st 2

def isDefine (t : List UInt8) : Bool := t == [58] || t == [59] || t == [118, 97, 114, 105, 97, 98, 108, 101] || t == [99, 111, 110, 115, 116, 97, 110, 116]
def isControl (s : ByteArray) : Bool := structS s && !(s.toList == [114, 101, 99, 117, 114, 115, 101])
/-- One token. -/
def itemS (st : RS) : RS := if isDefine st.token.toList then defineS st else if isControl st.token then controlS st else elementS st
def roundS (st : RS) : RS := if (itemS st).err = 0 then stepS (itemS st) else itemS st
def loopS : Nat → RS → RS
  | 0, st => st
  | f + 1, st => if st.token.toList.isEmpty ∨ st.err ≠ 0 then st else loopS f (roundS st)

/-- An open thing fits the code that it stands in. -/
def openOk (h : Nat) (x : ByteArray × Int × Int) : Prop := (0 ≤ x.2.1 ∧ x.2.1 ≤ h) ∧ 0 ≤ x.2.2 ∧ ((x.1.toList == [105, 102] ∨ x.1.toList == [101, 108, 115, 101] ∨ x.1.toList == [119, 104, 105, 108, 101]) → x.2.2 < h)

/-- All lists are at most m long. -/
def lens (st : RS) (m : Nat) : Prop := st.c0.length ≤ m ∧ st.c1.length ≤ m ∧ st.names.length ≤ m ∧ st.opens.length ≤ m ∧ st.heads.length ≤ m ∧ 0 ≤ st.cells ∧ st.cells ≤ m

structure Inv (st : RS) (m : Nat) : Prop where
  size : st.s.size ≤ 2000
  next : st.next ≤ st.s.size
  place : st.place0 ≤ st.next
  lens : lens st m
  start : -1 ≤ st.start ∧ st.start ≤ st.c0.length
  opens : ∀ x ∈ st.opens, openOk (hereS st) x
  token : st.token = st.s.extract st.place0 st.next

theorem stepS_inv {st : RS} {m : Nat} (h : Inv st m) : Inv (stepS st) m ∧ st.next ≤ (stepS st).place0 := by
  have h1 := scan_le st.s gapB (st.s.size - st.next) st.next h.next
  have h2 := scan_le st.s (fun b => !gapB b) (st.s.size - skipS st.s st.next) (skipS st.s st.next) h1.2
  exact ⟨⟨h.size, h2.2, h2.1, h.lens, h.start, h.opens, rfl⟩, h1.1⟩
theorem lens_mono {st : RS} {m k : Nat} (h : lens st m) (hk : m ≤ k) : lens st k := by unfold lens at *; omega
theorem Inv.mono {st : RS} {m k : Nat} (h : Inv st m) (hk : m ≤ k) : Inv st k := ⟨h.size, h.next, h.place, lens_mono h.lens hk, h.start, h.opens, h.token⟩
theorem failS_inv {st : RS} {m : Nat} (h : Inv st m) (e : Int) : Inv (failS st e) m := by
  unfold failS
  split
  · exact ⟨h.size, h.next, h.place, h.lens, h.start, h.opens, h.token⟩
  · exact h
theorem hereS_put (st : RS) (op arg : Int) : hereS (putS st op arg) = hereS st + 1 := by
  unfold putS hereS
  split <;> simp_all
theorem openOk_mono {h k : Nat} {x : ByteArray × Int × Int} (ho : openOk h x) (hk : h ≤ k) : openOk k x := by
  obtain ⟨⟨h1, h2⟩, h3, h4⟩ := ho
  exact ⟨⟨h1, by omega⟩, h3, fun e => by have := h4 e; omega⟩
theorem putS_inv {st : RS} {m : Nat} (h : Inv st m) (op arg : Int) : Inv (putS st op arg) (m + 1) := by
  have ho : ∀ x ∈ (putS st op arg).opens, openOk (hereS (putS st op arg)) x := by
    have e : (putS st op arg).opens = st.opens := by unfold putS; split <;> rfl
    rw [e, hereS_put]
    exact fun x hx => openOk_mono (h.opens x hx) (by omega)
  have hl := h.lens
  have hs := h.start
  unfold lens at hl
  refine ⟨?_, ?_, ?_, ?_, ?_, ho, ?_⟩
  all_goals unfold putS; split
  all_goals first | exact h.size | exact h.next | exact h.place | exact h.token | (unfold lens; simp; omega) | (simp; omega) | omega
theorem tok_eq {s : ByteArray} {l : List UInt8} (h : (s.toList == l) = true) : s = ⟨l.toArray⟩ := by
  have e : s.toList = l := by simpa using h
  rw [ByteArray.toList_eq] at e
  cases s
  simp at e ⊢
  rw [← e]

theorem newNameS_inv {st : RS} {m : Nat} (h : Inv st m) : Inv (newNameS st) m := by
  unfold newNameS
  split
  · exact failS_inv (stepS_inv h).1 _
  · exact (stepS_inv h).1
theorem newNameS_same (st : RS) : (newNameS st).opens = st.opens ∧ (newNameS st).start = st.start ∧ (newNameS st).c0 = st.c0 ∧ (newNameS st).s = st.s ∧ (newNameS st).next = (stepS st).next := by
  unfold newNameS failS stepS
  split
  · split <;> exact ⟨rfl, rfl, rfl, rfl, rfl⟩
  · exact ⟨rfl, rfl, rfl, rfl, rfl⟩
theorem failS_same (st : RS) (e : Int) : (failS st e).opens = st.opens ∧ (failS st e).start = st.start ∧ (failS st e).names = st.names ∧ (failS st e).s = st.s ∧ (failS st e).next = st.next := by
  unfold failS
  split <;> exact ⟨rfl, rfl, rfl, rfl, rfl⟩
theorem constant3_inv {st : RS} {m : Nat} (h : Inv st m) : Inv (constant3 st) m := by
  unfold constant3
  split
  · exact (stepS_inv h).1
  · exact failS_inv (stepS_inv h).1 _
theorem opens_last {l : List (ByteArray × Int × Int)} {x : ByteArray × Int × Int} (h : l.getLast? = some x) : l = l.dropLast ++ [x] := by
  obtain ⟨ys, e⟩ := List.getLast?_eq_some_iff.1 h
  rw [e]; simp

theorem hereS_opens (st : RS) (l : List (ByteArray × Int × Int)) : hereS { st with opens := l } = hereS st := rfl
theorem hereS_tell (st : RS) (n : Nat) : hereS (tellS st n) = hereS st := by
  unfold tellS hereS
  split <;> simp [setArg_length, *]
theorem putS_opens (st : RS) (op arg : Int) : (putS st op arg).opens = st.opens := by unfold putS; split <;> rfl
theorem tellS_opens (st : RS) (n : Nat) : (tellS st n).opens = st.opens := by unfold tellS; split <;> rfl
theorem Inv.cut {st : RS} {m : Nat} (h : Inv st m) {l : List (ByteArray × Int × Int)} (hl : ∀ x ∈ l, x ∈ st.opens) (hn : l.length ≤ m) : Inv { st with opens := l } m := by
  have h1 := h.lens
  unfold YtmeiikjpaepogaaGreatDoor.lens at h1
  exact ⟨h.size, h.next, h.place, by unfold YtmeiikjpaepogaaGreatDoor.lens; simp; omega, h.start, fun x hx => h.opens x (hl x hx), h.token⟩
theorem tellS_inv {st : RS} {m : Nat} (h : Inv st m) (n : Nat) : Inv (tellS st n) m := by
  have ho : ∀ x ∈ (tellS st n).opens, openOk (hereS (tellS st n)) x := by
    rw [tellS_opens, hereS_tell]; exact h.opens
  have hl := h.lens
  have hs := h.start
  unfold lens at hl
  refine ⟨?_, ?_, ?_, ?_, ?_, ho, ?_⟩
  all_goals unfold tellS; split
  all_goals first | exact h.size | exact h.next | exact h.place | exact h.token | (unfold lens; simp [setArg_length]; omega) | (simp [setArg_length]; omega) | omega
theorem openS_inv {st : RS} {m : Nat} (h : Inv st m) {x : ByteArray × Int × Int} (hx : openOk (hereS st) x) (hn : st.opens.length + 1 ≤ m) : Inv (openS st x) m := by
  have hl := h.lens
  unfold lens at hl
  refine ⟨h.size, h.next, h.place, by unfold lens openS; simp; omega, h.start, ?_, h.token⟩
  intro y hy
  unfold openS at hy
  simp only [List.mem_append, List.mem_singleton] at hy
  rcases hy with hy | rfl
  · exact h.opens y hy
  · exact hx

theorem defineS_inv {st : RS} {m : Nat} (h : Inv st m) : Inv (defineS st) (m + 1) := by
  have hni := newNameS_inv h
  have hsame := newNameS_same st
  have hnl := hni.lens
  unfold lens at hnl
  unfold defineS
  split
  · split
    · exact (failS_inv h _).mono (by omega)
    · rename_i hno
      have hp := putS_inv h 4 0
      have hl := h.lens
      unfold lens at hl
      have hop : st.opens = [] := by
        rcases Classical.em (st.opens = []) with e | e
        · exact e
        · exact absurd (Or.inr e) hno
      have hpo : (putS st 4 0).opens = [] := by rw [putS_opens, hop]
      have hpl := hp.lens
      unfold lens at hpl
      have hpn : (putS st 4 0).names = st.names := by unfold putS; split <;> rfl
      refine ⟨hp.size, hp.next, hp.place, ?_, ?_, ?_, hp.token⟩
      · unfold lens semiS; simp [hpn]; rw [hpn] at hpl; omega
      · unfold semiS; simp
      · unfold semiS; simp [hpo]
  · split
    · exact (failS_inv h _).mono (by omega)
    · rename_i hno
      have hop : (newNameS st).opens = [] := by
        rw [hsame.1]
        rcases Classical.em (st.opens = []) with e | e
        · exact e
        · exact absurd (Or.inr e) hno
      split
      · exact hni.mono (by omega)
      · split
        · refine ⟨hni.size, hni.next, hni.place, ?_, ?_, ?_, hni.token⟩
          · unfold lens colonS; simp; omega
          · unfold colonS; simp
          · unfold colonS; simp [hop]
        · split
          · refine ⟨hni.size, hni.next, hni.place, ?_, hni.start, ?_, hni.token⟩
            · unfold lens variableS; simp; omega
            · unfold variableS; simp [hop]
          · have hc := constant3_inv hni
            have hcl := hc.lens
            unfold lens at hcl
            have hco : (constant3 (newNameS st)).opens = [] := by
              unfold constant3
              split
              · exact hop
              · rw [(failS_same _ _).1]; exact hop
            refine ⟨hc.size, hc.next, hc.place, ?_, hc.start, ?_, hc.token⟩
            · unfold lens constantS; simp; omega
            · unfold constantS; simp [hco]

theorem closeS_inv {st : RS} {m : Nat} (h : Inv st m) (l : List (ByteArray × Int × Int)) (x : ByteArray × Int × Int) (ho : st.opens = l ++ [x]) : Inv (closeS st l x) (m + 1) := by
  have hx := h.opens x (by rw [ho]; simp)
  have hl := h.lens
  unfold lens at hl
  have hln : l.length + 1 ≤ m := by rw [ho] at hl; simp at hl; omega
  have hcut := h.cut (l := l) (fun y hy => by rw [ho]; simp [hy]) (by omega)
  obtain ⟨⟨ha0, ha1⟩, hn0, hn1⟩ := hx
  unfold closeS
  simp only
  split
  · refine openS_inv (tellS_inv (putS_inv hcut 1 0) _) ?_ (by rw [tellS_opens, putS_opens]; simp; omega)
    rw [hereS_tell, hereS_put, hereS_opens]
    exact ⟨⟨by simp, by simp; omega⟩, by simp, fun _ => by simp; omega⟩
  · split
    · exact (tellS_inv hcut _).mono (by omega)
    · split
      · exact putS_inv hcut _ _
      · split
        · refine openS_inv (putS_inv hcut 2 0) ?_ (by rw [putS_opens]; simp; omega)
          rw [hereS_put, hereS_opens]
          exact ⟨⟨ha0, by simp; omega⟩, by simp, fun _ => by simp; omega⟩
        · split
          · exact tellS_inv (putS_inv hcut _ _) _
          · split
            · exact putS_inv hcut _ _
            · exact (failS_inv h _).mono (by omega)

theorem controlS_inv {st : RS} {m : Nat} (h : Inv st m) : Inv (controlS st) (m + 1) := by
  have hl := h.lens
  unfold lens at hl
  unfold controlS
  simp only
  split
  · refine openS_inv (putS_inv h 2 0) ?_ (by rw [putS_opens]; omega)
    rw [hereS_put]
    exact ⟨⟨by simp, by simp; omega⟩, by simp, fun _ => by simp; omega⟩
  · split
    · refine openS_inv (h.mono (by omega)) ?_ (by omega)
      exact ⟨⟨by simp, by simp⟩, by simp, fun e => by simp [ByteArray.toList_eq] at e⟩
    · split
      · refine openS_inv (putS_inv h 6 0) ?_ (by rw [putS_opens]; omega)
        rw [hereS_put]
        exact ⟨⟨by simp; omega, by simp⟩, by simp, fun e => by simp [ByteArray.toList_eq] at e⟩
      · split
        · exact (failS_inv h _).mono (by omega)
        · rename_i x hx
          exact closeS_inv h _ _ (opens_last hx)

theorem elementS_inv {st : RS} {m : Nat} (h : Inv st m) : Inv (elementS st) (m + 1) := by
  unfold elementS
  split
  · exact putS_inv h _ _
  · split
    · exact putS_inv h _ _
    · split
      · split
        · exact putS_inv h _ _
        · exact h.mono (by omega)
      · split
        · exact putS_inv h _ _
        · exact (failS_inv h _).mono (by omega)

theorem itemS_inv {st : RS} {m : Nat} (h : Inv st m) : Inv (itemS st) (m + 1) := by
  unfold itemS
  split
  · exact defineS_inv h
  · split
    · exact controlS_inv h
    · exact elementS_inv h
def Adv (st st' : RS) : Prop := st'.s = st.s ∧ st.next ≤ st'.next
theorem Adv.refl (st : RS) : Adv st st := ⟨rfl, Nat.le_refl _⟩
theorem Adv.trans {a b c : RS} (h : Adv a b) (k : Adv b c) : Adv a c := ⟨k.1.trans h.1, Nat.le_trans h.2 k.2⟩
theorem adv_fail (st : RS) (e : Int) : Adv st (failS st e) := ⟨(failS_same st e).2.2.2.1, by rw [(failS_same st e).2.2.2.2]; exact Nat.le_refl _⟩
theorem adv_put (st : RS) (op arg : Int) : Adv st (putS st op arg) := by unfold putS; split <;> exact ⟨rfl, Nat.le_refl _⟩
theorem adv_tell (st : RS) (n : Nat) : Adv st (tellS st n) := by unfold tellS; split <;> exact ⟨rfl, Nat.le_refl _⟩
theorem adv_open (st : RS) (x : ByteArray × Int × Int) : Adv st (openS st x) := ⟨rfl, Nat.le_refl _⟩
theorem adv_cut (st : RS) (l : List (ByteArray × Int × Int)) : Adv st { st with opens := l } := ⟨rfl, Nat.le_refl _⟩
theorem adv_step {st : RS} {m : Nat} (h : Inv st m) : Adv st (stepS st) := ⟨rfl, Nat.le_trans (stepS_inv h).2 (stepS_inv h).1.place⟩
theorem adv_newName {st : RS} {m : Nat} (h : Inv st m) : Adv st (newNameS st) := by
  unfold newNameS
  split
  · exact (adv_step h).trans (adv_fail _ _)
  · exact adv_step h
theorem adv_define {st : RS} {m : Nat} (h : Inv st m) : Adv st (defineS st) := by
  unfold defineS
  split
  · split
    · exact adv_fail _ _
    · exact (adv_put st 4 0).trans ⟨rfl, Nat.le_refl _⟩
  · split
    · exact adv_fail _ _
    · split
      · exact adv_newName h
      · split
        · exact (adv_newName h).trans ⟨rfl, Nat.le_refl _⟩
        · split
          · exact (adv_newName h).trans ⟨rfl, Nat.le_refl _⟩
          · have h3 : Adv (newNameS st) (constant3 (newNameS st)) := by
              unfold constant3
              split
              · exact adv_step (newNameS_inv h)
              · exact (adv_step (newNameS_inv h)).trans (adv_fail _ _)
            exact ((adv_newName h).trans h3).trans ⟨rfl, Nat.le_refl _⟩
theorem adv_control (st : RS) : Adv st (controlS st) := by
  unfold controlS
  simp only
  split
  · exact (adv_put st _ _).trans (adv_open _ _)
  · split
    · exact adv_open _ _
    · split
      · exact (adv_put st _ _).trans (adv_open _ _)
      · split
        · exact adv_fail _ _
        · unfold closeS
          simp only
          split
          · exact (((adv_cut st _).trans (adv_put _ _ _)).trans (adv_tell _ _)).trans (adv_open _ _)
          · split
            · exact (adv_cut st _).trans (adv_tell _ _)
            · split
              · exact (adv_cut st _).trans (adv_put _ _ _)
              · split
                · exact ((adv_cut st _).trans (adv_put _ _ _)).trans (adv_open _ _)
                · split
                  · exact ((adv_cut st _).trans (adv_put _ _ _)).trans (adv_tell _ _)
                  · split
                    · exact (adv_cut st _).trans (adv_put _ _ _)
                    · exact adv_fail _ _
theorem adv_element (st : RS) : Adv st (elementS st) := by
  unfold elementS
  split
  · exact adv_put _ _ _
  · split
    · exact adv_put _ _ _
    · split
      · split
        · exact adv_put _ _ _
        · exact Adv.refl _
      · split
        · exact adv_put _ _ _
        · exact adv_fail _ _
theorem adv_item {st : RS} {m : Nat} (h : Inv st m) : Adv st (itemS st) := by
  unfold itemS
  split
  · exact adv_define h
  · split
    · exact adv_control st
    · exact adv_element st

def startS (s : ByteArray) : RS := { s := s, next := 0, place0 := 0, token := ⟨#[]⟩, c0 := [], c1 := [], names := [], opens := [], start := -1, name := ⟨#[]⟩, cells := 0, heads := [], err := 0, place := 0 }
def fuelS (st : RS) : Nat := st.s.size - st.place0 + 1
def finS (s : ByteArray) : RS := loopS (fuelS (stepS (startS s))) (stepS (startS s))
def endS (s : ByteArray) : RS := if (finS s).err = 0 ∧ (0 ≤ (finS s).start ∨ (finS s).opens ≠ []) then failS (finS s) 4 else finS s

theorem start_inv (s : ByteArray) (h : s.size ≤ 2000) : Inv (startS s) 0 :=
  ⟨h, Nat.zero_le _, Nat.le_refl _, by unfold lens startS; simp, by unfold startS; simp, by unfold startS; simp, by
    unfold startS
    simp
    rfl⟩

theorem token_full {st : RS} {m : Nat} (h : Inv st m) (hne : st.token.toList.isEmpty = false) : st.place0 < st.next := by
  rcases Nat.lt_or_ge st.place0 st.next with e | e
  · exact e
  · exfalso
    have hl : st.token.size = 0 := by rw [h.token, ByteArray.size_extract]; omega
    have := bytes_len st.token
    rw [hl] at this
    rw [List.eq_nil_of_length_eq_zero this] at hne
    simp at hne

/-- A round that goes on. -/
theorem round_inv {st : RS} {m : Nat} (h : Inv st m) (hm : m ≤ st.place0) (hne : st.token.toList.isEmpty = false) :
    Inv (stepS (itemS st)) (m + 1) ∧ m + 1 ≤ (stepS (itemS st)).place0 ∧ st.place0 < (stepS (itemS st)).place0 ∧ (stepS (itemS st)).s = st.s := by
  have h1 := itemS_inv h
  have h2 := stepS_inv h1
  have h3 := adv_item h
  have h4 := token_full h hne
  have := h3.2
  exact ⟨h2.1, by omega, by omega, h3.1⟩
theorem loop_stop {st : RS} (f : Nat) (h : st.token.toList.isEmpty = true ∨ st.err ≠ 0) : loopS f st = st := by
  cases f with
  | zero => rfl
  | succ f => unfold loopS; rw [if_pos (by simpa using h)]
theorem loop_more {st : RS} {m : Nat} (f : Nat) (h : Inv st m) (hf : st.s.size - st.place0 < f) : ∀ k, f + k ≥ 0 → loopS (f + k) st = loopS f st := by
  induction f generalizing st m with
  | zero => omega
  | succ f ih =>
    intro k _
    by_cases hs : st.token.toList.isEmpty = true ∨ st.err ≠ 0
    · rw [loop_stop _ hs, loop_stop _ hs]
    · have e : f + 1 + k = (f + k) + 1 := by omega
      rw [e, loopS, loopS, if_neg (by simpa using hs), if_neg (by simpa using hs)]
      have hne : st.token.toList.isEmpty = false := by
        cases e : st.token.toList.isEmpty
        · rfl
        · exact absurd (Or.inl e) hs
      unfold roundS
      split
      · have h1 := itemS_inv h
        have h2 := stepS_inv h1
        have h3 := adv_item h
        have h4 := token_full h hne
        have h5 := h3.2
        have h6 := h2.1.place
        have h7 := h2.1.next
        have h8 : (stepS (itemS st)).s = st.s := h3.1
        refine ih h2.1 ?_ k (by omega)
        rw [h8]
        rw [h8] at h7
        omega
      · rename_i he
        rw [loop_stop _ (Or.inr he), loop_stop _ (Or.inr he)]

theorem loop_round {st : RS} {m : Nat} (h : Inv st m) (hm : m ≤ st.place0) (hne : st.token.toList.isEmpty = false) (h0 : st.err = 0) (he : (itemS st).err = 0) :
    loopS (fuelS st) st = loopS (fuelS (stepS (itemS st))) (stepS (itemS st)) := by
  obtain ⟨h1, h2, h3, h4⟩ := round_inv h hm hne
  have h5 := token_full h hne
  have h6 := h.next
  have h7 := h1.next
  have h8 := h1.place
  rw [h4] at h7
  have e : fuelS st = (st.s.size - st.place0) + 1 := rfl
  rw [e, loopS, if_neg (by simp [hne, h0])]
  have e2 : roundS st = stepS (itemS st) := by unfold roundS; rw [if_pos he]
  rw [e2]
  have e3 : st.s.size - st.place0 = fuelS (stepS (itemS st)) + (st.s.size - st.place0 - fuelS (stepS (itemS st))) := by
    unfold fuelS; rw [h4]; omega
  rw [e3]
  exact loop_more _ h1 (by unfold fuelS; omega) _ (by omega)
theorem loop_end {st : RS} (hne : st.token.toList.isEmpty = false) (h0 : st.err = 0) (he : (itemS st).err ≠ 0) :
    loopS (fuelS st) st = itemS st := by
  have e : fuelS st = (st.s.size - st.place0) + 1 := rfl
  rw [e, loopS, if_neg (by simp [hne, h0])]
  have e2 : roundS st = itemS st := by unfold roundS; rw [if_neg he]
  rw [e2, loop_stop _ (Or.inr he)]
def shiftS (e : Int) (x : Int × Int) : Int × Int := if x.1 = 1 ∨ x.1 = 2 ∨ x.1 = 7 then (x.1, wrap64 (x.2 + e)) else x
def fullS (st : RS) : List (Int × Int) := st.c0 ++ st.c1.map (shiftS st.c0.length) ++ [(5, 0)]

section
variable {B : Nat} {w : World} {b p : Nat} {st : RS} {v4 v5 v6 v7 v11 : Value} {l : List (Int × Int)} {he : List Int} {vL vH : Value}
end
def jumpB (op : Int) : Bool := op == 1 || op == 2 || op == 7
theorem shiftS_eq (e : Int) (x : Int × Int) : shiftS e x = (x.1, if jumpB x.1 then wrap64 (x.2 + e) else x.2) := by
  unfold shiftS jumpB
  by_cases h : x.1 = 1 ∨ x.1 = 2 ∨ x.1 = 7
  · rw [if_pos h]
    rcases h with h | h | h <;> simp [h]
  · rw [if_neg h]
    have h1 : x.1 ≠ 1 := fun e => h (Or.inl e)
    have h2 : x.1 ≠ 2 := fun e => h (Or.inr (Or.inl e))
    have h3 : x.1 ≠ 7 := fun e => h (Or.inr (Or.inr e))
    simp [h1, h2, h3]
theorem take_one {α : Type} (l : List α) (k : Nat) (c : α) (h : l[k]? = some c) : l.take (k + 1) = l.take k ++ [c] := by
  obtain ⟨hlt, rfl⟩ := List.getElem?_eq_some_iff.1 h
  rw [List.take_succ_eq_append_getElem hlt]
theorem own_none {w : World} {base : Nat} {e : TypeId} {size n cap : Nat} {xs : List Value} (h : w.ownsRow base e size (.slice none n cap) n xs) : cap = 0 := by
  rcases h.2 with ⟨h2, _⟩ | ⟨g, cap', cur, hv, _⟩
  · simp at h2; exact h2.2
  · simp at hv
theorem own_news {w : World} {base : Nat} {e : TypeId} {size n g cap : Nat} {xs : List Value} (h : w.ownsRow base e size (.slice (some ⟨g, 0, none⟩) n cap) n xs) : ∀ j u, xs[j]? = some u → w.cell? ((⟨g, 0, none⟩ : Addr).add j) = some u := by
  intro j u hu
  have hadd : (⟨g, 0, none⟩ : Addr).add j = ⟨g, j, none⟩ := by unfold Addr.add; split <;> simp_all
  have hj : j < n * size := by have := (List.getElem?_eq_some_iff.1 hu).1; rw [h.1] at this; exact this
  rw [hadd, own_cell h j hj, hu]
theorem instr_oneCell (l : List (Int × Int)) : ∀ u ∈ instrCells l, u.oneCell' = true := by
  intro u hu
  unfold instrCells at hu
  rw [List.mem_flatMap] at hu
  obtain ⟨x, _, hx⟩ := hu
  simp at hx
  rcases hx with rfl | rfl <;> rfl
end Go.Proofs.YtmeiikjpaepogaaGreatDoor
