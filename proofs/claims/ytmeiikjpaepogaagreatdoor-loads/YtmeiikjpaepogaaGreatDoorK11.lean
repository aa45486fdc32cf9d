/- The reference's Reader: define, control, element by their plain functions. -/
import Derived.Test.YtmeiikjpaepogaaGreatDoorK10
namespace Go.Proofs.YtmeiikjpaepogaaGreatDoor
open Go Go.RowKit

theorem tok_eq {s : ByteArray} {l : List UInt8} (h : (s.toList == l) = true) : s = ⟨l.toArray⟩ := by
  have e : s.toList = l := by simpa using h
  rw [ByteArray.toList_eq] at e
  cases s
  simp at e ⊢
  rw [← e]

theorem newNameS_inv {st : RS} {m : Nat} (h : Inv st m) : Inv (newNameS st) m := by
  unfold newNameS
  split
  · exact failS_inv (stepS_inv h).1 _
  · exact (stepS_inv h).1
theorem newNameS_same (st : RS) : (newNameS st).opens = st.opens ∧ (newNameS st).start = st.start ∧ (newNameS st).c0 = st.c0 ∧ (newNameS st).s = st.s ∧ (newNameS st).next = (stepS st).next := by
  unfold newNameS failS stepS
  split
  · split <;> exact ⟨rfl, rfl, rfl, rfl, rfl⟩
  · exact ⟨rfl, rfl, rfl, rfl, rfl⟩
theorem failS_same (st : RS) (e : Int) : (failS st e).opens = st.opens ∧ (failS st e).start = st.start ∧ (failS st e).names = st.names ∧ (failS st e).s = st.s ∧ (failS st e).next = st.next := by
  unfold failS
  split <;> exact ⟨rfl, rfl, rfl, rfl, rfl⟩
theorem constant3_inv {st : RS} {m : Nat} (h : Inv st m) : Inv (constant3 st) m := by
  unfold constant3
  split
  · exact (stepS_inv h).1
  · exact failS_inv (stepS_inv h).1 _

theorem define_any (B b : Nat) (st : RS) (w : World) (m : Nat) (h : RdE B w b st) (hi : Inv st m) (hm : m < 3000) (hd : isDefine st.token.toList = true) :
    Calls Tryz.prog 127 #[.pointer (some ⟨b, 0, none⟩)] w fun e w' => e = .returned (.tuple #[]) ∧ RdE B w' b (defineS st) ∧ Below B w w' := by
  have hl := hi.lens
  unfold lens at hl
  have hni := newNameS_inv hi
  have hnl := hni.lens
  unfold lens at hnl
  unfold defineS
  cases h59 : (st.token.toList == [59])
  · simp only [Bool.false_eq_true, if_false]
    by_cases hno : 0 ≤ st.start ∨ st.opens ≠ []
    · rw [if_pos hno]; exact define_nest B b st w h h59 hno
    · rw [if_neg hno]
      have hst : st.start < 0 := by omega
      have hop : st.opens = [] := by
        rcases Classical.em (st.opens = []) with e | e
        · exact e
        · exact absurd (Or.inr e) hno
      by_cases hbad : (newNameS st).err ≠ 0
      · rw [if_pos hbad]; exact define_bad B b st w h hi.next h59 hst hop hbad
      · rw [if_neg hbad]
        have hok : (newNameS st).err = 0 := by omega
        cases h58 : (st.token.toList == [58])
        · simp only [Bool.false_eq_true, if_false]
          cases hv : (st.token.toList == [118, 97, 114, 105, 97, 98, 108, 101])
          · simp only [Bool.false_eq_true, if_false]
            have hc : (st.token.toList == [99, 111, 110, 115, 116, 97, 110, 116]) = true := by
              unfold isDefine at hd
              rw [h58, h59, hv] at hd
              simpa using hd
            have h3 := (constant3_inv hni).lens
            unfold lens at h3
            exact define_constant B b st w h hi.next (tok_eq hc) hst hop hok hni.next (by omega)
          · simp only [if_true]
            exact define_variable B b st w h hi.next (tok_eq hv) hst hop hok (by omega) (by omega)
        · simp only [if_true]
          exact define_colon B b st w h hi.next (tok_eq h58) hst hop hok (by omega)
  · simp only [if_true]
    by_cases hno : st.start < 0 ∨ st.opens ≠ []
    · rw [if_pos hno]; exact define_semi_no B b st w h h59 hno
    · rw [if_neg hno]
      have hop : st.opens = [] := by
        rcases Classical.em (st.opens = []) with e | e
        · exact e
        · exact absurd (Or.inr e) hno
      exact define_semi B b st w h h59 (by omega) hop (by omega) (by omega)

theorem element_any (B b : Nat) (st : RS) (w : World) (m : Nat) (h : RdE B w b st) (hi : Inv st m) (hm : m < 3000) :
    Calls Tryz.prog 129 #[.pointer (some ⟨b, 0, none⟩)] w fun e w' => e = .returned (.tuple #[]) ∧ RdE B w' b (elementS st) ∧ Below B w w' := by
  have hl := hi.lens
  unfold lens at hl
  have hsz : st.token.size ≤ 2000 := by
    rw [hi.token, ByteArray.size_extract]
    have := hi.size; omega
  unfold elementS
  by_cases hp : 0 ≤ plainS st.token
  · rw [if_pos hp]; exact element_plain B b st w h hsz (by omega) hp
  · rw [if_neg hp]
    have hp' : plainS st.token < 0 := by omega
    cases hn : (numS st.token).isSome
    · simp only [Bool.false_eq_true, if_false]
      by_cases hf : 0 ≤ findS st.names st.token
      · rw [if_pos hf]
        obtain ⟨k, hk, x, hx⟩ : ∃ k : Nat, findS st.names st.token = (k : Int) ∧ ∃ x, st.names[k]? = some x := by
          unfold findS at hf ⊢
          cases e : st.names.findIdx? (fun x => x.1 == st.token) with
          | none => rw [e] at hf; simp at hf
          | some k =>
            have := (List.findIdx?_eq_some_iff_getElem.1 e).1
            exact ⟨k, rfl, _, List.getElem?_eq_getElem this⟩
        rw [hk, Int.toNat_natCast, hx]
        by_cases hst : 0 ≤ st.start
        · have := element_name0 B b st w h hsz (by omega) hst hp' hn k x hk hx
          simp only [putS, if_pos hst]; exact this
        · have := element_name1 B b st w h hsz (by omega) hst hp' hn k x hk hx
          simp only [putS, if_neg hst]; exact this
      · rw [if_neg hf]
        by_cases hr : (st.token.toList == [114, 101, 99, 117, 114, 115, 101]) ∧ 0 ≤ st.start
        · rw [if_pos hr]
          exact element_recurse B b st w h hsz (by omega) hp' hn (by omega) hr.1 hr.2
        · rw [if_neg hr]
          refine element_no B b st w h hsz hp' hn (by omega) ?_
          cases e : (st.token.toList == [114, 101, 99, 117, 114, 115, 101])
          · exact Or.inl rfl
          · refine Or.inr ⟨rfl, ?_⟩
            rw [e] at hr
            have : ¬ 0 ≤ st.start := fun h0 => hr ⟨rfl, h0⟩
            omega
    · simp only [if_true]
      by_cases hst : 0 ≤ st.start
      · have := element_num0 B b st w h hsz (by omega) hst hp' hn
        simp only [putS, if_pos hst]; exact this
      · have := element_num1 B b st w h hsz (by omega) hst hp' hn
        simp only [putS, if_neg hst]; exact this
theorem opens_last {l : List (ByteArray × Int × Int)} {x : ByteArray × Int × Int} (h : l.getLast? = some x) : l = l.dropLast ++ [x] := by
  obtain ⟨ys, e⟩ := List.getLast?_eq_some_iff.1 h
  rw [e]; simp

theorem hereS_opens (st : RS) (l : List (ByteArray × Int × Int)) : hereS { st with opens := l } = hereS st := rfl
theorem hereS_tell (st : RS) (n : Nat) : hereS (tellS st n) = hereS st := by
  unfold tellS hereS
  split <;> simp [setArg_length, *]
theorem putS_opens (st : RS) (op arg : Int) : (putS st op arg).opens = st.opens := by unfold putS; split <;> rfl
theorem tellS_opens (st : RS) (n : Nat) : (tellS st n).opens = st.opens := by unfold tellS; split <;> rfl

theorem control_any (B b : Nat) (st : RS) (w : World) (m : Nat) (h : RdE B w b st) (hi : Inv st m) (hm : m < 3000) (hc : isControl st.token = true) (hd : isDefine st.token.toList = false) :
    Calls Tryz.prog 128 #[.pointer (some ⟨b, 0, none⟩)] w fun e w' => e = .returned (.tuple #[]) ∧ RdE B w' b (controlS st) ∧ Below B w w' := by
  have hl := hi.lens
  unfold lens at hl
  have hlen : st.c0.length < 4000 ∧ st.c1.length < 4000 := by omega
  have hopl : ∀ op arg, (putS st op arg).opens.length < 4000 := fun op arg => by rw [putS_opens]; omega
  unfold controlS
  simp only
  cases hif : (st.token.toList == [105, 102])
  case true => simp only [if_true]; exact control_if B b st w h (tok_eq hif) hlen (hopl 2 0)
  simp only [Bool.false_eq_true, if_false]
  cases hbg : (st.token.toList == [98, 101, 103, 105, 110])
  case true => simp only [if_true]; exact control_begin B b st w h (tok_eq hbg) (by omega)
  simp only [Bool.false_eq_true, if_false]
  cases hdo : (st.token.toList == [100, 111])
  case true => simp only [if_true]; exact control_do B b st w h (tok_eq hdo) hlen (hopl 6 0)
  simp only [Bool.false_eq_true, if_false]
  have six : (st.token.toList == [101, 108, 115, 101]) = true ∨ (st.token.toList == [116, 104, 101, 110]) = true ∨ (st.token.toList == [117, 110, 116, 105, 108]) = true ∨ (st.token.toList == [119, 104, 105, 108, 101]) = true ∨ (st.token.toList == [114, 101, 112, 101, 97, 116]) = true ∨ (st.token.toList == [108, 111, 111, 112]) = true := by
    unfold isControl structS structWords at hc
    unfold isDefine at hd
    simp only [List.any_cons, List.any_nil, Bool.or_false, Bool.and_eq_true, Bool.or_eq_true, Bool.or_eq_false_iff, Bool.not_eq_true'] at hc hd
    obtain ⟨hc1, hc2⟩ := hc
    obtain ⟨⟨⟨d1, d2⟩, d3⟩, d4⟩ := hd
    simp only [d1, d2, d3, d4, hc2, hif, hbg, hdo, Bool.false_eq_true, false_or] at hc1
    exact hc1
  cases hgl : st.opens.getLast? with
  | none =>
    have hls : lastS st = ⟨#[]⟩ := by unfold lastS; rw [hgl]
    have hno : ∀ c l, ((lastS st).toList == (c :: l : List UInt8)) = false := by
      intro c l
      rw [hls, ByteArray.toList_eq]
      rfl
    simp only
    rcases six with e | e | e | e | e | e
    · exact control_else_no B b st w h (tok_eq e) (hno _ _)
    · exact control_then_no B b st w h (tok_eq e) (hno _ _) (hno _ _)
    · exact control_until_no B b st w h (tok_eq e) (hno _ _)
    · exact control_while_no B b st w h (tok_eq e) (hno _ _)
    · exact control_repeat_no B b st w h (tok_eq e) (hno _ _)
    · exact control_loop_no B b st w h (tok_eq e) (hno _ _)
  | some x =>
    have hls : lastS st = x.1 := by unfold lastS; rw [hgl]
    have hop := opens_last hgl
    have hx : openOk (hereS st) x := hi.opens x (by rw [hop]; simp)
    obtain ⟨tx, ax, nx⟩ := x
    obtain ⟨⟨ha0, ha1⟩, hn0, hn1⟩ := hx
    simp only at hls ha0 ha1 hn0 hn1
    obtain ⟨n, rfl⟩ := Int.eq_ofNat_of_zero_le hn0
    simp only
    have hdl : st.opens.dropLast.length ≤ m := by simp; omega
    generalize st.opens.dropLast = l at hop hdl ⊢
    unfold closeS
    simp only [Int.toNat_natCast]
    rcases six with e | e | e | e | e | e
    · have et : st.token.toList = [101, 108, 115, 101] := by simpa using e
      rw [et]
      cases hw : (tx.toList == [105, 102])
      · try simp
        exact control_else_no B b st w h (tok_eq e) (by rw [hls]; exact hw)
      · try simp
        exact control_else B b st w h (tok_eq e) l ax n (by rw [hop, tok_eq hw]) hlen (by rw [hereS_put, hereS_opens]; have := hn1 (Or.inl hw); omega) (by rw [tellS_opens, putS_opens]; simp; omega)
    · have et : st.token.toList = [116, 104, 101, 110] := by simpa using e
      rw [et]
      cases hw : (tx.toList == [105, 102])
      · cases hw2 : (tx.toList == [101, 108, 115, 101])
        · try simp
          exact control_then_no B b st w h (tok_eq e) (by rw [hls]; exact hw) (by rw [hls]; exact hw2)
        · try simp
          exact control_then_else B b st w h (tok_eq e) l ax n (by rw [hop, tok_eq hw2]) (by rw [hereS_opens]; have := hn1 (Or.inr (Or.inl hw2)); omega)
      · try simp
        exact control_then_if B b st w h (tok_eq e) l ax n (by rw [hop, tok_eq hw]) (by rw [hereS_opens]; have := hn1 (Or.inl hw); omega)
    · have et : st.token.toList = [117, 110, 116, 105, 108] := by simpa using e
      rw [et]
      cases hw : (tx.toList == [98, 101, 103, 105, 110])
      · try simp
        exact control_until_no B b st w h (tok_eq e) (by rw [hls]; exact hw)
      · try simp
        exact control_until B b st w h (tok_eq e) l ax n (by rw [hop, tok_eq hw]) hlen
    · have et : st.token.toList = [119, 104, 105, 108, 101] := by simpa using e
      rw [et]
      cases hw : (tx.toList == [98, 101, 103, 105, 110])
      · try simp
        exact control_while_no B b st w h (tok_eq e) (by rw [hls]; exact hw)
      · try simp
        exact control_while B b st w h (tok_eq e) l ax n (by rw [hop, tok_eq hw]) hlen (by rw [putS_opens]; simp; omega)
    · have et : st.token.toList = [114, 101, 112, 101, 97, 116] := by simpa using e
      rw [et]
      cases hw : (tx.toList == [119, 104, 105, 108, 101])
      · try simp
        exact control_repeat_no B b st w h (tok_eq e) (by rw [hls]; exact hw)
      · try simp
        exact control_repeat B b st w h (tok_eq e) l ax n (by rw [hop, tok_eq hw]) hlen (by rw [hereS_put, hereS_opens]; have := hn1 (Or.inr (Or.inr hw)); omega)
    · have et : st.token.toList = [108, 111, 111, 112] := by simpa using e
      rw [et]
      cases hw : (tx.toList == [100, 111])
      · try simp
        exact control_loop_no B b st w h (tok_eq e) (by rw [hls]; exact hw)
      · try simp
        exact control_loop B b st w h (tok_eq e) l ax n (by rw [hop, tok_eq hw]) hlen
theorem Inv.cut {st : RS} {m : Nat} (h : Inv st m) {l : List (ByteArray × Int × Int)} (hl : ∀ x ∈ l, x ∈ st.opens) (hn : l.length ≤ m) : Inv { st with opens := l } m := by
  have h1 := h.lens
  unfold YtmeiikjpaepogaaGreatDoor.lens at h1
  exact ⟨h.size, h.next, h.place, by unfold YtmeiikjpaepogaaGreatDoor.lens; simp; omega, h.start, fun x hx => h.opens x (hl x hx), h.token⟩
theorem tellS_inv {st : RS} {m : Nat} (h : Inv st m) (n : Nat) : Inv (tellS st n) m := by
  have ho : ∀ x ∈ (tellS st n).opens, openOk (hereS (tellS st n)) x := by
    rw [tellS_opens, hereS_tell]; exact h.opens
  have hl := h.lens
  have hs := h.start
  unfold lens at hl
  refine ⟨?_, ?_, ?_, ?_, ?_, ho, ?_⟩
  all_goals unfold tellS; split
  all_goals first | exact h.size | exact h.next | exact h.place | exact h.token | (unfold lens; simp [setArg_length]; omega) | (simp [setArg_length]; omega) | omega
theorem openS_inv {st : RS} {m : Nat} (h : Inv st m) {x : ByteArray × Int × Int} (hx : openOk (hereS st) x) (hn : st.opens.length + 1 ≤ m) : Inv (openS st x) m := by
  have hl := h.lens
  unfold lens at hl
  refine ⟨h.size, h.next, h.place, by unfold lens openS; simp; omega, h.start, ?_, h.token⟩
  intro y hy
  unfold openS at hy
  simp only [List.mem_append, List.mem_singleton] at hy
  rcases hy with hy | rfl
  · exact h.opens y hy
  · exact hx

theorem defineS_inv {st : RS} {m : Nat} (h : Inv st m) : Inv (defineS st) (m + 1) := by
  have hni := newNameS_inv h
  have hsame := newNameS_same st
  have hnl := hni.lens
  unfold lens at hnl
  unfold defineS
  split
  · split
    · exact (failS_inv h _).mono (by omega)
    · rename_i hno
      have hp := putS_inv h 4 0
      have hl := h.lens
      unfold lens at hl
      have hop : st.opens = [] := by
        rcases Classical.em (st.opens = []) with e | e
        · exact e
        · exact absurd (Or.inr e) hno
      have hpo : (putS st 4 0).opens = [] := by rw [putS_opens, hop]
      have hpl := hp.lens
      unfold lens at hpl
      have hpn : (putS st 4 0).names = st.names := by unfold putS; split <;> rfl
      refine ⟨hp.size, hp.next, hp.place, ?_, ?_, ?_, hp.token⟩
      · unfold lens semiS; simp [hpn]; rw [hpn] at hpl; omega
      · unfold semiS; simp
      · unfold semiS; simp [hpo]
  · split
    · exact (failS_inv h _).mono (by omega)
    · rename_i hno
      have hop : (newNameS st).opens = [] := by
        rw [hsame.1]
        rcases Classical.em (st.opens = []) with e | e
        · exact e
        · exact absurd (Or.inr e) hno
      split
      · exact hni.mono (by omega)
      · split
        · refine ⟨hni.size, hni.next, hni.place, ?_, ?_, ?_, hni.token⟩
          · unfold lens colonS; simp; omega
          · unfold colonS; simp
          · unfold colonS; simp [hop]
        · split
          · refine ⟨hni.size, hni.next, hni.place, ?_, hni.start, ?_, hni.token⟩
            · unfold lens variableS; simp; omega
            · unfold variableS; simp [hop]
          · have hc := constant3_inv hni
            have hcl := hc.lens
            unfold lens at hcl
            have hco : (constant3 (newNameS st)).opens = [] := by
              unfold constant3
              split
              · exact hop
              · rw [(failS_same _ _).1]; exact hop
            refine ⟨hc.size, hc.next, hc.place, ?_, hc.start, ?_, hc.token⟩
            · unfold lens constantS; simp; omega
            · unfold constantS; simp [hco]

theorem closeS_inv {st : RS} {m : Nat} (h : Inv st m) (l : List (ByteArray × Int × Int)) (x : ByteArray × Int × Int) (ho : st.opens = l ++ [x]) : Inv (closeS st l x) (m + 1) := by
  have hx := h.opens x (by rw [ho]; simp)
  have hl := h.lens
  unfold lens at hl
  have hln : l.length + 1 ≤ m := by rw [ho] at hl; simp at hl; omega
  have hcut := h.cut (l := l) (fun y hy => by rw [ho]; simp [hy]) (by omega)
  obtain ⟨⟨ha0, ha1⟩, hn0, hn1⟩ := hx
  unfold closeS
  simp only
  split
  · refine openS_inv (tellS_inv (putS_inv hcut 1 0) _) ?_ (by rw [tellS_opens, putS_opens]; simp; omega)
    rw [hereS_tell, hereS_put, hereS_opens]
    exact ⟨⟨by simp, by simp; omega⟩, by simp, fun _ => by simp; omega⟩
  · split
    · exact (tellS_inv hcut _).mono (by omega)
    · split
      · exact putS_inv hcut _ _
      · split
        · refine openS_inv (putS_inv hcut 2 0) ?_ (by rw [putS_opens]; simp; omega)
          rw [hereS_put, hereS_opens]
          exact ⟨⟨ha0, by simp; omega⟩, by simp, fun _ => by simp; omega⟩
        · split
          · exact tellS_inv (putS_inv hcut _ _) _
          · split
            · exact putS_inv hcut _ _
            · exact (failS_inv h _).mono (by omega)

theorem controlS_inv {st : RS} {m : Nat} (h : Inv st m) : Inv (controlS st) (m + 1) := by
  have hl := h.lens
  unfold lens at hl
  unfold controlS
  simp only
  split
  · refine openS_inv (putS_inv h 2 0) ?_ (by rw [putS_opens]; omega)
    rw [hereS_put]
    exact ⟨⟨by simp, by simp; omega⟩, by simp, fun _ => by simp; omega⟩
  · split
    · refine openS_inv (h.mono (by omega)) ?_ (by omega)
      exact ⟨⟨by simp, by simp⟩, by simp, fun e => by simp [ByteArray.toList_eq] at e⟩
    · split
      · refine openS_inv (putS_inv h 6 0) ?_ (by rw [putS_opens]; omega)
        rw [hereS_put]
        exact ⟨⟨by simp; omega, by simp⟩, by simp, fun e => by simp [ByteArray.toList_eq] at e⟩
      · split
        · exact (failS_inv h _).mono (by omega)
        · rename_i x hx
          exact closeS_inv h _ _ (opens_last hx)

theorem elementS_inv {st : RS} {m : Nat} (h : Inv st m) : Inv (elementS st) (m + 1) := by
  unfold elementS
  split
  · exact putS_inv h _ _
  · split
    · exact putS_inv h _ _
    · split
      · split
        · exact putS_inv h _ _
        · exact h.mono (by omega)
      · split
        · exact putS_inv h _ _
        · exact (failS_inv h _).mono (by omega)

theorem itemS_inv {st : RS} {m : Nat} (h : Inv st m) : Inv (itemS st) (m + 1) := by
  unfold itemS
  split
  · exact defineS_inv h
  · split
    · exact controlS_inv h
    · exact elementS_inv h
def Adv (st st' : RS) : Prop := st'.s = st.s ∧ st.next ≤ st'.next
theorem Adv.refl (st : RS) : Adv st st := ⟨rfl, Nat.le_refl _⟩
theorem Adv.trans {a b c : RS} (h : Adv a b) (k : Adv b c) : Adv a c := ⟨k.1.trans h.1, Nat.le_trans h.2 k.2⟩
theorem adv_fail (st : RS) (e : Int) : Adv st (failS st e) := ⟨(failS_same st e).2.2.2.1, by rw [(failS_same st e).2.2.2.2]; exact Nat.le_refl _⟩
theorem adv_put (st : RS) (op arg : Int) : Adv st (putS st op arg) := by unfold putS; split <;> exact ⟨rfl, Nat.le_refl _⟩
theorem adv_tell (st : RS) (n : Nat) : Adv st (tellS st n) := by unfold tellS; split <;> exact ⟨rfl, Nat.le_refl _⟩
theorem adv_open (st : RS) (x : ByteArray × Int × Int) : Adv st (openS st x) := ⟨rfl, Nat.le_refl _⟩
theorem adv_cut (st : RS) (l : List (ByteArray × Int × Int)) : Adv st { st with opens := l } := ⟨rfl, Nat.le_refl _⟩
theorem adv_step {st : RS} {m : Nat} (h : Inv st m) : Adv st (stepS st) := ⟨rfl, Nat.le_trans (stepS_inv h).2 (stepS_inv h).1.place⟩
theorem adv_newName {st : RS} {m : Nat} (h : Inv st m) : Adv st (newNameS st) := by
  unfold newNameS
  split
  · exact (adv_step h).trans (adv_fail _ _)
  · exact adv_step h
theorem adv_define {st : RS} {m : Nat} (h : Inv st m) : Adv st (defineS st) := by
  unfold defineS
  split
  · split
    · exact adv_fail _ _
    · exact (adv_put st 4 0).trans ⟨rfl, Nat.le_refl _⟩
  · split
    · exact adv_fail _ _
    · split
      · exact adv_newName h
      · split
        · exact (adv_newName h).trans ⟨rfl, Nat.le_refl _⟩
        · split
          · exact (adv_newName h).trans ⟨rfl, Nat.le_refl _⟩
          · have h3 : Adv (newNameS st) (constant3 (newNameS st)) := by
              unfold constant3
              split
              · exact adv_step (newNameS_inv h)
              · exact (adv_step (newNameS_inv h)).trans (adv_fail _ _)
            exact ((adv_newName h).trans h3).trans ⟨rfl, Nat.le_refl _⟩
theorem adv_control (st : RS) : Adv st (controlS st) := by
  unfold controlS
  simp only
  split
  · exact (adv_put st _ _).trans (adv_open _ _)
  · split
    · exact adv_open _ _
    · split
      · exact (adv_put st _ _).trans (adv_open _ _)
      · split
        · exact adv_fail _ _
        · unfold closeS
          simp only
          split
          · exact (((adv_cut st _).trans (adv_put _ _ _)).trans (adv_tell _ _)).trans (adv_open _ _)
          · split
            · exact (adv_cut st _).trans (adv_tell _ _)
            · split
              · exact (adv_cut st _).trans (adv_put _ _ _)
              · split
                · exact ((adv_cut st _).trans (adv_put _ _ _)).trans (adv_open _ _)
                · split
                  · exact ((adv_cut st _).trans (adv_put _ _ _)).trans (adv_tell _ _)
                  · split
                    · exact (adv_cut st _).trans (adv_put _ _ _)
                    · exact adv_fail _ _
theorem adv_element (st : RS) : Adv st (elementS st) := by
  unfold elementS
  split
  · exact adv_put _ _ _
  · split
    · exact adv_put _ _ _
    · split
      · split
        · exact adv_put _ _ _
        · exact Adv.refl _
      · split
        · exact adv_put _ _ _
        · exact adv_fail _ _
theorem adv_item {st : RS} {m : Nat} (h : Inv st m) : Adv st (itemS st) := by
  unfold itemS
  split
  · exact adv_define h
  · split
    · exact adv_control st
    · exact adv_element st

def startS (s : ByteArray) : RS := { s := s, next := 0, place0 := 0, token := ⟨#[]⟩, c0 := [], c1 := [], names := [], opens := [], start := -1, name := ⟨#[]⟩, cells := 0, heads := [], err := 0, place := 0 }
def fuelS (st : RS) : Nat := st.s.size - st.place0 + 1
def finS (s : ByteArray) : RS := loopS (fuelS (stepS (startS s))) (stepS (startS s))
def endS (s : ByteArray) : RS := if (finS s).err = 0 ∧ (0 ≤ (finS s).start ∨ (finS s).opens ≠ []) then failS (finS s) 4 else finS s

theorem start_inv (s : ByteArray) (h : s.size ≤ 2000) : Inv (startS s) 0 :=
  ⟨h, Nat.zero_le _, Nat.le_refl _, by unfold lens startS; simp, by unfold startS; simp, by unfold startS; simp, by
    unfold startS
    simp
    rfl⟩

theorem token_full {st : RS} {m : Nat} (h : Inv st m) (hne : st.token.toList.isEmpty = false) : st.place0 < st.next := by
  rcases Nat.lt_or_ge st.place0 st.next with e | e
  · exact e
  · exfalso
    have hl : st.token.size = 0 := by rw [h.token, ByteArray.size_extract]; omega
    have := bytes_len st.token
    rw [hl] at this
    rw [List.eq_nil_of_length_eq_zero this] at hne
    simp at hne

/-- A round that goes on. -/
theorem round_inv {st : RS} {m : Nat} (h : Inv st m) (hm : m ≤ st.place0) (hne : st.token.toList.isEmpty = false) :
    Inv (stepS (itemS st)) (m + 1) ∧ m + 1 ≤ (stepS (itemS st)).place0 ∧ st.place0 < (stepS (itemS st)).place0 ∧ (stepS (itemS st)).s = st.s := by
  have h1 := itemS_inv h
  have h2 := stepS_inv h1
  have h3 := adv_item h
  have h4 := token_full h hne
  have := h3.2
  exact ⟨h2.1, by omega, by omega, h3.1⟩
theorem loop_stop {st : RS} (f : Nat) (h : st.token.toList.isEmpty = true ∨ st.err ≠ 0) : loopS f st = st := by
  cases f with
  | zero => rfl
  | succ f => unfold loopS; rw [if_pos (by simpa using h)]
theorem loop_more {st : RS} {m : Nat} (f : Nat) (h : Inv st m) (hf : st.s.size - st.place0 < f) : ∀ k, f + k ≥ 0 → loopS (f + k) st = loopS f st := by
  induction f generalizing st m with
  | zero => omega
  | succ f ih =>
    intro k _
    by_cases hs : st.token.toList.isEmpty = true ∨ st.err ≠ 0
    · rw [loop_stop _ hs, loop_stop _ hs]
    · have e : f + 1 + k = (f + k) + 1 := by omega
      rw [e, loopS, loopS, if_neg (by simpa using hs), if_neg (by simpa using hs)]
      have hne : st.token.toList.isEmpty = false := by
        cases e : st.token.toList.isEmpty
        · rfl
        · exact absurd (Or.inl e) hs
      unfold roundS
      split
      · have h1 := itemS_inv h
        have h2 := stepS_inv h1
        have h3 := adv_item h
        have h4 := token_full h hne
        have h5 := h3.2
        have h6 := h2.1.place
        have h7 := h2.1.next
        have h8 : (stepS (itemS st)).s = st.s := h3.1
        refine ih h2.1 ?_ k (by omega)
        rw [h8]
        rw [h8] at h7
        omega
      · rename_i he
        rw [loop_stop _ (Or.inr he), loop_stop _ (Or.inr he)]

theorem loop_round {st : RS} {m : Nat} (h : Inv st m) (hm : m ≤ st.place0) (hne : st.token.toList.isEmpty = false) (h0 : st.err = 0) (he : (itemS st).err = 0) :
    loopS (fuelS st) st = loopS (fuelS (stepS (itemS st))) (stepS (itemS st)) := by
  obtain ⟨h1, h2, h3, h4⟩ := round_inv h hm hne
  have h5 := token_full h hne
  have h6 := h.next
  have h7 := h1.next
  have h8 := h1.place
  rw [h4] at h7
  have e : fuelS st = (st.s.size - st.place0) + 1 := rfl
  rw [e, loopS, if_neg (by simp [hne, h0])]
  have e2 : roundS st = stepS (itemS st) := by unfold roundS; rw [if_pos he]
  rw [e2]
  have e3 : st.s.size - st.place0 = fuelS (stepS (itemS st)) + (st.s.size - st.place0 - fuelS (stepS (itemS st))) := by
    unfold fuelS; rw [h4]; omega
  rw [e3]
  exact loop_more _ h1 (by unfold fuelS; omega) _ (by omega)
theorem loop_end {st : RS} (hne : st.token.toList.isEmpty = false) (h0 : st.err = 0) (he : (itemS st).err ≠ 0) :
    loopS (fuelS st) st = itemS st := by
  have e : fuelS st = (st.s.size - st.place0) + 1 := rfl
  rw [e, loopS, if_neg (by simp [hne, h0])]
  have e2 : roundS st = itemS st := by unfold roundS; rw [if_neg he]
  rw [e2, loop_stop _ (Or.inr he)]
end Go.Proofs.YtmeiikjpaepogaaGreatDoor
