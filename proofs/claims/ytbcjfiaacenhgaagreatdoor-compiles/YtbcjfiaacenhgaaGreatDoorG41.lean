/- The program's compiler: define and closeLast by the reference's plain functions; follow whole. -/
import Derived.Test.YtbcjfiaacenhgaaGreatDoorG40
namespace Go.Proofs.YtbcjfiaacenhgaaGreatDoor
open Go Go.RowKit

theorem toL_iff (s : ByteArray) (l : List UInt8) : (s.toList == l) = (s.data.toList == l) := by rw [ByteArray.toList_eq]
theorem bad_name {st : RS} (h0 : st.err = 0) (hb : ¬ (newNameS st).err = 0) : badName (stepS st) = true ∧ newNameS st = failS (stepS st) 3 := by
  cases e : badName (stepS st)
  · unfold newNameS at hb
    rw [e] at hb
    exact absurd (show (stepS st).err = 0 from h0) (by simpa using hb)
  · exact ⟨rfl, by unfold newNameS; rw [e]; rfl⟩

theorem cdefine_any (B : Nat) (x : CX) (st : RS) (w : World) (h : CpE B w x st) (m : Nat) (hi : Inv st m) (hm : m < 3000) (h0 : st.err = 0) (hB : 6 ≤ B) (hV : VocOk w) (hE : ErrsOk w) (k : Int)
    (hk : k = 1 ∧ st.token.data.toList = [58] ∨ k = 2 ∧ st.token.data.toList = [118, 97, 114, 105, 97, 98, 108, 101] ∨ k = 3 ∧ st.token.data.toList = [99, 111, 110, 115, 116, 97, 110, 116]) :
    Calls Tryz.prog 85 #[.pointer (some ⟨x.b, 0, none⟩), .int .i64 k] w (Took B w x (defineS st)) := by
  unfold defineS
  rw [toL_iff, toL_iff, toL_iff]
  have h59 : (st.token.data.toList == [59]) = false := by rcases hk with ⟨_, e⟩ | ⟨_, e⟩ | ⟨_, e⟩ <;> rw [e] <;> decide
  rw [h59]
  simp only [Bool.false_eq_true, if_false]
  by_cases hno : 0 ≤ st.start ∨ st.opens ≠ []
  · rw [if_pos hno]; exact cdef_nest B x st w h k hno h0
  · rw [if_neg hno]
    have hst : st.start < 0 := by omega
    have hop : st.opens = [] := by
      rcases Classical.em (st.opens = []) with e | e
      · exact e
      · exact absurd (Or.inr e) hno
    by_cases hbad : (newNameS st).err = 0
    · rw [if_neg (by simpa using hbad)]
      obtain ⟨g1, g2, g3, g4, g5⟩ := good_name hi hbad
      rw [g2]
      rcases hk with ⟨rfl, e⟩ | ⟨rfl, e⟩ | ⟨rfl, e⟩
      · rw [e, if_pos (by decide)]
        exact cdef_colon B x st w h m hi hst hop h0 hB hV hE g1
      · rw [e, if_neg (by decide), if_pos (by decide)]
        exact cdef_variable B x st w h m hi hm hst hop h0 hB hV hE g1 g4
      · rw [e, if_neg (by decide), if_neg (by decide)]
        exact cdef_constant B x st w h m hi hm hst hop h0 hB hV hE g1 g4
    · rw [if_pos (by simpa using hbad)]
      obtain ⟨g1, g2⟩ := bad_name h0 hbad
      rw [g2]
      exact cdef_bad B x st w h m hi k hst hop h0 hB hV hE g1

theorem CpE.kinds {B : Nat} {w : World} {x : CX} {st : RS} (h : CpE B w x st) : ∀ o ∈ st.opens, o.1 = ⟨#[105, 102]⟩ ∨ o.1 = ⟨#[101, 108, 115, 101]⟩ ∨ o.1 = ⟨#[98, 101, 103, 105, 110]⟩ ∨ o.1 = ⟨#[119, 104, 105, 108, 101]⟩ ∨ o.1 = ⟨#[100, 111]⟩ := by
  obtain ⟨_, _, _, _, fw, fo, h⟩ := h
  intro o ho
  obtain ⟨i, hi⟩ := List.getElem?_of_mem ho
  have hl := (List.getElem?_eq_some_iff.1 hi).1
  obtain ⟨f, hf⟩ : ∃ f, fo[i]? = some f := ⟨_, List.getElem?_eq_getElem (by rw [h.things.len]; exact hl)⟩
  obtain ⟨cb, _, hc⟩ := h.things.each i f o hf hi
  rcases hc with ⟨e, _⟩ | ⟨e, _⟩ | ⟨e, _⟩ | ⟨e, _⟩ | ⟨e, _⟩
  · exact Or.inl e
  · exact Or.inr (Or.inl e)
  · exact Or.inr (Or.inr (Or.inl e))
  · exact Or.inr (Or.inr (Or.inr (Or.inl e)))
  · exact Or.inr (Or.inr (Or.inr (Or.inr e)))

/-- What a thing makes of a token is what the reference makes of it. -/
theorem thing_close (st : RS) (l : List (ByteArray × Int × Int)) (o : ByteArray × Int × Int) (ho : o.1 = ⟨#[105, 102]⟩ ∨ o.1 = ⟨#[101, 108, 115, 101]⟩ ∨ o.1 = ⟨#[98, 101, 103, 105, 110]⟩ ∨ o.1 = ⟨#[119, 104, 105, 108, 101]⟩ ∨ o.1 = ⟨#[100, 111]⟩) :
    closeS st l o = (thingR { st with opens := l } o st.token).getD (failS st 4) := by
  obtain ⟨t, a, n⟩ := o
  unfold closeS thingR closeIfR closeElseR closeBeginR closeWhileR closeDoR
  simp only [toL_iff]
  generalize st.token.data.toList = tk
  simp only at ho
  by_cases e1 : tk = [101, 108, 115, 101]
  · subst e1; rcases ho with rfl | rfl | rfl | rfl | rfl <;> rfl
  by_cases e2 : tk = [116, 104, 101, 110]
  · subst e2; rcases ho with rfl | rfl | rfl | rfl | rfl <;> rfl
  by_cases e3 : tk = [117, 110, 116, 105, 108]
  · subst e3; rcases ho with rfl | rfl | rfl | rfl | rfl <;> rfl
  by_cases e4 : tk = [119, 104, 105, 108, 101]
  · subst e4; rcases ho with rfl | rfl | rfl | rfl | rfl <;> rfl
  by_cases e5 : tk = [114, 101, 112, 101, 97, 116]
  · subst e5; rcases ho with rfl | rfl | rfl | rfl | rfl <;> rfl
  by_cases e6 : tk = [108, 111, 111, 112]
  · subst e6; rcases ho with rfl | rfl | rfl | rfl | rfl <;> rfl
  have n1 := beq_false_of_ne e1
  have n2 := beq_false_of_ne e2
  have n3 := beq_false_of_ne e3
  have n4 := beq_false_of_ne e4
  have n5 := beq_false_of_ne e5
  have n6 := beq_false_of_ne e6
  simp only [n1, n2, n3, n4, n5, n6, Bool.false_eq_true, false_and, if_false]
  split
  · rfl
  · split
    · rfl
    · split
      · rfl
      · split <;> rfl

theorem thing_err {st : RS} {o : ByteArray × Int × Int} {tok : ByteArray} {r : RS} (h : thingR st o tok = some r) : r.err = st.err := by
  have hp : ∀ (u : RS) (a b : Int), (putS u a b).err = u.err := fun u a b => by unfold putS; split <;> rfl
  have ht : ∀ (u : RS) (n : Nat), (tellS u n).err = u.err := fun u n => by unfold tellS; split <;> rfl
  unfold thingR closeIfR closeElseR closeBeginR closeWhileR closeDoR at h
  repeat' split at h
  all_goals first
    | (simp at h; done)
    | (obtain rfl := Option.some.inj h; first | (rw [ht, hp]; done) | (rw [ht]; done) | (rw [hp]; done) | (show (tellS _ _).err = _; rw [ht, hp]; done) | (show (putS _ _ _).err = _; rw [hp]; done))

theorem Done.took {B : Nat} {w : World} {x : CX} {st R : RS} {r : Option RS} (h0 : st.err = 0) (hr : R = r.getD (failS st 4)) (he : ∀ s, r = some s → s.err = 0) {e : Ending} {w' : World} (h : Done B w x st.place0 r e w') : Took B w x R e w' := by
  obtain ⟨h1, h2, h3, _, h5⟩ := h
  subst hr
  cases r with
  | none =>
    subst h1
    exact Took.fail h0 (by decide) (h3 rfl) h5
  | some s =>
    subst h1
    exact Took.ok (he s rfl) (h2 s rfl) h5

theorem ctrl_other {st : RS} (k1 : isDefine st.token.toList = false) (k2 : isControl st.token = true) (k3 : (st.token.toList == [105, 102]) = false) (k4 : (st.token.toList == [98, 101, 103, 105, 110]) = false) (k5 : (st.token.toList == [100, 111]) = false) :
    itemS st = match st.opens.getLast? with | none => failS st 4 | some x => closeS st st.opens.dropLast x := by
  unfold itemS controlS
  simp only [k1, k2, k3, k4, k5, Bool.false_eq_true, if_false, if_true]
  rfl
theorem semi_thing (st : RS) (o : ByteArray × Int × Int) (tok : ByteArray) (ht : tok.data.toList = [59]) : thingR st o tok = none := by
  unfold thingR closeIfR closeElseR closeBeginR closeWhileR closeDoR
  simp only [toL_iff, ht]
  split
  · rfl
  · split
    · rfl
    · split
      · rfl
      · split <;> rfl

theorem cclose_any (B : Nat) (x : CX) (st : RS) (w : World) (h : CpE B w x st) (m : Nat) (hi : Inv st m) (hm : m < 3000) (hn : NmOk st) (h0 : st.err = 0)
    (hk : st.token.data.toList = [59] ∨ (isDefine st.token.toList = false ∧ isControl st.token = true ∧ (st.token.toList == [105, 102]) = false ∧ (st.token.toList == [98, 101, 103, 105, 110]) = false ∧ (st.token.toList == [100, 111]) = false)) :
    Calls Tryz.prog 84 #[.pointer (some ⟨x.b, 0, none⟩), .string st.token] w (Took B w x (itemS st)) := by
  have hl := hi.lens
  unfold lens at hl
  have hlen : hereS st < 4000 := by unfold hereS; split <;> omega
  rcases List.eq_nil_or_concat st.opens with hop | ⟨l, o, hop⟩
  · -- nothing is open, but perhaps a word
    by_cases hs : 0 ≤ st.start
    · obtain ⟨w1, w2, w3⟩ := hn.word hs
      refine (closeLast_word B x st w h hs hop st.token (by omega) (by omega) w2 w3).mono (fun e w' hd => ?_)
      refine hd.took h0 ?_ ?_
      · rcases hk with ht | ⟨k1, k2, k3, k4, k5⟩
        · have e59 : (st.token.toList == [59]) = true := by rw [toL_iff, ht]; rfl
          have ed : isDefine st.token.toList = true := by rw [ByteArray.toList_eq, ht]; rfl
          unfold itemS defineS
          rw [ed, e59]
          simp only [if_true]
          rw [if_neg (by rintro (e | e); omega; exact e hop)]
          rfl
        · have e59 : (st.token.toList == [59]) = false := by
            cases e : (st.token.toList == [59])
            · rfl
            · unfold isDefine at k1; rw [e] at k1; simp at k1
          rw [ctrl_other k1 k2 k3 k4 k5, e59, hop]
          rfl
      · intro s hs'
        split at hs'
        · obtain rfl := Option.some.inj hs'
          unfold semiS putS
          split <;> exact h0
        · simp at hs'
    · refine (closeLast_empty B x st w h (by omega) hop st.token).mono (fun e w' hd => ?_)
      refine hd.took h0 ?_ (fun s e => by simp at e)
      rcases hk with ht | ⟨k1, k2, k3, k4, k5⟩
      · have e59 : (st.token.toList == [59]) = true := by rw [toL_iff, ht]; rfl
        have ed : isDefine st.token.toList = true := by rw [ByteArray.toList_eq, ht]; rfl
        unfold itemS defineS
        rw [ed, e59]
        simp only [if_true]
        rw [if_pos (Or.inl (by omega))]
        rfl
      · rw [ctrl_other k1 k2 k3 k4 k5, hop]
        rfl
  · rw [List.concat_eq_append] at hop
    have hin : o ∈ st.opens := by rw [hop]; simp
    refine (closeLast_thing B x st w h l o hop (hi.opens o hin) st.token hlen (by omega)).mono (fun e w' hd => ?_)
    refine hd.took h0 ?_ (fun s e => by rw [thing_err e]; exact h0)
    rcases hk with ht | ⟨k1, k2, k3, k4, k5⟩
    · have e59 : (st.token.toList == [59]) = true := by rw [toL_iff, ht]; rfl
      have ed : isDefine st.token.toList = true := by rw [ByteArray.toList_eq, ht]; rfl
      rw [semi_thing _ _ _ ht]
      unfold itemS defineS
      rw [ed, e59]
      simp only [if_true]
      rw [if_pos (Or.inr (by rw [hop]; simp))]
      rfl
    · rw [ctrl_other k1 k2 k3 k4 k5]
      have e1 : st.opens.getLast? = some o := by rw [hop]; simp
      have e2 : st.opens.dropLast = l := by rw [hop]; simp
      rw [e1, e2]
      exact thing_close st l o (h.kinds o hin)

theorem cfollow_any (B : Nat) (x : CX) (st : RS) (w : World) (h : CpE B w x st) (m : Nat) (hi : Inv st m) (hm : m < 3000) (hn : NmOk st) (h0 : st.err = 0) (hB : 6 ≤ B) (hV : VocOk w) (hE : ErrsOk w) (y : ByteArray × Int × Int) (hy : meanS st.token = some y) :
    Calls Tryz.prog 67 #[.pointer (some ⟨x.b, 0, none⟩), .agg #[.string y.1, .int .i64 y.2.1, .int .i64 y.2.2]] w (Took B w x (itemS st)) := by
  obtain ⟨hl1, hl2⟩ := link hy
  have hlens := hi.lens
  unfold lens at hlens
  have hlen : hereS st < 4000 := by unfold hereS; split <;> omega
  have hBw := h.size
  obtain ⟨t, k, o⟩ := y
  simp only at hl1
  have etok : st.token.data.toList = t.data.toList := by rw [hl1]
  have elist : st.token.toList = t.data.toList := by rw [ByteArray.toList_eq, etok]
  unfold linkB at hl2
  simp only at hl2 ⊢
  by_cases k0 : k = 0
  · rw [item_op hy k0]
    subst k0
    exact fol_op B x st w h t o hlen h0
  rw [if_neg k0] at hl2
  have hdef : ∀ {l : List UInt8}, t.data.toList = l → isDefine l = true → itemS st = defineS st := fun e1 e2 => by unfold itemS; rw [elist, e1, e2]; rfl
  by_cases k1 : k = 1
  · rw [if_pos k1] at hl2
    have e1 : t.data.toList = [58] := by simpa using hl2
    rw [hdef e1 rfl]
    exact fol_define B x w hBw t k o (Or.inl k1) _ (fun W hW => cdefine_any B x st W (h.below hW) m hi hm h0 hB (hV.below hW) (hE.below hW) k (Or.inl ⟨k1, by rw [etok, e1]⟩))
  rw [if_neg k1] at hl2
  by_cases k2 : k = 2
  · rw [if_pos k2] at hl2
    have e1 : t.data.toList = [118, 97, 114, 105, 97, 98, 108, 101] := by simpa using hl2
    rw [hdef e1 rfl]
    exact fol_define B x w hBw t k o (Or.inr (Or.inl k2)) _ (fun W hW => cdefine_any B x st W (h.below hW) m hi hm h0 hB (hV.below hW) (hE.below hW) k (Or.inr (Or.inl ⟨k2, by rw [etok, e1]⟩)))
  rw [if_neg k2] at hl2
  by_cases k3 : k = 3
  · rw [if_pos k3] at hl2
    have e1 : t.data.toList = [99, 111, 110, 115, 116, 97, 110, 116] := by simpa using hl2
    rw [hdef e1 rfl]
    exact fol_define B x w hBw t k o (Or.inr (Or.inr k3)) _ (fun W hW => cdefine_any B x st W (h.below hW) m hi hm h0 hB (hV.below hW) (hE.below hW) k (Or.inr (Or.inr ⟨k3, by rw [etok, e1]⟩)))
  rw [if_neg k3] at hl2
  by_cases k4 : k = 4
  · rw [item_rec hn hy k4]
    subst k4
    exact fol_recurse B x st w h t o hlen h0
  rw [if_neg k4] at hl2
  by_cases k5 : k = 5
  · rw [if_pos k5] at hl2
    have e1 : t.data.toList = [105, 102] := by simpa using hl2
    have ei : itemS st = openS (putS st 2 0) (⟨#[105, 102]⟩, 0, hereS st) := by
      unfold itemS isControl controlS
      rw [structS_L, etok, elist, e1]
      rfl
    rw [ei]
    subst k5
    exact fol_if B x st w h t o hlen (by omega) h0
  rw [if_neg k5] at hl2
  by_cases k6 : k = 6
  · rw [if_pos k6] at hl2
    have e1 : t.data.toList = [98, 101, 103, 105, 110] := by simpa using hl2
    have ei : itemS st = openS st (⟨#[98, 101, 103, 105, 110]⟩, hereS st, 0) := by
      unfold itemS isControl controlS
      rw [structS_L, etok, elist, e1]
      rfl
    rw [ei]
    subst k6
    exact fol_begin B x st w h t o (by omega) h0
  rw [if_neg k6] at hl2
  by_cases k7 : k = 7
  · rw [if_pos k7] at hl2
    have e1 : t.data.toList = [100, 111] := by simpa using hl2
    have ei : itemS st = openS (putS st 6 0) (⟨#[100, 111]⟩, (hereS st : Int) + 1, 0) := by
      unfold itemS isControl controlS
      rw [structS_L, etok, elist, e1]
      rfl
    rw [ei]
    subst k7
    exact fol_do B x st w h t o hlen (by omega) h0
  rw [if_neg k7] at hl2
  simp only [Bool.and_eq_true, beq_iff_eq, Bool.or_eq_true, Bool.not_eq_true'] at hl2
  obtain ⟨k8, hl2⟩ := hl2
  subst k8
  refine fol_closes B x w hBw t o _ (fun W hW => ?_)
  rw [← hl1]
  refine cclose_any B x st W (h.below hW) m hi hm hn h0 ?_
  rcases hl2 with e | ⟨⟨⟨⟨⟨a, b⟩, c⟩, d⟩, e⟩, f⟩
  · exact Or.inl (by rw [etok, e])
  · refine Or.inr ⟨by rw [elist]; exact c, ?_, by rw [elist]; exact d, by rw [elist]; exact e, by rw [elist]; exact f⟩
    unfold isControl
    rw [structS_L, etok, a, elist]
    unfold recL at b
    rw [b]
    rfl

end Go.Proofs.YtbcjfiaacenhgaaGreatDoor

