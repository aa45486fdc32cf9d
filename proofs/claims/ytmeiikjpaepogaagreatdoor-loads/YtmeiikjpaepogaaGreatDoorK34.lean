/- The program's compiler: define and closeLast by the reference's plain functions; follow whole. -/
import Derived.Test.YtmeiikjpaepogaaGreatDoorK33
import Derived.Test.YtmeiikjpaepogaaGreatDoorK28
import Derived.Deep.CutRange
namespace Go.Proofs.YtmeiikjpaepogaaGreatDoor
open Go Go.RowKit

theorem toL_iff (s : ByteArray) (l : List UInt8) : (s.toList == l) = (s.data.toList == l) := by rw [ByteArray.toList_eq]
theorem bad_name {st : RS} (h0 : st.err = 0) (hb : ¬ (newNameS st).err = 0) : badName (stepS st) = true ∧ newNameS st = failS (stepS st) 3 := by
  cases e : badName (stepS st)
  · unfold newNameS at hb
    rw [e] at hb
    exact absurd (show (stepS st).err = 0 from h0) (by simpa using hb)
  · exact ⟨rfl, by unfold newNameS; rw [e]; rfl⟩

theorem cdefine_any (B : Nat) (x : CX) (st : RS) (w : World) (h : CpE B w x st) (m : Nat) (hi : Inv st m) (hm : m < 3000) (h0 : st.err = 0) (hB : 6 ≤ B) (hV : VocOk w) (hE : ErrsOk w) (k : Int)
    (hk : k = 1 ∧ st.token.data.toList = [58] ∨ k = 2 ∧ st.token.data.toList = [118, 97, 114, 105, 97, 98, 108, 101] ∨ k = 3 ∧ st.token.data.toList = [99, 111, 110, 115, 116, 97, 110, 116]) :
    Calls Tryz.prog 147 #[.pointer (some ⟨x.b, 0, none⟩), .int .i64 k] w (Took B w x (defineS st)) := by
  unfold defineS
  rw [toL_iff, toL_iff, toL_iff]
  have h59 : (st.token.data.toList == [59]) = false := by rcases hk with ⟨_, e⟩ | ⟨_, e⟩ | ⟨_, e⟩ <;> rw [e] <;> decide
  rw [h59]
  simp only [Bool.false_eq_true, if_false]
  by_cases hno : 0 ≤ st.start ∨ st.opens ≠ []
  · rw [if_pos hno]; exact cdef_nest B x st w h k hno h0
  · rw [if_neg hno]
    have hst : st.start < 0 := by omega
    have hop : st.opens = [] := by
      rcases Classical.em (st.opens = []) with e | e
      · exact e
      · exact absurd (Or.inr e) hno
    by_cases hbad : (newNameS st).err = 0
    · rw [if_neg (by simpa using hbad)]
      obtain ⟨g1, g2, g3, g4, g5⟩ := good_name hi hbad
      rw [g2]
      rcases hk with ⟨rfl, e⟩ | ⟨rfl, e⟩ | ⟨rfl, e⟩
      · rw [e, if_pos (by decide)]
        exact cdef_colon B x st w h m hi hst hop h0 hB hV hE g1
      · rw [e, if_neg (by decide), if_pos (by decide)]
        exact cdef_variable B x st w h m hi hm hst hop h0 hB hV hE g1 g4
      · rw [e, if_neg (by decide), if_neg (by decide)]
        exact cdef_constant B x st w h m hi hm hst hop h0 hB hV hE g1 g4
    · rw [if_pos (by simpa using hbad)]
      obtain ⟨g1, g2⟩ := bad_name h0 hbad
      rw [g2]
      exact cdef_bad B x st w h m hi k hst hop h0 hB hV hE g1

theorem CpE.kinds {B : Nat} {w : World} {x : CX} {st : RS} (h : CpE B w x st) : ∀ o ∈ st.opens, o.1 = ⟨#[105, 102]⟩ ∨ o.1 = ⟨#[101, 108, 115, 101]⟩ ∨ o.1 = ⟨#[98, 101, 103, 105, 110]⟩ ∨ o.1 = ⟨#[119, 104, 105, 108, 101]⟩ ∨ o.1 = ⟨#[100, 111]⟩ := by
  obtain ⟨_, _, _, _, fw, fo, h⟩ := h
  intro o ho
  obtain ⟨i, hi⟩ := List.getElem?_of_mem ho
  have hl := (List.getElem?_eq_some_iff.1 hi).1
  obtain ⟨f, hf⟩ : ∃ f, fo[i]? = some f := ⟨_, List.getElem?_eq_getElem (by rw [h.things.len]; exact hl)⟩
  obtain ⟨cb, _, hc⟩ := h.things.each i f o hf hi
  rcases hc with ⟨e, _⟩ | ⟨e, _⟩ | ⟨e, _⟩ | ⟨e, _⟩ | ⟨e, _⟩
  · exact Or.inl e
  · exact Or.inr (Or.inl e)
  · exact Or.inr (Or.inr (Or.inl e))
  · exact Or.inr (Or.inr (Or.inr (Or.inl e)))
  · exact Or.inr (Or.inr (Or.inr (Or.inr e)))

/-- What a thing makes of a token is what the reference makes of it. -/
theorem thing_close (st : RS) (l : List (ByteArray × Int × Int)) (o : ByteArray × Int × Int) (ho : o.1 = ⟨#[105, 102]⟩ ∨ o.1 = ⟨#[101, 108, 115, 101]⟩ ∨ o.1 = ⟨#[98, 101, 103, 105, 110]⟩ ∨ o.1 = ⟨#[119, 104, 105, 108, 101]⟩ ∨ o.1 = ⟨#[100, 111]⟩) :
    closeS st l o = (thingR { st with opens := l } o st.token).getD (failS st 4) := by
  obtain ⟨t, a, n⟩ := o
  unfold closeS thingR closeIfR closeElseR closeBeginR closeWhileR closeDoR
  simp only [toL_iff]
  generalize st.token.data.toList = tk
  simp only at ho
  by_cases e1 : tk = [101, 108, 115, 101]
  · subst e1; rcases ho with rfl | rfl | rfl | rfl | rfl <;> rfl
  by_cases e2 : tk = [116, 104, 101, 110]
  · subst e2; rcases ho with rfl | rfl | rfl | rfl | rfl <;> rfl
  by_cases e3 : tk = [117, 110, 116, 105, 108]
  · subst e3; rcases ho with rfl | rfl | rfl | rfl | rfl <;> rfl
  by_cases e4 : tk = [119, 104, 105, 108, 101]
  · subst e4; rcases ho with rfl | rfl | rfl | rfl | rfl <;> rfl
  by_cases e5 : tk = [114, 101, 112, 101, 97, 116]
  · subst e5; rcases ho with rfl | rfl | rfl | rfl | rfl <;> rfl
  by_cases e6 : tk = [108, 111, 111, 112]
  · subst e6; rcases ho with rfl | rfl | rfl | rfl | rfl <;> rfl
  have n1 := beq_false_of_ne e1
  have n2 := beq_false_of_ne e2
  have n3 := beq_false_of_ne e3
  have n4 := beq_false_of_ne e4
  have n5 := beq_false_of_ne e5
  have n6 := beq_false_of_ne e6
  simp only [n1, n2, n3, n4, n5, n6, Bool.false_eq_true, false_and, if_false]
  split
  · rfl
  · split
    · rfl
    · split
      · rfl
      · split <;> rfl

theorem thing_err {st : RS} {o : ByteArray × Int × Int} {tok : ByteArray} {r : RS} (h : thingR st o tok = some r) : r.err = st.err := by
  have hp : ∀ (u : RS) (a b : Int), (putS u a b).err = u.err := fun u a b => by unfold putS; split <;> rfl
  have ht : ∀ (u : RS) (n : Nat), (tellS u n).err = u.err := fun u n => by unfold tellS; split <;> rfl
  unfold thingR closeIfR closeElseR closeBeginR closeWhileR closeDoR at h
  repeat' split at h
  all_goals first
    | (simp at h; done)
    | (obtain rfl := Option.some.inj h; first | (rw [ht, hp]; done) | (rw [ht]; done) | (rw [hp]; done) | (show (tellS _ _).err = _; rw [ht, hp]; done) | (show (putS _ _ _).err = _; rw [hp]; done))

theorem Done.took {B : Nat} {w : World} {x : CX} {st R : RS} {r : Option RS} (h0 : st.err = 0) (hr : R = r.getD (failS st 4)) (he : ∀ s, r = some s → s.err = 0) {e : Ending} {w' : World} (h : Done B w x st.place0 r e w') : Took B w x R e w' := by
  obtain ⟨h1, h2, h3, _, h5⟩ := h
  subst hr
  cases r with
  | none =>
    subst h1
    exact Took.fail h0 (by decide) (h3 rfl) h5
  | some s =>
    subst h1
    exact Took.ok (he s rfl) (h2 s rfl) h5

theorem ctrl_other {st : RS} (k1 : isDefine st.token.toList = false) (k2 : isControl st.token = true) (k3 : (st.token.toList == [105, 102]) = false) (k4 : (st.token.toList == [98, 101, 103, 105, 110]) = false) (k5 : (st.token.toList == [100, 111]) = false) :
    itemS st = match st.opens.getLast? with | none => failS st 4 | some x => closeS st st.opens.dropLast x := by
  unfold itemS controlS
  simp only [k1, k2, k3, k4, k5, Bool.false_eq_true, if_false, if_true]
  rfl
theorem semi_thing (st : RS) (o : ByteArray × Int × Int) (tok : ByteArray) (ht : tok.data.toList = [59]) : thingR st o tok = none := by
  unfold thingR closeIfR closeElseR closeBeginR closeWhileR closeDoR
  simp only [toL_iff, ht]
  split
  · rfl
  · split
    · rfl
    · split
      · rfl
      · split <;> rfl

theorem cclose_any (B : Nat) (x : CX) (st : RS) (w : World) (h : CpE B w x st) (m : Nat) (hi : Inv st m) (hm : m < 3000) (hn : NmOk st) (h0 : st.err = 0)
    (hk : st.token.data.toList = [59] ∨ (isDefine st.token.toList = false ∧ isControl st.token = true ∧ (st.token.toList == [105, 102]) = false ∧ (st.token.toList == [98, 101, 103, 105, 110]) = false ∧ (st.token.toList == [100, 111]) = false)) :
    Calls Tryz.prog 146 #[.pointer (some ⟨x.b, 0, none⟩), .string st.token] w (Took B w x (itemS st)) := by
  have hl := hi.lens
  unfold lens at hl
  have hlen : hereS st < 4000 := by unfold hereS; split <;> omega
  rcases List.eq_nil_or_concat st.opens with hop | ⟨l, o, hop⟩
  · -- nothing is open, but perhaps a word
    by_cases hs : 0 ≤ st.start
    · obtain ⟨w1, w2, w3⟩ := hn.word hs
      refine (closeLast_word B x st w h hs hop st.token (by omega) (by omega) w2 w3).mono (fun e w' hd => ?_)
      refine hd.took h0 ?_ ?_
      · rcases hk with ht | ⟨k1, k2, k3, k4, k5⟩
        · have e59 : (st.token.toList == [59]) = true := by rw [toL_iff, ht]; rfl
          have ed : isDefine st.token.toList = true := by rw [ByteArray.toList_eq, ht]; rfl
          unfold itemS defineS
          rw [ed, e59]
          simp only [if_true]
          rw [if_neg (by rintro (e | e); omega; exact e hop)]
          rfl
        · have e59 : (st.token.toList == [59]) = false := by
            cases e : (st.token.toList == [59])
            · rfl
            · unfold isDefine at k1; rw [e] at k1; simp at k1
          rw [ctrl_other k1 k2 k3 k4 k5, e59, hop]
          rfl
      · intro s hs'
        split at hs'
        · obtain rfl := Option.some.inj hs'
          unfold semiS putS
          split <;> exact h0
        · simp at hs'
    · refine (closeLast_empty B x st w h (by omega) hop st.token).mono (fun e w' hd => ?_)
      refine hd.took h0 ?_ (fun s e => by simp at e)
      rcases hk with ht | ⟨k1, k2, k3, k4, k5⟩
      · have e59 : (st.token.toList == [59]) = true := by rw [toL_iff, ht]; rfl
        have ed : isDefine st.token.toList = true := by rw [ByteArray.toList_eq, ht]; rfl
        unfold itemS defineS
        rw [ed, e59]
        simp only [if_true]
        rw [if_pos (Or.inl (by omega))]
        rfl
      · rw [ctrl_other k1 k2 k3 k4 k5, hop]
        rfl
  · rw [List.concat_eq_append] at hop
    have hin : o ∈ st.opens := by rw [hop]; simp
    refine (closeLast_thing B x st w h l o hop (hi.opens o hin) st.token hlen (by omega)).mono (fun e w' hd => ?_)
    refine hd.took h0 ?_ (fun s e => by rw [thing_err e]; exact h0)
    rcases hk with ht | ⟨k1, k2, k3, k4, k5⟩
    · have e59 : (st.token.toList == [59]) = true := by rw [toL_iff, ht]; rfl
      have ed : isDefine st.token.toList = true := by rw [ByteArray.toList_eq, ht]; rfl
      rw [semi_thing _ _ _ ht]
      unfold itemS defineS
      rw [ed, e59]
      simp only [if_true]
      rw [if_pos (Or.inr (by rw [hop]; simp))]
      rfl
    · rw [ctrl_other k1 k2 k3 k4 k5]
      have e1 : st.opens.getLast? = some o := by rw [hop]; simp
      have e2 : st.opens.dropLast = l := by rw [hop]; simp
      rw [e1, e2]
      exact thing_close st l o (h.kinds o hin)

theorem cfollow_any (B : Nat) (x : CX) (st : RS) (w : World) (h : CpE B w x st) (m : Nat) (hi : Inv st m) (hm : m < 3000) (hn : NmOk st) (h0 : st.err = 0) (hB : 6 ≤ B) (hV : VocOk w) (hE : ErrsOk w) (y : ByteArray × Int × Int) (hy : meanS st.token = some y) :
    Calls Tryz.prog 75 #[.pointer (some ⟨x.b, 0, none⟩), .agg #[.string y.1, .int .i64 y.2.1, .int .i64 y.2.2]] w (Took B w x (itemS st)) := by
  obtain ⟨hl1, hl2⟩ := link hy
  have hlens := hi.lens
  unfold lens at hlens
  have hlen : hereS st < 4000 := by unfold hereS; split <;> omega
  have hBw := h.size
  obtain ⟨t, k, o⟩ := y
  simp only at hl1
  have etok : st.token.data.toList = t.data.toList := by rw [hl1]
  have elist : st.token.toList = t.data.toList := by rw [ByteArray.toList_eq, etok]
  unfold linkB at hl2
  simp only at hl2 ⊢
  by_cases k0 : k = 0
  · rw [item_op hy k0]
    subst k0
    exact fol_op B x st w h t o hlen h0
  rw [if_neg k0] at hl2
  have hdef : ∀ {l : List UInt8}, t.data.toList = l → isDefine l = true → itemS st = defineS st := fun e1 e2 => by unfold itemS; rw [elist, e1, e2]; rfl
  by_cases k1 : k = 1
  · rw [if_pos k1] at hl2
    have e1 : t.data.toList = [58] := by simpa using hl2
    rw [hdef e1 rfl]
    exact fol_define B x w hBw t k o (Or.inl k1) _ (fun W hW => cdefine_any B x st W (h.below hW) m hi hm h0 hB (hV.below hW) (hE.below hW) k (Or.inl ⟨k1, by rw [etok, e1]⟩))
  rw [if_neg k1] at hl2
  by_cases k2 : k = 2
  · rw [if_pos k2] at hl2
    have e1 : t.data.toList = [118, 97, 114, 105, 97, 98, 108, 101] := by simpa using hl2
    rw [hdef e1 rfl]
    exact fol_define B x w hBw t k o (Or.inr (Or.inl k2)) _ (fun W hW => cdefine_any B x st W (h.below hW) m hi hm h0 hB (hV.below hW) (hE.below hW) k (Or.inr (Or.inl ⟨k2, by rw [etok, e1]⟩)))
  rw [if_neg k2] at hl2
  by_cases k3 : k = 3
  · rw [if_pos k3] at hl2
    have e1 : t.data.toList = [99, 111, 110, 115, 116, 97, 110, 116] := by simpa using hl2
    rw [hdef e1 rfl]
    exact fol_define B x w hBw t k o (Or.inr (Or.inr k3)) _ (fun W hW => cdefine_any B x st W (h.below hW) m hi hm h0 hB (hV.below hW) (hE.below hW) k (Or.inr (Or.inr ⟨k3, by rw [etok, e1]⟩)))
  rw [if_neg k3] at hl2
  by_cases k4 : k = 4
  · rw [item_rec hn hy k4]
    subst k4
    exact fol_recurse B x st w h t o hlen h0
  rw [if_neg k4] at hl2
  by_cases k5 : k = 5
  · rw [if_pos k5] at hl2
    have e1 : t.data.toList = [105, 102] := by simpa using hl2
    have ei : itemS st = openS (putS st 2 0) (⟨#[105, 102]⟩, 0, hereS st) := by
      unfold itemS isControl controlS
      rw [structS_L, etok, elist, e1]
      rfl
    rw [ei]
    subst k5
    exact fol_if B x st w h t o hlen (by omega) h0
  rw [if_neg k5] at hl2
  by_cases k6 : k = 6
  · rw [if_pos k6] at hl2
    have e1 : t.data.toList = [98, 101, 103, 105, 110] := by simpa using hl2
    have ei : itemS st = openS st (⟨#[98, 101, 103, 105, 110]⟩, hereS st, 0) := by
      unfold itemS isControl controlS
      rw [structS_L, etok, elist, e1]
      rfl
    rw [ei]
    subst k6
    exact fol_begin B x st w h t o (by omega) h0
  rw [if_neg k6] at hl2
  by_cases k7 : k = 7
  · rw [if_pos k7] at hl2
    have e1 : t.data.toList = [100, 111] := by simpa using hl2
    have ei : itemS st = openS (putS st 6 0) (⟨#[100, 111]⟩, (hereS st : Int) + 1, 0) := by
      unfold itemS isControl controlS
      rw [structS_L, etok, elist, e1]
      rfl
    rw [ei]
    subst k7
    exact fol_do B x st w h t o hlen (by omega) h0
  rw [if_neg k7] at hl2
  simp only [Bool.and_eq_true, beq_iff_eq, Bool.or_eq_true, Bool.not_eq_true'] at hl2
  obtain ⟨k8, hl2⟩ := hl2
  subst k8
  refine fol_closes B x w hBw t o _ (fun W hW => ?_)
  rw [← hl1]
  refine cclose_any B x st W (h.below hW) m hi hm hn h0 ?_
  rcases hl2 with e | ⟨⟨⟨⟨⟨a, b⟩, c⟩, d⟩, e⟩, f⟩
  · exact Or.inl (by rw [etok, e])
  · refine Or.inr ⟨by rw [elist]; exact c, ?_, by rw [elist]; exact d, by rw [elist]; exact e, by rw [elist]; exact f⟩
    unfold isControl
    rw [structS_L, etok, a, elist]
    unfold recL at b
    rw [b]
    rfl
set_option maxRecDepth 100000 in
set_option maxHeartbeats 4000000 in
theorem take_mean (B : Nat) (x : CX) (w : World) (hB : B ≤ w.heap.size) (t : ByteArray) (y : ByteArray × Int × Int) (hy : meanS t = some y) (hV : VocOk w) (r : RS)
    (hcall : ∀ W : World, Below w.heap.size w W → Calls Tryz.prog 75 #[.pointer (some ⟨x.b, 0, none⟩), .agg #[.string y.1, .int .i64 y.2.1, .int .i64 y.2.2]] W (Took B W x r)) :
    Calls Tryz.prog 49 #[.pointer (some ⟨x.b, 0, none⟩), .string t] w (Took B w x r) := by
  have HM := V (meaning_any t w hV)
  have hv : meanV t = .agg #[.string y.1, .int .i64 y.2.1, .int .i64 y.2.2] := by unfold meanV; rw [hy]
  have hs : (meanS t).isSome = true := by rw [hy]; rfl
  rw [hv, hs] at HM
  obtain ⟨y1, y2, y3⟩ := y
  have HC := V hcall
  simp only at HC HM
  clear hcall hv hs hy hV
  go_enter Tryz.func49, Tryz.ntmps49
  go_wp2_with fail
  refine (U HM).mono ?_
  rintro e w1 ⟨rfl, hb1⟩
  have HB1 := V hb1
  clear hb1 HM
  go_wp2_with fail
  have hb2 : Below w.heap.size w (w1.alloc (.cells #[.string y1, .int .i64 y2, .int .i64 y3] 146)) := (U HB1).alloc (by have := (U HB1).size; omega) _
  have HB2 := V hb2
  refine (U HC _ hb2).mono ?_
  rintro e w2 ⟨rfl, h1, h2, h3⟩
  have H1 := V (And.intro h1 (And.intro h2 h3))
  clear h1 h2 h3 HC hb2
  go_wp2_with fail
  go_ret
  exact ⟨rfl, (U H1).1, (U H1).2.1, (below_less (U HB2) hB).trans (U H1).2.2⟩

set_option maxRecDepth 100000 in
set_option maxHeartbeats 4000000 in
theorem take_num (B : Nat) (x : CX) (st : RS) (w : World) (h : CpE B w x st) (t : ByteArray) (hsz : t.size ≤ 2000) (hy : meanS t = none) (hn : (numS t).isSome = true) (hV : VocOk w) (hE : ErrsOk w) (hlen : hereS st < 4000) (h0 : st.err = 0) :
    Calls Tryz.prog 49 #[.pointer (some ⟨x.b, 0, none⟩), .string t] w (Took B w x (putS st 0 (numV t))) := by
  have HM := V (meaning_any t w hV)
  have hv : meanV t = .agg #[.string ⟨#[]⟩, .int .i64 0, .int .i64 0] := by unfold meanV; rw [hy]
  have hs : (meanS t).isSome = false := by rw [hy]; rfl
  rw [hv, hs] at HM
  have HNUM : Hid (∀ w1, Below w.heap.size w w1 → Calls Tryz.prog 76 #[.string t] w1 fun e w' => e = .returned (.tuple #[.int .i64 (numV t), .bool true]) ∧ Below w1.heap.size w1 w') := by
    intro w1 hb
    have := tokNumber_any t w1 hsz (hE.below hb)
    rw [hn] at this
    exact this
  have HH := V h
  have HP0 := V (show (putS st 0 (numV t)).err = 0 by unfold putS; split <;> exact h0)
  clear hv hs hy hV hE hn h h0
  generalize numV t = nv at *
  go_enter Tryz.func49, Tryz.ntmps49
  go_wp2_with fail
  refine (U HM).mono ?_
  rintro e w1 ⟨rfl, hb1⟩
  have HB1 := V hb1
  clear hb1 HM
  go_wp2_with fail
  have hb2 : Below w.heap.size w (w1.alloc (.cells #[.string ⟨#[]⟩, .int .i64 0, .int .i64 0] 146)) := (U HB1).alloc (by have := (U HB1).size; omega) _
  refine (U HNUM _ hb2).mono ?_
  rintro e w2 ⟨rfl, hb3⟩
  have hb4 : Below w.heap.size w w2 := hb2.trans (below_less hb3 (by have := hb2.size; omega))
  obtain ⟨fw, fo, hF⟩ := ((U HH).below hb4).f
  obtain ⟨s0, vo, hblk⟩ := hF.blk
  have hc := hblk.cell
  unfold cpArr at hc
  have hxl := hblk.lt
  have HADD := V (addW B x st _ fw fo hF 0 nv hlen)
  have HB4 := V (below_less hb4 (U HH).size)
  have hxa : x.b < w2.heap.size + 1 := by omega
  have hxb : x.b ≤ w2.heap.size := by omega
  have hxc : x.b ≤ w2.heap.size + 1 := by omega
  have hxd : x.b < w2.heap.size + 1 + 1 := by omega
  clear hb2 hb3 hb4 hF hblk HNUM HB1
  generalize hereX x st = hx at *
  go_wp2_with fail
  go_region_law (first
      | (refine step_call rfl 77 #[.const (.int .i64 0), .tmp 30] #[3, 2] rfl Tryz.func77 Tryz.name77 Tryz.body77 #[.int .i64 0, .int .i64 nv] (by first | (simp [Act.eval]; done) | (simp [Act.eval, Act.put]; done) | rfl) (withI_any 0 nv _) ?_; rintro e w1 ⟨rfl, rfl⟩; refine ⟨_, rfl, ?_⟩)
      | (refine step_call rfl 50 #[.tmp 29, .tmp 32] #[96, 33] rfl Tryz.func50 Tryz.name50 Tryz.body50 #[.pointer (some ⟨hx, 0, none⟩), .slice (some ⟨w2.heap.size + 1, 0, none⟩) 1 1] (by first | (simp [Act.eval]; done) | (simp [Act.eval, Act.put]; done) | rfl) (U HADD _ (w2.heap.size + 1) (by (repeat (first | with_reducible refine below_drew ?_ | with_reducible refine below_drawn ?_ _ | with_reducible refine below_longer ?_ _ | (with_reducible refine Below.alloc ?_ ?_ _; rotate_left; (first | omega | ((repeat (first | rw [World.size_up] | rw [World.size_dr] | rw [World.size_drN])) <;> omega))))); (with_reducible exact Below.refl _ _)) (by (repeat (first | with_reducible refine Blk.drew ?_ | with_reducible refine Blk.drewN ?_ _ | (with_reducible refine blk_newAt _ _ ?_; (first | omega | ((repeat (first | rw [World.size_up] | rw [World.size_dr] | rw [World.size_drN])) <;> omega))) | with_reducible refine Blk.alloc ?_ _)); (first | done | with_reducible assumption))) ?_; rintro e w1 ⟨rfl, h2, h1⟩; refine ⟨_, rfl, ?_⟩; have H1 := V h1; clear h1 h2))
  all_goals
    go_wp2_with fail
    go_ret
    obtain ⟨k1, _, k2, k3⟩ := U H1
    exact Took.ok (U HP0) k1.e ((U HB4).trans k3)

set_option maxRecDepth 100000 in
set_option maxHeartbeats 4000000 in
theorem take_name_no (B : Nat) (x : CX) (st : RS) (w : World) (h : CpE B w x st) (t : ByteArray) (hsz : t.size ≤ 2000) (hy : meanS t = none) (hn : (numS t).isSome = false) (hV : VocOk w) (hE : ErrsOk w) (h0 : st.err = 0) (hfind : st.names.find? (fun x => x.1 == t) = none) :
    Calls Tryz.prog 49 #[.pointer (some ⟨x.b, 0, none⟩), .string t] w (Took B w x (failS st 2)) := by
  have HM := V (meaning_any t w hV)
  have hv : meanV t = .agg #[.string ⟨#[]⟩, .int .i64 0, .int .i64 0] := by unfold meanV; rw [hy]
  have hs : (meanS t).isSome = false := by rw [hy]; rfl
  rw [hv, hs] at HM
  have HNUM : Hid (∀ w1, Below w.heap.size w w1 → Calls Tryz.prog 76 #[.string t] w1 fun e w' => e = .returned (.tuple #[.int .i64 (numV t), .bool false]) ∧ Below w1.heap.size w1 w') := by
    intro w1 hb
    have := tokNumber_any t w1 hsz (hE.below hb)
    rw [hn] at this
    exact this
  have HH := V h
  have HFI := V hfind
  clear hv hs hy hV hE hn h hfind
  generalize numV t = nv at *
  go_enter Tryz.func49, Tryz.ntmps49
  go_wp2_with fail
  refine (U HM).mono ?_
  rintro e w1 ⟨rfl, hb1⟩
  have HB1 := V hb1
  clear hb1 HM
  go_wp2_with fail
  have hb2 : Below w.heap.size w (w1.alloc (.cells #[.string ⟨#[]⟩, .int .i64 0, .int .i64 0] 146)) := (U HB1).alloc (by have := (U HB1).size; omega) _
  refine (U HNUM _ hb2).mono ?_
  rintro e w2 ⟨rfl, hb3⟩
  have hb4 : Below w.heap.size w w2 := hb2.trans (below_less hb3 (by have := hb2.size; omega))
  have h2 := (U HH).below hb4
  have hlk := h2.names.look t hsz
  have HB4 := V (below_less hb4 (U HH).size)
  clear hb2 hb3 hb4 HNUM HB1
  have hls : lookS st.names t = .agg #[.int .i64 0, .int .i64 0] := by unfold lookS; rw [U HFI]
  rw [hls, U HFI] at hlk
  have HA := V (h2.below ((Below.refl _ _).alloc (Nat.le_refl _) (.cells #[.int .i64 0, .int .i64 0] 65))).atIs
  obtain ⟨fw, fo, hF⟩ := h2.f
  obtain ⟨s0, vo, hblk⟩ := hF.blk
  have hc := hblk.cell
  unfold cpArr at hc
  have hxl := hblk.lt
  have HS := V h2.size
  clear h2 hF hblk hls
  generalize hereX x st = hx at *
  simp only [Option.isSome_none] at hlk
  go_wp2_with fail
  go_ret
  exact Took.fail (er := 2) h0 (by decide) (U HA) ((U HB4).alloc (U HS) _)

set_option maxRecDepth 100000 in
set_option maxHeartbeats 4000000 in
theorem take_name_yes (B : Nat) (x : CX) (st : RS) (w : World) (h : CpE B w x st) (t : ByteArray) (hsz : t.size ≤ 2000) (hy : meanS t = none) (hn : (numS t).isSome = false) (hV : VocOk w) (hE : ErrsOk w) (hlen : hereS st < 4000) (h0 : st.err = 0) (y : ByteArray × Int × Int) (hfind : st.names.find? (fun x => x.1 == t) = some y) :
    Calls Tryz.prog 49 #[.pointer (some ⟨x.b, 0, none⟩), .string t] w (Took B w x (putS st y.2.1 y.2.2)) := by
  obtain ⟨y1, y2, y3⟩ := y
  have HM := V (meaning_any t w hV)
  have hv : meanV t = .agg #[.string ⟨#[]⟩, .int .i64 0, .int .i64 0] := by unfold meanV; rw [hy]
  have hs : (meanS t).isSome = false := by rw [hy]; rfl
  rw [hv, hs] at HM
  have HNUM : Hid (∀ w1, Below w.heap.size w w1 → Calls Tryz.prog 76 #[.string t] w1 fun e w' => e = .returned (.tuple #[.int .i64 (numV t), .bool false]) ∧ Below w1.heap.size w1 w') := by
    intro w1 hb
    have := tokNumber_any t w1 hsz (hE.below hb)
    rw [hn] at this
    exact this
  have HH := V h
  have HFI := V hfind
  clear hv hs hy hV hE hn h hfind
  generalize numV t = nv at *
  go_enter Tryz.func49, Tryz.ntmps49
  go_wp2_with fail
  refine (U HM).mono ?_
  rintro e w1 ⟨rfl, hb1⟩
  have HB1 := V hb1
  clear hb1 HM
  go_wp2_with fail
  have hb2 : Below w.heap.size w (w1.alloc (.cells #[.string ⟨#[]⟩, .int .i64 0, .int .i64 0] 146)) := (U HB1).alloc (by have := (U HB1).size; omega) _
  refine (U HNUM _ hb2).mono ?_
  rintro e w2 ⟨rfl, hb3⟩
  have hb4 : Below w.heap.size w w2 := hb2.trans (below_less hb3 (by have := hb2.size; omega))
  have h2 := (U HH).below hb4
  have hlk := h2.names.look t hsz
  have HB4 := V (below_less hb4 (U HH).size)
  clear hb2 hb3 hb4 HNUM HB1
  have hls : lookS st.names t = .agg #[.int .i64 y2, .int .i64 y3] := by unfold lookS; rw [U HFI]
  rw [hls, U HFI] at hlk
  have hb5 : Below w2.heap.size w2 (w2.alloc (.cells #[.int .i64 y2, .int .i64 y3] 65)) := by (repeat (first | with_reducible refine below_drew ?_ | with_reducible refine below_drawn ?_ _ | with_reducible refine below_longer ?_ _ | (with_reducible refine Below.alloc ?_ ?_ _; rotate_left; (first | omega | ((repeat (first | rw [World.size_up] | rw [World.size_dr] | rw [World.size_drN])) <;> omega))))); (with_reducible exact Below.refl _ _)
  have hib : Blk (w2.alloc (.cells #[.int .i64 y2, .int .i64 y3] 65)) w2.heap.size #[.int .i64 y2, .int .i64 y3] 65 := Blk.new _ _ _
  have h3 := h2.below hb5
  have HB5 := V ((U HB4).trans (below_less hb5 h2.size))
  obtain ⟨fw2, fo2, hF2⟩ := h2.f
  obtain ⟨s2, vo2, hblk2⟩ := hF2.blk
  have hc2 := hblk2.cell
  unfold cpArr at hc2
  have hxl2 := hblk2.lt
  obtain ⟨fw, fo, hF⟩ := h3.f
  obtain ⟨s0, vo, hblk⟩ := hF.blk
  have hc := hblk.cell
  unfold cpArr at hc
  have hxl := hblk.lt
  have hic := hib.cell
  have hil := hib.lt
  have HADD := V (addW B x st _ fw fo hF y2 y3 hlen)
  have HP0 := V (show (putS st y2 y3).err = 0 by unfold putS; split <;> exact h0)
  simp only [Option.isSome_some] at hlk
  clear h2 h3 hF hblk hF2 hblk2 hb5 hib hls h0
  generalize hereX x st = hx at *
  go_wp2_with fail
  generalize w2.alloc (.cells #[.int .i64 y2, .int .i64 y3] 65) = W0 at *
  have hxa : x.b < W0.heap.size + 1 := by omega
  have hxb : x.b ≤ W0.heap.size := by omega
  have hia : w2.heap.size < W0.heap.size + 1 := by omega
  have hib : w2.heap.size ≤ W0.heap.size := by omega
  clear hc2 hxl2 hlk
  go_region_law (refine step_call rfl 50 #[.tmp 48, .tmp 50] #[96, 33] rfl Tryz.func50 Tryz.name50 Tryz.body50 #[.pointer (some ⟨hx, 0, none⟩), .slice (some ⟨W0.heap.size, 0, none⟩) 1 1] (by first | (simp [Act.eval]; done) | (simp [Act.eval, Act.put]; done) | rfl) (U HADD _ W0.heap.size (by (repeat (first | with_reducible refine below_drew ?_ | with_reducible refine below_drawn ?_ _ | with_reducible refine below_longer ?_ _ | (with_reducible refine Below.alloc ?_ ?_ _; rotate_left; (first | omega | ((repeat (first | rw [World.size_up] | rw [World.size_dr] | rw [World.size_drN])) <;> omega))))); (with_reducible exact Below.refl _ _)) (by (repeat (first | with_reducible refine Blk.drew ?_ | with_reducible refine Blk.drewN ?_ _ | (with_reducible refine blk_newAt _ _ ?_; (first | omega | ((repeat (first | rw [World.size_up] | rw [World.size_dr] | rw [World.size_drN])) <;> omega))) | with_reducible refine Blk.alloc ?_ _)); (first | done | with_reducible assumption))) ?_; rintro e w1 ⟨rfl, h2, h1⟩; refine ⟨_, rfl, ?_⟩; have H1 := V h1; clear h1 h2)
  all_goals
    go_wp2_with fail
    go_ret
    obtain ⟨k1, _, k2, k3⟩ := U H1
    exact Took.ok (U HP0) k1.e ((U HB5).trans k3)

theorem ctake_any (B : Nat) (x : CX) (st : RS) (w : World) (h : CpE B w x st) (m : Nat) (hi : Inv st m) (hm : m < 3000) (hn : NmOk st) (h0 : st.err = 0) (hB : 6 ≤ B) (hV : VocOk w) (hE : ErrsOk w) :
    Calls Tryz.prog 49 #[.pointer (some ⟨x.b, 0, none⟩), .string st.token] w (Took B w x (itemS st)) := by
  have hl := hi.lens
  unfold lens at hl
  have hlen : hereS st < 4000 := by unfold hereS; split <;> omega
  have hsz : st.token.size ≤ 2000 := by
    rw [hi.token, ByteArray.size_extract]
    have := hi.size; omega
  cases hy : meanS st.token with
  | some y => exact take_mean B x w h.size st.token y hy hV _ (fun W hW => cfollow_any B x st W (h.below hW) m hi hm hn h0 hB (hV.below hW) (hE.below hW) y hy)
  | none =>
    rw [item_none hy]
    cases hnum : (numS st.token).isSome
    · simp only [Bool.false_eq_true, if_false]
      cases hf : st.names.find? (fun x => x.1 == st.token) with
      | none => exact take_name_no B x st w h st.token hsz hy hnum hV hE h0 hf
      | some y => exact take_name_yes B x st w h st.token hsz hy hnum hV hE hlen h0 y hf
    · simp only [if_true]
      exact take_num B x st w h st.token hsz hy hnum hV hE hlen h0
/-- append(s, x...), x being a row that is owned, perhaps none. -/
theorem wpList_append_row {P : Program} {w : World} {ops : Array Oper} {rest : List Oper} {o : Oper} {a : Act} {Q : Exit → Act → World → Prop} (hgd : o.guard = none) (s x : Operand) (t : TypeId)
    (ho : o.op = .call { callee := .builtin .append, args := #[s, x], argTypes := #[t, t] })
    (base : Nat) (e : TypeId) (i : TypeInfo) (z : Value) (size bytes : Nat) (ht : P.underlying t = some (.slice e)) (hi : P.info? e = some i) (hz : i.zero = some z)
    (hsize : i.size = size) (hby : i.bytes = bytes) (hzs : z.cells.size = size) (hsz : 0 < size)
    (v : Value) (n : Nat) (xs : List Value) (hs : a.eval s = v) (hown : w.ownsRow base e size v n xs)
    (u : Value) (b2 m : Nat) (news : List Value) (hx : a.eval x = u) (hu : w.ownsRow b2 e size u m news) (h1 : ∀ u ∈ news, u.oneCell' = true)
    (h63 : n + m ≤ maxLen) (hbytes : (n + m) * bytes ≤ 140737488355328) (hbase : base ≤ w.heap.size)
    (h : ∀ v' w', w'.ownsRow base e size v' (n + m) (xs ++ news) → w.grownBy w' v.ownBlock → wpList P ops Q rest (a.put o.dst v') w') :
    wpList P ops Q (o :: rest) a w := by
  refine wpList_plain hgd fun K hK => ?_
  obtain ⟨ao, c, hv⟩ := own_shape hu
  subst hv
  cases ao with
  | none =>
    have hm : m = 0 ∧ news = [] := by
      rcases hu.2 with ⟨e1, e2⟩ | ⟨g, cap, cur, e1, _⟩
      · simp only [Value.slice.injEq, true_and] at e1
        have hl := hu.1
        rw [e1.1] at hl
        exact ⟨e1.1, by simpa using hl⟩
      · simp at e1
    obtain ⟨rfl, rfl⟩ := hm
    have hc := own_none hu
    subst hc
    have hrun := run_append_owned_none (P := P) (w := w) base t o.type e i size ht hi v n xs hown
    unfold Oper.wp execOp
    simp only [ho, resolve, invoke, builtin, Sem.run_bind, Sem.run_pure, Result.andThen_ok, List.map_toArray, List.map_cons, List.map_nil, hs, hx, hrun]
    exact hK _ _ (h v w (by rw [List.append_nil, Nat.add_zero]; exact hown) (World.grownBy.refl _ _))
  | some ad =>
    obtain ⟨g, rfl⟩ : ∃ g, ad = ⟨g, 0, none⟩ := by
      rcases hu.2 with ⟨e1, _⟩ | ⟨g, cap, cur, e1, _⟩
      · simp at e1
      · simp only [Value.slice.injEq, Option.some.injEq] at e1
        exact ⟨g, e1.1⟩
    obtain ⟨v', w', hr, h2, h3, _⟩ := run_append_own (P := P) w base t o.type e i z size bytes ht hi hz hsize hby hzs hsz v n xs hown ⟨g, 0, none⟩ m c news hu.1 (own_news hu) h1 h63 hbytes hbase
    unfold Oper.wp execOp
    simp only [ho, resolve, invoke, builtin, Sem.run_bind, Sem.run_pure, Result.andThen_ok, List.map_toArray, List.map_cons, List.map_nil, hs, hx, hr]
    exact hK _ _ (h v' w' h2 h3)

theorem Below.grownRow {B : Nat} {a w w' : World} {v : Value} (h : Below B a w) (hg : w.grownBy w' v.ownBlock) (hv : ∀ k, v.ownBlock = some k → B ≤ k) (hB : B ≤ w.heap.size) : Below B a w' := h.grown hg hB hv

set_option maxRecDepth 100000 in
set_option maxHeartbeats 4000000 in
theorem join_any (B d m : Nat) (vd vm : Value) (c0 c1 : List (Int × Int)) (w : World) (hd : Blk w d #[vd] 140) (hm : Blk w m #[vm] 140) (od : w.ownsRow B 65 2 vd c0.length (instrCells c0)) (om : w.ownsRow B 65 2 vm c1.length (instrCells c1)) (h0 : c0.length ≤ 4000) (h1 : c1.length ≤ 4000) :
    Calls Tryz.prog 79 #[.pointer (some ⟨d, 0, none⟩), .pointer (some ⟨m, 0, none⟩)] w fun e w' => ∃ v, e = .returned v ∧ w'.ownsRow w.heap.size 65 2 v (c0.length + c1.length) (instrCells (c0 ++ c1.map (shiftS c0.length))) ∧ Below w.heap.size w w' := by
  obtain ⟨iI, hiI, hzI0, hzI1, hzI2⟩ := info_parts Tryz.infoInstr
  obtain ⟨ad, kd, hvd⟩ := own_shape od
  obtain ⟨am, km, hvm⟩ := own_shape om
  subst hvd
  subst hvm
  have HN := V (partNext_any d c0.length ad kd w hd (by omega))
  have hcd := hd.cell
  have hcm := hm.cell
  obtain ⟨wm, hmk, hmo, hmg⟩ := run_make_own (P := Tryz.prog) w.drew w.heap.size 33 65 iI _ 2 Tryz.underlying33 hiI hzI0 hzI1 .i64 .i64 (c0.length + c1.length) (by rw [hzI2]; omega) (by unfold maxLen; omega) (Nat.le_refl _)
  rw [Int.natCast_add] at hmk
  have hwr : IntKind.i64.wrap ((c0.length : Int) + (c1.length : Int)) = (c0.length : Int) + (c1.length : Int) := by rw [IntKind.wrap_i64]; omega
  have hdl := hd.lt
  have hml := hm.lt
  have HMO := V hmo
  have HBM : Hid (Below w.heap.size w wm) := Below.grown (Below.refl w.heap.size w).drew hmg (Nat.le_refl _) (fun k hk => by cases hk)
  have HD := V hd
  have HM := V hm
  have HOD := V od
  have HOM := V om
  have h0I : (c0.length : Int) ≤ 4000 := by omega
  have h1I : (c1.length : Int) ≤ 4000 := by omega
  clear hd hm od om hmo hmg
  go_enter Tryz.func79, Tryz.ntmps79
  go_wp2_with fail
  refine (U HN).mono ?_
  rintro e w2 ⟨rfl, hw⟩
  obtain rfl := hw.symm
  clear hw HN
  go_wp2_with fail
  go_cut [6] from 9 to 46 (fun s6 wc => ∃ v, s6 = v ∧ wc.ownsRow w.heap.size 65 2 v 0 [] ∧ Below w.heap.size w wc)
  case first =>
    go_region_law (fail)
    all_goals
      go_wp2_with fail
      go_meet
      exact ⟨_, rfl, U HMO, U HBM⟩
  case rest =>
    obtain ⟨v0, hv0, ho0, hb0⟩ := hcut
    obtain rfl := hv0.symm
    clear hv0
    have hd0 := (U HD).below hb0 hdl
    have hm0 := (U HM).below hb0 hml
    have hcd0 := hd0.cell
    have hcm0 := hm0.cell
    have od0 : wc.ownsRow B 65 2 (.slice ad c0.length kd) c0.length (instrCells c0) := ownsRow_of_block (U HOD) (fun k _ hk => hb0.block k hk)
    have HB0 := V hb0
    have HO0 := V ho0
    have HOD0 := V od0
    clear hcd hcm hmk HMO HBM hb0 ho0 od0 hd0 hm0
    go_wp2_with (at_builtin; refine wpList_append_row rfl (.tmp 23) (.tmp 27) 33 rfl w.heap.size 65 iI _ 2 16 Tryz.underlying33 hiI hzI0 hzI1 hzI2 rfl (by decide) v0 0 [] (by simp [Act.eval]) (U HO0) (.slice ad c0.length kd) B c0.length (instrCells c0) (by simp [Act.eval]) (U HOD0) (instr_oneCell _) (by unfold maxLen; omega) (by omega) (U HB0).size ?_; intro v1 w1 ho1 hg1; have hb1 := (U HB0).grown hg1 (U HB0).size (fun k hk => (ownsRow_lt (U HO0) hk).2); have hcm1 := ((U HM).below hb1 hml).cell; have HO1 := V ho1; have HB1 := V hb1; clear ho1 hg1 hb1 hcd0 hcm0)
    go_loopw [6, 34] (fun l i wr => ∃ (k : Nat) (v : Value), l = v ∧ i = .int .i64 k ∧ k ≤ c1.length ∧ wr.ownsRow w.heap.size 65 2 v (c0.length + k) (instrCells (c0 ++ (c1.take k).map (shiftS c0.length))) ∧ Below w.heap.size w wr) (fun _ i _ => c1.length - (intOf i).toNat)
    case atStart =>
      have := U HO1
      rw [Nat.zero_add, List.nil_append] at this
      exact ⟨0, v1, rfl, rfl, Nat.zero_le _, by simpa using this, U HB1⟩
    case round =>
      clear HO1 HB1 hcm1 HO0 HB0 HOD0
      obtain ⟨k, v, hv, rfl, hk, ho, hb⟩ := hrel
      obtain rfl := hv.symm
      clear hv
      have HO := V ho
      have HB := V hb
      have om1 : wr.ownsRow B 65 2 (.slice am c1.length km) c1.length (instrCells c1) := ownsRow_of_block (U HOM) (fun k _ hk => hb.block k hk)
      have hkI : (k : Int) ≤ 4000 := by omega
      by_cases hlt : k < c1.length
      · obtain ⟨g5, k5', hv5, _, hg5⟩ := om1.form (by omega)
        simp only [Value.slice.injEq, true_and] at hv5
        obtain ⟨rfl, rfl⟩ := hv5
        obtain ⟨y, hy⟩ : ∃ y, c1[k]? = some y := ⟨_, List.getElem?_eq_getElem hlt⟩
        have hx1 := own_cell om1 (k * 2) (by omega)
        have hx2 := own_cell om1 (k * 2 + 1) (by omega)
        rw [(instrCells_at _ _ _ hy).1] at hx1
        rw [(instrCells_at _ _ _ hy).2] at hx2
        have HY := V hy
        have hltI : (k : Int) < c1.length := by omega
        obtain ⟨y1, y2⟩ := y
        clear ho hb om1 hy
        simp only at hx1 hx2
        have HMV := V (moved_any y1 y2 c0.length (wr.alloc (.cells #[.int .i64 y1, .int .i64 y2] 65)))
        generalize hz : shiftS (c0.length : Int) (y1, y2) = z at HMV
        obtain ⟨z1, z2⟩ := z
        simp only at HMV
        have HZ := V hz
        clear hz
        go_wp2_with fail
        refine (U HMV).mono ?_
        rintro e w3 ⟨rfl, hb3⟩
        have hb4 : Below wr.heap.size wr w3 := ((Below.refl _ _).alloc (Nat.le_refl _) _).trans (below_less hb3 (by simp))
        have hbA : Below wr.heap.size wr (w3.alloc (.cells #[.int .i64 z1, .int .i64 z2] 65)) := hb4.alloc hb4.size _
        have ho4 : (w3.alloc (.cells #[.int .i64 z1, .int .i64 z2] 65)).ownsRow w.heap.size 65 2 v (c0.length + k) (instrCells (c0 ++ (c1.take k).map (shiftS c0.length))) := ownsRow_of_block (U HO) (fun k _ hk => hbA.block k hk)
        have HO4 := V ho4
        have HBA := V ((U HB).trans (below_less hbA (U HB).size))
        have hnb := Blk.new w3 #[.int .i64 z1, .int .i64 z2] 65
        have HNB := V hnb
        clear hb3 hb4 hbA ho4 hnb HMV hx1 hx2
        go_wp2_with (at_builtin; refine wpList_append_own _ rfl (.tmp 38) (.tmp 42) 33 rfl w.heap.size 65 iI _ 2 16 Tryz.underlying33 hiI hzI0 hzI1 hzI2 rfl (by decide) v (c0.length + k) (instrCells (c0 ++ (c1.take k).map (shiftS c0.length))) (by simp [Act.eval]) (U HO4) ⟨w3.heap.size, 0, none⟩ 1 1 [.int .i64 z1, .int .i64 z2] (by simp [Act.eval]) rfl (World.news_of_block (U HNB)) (by simp [Value.oneCell']) (by unfold maxLen; omega) (by omega) (U HBA).size ?_; intro v5 w5 ho5 hg5 _; have hb5 := (U HBA).grown hg5 (U HBA).size (fun k hk => (ownsRow_lt (U HO4) hk).2); have HO5 := V ho5; have HB5 := V hb5; clear ho5 hg5 hb5)
        go_roundw
        case rel =>
          refine ⟨k + 1, v5, rfl, by go_num, by omega, ?_, U HB5⟩
          have := U HO5
          rw [take_one _ _ _ (U HY), List.map_append, List.map_cons, List.map_nil, U HZ, ← List.append_assoc]
          have e : instrCells (c0 ++ (c1.take k).map (shiftS c0.length) ++ [(z1, z2)]) = instrCells (c0 ++ (c1.take k).map (shiftS c0.length)) ++ [.int .i64 z1, .int .i64 z2] := by simp [instrCells]
          rw [e, ← Nat.add_assoc]
          exact this
        case measure => simp [intOf]; omega
      · have hkn : k = c1.length := by omega
        subst hkn
        clear ho hb om1
        go_wp2_with fail
        go_ret
        refine ⟨v, rfl, ?_, U HB⟩
        have := U HO
        rw [List.take_length] at this
        exact this
end Go.Proofs.YtmeiikjpaepogaaGreatDoor
