/- The program's vocabulary against the reference's words; names are none of them. -/
import Derived.Test.YtmeiikjpaepogaaGreatDoorK25
import Derived.Test.YtmeiikjpaepogaaGreatDoorK11
namespace Go.Proofs.YtmeiikjpaepogaaGreatDoor
open Go Go.RowKit

theorem mean_some {s : ByteArray} {x : ByteArray × Int × Int} (h : meanS s = some x) : x ∈ vocab ∧ s = x.1 := by
  unfold meanS at h
  refine ⟨List.mem_of_find?_eq_some h, ?_⟩
  have := List.find?_some h
  have e : x.1.toList = s.toList := by simpa using this
  rw [ByteArray.toList_eq, ByteArray.toList_eq] at e
  exact (bytes_ext e).symm
theorem mean_no {s : ByteArray} (h : meanS s = none) : ∀ x ∈ vocab, x.1.data.toList ≠ s.data.toList := by
  unfold meanS at h
  intro x hx e
  have := List.find?_eq_none.1 h x hx
  rw [ByteArray.toList_eq, ByteArray.toList_eq] at this
  simp [e] at this

def plainL (l : List UInt8) : Int := match plainWords.find? (fun x => x.1.data.toList == l) with | some x => x.2 | none => -1
theorem plainS_L (s : ByteArray) : plainS s = plainL s.data.toList := by unfold plainS plainL; simp only [ByteArray.toList_eq]; rfl
def structL (l : List UInt8) : Bool := structWords.any fun t => l == t
theorem structS_L (s : ByteArray) : structS s = structL s.data.toList := by unfold structS structL; simp only [ByteArray.toList_eq]
def numL (l : List UInt8) : Option Int := if l.head? = some 45 then (numFrom l.tail 9223372036854775808).map (fun n : Nat => -(n : Int)) else (numFrom l 9223372036854775807).map (fun n : Nat => (n : Int))
theorem numS_L (s : ByteArray) : numS s = numL s.data.toList := by unfold numS numL; simp only [ByteArray.toList_eq]

def recL : List UInt8 := [114, 101, 99, 117, 114, 115, 101]
def linkB (x : ByteArray × Int × Int) : Bool :=
  let l := x.1.data.toList
  if x.2.1 = 0 then !isDefine l && !structL l && plainL l == x.2.2 && decide (0 ≤ x.2.2)
  else if x.2.1 = 1 then l == [58]
  else if x.2.1 = 2 then l == [118, 97, 114, 105, 97, 98, 108, 101]
  else if x.2.1 = 3 then l == [99, 111, 110, 115, 116, 97, 110, 116]
  else if x.2.1 = 4 then l == recL
  else if x.2.1 = 5 then l == [105, 102]
  else if x.2.1 = 6 then l == [98, 101, 103, 105, 110]
  else if x.2.1 = 7 then l == [100, 111]
  else x.2.1 == 8 && (l == [59] || (structL l && !(l == recL) && !isDefine l && !(l == [105, 102]) && !(l == [98, 101, 103, 105, 110]) && !(l == [100, 111])))
theorem link_all : vocab.all linkB = true := by decide
theorem link {s : ByteArray} {x : ByteArray × Int × Int} (h : meanS s = some x) : s = x.1 ∧ linkB x = true := by
  obtain ⟨h1, h2⟩ := mean_some h
  exact ⟨h2, List.all_eq_true.1 link_all x h1⟩
theorem vocab_bad : vocab.all (fun x => decide (0 ≤ plainL x.1.data.toList) || structL x.1.data.toList) = true := by decide
theorem struct_in : structWords.all (fun t => vocab.any fun x => x.1.data.toList == t) = true := by decide
theorem plain_in : plainWords.all (fun y => vocab.any fun x => x.1.data.toList == y.1.data.toList) = true := by decide
theorem define_in : [[58], [59], [118, 97, 114, 105, 97, 98, 108, 101], [99, 111, 110, 115, 116, 97, 110, 116], recL].all (fun t => structWords.any fun x => x == t) = true := by decide
theorem rec_num : numL recL = none := by decide
theorem rec_plain : plainL recL = -1 := by decide

theorem struct_no {s : ByteArray} (h : meanS s = none) : structL s.data.toList = false := by
  cases e : structL s.data.toList
  · rfl
  · unfold structL at e
    obtain ⟨t, ht, e⟩ := List.any_eq_true.1 e
    have := List.all_eq_true.1 struct_in t ht
    obtain ⟨x, hx, e2⟩ := List.any_eq_true.1 this
    exact absurd (by rw [beq_iff_eq] at e e2; rw [e2, e]) (mean_no h x hx)
theorem plain_no {s : ByteArray} (h : meanS s = none) : plainS s = -1 := by
  rw [plainS_L]
  unfold plainL
  cases e : plainWords.find? (fun x => x.1.data.toList == s.data.toList) with
  | none => rfl
  | some y =>
    have h1 := List.mem_of_find?_eq_some e
    have h2 := List.find?_some e
    have := List.all_eq_true.1 plain_in y h1
    obtain ⟨x, hx, e2⟩ := List.any_eq_true.1 this
    exact absurd (by rw [beq_iff_eq] at h2 e2; rw [e2, h2]) (mean_no h x hx)
theorem structL_in {l t : List UInt8} (h : structL l = false) (ht : (structWords.any fun x => x == t) = true) : (l == t) = false := by
  cases e : (l == t)
  · rfl
  · have e1 : l = t := by simpa using e
    unfold structL at h
    obtain ⟨x, hx, e2⟩ := List.any_eq_true.1 ht
    have := List.any_eq_false.1 h x hx
    rw [e1] at this
    exact absurd (by rw [beq_iff_eq] at e2 ⊢; exact e2.symm) this
theorem define_no {l : List UInt8} (h : structL l = false) : isDefine l = false ∧ (l == recL) = false := by
  have hd := define_in
  simp only [List.all_cons, List.all_nil, Bool.and_true, Bool.and_eq_true] at hd
  obtain ⟨h1, h2, h3, h4, h5⟩ := hd
  unfold isDefine
  rw [structL_in h h1, structL_in h h2, structL_in h h3, structL_in h h4, structL_in h h5]
  exact ⟨rfl, rfl⟩

theorem find_link (names : List (ByteArray × Int × Int)) (s : ByteArray) : decide (0 ≤ findS names s) = (names.find? (fun x => x.1 == s)).isSome := by
  unfold findS
  cases e : names.findIdx? (fun x => x.1 == s) with
  | none =>
    have h1 := List.findIdx?_eq_none_iff.1 e
    have : names.find? (fun x => x.1 == s) = none := List.find?_eq_none.2 (fun x hx => by have := h1 x hx; simp [this])
    rw [this]; simp
  | some k =>
    obtain ⟨hk, h1, h2⟩ := List.findIdx?_eq_some_iff_getElem.1 e
    have : names.find? (fun x => x.1 == s) = some names[k] := by
      rw [List.find?_eq_some_iff_getElem]
      exact ⟨h1, k, hk, rfl, fun j hj => by have := h2 j hj; simpa using this⟩
    rw [this]; simp
theorem find_at {names : List (ByteArray × Int × Int)} {s : ByteArray} {x : ByteArray × Int × Int} (h : names.find? (fun x => x.1 == s) = some x) : 0 ≤ findS names s ∧ names[(findS names s).toNat]? = some x := by
  obtain ⟨h1, k, hk, rfl, h2⟩ := List.find?_eq_some_iff_getElem.1 h
  have e : names.findIdx? (fun x => x.1 == s) = some k := List.findIdx?_eq_some_iff_getElem.2 ⟨hk, h1, fun j hj => by have := h2 j hj; simpa using this⟩
  unfold findS
  rw [e]
  simp

/-- A token may be a name. -/
theorem may_link (st : RS) : (!st.token.toList.isEmpty && !(meanS st.token).isSome && !(numS st.token).isSome && !(st.names.find? (fun x => x.1 == st.token)).isSome) = !badName st := by
  unfold badName
  rw [find_link]
  have hm : (decide (0 ≤ plainS st.token) || structS st.token) = (meanS st.token).isSome := by
    cases e : meanS st.token with
    | none => rw [plain_no e, structS_L, struct_no e]; rfl
    | some x =>
      obtain ⟨h1, h2⟩ := mean_some e
      have := List.all_eq_true.1 vocab_bad x h1
      rw [plainS_L, structS_L, h2]
      simpa using this
  rw [← hm]
  cases st.token.toList.isEmpty <;> cases (numS st.token).isSome <;> cases decide (0 ≤ plainS st.token) <;> cases structS st.token <;> cases (st.names.find? (fun x => x.1 == st.token)).isSome <;> rfl

/-- Names are no tokens that mean something; the word that is being defined is none yet. -/
structure NmOk (st : RS) : Prop where
  names : ∀ n ∈ st.names, meanS n.1 = none
  word : 0 ≤ st.start → meanS st.name = none ∧ st.names.find? (fun x => x.1 == st.name) = none ∧ st.name.size ≤ 2000
theorem NmOk.of {st st' : RS} (h : NmOk st) (e1 : st'.names = st.names) (e2 : st'.start = st.start) (e3 : st'.name = st.name) : NmOk st' :=
  ⟨by rw [e1]; exact h.names, by rw [e1, e2, e3]; exact h.word⟩
theorem nm_put {st : RS} (h : NmOk st) (op arg : Int) : NmOk (putS st op arg) := by unfold putS; split <;> exact h.of rfl rfl rfl
theorem nm_tell {st : RS} (h : NmOk st) (n : Nat) : NmOk (tellS st n) := by unfold tellS; split <;> exact h.of rfl rfl rfl
theorem nm_fail {st : RS} (h : NmOk st) (e : Int) : NmOk (failS st e) := by unfold failS; split <;> exact h.of rfl rfl rfl
theorem nm_step {st : RS} (h : NmOk st) : NmOk (stepS st) := h.of rfl rfl rfl
theorem nm_open {st : RS} (h : NmOk st) (x : ByteArray × Int × Int) : NmOk (openS st x) := h.of rfl rfl rfl
theorem nm_cut {st : RS} (h : NmOk st) (l : List (ByteArray × Int × Int)) : NmOk { st with opens := l } := h.of rfl rfl rfl
/-- A token that may be a name. -/
theorem good_name {st : RS} {m : Nat} (h : Inv st m) (hb : (newNameS st).err = 0) : badName (stepS st) = false ∧ newNameS st = stepS st ∧ meanS (stepS st).token = none ∧ (stepS st).names.find? (fun x => x.1 == (stepS st).token) = none ∧ (stepS st).token.size ≤ 2000 := by
  have hbad : badName (stepS st) = false := by
    cases e : badName (stepS st)
    · rfl
    · unfold newNameS at hb
      rw [e] at hb
      simp only [if_true] at hb
      unfold failS at hb
      split at hb
      · simp at hb
      · contradiction
  have hl := may_link (stepS st)
  rw [hbad] at hl
  simp only [Bool.not_false, Bool.and_eq_true, Bool.not_eq_true'] at hl
  obtain ⟨⟨⟨_, h2⟩, _⟩, h4⟩ := hl
  refine ⟨hbad, by unfold newNameS; rw [hbad]; rfl, Option.not_isSome_iff_eq_none.1 (by simp [h2]), Option.not_isSome_iff_eq_none.1 (by simp [h4]), ?_⟩
  have := stepS_token_size st
  have := h.size
  omega
theorem nm_named {st : RS} (h : NmOk st) (hs : st.start < 0) {t : ByteArray} (ht : meanS t = none) (op arg : Int) : NmOk { st with names := st.names ++ [(t, op, arg)] } := by
  refine ⟨?_, fun e => by simp at e; omega⟩
  intro n hn
  simp at hn
  rcases hn with hn | rfl
  · exact h.names n hn
  · exact ht
theorem nm_define {st : RS} {m : Nat} (hi : Inv st m) (h : NmOk st) : NmOk (defineS st) := by
  unfold defineS
  split
  · split
    · exact nm_fail h _
    · rename_i hno
      have hs : 0 ≤ st.start := by
        rcases Int.lt_or_le st.start 0 with e | e
        · exact absurd (Or.inl e) hno
        · exact e
      unfold semiS
      refine ⟨?_, fun e => by simp at e⟩
      intro n hn
      simp at hn
      rcases hn with hn | rfl
      · exact (nm_put h 4 0).names n hn
      · exact ((nm_put h 4 0).word (by unfold putS; rw [if_pos hs]; exact hs)).1
  · split
    · exact nm_fail h _
    · rename_i hno
      have hs : st.start < 0 := by
        rcases Int.lt_or_le st.start 0 with e | e
        · exact e
        · exact absurd (Or.inl e) hno
      split
      · unfold newNameS
        split
        · exact nm_fail (nm_step h) _
        · exact nm_step h
      · rename_i hok
        obtain ⟨h1, h2, h3, h4, h5⟩ := good_name hi (by omega)
        rw [h2]
        have hu := nm_step h
        split
        · exact ⟨hu.names, fun _ => ⟨h3, h4, h5⟩⟩
        · split
          · exact (nm_named hu hs h3 0 (stepS st).cells).of rfl rfl rfl
          · have hc : NmOk (constant3 (stepS st)) ∧ (constant3 (stepS st)).start < 0 := by
              unfold constant3
              split
              · exact ⟨nm_step hu, hs⟩
              · refine ⟨nm_fail (nm_step hu) _, ?_⟩
                rw [(failS_same _ _).2.1]; exact hs
            exact nm_named hc.1 hc.2 h3 0 _
theorem nm_control {st : RS} (h : NmOk st) : NmOk (controlS st) := by
  unfold controlS
  simp only
  split
  · exact nm_open (nm_put h _ _) _
  · split
    · exact nm_open h _
    · split
      · exact nm_open (nm_put h _ _) _
      · split
        · exact nm_fail h _
        · unfold closeS
          simp only
          split
          · exact nm_open (nm_tell (nm_put (nm_cut h _) _ _) _) _
          · split
            · exact nm_tell (nm_cut h _) _
            · split
              · exact nm_put (nm_cut h _) _ _
              · split
                · exact nm_open (nm_put (nm_cut h _) _ _) _
                · split
                  · exact nm_tell (nm_put (nm_cut h _) _ _) _
                  · split
                    · exact nm_put (nm_cut h _) _ _
                    · exact nm_fail h _
theorem nm_element {st : RS} (h : NmOk st) : NmOk (elementS st) := by
  unfold elementS
  split
  · exact nm_put h _ _
  · split
    · exact nm_put h _ _
    · split
      · split
        · exact nm_put h _ _
        · exact h
      · split
        · exact nm_put h _ _
        · exact nm_fail h _
theorem nm_item {st : RS} {m : Nat} (hi : Inv st m) (h : NmOk st) : NmOk (itemS st) := by
  unfold itemS
  split
  · exact nm_define hi h
  · split
    · exact nm_control h
    · exact nm_element h
theorem nm_start (s : ByteArray) : NmOk (startS s) := ⟨by simp [startS], by simp [startS]⟩

section
variable {st : RS} {x : ByteArray × Int × Int}
theorem item_op (h : meanS st.token = some x) (hk : x.2.1 = 0) : itemS st = putS st x.2.2 0 := by
  obtain ⟨h1, h2⟩ := link h
  unfold linkB at h2
  simp only [if_pos hk, Bool.and_eq_true, Bool.not_eq_true', decide_eq_true_eq, beq_iff_eq] at h2
  obtain ⟨⟨⟨a, b⟩, c⟩, d⟩ := h2
  have ep : plainS st.token = x.2.2 := by rw [plainS_L, h1, c]
  unfold itemS isControl elementS
  rw [structS_L, ByteArray.toList_eq, ep, h1, a, b]
  simp [d]
theorem item_rec (hn : NmOk st) (h : meanS st.token = some x) (hk : x.2.1 = 4) : itemS st = if 0 ≤ st.start then putS st 3 st.start else failS st 2 := by
  obtain ⟨h1, h2⟩ := link h
  unfold linkB at h2
  simp only [hk, if_neg (by decide : ¬ (4 : Int) = 0), if_neg (by decide : ¬ (4 : Int) = 1), if_neg (by decide : ¬ (4 : Int) = 2), if_neg (by decide : ¬ (4 : Int) = 3), if_true, beq_iff_eq] at h2
  have e1 : st.token.data.toList = recL := by rw [h1, h2]
  have ep : plainS st.token = -1 := by rw [plainS_L, e1, rec_plain]
  have en : numS st.token = none := by rw [numS_L, e1, rec_num]
  have ef : ¬ 0 ≤ findS st.names st.token := by
    have := find_link st.names st.token
    intro h0
    rw [decide_eq_true h0] at this
    obtain ⟨y, hy⟩ := Option.isSome_iff_exists.1 this.symm
    have h3 := hn.names y (List.mem_of_find?_eq_some hy)
    have h4 := List.find?_some hy
    rw [(beq_iff _ _).1 h4, h] at h3
    simp at h3
  have ed : isDefine st.token.toList = false := by rw [ByteArray.toList_eq, e1]; decide
  have ec : isControl st.token = false := by unfold isControl; rw [structS_L, ByteArray.toList_eq, e1]; decide
  have et : (st.token.toList == [114, 101, 99, 117, 114, 115, 101]) = true := by rw [ByteArray.toList_eq, e1]; decide
  unfold itemS elementS
  rw [ed, ec, ep, en, if_neg ef, et]
  simp
theorem item_none (h : meanS st.token = none) : itemS st = if (numS st.token).isSome then putS st 0 (numV st.token) else match st.names.find? (fun x => x.1 == st.token) with | some x => putS st x.2.1 x.2.2 | none => failS st 2 := by
  have hs := struct_no h
  have hp := plain_no h
  have hd := define_no hs
  unfold itemS isControl elementS
  rw [structS_L, ByteArray.toList_eq, hs, hd.1, hp]
  simp only [Bool.false_eq_true, if_false, Bool.false_and, if_neg (by decide : ¬ (0 : Int) ≤ -1)]
  split
  · rfl
  · cases e : st.names.find? (fun x => x.1 == st.token) with
    | some x =>
      obtain ⟨h1, h2⟩ := find_at e
      rw [if_pos h1, h2]
    | none =>
      have := find_link st.names st.token
      rw [e] at this
      have h0 : ¬ 0 ≤ findS st.names st.token := by simpa using this
      have hr : ¬ ((st.token.data.toList == [114, 101, 99, 117, 114, 115, 101]) = true ∧ 0 ≤ st.start) := fun h => by
        have := hd.2
        unfold recL at this
        rw [this] at h
        exact absurd h.1 (by simp)
      rw [if_neg h0, if_neg hr]
end
def rdrA (s : ByteArray) (k : Nat) : Array Value := #[.string s, .int .i64 k]
theorem rdr_int {w : World} {r : Nat} {s : ByteArray} {k : Nat} (h : Blk w r (rdrA s k) 192) : YtmeiikjpaepogaaGreatDoor.cellInt w r 1 = k := by
  have := h.cell 1
  simp [rdrA] at this
  simp [YtmeiikjpaepogaaGreatDoor.cellInt, this, intOf]
theorem rdr_set {w : World} {r : Nat} {s : ByteArray} {k : Nat} (h : Blk w r (rdrA s k) 192) (n k' : Nat) : Blk ((w.drewN n).setCell ⟨r, 1, none⟩ (.int .i64 ((k' : Nat) : Int))) r (rdrA s k') 192 := by
  have := (h.drewN n).set 1 (.int .i64 ((k' : Nat) : Int))
  simpa [rdrA] using this

set_option maxHeartbeats 4000000 in
theorem tokNext_any (r : Nat) (s : ByteArray) (k0 : Nat) (w : World) (h : Blk w r (rdrA s k0) 192) (hk0 : k0 ≤ s.size) (hs : s.size ≤ 2000) :
    Calls Tryz.prog 73 #[.pointer (some ⟨r, 0, none⟩)] w fun e w' => e = .returned (.tuple #[.string (s.extract (skipS s k0) (wordS s (skipS s k0))), .int .i64 (skipS s k0)]) ∧ Blk w' r (rdrA s (wordS s (skipS s k0))) 192 ∧ Still w w' (fun j => j = r) := by
  have hsz : (s.size : Int) ≤ 2000 := by omega
  go_enter Tryz.func73, Tryz.ntmps73
  go_wp2_with fail
  go_loopw [] (fun wr => ∃ k : Nat, k ≤ s.size ∧ skipS s k = skipS s k0 ∧ Blk wr r (rdrA s k) 192 ∧ Still w wr (fun j => j = r)) (fun wr => s.size - (YtmeiikjpaepogaaGreatDoor.cellInt wr r 1).toNat)
  case atStart => exact ⟨k0, hk0, rfl, h, Still.refl _ _⟩
  case round =>
    clear h
    obtain ⟨k, hk, hsk, hr, hst⟩ := hrel
    have HS := V hsk
    have hm0 := rdr_int hr
    have HM := V hm0
    have HR := V hr
    have HST := V hst
    have hc := hr.cell
    have hf := hr.free
    unfold rdrA at hc
    clear hsk hm0 hr hst
    by_cases hgo : ∃ hlt : k < s.size, gapB s[k] = true
    · obtain ⟨hlt, hg⟩ := hgo
      have hl : decide ((k : Int) < s.size) = true := by simpa using hlt
      have HG := V hg
      have HI : Hid (∀ W : World, Calls Tryz.prog 141 #[.int .u8 (s[k].toNat : Int)] W fun e w' => e = .returned (.bool true) ∧ w' = W) := fun W => by
        have := isGap_any s[k] W
        rw [hg] at this
        exact this
      clear hg
      go_wp2_with fail
      go_quiet ((go_at_call 141; exact Calls.quiet_of_same (U HI _)))
      go_wp2_with fail
      go_roundw
      case rel => exact ⟨k + 1, by omega, by rw [← U HS]; unfold skipS; rw [scan_go _ _ _ hlt (U HG)], by have := rdr_set (U HR) nq (k + 1); simpa using this, ((U HST).drewN nq).set (Or.inl rfl) _ _⟩
      case measure =>
        have e1 := rdr_int (rdr_set (U HR) nq (k + 1))
        rw [U HM]
        simp only [Int.natCast_add, Int.cast_ofNat_Int] at e1
        rw [e1]
        simp; omega
    · have hsame : skipS s k0 = k := by
        rw [← U HS]
        unfold skipS
        by_cases hlt : k < s.size
        · exact scan_stop _ _ _ hlt (by simpa using fun e => hgo ⟨hlt, e⟩)
        · exact scan_end _ _ _ hlt
      have HK := V hsame
      clear hsame
      have HI : Hid (∀ (hlt : k < s.size) (W : World), Calls Tryz.prog 141 #[.int .u8 (s[k].toNat : Int)] W fun e w' => e = .returned (.bool false) ∧ w' = W) := fun hlt W => by
        have := isGap_any s[k] W
        have e : gapB s[k] = false := by simpa using fun e => hgo ⟨hlt, e⟩
        rw [e] at this
        exact this
      clear hgo
      have hex : (decide (k < s.size) = false) ∨ (k < s.size ∧ decide ((k : Int) < s.size) = true) := by
        by_cases hlt : k < s.size
        · exact Or.inr ⟨hlt, by simpa using hlt⟩
        · exact Or.inl (by simpa using hlt)
      rcases hex with hl | ⟨hlt, hl⟩
      · go_wp2_with fail
        go_quiet (fail)
        go_wp2_with fail
        go_loopw [] (fun wr' => ∃ k' : Nat, k' ≤ s.size ∧ wordS s k' = wordS s k ∧ Blk wr' r (rdrA s k') 192 ∧ Still w wr' (fun j => j = r)) (fun wr' => s.size - (YtmeiikjpaepogaaGreatDoor.cellInt wr' r 1).toNat)
        case atStart => exact ⟨k, hk, rfl, (U HR).drewN nq, (U HST).drewN nq⟩
        case round =>
          clear hc hf hl
          obtain ⟨k', hk', hsk', hr', hst'⟩ := hrel
          have HS' := V hsk'
          have hm0' := rdr_int hr'
          have HM' := V hm0'
          have HR' := V hr'
          have HST' := V hst'
          have hc' := hr'.cell
          have hf' := hr'.free
          unfold rdrA at hc'
          clear hsk' hm0' hr' hst'
          by_cases hgo' : ∃ hlt' : k' < s.size, gapB s[k'] = false
          · obtain ⟨hlt', hg'⟩ := hgo'
            have hl' : decide ((k' : Int) < s.size) = true := by simpa using hlt'
            have HG' := V hg'
            have HI' : Hid (∀ W : World, Calls Tryz.prog 141 #[.int .u8 (s[k'].toNat : Int)] W fun e w' => e = .returned (.bool false) ∧ w' = W) := fun W => by
              have := isGap_any s[k'] W
              rw [hg'] at this
              exact this
            clear hg'
            go_wp2_with fail
            go_quiet ((go_at_call 141; exact Calls.quiet_of_same (U HI' _)))
            go_wp2_with fail
            go_roundw
            case rel => exact ⟨k' + 1, by omega, by rw [← U HS']; unfold wordS; rw [scan_go _ _ _ hlt' (by simp [U HG'])], by have := rdr_set (U HR') nq (k' + 1); simpa using this, ((U HST').drewN nq).set (Or.inl rfl) _ _⟩
            case measure =>
              have e1 := rdr_int (rdr_set (U HR') nq (k' + 1))
              rw [U HM']
              simp only [Int.natCast_add, Int.cast_ofNat_Int] at e1
              rw [e1]
              simp; omega
          · have hsame' : wordS s k = k' := by
              rw [← U HS']
              unfold wordS
              by_cases hlt' : k' < s.size
              · exact scan_stop _ _ _ hlt' (by simpa using fun e => hgo' ⟨hlt', e⟩)
              · exact scan_end _ _ _ hlt'
            have hkk : k ≤ k' := by
              rw [← hsame']
              exact (scan_le s (fun b => !gapB b) (s.size - k) k hk).1
            have HK' := V hsame'
            clear hsame'
            have HI' : Hid (∀ (hlt' : k' < s.size) (W : World), Calls Tryz.prog 141 #[.int .u8 (s[k'].toNat : Int)] W fun e w' => e = .returned (.bool true) ∧ w' = W) := fun hlt' W => by
              have := isGap_any s[k'] W
              have e : gapB s[k'] = true := by simpa using fun e => hgo' ⟨hlt', e⟩
              rw [e] at this
              exact this
            clear hgo'
            have hex' : (decide (k' < s.size) = false) ∨ (k' < s.size ∧ decide ((k' : Int) < s.size) = true) := by
              by_cases hlt' : k' < s.size
              · exact Or.inr ⟨hlt', by simpa using hlt'⟩
              · exact Or.inl (by simpa using hlt')
            have hkkI : (k : Int) ≤ k' := by omega
            have hk'I : (k' : Int) ≤ s.size := by omega
            rcases hex' with hl' | ⟨hlt', hl'⟩
            · go_wp2_with fail
              go_quiet (fail)
              go_wp2_with fail
              go_quiet (fail)
              go_wp2_with fail
              go_ret2
              rw [U HK, U HK']
              exact ⟨rfl, ((U HR').drewN _).drewN _, ((U HST').drewN _).drewN _⟩
            · go_wp2_with fail
              go_quiet ((go_at_call 141; exact Calls.quiet_of_same (U HI' hlt' _)))
              go_wp2_with fail
              go_quiet (fail)
              go_wp2_with fail
              go_ret2
              rw [U HK, U HK']
              exact ⟨rfl, ((U HR').drewN _).drewN _, ((U HST').drewN _).drewN _⟩
      · go_wp2_with fail
        go_quiet ((go_at_call 141; exact Calls.quiet_of_same (U HI hlt _)))
        go_wp2_with fail
        go_loopw [] (fun wr' => ∃ k' : Nat, k' ≤ s.size ∧ wordS s k' = wordS s k ∧ Blk wr' r (rdrA s k') 192 ∧ Still w wr' (fun j => j = r)) (fun wr' => s.size - (YtmeiikjpaepogaaGreatDoor.cellInt wr' r 1).toNat)
        case atStart => exact ⟨k, hk, rfl, (U HR).drewN nq, (U HST).drewN nq⟩
        case round =>
          clear hc hf hl
          obtain ⟨k', hk', hsk', hr', hst'⟩ := hrel
          have HS' := V hsk'
          have hm0' := rdr_int hr'
          have HM' := V hm0'
          have HR' := V hr'
          have HST' := V hst'
          have hc' := hr'.cell
          have hf' := hr'.free
          unfold rdrA at hc'
          clear hsk' hm0' hr' hst'
          by_cases hgo' : ∃ hlt' : k' < s.size, gapB s[k'] = false
          · obtain ⟨hlt', hg'⟩ := hgo'
            have hl' : decide ((k' : Int) < s.size) = true := by simpa using hlt'
            have HG' := V hg'
            have HI' : Hid (∀ W : World, Calls Tryz.prog 141 #[.int .u8 (s[k'].toNat : Int)] W fun e w' => e = .returned (.bool false) ∧ w' = W) := fun W => by
              have := isGap_any s[k'] W
              rw [hg'] at this
              exact this
            clear hg'
            go_wp2_with fail
            go_quiet ((go_at_call 141; exact Calls.quiet_of_same (U HI' _)))
            go_wp2_with fail
            go_roundw
            case rel => exact ⟨k' + 1, by omega, by rw [← U HS']; unfold wordS; rw [scan_go _ _ _ hlt' (by simp [U HG'])], by have := rdr_set (U HR') nq (k' + 1); simpa using this, ((U HST').drewN nq).set (Or.inl rfl) _ _⟩
            case measure =>
              have e1 := rdr_int (rdr_set (U HR') nq (k' + 1))
              rw [U HM']
              simp only [Int.natCast_add, Int.cast_ofNat_Int] at e1
              rw [e1]
              simp; omega
          · have hsame' : wordS s k = k' := by
              rw [← U HS']
              unfold wordS
              by_cases hlt' : k' < s.size
              · exact scan_stop _ _ _ hlt' (by simpa using fun e => hgo' ⟨hlt', e⟩)
              · exact scan_end _ _ _ hlt'
            have hkk : k ≤ k' := by
              rw [← hsame']
              exact (scan_le s (fun b => !gapB b) (s.size - k) k hk).1
            have HK' := V hsame'
            clear hsame'
            have HI' : Hid (∀ (hlt' : k' < s.size) (W : World), Calls Tryz.prog 141 #[.int .u8 (s[k'].toNat : Int)] W fun e w' => e = .returned (.bool true) ∧ w' = W) := fun hlt' W => by
              have := isGap_any s[k'] W
              have e : gapB s[k'] = true := by simpa using fun e => hgo' ⟨hlt', e⟩
              rw [e] at this
              exact this
            clear hgo'
            have hex' : (decide (k' < s.size) = false) ∨ (k' < s.size ∧ decide ((k' : Int) < s.size) = true) := by
              by_cases hlt' : k' < s.size
              · exact Or.inr ⟨hlt', by simpa using hlt'⟩
              · exact Or.inl (by simpa using hlt')
            have hkkI : (k : Int) ≤ k' := by omega
            have hk'I : (k' : Int) ≤ s.size := by omega
            rcases hex' with hl' | ⟨hlt', hl'⟩
            · go_wp2_with fail
              go_quiet (fail)
              go_wp2_with fail
              go_quiet (fail)
              go_wp2_with fail
              go_ret2
              rw [U HK, U HK']
              exact ⟨rfl, ((U HR').drewN _).drewN _, ((U HST').drewN _).drewN _⟩
            · go_wp2_with fail
              go_quiet ((go_at_call 141; exact Calls.quiet_of_same (U HI' hlt' _)))
              go_wp2_with fail
              go_quiet (fail)
              go_wp2_with fail
              go_ret2
              rw [U HK, U HK']
              exact ⟨rfl, ((U HR').drewN _).drewN _, ((U HST').drewN _).drewN _⟩
end Go.Proofs.YtmeiikjpaepogaaGreatDoor
