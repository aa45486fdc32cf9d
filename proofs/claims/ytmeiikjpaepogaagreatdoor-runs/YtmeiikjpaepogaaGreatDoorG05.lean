/- The reference's Reader: pop. -/
import Derived.Test.YtmeiikjpaepogaaGreatDoorG02
import Derived.Test.YtmeiikjpaepogaaGreatDoorG03
namespace Go.Proofs.YtmeiikjpaepogaaGreatDoor
open Go Go.RowKit

theorem nameCells_take (l : List (ByteArray × Int × Int)) (x : ByteArray × Int × Int) : (nameCells (l ++ [x])).take (l.length * 3) = nameCells l := by
  have : nameCells (l ++ [x]) = nameCells l ++ nameCells [x] := by simp [nameCells]
  rw [this, List.take_append_of_le_length (by rw [nameCells_length]; omega), List.take_of_length_le (by rw [nameCells_length]; omega)]

theorem Rd.cut7 {B : Nat} {w : World} {b : Nat} {st : RS} {v4 v5 v6 v11 : Value} {g k7 m : Nat} (h : Rd B w b st v4 v5 v6 (.slice (some ⟨g, 0, none⟩) m k7) v11) (l : List (ByteArray × Int × Int)) (x : ByteArray × Int × Int) (he : st.opens = l ++ [x]) (hm : st.opens.length = m) :
    Rd B (w.setCell ⟨b, 7, none⟩ (.slice (some ⟨g, 0, none⟩) l.length k7)) b { st with opens := l } v4 v5 v6 (.slice (some ⟨g, 0, none⟩) l.length k7) v11 := by
  subst hm
  have hn : st.opens.length = l.length + 1 := by rw [he]; simp
  have hown := own_cut h.o7 l.length (by omega)
  rw [he, nameCells_take] at hown
  refine ⟨?_, h.base, ?_, by have := h.small; simp; omega⟩
  · have := h.blk.set 7 (.slice (some ⟨g, 0, none⟩) l.length k7)
    simpa [rdArr] using this
  · have := (h.owned.grow 3 _ (.slice (some ⟨g, 0, none⟩) l.length k7) ⟨225, 3, l.length, nameCells l⟩ rfl (by have := h.blk.lt; simpa using this) (World.grownBy.refl _ _) hown (Or.inl rfl)).set (b := b) (by simp) 7 (.slice (some ⟨g, 0, none⟩) l.length k7)
    simpa [rdRows] using this

set_option maxHeartbeats 400000 in
theorem pop_any (B b : Nat) (st : RS) (v4 v5 v6 v7 v11 : Value) (w : World) (h : Rd B w b st v4 v5 v6 v7 v11) (l : List (ByteArray × Int × Int)) (x : ByteArray × Int × Int) (he : st.opens = l ++ [x]) :
    Calls Tryz.prog 177 #[.pointer (some ⟨b, 0, none⟩)] w fun e w' => e = .returned (.agg #[.string x.1, .int .i64 x.2.1, .int .i64 x.2.2]) ∧ RdE B w' b { st with opens := l } ∧ Below B w w' := by
  have hn : st.opens.length = l.length + 1 := by rw [he]; simp
  obtain ⟨g, k7, rfl, hg, hgl⟩ := h.o7.form (by omega)
  have hb := h.blk
  have hlt := hb.lt
  unfold rdArr at hb
  have ho := h.o7
  rw [hn] at hb ho
  have hx0 := own_cell ho (l.length * 3) (by omega)
  have hx1 := own_cell ho (l.length * 3 + 1) (by omega)
  have hx2 := own_cell ho (l.length * 3 + 2) (by omega)
  rw [he, (nameCells_at (l ++ [x]) l.length x (by simp)).1] at hx0
  rw [he, (nameCells_at (l ++ [x]) l.length x (by simp)).2.1] at hx1
  rw [he, (nameCells_at (l ++ [x]) l.length x (by simp)).2.2] at hx2
  have hs : (l.length : Int) ≤ 4000 := by have := h.small; omega
  have hk : (l.length : Int) + 1 ≤ k7 := by have := (own_cap ho).1; omega
  have hc := hb.cell
  have hf := hb.free
  clear hb ho
  go_enter Tryz.func177, Tryz.ntmps177
  go_wp2_with fail
  go_region
  go_wp2
  go_region
  go_wp2
  refine bodyPost_ret (v := .agg #[.string x.1, .int .i64 x.2.1, .int .i64 x.2.2]) (by simp [results, Tryz.results177, go_sem]) rfl ⟨rfl, ?_, ?_⟩
  · exact ⟨_, _, _, _, _, ((((h.cut7 l x he rfl).alloc _).alloc _).drew).drew⟩
  · have hB : B ≤ w.heap.size := by have := h.base; omega
    exact (((((Below.refl B w).setCell h.base _).alloc (by simpa using hB) _).alloc (by simp; omega) _).drew).drew

end Go.Proofs.YtmeiikjpaepogaaGreatDoor

/- The reference's Reader: step. -/
namespace Go.Proofs.YtmeiikjpaepogaaGreatDoor
open Go Go.RowKit

def gapB (b : UInt8) : Bool := b == 32 || b == 10

/-- The first place from i on whose byte is not as p says, or the end. -/
def scan (s : ByteArray) (p : UInt8 → Bool) : Nat → Nat → Nat
  | 0, i => i
  | f + 1, i => if h : i < s.size then (if p s[i] then scan s p f (i + 1) else i) else i

theorem scan_le (s : ByteArray) (p : UInt8 → Bool) (f i : Nat) (h : i ≤ s.size) : i ≤ scan s p f i ∧ scan s p f i ≤ s.size := by
  induction f generalizing i with
  | zero => exact ⟨Nat.le_refl _, h⟩
  | succ f ih =>
    unfold scan
    split
    · split
      · have := ih (i + 1) (by omega); omega
      · omega
    · omega
theorem scan_go (s : ByteArray) (p : UInt8 → Bool) (k : Nat) (h : k < s.size) (hp : p s[k] = true) : scan s p (s.size - k) k = scan s p (s.size - (k + 1)) (k + 1) := by
  have e : s.size - k = (s.size - (k + 1)) + 1 := by omega
  rw [e, scan]
  simp [h, hp]
theorem scan_stop (s : ByteArray) (p : UInt8 → Bool) (k : Nat) (h : k < s.size) (hp : p s[k] = false) : scan s p (s.size - k) k = k := by
  have e : s.size - k = (s.size - (k + 1)) + 1 := by omega
  rw [e, scan]
  simp [h, hp]
theorem scan_end (s : ByteArray) (p : UInt8 → Bool) (k : Nat) (h : ¬ k < s.size) : scan s p (s.size - k) k = k := by
  have e : s.size - k = 0 := by omega
  rw [e, scan]

def skipS (s : ByteArray) (i : Nat) : Nat := scan s gapB (s.size - i) i
def wordS (s : ByteArray) (i : Nat) : Nat := scan s (fun b => !gapB b) (s.size - i) i
def stepS (st : RS) : RS := { st with next := wordS st.s (skipS st.s st.next), place0 := skipS st.s st.next, token := st.s.extract (skipS st.s st.next) (wordS st.s (skipS st.s st.next)) }

theorem Rd.next {B : Nat} {w : World} {b : Nat} {st : RS} {v4 v5 v6 v7 v11 : Value} (h : Rd B w b st v4 v5 v6 v7 v11) (k : Nat) : Rd B (w.setCell ⟨b, 1, none⟩ (.int .i64 k)) b { st with next := k } v4 v5 v6 v7 v11 :=
  h.set 1 _ _ (by simp [rdArr]) rfl ⟨rfl, rfl, rfl, rfl, rfl, rfl⟩

theorem Rd.at2 {B : Nat} {w : World} {b : Nat} {st : RS} {v4 v5 v6 v7 v11 : Value} (h : Rd B w b st v4 v5 v6 v7 v11) : Rd B (w.setCell ⟨b, 2, none⟩ (.int .i64 st.next)) b { st with place0 := st.next } v4 v5 v6 v7 v11 :=
  h.set 2 _ _ (by simp [rdArr]) rfl ⟨rfl, rfl, rfl, rfl, rfl, rfl⟩

theorem Rd.tok3 {B : Nat} {w : World} {b : Nat} {st : RS} {v4 v5 v6 v7 v11 : Value} (h : Rd B w b st v4 v5 v6 v7 v11) (t : ByteArray) : Rd B (w.setCell ⟨b, 3, none⟩ (.string t)) b { st with token := t } v4 v5 v6 v7 v11 :=
  h.set 3 _ _ (by simp [rdArr]) rfl ⟨rfl, rfl, rfl, rfl, rfl, rfl⟩

def cellInt (w : World) (b i : Nat) : Int := match w.cell? ⟨b, i, none⟩ with | some v => intOf v | none => 0
theorem Rd.cellInt {B : Nat} {w : World} {b : Nat} {st : RS} {v4 v5 v6 v7 v11 : Value} (h : Rd B w b st v4 v5 v6 v7 v11) : cellInt w b 1 = st.next := by
  have := h.blk.cell 1
  simp [rdArr] at this
  simp [YtmeiikjpaepogaaGreatDoor.cellInt, this, intOf]

theorem byte_eq (b : UInt8) (n : Nat) (hn : n < 256) : ((b.toNat : Int) == (n : Int)) = (b == UInt8.ofNat n) := by
  rw [Bool.eq_iff_iff]
  simp only [beq_iff_eq]
  constructor
  · intro h
    have h' : b.toNat = n := by exact_mod_cast h
    rw [← h']
    simp
  · intro h
    rw [h]
    simp [Nat.mod_eq_of_lt hn]

theorem gap_yes (b : UInt8) (h : gapB b = true) : ((b.toNat : Int) == 32) = true ∨ ((b.toNat : Int) == 32) = false ∧ ((b.toNat : Int) == 10) = true := by
  have e1 := byte_eq b 32 (by omega)
  have e2 := byte_eq b 10 (by omega)
  rw [show ((32 : Nat) : Int) = 32 from rfl] at e1
  rw [show ((10 : Nat) : Int) = 10 from rfl] at e2
  rw [e1, e2]
  unfold gapB at h
  cases h1 : (b == UInt8.ofNat 32)
  · right
    rw [show (b == 32) = (b == UInt8.ofNat 32) from rfl, h1] at h
    exact ⟨rfl, by simpa using h⟩
  · left; rfl
theorem gap_no (b : UInt8) (h : ¬ gapB b = true) : ((b.toNat : Int) == 32) = false ∧ ((b.toNat : Int) == 10) = false := by
  have e1 := byte_eq b 32 (by omega)
  have e2 := byte_eq b 10 (by omega)
  rw [show ((32 : Nat) : Int) = 32 from rfl] at e1
  rw [show ((10 : Nat) : Int) = 10 from rfl] at e2
  rw [e1, e2]
  unfold gapB at h
  simp only [Bool.or_eq_true, not_or, Bool.not_eq_true] at h
  exact h

theorem word_yes (b : UInt8) (h : gapB b = false) : ((b.toNat : Int) != 32) = true ∧ ((b.toNat : Int) != 10) = true := by
  obtain ⟨h1, h2⟩ := gap_no b (by rw [h]; simp)
  unfold bne
  rw [h1, h2]
  exact ⟨rfl, rfl⟩
theorem word_no (b : UInt8) (h : ¬ gapB b = false) : ((b.toNat : Int) != 32) = false ∨ ((b.toNat : Int) != 32) = true ∧ ((b.toNat : Int) != 10) = false := by
  unfold bne
  rcases gap_yes b (by cases e : gapB b <;> simp_all) with h1 | ⟨h1, h2⟩
  · left; rw [h1]; rfl
  · right; rw [h1, h2]; exact ⟨rfl, rfl⟩

set_option maxHeartbeats 2000000 in
theorem step_rd (B b : Nat) (st : RS) (v4 v5 v6 v7 v11 : Value) (w : World) (h : Rd B w b st v4 v5 v6 v7 v11) (hnx : st.next ≤ st.s.size) :
    Calls Tryz.prog 125 #[.pointer (some ⟨b, 0, none⟩)] w fun e w' => e = .returned (.tuple #[]) ∧ Rd B w' b (stepS st) v4 v5 v6 v7 v11 ∧ Below B w w' := by
  have hsz : (st.s.size : Int) ≤ 2000 := by have := h.small; omega
  go_enter Tryz.func125, Tryz.ntmps125
  go_wp2_with fail
  go_loopw [] (fun wr => ∃ k : Nat, k ≤ st.s.size ∧ skipS st.s k = skipS st.s st.next ∧ Rd B wr b { st with next := k } v4 v5 v6 v7 v11 ∧ Below B w wr) (fun wr => st.s.size - (YtmeiikjpaepogaaGreatDoor.cellInt wr b 1).toNat)
  case atStart => exact ⟨st.next, hnx, rfl, h, Below.refl _ _⟩
  case round =>
    obtain ⟨k, hk, hsk, hr, hbel⟩ := hrel
    have HS := hide hsk
    clear hsk
    have hm0 := hr.cellInt
    have HM := hide hm0
    clear hm0
    have hb := hr.blk
    unfold rdArr at hb
    have hc := hb.cell
    have hf := hb.free
    clear hb
    by_cases hgo : ∃ hlt : k < st.s.size, gapB st.s[k] = true
    · obtain ⟨hlt, hg⟩ := hgo
      have hl : decide ((k : Int) < st.s.size) = true := by simpa using hlt
      have HG := hide hg
      have h2 := gap_yes _ hg
      clear hg
      rcases h2 with e32 | ⟨e32, e10⟩
      all_goals
        go_wp2_with fail
        go_quiet (fail)
        go_wp2_with fail
        go_roundw
        case rel => exact ⟨k + 1, by omega, by rw [← unhide HS]; unfold skipS; rw [scan_go _ _ _ hlt (unhide HG)], by have := (hr.drewN nq).next (k + 1); simpa using this, (below_drawn hbel nq).setCell hr.base _⟩
        case measure =>
          have e1 := ((hr.drewN nq).next (k + 1)).cellInt
          rw [unhide HM]
          simp only [Int.natCast_add, Int.cast_ofNat_Int] at e1
          rw [e1]
          simp; omega
    · have hsame : skipS st.s st.next = k := by
        rw [← unhide HS]
        unfold skipS
        by_cases hlt : k < st.s.size
        · exact scan_stop _ _ _ hlt (by simpa using fun e => hgo ⟨hlt, e⟩)
        · exact scan_end _ _ _ hlt
      have HK := hide hsame
      clear hsame
      have hex : (decide (k < st.s.size) = false) ∨ (∃ hlt : k < st.s.size, decide ((k : Int) < st.s.size) = true ∧ ((st.s[k].toNat : Int) == 32) = false ∧ ((st.s[k].toNat : Int) == 10) = false) := by
        by_cases hlt : k < st.s.size
        · exact Or.inr ⟨hlt, by simpa using hlt, gap_no _ (fun e => hgo ⟨hlt, e⟩)⟩
        · exact Or.inl (by simpa using hlt)
      clear hgo
      rcases hex with hl | ⟨hlt, hl, e32, e10⟩
      all_goals
        go_wp2_with fail
        go_quiet (fail)
        go_wp2_with fail
        have hr2 := (hr.drewN nq).at2
        have hb2 := below_drawn hbel nq
        go_loopw [] (fun wr' => ∃ k' : Nat, k' ≤ st.s.size ∧ wordS st.s k' = wordS st.s k ∧ Rd B wr' b { st with next := k', place0 := k } v4 v5 v6 v7 v11 ∧ Below B w wr') (fun wr' => st.s.size - (YtmeiikjpaepogaaGreatDoor.cellInt wr' b 1).toNat)
        case atStart => exact ⟨k, hk, rfl, hr2, hb2.setCell hr.base _⟩
        case round =>
          clear hc hf hr2 hb2 hl
          obtain ⟨k', hk', hsk', hr', hbel'⟩ := hrel
          have HS' := hide hsk'
          clear hsk'
          have hm0' := hr'.cellInt
          have HM' := hide hm0'
          clear hm0'
          have hb' := hr'.blk
          unfold rdArr at hb'
          have hc' := hb'.cell
          have hf' := hb'.free
          clear hb'
          by_cases hgo' : ∃ hlt' : k' < st.s.size, gapB st.s[k'] = false
          · obtain ⟨hlt', hg'⟩ := hgo'
            have hl' : decide (k' < st.s.size) = true := by simpa using hlt'
            have HG' := hide hg'
            obtain ⟨f32, f10⟩ := word_yes _ hg'
            clear hg'
            go_wp2_with fail
            go_quiet (fail)
            go_wp2_with fail
            go_roundw
            case rel => exact ⟨k' + 1, by omega, by rw [← unhide HS']; unfold wordS; rw [scan_go _ _ _ hlt' (by simp [unhide HG'])], by have := (hr'.drewN nq).next (k' + 1); simpa using this, (below_drawn hbel' nq).setCell hr'.base _⟩
            case measure =>
              have e1 := ((hr'.drewN nq).next (k' + 1)).cellInt
              rw [unhide HM']
              simp only [Int.natCast_add, Int.cast_ofNat_Int] at e1
              rw [e1]
              simp; omega
          · have hsame' : wordS st.s k = k' := by
              rw [← unhide HS']
              unfold wordS
              by_cases hlt' : k' < st.s.size
              · exact scan_stop _ _ _ hlt' (by simpa using fun e => hgo' ⟨hlt', e⟩)
              · exact scan_end _ _ _ hlt'
            have HK' := hide hsame'
            clear hsame'
            have hex' : (decide (k' < st.s.size) = false) ∨ (∃ hlt' : k' < st.s.size, decide (k' < st.s.size) = true ∧ (((st.s[k'].toNat : Int) != 32) = false ∨ ((st.s[k'].toNat : Int) != 32) = true ∧ ((st.s[k'].toNat : Int) != 10) = false)) := by
              by_cases hlt' : k' < st.s.size
              · exact Or.inr ⟨hlt', by simpa using hlt', word_no _ (fun e => hgo' ⟨hlt', e⟩)⟩
              · exact Or.inl (by simpa using hlt')
            clear hgo'
            have hkk : (k : Int) ≤ k' := by
              have := (scan_le st.s (fun b => !gapB b) (st.s.size - k) k hk).1
              have e := unhide HK'
              unfold wordS at e
              omega
            have hks : (k' : Int) ≤ st.s.size := by omega
            rcases hex' with hl' | ⟨hlt', hl', f32 | ⟨f32, f10⟩⟩
            all_goals
              go_wp2_with fail
              go_quiet (fail)
              go_wp2_with fail
              go_region
              go_wp2
              go_end0
              have e : stepS st = { st with next := k', place0 := k, token := st.s.extract k k' } := by unfold stepS; rw [unhide HK, unhide HK']
              rw [e]
              exact ⟨rfl, (hr'.drewN nq).drew.tok3 _, ((below_drawn hbel' nq).drew).setCell hr'.base _⟩

theorem step_any (B b : Nat) (st : RS) (w : World) (h : RdE B w b st) (hnx : st.next ≤ st.s.size) :
    Calls Tryz.prog 125 #[.pointer (some ⟨b, 0, none⟩)] w fun e w' => e = .returned (.tuple #[]) ∧ RdE B w' b (stepS st) ∧ Below B w w' := by
  obtain ⟨v4, v5, v6, v7, v11, h⟩ := h
  refine (step_rd B b st v4 v5 v6 v7 v11 w h hnx).mono ?_
  rintro e w' ⟨rfl, hr, hb⟩
  exact ⟨rfl, ⟨_, _, _, _, _, hr⟩, hb⟩

end Go.Proofs.YtmeiikjpaepogaaGreatDoor

/- The reference's structure, plain, number. -/
namespace Go.Proofs.YtmeiikjpaepogaaGreatDoor
open Go Go.RowKit

def structWords : List (List UInt8) := [[58], [59], [118, 97, 114, 105, 97, 98, 108, 101], [99, 111, 110, 115, 116, 97, 110, 116], [114, 101, 99, 117, 114, 115, 101], [105, 102], [101, 108, 115, 101], [116, 104, 101, 110], [98, 101, 103, 105, 110], [117, 110, 116, 105, 108], [119, 104, 105, 108, 101], [114, 101, 112, 101, 97, 116], [100, 111], [108, 111, 111, 112]]
def structS (s : ByteArray) : Bool := structWords.any fun t => s.toList == t

set_option maxHeartbeats 1000000 in
theorem structure_any (s : ByteArray) (w : World) :
    Calls Tryz.prog 126 #[.string s] w fun e w' => e = .returned (.bool (structS s)) ∧ w' = w := by
  go_enter Tryz.func126, Tryz.ntmps126
  go_wp2
  all_goals (go_ret; refine ⟨ret_bool ?_, rfl⟩; simp_all [structS, structWords])

end Go.Proofs.YtmeiikjpaepogaaGreatDoor

/- The reference's plain. -/
namespace Go.Proofs.YtmeiikjpaepogaaGreatDoor
open Go Go.RowKit

def plainWords : List (ByteArray × Int) := [(⟨#[43]⟩, 9), (⟨#[45]⟩, 10), (⟨#[42]⟩, 11), (⟨#[47]⟩, 12), (⟨#[109, 111, 100]⟩, 13), (⟨#[97, 110, 100]⟩, 14), (⟨#[111, 114]⟩, 15), (⟨#[120, 111, 114]⟩, 16), (⟨#[105, 110, 118, 101, 114, 116]⟩, 17), (⟨#[110, 101, 103, 97, 116, 101]⟩, 18), (⟨#[61]⟩, 19), (⟨#[60]⟩, 20), (⟨#[100, 117, 112]⟩, 21), (⟨#[100, 114, 111, 112]⟩, 22), (⟨#[115, 119, 97, 112]⟩, 23), (⟨#[111, 118, 101, 114]⟩, 24), (⟨#[114, 111, 116]⟩, 25), (⟨#[62, 114]⟩, 26), (⟨#[114, 62]⟩, 27), (⟨#[114, 64]⟩, 28), (⟨#[33]⟩, 29), (⟨#[64]⟩, 30), (⟨#[101, 109, 105, 116]⟩, 31), (⟨#[46]⟩, 32), (⟨#[105]⟩, 8)]
def plainS (s : ByteArray) : Int := match plainWords.find? (fun x => x.1.toList == s.toList) with | some x => x.2 | none => -1

def wordsArr : Array Value := (plainWords.map fun x => Value.string x.1).toArray
def opsArr : Array Value := (plainWords.map fun x => Value.int .i64 x.2).toArray

theorem wordsArr_at (k : Nat) (h : k < 25) : ∃ x, plainWords[k]? = some x ∧ wordsArr[k]? = some (.string x.1) ∧ opsArr[k]? = some (.int .i64 x.2) := by
  have hl : k < plainWords.length := h
  refine ⟨plainWords[k], List.getElem?_eq_getElem hl, ?_, ?_⟩
  · simp [wordsArr, List.getElem?_eq_getElem hl]
  · simp [opsArr, List.getElem?_eq_getElem hl]

theorem plain_found (s : ByteArray) (k : Nat) (x : ByteArray × Int) (hx : plainWords[k]? = some x) (he : (x.1.toList == s.toList) = true) (hn : ∀ (j : Nat) (y : ByteArray × Int), j < k → plainWords[j]? = some y → (y.1.toList == s.toList) = false) : plainS s = x.2 := by
  obtain ⟨hlt, hx'⟩ := List.getElem?_eq_some_iff.1 hx
  have : plainWords.find? (fun x => x.1.toList == s.toList) = some x := by
    rw [List.find?_eq_some_iff_getElem]
    refine ⟨he, k, hlt, hx', ?_⟩
    intro j hj
    rw [hn j plainWords[j] hj (List.getElem?_eq_getElem (by omega))]
    rfl
  unfold plainS
  rw [this]
theorem plain_none (s : ByteArray) (hn : ∀ (j : Nat) (y : ByteArray × Int), j < 25 → plainWords[j]? = some y → (y.1.toList == s.toList) = false) : plainS s = -1 := by
  have : plainWords.find? (fun x => x.1.toList == s.toList) = none := by
    rw [List.find?_eq_none]
    intro x hx
    obtain ⟨j, hj, rfl⟩ := List.getElem_of_mem hx
    rw [hn j _ hj (List.getElem?_eq_getElem hj)]
    simp
  unfold plainS
  rw [this]

theorem Blk.setRow {w : World} {b : Nat} {cs : Array Value} {T : TypeId} (h : Blk w b cs T) (cs' : Array Value) : Blk (w.setRow b cs') b cs' T := setRow_heap w b cs cs' T (0, 0) h
theorem Blk.setRow_far {w : World} {b : Nat} {cs : Array Value} {T : TypeId} (h : Blk w b cs T) {g : Nat} (hg : b ≠ g) (cs' : Array Value) : Blk (w.setRow g cs') b cs T := by
  unfold Blk at h ⊢; rw [setRow_other _ _ _ _ hg]; exact h
theorem below_setRow {B : Nat} {a w : World} (h : Below B a w) {g : Nat} (hg : B ≤ g) (cs : Array Value) : Below B a (w.setRow g cs) :=
  ⟨h.os, h.tape, h.output, by simpa using h.size, fun k hk => by rw [setRow_other _ _ _ _ (by omega)]; exact h.block k hk⟩

def zeroWords : Array Value := Array.replicate 25 (.string ⟨#[]⟩)
def zeroOps : Array Value := Array.replicate 25 (.int .i64 0)

set_option maxHeartbeats 1000000 in
theorem plain_any (s : ByteArray) (w : World) :
    Calls Tryz.prog 179 #[.string s] w fun e w' => e = .returned (.int .i64 (plainS s)) ∧ Below w.heap.size w w' := by
  have hA : Blk (w.alloc (.cells zeroWords 246)) w.heap.size zeroWords 246 := Blk.new w _ _
  have hA' := Blk.setRow hA wordsArr
  have hB : Blk (((w.alloc (.cells zeroWords 246)).setRow w.heap.size wordsArr).alloc (.cells zeroOps 247)) (w.heap.size + 1) zeroOps 247 := by
    have := Blk.new ((w.alloc (.cells zeroWords 246)).setRow w.heap.size wordsArr) zeroOps 247
    simpa using this
  have HA := hide hA
  have HB := hide hB
  have HA' := hide hA'
  clear hA hA' hB
  go_enter Tryz.func179, Tryz.ntmps179
  go_wp2_with (first | (refine wpList_store_row rfl 246 (.tmp 3) (.tmp 6) rfl w.heap.size wordsArr rfl rfl 246 zeroWords (unhide HA) (by kernel_rfl) (by kernel_rfl) (by kernel_rfl) ?_) | (refine wpList_store_row rfl 247 (.tmp 4) (.tmp 7) rfl (w.heap.size + 1) opsArr rfl rfl 247 zeroOps (unhide HB) (by kernel_rfl) (by kernel_rfl) (by kernel_rfl) ?_))
  go_loopw [5] (fun i wr => ∃ k : Nat, k ≤ 25 ∧ i = .int .i64 k ∧ (∀ (j : Nat) (y : ByteArray × Int), j < k → plainWords[j]? = some y → (y.1.toList == s.toList) = false) ∧ Blk wr w.heap.size wordsArr 246 ∧ Blk wr (w.heap.size + 1) opsArr 247 ∧ Below w.heap.size w wr) (fun i _ => 25 - (intOf i).toNat)
  case atStart =>
    refine ⟨0, by omega, rfl, fun j y hj => by omega, ?_, ?_, ?_⟩
    · exact ((unhide HA').alloc _).setRow_far (by omega) _
    · exact (unhide HB).setRow _
    · exact below_setRow ((below_setRow ((Below.refl _ _).alloc (Nat.le_refl _) _) (Nat.le_refl _) _).alloc (by simp) _) (by omega) _
  case round =>
    obtain ⟨k, hk, rfl, hno, hb1, hb2, hbel⟩ := hrel
    have HN := hide hno
    clear hno
    by_cases hlt : k < 25
    · obtain ⟨x, hx, hw, ho⟩ := wordsArr_at k hlt
      have hc1 := hb1.cell k
      rw [hw] at hc1
      have hc2 := hb2.cell k
      rw [ho] at hc2
      have HX := hide hx
      have HB := hide (And.intro hb1 (And.intro hb2 hbel))
      clear hx hw ho hb1 hb2 hbel
      go_wp2_with fail
      · go_ret
        exact ⟨ret_int (plain_found s k x (unhide HX) (by assumption) (unhide HN)).symm, (unhide HB).2.2⟩
      · refine ⟨⟨k + 1, by omega, by go_num, ?_, (unhide HB).1, (unhide HB).2.1, (unhide HB).2.2⟩, by simp [intOf]; omega⟩
        intro j y hj hy
        by_cases e : j = k
        · subst e
          rw [unhide HX] at hy
          obtain rfl := Option.some.inj hy
          assumption
        · exact unhide HN j y (by omega) hy
    · go_wp2_with fail
      go_ret
      exact ⟨ret_int (plain_none s (fun j y hj => unhide HN j y (by omega))).symm, hbel⟩

end Go.Proofs.YtmeiikjpaepogaaGreatDoor

/- The reference's number. -/
namespace Go.Proofs.YtmeiikjpaepogaaGreatDoor
open Go Go.RowKit

def digB (c : UInt8) : Bool := decide (48 ≤ c.toNat) && decide (c.toNat ≤ 57)
def valS (l : List UInt8) : Nat := l.foldl (fun n c => n * 10 + (c.toNat - 48)) 0
/-- What a row of digits is worth, if it is some and at most so much. -/
def numFrom (D : List UInt8) (most : Nat) : Option Nat := if D = [] then none else if D.all digB && decide (valS D ≤ most) then some (valS D) else none
/-- What a token is worth. -/
def numS (s : ByteArray) : Option Int :=
  if s.toList.head? = some 45 then (numFrom s.toList.tail 9223372036854775808).map (fun n : Nat => -(n : Int)) else (numFrom s.toList 9223372036854775807).map (fun n : Nat => (n : Int))
def numV (s : ByteArray) : Int := (numS s).getD 0

theorem valS_snoc (l : List UInt8) (c : UInt8) : valS (l ++ [c]) = valS l * 10 + (c.toNat - 48) := by simp [valS]
theorem valS_fold_le (l : List UInt8) (n : Nat) : n ≤ l.foldl (fun n c => n * 10 + (c.toNat - 48)) n := by
  induction l generalizing n with
  | nil => exact Nat.le_refl _
  | cons c l ih => simp only [List.foldl_cons]; have := ih (n * 10 + (c.toNat - 48)); omega
theorem valS_take_le (l : List UInt8) (k : Nat) : valS (l.take k) ≤ valS l := by
  have h : valS l = (l.drop k).foldl (fun n c => n * 10 + (c.toNat - 48)) (valS (l.take k)) := by
    rw [valS, valS, ← List.foldl_append, List.take_append_drop]
  rw [h]; exact valS_fold_le _ _
theorem take_snoc' (l : List UInt8) (k : Nat) (c : UInt8) (h : l[k]? = some c) : l.take (k + 1) = l.take k ++ [c] := by
  obtain ⟨hlt, rfl⟩ := List.getElem?_eq_some_iff.1 h
  rw [List.take_succ_eq_append_getElem hlt]

theorem numFrom_bad (D : List UInt8) (most k : Nat) (c : UInt8) (h : D[k]? = some c) (hd : digB c = false) : numFrom D most = none := by
  unfold numFrom
  have : D.all digB = false := by
    rw [List.all_eq_false]
    exact ⟨c, List.mem_of_getElem? h, by simp [hd]⟩
  rw [this]; simp
theorem numFrom_over (D : List UInt8) (most k : Nat) (c : UInt8) (h : D[k]? = some c) (hd : most < valS (D.take k) * 10 + (c.toNat - 48)) : numFrom D most = none := by
  have h1 : valS (D.take (k + 1)) = valS (D.take k) * 10 + (c.toNat - 48) := by rw [take_snoc' D k c h, valS_snoc]
  have h2 := valS_take_le D (k + 1)
  unfold numFrom
  have : decide (valS D ≤ most) = false := by simp; omega
  rw [this]; simp
theorem numFrom_ok (D : List UInt8) (most : Nat) (hne : D ≠ []) (hd : ∀ (j : Nat) (c : UInt8), D[j]? = some c → digB c = true) (hv : valS D ≤ most) : numFrom D most = some (valS D) := by
  unfold numFrom
  have : D.all digB = true := by
    rw [List.all_eq_true]
    intro c hc
    obtain ⟨j, hj⟩ := List.getElem?_of_mem hc
    exact hd j c hj
  rw [if_neg hne, this]; simp [hv]

theorem bytes_at (s : ByteArray) (k : Nat) (h : k < s.size) : s.toList[k]? = some s[k] := by
  rw [ByteArray.toList_eq]
  have h' : k < s.data.size := h
  rw [Array.getElem?_toList, Array.getElem?_eq_getElem h']
  rfl
theorem bytes_len (s : ByteArray) : s.toList.length = s.size := by
  rw [ByteArray.toList_eq]; simp

theorem ret_num {a b : Int} {c d : Bool} (h : a = b) (h' : c = d) : Ending.returned (.tuple #[.int .i64 a, .bool c]) = .returned (.tuple #[.int .i64 b, .bool d]) := by rw [h, h']

def big63 : Int := 9223372036854775807

set_option maxRecDepth 100000 in
set_option maxHeartbeats 1000000 in
theorem number_plus (s : ByteArray) (w : World) (hs : s.size ≤ 2000) (h0 : 0 < s.size) (h1 : (((s[0]).toNat : Int) == 45) = false) (o : Option Nat) (ho : numFrom s.toList 9223372036854775807 = o) :
    Calls Tryz.prog 174 #[.string s] w fun e w' => e = .returned (.tuple #[.int .i64 ((o.map (fun n : Nat => (n : Int))).getD 0), .bool o.isSome]) ∧ w' = w := by
  have HO := hide ho
  clear ho
  have hz : (0 : Int) < s.size := by omega
  go_enter Tryz.func174, Tryz.ntmps174
  go_wp2_with fail
  go_loop [6, 7] (fun n i => ∃ k v : Nat, k ≤ s.size ∧ i = .int .i64 k ∧ n = .int .u64 v ∧ v = valS (s.toList.take k) ∧ v ≤ 9223372036854775807 ∧ (∀ (j : Nat) (c : UInt8), j < k → s.toList[j]? = some c → digB c = true)) (fun _ i => s.size - (intOf i).toNat)
  case atStart => exact ⟨0, 0, by omega, rfl, rfl, rfl, by omega, fun j c hj => by omega⟩
  case round =>
    obtain ⟨k, v, hk, rfl, rfl, hv, hle, hd⟩ := hrel
    have HV := hide hv
    have HD := hide hd
    clear hv hd
    have hv0 : (v : Int) ≤ 9223372036854775807 := by omega
    have hk1 : (k : Int) ≤ 2000 := by omega
    by_cases hlt : k < s.size
    · have hat := bytes_at s k hlt
      have HA := hide hat
      clear hat
      have hb : (s[k].toNat : Int) < 256 := by have := s[k].toNat_lt; omega
      have hb0 : (0 : Int) ≤ s[k].toNat := by omega
      by_cases hdig : 48 ≤ s[k].toNat ∧ s[k].toNat ≤ 57
      · obtain ⟨hd1, hd2⟩ := hdig
        have e1 : (48 : Int) ≤ s[k].toNat := by omega
        have e2 : (s[k].toNat : Int) ≤ 57 := by omega
        by_cases hov : v * 10 + (s[k].toNat - 48) ≤ 9223372036854775807
        · have hq : (v : Int) ≤ (9223372036854775807 - (s[k].toNat - 48)) / 10 := by omega
          go_wp2_with fail
          have e3 : ((v * 10 + (s[k].toNat - 48) : Nat) : Int) = (v : Int) * 10 + ((s[k].toNat : Int) - 48) := by omega
          refine ⟨⟨u2, u3, .int .u64 ((v : Int) * 10 + ((s[k].toNat : Int) - 48)), .int .i64 ((k : Int) + 1), ⟨k + 1, by omega, by go_num, v * 10 + (s[k].toNat - 48), by rw [e3], ?_, hov, ?_⟩, rfl, rfl, rfl, rfl⟩, by simp [intOf]; omega⟩
          · rw [take_snoc' _ _ _ (unhide HA), valS_snoc, ← unhide HV]
          · intro j c hj hc
            by_cases e : j = k
            · subst e
              rw [unhide HA] at hc
              obtain rfl := Option.some.inj hc
              simp [digB, hd1, hd2]
            · exact unhide HD j c (by omega) hc
        · have hq : (9223372036854775807 - ((s[k].toNat : Int) - 48)) / 10 < (v : Int) := by omega
          go_wp2_with fail
          go_ret2
          have hn := numFrom_over s.toList 9223372036854775807 k _ (unhide HA) (by rw [← unhide HV]; omega)
          rw [unhide HO] at hn
          subst hn
          exact ⟨rfl, rfl⟩
      · have hn := numFrom_bad s.toList 9223372036854775807 k _ (unhide HA) (by simp [digB]; omega)
        rw [unhide HO] at hn
        subst hn
        by_cases hlo : s[k].toNat < 48
        · have e1 : (s[k].toNat : Int) < 48 := by omega
          go_wp2_with fail
          go_ret2
          exact ⟨rfl, rfl⟩
        · have e1 : (57 : Int) < s[k].toNat := by omega
          go_wp2_with fail
          go_ret2
          exact ⟨rfl, rfl⟩
    · go_wp2_with fail
      go_ret2
      have e4 : s.toList.take k = s.toList := List.take_of_length_le (by rw [bytes_len]; omega)
      have hn := numFrom_ok s.toList 9223372036854775807 (by intro e; have := bytes_len s; rw [e] at this; simp at this; omega) (fun j c hc => unhide HD j c (by have := (List.getElem?_eq_some_iff.1 hc).1; rw [bytes_len] at this; omega) hc) (by rw [← e4, ← unhide HV]; exact hle)
      rw [unhide HO] at hn
      subst hn
      rw [← e4, ← unhide HV]
      exact ⟨ret_num (by simp) (by simp), rfl⟩

theorem wrap_neg (v : Nat) (h : v ≤ 9223372036854775808) : wrap64 (-wrap64 (v : Int)) = (Option.map (fun n : Nat => -(n : Int)) (some v)).getD 0 := by
  simp only [Option.map_some, Option.getD_some]
  unfold wrap64
  omega

theorem tail_at (s : ByteArray) (k : Nat) (h : k + 1 < s.size) : s.toList.tail[k]? = some s[k + 1] := by
  rw [List.getElem?_tail, bytes_at s (k + 1) h]

set_option maxRecDepth 100000 in
set_option maxHeartbeats 1000000 in
theorem number_minus (s : ByteArray) (w : World) (hs : s.size ≤ 2000) (h0 : 1 < s.size) (h1 : (((s[0]).toNat : Int) == 45) = true) (o : Option Nat) (ho : numFrom s.toList.tail 9223372036854775808 = o) :
    Calls Tryz.prog 174 #[.string s] w fun e w' => e = .returned (.tuple #[.int .i64 ((o.map (fun n : Nat => -(n : Int))).getD 0), .bool o.isSome]) ∧ w' = w := by
  have HO := hide ho
  clear ho
  have hz : (1 : Int) < s.size := by omega
  have h20 : ((1 : Int) == (s.size : Int)) = false := by simp; omega
  go_enter Tryz.func174, Tryz.ntmps174
  go_wp2_with fail
  go_loop [6, 7] (fun n i => ∃ k v : Nat, k + 1 ≤ s.size ∧ i = .int .i64 ((k : Int) + 1) ∧ n = .int .u64 v ∧ v = valS (s.toList.tail.take k) ∧ v ≤ 9223372036854775808 ∧ (∀ (j : Nat) (c : UInt8), j < k → s.toList.tail[j]? = some c → digB c = true)) (fun _ i => s.size - (intOf i).toNat)
  case atStart => exact ⟨0, 0, by omega, rfl, rfl, rfl, by omega, fun j c hj => by omega⟩
  case round =>
    obtain ⟨k, v, hk, rfl, rfl, hv, hle, hd⟩ := hrel
    have HV := hide hv
    have HD := hide hd
    clear hv hd
    have hv0 : (v : Int) ≤ 9223372036854775808 := by omega
    have hk1 : (k : Int) ≤ 2000 := by omega
    by_cases hlt : k + 1 < s.size
    · have hat := tail_at s k hlt
      have HA := hide hat
      clear hat
      have hb : (s[k + 1].toNat : Int) < 256 := by have := s[k + 1].toNat_lt; omega
      have hb0 : (0 : Int) ≤ s[k + 1].toNat := by omega
      by_cases hdig : 48 ≤ s[k + 1].toNat ∧ s[k + 1].toNat ≤ 57
      · obtain ⟨hd1, hd2⟩ := hdig
        have e1 : (48 : Int) ≤ s[k + 1].toNat := by omega
        have e2 : (s[k + 1].toNat : Int) ≤ 57 := by omega
        by_cases hov : v * 10 + (s[k + 1].toNat - 48) ≤ 9223372036854775808
        · have hq : (v : Int) ≤ (9223372036854775808 - (s[k + 1].toNat - 48)) / 10 := by omega
          go_wp2_with fail
          have e3 : ((v * 10 + (s[k + 1].toNat - 48) : Nat) : Int) = (v : Int) * 10 + ((s[k + 1].toNat : Int) - 48) := by omega
          go_round
          case rel =>
            refine ⟨k + 1, v * 10 + (s[k + 1].toNat - 48), by omega, by go_num, by rw [e3], ?_, hov, ?_⟩
            · rw [take_snoc' _ _ _ (unhide HA), valS_snoc, ← unhide HV]
            · intro j c hj hc
              by_cases e : j = k
              · subst e
                rw [unhide HA] at hc
                obtain rfl := Option.some.inj hc
                simp [digB, hd1, hd2]
              · exact unhide HD j c (by omega) hc
          case measure => simp [intOf]; omega
        · have hq : (9223372036854775808 - ((s[k + 1].toNat : Int) - 48)) / 10 < (v : Int) := by omega
          go_wp2_with fail
          go_ret2
          have hn := numFrom_over s.toList.tail 9223372036854775808 k _ (unhide HA) (by rw [← unhide HV]; omega)
          rw [unhide HO] at hn
          subst hn
          exact ⟨rfl, rfl⟩
      · have hn := numFrom_bad s.toList.tail 9223372036854775808 k _ (unhide HA) (by simp [digB]; omega)
        rw [unhide HO] at hn
        subst hn
        by_cases hlo : s[k + 1].toNat < 48
        · have e1 : (s[k + 1].toNat : Int) < 48 := by omega
          go_wp2_with fail
          go_ret2
          exact ⟨rfl, rfl⟩
        · have e1 : (57 : Int) < s[k + 1].toNat := by omega
          go_wp2_with fail
          go_ret2
          exact ⟨rfl, rfl⟩
    · go_wp2_with fail
      go_ret2
      have hlen : s.toList.tail.length = s.size - 1 := by simp [bytes_len]
      have e4 : s.toList.tail.take k = s.toList.tail := List.take_of_length_le (by rw [hlen]; omega)
      have hn := numFrom_ok s.toList.tail 9223372036854775808 (by intro e; rw [e] at hlen; simp at hlen; omega) (fun j c hc => unhide HD j c (by have := (List.getElem?_eq_some_iff.1 hc).1; rw [hlen] at this; omega) hc) (by rw [← e4, ← unhide HV]; exact hle)
      rw [unhide HO] at hn
      subst hn
      rw [← e4, ← unhide HV]
      refine ⟨ret_num ?_ (by simp), rfl⟩
      exact wrap_neg v hle

theorem toList_head (s : ByteArray) (h : 0 < s.size) : s.toList.head? = some s[0] := by
  rw [List.head?_eq_getElem?, bytes_at s 0 h]
theorem byte45 (b : UInt8) : ((b.toNat : Int) == 45) = true ↔ b = 45 := by
  simp only [beq_iff_eq]
  constructor
  · intro h
    have h' : b.toNat = 45 := by exact_mod_cast h
    have := UInt8.ofNat_toNat (x := b)
    rw [h'] at this
    exact this.symm
  · intro h; rw [h]; rfl

set_option maxHeartbeats 1000000 in
theorem number_any (s : ByteArray) (w : World) (hs : s.size ≤ 2000) :
    Calls Tryz.prog 174 #[.string s] w fun e w' => e = .returned (.tuple #[.int .i64 (numV s), .bool (numS s).isSome]) ∧ w' = w := by
  unfold numV numS
  by_cases h0 : 0 < s.size
  · rw [toList_head s h0]
    by_cases h1 : s[0] = 45
    · rw [if_pos (by rw [h1])]
      by_cases h2 : 1 < s.size
      · simpa using number_minus s w hs h2 ((byte45 _).2 h1) _ rfl
      · have ht : numFrom s.toList.tail 9223372036854775808 = none := by
          have hl : s.toList.tail.length = 0 := by simp [bytes_len]; omega
          rw [List.eq_nil_of_length_eq_zero hl]; rfl
        rw [ht]
        have h3 := (byte45 _).2 h1
        have h20 : ((1 : Int) == (s.size : Int)) = true := by simp; omega
        go_enter Tryz.func174, Tryz.ntmps174
        go_wp2_with fail
        go_ret2
        exact ⟨rfl, rfl⟩
    · rw [if_neg (by simpa using h1)]
      simpa using number_plus s w hs h0 (by rw [← Bool.not_eq_true, byte45]; exact h1) _ rfl
  · have hl : s.toList = [] := List.eq_nil_of_length_eq_zero (by rw [bytes_len]; omega)
    have h0' : ¬ (0 : Int) < s.size := by omega
    have hd : decide (0 < s.size) = false := by simpa using h0
    have h20 : ((0 : Int) == (s.size : Int)) = true := by simp; omega
    rw [hl]
    go_enter Tryz.func174, Tryz.ntmps174
    go_wp2_with fail
    go_ret2
    exact ⟨rfl, rfl⟩

end Go.Proofs.YtmeiikjpaepogaaGreatDoor

