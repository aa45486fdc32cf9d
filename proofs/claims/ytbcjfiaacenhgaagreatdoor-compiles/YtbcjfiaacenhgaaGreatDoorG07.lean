/- The reference's plain. -/
import Derived.Test.YtbcjfiaacenhgaaGreatDoorG04
import Derived.Test.YtbcjfiaacenhgaaGreatDoorG05
import Derived.Test.YtbcjfiaacenhgaaGreatDoorG06
namespace Go.Proofs.YtbcjfiaacenhgaaGreatDoor
open Go Go.RowKit

def plainWords : List (ByteArray × Int) := [(⟨#[43]⟩, 9), (⟨#[45]⟩, 10), (⟨#[42]⟩, 11), (⟨#[47]⟩, 12), (⟨#[109, 111, 100]⟩, 13), (⟨#[97, 110, 100]⟩, 14), (⟨#[111, 114]⟩, 15), (⟨#[120, 111, 114]⟩, 16), (⟨#[105, 110, 118, 101, 114, 116]⟩, 17), (⟨#[110, 101, 103, 97, 116, 101]⟩, 18), (⟨#[61]⟩, 19), (⟨#[60]⟩, 20), (⟨#[100, 117, 112]⟩, 21), (⟨#[100, 114, 111, 112]⟩, 22), (⟨#[115, 119, 97, 112]⟩, 23), (⟨#[111, 118, 101, 114]⟩, 24), (⟨#[114, 111, 116]⟩, 25), (⟨#[62, 114]⟩, 26), (⟨#[114, 62]⟩, 27), (⟨#[114, 64]⟩, 28), (⟨#[33]⟩, 29), (⟨#[64]⟩, 30), (⟨#[101, 109, 105, 116]⟩, 31), (⟨#[46]⟩, 32), (⟨#[105]⟩, 8)]
def plainS (s : ByteArray) : Int := match plainWords.find? (fun x => x.1.toList == s.toList) with | some x => x.2 | none => -1

def wordsArr : Array Value := (plainWords.map fun x => Value.string x.1).toArray
def opsArr : Array Value := (plainWords.map fun x => Value.int .i64 x.2).toArray

theorem wordsArr_at (k : Nat) (h : k < 25) : ∃ x, plainWords[k]? = some x ∧ wordsArr[k]? = some (.string x.1) ∧ opsArr[k]? = some (.int .i64 x.2) := by
  have hl : k < plainWords.length := h
  refine ⟨plainWords[k], List.getElem?_eq_getElem hl, ?_, ?_⟩
  · simp [wordsArr, List.getElem?_eq_getElem hl]
  · simp [opsArr, List.getElem?_eq_getElem hl]

theorem plain_found (s : ByteArray) (k : Nat) (x : ByteArray × Int) (hx : plainWords[k]? = some x) (he : (x.1.toList == s.toList) = true) (hn : ∀ (j : Nat) (y : ByteArray × Int), j < k → plainWords[j]? = some y → (y.1.toList == s.toList) = false) : plainS s = x.2 := by
  obtain ⟨hlt, hx'⟩ := List.getElem?_eq_some_iff.1 hx
  have : plainWords.find? (fun x => x.1.toList == s.toList) = some x := by
    rw [List.find?_eq_some_iff_getElem]
    refine ⟨he, k, hlt, hx', ?_⟩
    intro j hj
    rw [hn j plainWords[j] hj (List.getElem?_eq_getElem (by omega))]
    rfl
  unfold plainS
  rw [this]
theorem plain_none (s : ByteArray) (hn : ∀ (j : Nat) (y : ByteArray × Int), j < 25 → plainWords[j]? = some y → (y.1.toList == s.toList) = false) : plainS s = -1 := by
  have : plainWords.find? (fun x => x.1.toList == s.toList) = none := by
    rw [List.find?_eq_none]
    intro x hx
    obtain ⟨j, hj, rfl⟩ := List.getElem_of_mem hx
    rw [hn j _ hj (List.getElem?_eq_getElem hj)]
    simp
  unfold plainS
  rw [this]

theorem Blk.setRow {w : World} {b : Nat} {cs : Array Value} {T : TypeId} (h : Blk w b cs T) (cs' : Array Value) : Blk (w.setRow b cs') b cs' T := setRow_heap w b cs cs' T (0, 0) h
theorem Blk.setRow_far {w : World} {b : Nat} {cs : Array Value} {T : TypeId} (h : Blk w b cs T) {g : Nat} (hg : b ≠ g) (cs' : Array Value) : Blk (w.setRow g cs') b cs T := by
  unfold Blk at h ⊢; rw [setRow_other _ _ _ _ hg]; exact h
theorem below_setRow {B : Nat} {a w : World} (h : Below B a w) {g : Nat} (hg : B ≤ g) (cs : Array Value) : Below B a (w.setRow g cs) :=
  ⟨h.os, h.tape, h.output, by simpa using h.size, fun k hk => by rw [setRow_other _ _ _ _ (by omega)]; exact h.block k hk⟩

def zeroWords : Array Value := Array.replicate 25 (.string ⟨#[]⟩)
def zeroOps : Array Value := Array.replicate 25 (.int .i64 0)

set_option maxHeartbeats 1000000 in
theorem plain_any (s : ByteArray) (w : World) :
    Calls Tryz.prog 57 #[.string s] w fun e w' => e = .returned (.int .i64 (plainS s)) ∧ Below w.heap.size w w' := by
  have hA : Blk (w.alloc (.cells zeroWords 149)) w.heap.size zeroWords 149 := Blk.new w _ _
  have hA' := Blk.setRow hA wordsArr
  have hB : Blk (((w.alloc (.cells zeroWords 149)).setRow w.heap.size wordsArr).alloc (.cells zeroOps 150)) (w.heap.size + 1) zeroOps 150 := by
    have := Blk.new ((w.alloc (.cells zeroWords 149)).setRow w.heap.size wordsArr) zeroOps 150
    simpa using this
  have HA := hide hA
  have HB := hide hB
  have HA' := hide hA'
  clear hA hA' hB
  go_enter Tryz.func57, Tryz.ntmps57
  go_wp2_with (first | (refine wpList_store_row rfl 149 (.tmp 3) (.tmp 6) rfl w.heap.size wordsArr rfl rfl 149 zeroWords (unhide HA) (by kernel_rfl) (by kernel_rfl) (by kernel_rfl) ?_) | (refine wpList_store_row rfl 150 (.tmp 4) (.tmp 7) rfl (w.heap.size + 1) opsArr rfl rfl 150 zeroOps (unhide HB) (by kernel_rfl) (by kernel_rfl) (by kernel_rfl) ?_))
  go_loopw [5] (fun i wr => ∃ k : Nat, k ≤ 25 ∧ i = .int .i64 k ∧ (∀ (j : Nat) (y : ByteArray × Int), j < k → plainWords[j]? = some y → (y.1.toList == s.toList) = false) ∧ Blk wr w.heap.size wordsArr 149 ∧ Blk wr (w.heap.size + 1) opsArr 150 ∧ Below w.heap.size w wr) (fun i _ => 25 - (intOf i).toNat)
  case atStart =>
    refine ⟨0, by omega, rfl, fun j y hj => by omega, ?_, ?_, ?_⟩
    · exact ((unhide HA').alloc _).setRow_far (by omega) _
    · exact (unhide HB).setRow _
    · exact below_setRow ((below_setRow ((Below.refl _ _).alloc (Nat.le_refl _) _) (Nat.le_refl _) _).alloc (by simp) _) (by omega) _
  case round =>
    obtain ⟨k, hk, rfl, hno, hb1, hb2, hbel⟩ := hrel
    have HN := hide hno
    clear hno
    by_cases hlt : k < 25
    · obtain ⟨x, hx, hw, ho⟩ := wordsArr_at k hlt
      have hc1 := hb1.cell k
      rw [hw] at hc1
      have hc2 := hb2.cell k
      rw [ho] at hc2
      have HX := hide hx
      have HB := hide (And.intro hb1 (And.intro hb2 hbel))
      clear hx hw ho hb1 hb2 hbel
      go_wp2_with fail
      · go_ret
        exact ⟨ret_int (plain_found s k x (unhide HX) (by assumption) (unhide HN)).symm, (unhide HB).2.2⟩
      · refine ⟨⟨k + 1, by omega, by go_num, ?_, (unhide HB).1, (unhide HB).2.1, (unhide HB).2.2⟩, by simp [intOf]; omega⟩
        intro j y hj hy
        by_cases e : j = k
        · subst e
          rw [unhide HX] at hy
          obtain rfl := Option.some.inj hy
          assumption
        · exact unhide HN j y (by omega) hy
    · go_wp2_with fail
      go_ret
      exact ⟨ret_int (plain_none s (fun j y hj => unhide HN j y (by omega))).symm, hbel⟩

end Go.Proofs.YtbcjfiaacenhgaaGreatDoor

/- The reference's number. -/
namespace Go.Proofs.YtbcjfiaacenhgaaGreatDoor
open Go Go.RowKit

def digB (c : UInt8) : Bool := decide (48 ≤ c.toNat) && decide (c.toNat ≤ 57)
def valS (l : List UInt8) : Nat := l.foldl (fun n c => n * 10 + (c.toNat - 48)) 0
/-- What a row of digits is worth, if it is some and at most so much. -/
def numFrom (D : List UInt8) (most : Nat) : Option Nat := if D = [] then none else if D.all digB && decide (valS D ≤ most) then some (valS D) else none
/-- What a token is worth. -/
def numS (s : ByteArray) : Option Int :=
  if s.toList.head? = some 45 then (numFrom s.toList.tail 9223372036854775808).map (fun n : Nat => -(n : Int)) else (numFrom s.toList 9223372036854775807).map (fun n : Nat => (n : Int))
def numV (s : ByteArray) : Int := (numS s).getD 0

theorem valS_snoc (l : List UInt8) (c : UInt8) : valS (l ++ [c]) = valS l * 10 + (c.toNat - 48) := by simp [valS]
theorem valS_fold_le (l : List UInt8) (n : Nat) : n ≤ l.foldl (fun n c => n * 10 + (c.toNat - 48)) n := by
  induction l generalizing n with
  | nil => exact Nat.le_refl _
  | cons c l ih => simp only [List.foldl_cons]; have := ih (n * 10 + (c.toNat - 48)); omega
theorem valS_take_le (l : List UInt8) (k : Nat) : valS (l.take k) ≤ valS l := by
  have h : valS l = (l.drop k).foldl (fun n c => n * 10 + (c.toNat - 48)) (valS (l.take k)) := by
    rw [valS, valS, ← List.foldl_append, List.take_append_drop]
  rw [h]; exact valS_fold_le _ _
theorem take_snoc' (l : List UInt8) (k : Nat) (c : UInt8) (h : l[k]? = some c) : l.take (k + 1) = l.take k ++ [c] := by
  obtain ⟨hlt, rfl⟩ := List.getElem?_eq_some_iff.1 h
  rw [List.take_succ_eq_append_getElem hlt]

theorem numFrom_bad (D : List UInt8) (most k : Nat) (c : UInt8) (h : D[k]? = some c) (hd : digB c = false) : numFrom D most = none := by
  unfold numFrom
  have : D.all digB = false := by
    rw [List.all_eq_false]
    exact ⟨c, List.mem_of_getElem? h, by simp [hd]⟩
  rw [this]; simp
theorem numFrom_over (D : List UInt8) (most k : Nat) (c : UInt8) (h : D[k]? = some c) (hd : most < valS (D.take k) * 10 + (c.toNat - 48)) : numFrom D most = none := by
  have h1 : valS (D.take (k + 1)) = valS (D.take k) * 10 + (c.toNat - 48) := by rw [take_snoc' D k c h, valS_snoc]
  have h2 := valS_take_le D (k + 1)
  unfold numFrom
  have : decide (valS D ≤ most) = false := by simp; omega
  rw [this]; simp
theorem numFrom_ok (D : List UInt8) (most : Nat) (hne : D ≠ []) (hd : ∀ (j : Nat) (c : UInt8), D[j]? = some c → digB c = true) (hv : valS D ≤ most) : numFrom D most = some (valS D) := by
  unfold numFrom
  have : D.all digB = true := by
    rw [List.all_eq_true]
    intro c hc
    obtain ⟨j, hj⟩ := List.getElem?_of_mem hc
    exact hd j c hj
  rw [if_neg hne, this]; simp [hv]

theorem bytes_at (s : ByteArray) (k : Nat) (h : k < s.size) : s.toList[k]? = some s[k] := by
  rw [ByteArray.toList_eq]
  have h' : k < s.data.size := h
  rw [Array.getElem?_toList, Array.getElem?_eq_getElem h']
  rfl
theorem bytes_len (s : ByteArray) : s.toList.length = s.size := by
  rw [ByteArray.toList_eq]; simp

theorem ret_num {a b : Int} {c d : Bool} (h : a = b) (h' : c = d) : Ending.returned (.tuple #[.int .i64 a, .bool c]) = .returned (.tuple #[.int .i64 b, .bool d]) := by rw [h, h']

def big63 : Int := 9223372036854775807

set_option maxRecDepth 100000 in
set_option maxHeartbeats 1000000 in
theorem number_plus (s : ByteArray) (w : World) (hs : s.size ≤ 2000) (h0 : 0 < s.size) (h1 : (((s[0]).toNat : Int) == 45) = false) (o : Option Nat) (ho : numFrom s.toList 9223372036854775807 = o) :
    Calls Tryz.prog 52 #[.string s] w fun e w' => e = .returned (.tuple #[.int .i64 ((o.map (fun n : Nat => (n : Int))).getD 0), .bool o.isSome]) ∧ w' = w := by
  have HO := hide ho
  clear ho
  have hz : (0 : Int) < s.size := by omega
  go_enter Tryz.func52, Tryz.ntmps52
  go_wp2_with fail
  go_loop [6, 7] (fun n i => ∃ k v : Nat, k ≤ s.size ∧ i = .int .i64 k ∧ n = .int .u64 v ∧ v = valS (s.toList.take k) ∧ v ≤ 9223372036854775807 ∧ (∀ (j : Nat) (c : UInt8), j < k → s.toList[j]? = some c → digB c = true)) (fun _ i => s.size - (intOf i).toNat)
  case atStart => exact ⟨0, 0, by omega, rfl, rfl, rfl, by omega, fun j c hj => by omega⟩
  case round =>
    obtain ⟨k, v, hk, rfl, rfl, hv, hle, hd⟩ := hrel
    have HV := hide hv
    have HD := hide hd
    clear hv hd
    have hv0 : (v : Int) ≤ 9223372036854775807 := by omega
    have hk1 : (k : Int) ≤ 2000 := by omega
    by_cases hlt : k < s.size
    · have hat := bytes_at s k hlt
      have HA := hide hat
      clear hat
      have hb : (s[k].toNat : Int) < 256 := by have := s[k].toNat_lt; omega
      have hb0 : (0 : Int) ≤ s[k].toNat := by omega
      by_cases hdig : 48 ≤ s[k].toNat ∧ s[k].toNat ≤ 57
      · obtain ⟨hd1, hd2⟩ := hdig
        have e1 : (48 : Int) ≤ s[k].toNat := by omega
        have e2 : (s[k].toNat : Int) ≤ 57 := by omega
        by_cases hov : v * 10 + (s[k].toNat - 48) ≤ 9223372036854775807
        · have hq : (v : Int) ≤ (9223372036854775807 - (s[k].toNat - 48)) / 10 := by omega
          go_wp2_with fail
          have e3 : ((v * 10 + (s[k].toNat - 48) : Nat) : Int) = (v : Int) * 10 + ((s[k].toNat : Int) - 48) := by omega
          refine ⟨⟨u2, u3, .int .u64 ((v : Int) * 10 + ((s[k].toNat : Int) - 48)), .int .i64 ((k : Int) + 1), ⟨k + 1, by omega, by go_num, v * 10 + (s[k].toNat - 48), by rw [e3], ?_, hov, ?_⟩, rfl, rfl, rfl, rfl⟩, by simp [intOf]; omega⟩
          · rw [take_snoc' _ _ _ (unhide HA), valS_snoc, ← unhide HV]
          · intro j c hj hc
            by_cases e : j = k
            · subst e
              rw [unhide HA] at hc
              obtain rfl := Option.some.inj hc
              simp [digB, hd1, hd2]
            · exact unhide HD j c (by omega) hc
        · have hq : (9223372036854775807 - ((s[k].toNat : Int) - 48)) / 10 < (v : Int) := by omega
          go_wp2_with fail
          go_ret2
          have hn := numFrom_over s.toList 9223372036854775807 k _ (unhide HA) (by rw [← unhide HV]; omega)
          rw [unhide HO] at hn
          subst hn
          exact ⟨rfl, rfl⟩
      · have hn := numFrom_bad s.toList 9223372036854775807 k _ (unhide HA) (by simp [digB]; omega)
        rw [unhide HO] at hn
        subst hn
        by_cases hlo : s[k].toNat < 48
        · have e1 : (s[k].toNat : Int) < 48 := by omega
          go_wp2_with fail
          go_ret2
          exact ⟨rfl, rfl⟩
        · have e1 : (57 : Int) < s[k].toNat := by omega
          go_wp2_with fail
          go_ret2
          exact ⟨rfl, rfl⟩
    · go_wp2_with fail
      go_ret2
      have e4 : s.toList.take k = s.toList := List.take_of_length_le (by rw [bytes_len]; omega)
      have hn := numFrom_ok s.toList 9223372036854775807 (by intro e; have := bytes_len s; rw [e] at this; simp at this; omega) (fun j c hc => unhide HD j c (by have := (List.getElem?_eq_some_iff.1 hc).1; rw [bytes_len] at this; omega) hc) (by rw [← e4, ← unhide HV]; exact hle)
      rw [unhide HO] at hn
      subst hn
      rw [← e4, ← unhide HV]
      exact ⟨ret_num (by simp) (by simp), rfl⟩

theorem wrap_neg (v : Nat) (h : v ≤ 9223372036854775808) : wrap64 (-wrap64 (v : Int)) = (Option.map (fun n : Nat => -(n : Int)) (some v)).getD 0 := by
  simp only [Option.map_some, Option.getD_some]
  unfold wrap64
  omega

theorem tail_at (s : ByteArray) (k : Nat) (h : k + 1 < s.size) : s.toList.tail[k]? = some s[k + 1] := by
  rw [List.getElem?_tail, bytes_at s (k + 1) h]

set_option maxRecDepth 100000 in
set_option maxHeartbeats 1000000 in
theorem number_minus (s : ByteArray) (w : World) (hs : s.size ≤ 2000) (h0 : 1 < s.size) (h1 : (((s[0]).toNat : Int) == 45) = true) (o : Option Nat) (ho : numFrom s.toList.tail 9223372036854775808 = o) :
    Calls Tryz.prog 52 #[.string s] w fun e w' => e = .returned (.tuple #[.int .i64 ((o.map (fun n : Nat => -(n : Int))).getD 0), .bool o.isSome]) ∧ w' = w := by
  have HO := hide ho
  clear ho
  have hz : (1 : Int) < s.size := by omega
  have h20 : ((1 : Int) == (s.size : Int)) = false := by simp; omega
  go_enter Tryz.func52, Tryz.ntmps52
  go_wp2_with fail
  go_loop [6, 7] (fun n i => ∃ k v : Nat, k + 1 ≤ s.size ∧ i = .int .i64 ((k : Int) + 1) ∧ n = .int .u64 v ∧ v = valS (s.toList.tail.take k) ∧ v ≤ 9223372036854775808 ∧ (∀ (j : Nat) (c : UInt8), j < k → s.toList.tail[j]? = some c → digB c = true)) (fun _ i => s.size - (intOf i).toNat)
  case atStart => exact ⟨0, 0, by omega, rfl, rfl, rfl, by omega, fun j c hj => by omega⟩
  case round =>
    obtain ⟨k, v, hk, rfl, rfl, hv, hle, hd⟩ := hrel
    have HV := hide hv
    have HD := hide hd
    clear hv hd
    have hv0 : (v : Int) ≤ 9223372036854775808 := by omega
    have hk1 : (k : Int) ≤ 2000 := by omega
    by_cases hlt : k + 1 < s.size
    · have hat := tail_at s k hlt
      have HA := hide hat
      clear hat
      have hb : (s[k + 1].toNat : Int) < 256 := by have := s[k + 1].toNat_lt; omega
      have hb0 : (0 : Int) ≤ s[k + 1].toNat := by omega
      by_cases hdig : 48 ≤ s[k + 1].toNat ∧ s[k + 1].toNat ≤ 57
      · obtain ⟨hd1, hd2⟩ := hdig
        have e1 : (48 : Int) ≤ s[k + 1].toNat := by omega
        have e2 : (s[k + 1].toNat : Int) ≤ 57 := by omega
        by_cases hov : v * 10 + (s[k + 1].toNat - 48) ≤ 9223372036854775808
        · have hq : (v : Int) ≤ (9223372036854775808 - (s[k + 1].toNat - 48)) / 10 := by omega
          go_wp2_with fail
          have e3 : ((v * 10 + (s[k + 1].toNat - 48) : Nat) : Int) = (v : Int) * 10 + ((s[k + 1].toNat : Int) - 48) := by omega
          go_round
          case rel =>
            refine ⟨k + 1, v * 10 + (s[k + 1].toNat - 48), by omega, by go_num, by rw [e3], ?_, hov, ?_⟩
            · rw [take_snoc' _ _ _ (unhide HA), valS_snoc, ← unhide HV]
            · intro j c hj hc
              by_cases e : j = k
              · subst e
                rw [unhide HA] at hc
                obtain rfl := Option.some.inj hc
                simp [digB, hd1, hd2]
              · exact unhide HD j c (by omega) hc
          case measure => simp [intOf]; omega
        · have hq : (9223372036854775808 - ((s[k + 1].toNat : Int) - 48)) / 10 < (v : Int) := by omega
          go_wp2_with fail
          go_ret2
          have hn := numFrom_over s.toList.tail 9223372036854775808 k _ (unhide HA) (by rw [← unhide HV]; omega)
          rw [unhide HO] at hn
          subst hn
          exact ⟨rfl, rfl⟩
      · have hn := numFrom_bad s.toList.tail 9223372036854775808 k _ (unhide HA) (by simp [digB]; omega)
        rw [unhide HO] at hn
        subst hn
        by_cases hlo : s[k + 1].toNat < 48
        · have e1 : (s[k + 1].toNat : Int) < 48 := by omega
          go_wp2_with fail
          go_ret2
          exact ⟨rfl, rfl⟩
        · have e1 : (57 : Int) < s[k + 1].toNat := by omega
          go_wp2_with fail
          go_ret2
          exact ⟨rfl, rfl⟩
    · go_wp2_with fail
      go_ret2
      have hlen : s.toList.tail.length = s.size - 1 := by simp [bytes_len]
      have e4 : s.toList.tail.take k = s.toList.tail := List.take_of_length_le (by rw [hlen]; omega)
      have hn := numFrom_ok s.toList.tail 9223372036854775808 (by intro e; rw [e] at hlen; simp at hlen; omega) (fun j c hc => unhide HD j c (by have := (List.getElem?_eq_some_iff.1 hc).1; rw [hlen] at this; omega) hc) (by rw [← e4, ← unhide HV]; exact hle)
      rw [unhide HO] at hn
      subst hn
      rw [← e4, ← unhide HV]
      refine ⟨ret_num ?_ (by simp), rfl⟩
      exact wrap_neg v hle

theorem toList_head (s : ByteArray) (h : 0 < s.size) : s.toList.head? = some s[0] := by
  rw [List.head?_eq_getElem?, bytes_at s 0 h]
theorem byte45 (b : UInt8) : ((b.toNat : Int) == 45) = true ↔ b = 45 := by
  simp only [beq_iff_eq]
  constructor
  · intro h
    have h' : b.toNat = 45 := by exact_mod_cast h
    have := UInt8.ofNat_toNat (x := b)
    rw [h'] at this
    exact this.symm
  · intro h; rw [h]; rfl

set_option maxHeartbeats 1000000 in
theorem number_any (s : ByteArray) (w : World) (hs : s.size ≤ 2000) :
    Calls Tryz.prog 52 #[.string s] w fun e w' => e = .returned (.tuple #[.int .i64 (numV s), .bool (numS s).isSome]) ∧ w' = w := by
  unfold numV numS
  by_cases h0 : 0 < s.size
  · rw [toList_head s h0]
    by_cases h1 : s[0] = 45
    · rw [if_pos (by rw [h1])]
      by_cases h2 : 1 < s.size
      · simpa using number_minus s w hs h2 ((byte45 _).2 h1) _ rfl
      · have ht : numFrom s.toList.tail 9223372036854775808 = none := by
          have hl : s.toList.tail.length = 0 := by simp [bytes_len]; omega
          rw [List.eq_nil_of_length_eq_zero hl]; rfl
        rw [ht]
        have h3 := (byte45 _).2 h1
        have h20 : ((1 : Int) == (s.size : Int)) = true := by simp; omega
        go_enter Tryz.func52, Tryz.ntmps52
        go_wp2_with fail
        go_ret2
        exact ⟨rfl, rfl⟩
    · rw [if_neg (by simpa using h1)]
      simpa using number_plus s w hs h0 (by rw [← Bool.not_eq_true, byte45]; exact h1) _ rfl
  · have hl : s.toList = [] := List.eq_nil_of_length_eq_zero (by rw [bytes_len]; omega)
    have h0' : ¬ (0 : Int) < s.size := by omega
    have hd : decide (0 < s.size) = false := by simpa using h0
    have h20 : ((0 : Int) == (s.size : Int)) = true := by simp; omega
    rw [hl]
    go_enter Tryz.func52, Tryz.ntmps52
    go_wp2_with fail
    go_ret2
    exact ⟨rfl, rfl⟩

end Go.Proofs.YtbcjfiaacenhgaaGreatDoor

/- The reference's Reader: newName. -/
namespace Go.Proofs.YtbcjfiaacenhgaaGreatDoor
open Go Go.RowKit

def failS (st : RS) (e : Int) : RS := if st.err = 0 then { st with err := e, place := st.place0 } else st

theorem Rd.fail {B : Nat} {w : World} {b : Nat} {st : RS} {v4 v5 v6 v7 v11 : Value} (h : Rd B w b st v4 v5 v6 v7 v11) (e : Int) :
    Rd B (if st.err = 0 then (w.setCell ⟨b, 12, none⟩ (.int .i64 e)).setCell ⟨b, 13, none⟩ (.int .i64 st.place0) else w) b (failS st e) v4 v5 v6 v7 v11 := by
  unfold failS
  by_cases he : st.err = 0
  · rw [if_pos he, if_pos he]
    have h1 : Rd B (w.setCell ⟨b, 12, none⟩ (.int .i64 e)) b { st with err := e } v4 v5 v6 v7 v11 := h.set 12 _ _ (by simp [rdArr]) rfl ⟨rfl, rfl, rfl, rfl, rfl, rfl⟩
    exact h1.set 13 _ _ (by simp [rdArr]) rfl ⟨rfl, rfl, rfl, rfl, rfl, rfl⟩
  · rw [if_neg he, if_neg he]; exact h

theorem fail_rd (B b : Nat) (st : RS) (v4 v5 v6 v7 v11 : Value) (e0 : Int) (w : World) (h : Rd B w b st v4 v5 v6 v7 v11) :
    Calls Tryz.prog 32 #[.pointer (some ⟨b, 0, none⟩), .int .i64 e0] w fun e w' => e = .returned (.tuple #[]) ∧ Rd B w' b (failS st e0) v4 v5 v6 v7 v11 ∧ Below B w w' := by
  refine (fail_any B b st v4 v5 v6 v7 v11 e0 w h).mono ?_
  rintro e w' ⟨rfl, rfl⟩
  refine ⟨rfl, h.fail e0, ?_⟩
  split
  · exact ((Below.refl B w).setCell h.base _).setCell h.base _
  · exact Below.refl _ _

theorem Rd.below_all {B : Nat} {w w' : World} {b : Nat} {st : RS} {v4 v5 v6 v7 v11 : Value} (h : Rd B w b st v4 v5 v6 v7 v11) (hb : Below w.heap.size w w') : Rd B w' b st v4 v5 v6 v7 v11 :=
  ⟨h.blk.below hb h.blk.lt, h.base, h.owned.below_all hb, h.small⟩

/-- A token that may be no name. -/
def badName (st : RS) : Bool := st.token.toList.isEmpty || (numS st.token).isSome || decide (0 ≤ plainS st.token) || structS st.token || decide (0 ≤ findS st.names st.token)
def newNameS (st : RS) : RS := if badName (stepS st) then failS (stepS st) 3 else stepS st

theorem stepS_token_size (st : RS) : (stepS st).token.size ≤ st.s.size := by
  simp only [stepS, ByteArray.size_extract]
  omega

theorem bad_ways (st : RS) :
    (badName st = true ∧ (st.token.toList.isEmpty = true ∨ (st.token.toList.isEmpty = false ∧ (numS st.token).isSome = true) ∨ (st.token.toList.isEmpty = false ∧ (numS st.token).isSome = false ∧ 0 ≤ plainS st.token) ∨
      (st.token.toList.isEmpty = false ∧ (numS st.token).isSome = false ∧ plainS st.token < 0 ∧ structS st.token = true) ∨ (st.token.toList.isEmpty = false ∧ (numS st.token).isSome = false ∧ plainS st.token < 0 ∧ structS st.token = false ∧ 0 ≤ findS st.names st.token))) ∨
    (badName st = false ∧ st.token.toList.isEmpty = false ∧ (numS st.token).isSome = false ∧ plainS st.token < 0 ∧ structS st.token = false ∧ findS st.names st.token < 0) := by
  unfold badName
  cases st.token.toList.isEmpty <;> cases (numS st.token).isSome <;> cases structS st.token <;> by_cases hp : 0 ≤ plainS st.token <;> by_cases hf : 0 ≤ findS st.names st.token <;> simp_all <;> omega

set_option maxHeartbeats 1000000 in
theorem newName_any (B b : Nat) (st : RS) (w : World) (h : RdE B w b st) (hnx : st.next ≤ st.s.size) :
    Calls Tryz.prog 51 #[.pointer (some ⟨b, 0, none⟩)] w fun e w' => e = .returned (.string (stepS st).token) ∧ RdE B w' b (newNameS st) ∧ Below B w w' := by
  have HS := hide (step_any B b st w h hnx)
  go_enter Tryz.func51, Tryz.ntmps51
  go_wp2_with fail
  refine (unhide HS).mono ?_
  rintro e w1 ⟨rfl, ⟨v4, v5, v6, v7, v11, h1⟩, hb1⟩
  have hsz : (stepS st).token.size ≤ 2000 := Nat.le_trans (stepS_token_size st) h1.small.2.2.2.2.2
  generalize hst : stepS st = st1 at h1 hsz ⊢
  have HST := hide hst
  clear hst HS h
  have hc := h1.blk.cell
  have hf := h1.blk.free
  unfold rdArr at hc
  go_wp2_with fail
  refine (number_any st1.token w1 hsz).mono ?_
  rintro e w2 ⟨rfl, hw⟩
  obtain rfl := hw.symm
  clear hw
  go_wp2_with fail
  refine (plain_any st1.token w1).mono ?_
  rintro e w2 ⟨rfl, hb2⟩
  have h2 := h1.below_all hb2
  have hb3 := hb1.trans (hb2.mono (Nat.le_trans h1.base (Nat.le_of_lt h1.blk.lt)))
  clear hc hf h1 hb1 hb2
  have hc := h2.blk.cell
  have hf := h2.blk.free
  unfold rdArr at hc
  go_wp2_with fail
  refine (structure_any st1.token w2).mono ?_
  rintro e w3 ⟨rfl, hw⟩
  obtain rfl := hw.symm
  clear hw
  go_wp2_with fail
  refine (find_any B b st1 v4 v5 v6 v7 v11 w2 st1.token h2).mono ?_
  rintro e w3 ⟨rfl, hw⟩
  obtain rfl := hw.symm
  clear hw
  have HF := hide (fail_rd B b st1 v4 v5 v6 v7 v11 3 w2 h2)
  rcases bad_ways st1 with ⟨hbad, hw⟩ | ⟨hbad, e1, e2, e3, e4, e5⟩
  · have HB := hide hbad
    clear hbad
    rcases hw with e1 | ⟨e1, e2⟩ | ⟨e1, e2, e3⟩ | ⟨e1, e2, e3, e4⟩ | ⟨e1, e2, e3, e4, e5⟩
    all_goals
      go_wp2_with (go_at_call 32; refine (unhide HF).mono ?_; rintro e w3 ⟨rfl, h3, hb4⟩; have hc3 := h3.blk.cell; unfold rdArr at hc3)
      go_ret
      have e : newNameS st = failS st1 3 := by unfold newNameS; rw [unhide HST, unhide HB]; rfl
      rw [e]
      exact ⟨ret_string (by rw [unhide HST]; unfold failS; split <;> rfl), ⟨_, _, _, _, _, h3⟩, hb3.trans hb4⟩
  · have HB := hide hbad
    clear hbad
    go_wp2_with fail
    go_ret
    have e : newNameS st = st1 := by unfold newNameS; rw [unhide HST, unhide HB]; rfl
    rw [e]
    exact ⟨ret_string (by rw [unhide HST]), ⟨_, _, _, _, _, h2⟩, hb3⟩

end Go.Proofs.YtbcjfiaacenhgaaGreatDoor

