/- The reference's number. -/
import Derived.Test.YtmeiikjpaepogaaGreatDoorK02
import Derived.Test.YtmeiikjpaepogaaGreatDoorK05
namespace Go.Proofs.YtmeiikjpaepogaaGreatDoor
open Go Go.RowKit

def digB (c : UInt8) : Bool := decide (48 ≤ c.toNat) && decide (c.toNat ≤ 57)
def valS (l : List UInt8) : Nat := l.foldl (fun n c => n * 10 + (c.toNat - 48)) 0
/-- What a row of digits is worth, if it is some and at most so much. -/
def numFrom (D : List UInt8) (most : Nat) : Option Nat := if D = [] then none else if D.all digB && decide (valS D ≤ most) then some (valS D) else none
/-- What a token is worth. -/
def numS (s : ByteArray) : Option Int :=
  if s.toList.head? = some 45 then (numFrom s.toList.tail 9223372036854775808).map (fun n : Nat => -(n : Int)) else (numFrom s.toList 9223372036854775807).map (fun n : Nat => (n : Int))
def numV (s : ByteArray) : Int := (numS s).getD 0

theorem valS_snoc (l : List UInt8) (c : UInt8) : valS (l ++ [c]) = valS l * 10 + (c.toNat - 48) := by simp [valS]
theorem valS_fold_le (l : List UInt8) (n : Nat) : n ≤ l.foldl (fun n c => n * 10 + (c.toNat - 48)) n := by
  induction l generalizing n with
  | nil => exact Nat.le_refl _
  | cons c l ih => simp only [List.foldl_cons]; have := ih (n * 10 + (c.toNat - 48)); omega
theorem valS_take_le (l : List UInt8) (k : Nat) : valS (l.take k) ≤ valS l := by
  have h : valS l = (l.drop k).foldl (fun n c => n * 10 + (c.toNat - 48)) (valS (l.take k)) := by
    rw [valS, valS, ← List.foldl_append, List.take_append_drop]
  rw [h]; exact valS_fold_le _ _
theorem take_snoc' (l : List UInt8) (k : Nat) (c : UInt8) (h : l[k]? = some c) : l.take (k + 1) = l.take k ++ [c] := by
  obtain ⟨hlt, rfl⟩ := List.getElem?_eq_some_iff.1 h
  rw [List.take_succ_eq_append_getElem hlt]

theorem numFrom_bad (D : List UInt8) (most k : Nat) (c : UInt8) (h : D[k]? = some c) (hd : digB c = false) : numFrom D most = none := by
  unfold numFrom
  have : D.all digB = false := by
    rw [List.all_eq_false]
    exact ⟨c, List.mem_of_getElem? h, by simp [hd]⟩
  rw [this]; simp
theorem numFrom_over (D : List UInt8) (most k : Nat) (c : UInt8) (h : D[k]? = some c) (hd : most < valS (D.take k) * 10 + (c.toNat - 48)) : numFrom D most = none := by
  have h1 : valS (D.take (k + 1)) = valS (D.take k) * 10 + (c.toNat - 48) := by rw [take_snoc' D k c h, valS_snoc]
  have h2 := valS_take_le D (k + 1)
  unfold numFrom
  have : decide (valS D ≤ most) = false := by simp; omega
  rw [this]; simp
theorem numFrom_ok (D : List UInt8) (most : Nat) (hne : D ≠ []) (hd : ∀ (j : Nat) (c : UInt8), D[j]? = some c → digB c = true) (hv : valS D ≤ most) : numFrom D most = some (valS D) := by
  unfold numFrom
  have : D.all digB = true := by
    rw [List.all_eq_true]
    intro c hc
    obtain ⟨j, hj⟩ := List.getElem?_of_mem hc
    exact hd j c hj
  rw [if_neg hne, this]; simp [hv]

theorem bytes_at (s : ByteArray) (k : Nat) (h : k < s.size) : s.toList[k]? = some s[k] := by
  rw [ByteArray.toList_eq]
  have h' : k < s.data.size := h
  rw [Array.getElem?_toList, Array.getElem?_eq_getElem h']
  rfl
theorem bytes_len (s : ByteArray) : s.toList.length = s.size := by
  rw [ByteArray.toList_eq]; simp

theorem ret_num {a b : Int} {c d : Bool} (h : a = b) (h' : c = d) : Ending.returned (.tuple #[.int .i64 a, .bool c]) = .returned (.tuple #[.int .i64 b, .bool d]) := by rw [h, h']

def big63 : Int := 9223372036854775807

set_option maxRecDepth 100000 in
set_option maxHeartbeats 1000000 in
theorem number_plus (s : ByteArray) (w : World) (hs : s.size ≤ 2000) (h0 : 0 < s.size) (h1 : (((s[0]).toNat : Int) == 45) = false) (o : Option Nat) (ho : numFrom s.toList 9223372036854775807 = o) :
    Calls Tryz.prog 174 #[.string s] w fun e w' => e = .returned (.tuple #[.int .i64 ((o.map (fun n : Nat => (n : Int))).getD 0), .bool o.isSome]) ∧ w' = w := by
  have HO := V ho
  clear ho
  have hz : (0 : Int) < s.size := by omega
  go_enter Tryz.func174, Tryz.ntmps174
  go_wp2_with fail
  go_loop [6, 7] (fun n i => ∃ k v : Nat, k ≤ s.size ∧ i = .int .i64 k ∧ n = .int .u64 v ∧ v = valS (s.toList.take k) ∧ v ≤ 9223372036854775807 ∧ (∀ (j : Nat) (c : UInt8), j < k → s.toList[j]? = some c → digB c = true)) (fun _ i => s.size - (intOf i).toNat)
  case atStart => exact ⟨0, 0, by omega, rfl, rfl, rfl, by omega, fun j c hj => by omega⟩
  case round =>
    obtain ⟨k, v, hk, rfl, rfl, hv, hle, hd⟩ := hrel
    have HV := V hv
    have HD := V hd
    clear hv hd
    have hv0 : (v : Int) ≤ 9223372036854775807 := by omega
    have hk1 : (k : Int) ≤ 2000 := by omega
    by_cases hlt : k < s.size
    · have hat := bytes_at s k hlt
      have HA := V hat
      clear hat
      have hb : (s[k].toNat : Int) < 256 := by have := s[k].toNat_lt; omega
      have hb0 : (0 : Int) ≤ s[k].toNat := by omega
      by_cases hdig : 48 ≤ s[k].toNat ∧ s[k].toNat ≤ 57
      · obtain ⟨hd1, hd2⟩ := hdig
        have e1 : (48 : Int) ≤ s[k].toNat := by omega
        have e2 : (s[k].toNat : Int) ≤ 57 := by omega
        by_cases hov : v * 10 + (s[k].toNat - 48) ≤ 9223372036854775807
        · have hq : (v : Int) ≤ (9223372036854775807 - (s[k].toNat - 48)) / 10 := by omega
          go_wp2_with fail
          have e3 : ((v * 10 + (s[k].toNat - 48) : Nat) : Int) = (v : Int) * 10 + ((s[k].toNat : Int) - 48) := by omega
          refine ⟨⟨u2, u3, .int .u64 ((v : Int) * 10 + ((s[k].toNat : Int) - 48)), .int .i64 ((k : Int) + 1), ⟨k + 1, by omega, by go_num, v * 10 + (s[k].toNat - 48), by rw [e3], ?_, hov, ?_⟩, rfl, rfl, rfl, rfl⟩, by simp [intOf]; omega⟩
          · rw [take_snoc' _ _ _ (U HA), valS_snoc, ← U HV]
          · intro j c hj hc
            by_cases e : j = k
            · subst e
              rw [U HA] at hc
              obtain rfl := Option.some.inj hc
              simp [digB, hd1, hd2]
            · exact U HD j c (by omega) hc
        · have hq : (9223372036854775807 - ((s[k].toNat : Int) - 48)) / 10 < (v : Int) := by omega
          go_wp2_with fail
          go_ret2
          have hn := numFrom_over s.toList 9223372036854775807 k _ (U HA) (by rw [← U HV]; omega)
          rw [U HO] at hn
          subst hn
          exact ⟨rfl, rfl⟩
      · have hn := numFrom_bad s.toList 9223372036854775807 k _ (U HA) (by simp [digB]; omega)
        rw [U HO] at hn
        subst hn
        by_cases hlo : s[k].toNat < 48
        · have e1 : (s[k].toNat : Int) < 48 := by omega
          go_wp2_with fail
          go_ret2
          exact ⟨rfl, rfl⟩
        · have e1 : (57 : Int) < s[k].toNat := by omega
          go_wp2_with fail
          go_ret2
          exact ⟨rfl, rfl⟩
    · go_wp2_with fail
      go_ret2
      have e4 : s.toList.take k = s.toList := List.take_of_length_le (by rw [bytes_len]; omega)
      have hn := numFrom_ok s.toList 9223372036854775807 (by intro e; have := bytes_len s; rw [e] at this; simp at this; omega) (fun j c hc => U HD j c (by have := (List.getElem?_eq_some_iff.1 hc).1; rw [bytes_len] at this; omega) hc) (by rw [← e4, ← U HV]; exact hle)
      rw [U HO] at hn
      subst hn
      rw [← e4, ← U HV]
      exact ⟨ret_num (by simp) (by simp), rfl⟩

theorem wrap_neg (v : Nat) (h : v ≤ 9223372036854775808) : wrap64 (-wrap64 (v : Int)) = (Option.map (fun n : Nat => -(n : Int)) (some v)).getD 0 := by
  simp only [Option.map_some, Option.getD_some]
  unfold wrap64
  omega

theorem tail_at (s : ByteArray) (k : Nat) (h : k + 1 < s.size) : s.toList.tail[k]? = some s[k + 1] := by
  rw [List.getElem?_tail, bytes_at s (k + 1) h]

set_option maxRecDepth 100000 in
set_option maxHeartbeats 1000000 in
theorem number_minus (s : ByteArray) (w : World) (hs : s.size ≤ 2000) (h0 : 1 < s.size) (h1 : (((s[0]).toNat : Int) == 45) = true) (o : Option Nat) (ho : numFrom s.toList.tail 9223372036854775808 = o) :
    Calls Tryz.prog 174 #[.string s] w fun e w' => e = .returned (.tuple #[.int .i64 ((o.map (fun n : Nat => -(n : Int))).getD 0), .bool o.isSome]) ∧ w' = w := by
  have HO := V ho
  clear ho
  have hz : (1 : Int) < s.size := by omega
  have h20 : ((1 : Int) == (s.size : Int)) = false := by simp; omega
  go_enter Tryz.func174, Tryz.ntmps174
  go_wp2_with fail
  go_loop [6, 7] (fun n i => ∃ k v : Nat, k + 1 ≤ s.size ∧ i = .int .i64 ((k : Int) + 1) ∧ n = .int .u64 v ∧ v = valS (s.toList.tail.take k) ∧ v ≤ 9223372036854775808 ∧ (∀ (j : Nat) (c : UInt8), j < k → s.toList.tail[j]? = some c → digB c = true)) (fun _ i => s.size - (intOf i).toNat)
  case atStart => exact ⟨0, 0, by omega, rfl, rfl, rfl, by omega, fun j c hj => by omega⟩
  case round =>
    obtain ⟨k, v, hk, rfl, rfl, hv, hle, hd⟩ := hrel
    have HV := V hv
    have HD := V hd
    clear hv hd
    have hv0 : (v : Int) ≤ 9223372036854775808 := by omega
    have hk1 : (k : Int) ≤ 2000 := by omega
    by_cases hlt : k + 1 < s.size
    · have hat := tail_at s k hlt
      have HA := V hat
      clear hat
      have hb : (s[k + 1].toNat : Int) < 256 := by have := s[k + 1].toNat_lt; omega
      have hb0 : (0 : Int) ≤ s[k + 1].toNat := by omega
      by_cases hdig : 48 ≤ s[k + 1].toNat ∧ s[k + 1].toNat ≤ 57
      · obtain ⟨hd1, hd2⟩ := hdig
        have e1 : (48 : Int) ≤ s[k + 1].toNat := by omega
        have e2 : (s[k + 1].toNat : Int) ≤ 57 := by omega
        by_cases hov : v * 10 + (s[k + 1].toNat - 48) ≤ 9223372036854775808
        · have hq : (v : Int) ≤ (9223372036854775808 - (s[k + 1].toNat - 48)) / 10 := by omega
          go_wp2_with fail
          have e3 : ((v * 10 + (s[k + 1].toNat - 48) : Nat) : Int) = (v : Int) * 10 + ((s[k + 1].toNat : Int) - 48) := by omega
          go_round
          case rel =>
            refine ⟨k + 1, v * 10 + (s[k + 1].toNat - 48), by omega, by go_num, by rw [e3], ?_, hov, ?_⟩
            · rw [take_snoc' _ _ _ (U HA), valS_snoc, ← U HV]
            · intro j c hj hc
              by_cases e : j = k
              · subst e
                rw [U HA] at hc
                obtain rfl := Option.some.inj hc
                simp [digB, hd1, hd2]
              · exact U HD j c (by omega) hc
          case measure => simp [intOf]; omega
        · have hq : (9223372036854775808 - ((s[k + 1].toNat : Int) - 48)) / 10 < (v : Int) := by omega
          go_wp2_with fail
          go_ret2
          have hn := numFrom_over s.toList.tail 9223372036854775808 k _ (U HA) (by rw [← U HV]; omega)
          rw [U HO] at hn
          subst hn
          exact ⟨rfl, rfl⟩
      · have hn := numFrom_bad s.toList.tail 9223372036854775808 k _ (U HA) (by simp [digB]; omega)
        rw [U HO] at hn
        subst hn
        by_cases hlo : s[k + 1].toNat < 48
        · have e1 : (s[k + 1].toNat : Int) < 48 := by omega
          go_wp2_with fail
          go_ret2
          exact ⟨rfl, rfl⟩
        · have e1 : (57 : Int) < s[k + 1].toNat := by omega
          go_wp2_with fail
          go_ret2
          exact ⟨rfl, rfl⟩
    · go_wp2_with fail
      go_ret2
      have hlen : s.toList.tail.length = s.size - 1 := by simp [bytes_len]
      have e4 : s.toList.tail.take k = s.toList.tail := List.take_of_length_le (by rw [hlen]; omega)
      have hn := numFrom_ok s.toList.tail 9223372036854775808 (by intro e; rw [e] at hlen; simp at hlen; omega) (fun j c hc => U HD j c (by have := (List.getElem?_eq_some_iff.1 hc).1; rw [hlen] at this; omega) hc) (by rw [← e4, ← U HV]; exact hle)
      rw [U HO] at hn
      subst hn
      rw [← e4, ← U HV]
      refine ⟨ret_num ?_ (by simp), rfl⟩
      exact wrap_neg v hle

theorem toList_head (s : ByteArray) (h : 0 < s.size) : s.toList.head? = some s[0] := by
  rw [List.head?_eq_getElem?, bytes_at s 0 h]
theorem byte45 (b : UInt8) : ((b.toNat : Int) == 45) = true ↔ b = 45 := by
  simp only [beq_iff_eq]
  constructor
  · intro h
    have h' : b.toNat = 45 := by exact_mod_cast h
    have := UInt8.ofNat_toNat (x := b)
    rw [h'] at this
    exact this.symm
  · intro h; rw [h]; rfl

set_option maxHeartbeats 1000000 in
theorem number_any (s : ByteArray) (w : World) (hs : s.size ≤ 2000) :
    Calls Tryz.prog 174 #[.string s] w fun e w' => e = .returned (.tuple #[.int .i64 (numV s), .bool (numS s).isSome]) ∧ w' = w := by
  unfold numV numS
  by_cases h0 : 0 < s.size
  · rw [toList_head s h0]
    by_cases h1 : s[0] = 45
    · rw [if_pos (by rw [h1])]
      by_cases h2 : 1 < s.size
      · simpa using number_minus s w hs h2 ((byte45 _).2 h1) _ rfl
      · have ht : numFrom s.toList.tail 9223372036854775808 = none := by
          have hl : s.toList.tail.length = 0 := by simp [bytes_len]; omega
          rw [List.eq_nil_of_length_eq_zero hl]; rfl
        rw [ht]
        have h3 := (byte45 _).2 h1
        have h20 : ((1 : Int) == (s.size : Int)) = true := by simp; omega
        go_enter Tryz.func174, Tryz.ntmps174
        go_wp2_with fail
        go_ret2
        exact ⟨rfl, rfl⟩
    · rw [if_neg (by simpa using h1)]
      simpa using number_plus s w hs h0 (by rw [← Bool.not_eq_true, byte45]; exact h1) _ rfl
  · have hl : s.toList = [] := List.eq_nil_of_length_eq_zero (by rw [bytes_len]; omega)
    have h0' : ¬ (0 : Int) < s.size := by omega
    have hd : decide (0 < s.size) = false := by simpa using h0
    have h20 : ((0 : Int) == (s.size : Int)) = true := by simp; omega
    rw [hl]
    go_enter Tryz.func174, Tryz.ntmps174
    go_wp2_with fail
    go_ret2
    exact ⟨rfl, rfl⟩
def failS (st : RS) (e : Int) : RS := if st.err = 0 then { st with err := e, place := st.place0 } else st

theorem Rd.fail {B : Nat} {w : World} {b : Nat} {st : RS} {v4 v5 v6 v7 v11 : Value} (h : Rd B w b st v4 v5 v6 v7 v11) (e : Int) :
    Rd B (if st.err = 0 then (w.setCell ⟨b, 12, none⟩ (.int .i64 e)).setCell ⟨b, 13, none⟩ (.int .i64 st.place0) else w) b (failS st e) v4 v5 v6 v7 v11 := by
  unfold failS
  by_cases he : st.err = 0
  · rw [if_pos he, if_pos he]
    have h1 : Rd B (w.setCell ⟨b, 12, none⟩ (.int .i64 e)) b { st with err := e } v4 v5 v6 v7 v11 := h.set 12 _ _ (by simp [rdArr]) rfl ⟨rfl, rfl, rfl, rfl, rfl, rfl⟩
    exact h1.set 13 _ _ (by simp [rdArr]) rfl ⟨rfl, rfl, rfl, rfl, rfl, rfl⟩
  · rw [if_neg he, if_neg he]; exact h

theorem fail_rd (B b : Nat) (st : RS) (v4 v5 v6 v7 v11 : Value) (e0 : Int) (w : World) (h : Rd B w b st v4 v5 v6 v7 v11) :
    Calls Tryz.prog 130 #[.pointer (some ⟨b, 0, none⟩), .int .i64 e0] w fun e w' => e = .returned (.tuple #[]) ∧ Rd B w' b (failS st e0) v4 v5 v6 v7 v11 ∧ Below B w w' := by
  refine (fail_any B b st v4 v5 v6 v7 v11 e0 w h).mono ?_
  rintro e w' ⟨rfl, rfl⟩
  refine ⟨rfl, h.fail e0, ?_⟩
  split
  · exact ((Below.refl B w).setCell h.base _).setCell h.base _
  · exact Below.refl _ _

theorem Rd.below_all {B : Nat} {w w' : World} {b : Nat} {st : RS} {v4 v5 v6 v7 v11 : Value} (h : Rd B w b st v4 v5 v6 v7 v11) (hb : Below w.heap.size w w') : Rd B w' b st v4 v5 v6 v7 v11 :=
  ⟨h.blk.below hb h.blk.lt, h.base, h.owned.below_all hb, h.small⟩

/-- A token that may be no name. -/
def badName (st : RS) : Bool := st.token.toList.isEmpty || (numS st.token).isSome || decide (0 ≤ plainS st.token) || structS st.token || decide (0 ≤ findS st.names st.token)
def newNameS (st : RS) : RS := if badName (stepS st) then failS (stepS st) 3 else stepS st

theorem stepS_token_size (st : RS) : (stepS st).token.size ≤ st.s.size := by
  simp only [stepS, ByteArray.size_extract]
  omega

theorem bad_ways (st : RS) :
    (badName st = true ∧ (st.token.toList.isEmpty = true ∨ (st.token.toList.isEmpty = false ∧ (numS st.token).isSome = true) ∨ (st.token.toList.isEmpty = false ∧ (numS st.token).isSome = false ∧ 0 ≤ plainS st.token) ∨
      (st.token.toList.isEmpty = false ∧ (numS st.token).isSome = false ∧ plainS st.token < 0 ∧ structS st.token = true) ∨ (st.token.toList.isEmpty = false ∧ (numS st.token).isSome = false ∧ plainS st.token < 0 ∧ structS st.token = false ∧ 0 ≤ findS st.names st.token))) ∨
    (badName st = false ∧ st.token.toList.isEmpty = false ∧ (numS st.token).isSome = false ∧ plainS st.token < 0 ∧ structS st.token = false ∧ findS st.names st.token < 0) := by
  unfold badName
  cases st.token.toList.isEmpty <;> cases (numS st.token).isSome <;> cases structS st.token <;> by_cases hp : 0 ≤ plainS st.token <;> by_cases hf : 0 ≤ findS st.names st.token <;> simp_all <;> omega

set_option maxHeartbeats 1000000 in
theorem newName_any (B b : Nat) (st : RS) (w : World) (h : RdE B w b st) (hnx : st.next ≤ st.s.size) :
    Calls Tryz.prog 173 #[.pointer (some ⟨b, 0, none⟩)] w fun e w' => e = .returned (.string (stepS st).token) ∧ RdE B w' b (newNameS st) ∧ Below B w w' := by
  have HS := V (step_any B b st w h hnx)
  go_enter Tryz.func173, Tryz.ntmps173
  go_wp2_with fail
  refine (U HS).mono ?_
  rintro e w1 ⟨rfl, ⟨v4, v5, v6, v7, v11, h1⟩, hb1⟩
  have hsz : (stepS st).token.size ≤ 2000 := Nat.le_trans (stepS_token_size st) h1.small.2.2.2.2.2
  generalize hst : stepS st = st1 at h1 hsz ⊢
  have HST := V hst
  clear hst HS h
  have hc := h1.blk.cell
  have hf := h1.blk.free
  unfold rdArr at hc
  go_wp2_with fail
  refine (number_any st1.token w1 hsz).mono ?_
  rintro e w2 ⟨rfl, hw⟩
  obtain rfl := hw.symm
  clear hw
  go_wp2_with fail
  refine (plain_any st1.token w1).mono ?_
  rintro e w2 ⟨rfl, hb2⟩
  have h2 := h1.below_all hb2
  have hb3 := hb1.trans (hb2.mono (Nat.le_trans h1.base (Nat.le_of_lt h1.blk.lt)))
  clear hc hf h1 hb1 hb2
  have hc := h2.blk.cell
  have hf := h2.blk.free
  unfold rdArr at hc
  go_wp2_with fail
  refine (structure_any st1.token w2).mono ?_
  rintro e w3 ⟨rfl, hw⟩
  obtain rfl := hw.symm
  clear hw
  go_wp2_with fail
  refine (find_any B b st1 v4 v5 v6 v7 v11 w2 st1.token h2).mono ?_
  rintro e w3 ⟨rfl, hw⟩
  obtain rfl := hw.symm
  clear hw
  have HF := V (fail_rd B b st1 v4 v5 v6 v7 v11 3 w2 h2)
  rcases bad_ways st1 with ⟨hbad, hw⟩ | ⟨hbad, e1, e2, e3, e4, e5⟩
  · have HB := V hbad
    clear hbad
    rcases hw with e1 | ⟨e1, e2⟩ | ⟨e1, e2, e3⟩ | ⟨e1, e2, e3, e4⟩ | ⟨e1, e2, e3, e4, e5⟩
    all_goals
      go_wp2_with (go_at_call 130; refine (U HF).mono ?_; rintro e w3 ⟨rfl, h3, hb4⟩; have hc3 := h3.blk.cell; unfold rdArr at hc3)
      go_ret
      have e : newNameS st = failS st1 3 := by unfold newNameS; rw [U HST, U HB]; rfl
      rw [e]
      exact ⟨ret_string (by rw [U HST]; unfold failS; split <;> rfl), ⟨_, _, _, _, _, h3⟩, hb3.trans hb4⟩
  · have HB := V hbad
    clear hbad
    go_wp2_with fail
    go_ret
    have e : newNameS st = st1 := by unfold newNameS; rw [U HST, U HB]; rfl
    rw [e]
    exact ⟨ret_string (by rw [U HST]), ⟨_, _, _, _, _, h2⟩, hb3⟩
theorem grownBy_alloc' {w w1 : World} {o : Obj} {row : Option Nat} (h : (w.alloc o).grownBy w1 row) : w.grownBy w1 row := by
  refine ⟨h.os, h.tape, h.output, Nat.le_trans ?_ h.size, fun k hk hr => ?_⟩
  · simp
  · rw [h.block k (by simp; omega) hr]
    exact Below.heap_alloc _ _ _ hk

theorem Rd.grow {B : Nat} {w w1 : World} {b : Nat} {st : RS} {v4 v5 v6 v7 v11 : Value} (h : Rd B w b st v4 v5 v6 v7 v11) (i c : Nat) (v v' : Value) (s' : RowSpec) (st' : RS) (u4 u5 u6 u7 u11 : Value)
    (hv : [v4, v5, v6, v7, v11][i]? = some v) (hw1 : w.grownBy w1 v.ownBlock) (hown : w1.ownsRow B s'.e s'.size v' s'.n s'.xs) (hat : v'.ownBlock = v.ownBlock ∨ ∃ g, v'.ownBlock = some g ∧ w.heap.size ≤ g)
    (ha : (rdArr st v4 v5 v6 v7 v11).setIfInBounds c v' = rdArr st' u4 u5 u6 u7 u11) (hvs : [v4, v5, v6, v7, v11].set i v' = [u4, u5, u6, u7, u11]) (hr : (rdRows st).set i s' = rdRows st')
    (hs : st'.c0.length ≤ 4000 ∧ st'.c1.length ≤ 4000 ∧ st'.names.length ≤ 4000 ∧ st'.opens.length ≤ 4000 ∧ st'.heads.length ≤ 4000 ∧ st'.s.size ≤ 2000) :
    Rd B (w1.setCell ⟨b, c, none⟩ v') b st' u4 u5 u6 u7 u11 := by
  have hlt := h.blk.lt
  refine ⟨?_, h.base, ?_, hs⟩
  · rw [← ha]; exact (h.blk.grown hw1 (h.ne i v hv)).set c v'
  · rw [← hvs, ← hr]; exact (h.owned.grow i v v' s' hv (by simp; exact hlt) hw1 hown hat).set (b := b) (by simp) c v'

theorem Rd.grow6 {B : Nat} {w w1 : World} {b : Nat} {st : RS} {v4 v5 v6 v7 v11 : Value} (h : Rd B w b st v4 v5 v6 v7 v11) {x : ByteArray × Int × Int} {g cap H : Nat} (hlen : st.names.length < 4000) (hw1 : w.grownBy w1 v6.ownBlock)
    (hown : w1.ownsRow B 223 3 (.slice (some ⟨g, 0, none⟩) (st.names.length + 1) cap) (st.names.length + 1) (nameCells st.names ++ [.string x.1, .int .i64 x.2.1, .int .i64 x.2.2])) (hat : v6.ownBlock = some g ∨ g = H) (hH : w.heap.size ≤ H) :
    Rd B (w1.setCell ⟨b, 6, none⟩ (.slice (some ⟨g, 0, none⟩) (st.names.length + 1) cap)) b { st with names := st.names ++ [x] } v4 v5 (.slice (some ⟨g, 0, none⟩) (st.names.length + 1) cap) v7 v11 :=
  h.grow 2 6 v6 _ ⟨223, 3, st.names.length + 1, _⟩ _ _ _ _ _ _ rfl hw1 hown (lies_at hat hH) (by simp [rdArr]) rfl (by simp [rdRows, nameCells]) (by have := h.small; simp; omega)

theorem Rd.grow7 {B : Nat} {w w1 : World} {b : Nat} {st : RS} {v4 v5 v6 v7 v11 : Value} (h : Rd B w b st v4 v5 v6 v7 v11) {x : ByteArray × Int × Int} {g cap H : Nat} (hlen : st.opens.length < 4000) (hw1 : w.grownBy w1 v7.ownBlock)
    (hown : w1.ownsRow B 225 3 (.slice (some ⟨g, 0, none⟩) (st.opens.length + 1) cap) (st.opens.length + 1) (nameCells st.opens ++ [.string x.1, .int .i64 x.2.1, .int .i64 x.2.2])) (hat : v7.ownBlock = some g ∨ g = H) (hH : w.heap.size ≤ H) :
    Rd B (w1.setCell ⟨b, 7, none⟩ (.slice (some ⟨g, 0, none⟩) (st.opens.length + 1) cap)) b { st with opens := st.opens ++ [x] } v4 v5 v6 (.slice (some ⟨g, 0, none⟩) (st.opens.length + 1) cap) v11 :=
  h.grow 3 7 v7 _ ⟨225, 3, st.opens.length + 1, _⟩ _ _ _ _ _ _ rfl hw1 hown (lies_at hat hH) (by simp [rdArr]) rfl (by simp [rdRows, nameCells]) (by have := h.small; simp; omega)

theorem Rd.grow11 {B : Nat} {w w1 : World} {b : Nat} {st : RS} {v4 v5 v6 v7 v11 : Value} (h : Rd B w b st v4 v5 v6 v7 v11) {x : Int} {g cap H : Nat} (hlen : st.heads.length < 4000) (hw1 : w.grownBy w1 v11.ownBlock)
    (hown : w1.ownsRow B 3 1 (.slice (some ⟨g, 0, none⟩) (st.heads.length + 1) cap) (st.heads.length + 1) (st.heads.map (Value.int .i64) ++ [.int .i64 x])) (hat : v11.ownBlock = some g ∨ g = H) (hH : w.heap.size ≤ H) :
    Rd B (w1.setCell ⟨b, 11, none⟩ (.slice (some ⟨g, 0, none⟩) (st.heads.length + 1) cap)) b { st with heads := st.heads ++ [x] } v4 v5 v6 v7 (.slice (some ⟨g, 0, none⟩) (st.heads.length + 1) cap) :=
  h.grow 4 11 v11 _ ⟨3, 1, st.heads.length + 1, _⟩ _ _ _ _ _ _ rfl hw1 hown (lies_at hat hH) (by simp [rdArr]) rfl (by simp [rdRows]) (by have := h.small; simp; omega)

theorem Tryz.infoName : (Tryz.prog.info? 223).map (fun i => (i.zero, i.size, i.bytes)) = some (some (.agg #[.string ⟨#[]⟩, .int .i64 0, .int .i64 0]), 3, 32) := by kernel_rfl
theorem Tryz.infoOpen : (Tryz.prog.info? 225).map (fun i => (i.zero, i.size, i.bytes)) = some (some (.agg #[.string ⟨#[]⟩, .int .i64 0, .int .i64 0]), 3, 32) := by kernel_rfl
theorem Tryz.infoInt : (Tryz.prog.info? 3).map (fun i => (i.zero, i.size, i.bytes)) = some (some (.int .i64 0), 1, 8) := by kernel_rfl

theorem oneCells3 (s : ByteArray) (a b : Int) : ∀ u ∈ [Value.string s, Value.int .i64 a, Value.int .i64 b], u.oneCell' = true := by
  intro u hu
  simp at hu
  rcases hu with rfl | rfl | rfl <;> rfl
theorem oneCells1 (a : Int) : ∀ u ∈ [Value.int .i64 a], u.oneCell' = true := by
  intro u hu
  simp at hu
  subst hu; rfl
set_option maxRecDepth 100000 in
set_option maxHeartbeats 1000000 in
theorem define_semi_no (B b : Nat) (st : RS) (w : World) (h : RdE B w b st) (ht : (st.token.toList == [59]) = true) (hno : st.start < 0 ∨ st.opens ≠ []) :
    Calls Tryz.prog 127 #[.pointer (some ⟨b, 0, none⟩)] w fun e w' => e = .returned (.tuple #[]) ∧ RdE B w' b (failS st 4) ∧ Below B w w' := by
  obtain ⟨v4, v5, v6, v7, v11, h⟩ := h
  have HF := V (fail_rd B b st v4 v5 v6 v7 v11 4 w h)
  obtain ⟨a7, k7, rfl⟩ := own_shape h.o7
  have hc := h.blk.cell
  have hf := h.blk.free
  unfold rdArr at hc
  have hs : (st.opens.length : Int) ≤ 4000 := by have := h.small; omega
  by_cases hst : st.start < 0
  · go_enter Tryz.func127, Tryz.ntmps127
    go_wp2_with (go_at_call 130; refine (U HF).mono ?_; rintro e w3 ⟨rfl, h3, hb4⟩)
    refine bodyPost_ret (results_none rfl _ _ _) rfl ?_
    exact ⟨rfl, ⟨_, _, _, _, _, h3⟩, hb4⟩
  · have hst' : 0 ≤ st.start := by omega
    have hl : (0 : Int) < st.opens.length := by
      rcases hno with e | e
      · omega
      · have := List.length_pos_iff.2 e; omega
    go_enter Tryz.func127, Tryz.ntmps127
    go_wp2_with (go_at_call 130; refine (U HF).mono ?_; rintro e w3 ⟨rfl, h3, hb4⟩)
    refine bodyPost_ret (results_none rfl _ _ _) rfl ?_
    exact ⟨rfl, ⟨_, _, _, _, _, h3⟩, hb4⟩

def semiS (st : RS) : RS := { putS st 4 0 with names := (putS st 4 0).names ++ [((putS st 4 0).name, 3, (putS st 4 0).start)], start := -1 }

theorem Rd.start {B : Nat} {w : World} {b : Nat} {st : RS} {v4 v5 v6 v7 v11 : Value} (h : Rd B w b st v4 v5 v6 v7 v11) (k : Int) : Rd B (w.setCell ⟨b, 8, none⟩ (.int .i64 k)) b { st with start := k } v4 v5 v6 v7 v11 :=
  h.set 8 _ _ (by simp [rdArr]) rfl ⟨rfl, rfl, rfl, rfl, rfl, rfl⟩

set_option maxRecDepth 100000 in
set_option maxHeartbeats 1000000 in
theorem define_semi (B b : Nat) (st : RS) (w : World) (h : RdE B w b st) (ht : (st.token.toList == [59]) = true) (hst : 0 ≤ st.start) (hop : st.opens = []) (hlen : st.c0.length < 4000 ∧ st.c1.length < 4000) (hnm : st.names.length < 4000) :
    Calls Tryz.prog 127 #[.pointer (some ⟨b, 0, none⟩)] w fun e w' => e = .returned (.tuple #[]) ∧ RdE B w' b (semiS st) ∧ Below B w w' := by
  obtain ⟨i0, hi, hz0, hz1, hz2⟩ := info_parts Tryz.infoName
  have HP := V (put_any B b st 4 0 w h hlen)
  have hnm1 : (putS st 4 0).names.length < 4000 := by unfold putS; split <;> exact hnm
  unfold semiS
  generalize putS st 4 0 = st1 at HP hnm1 ⊢
  obtain ⟨v4, v5, v6, v7, v11, h⟩ := h
  obtain ⟨a7, k7, rfl⟩ := own_shape h.o7
  have hc := h.blk.cell
  have hf := h.blk.free
  unfold rdArr at hc
  rw [hop] at hc
  go_enter Tryz.func127, Tryz.ntmps127
  go_wp2_with fail
  refine (U HP).mono ?_
  rintro e w1 ⟨rfl, ⟨v4, v5, v6, v7, v11, h1⟩, hb1⟩
  clear HP hc hf h
  have hlt := h1.blk.lt
  have hc := h1.blk.cell
  have hf := h1.blk.free
  unfold rdArr at hc
  have HB := V h1.blk
  unfold rdArr at HB
  have hne := h1.ne 2 v6 rfl
  have HW := V (ownsRow_alloc h1.o6 (.cells #[.string st1.name, .int .i64 3, .int .i64 st1.start] 223))
  have hBs : B ≤ (w1.alloc (.cells #[.string st1.name, .int .i64 3, .int .i64 st1.start] 223)).drew.heap.size := by
    have := h1.base
    show B ≤ (w1.alloc _).heap.size
    simp; omega
  have HBs := V hBs
  clear hBs
  go_wp2_with fail
  go_region_law (refine step_append_lies _ rfl (.tmp 36) (.tmp 47) 175 rfl B 223 i0 _ 3 32 Tryz.underlying175 hi hz0 hz1 hz2 rfl (by decide) v6 st1.names.length (nameCells st1.names) (by simp [Act.eval]) (U HW) ⟨w1.heap.size, 0, none⟩ 1 1 [.string st1.name, .int .i64 3, .int .i64 st1.start] (by simp [Act.eval]) rfl (World.news_of_block (Blk.new w1 _ _)) (oneCells3 _ _ _) (by omega) (by unfold maxLen; omega) (by omega) (U HBs) _ rfl ?_; intro g cap w2 hown hgrow hat hlt1; have hb1 := ((U HB).alloc _).drew.grown hgrow hne; have hc1 := hb1.cell; have hf1 := hb1.free; have HO := V hown; have HG := V hgrow; have HA := V hat; clear hown hgrow hat hb1)
  all_goals
    go_wp2
    refine bodyPost_ret (results_none rfl _ _ _) rfl ?_
    refine ⟨rfl, ⟨_, _, _, _, _, (h1.grow6 (x := (st1.name, 3, st1.start)) hnm1 (grownBy_alloc (U HG)) (U HO) (U HA) (by simp)).start (-1)⟩, ?_⟩
    exact hb1.trans (((below_grown_alloc (by have := h1.base; omega) (fun k hk => (ownsRow_lt h1.o6 hk).2) (U HG)).setCell h1.base _).setCell h1.base _)
set_option maxRecDepth 100000 in
set_option maxHeartbeats 1000000 in
theorem define_nest (B b : Nat) (st : RS) (w : World) (h : RdE B w b st) (ht : (st.token.toList == [59]) = false) (hno : 0 ≤ st.start ∨ st.opens ≠ []) :
    Calls Tryz.prog 127 #[.pointer (some ⟨b, 0, none⟩)] w fun e w' => e = .returned (.tuple #[]) ∧ RdE B w' b (failS st 4) ∧ Below B w w' := by
  obtain ⟨v4, v5, v6, v7, v11, h⟩ := h
  have HF := V (fail_rd B b st v4 v5 v6 v7 v11 4 w h)
  obtain ⟨a7, k7, rfl⟩ := own_shape h.o7
  have hc := h.blk.cell
  have hf := h.blk.free
  unfold rdArr at hc
  have hs : (st.opens.length : Int) ≤ 4000 := by have := h.small; omega
  by_cases hst : 0 ≤ st.start
  · go_enter Tryz.func127, Tryz.ntmps127
    go_wp2_with (go_at_call 130; refine (U HF).mono ?_; rintro e w3 ⟨rfl, h3, hb4⟩)
    refine bodyPost_ret (results_none rfl _ _ _) rfl ?_
    exact ⟨rfl, ⟨_, _, _, _, _, h3⟩, hb4⟩
  · have hst' : st.start < 0 := by omega
    have hl : (0 : Int) < st.opens.length := by
      rcases hno with e | e
      · omega
      · have := List.length_pos_iff.2 e; omega
    go_enter Tryz.func127, Tryz.ntmps127
    go_wp2_with (go_at_call 130; refine (U HF).mono ?_; rintro e w3 ⟨rfl, h3, hb4⟩)
    refine bodyPost_ret (results_none rfl _ _ _) rfl ?_
    exact ⟨rfl, ⟨_, _, _, _, _, h3⟩, hb4⟩

set_option maxRecDepth 100000 in
set_option maxHeartbeats 1000000 in
theorem define_bad (B b : Nat) (st : RS) (w : World) (h : RdE B w b st) (hnx : st.next ≤ st.s.size) (ht : (st.token.toList == [59]) = false) (hst : st.start < 0) (hop : st.opens = []) (hbad : (newNameS st).err ≠ 0) :
    Calls Tryz.prog 127 #[.pointer (some ⟨b, 0, none⟩)] w fun e w' => e = .returned (.tuple #[]) ∧ RdE B w' b (newNameS st) ∧ Below B w w' := by
  have HN := V (newName_any B b st w h hnx)
  have hbad' : ((newNameS st).err != 0) = true := by simpa using hbad
  clear hbad
  generalize newNameS st = st1 at HN hbad' ⊢
  obtain ⟨v4, v5, v6, v7, v11, h⟩ := h
  obtain ⟨a7, k7, rfl⟩ := own_shape h.o7
  have hc := h.blk.cell
  have hf := h.blk.free
  unfold rdArr at hc
  rw [hop] at hc
  go_enter Tryz.func127, Tryz.ntmps127
  go_wp2_with fail
  refine (U HN).mono ?_
  rintro e w1 ⟨rfl, ⟨v4, v5, v6, v7, v11, h1⟩, hb1⟩
  clear HN hc hf h
  have hc := h1.blk.cell
  have hf := h1.blk.free
  unfold rdArr at hc
  go_wp2_with fail
  refine bodyPost_ret (results_none rfl _ _ _) rfl ?_
  exact ⟨rfl, ⟨_, _, _, _, _, h1⟩, hb1⟩

theorem Rd.named {B : Nat} {w : World} {b : Nat} {st : RS} {v4 v5 v6 v7 v11 : Value} (h : Rd B w b st v4 v5 v6 v7 v11) (k : ByteArray) : Rd B (w.setCell ⟨b, 9, none⟩ (.string k)) b { st with name := k } v4 v5 v6 v7 v11 :=
  h.set 9 _ _ (by simp [rdArr]) rfl ⟨rfl, rfl, rfl, rfl, rfl, rfl⟩
theorem Rd.celled {B : Nat} {w : World} {b : Nat} {st : RS} {v4 v5 v6 v7 v11 : Value} (h : Rd B w b st v4 v5 v6 v7 v11) (k : Int) : Rd B (w.setCell ⟨b, 10, none⟩ (.int .i64 k)) b { st with cells := k } v4 v5 v6 v7 v11 :=
  h.set 10 _ _ (by simp [rdArr]) rfl ⟨rfl, rfl, rfl, rfl, rfl, rfl⟩

def colonS (st : RS) (t : ByteArray) : RS := { st with name := t, start := st.c0.length, heads := st.heads ++ [(st.c0.length : Int)] }

set_option maxRecDepth 100000 in
set_option maxHeartbeats 1000000 in
theorem define_colon (B b : Nat) (st : RS) (w : World) (h : RdE B w b st) (hnx : st.next ≤ st.s.size) (ht : st.token = ⟨#[58]⟩) (hst : st.start < 0) (hop : st.opens = []) (hok : (newNameS st).err = 0) (hh : (newNameS st).heads.length < 4000) :
    Calls Tryz.prog 127 #[.pointer (some ⟨b, 0, none⟩)] w fun e w' => e = .returned (.tuple #[]) ∧ RdE B w' b (colonS (newNameS st) (stepS st).token) ∧ Below B w w' := by
  obtain ⟨i0, hi, hz0, hz1, hz2⟩ := info_parts Tryz.infoInt
  have HN := V (newName_any B b st w h hnx)
  have hok' : ((newNameS st).err != 0) = false := by simpa using hok
  clear hok
  generalize newNameS st = st1 at HN hok' hh ⊢
  generalize (stepS st).token = tk at HN ⊢
  obtain ⟨v4, v5, v6, v7, v11, h⟩ := h
  obtain ⟨a7, k7, rfl⟩ := own_shape h.o7
  have hc := h.blk.cell
  have hf := h.blk.free
  unfold rdArr at hc
  rw [hop, ht] at hc
  go_enter Tryz.func127, Tryz.ntmps127
  go_wp2_with fail
  refine (U HN).mono ?_
  rintro e w1 ⟨rfl, ⟨v4, v5, v6, v7, v11, h1⟩, hb1⟩
  clear HN hc hf h
  obtain ⟨a4, k4, rfl⟩ := own_shape h1.o4
  have hlt := h1.blk.lt
  have hc := h1.blk.cell
  have hf := h1.blk.free
  unfold rdArr at hc
  go_wp2_with fail
  have h2 := (h1.named tk).start st1.c0.length
  have hb2 := (hb1.setCell h1.base (p := ⟨b, 9, none⟩) (.string tk)).setCell h1.base (p := ⟨b, 8, none⟩) (.int .i64 st1.c0.length)
  generalize hw2 : ((w1.setCell ⟨b, 9, none⟩ (.string tk)).setCell ⟨b, 8, none⟩ (.int .i64 st1.c0.length)) = w2 at h2 hb2 ⊢
  clear hw2 hc hf hb1 h1 hlt
  have hlt := h2.blk.lt
  have hc := h2.blk.cell
  have hf := h2.blk.free
  unfold rdArr at hc
  have HB := V h2.blk
  unfold rdArr at HB
  have hne := h2.ne 4 v11 rfl
  have HW := V (ownsRow_alloc h2.o11 (.cells #[.int .i64 st1.c0.length] 3))
  have hBs : B ≤ (w2.alloc (.cells #[.int .i64 st1.c0.length] 3)).drew.heap.size := by
    have := h2.base
    show B ≤ (w2.alloc _).heap.size
    simp; omega
  have HBs := V hBs
  clear hBs
  go_region_law (refine step_append_lies _ rfl (.tmp 92) (.tmp 97) 115 rfl B 3 i0 _ 1 8 Tryz.underlying115 hi hz0 hz1 hz2 rfl (by decide) v11 st1.heads.length (st1.heads.map (Value.int .i64)) (by simp [Act.eval]) (U HW) ⟨w2.heap.size, 0, none⟩ 1 1 [.int .i64 st1.c0.length] (by simp [Act.eval]) rfl (World.news_of_block (Blk.new w2 _ _)) (oneCells1 _) (by omega) (by unfold maxLen; omega) (by omega) (U HBs) _ rfl ?_; intro g cap w3 hown hgrow hat hlt1; have hb1 := ((U HB).alloc _).drew.grown hgrow hne; have hc1 := hb1.cell; have hf1 := hb1.free; have HO := V hown; have HG := V hgrow; have HA := V hat; clear hown hgrow hat hb1)
  all_goals
    go_wp2
    go_end0
    refine ⟨rfl, ⟨_, _, _, _, _, h2.grow11 (x := (st1.c0.length : Int)) hh (grownBy_alloc (U HG)) (U HO) (U HA) (by simp)⟩, ?_⟩
    exact hb2.trans ((below_grown_alloc (by have := h2.base; omega) (fun k hk => (ownsRow_lt h2.o11 hk).2) (U HG)).setCell h2.base _)
end Go.Proofs.YtmeiikjpaepogaaGreatDoor
