/- The reference's machine: Parts, aside, two, Digits. -/
import Derived.Test.YtmeiikjpaepogaaGreatDoorK02
import Derived.Test.YtmeiikjpaepogaaGreatDoorK01
import Derived.Lib.SmallJoins
namespace Go.Proofs.YtmeiikjpaepogaaGreatDoor
open Go Go.RowKit

def partsTab : List (Int × List Int) := [(40, [0, 9]), (41, [0, 10]), (42, [0, 11]), (43, [0, 20]), (44, [0, 30]), (45, [0, 29]), (46, [0, 9, 30]), (47, [21, 30]), (48, [21, 11]), (49, [21, 21]), (50, [21, 24]), (51, [21, 0, 19]), (52, [22, 22]), (53, [22, 21]), (54, [23, 22]), (55, [23, 24]), (56, [24, 24]), (57, [24, 9]), (58, [24, 24, 20]), (59, [30, 9])]
def partsS (op : Int) : List Int := match partsTab.find? (fun x => op == x.1) with | some x => x.2 | none => if 0 ≤ op ∧ op ≤ 32 then [op] else []

theorem own_lit (w : World) (e : TypeId) (cs : Array Value) (n : Nat) (hn : cs.size = n) (hm : n ≤ maxLen) : (w.alloc (.cells cs e)).ownsRow w.heap.size e 1 (.slice (some ⟨w.heap.size, 0, none⟩) n n) n cs.toList := by
  refine ⟨by simp [hn], Or.inr ⟨w.heap.size, n, cs, rfl, Nat.le_refl _, Blk.new w cs e, Nat.le_refl _, hm, by omega, ?_⟩⟩
  rw [List.take_of_length_le (by simp; omega)]

theorem parts_leaf {w : World} {e : Ending} {w' : World} {op : Int} (cs : Array Value) (n : Nat) (he : e = .returned (.slice (some ⟨w.heap.size, 0, none⟩) n n)) (hw : w' = w.alloc (.cells cs 3)) (hn : cs.size = n) (hm : n ≤ 3) (hcs : cs.toList = (partsS op).map (Value.int .i64)) :
    ∃ v, e = .returned v ∧ w'.ownsRow w.heap.size 3 1 v (partsS op).length ((partsS op).map (Value.int .i64)) ∧ Below w.heap.size w w' := by
  subst he hw
  refine ⟨_, rfl, ?_, (Below.refl _ _).alloc (Nat.le_refl _) _⟩
  have hl : (partsS op).length = n := by
    have := congrArg List.length hcs
    simp at this
    omega
  rw [← hcs, hl]
  exact own_lit w 3 cs n hn (by unfold maxLen; omega)

set_option maxRecDepth 100000 in
set_option maxHeartbeats 1000000 in
theorem parts_any (op : Int) (w : World) :
    Calls Tryz.prog 131 #[.int .i64 op] w fun e w' => ∃ v, e = .returned v ∧ w'.ownsRow w.heap.size 3 1 v (partsS op).length ((partsS op).map (Value.int .i64)) ∧ Below w.heap.size w w' := by
  go_enter Tryz.func131, Tryz.ntmps131
  go_wp2
  all_goals go_ret
  all_goals first
    | exact parts_leaf _ _ rfl rfl rfl (by decide) (by simp_all [partsS, partsTab])
    | (refine ⟨_, rfl, ?_, Below.refl _ _⟩; have hp : partsS op = [] := by simp_all [partsS, partsTab] <;> omega
       rw [hp]; exact World.ownsRow_nil _ _ _ _)

def asideS (op : Int) : Int × Int :=
  if op = 8 ∨ op = 28 then (1, 0) else if op = 27 then (1, -1) else if op = 26 then (0, 1) else if op = 6 then (0, 2) else if op = 7 then (2, 0) else (0, 0)

set_option maxHeartbeats 1000000 in
theorem aside_any (op : Int) (w : World) :
    Calls Tryz.prog 210 #[.int .i64 op] w fun e w' => e = .returned (.tuple #[.int .i64 (asideS op).1, .int .i64 (asideS op).2]) ∧ w' = w := by
  go_enter Tryz.func210, Tryz.ntmps210
  go_wp2
  all_goals (go_ret2; refine ⟨ret_two ?_ ?_, rfl⟩ <;> simp_all [asideS])
def divS (a b : Int) : Int := if b = -1 then wrap64 (-a) else if a.tmod b < 0 ∧ 0 < b ∨ 0 < a.tmod b ∧ b < 0 then a.tdiv b - 1 else a.tdiv b
def modS (a b : Int) : Int := if b = -1 then 0 else if a.tmod b < 0 ∧ 0 < b ∨ 0 < a.tmod b ∧ b < 0 then a.tmod b + b else a.tmod b
def truthS (b : Bool) : Int := if b then -1 else 0

theorem div_facts (a b : Int) (h0 : b ≠ 0) (h1 : b ≠ -1) (ha : -9223372036854775808 ≤ a ∧ a ≤ 9223372036854775807) (hb : -9223372036854775808 ≤ b ∧ b ≤ 9223372036854775807) :
    wrap64 (a.tdiv b) = a.tdiv b ∧ wrap64 (a.tdiv b * b) = a.tdiv b * b ∧ wrap64 (a - a.tdiv b * b) = a.tmod b ∧ -9223372036854775808 ≤ a.tdiv b ∧ a.tdiv b ≤ 9223372036854775807 ∧ (a.tmod b < 0 ∧ 0 < b ∨ 0 < a.tmod b ∧ b < 0 → -9223372036854775807 ≤ a.tdiv b ∧ -9223372036854775808 ≤ a.tmod b + b ∧ a.tmod b + b ≤ 9223372036854775807) := by
  have hm := Int.tmod_add_mul_tdiv a b
  have hd : a.tdiv b * b = a - a.tmod b := by rw [Int.mul_comm]; omega
  have habs : (a.tmod b).natAbs < b.natAbs := by
    rw [Int.natAbs_tmod]
    exact Nat.mod_lt _ (by omega)
  have habs2 : (a.tmod b).natAbs ≤ a.natAbs := by rw [Int.natAbs_tmod]; exact Nat.mod_le _ _
  have hq : (a.tdiv b).natAbs = a.natAbs / b.natAbs := Int.natAbs_tdiv a b
  have hs : (0 ≤ a → 0 ≤ a.tmod b) ∧ (a ≤ 0 → a.tmod b ≤ 0) := ⟨fun h => Int.tmod_nonneg b h, fun h => by
    have := Int.tmod_nonneg b (show 0 ≤ -a by omega)
    rw [Int.neg_tmod] at this
    omega⟩
  have hd2 : a - a.tdiv b * b = a.tmod b := by omega
  have hq3 : -9223372036854775808 ≤ a.tdiv b ∧ a.tdiv b ≤ 9223372036854775807 ∧ (b = 1 ∨ -9223372036854775807 ≤ a.tdiv b) := by
    by_cases hb1 : b = 1
    · subst hb1
      rw [Int.tdiv_one]
      exact ⟨ha.1, ha.2, Or.inl rfl⟩
    · have e : 2 ≤ b.natAbs := by omega
      have h2 : a.natAbs ≤ 9223372036854775808 := by omega
      have h3 := Nat.div_le_div_left e (by omega : 0 < 2) (a := a.natAbs)
      rw [← hq] at h3
      exact ⟨by omega, by omega, Or.inr (by omega)⟩
  refine ⟨?_, ?_, ?_, hq3.1, hq3.2.1, ?_⟩
  · unfold wrap64; omega
  · rw [hd]; unfold wrap64; omega
  · rw [hd2]; unfold wrap64; omega
  · intro hf
    refine ⟨?_, by omega, by omega⟩
    rcases hq3.2.2 with e | e
    · subst e; omega
    · exact e

def twoS (op a b : Int) : Int :=
  if op = 9 then wrap64 (a + b) else if op = 10 then wrap64 (a - b) else if op = 11 then wrap64 (a * b)
  else if op = 14 then bits .and .i64 a b else if op = 15 then bits .or .i64 a b else if op = 16 then bits .xor .i64 a b
  else if op = 19 then truthS (a == b) else if op = 20 then truthS (decide (a < b)) else if op = 13 then modS a b else divS a b

set_option maxRecDepth 100000 in
set_option maxHeartbeats 1000000 in
theorem two_plain (op a b : Int) (w : World) (hop : op = 9 ∨ op = 10 ∨ op = 11 ∨ op = 14 ∨ op = 15 ∨ op = 16) :
    Calls Tryz.prog 214 #[.int .i64 op, .int .i64 a, .int .i64 b] w fun e w' => e = .returned (.int .i64 (twoS op a b)) ∧ w' = w := by
  rcases hop with rfl | rfl | rfl | rfl | rfl | rfl
  all_goals
    go_enter Tryz.func214, Tryz.ntmps214
    go_wp2
    go_ret
    exact ⟨rfl, rfl⟩

set_option maxRecDepth 100000 in
set_option maxHeartbeats 1000000 in
theorem two_truth (op a b : Int) (w : World) (hop : op = 19 ∨ op = 20) :
    Calls Tryz.prog 214 #[.int .i64 op, .int .i64 a, .int .i64 b] w fun e w' => e = .returned (.int .i64 (twoS op a b)) ∧ w' = w := by
  rcases hop with rfl | rfl
  all_goals
    go_enter Tryz.func214, Tryz.ntmps214
    go_wp2_with (go_at_call 232; refine (truth_any _ _).mono ?_; rintro e w1 ⟨rfl, hw⟩; obtain rfl := hw.symm; clear hw)
    all_goals (go_ret; refine ⟨ret_int ?_, rfl⟩; simp_all [twoS, truthS])

set_option maxRecDepth 100000 in
set_option maxHeartbeats 1000000 in
theorem two_div (op a b : Int) (w : World) (hop : op = 12 ∨ op = 13) (h0 : b ≠ 0) (ha : -9223372036854775808 ≤ a ∧ a ≤ 9223372036854775807) (hb : -9223372036854775808 ≤ b ∧ b ≤ 9223372036854775807) :
    Calls Tryz.prog 214 #[.int .i64 op, .int .i64 a, .int .i64 b] w fun e w' => e = .returned (.int .i64 (twoS op a b)) ∧ w' = w := by
  by_cases h1 : b = -1
  · subst h1
    rcases hop with rfl | rfl
    all_goals
      go_enter Tryz.func214, Tryz.ntmps214
      go_wp2
      go_ret
      exact ⟨rfl, rfl⟩
  · obtain ⟨e1, e2, e3, e4, e5, e6⟩ := div_facts a b h0 h1 ha hb
    have h1' : (b == -1) = false := by simpa using h1
    by_cases hf : a.tmod b < 0 ∧ 0 < b ∨ 0 < a.tmod b ∧ b < 0
    · have hdv : divS a b = a.tdiv b - 1 := by unfold divS; rw [if_neg h1, if_pos hf]
      have hmd : modS a b = a.tmod b + b := by unfold modS; rw [if_neg h1, if_pos hf]
      have HD := V hdv
      have HM := V hmd
      have e7 := e6 hf
      obtain ⟨e7, e8, e9⟩ := e7
      clear hdv hmd e6 ha hb
      rcases hf with ⟨f1, f2⟩ | ⟨f1, f2⟩
      all_goals
        rcases hop with rfl | rfl
        all_goals
          go_enter Tryz.func214, Tryz.ntmps214
          go_wp2
          go_ret
          refine ⟨ret_int ?_, rfl⟩
          simp only [twoS]
          first
            | (rw [U HD]; simp; done)
            | (rw [U HM]; simp; done)
            | (simp; done)
            | (simp [U HM]; done)
    · have hdv : divS a b = a.tdiv b := by unfold divS; rw [if_neg h1, if_neg hf]
      have hmd : modS a b = a.tmod b := by unfold modS; rw [if_neg h1, if_neg hf]
      have HD := V hdv
      have HM := V hmd
      have hways : (a.tmod b < 0 ∧ b < 0) ∨ (0 < a.tmod b ∧ 0 < b) ∨ (0 ≤ a.tmod b ∧ a.tmod b ≤ 0) := by omega
      clear hdv hmd e6 ha hb hf
      rcases hways with ⟨f1, f2⟩ | ⟨f1, f2⟩ | ⟨f1, f2⟩
      all_goals
        rcases hop with rfl | rfl
        all_goals
          go_enter Tryz.func214, Tryz.ntmps214
          go_wp2
          go_ret
          refine ⟨ret_int ?_, rfl⟩
          simp only [twoS]
          first
            | (rw [U HD]; simp; done)
            | (rw [U HM]; simp; done)
            | (simp; done)
            | (simp [U HM]; done)

theorem two_any (op a b : Int) (w : World) (hop : op = 9 ∨ op = 10 ∨ op = 11 ∨ op = 12 ∨ op = 13 ∨ op = 14 ∨ op = 15 ∨ op = 16 ∨ op = 19 ∨ op = 20) (h0 : op = 12 ∨ op = 13 → b ≠ 0) (ha : -9223372036854775808 ≤ a ∧ a ≤ 9223372036854775807) (hb : -9223372036854775808 ≤ b ∧ b ≤ 9223372036854775807) :
    Calls Tryz.prog 214 #[.int .i64 op, .int .i64 a, .int .i64 b] w fun e w' => e = .returned (.int .i64 (twoS op a b)) ∧ w' = w := by
  by_cases h1 : op = 12 ∨ op = 13
  · exact two_div op a b w h1 (h0 h1) ha hb
  · by_cases h2 : op = 19 ∨ op = 20
    · exact two_truth op a b w h2
    · exact two_plain op a b w (by omega)
def digC (k : Nat) : UInt8 := UInt8.ofNat (48 + k % 10)
/-- The digits of a number, least last. -/
def digL : Nat → Nat → List UInt8
  | 0, _ => []
  | f + 1, k => if 10 ≤ k then digL f (k / 10) ++ [digC k] else [digC k]
theorem digL_step (f k : Nat) (h : 10 ≤ k) : digL (f + 1) k = digL f (k / 10) ++ [digC k] := by simp [digL, h]
theorem digL_last (f k : Nat) (h : ¬ 10 ≤ k) : digL (f + 1) k = [digC k] := by simp [digL, h]
theorem digL_length (f k : Nat) : (digL f k).length ≤ f := by
  induction f generalizing k with
  | zero => simp [digL]
  | succ f ih =>
    unfold digL
    split
    · simp; exact ih _
    · simp
/-- A number in base ten. -/
def digitsS (n : Int) : List UInt8 := if n < 0 then 45 :: digL 25 n.natAbs else digL 25 n.natAbs

theorem conv_one (W : World) (c : Int) : (convert 86 9 (.slice (some ⟨W.heap.size, 0, none⟩) 1 1)).run Tryz.prog (W.alloc (.cells #[.int .u8 c] 5)) = .ok (.string (strOfNums [c])) (W.alloc (.cells #[.int .u8 c] 5)) := by
  refine run_convert_bytes_arg _ 86 5 Tryz.underlying86 Tryz.underlying5 W.heap.size 0 1 1 [c] rfl ?_ 9 Tryz.underlying9
  intro i hi
  have : i = 0 := by omega
  subst this
  rw [(Blk.new W _ _).cell]
  rfl

theorem digs_app (k : Nat) (t : ByteArray) : (strOfNums [48 + (k : Int) % 10] ++ t).toList = digC k :: t.toList := by
  rw [ByteArray.toList_eq, Joins.data_append, strOfNums_data, ByteArray.toList_eq]
  have e : (48 + (k : Int) % 10).toNat = 48 + k % 10 := by omega
  simp [digC, e]
theorem digs_size (k : Int) (t : ByteArray) : (strOfNums [k] ++ t).size = t.size + 1 := by
  rw [ByteArray.size_append, strOfNums_size]; simp; omega
theorem neg_app (t : ByteArray) : (⟨#[45]⟩ : ByteArray) ++ t = ⟨(45 :: t.data.toList).toArray⟩ := by
  have h : ((⟨#[45]⟩ : ByteArray) ++ t).data.toList = 45 :: t.data.toList := by rw [Joins.data_append]; rfl
  rw [← Joins.bytes_eta ((⟨#[45]⟩ : ByteArray) ++ t), h]
theorem wrap_u (n : Int) (h : -9223372036854775808 ≤ n ∧ n < 0) : IntKind.u64.wrap (-IntKind.u64.wrap n) = -n := by
  have hs : IntKind.u64.signed = false := rfl
  simp [IntKind.wrap, IntKind.bits, hs]
  omega
theorem pow_step {k f : Nat} (h : k < 10 ^ f) (h10 : 10 ≤ k) : ∃ g, f = g + 1 ∧ k / 10 < 10 ^ g := by
  cases f with
  | zero => simp at h; omega
  | succ g => exact ⟨g, rfl, by rw [Nat.pow_succ] at h; omega⟩
theorem pow_last {k f : Nat} (h : k < 10 ^ f) (h10 : ¬ 10 ≤ k) (hf : 0 < f) : digL f k = [digC k] := by
  cases f with
  | zero => omega
  | succ g => exact digL_last g k h10

set_option maxRecDepth 100000 in
set_option maxHeartbeats 1000000 in
theorem digits_pos (n : Int) (w : World) (hn : -9223372036854775808 ≤ n ∧ n ≤ 9223372036854775807) (h0 : 0 ≤ n) :
    Calls Tryz.prog 211 #[.int .i64 n] w fun e w' => e = .returned (.string ⟨(digitsS n).toArray⟩) ∧ Below w.heap.size w w' := by
  have hcv := conv_one
  have h8 : decide (n < 0) = false := by simpa using h0
  obtain ⟨h1, h2⟩ := hn
  have hD : digitsS n = digL 25 n.natAbs := by unfold digitsS; rw [if_neg (by omega)]
  have HD := V hD
  have hpw : n.natAbs < 10 ^ 25 := by omega
  have HPW := V hpw
  clear hD hpw
  go_enter Tryz.func211, Tryz.ntmps211
  go_wp2_with fail
  go_loopw [3, 4] (fun u s wr => ∃ (k f : Nat) (t : ByteArray), u = .int .u64 k ∧ s = .string t ∧ k ≤ 9223372036854775808 ∧ 0 < f ∧ f + t.size = 25 ∧ k < 10 ^ f ∧ digL 25 n.natAbs = digL f k ++ t.toList ∧ Below w.heap.size w wr) (fun u _ _ => (intOf u).toNat)
  case atStart => exact ⟨n.natAbs, 25, ⟨#[]⟩, by rw [show (n.natAbs : Int) = n from by omega], rfl, by omega, by omega, rfl, U HPW, by rw [ByteArray.toList_eq]; exact (List.append_nil _).symm, Below.refl _ _⟩
  case round =>
    obtain ⟨k, f, t, rfl, rfl, hk, hf0, hft, hkf, hdl, hb⟩ := hrel
    have HL := V hdl
    have HK := V hkf
    have HFT := V hft
    clear hdl hkf hft
    have hk' : (k : Int) ≤ 9223372036854775808 := by omega
    have hkm : (k : Int) % 10 < 10 := by omega
    have hkm0 : 0 ≤ (k : Int) % 10 := by omega
    have hts : t.size ≤ 25 := by have := U HFT; omega
    by_cases h10 : (10 : Int) ≤ k
    · have hsz : ¬ 9223372036854775807 < (strOfNums [48 + (k : Int) % 10]).size + t.size := by rw [strOfNums_size]; simp; omega
      go_wp2_with fail
      obtain ⟨g, hg, hgk⟩ := pow_step (U HK) (by omega)
      have hg0 : 0 < g := by
        cases g with
        | zero => simp at hgk; omega
        | succ g => omega
      have hstep : digL 25 n.natAbs = digL g (k / 10) ++ (strOfNums [48 + (k : Int) % 10] ++ t).toList := by
        rw [U HL, hg, digL_step g k (by omega), digs_app]; simp
      have hsize : g + (strOfNums [48 + (k : Int) % 10] ++ t).size = 25 := by rw [digs_size]; have := U HFT; omega
      exact ⟨⟨k / 10, g, _, by go_num, rfl, by omega, hg0, hsize, hgk, hstep, hb.alloc (by have := hb.size; omega) _⟩, by simp [intOf]; omega⟩
    · have hkk : (k : Int) % 10 = k := by omega
      have hsz : ¬ 9223372036854775807 < (strOfNums [48 + (k : Int)]).size + t.size := by rw [strOfNums_size]; simp; omega
      have HKK := V hkk
      clear hkk
      go_wp2_with fail
      go_ret
      refine ⟨ret_string ?_, hb.alloc (by have := hb.size; omega) _⟩
      have e1 : (strOfNums [48 + (k : Int)] ++ t).toList = digC k :: t.toList := by
        have := digs_app k t
        rw [U HKK] at this
        exact this
      have e2 : digL 25 n.natAbs = digC k :: t.toList := by rw [U HL, pow_last (U HK) (by omega) hf0]; rfl
      rw [U HD, e2, ← e1]
      rw [ByteArray.toList_eq]

set_option maxRecDepth 100000 in
set_option maxHeartbeats 1000000 in
theorem digits_neg (n : Int) (w : World) (hn : -9223372036854775808 ≤ n ∧ n ≤ 9223372036854775807) (h0 : n < 0) :
    Calls Tryz.prog 211 #[.int .i64 n] w fun e w' => e = .returned (.string ⟨(digitsS n).toArray⟩) ∧ Below w.heap.size w w' := by
  have hcv := conv_one
  have h8 : decide (n < 0) = true := by simpa using h0
  obtain ⟨h1, h2⟩ := hn
  have hD : digitsS n = 45 :: digL 25 n.natAbs := by unfold digitsS; rw [if_pos h0]
  have HD := V hD
  have hpw : n.natAbs < 10 ^ 25 := by omega
  have HPW := V hpw
  clear hD hpw
  go_enter Tryz.func211, Tryz.ntmps211
  go_wp2_with fail
  go_loopw [3, 4] (fun u s wr => ∃ (k f : Nat) (t : ByteArray), u = .int .u64 k ∧ s = .string t ∧ k ≤ 9223372036854775808 ∧ 0 < f ∧ f + t.size = 25 ∧ k < 10 ^ f ∧ digL 25 n.natAbs = digL f k ++ t.toList ∧ Below w.heap.size w wr) (fun u _ _ => (intOf u).toNat)
  case atStart => exact ⟨n.natAbs, 25, ⟨#[]⟩, by rw [wrap_u n (by omega), show (n.natAbs : Int) = -n from by omega], rfl, by omega, by omega, rfl, U HPW, by rw [ByteArray.toList_eq]; exact (List.append_nil _).symm, Below.refl _ _⟩
  case round =>
    obtain ⟨k, f, t, rfl, rfl, hk, hf0, hft, hkf, hdl, hb⟩ := hrel
    have HL := V hdl
    have HK := V hkf
    have HFT := V hft
    clear hdl hkf hft
    have hk' : (k : Int) ≤ 9223372036854775808 := by omega
    have hkm : (k : Int) % 10 < 10 := by omega
    have hkm0 : 0 ≤ (k : Int) % 10 := by omega
    have hts : t.size ≤ 25 := by have := U HFT; omega
    by_cases h10 : (10 : Int) ≤ k
    · have hsz : ¬ 9223372036854775807 < (strOfNums [48 + (k : Int) % 10]).size + t.size := by rw [strOfNums_size]; simp; omega
      go_wp2_with fail
      obtain ⟨g, hg, hgk⟩ := pow_step (U HK) (by omega)
      have hg0 : 0 < g := by
        cases g with
        | zero => simp at hgk; omega
        | succ g => omega
      have hstep : digL 25 n.natAbs = digL g (k / 10) ++ (strOfNums [48 + (k : Int) % 10] ++ t).toList := by
        rw [U HL, hg, digL_step g k (by omega), digs_app]; simp
      have hsize : g + (strOfNums [48 + (k : Int) % 10] ++ t).size = 25 := by rw [digs_size]; have := U HFT; omega
      exact ⟨⟨k / 10, g, _, by go_num, rfl, by omega, hg0, hsize, hgk, hstep, hb.alloc (by have := hb.size; omega) _⟩, by simp [intOf]; omega⟩
    · have hkk : (k : Int) % 10 = k := by omega
      have hsz : ¬ 9223372036854775807 < (strOfNums [48 + (k : Int)]).size + t.size := by rw [strOfNums_size]; simp; omega
      have HKK := V hkk
      clear hkk
      have hsz2 : ¬ 9223372036854775807 < (⟨#[45]⟩ : ByteArray).size + (strOfNums [48 + (k : Int)] ++ t).size := by rw [digs_size]; show ¬ 9223372036854775807 < 1 + _; omega
      go_wp2_with fail
      go_ret
      refine ⟨ret_string ?_, hb.alloc (by have := hb.size; omega) _⟩
      have e1 : (strOfNums [48 + (k : Int)] ++ t).toList = digC k :: t.toList := by
        have := digs_app k t
        rw [U HKK] at this
        exact this
      have e2 : digL 25 n.natAbs = digC k :: t.toList := by rw [U HL, pow_last (U HK) (by omega) hf0]; rfl
      rw [U HD, e2, ← e1]
      rw [ByteArray.toList_eq]
      exact neg_app _

theorem digits_any (n : Int) (w : World) (hn : -9223372036854775808 ≤ n ∧ n ≤ 9223372036854775807) :
    Calls Tryz.prog 211 #[.int .i64 n] w fun e w' => e = .returned (.string ⟨(digitsS n).toArray⟩) ∧ Below w.heap.size w w' := by
  by_cases h : n < 0
  · exact digits_neg n w hn h
  · exact digits_pos n w hn (by omega)
/-- The Machine as data. -/
structure MS where
  p : Nat
  ls : Int
  la : Int
  lc : Int
  lo : Int
  stack : List Int
  side : List Int
  calls : List Int
  cells : List Int
  out : ByteArray
  pc : Int
  halted : Bool
  ks : List (Nat × Array Value × TypeId)

def mcArr (m : MS) (v5 v6 v7 v8 : Value) : Array Value :=
  #[.pointer (some ⟨m.p, 0, none⟩), .int .i64 m.ls, .int .i64 m.la, .int .i64 m.lc, .int .i64 m.lo, v5, v6, v7, v8, .string m.out, .int .i64 m.pc, .bool m.halted]
def intCells (l : List Int) : List Value := l.map (Value.int .i64)
def mcRows (m : MS) : List RowSpec :=
  [⟨2, 1, m.stack.length, intCells m.stack⟩, ⟨2, 1, m.side.length, intCells m.side⟩, ⟨3, 1, m.calls.length, intCells m.calls⟩, ⟨2, 1, m.cells.length, intCells m.cells⟩]

def inI (x : Int) : Prop := -9223372036854775808 ≤ x ∧ x ≤ 9223372036854775807

structure Mc (B : Nat) (w : World) (b : Nat) (m : MS) (v5 v6 v7 v8 : Value) : Prop where
  blk : Blk w b (mcArr m v5 v6 v7 v8) 189
  base : B ≤ b
  owned : Owned B w (b :: m.ks.map (fun x => x.1)) [v5, v6, v7, v8] (mcRows m)
  lims : (1 ≤ m.ls ∧ m.ls ≤ 1000) ∧ (1 ≤ m.la ∧ m.la ≤ 1000) ∧ (1 ≤ m.lc ∧ m.lc ≤ 1000) ∧ (1 ≤ m.lo ∧ m.lo ≤ 1000)
  small : m.stack.length ≤ 1000 ∧ m.side.length ≤ 1000 ∧ m.calls.length ≤ 1000 ∧ m.cells.length ≤ 1000 ∧ m.out.size ≤ 1000 ∧ (m.out.size : Int) ≤ m.lo
  ints : (∀ x ∈ m.stack, inI x) ∧ (∀ x ∈ m.side, inI x) ∧ (∀ x ∈ m.cells, inI x)
  kept : ∀ x ∈ m.ks, Blk w x.1 x.2.1 x.2.2
  kne : ∀ x ∈ m.ks, b ≠ x.1

section
variable {B : Nat} {w : World} {b : Nat} {m : MS} {v5 v6 v7 v8 : Value}
theorem Mc.o5 (h : Mc B w b m v5 v6 v7 v8) : w.ownsRow B 2 1 v5 m.stack.length (intCells m.stack) := h.owned.own 0 v5 _ rfl rfl
theorem Mc.o6 (h : Mc B w b m v5 v6 v7 v8) : w.ownsRow B 2 1 v6 m.side.length (intCells m.side) := h.owned.own 1 v6 _ rfl rfl
theorem Mc.o7 (h : Mc B w b m v5 v6 v7 v8) : w.ownsRow B 3 1 v7 m.calls.length (intCells m.calls) := h.owned.own 2 v7 _ rfl rfl
theorem Mc.o8 (h : Mc B w b m v5 v6 v7 v8) : w.ownsRow B 2 1 v8 m.cells.length (intCells m.cells) := h.owned.own 3 v8 _ rfl rfl
theorem Mc.drewN (h : Mc B w b m v5 v6 v7 v8) (n : Nat) : Mc B (w.drewN n) b m v5 v6 v7 v8 := ⟨h.blk, h.base, h.owned.drewN n, h.lims, h.small, h.ints, h.kept, h.kne⟩
end

theorem needs_bd (op : Int) : 0 ≤ (needsS op).1 ∧ (needsS op).1 ≤ 3 ∧ -2 ≤ (needsS op).2 ∧ (needsS op).2 ≤ 1 := by
  unfold needsS
  repeat' split
  all_goals simp
theorem aside_bd (op : Int) : 0 ≤ (asideS op).1 ∧ (asideS op).1 ≤ 2 ∧ -1 ≤ (asideS op).2 ∧ (asideS op).2 ≤ 2 := by
  unfold asideS
  repeat' split
  all_goals simp

set_option maxRecDepth 100000 in
set_option maxHeartbeats 1000000 in
theorem refused_under (B b : Nat) (m : MS) (v5 v6 v7 v8 : Value) (op : Int) (w : World) (h : Mc B w b m v5 v6 v7 v8) (hu : (m.stack.length : Int) < (needsS op).1) :
    Calls Tryz.prog 183 #[.pointer (some ⟨b, 0, none⟩), .int .i64 op] w fun e w' => e = .returned (.int .i64 7) ∧ ∃ n, w' = w.drewN n := by
  obtain ⟨a5, k5, hv5⟩ := own_shape h.o5
  subst hv5
  have hc := h.blk.cell
  unfold mcArr at hc
  have HN := V (needs_any op w)
  have HA := V (aside_any op w)
  generalize (needsS op).1 = nd at HN hu
  generalize (needsS op).2 = mr at HN
  generalize (asideS op).1 = sa at HA
  generalize (asideS op).2 = up at HA
  go_enter Tryz.func183, Tryz.ntmps183
  go_wp2_with fail
  refine (U HN).mono ?_
  rintro e w2 ⟨rfl, hw⟩
  obtain rfl := hw.symm
  clear hw
  go_wp2_with fail
  refine (U HA).mono ?_
  rintro e w2 ⟨rfl, hw⟩
  obtain rfl := hw.symm
  clear hw
  go_wp2_with fail
  go_ret
  exact ⟨rfl, 0, rfl⟩
set_option maxRecDepth 100000 in
set_option maxHeartbeats 1000000 in
theorem refused_over (B b : Nat) (m : MS) (v5 v6 v7 v8 : Value) (op : Int) (w : World) (h : Mc B w b m v5 v6 v7 v8) (hu : (needsS op).1 ≤ m.stack.length) (hm : 0 < (needsS op).2) (ho : m.ls < m.stack.length + (needsS op).2) :
    Calls Tryz.prog 183 #[.pointer (some ⟨b, 0, none⟩), .int .i64 op] w fun e w' => e = .returned (.int .i64 8) ∧ ∃ n, w' = w.drewN n := by
  obtain ⟨a5, k5, hv5⟩ := own_shape h.o5
  obtain ⟨a6, k6, hv6⟩ := own_shape h.o6
  subst hv5
  subst hv6
  have hc := h.blk.cell
  unfold mcArr at hc
  have hl := h.lims
  have hsm := h.small
  have s1 : (m.stack.length : Int) ≤ 1000 := by omega
  have s2 : (m.side.length : Int) ≤ 1000 := by omega
  have l1 : m.ls ≤ 1000 := by omega
  have l2 : m.la ≤ 1000 := by omega
  have b1 := needs_bd op
  have b2 := aside_bd op
  have HN := V (needs_any op w)
  have HA := V (aside_any op w)
  generalize (needsS op).1 = nd at HN b1 hu
  generalize (needsS op).2 = mr at HN b1 hm ho
  generalize (asideS op).1 = sa at HA b2
  generalize (asideS op).2 = up at HA b2
  obtain ⟨b11, b12, b13, b14⟩ := b1
  obtain ⟨b21, b22, b23, b24⟩ := b2
  clear hl hsm
  have hd : decide (0 < mr) = true := by simpa using hm
  go_enter Tryz.func183, Tryz.ntmps183
  go_wp2_with fail
  refine (U HN).mono ?_
  rintro e w2 ⟨rfl, hw⟩
  obtain rfl := hw.symm
  clear hw
  go_wp2_with fail
  refine (U HA).mono ?_
  rintro e w2 ⟨rfl, hw⟩
  obtain rfl := hw.symm
  clear hw
  go_wp2_with fail
  go_quiet (fail)
  go_wp2_with fail
  go_ret
  exact ⟨rfl, _, rfl⟩

set_option maxRecDepth 100000 in
set_option maxHeartbeats 1000000 in
theorem refused_low (B b : Nat) (m : MS) (v5 v6 v7 v8 : Value) (op : Int) (w : World) (h : Mc B w b m v5 v6 v7 v8) (hu : (needsS op).1 ≤ m.stack.length) (hf : (needsS op).2 ≤ 0 ∨ 0 < (needsS op).2 ∧ m.stack.length + (needsS op).2 ≤ m.ls) (hlow : (m.side.length : Int) < (asideS op).1) :
    Calls Tryz.prog 183 #[.pointer (some ⟨b, 0, none⟩), .int .i64 op] w fun e w' => e = .returned (.int .i64 9) ∧ ∃ n, w' = w.drewN n := by
  obtain ⟨a5, k5, hv5⟩ := own_shape h.o5
  obtain ⟨a6, k6, hv6⟩ := own_shape h.o6
  subst hv5
  subst hv6
  have hc := h.blk.cell
  unfold mcArr at hc
  have hl := h.lims
  have hsm := h.small
  have s1 : (m.stack.length : Int) ≤ 1000 := by omega
  have s2 : (m.side.length : Int) ≤ 1000 := by omega
  have l1 : m.ls ≤ 1000 := by omega
  have l2 : m.la ≤ 1000 := by omega
  have b1 := needs_bd op
  have b2 := aside_bd op
  have HN := V (needs_any op w)
  have HA := V (aside_any op w)
  generalize (needsS op).1 = nd at HN b1 hu
  generalize (needsS op).2 = mr at HN b1 hf
  generalize (asideS op).1 = sa at HA b2 hlow
  generalize (asideS op).2 = up at HA b2
  obtain ⟨b11, b12, b13, b14⟩ := b1
  obtain ⟨b21, b22, b23, b24⟩ := b2
  clear hl hsm
  have hways : (decide (0 < mr) = false) ∨ (decide (0 < mr) = true ∧ (m.stack.length : Int) + mr ≤ m.ls) := by
    rcases hf with e | ⟨e, e'⟩
    · exact Or.inl (by simpa using e)
    · exact Or.inr ⟨by simpa using e, e'⟩
  clear hf
  rcases hways with hd | ⟨hd, hd2⟩
  all_goals
    go_enter Tryz.func183, Tryz.ntmps183
    go_wp2_with fail
    refine (U HN).mono ?_
    rintro e w2 ⟨rfl, hw⟩
    obtain rfl := hw.symm
    clear hw
    go_wp2_with fail
    refine (U HA).mono ?_
    rintro e w2 ⟨rfl, hw⟩
    obtain rfl := hw.symm
    clear hw
    go_wp2_with fail
    go_quiet (fail)
    go_wp2_with fail
    go_ret
    exact ⟨rfl, _, rfl⟩

set_option maxRecDepth 100000 in
set_option maxHeartbeats 1000000 in
theorem refused_high (B b : Nat) (m : MS) (v5 v6 v7 v8 : Value) (op : Int) (w : World) (h : Mc B w b m v5 v6 v7 v8) (hu : (needsS op).1 ≤ m.stack.length) (hf : (needsS op).2 ≤ 0 ∨ 0 < (needsS op).2 ∧ m.stack.length + (needsS op).2 ≤ m.ls) (hlow : (asideS op).1 ≤ m.side.length) (hup : 0 < (asideS op).2) (hhi : m.la < m.side.length + (asideS op).2) :
    Calls Tryz.prog 183 #[.pointer (some ⟨b, 0, none⟩), .int .i64 op] w fun e w' => e = .returned (.int .i64 10) ∧ ∃ n, w' = w.drewN n := by
  obtain ⟨a5, k5, hv5⟩ := own_shape h.o5
  obtain ⟨a6, k6, hv6⟩ := own_shape h.o6
  subst hv5
  subst hv6
  have hc := h.blk.cell
  unfold mcArr at hc
  have hl := h.lims
  have hsm := h.small
  have s1 : (m.stack.length : Int) ≤ 1000 := by omega
  have s2 : (m.side.length : Int) ≤ 1000 := by omega
  have l1 : m.ls ≤ 1000 := by omega
  have l2 : m.la ≤ 1000 := by omega
  have b1 := needs_bd op
  have b2 := aside_bd op
  have HN := V (needs_any op w)
  have HA := V (aside_any op w)
  generalize (needsS op).1 = nd at HN b1 hu
  generalize (needsS op).2 = mr at HN b1 hf
  generalize (asideS op).1 = sa at HA b2 hlow
  generalize (asideS op).2 = up at HA b2 hup hhi
  obtain ⟨b11, b12, b13, b14⟩ := b1
  obtain ⟨b21, b22, b23, b24⟩ := b2
  clear hl hsm
  have hd9 : decide (0 < up) = true := by simpa using hup
  have hways : (decide (0 < mr) = false) ∨ (decide (0 < mr) = true ∧ (m.stack.length : Int) + mr ≤ m.ls) := by
    rcases hf with e | ⟨e, e'⟩
    · exact Or.inl (by simpa using e)
    · exact Or.inr ⟨by simpa using e, e'⟩
  clear hf
  rcases hways with hd | ⟨hd, hd2⟩
  all_goals
    go_enter Tryz.func183, Tryz.ntmps183
    go_wp2_with fail
    refine (U HN).mono ?_
    rintro e w2 ⟨rfl, hw⟩
    obtain rfl := hw.symm
    clear hw
    go_wp2_with fail
    refine (U HA).mono ?_
    rintro e w2 ⟨rfl, hw⟩
    obtain rfl := hw.symm
    clear hw
    go_wp2_with fail
    go_quiet (fail)
    go_wp2_with fail
    go_quiet (fail)
    go_wp2_with fail
    go_ret
    exact ⟨rfl, _, drawn_drawn _ _ _⟩
theorem intCells_last (l : List Int) (t : Int) : (intCells (l ++ [t]))[l.length]? = some (.int .i64 t) := by simp [intCells]

set_option maxRecDepth 100000 in
set_option maxHeartbeats 1000000 in
theorem refused_no (B b : Nat) (m : MS) (v5 v6 v7 v8 : Value) (op : Int) (w : World) (h : Mc B w b m v5 v6 v7 v8) (hu : (needsS op).1 ≤ m.stack.length) (hf : (needsS op).2 ≤ 0 ∨ 0 < (needsS op).2 ∧ m.stack.length + (needsS op).2 ≤ m.ls) (hlow : (asideS op).1 ≤ m.side.length) (hg : (asideS op).2 ≤ 0 ∨ 0 < (asideS op).2 ∧ m.side.length + (asideS op).2 ≤ m.la) (q : (op == 3) = false ∧ (op == 4) = false ∧ (op == 29) = false ∧ (op == 30) = false ∧ (op == 12) = false ∧ (op == 13) = false ∧ (op == 31) = false ∧ (op == 32) = false) :
    Calls Tryz.prog 183 #[.pointer (some ⟨b, 0, none⟩), .int .i64 op] w fun e w' => e = .returned (.int .i64 0) ∧ ∃ n, w' = w.drewN n := by
  obtain ⟨a5, k5, hv5⟩ := own_shape h.o5
  obtain ⟨a6, k6, hv6⟩ := own_shape h.o6
  subst hv5
  subst hv6
  have hc := h.blk.cell
  unfold mcArr at hc
  have hl := h.lims
  have hsm := h.small
  have s1 : (m.stack.length : Int) ≤ 1000 := by omega
  have s2 : (m.side.length : Int) ≤ 1000 := by omega
  have l1 : m.ls ≤ 1000 := by omega
  have hout : (m.out.size : Int) ≤ m.lo := by omega
  have lo1 : m.lo ≤ 1000 := by omega
  have l2 : m.la ≤ 1000 := by omega
  have b1 := needs_bd op
  have b2 := aside_bd op
  have HN := V (needs_any op w)
  have HA := V (aside_any op w)
  generalize (needsS op).1 = nd at HN b1 hu
  generalize (needsS op).2 = mr at HN b1 hf
  generalize (asideS op).1 = sa at HA b2 hlow
  generalize (asideS op).2 = up at HA b2 hg
  obtain ⟨b11, b12, b13, b14⟩ := b1
  obtain ⟨b21, b22, b23, b24⟩ := b2
  clear hl hsm
  obtain ⟨q1, q2, q3, q4, q5, q6, q7, q8⟩ := q
  have hways : (decide (0 < mr) = false) ∨ (decide (0 < mr) = true ∧ (m.stack.length : Int) + mr ≤ m.ls) := by
    rcases hf with e | ⟨e, e'⟩
    · exact Or.inl (by simpa using e)
    · exact Or.inr ⟨by simpa using e, e'⟩
  have hways2 : (decide (0 < up) = false) ∨ (decide (0 < up) = true ∧ (m.side.length : Int) + up ≤ m.la) := by
    rcases hg with e | ⟨e, e'⟩
    · exact Or.inl (by simpa using e)
    · exact Or.inr ⟨by simpa using e, e'⟩
  have hst : (m.stack.length = 0) ∨ ∃ (l : List Int) (t : Int), m.stack = l ++ [t] := by
    rcases List.eq_nil_or_concat m.stack with e | ⟨l, t, e⟩
    · exact Or.inl (by rw [e]; rfl)
    · exact Or.inr ⟨l, t, by rw [e, List.concat_eq_append]⟩
  clear hf hg
  rcases hst with hst | ⟨l, t, hst⟩
  · have hst' : (m.stack.length : Int) ≤ 0 := by omega
    clear hst
    rcases hways with hd | ⟨hd, hd2⟩ <;> rcases hways2 with hd3 | ⟨hd3, hd4⟩
    all_goals
      go_enter Tryz.func183, Tryz.ntmps183
      go_wp2_with fail
      refine (U HN).mono ?_
      rintro e w2 ⟨rfl, hw⟩
      obtain rfl := hw.symm
      clear hw
      go_wp2_with fail
      refine (U HA).mono ?_
      rintro e w2 ⟨rfl, hw⟩
      obtain rfl := hw.symm
      clear hw
      go_wp2_with fail
      go_quiet (fail)
      go_wp2_with fail
      go_quiet (fail)
      go_wp2_with fail
      go_quiet (fail)
      go_wp2_with fail
      go_ret
      exact ⟨rfl, _, drawn_drawn _ _ _⟩
  · have hn : m.stack.length = l.length + 1 := by rw [hst]; simp
    obtain ⟨g5, k5', hv5, _, _⟩ := h.o5.form (by omega)
    simp only [Value.slice.injEq, true_and] at hv5
    obtain ⟨rfl, rfl⟩ := hv5
    have hx := own_cell h.o5 l.length (by omega)
    rw [hst, intCells_last] at hx
    rw [hn] at hc hu s1 hways
    have hst' : ((l.length : Int) + 1) ≤ 1000 := by omega
    clear hst hn
    simp only [Int.natCast_add, Int.cast_ofNat_Int] at hu s1 hways
    rcases hways with hd | ⟨hd, hd2⟩ <;> rcases hways2 with hd3 | ⟨hd3, hd4⟩
    all_goals
      go_enter Tryz.func183, Tryz.ntmps183
      go_wp2_with fail
      refine (U HN).mono ?_
      rintro e w2 ⟨rfl, hw⟩
      obtain rfl := hw.symm
      clear hw
      go_wp2_with fail
      refine (U HA).mono ?_
      rintro e w2 ⟨rfl, hw⟩
      obtain rfl := hw.symm
      clear hw
      go_wp2_with fail
      go_quiet (fail)
      go_wp2_with fail
      go_quiet (fail)
      go_wp2_with fail
      go_quiet (fail)
      go_wp2_with fail
      go_quiet (fail)
      go_wp2_with fail
      go_ret
      exact ⟨rfl, _, drawn_drawn _ _ _⟩
end Go.Proofs.YtmeiikjpaepogaaGreatDoor
