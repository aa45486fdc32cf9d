/- The program's options: rows joined: slices.Grow, slices.Concat. -/
import Derived.Test.YtmeiikjpaepogaaGreatDoorZ31
import Derived.Lib.AppendZeros
import Derived.Laws.OwnMore
namespace Go.Proofs.YtmeiikjpaepogaaGreatDoor
open Go Go.RowKit

theorem zeroCells_two (n : Nat) : (Builtin.zeroCells (Value.agg #[.int .i64 0, .int .i64 0]).cells n).size = n * 2 := by
  simp [Builtin.zeroCells, Value.cells]
set_option maxRecDepth 100000 in
set_option maxHeartbeats 4000000 in
theorem growNil_any (n : Nat) (w : World) (hn : n ≤ 1000000) :
    Calls Tryz.prog 238 #[.slice none 0 0, .int .i64 n] w (RowOut w []) := by
  have h1 : ¬ ((n : Int) < 0) := by omega
  have h3 : IntKind.i64.wrap ((n : Int) - 0) = n := by rw [IntKind.wrap_i64]; omega
  obtain ⟨iI, hiI, hzI0, hzI1, hzI2⟩ := info_parts Tryz.infoInstr
  by_cases h0 : n = 0
  · subst h0
    go_enter Tryz.func238, Tryz.ntmps238
    go_wp2_with fail
    go_ret
    exact ⟨none, 0, rfl, ⟨rfl, Or.inl ⟨rfl, rfl⟩⟩, Below.refl _ _⟩
  · have h4 : (n : Int) > 0 := by omega
    have hrz : ∀ ty, (Builtin.append_ #[33, 3] ty #[.slice none 0 0, .int .i64 n]).run Tryz.prog w = _ := fun ty => Lib.run_append_nil_zeros w 33 3 ty 65 iI _ .i64 .i64 Tryz.underlying33 Tryz.underlying3 hiI hzI0 n (by omega) (by omega) (by omega) (by rw [hzI2]; omega)
    have hG1 := grownCap_ge w n 0 65
    have hG2 := grownCap_le_maxLen w n 0 65 (by unfold maxLen; omega)
    have HR := V hrz
    generalize grownCap w n 0 65 = G at *
    have hG63 : (G : Int) ≤ 9223372036854775807 := by unfold maxLen at hG2; omega
    have HOW : Hid (OwnI w.heap.size (w.drew.alloc (.cells (Builtin.zeroCells (Value.agg #[.int .i64 0, .int .i64 0]).cells n ++ Builtin.zeroCells (Value.agg #[.int .i64 0, .int .i64 0]).cells (G - n)) 65)) (.slice (some ⟨w.heap.size, 0, none⟩) 0 G) []) := by
      refine ⟨rfl, Or.inr ⟨w.heap.size, G, _, rfl, Nat.le_refl _, Blk.new w.drew _ _, Nat.zero_le _, hG2, ?_, by simp [instrCells]⟩⟩
      rw [Array.size_append, zeroCells_two, zeroCells_two]
      omega
    have HBE : Hid (Below w.heap.size w (w.drew.alloc (.cells (Builtin.zeroCells (Value.agg #[.int .i64 0, .int .i64 0]).cells n ++ Builtin.zeroCells (Value.agg #[.int .i64 0, .int .i64 0]).cells (G - n)) 65))) := (below_drawn (Below.refl _ _) 1).trans (below_box w.drew _)
    clear hrz
    go_enter Tryz.func238, Tryz.ntmps238
    go_wp2_with (at_builtin; refine Lib.wpList_append_run _ rfl _ _ _ _ rfl _ _ rfl rfl _ _ (U HR _) ?_)
    all_goals (go_ret; exact ⟨_, _, rfl, U HOW, U HBE⟩)

/-- Rows in memory, in a row. -/
def RowsAt (w : World) (q : Nat) (rs : List (Option Addr × Nat × List (Int × Int))) : Prop := q < w.heap.size ∧ ∀ j r, rs[j]? = some r → w.cell? ⟨q, j, none⟩ = some (.slice r.1 r.2.2.length r.2.1) ∧ InL w r.1 r.2.2
theorem RowsAt.below {w w' : World} {q : Nat} {rs : List (Option Addr × Nat × List (Int × Int))} (h : RowsAt w q rs) (hb : Below w.heap.size w w') : RowsAt w' q rs :=
  ⟨by have := hb.size; have := h.1; omega, fun j r hj => ⟨by rw [hb.cell (by simpa using h.1)]; exact (h.2 j r hj).1, (h.2 j r hj).2.below hb⟩⟩
def catS (rs : List (Option Addr × Nat × List (Int × Int))) : List (Int × Int) := rs.flatMap (fun r => r.2.2)
theorem catS_next {rs : List (Option Addr × Nat × List (Int × Int))} {k : Nat} {r : Option Addr × Nat × List (Int × Int)} (h : rs[k]? = some r) : catS (rs.take (k + 1)) = catS (rs.take k) ++ r.2.2 := by
  unfold catS
  rw [List.take_add_one, h, List.flatMap_append]
  simp
theorem catS_le (rs : List (Option Addr × Nat × List (Int × Int))) (k : Nat) : (catS (rs.take k)).length ≤ (catS rs).length := by
  have : catS rs = catS (rs.take k) ++ catS (rs.drop k) := by
    unfold catS
    rw [← List.flatMap_append, List.take_append_drop]
  rw [this, List.length_append]
  omega

set_option maxRecDepth 100000 in
set_option maxHeartbeats 4000000 in
theorem concat_any (q cq : Nat) (rs : List (Option Addr × Nat × List (Int × Int))) (w : World) (hq : RowsAt w q rs) (hn : rs.length ≤ 1000) (hs : (catS rs).length ≤ 1000000) :
    Calls Tryz.prog 225 #[.slice (some ⟨q, 0, none⟩) rs.length cq] w (RowOut w (catS rs)) := by
  have hnI : (rs.length : Int) ≤ 1000 := by omega
  have HQ := V hq
  have hql := hq.1
  clear hq
  go_enter Tryz.func225, Tryz.ntmps225
  go_wp2_with fail
  go_loopw [3, 11] (fun sv i wr => ∃ k : Nat, i = .int .i64 k ∧ k ≤ rs.length ∧ sv = .int .i64 ((catS (rs.take k)).length : Nat) ∧ wr = w) (fun _ i _ => rs.length - (intOf i).toNat)
  case atStart => exact ⟨0, rfl, Nat.zero_le _, rfl, rfl⟩
  case round =>
    obtain ⟨k, rfl, hk, rfl, hw⟩ := hrel
    obtain rfl := hw.symm
    clear hw
    by_cases hlt : k < rs.length
    · obtain ⟨r, hr⟩ : ∃ r, rs[k]? = some r := ⟨_, List.getElem?_eq_getElem hlt⟩
      obtain ⟨hc, _⟩ := (U HQ).2 k r hr
      have hltI : (k : Int) < rs.length := by omega
      have e1 := congrArg List.length (catS_next hr)
      rw [List.length_append] at e1
      have e2 := catS_le rs (k + 1)
      have HE1 := V e1
      have hsum : IntKind.i64.wrap (((catS (rs.take k)).length : Int) + (r.2.2.length : Int)) = ((catS (rs.take k)).length : Int) + (r.2.2.length : Int) := by rw [IntKind.wrap_i64]; omega
      have hpos : ¬ (((catS (rs.take k)).length : Int) + (r.2.2.length : Int) < 0) := by omega
      have hb1 : ((catS (rs.take k)).length : Int) ≤ 1000000 := by omega
      have hb2 : (r.2.2.length : Int) ≤ 1000000 := by omega
      generalize (catS (rs.take k)).length = m at *
      generalize r.2.2.length = rl at *
      clear e1 e2 hr
      go_wp2_with fail
      go_roundw
      case rel => exact ⟨k + 1, by go_num, by omega, by rw [U HE1]; first | rfl | go_num, trivial⟩
      case measure => simp [intOf]; omega
    · have hkk : k = rs.length := by omega
      subst hkk
      rw [List.take_length]
      have HGR := V (growNil_any (catS rs).length w hs)
      go_wp2_with fail
      refine (U HGR).mono ?_
      rintro e w1 ⟨a1, c1, rfl, ho1, hb1⟩
      have HO1 := V ho1
      have HB1 := V hb1
      clear HGR ho1 hb1
      go_wp2_with fail
      go_loopw [6, 27] (fun sv i w2 => ∃ (k : Nat) (ao : Option Addr) (c : Nat), i = .int .i64 k ∧ k ≤ rs.length ∧ sv = .slice ao (catS (rs.take k)).length c ∧ OwnI w.heap.size w2 (.slice ao (catS (rs.take k)).length c) (catS (rs.take k)) ∧ Below w.heap.size w w2) (fun _ i _ => rs.length - (intOf i).toNat)
      case atStart => exact ⟨0, a1, c1, rfl, Nat.zero_le _, rfl, U HO1, U HB1⟩
      case round =>
        obtain ⟨k, ao, c, rfl, hk, rfl, hown, hbw⟩ := hrel
        have HOWN := V hown
        have HBW := V hbw
        by_cases hlt : k < rs.length
        · obtain ⟨r, hr⟩ : ∃ r, rs[k]? = some r := ⟨_, List.getElem?_eq_getElem hlt⟩
          obtain ⟨hc, hin⟩ := ((U HQ).below hbw).2 k r hr
          have hqb := ((U HQ).below hbw).1
          have hltI : (k : Int) < rs.length := by omega
          have HNX := V (catS_next hr)
          have e1 := congrArg List.length (catS_next hr)
          rw [List.length_append] at e1
          have e2 := catS_le rs (k + 1)
          have hsm : (catS (rs.take k)).length + r.2.2.length ≤ 1000000 := by omega
          have HIN := V hin
          generalize catS (rs.take k) = l1 at *
          obtain ⟨ra, rc, rl⟩ := r
          simp only at hc HIN HNX hsm
          clear e1 e2 hr hown hbw hin
          go_wp2_with (at_builtin; refine wpList_appI rfl (.tmp 31) (.tmp 32) rfl w.heap.size w _ l1 rl ra rc (by simp [Act.eval]) (by simp [Act.eval]) (U HOWN) (U HIN) hsm (U HBW) (U HBW).size _ rfl ?_; intro a3 c3 w3 HO3 HB3)
          go_roundw
          case rel =>
            refine ⟨k + 1, a3, c3, by go_num, by omega, ?_, ?_, U HB3⟩
            · rw [U HNX]; simp
            · rw [U HNX]; exact U HO3
          case measure => simp [intOf]; omega
        · have hkk : k = rs.length := by omega
          subst hkk
          rw [List.take_length] at HOWN ⊢
          clear hown hbw
          go_wp2_with fail
          go_ret
          exact ⟨ao, c, rfl, U HOWN, U HBW⟩
/-- Where jumps from a place go in the end, in no more than so many. -/
def goalS (l : List (Int × Int)) : Nat → Int → Int
  | 0, k => k
  | n + 1, k => match l[k.toNat]? with
    | some x => if x.1 = 1 then goalS l n x.2 else k
    | none => k

set_option maxRecDepth 100000 in
set_option maxHeartbeats 4000000 in
theorem goal_any (ao : Option Addr) (c : Nat) (l : List (Int × Int)) (k : Int) (w : World) (hin : InL w ao l) (hn : l.length ≤ 1000000) (hj : ∀ x ∈ l, x.1 = 1 → 0 ≤ x.2 ∧ x.2 < l.length) (hk : 0 ≤ k ∧ k < l.length) :
    Calls Tryz.prog 153 #[.slice ao l.length c, .int .i64 k] w fun e w' => e = .returned (.int .i64 (goalS l l.length k)) ∧ w' = w := by
  have hnI : (l.length : Int) ≤ 1000000 := by omega
  generalize hres : goalS l l.length k = res
  have HRES := V hres
  have HIN := V hin
  have HJ := V hj
  have HKK := V hk
  clear hin hj hres hk
  go_enter Tryz.func153, Tryz.ntmps153
  go_wp2_with fail
  go_loopw [1, 7] (fun kv i wr => ∃ (n : Nat) (u : Int), i = .int .i64 n ∧ kv = .int .i64 u ∧ n ≤ l.length ∧ (0 ≤ u ∧ u < l.length) ∧ goalS l (l.length - n) u = res ∧ wr = w) (fun _ i _ => l.length - (intOf i).toNat)
  case atStart => exact ⟨0, k, rfl, rfl, Nat.zero_le _, U HKK, U HRES, rfl⟩
  case round =>
    obtain ⟨n, u, rfl, rfl, hnl, hu, hrun, hw⟩ := hrel
    obtain rfl := hw.symm
    clear hw
    by_cases hlt : n < l.length
    · obtain ⟨un, rfl⟩ : ∃ un : Nat, u = un := ⟨u.toNat, by omega⟩
      obtain ⟨x, hx⟩ : ∃ x, l[un]? = some x := ⟨_, List.getElem?_eq_getElem (by omega)⟩
      obtain ⟨g, off, rfl, hgl, c1, c2⟩ := in_at (U HIN) hx
      have hltI : (n : Int) < l.length := by omega
      have e : l.length - n = (l.length - (n + 1)) + 1 := by omega
      rw [e] at hrun
      unfold goalS at hrun
      simp only [Int.toNat_natCast, hx] at hrun
      have hxm := List.mem_of_getElem? hx
      by_cases h1 : x.1 = 1
      · rw [if_pos h1] at hrun
        have hnx := U HJ x hxm h1
        rw [h1] at c1
        have HRUN := V hrun
        clear hrun hx e hxm h1
        go_wp2_with fail
        go_roundw
        case rel => exact ⟨n + 1, x.2, by go_num, rfl, by omega, hnx, U HRUN, trivial⟩
        case measure => simp [intOf]; omega
      · rw [if_neg h1] at hrun
        have h1' : (x.1 != 1) = true := by simpa using h1
        subst hrun
        clear hx e hxm h1
        go_wp2_with fail
        go_ret
        exact ⟨rfl, rfl⟩
    · have hkk : n = l.length := by omega
      subst hkk
      rw [Nat.sub_self] at hrun
      unfold goalS at hrun
      subst hrun
      go_wp2_with fail
      go_ret
      exact ⟨rfl, rfl⟩

/-- Instructions with the numbers that they name changed. -/
def renS (nums : List Int) (x : Int × Int) : Int × Int := if namesS x.1 = true then (x.1, nums.getD x.2.toNat 0) else x
def renamedS (nums : List Int) (row : List (Int × Int)) : List (Int × Int) := row.map (renS nums)

set_option maxRecDepth 100000 in
set_option maxHeartbeats 4000000 in
theorem renamed_any (q cq c : Nat) (ao : Option Addr) (nums : List Int) (row : List (Int × Int)) (w : World) (hq : IntsAt w q nums) (hin : InL w ao row) (hn : row.length ≤ 1000000 ∧ nums.length ≤ 1000000) (hj : ∀ x ∈ row, namesS x.1 = true → 0 ≤ x.2 ∧ x.2 < nums.length) :
    Calls Tryz.prog 157 #[.slice (some ⟨q, 0, none⟩) nums.length cq, .slice ao row.length c] w (RowOut w (renamedS nums row)) := by
  have hnI : (row.length : Int) ≤ 1000000 ∧ (nums.length : Int) ≤ 1000000 := by omega
  have hmk := run_make2 row.length (by omega)
  have hrow0 := made_row w row.length (by omega)
  have hb0 := below_box w (.cells (madeCells #[.int .i64 0, .int .i64 0] (row.length * 2)) 65)
  have HROW0 := V hrow0
  have HB0 := V hb0
  have HQ := V hq
  have HIN := V hin
  have HJ := V hj
  obtain ⟨f, hf⟩ : ∃ f : Nat → Int × Int, f = fun i => renS nums (row.getD i (0, 0)) := ⟨_, rfl⟩
  have HF : Hid (∀ i x, row[i]? = some x → f i = renS nums x) := fun i x hx => by rw [hf]; simp [List.getD, hx]
  clear hrow0 hb0 hq hf hin hj
  go_enter Tryz.func157, Tryz.ntmps157
  go_wp2_with fail
  go_loopw [13] (fun i wr => ∃ k : Nat, i = .int .i64 k ∧ k ≤ row.length ∧ wr.ownsRow w.heap.size 65 2 (.slice (some ⟨w.heap.size, 0, none⟩) row.length row.length) row.length (instrCells (fillS f row.length k)) ∧ Below w.heap.size w wr) (fun i _ => row.length - (intOf i).toNat)
  case atStart => exact ⟨0, rfl, Nat.zero_le _, by rw [fillS_zero]; exact U HROW0, U HB0⟩
  case round =>
    clear hmk
    obtain ⟨k, rfl, hk, hrow, hbw⟩ := hrel
    have HROW := V hrow
    have HBW := V hbw
    by_cases hlt : k < row.length
    · obtain ⟨x, hx⟩ : ∃ x, row[k]? = some x := ⟨_, List.getElem?_eq_getElem hlt⟩
      obtain ⟨g, off, rfl, hgl, c1, c2⟩ := in_at ((U HIN).below hbw) hx
      have hltI : (k : Int) < row.length := by omega
      have hbN : Below w.heap.size w (wr.alloc (.cells #[.int .i64 x.1, .int .i64 x.2] 65)) := hbw.trans ((below_box wr _).mono hbw.size)
      have HBN := V hbN
      have HNM := V (namesIns_any x.1 (wr.alloc (.cells #[.int .i64 x.1, .int .i64 x.2] 65)))
      have hown1 := ownsRow_alloc hrow (.cells #[.int .i64 x.1, .int .i64 x.2] 65)
      have hX := fillS_at f row.length k k hlt
      have k1 := own_cell hown1 (k * 2) (by omega)
      have k2 := own_cell hown1 (k * 2 + 1) (by omega)
      rw [(instrCells_at _ _ _ hX).1] at k1
      rw [(instrCells_at _ _ _ hX).2] at k2
      have hfree := own_free hown1
      have hgl2 := (ownsRow_lt hown1 (k := w.heap.size) rfl).1
      have HOWN1 := V hown1
      have HNX := V (fillS_next f row.length k hlt)
      have HFK := V (U HF k x hx)
      have HX := V hX
      have hjx := U HJ x (List.mem_of_getElem? hx)
      have hbx := Blk.new wr #[.int .i64 x.1, .int .i64 x.2] 65
      have hneq : w.heap.size < wr.heap.size := (ownsRow_lt hrow (k := w.heap.size) rfl).1
      have hcx := hbx.cell
      have hfx := hbx.free
      have hlx := hbx.lt
      have HBX := V hbx
      clear hrow hbw hbN hx hX hown1 hbx
      have HQ1 := V (U HQ)
      go_wp2_with fail
      refine (U HNM).mono ?_
      rintro e w1 ⟨rfl, hw1⟩
      rw [← hw1] at HBN k1 k2 hfree hgl2 HOWN1 hcx hfx hlx HBX
      clear hw1 HNM c1 c2
      by_cases hnm : namesS x.1 = true
      · have hxr := hjx hnm
        obtain ⟨un, hun⟩ : ∃ un : Nat, x.2 = un := ⟨x.2.toNat, by omega⟩
        obtain ⟨p, hp⟩ : ∃ p, nums[un]? = some p := ⟨_, List.getElem?_eq_getElem (by omega)⟩
        have hcq : w1.cell? ⟨q, un, none⟩ = some (.int .i64 p) := by
          rw [(U HBN).cell (by simpa using (U HQ).1)]
          exact (U HQ).2 un p hp
        have hql : q < w1.heap.size := by have := (U HQ).1; have := (U HBN).size; omega
        have HFP : Hid (f k = (x.1, p)) := by
          have := U HFK
          unfold renS at this
          rw [if_pos hnm, hun, Int.toNat_natCast] at this
          exact V (by simpa [List.getD, hp] using this)
        have hunI : (un : Int) < nums.length := by omega
        rw [hnm]
        rw [hun] at hcx
        generalize x.1 = xo at *
        clear hp hjx HFK hxr hun HJ HF
        go_wp2_with fail
        go_roundw
        case rel =>
          refine ⟨k + 1, by go_num, by omega, ?_, (((U HBN).setCell (by simp; omega) _).setCell (Nat.le_refl _) _).setCell (Nat.le_refl _) _⟩
          have h1 := own_set (own_set (ownsRow_far (U HOWN1) (a := ⟨wr.heap.size, 1, none⟩) (by simp [Value.ownBlock]; omega) (.int .i64 p)) (k * 2) (.int .i64 xo)) (k * 2 + 1) (.int .i64 p)
          rw [instr_set2 _ k _ (U HX) xo p] at h1
          rw [U HNX, U HFP]
          exact h1
        case measure => simp [intOf]; omega
      · have hnf : namesS x.1 = false := by simpa using hnm
        have HFP : Hid (f k = (x.1, x.2)) := by
          have := U HFK
          unfold renS at this
          rw [if_neg hnm] at this
          exact this
        rw [hnf]
        generalize x.1 = xo at *
        generalize x.2 = xa at *
        clear hjx HFK HJ HF
        go_wp2_with fail
        go_roundw
        case rel =>
          refine ⟨k + 1, by go_num, by omega, ?_, ((U HBN).setCell (Nat.le_refl _) _).setCell (Nat.le_refl _) _⟩
          have h1 := own_set (own_set (U HOWN1) (k * 2) (.int .i64 xo)) (k * 2 + 1) (.int .i64 xa)
          rw [instr_set2 _ k _ (U HX) xo xa] at h1
          rw [U HNX, U HFP]
          exact h1
        case measure => simp [intOf]; omega
    · have hkk : k = row.length := by omega
      subst hkk
      have he := fillS_all row (renS nums) f (U HF)
      have HE := V he
      clear hrow hbw he
      go_wp2_with fail
      go_ret
      have el : (renamedS nums row).length = row.length := List.length_map ..
      refine ⟨some ⟨w.heap.size, 0, none⟩, row.length, by rw [el]; rfl, ?_, U HBW⟩
      unfold OwnI
      rw [el]
      unfold renamedS
      rw [← U HE]
      exact U HROW
/-- A row of truths, in memory. -/
def boolCells (b : List Bool) : List Value := b.map Value.bool
def OwnB (B : Nat) (w : World) (g : Nat) (b : List Bool) : Prop := w.ownsRow B 4 1 (.slice (some ⟨g, 0, none⟩) b.length b.length) b.length (boolCells b)
theorem Tryz.infoBool : (Tryz.prog.info? 4).map (fun i => (i.zero, i.size, i.bytes)) = some (some (.bool false), 1, 1) := by kernel_rfl
theorem run_makeB (n : Nat) (hn : n ≤ 17592186044416) (w : World) :
    (Instr.makeSlice 182 (.int .i64 (n : Int)) (.int .i64 (n : Int))).run Tryz.prog w = .ok (.slice (some ⟨w.heap.size, 0, none⟩) n n) (w.alloc (.cells (madeCells #[.bool false] (n * 1)) 4)) := by
  obtain ⟨iI, hiI, hzI0, hzI1, hzI2⟩ := info_parts Tryz.infoBool
  have hr := run_make (P := Tryz.prog) w 182 4 iI _ Tryz.underlying182 hiI hzI0 .i64 .i64 n n (by omega) (Int.le_refl _) (by rw [hzI2]; omega) (by omega)
  simp only [Int.toNat_natCast, hzI1] at hr
  exact hr
theorem made_bools (w : World) (n : Nat) (hn : n ≤ 17592186044416) : OwnB w.heap.size (w.alloc (.cells (madeCells #[.bool false] (n * 1)) 4)) w.heap.size (List.replicate n false) := by
  have e : madeCells #[.bool false] (n * 1) = (boolCells (List.replicate n false)).toArray := by
    apply Array.ext'
    rw [Nat.mul_one, toList_madeCells_one]
    simp [boolCells]
  rw [e]
  refine ⟨by simp [boolCells], Or.inr ⟨w.heap.size, n, _, by simp, Nat.le_refl _, Blk.new w _ _, by simp, by unfold maxLen; omega, by simp [boolCells], by simp [boolCells]⟩⟩
theorem OwnB.set {B : Nat} {w : World} {g : Nat} {b : List Bool} (h : OwnB B w g b) (j : Nat) (v : Bool) : OwnB B (w.setCell ⟨g, j, none⟩ (.bool v)) g (b.set j v) := by
  unfold OwnB at h ⊢
  rw [List.length_set]
  have := own_set h j (.bool v)
  have e : boolCells (b.set j v) = (boolCells b).set j (.bool v) := by unfold boolCells; rw [List.map_set]
  rw [e]
  exact this
theorem OwnB.cell {B : Nat} {w : World} {g : Nat} {b : List Bool} (h : OwnB B w g b) {j : Nat} {v : Bool} (hv : b[j]? = some v) : w.cell? ⟨g, j, none⟩ = some (.bool v) := by
  unfold OwnB at h
  have hj := (List.getElem?_eq_some_iff.1 hv).1
  rw [own_cell h j (by omega)]
  unfold boolCells
  rw [List.getElem?_map, hv]
  rfl
theorem OwnB.free {B : Nat} {w : World} {g : Nat} {b : List Bool} (h : OwnB B w g b) (j : Nat) : w.frozen? ⟨g, j, none⟩ = false := own_free h j
theorem OwnB.lt {B : Nat} {w : World} {g : Nat} {b : List Bool} (h : OwnB B w g b) : g < w.heap.size ∧ B ≤ g := ownsRow_lt h (k := g) rfl

theorem OwnB.base {B B' : Nat} {w : World} {g : Nat} {b : List Bool} (h : OwnB B w g b) (hb : B' ≤ B) : OwnB B' w g b := ownsRow_base h hb
theorem OwnB.alloc {B : Nat} {w : World} {g : Nat} {b : List Bool} (h : OwnB B w g b) (o : Obj) : OwnB B (w.alloc o) g b := ownsRow_alloc h o

/-- Where blocks begin. -/
def begStep (b : List Bool) (i : Nat) (x : Int × Int) : List Bool :=
  let c := if namesS x.1 = true then b.set x.2.toNat true else b
  if namesS x.1 = true ∨ (x.1 = 1 ∨ x.1 = 4 ∨ x.1 = 5) then c.set (i + 1) true else c
def begTo (l : List (Int × Int)) (en : Nat) : Nat → List Bool
  | 0 => ((List.replicate (l.length + 1) false).set 0 true).set en true
  | k + 1 => match l[k]? with
    | some x => begStep (begTo l en k) k x
    | none => begTo l en k
def begS (l : List (Int × Int)) (en : Nat) : List Bool := begTo l en l.length
theorem begStep_len (b : List Bool) (i : Nat) (x : Int × Int) : (begStep b i x).length = b.length := by
  unfold begStep
  simp only
  split <;> split <;> simp
theorem begTo_len (l : List (Int × Int)) (en k : Nat) : (begTo l en k).length = l.length + 1 := by
  induction k with
  | zero => simp [begTo]
  | succ k ih =>
    unfold begTo
    split
    · rw [begStep_len, ih]
    · exact ih


set_option maxRecDepth 100000 in
set_option maxHeartbeats 8000000 in
theorem beginnings_any (ao : Option Addr) (c en : Nat) (ce : Int) (l : List (Int × Int)) (w : World) (hin : InL w ao l) (hn : l.length ≤ 100000) (hen : en < l.length) (hj : ∀ x ∈ l, namesS x.1 = true → 0 ≤ x.2 ∧ x.2 < l.length) :
    Calls Tryz.prog 155 #[.agg #[.slice ao l.length c, .int .i64 en, .int .i64 ce]] w fun e w' => ∃ g, e = .returned (.slice (some ⟨g, 0, none⟩) (begS l en).length (begS l en).length) ∧ OwnB w.heap.size w' g (begS l en) ∧ Below w.heap.size w w' := by
  have hnI : (l.length : Int) ≤ 100000 := by omega
  have henI : (en : Int) < l.length := by omega
  have hP := Blk.new w #[.slice ao l.length c, .int .i64 en, .int .i64 ce] 73
  have hbP := below_box w (.cells #[.slice ao l.length c, .int .i64 en, .int .i64 ce] 73)
  have hmk := run_makeB (l.length + 1) (by omega)
  rw [show ((l.length + 1 : Nat) : Int) = (l.length : Int) + 1 by omega] at hmk
  have hB0 := made_bools (w.alloc (.cells #[.slice ao l.length c, .int .i64 en, .int .i64 ce] 73)) (l.length + 1) (by omega)
  have hb1 := hbP.trans ((below_box (w.alloc (.cells #[.slice ao l.length c, .int .i64 en, .int .i64 ce] 73)) (.cells (madeCells #[.bool false] ((l.length + 1) * 1)) 4)).mono hbP.size)
  have hP1 := hP.alloc (.cells (madeCells #[.bool false] ((l.length + 1) * 1)) 4)
  have hsz : (w.alloc (.cells #[.slice ao l.length c, .int .i64 en, .int .i64 ce] 73)).heap.size = w.heap.size + 1 := by simp
  rw [hsz] at hB0
  simp only [Nat.mul_one] at hB0 hb1 hP1
  have HB0 := V hB0
  have HB1 := V hb1
  have HP1 := V hP1
  have HIN := V hin
  have HJ := V hj
  clear hP hbP hB0 hb1 hP1 hin hj
  go_enter Tryz.func155, Tryz.ntmps155
  go_wp2_with fail
  generalize (w.alloc (.cells #[.slice ao l.length c, .int .i64 en, .int .i64 ce] 73)).alloc (.cells (madeCells #[.bool false] (l.length + 1)) 4) = W at *
  have hcP := (U HP1).cell
  have hlP := (U HP1).lt
  have hc0 : W.cell? ⟨w.heap.size + 1, 0, none⟩ = some (.bool false) := (U HB0).cell (j := 0) (by simp)
  have hce : W.cell? ⟨w.heap.size + 1, en, none⟩ = some (.bool false) := (U HB0).cell (j := en) (by rw [List.getElem?_replicate, if_pos (by omega)])
  have hfr := (U HB0).free
  have hgl := (U HB0).lt.1
  clear hmk hsz
  go_cut [] from 11 to 17 (fun wc => ∃ n, wc = ((W.setCell ⟨w.heap.size + 1, 0, none⟩ (.bool true)).setCell ⟨w.heap.size + 1, en, none⟩ (.bool true)).drewN n)
  case first =>
    by_cases h0 : en = 0
    · subst h0
      go_region
      all_goals
        go_wp2_with fail
        go_meet
        exact ⟨_, rfl⟩
    · go_region
      all_goals
        go_wp2_with fail
        go_meet
        exact ⟨_, rfl⟩
  case rest =>
    obtain ⟨n, rfl⟩ := hcut
    have HB2 : Hid (OwnB w.heap.size (((W.setCell ⟨w.heap.size + 1, 0, none⟩ (.bool true)).setCell ⟨w.heap.size + 1, en, none⟩ (.bool true)).drewN n) (w.heap.size + 1) (begTo l en 0)) := by
      have := (((U HB0).set 0 true).set en true).base (Nat.le_succ w.heap.size)
      exact this
    have HW2 : Hid (Below w.heap.size w (((W.setCell ⟨w.heap.size + 1, 0, none⟩ (.bool true)).setCell ⟨w.heap.size + 1, en, none⟩ (.bool true)).drewN n)) := below_drawn (((U HB1).setCell (by simp) _).setCell (by simp) _) n
    have hP2 : Blk (((W.setCell ⟨w.heap.size + 1, 0, none⟩ (.bool true)).setCell ⟨w.heap.size + 1, en, none⟩ (.bool true)).drewN n) w.heap.size #[.slice ao l.length c, .int .i64 en, .int .i64 ce] 73 := (((U HP1).far (a := ⟨w.heap.size + 1, 0, none⟩) (by simp) _).far (a := ⟨w.heap.size + 1, en, none⟩) (by simp) _).drewN n
    clear hcP hlP hc0 hce hfr hgl HB0 HB1 HP1
    generalize ((W.setCell ⟨w.heap.size + 1, 0, none⟩ (.bool true)).setCell ⟨w.heap.size + 1, en, none⟩ (.bool true)).drewN n = W2 at *
    have hcP := hP2.cell
    have hlP := hP2.lt
    clear hP2
    go_wp2_with fail
    go_loopw [20] (fun i wr => ∃ k : Nat, i = .int .i64 k ∧ k ≤ l.length ∧ OwnB w.heap.size wr (w.heap.size + 1) (begTo l en k) ∧ Below w.heap.size w wr) (fun i _ => l.length - (intOf i).toNat)
    case atStart => exact ⟨0, rfl, Nat.zero_le _, U HB2, U HW2⟩
    case round =>
      clear hcP hlP
      obtain ⟨k, rfl, hk, hown, hbw⟩ := hrel
      have HOWN := V hown
      have HBW := V hbw
      by_cases hlt : k < l.length
      · obtain ⟨x, hx⟩ : ∃ x, l[k]? = some x := ⟨_, List.getElem?_eq_getElem hlt⟩
        obtain ⟨g, off, rfl, hgl, c1, c2⟩ := in_at ((U HIN).below hbw) hx
        have hltI : (k : Int) < l.length := by omega
        have HNX : Hid (begTo l en (k + 1) = begStep (begTo l en k) k x) := by
          show begTo l en (k + 1) = _
          rw [begTo, hx]
        have hlen := begTo_len l en k
        have hjx := U HJ x (List.mem_of_getElem? hx)
        obtain ⟨x1, x2⟩ := x
        simp only at c1 c2 hjx
        have HBN : Hid (Below w.heap.size w (wr.alloc (.cells #[.int .i64 x1, .int .i64 x2] 65))) := hbw.trans ((below_box wr _).mono hbw.size)
        have HN1 := V (fun W => namesIns_any x1 W)
        have HG1 := V (fun W => goesOn_any x1 W)
        have HO1 := V (hown.alloc (.cells #[.int .i64 x1, .int .i64 x2] 65))
        have hbx := Blk.new wr #[.int .i64 x1, .int .i64 x2] 65
        have HBX := V hbx
        have hgw := hown.lt.1
        clear hown hbw hx hbx
        generalize hb : begTo l en k = b at *
        clear hb
        go_wp2_with fail
        refine (U HN1 _).mono ?_
        rintro e w1 ⟨rfl, hw1⟩
        rw [← hw1] at HBN HO1 HBX
        clear hw1 c1 c2
        have hcx := (U HBX).cell
        have hlx := (U HBX).lt
        by_cases hnm : namesS x1 = true
        · have hxr := hjx hnm
          obtain ⟨un, rfl⟩ : ∃ un : Nat, x2 = un := ⟨x2.toNat, by omega⟩
          obtain ⟨v, hv⟩ : ∃ v, b[un]? = some v := ⟨_, List.getElem?_eq_getElem (by omega)⟩
          have hcv := (U HO1).cell hv
          have hfv := (U HO1).free
          have hgv := (U HO1).lt.1
          have hunI : (un : Int) < (l.length : Int) + 1 := by omega
          rw [hnm]
          clear hv
          go_wp2_with fail
          refine (U HN1 _).mono ?_
          rintro e w2 ⟨rfl, hw2⟩
          have HO2 : Hid (OwnB w.heap.size w2 (w.heap.size + 1) (b.set un true)) := by rw [hw2]; exact (U HO1).set un true
          have HBN2 : Hid (Below w.heap.size w w2) := by rw [hw2]; exact (U HBN).setCell (by simp) _
          obtain ⟨v2, hv2⟩ : ∃ v, (b.set un true)[k + 1]? = some v := ⟨_, List.getElem?_eq_getElem (by rw [List.length_set]; omega)⟩
          have hcv2 := (U HO2).cell hv2
          have hfv2 := (U HO2).free
          have hgv2 := (U HO2).lt.1
          rw [hnm]
          clear hw2 hcv hfv hgv hcx hlx HN1 HG1 hv2
          go_wp2_with fail
          go_roundw
          case rel =>
            refine ⟨k + 1, by go_num, by omega, ?_, (U HBN2).setCell (by simp) _⟩
            rw [U HNX]
            unfold begStep
            simp only [hnm, if_true, true_or, Int.toNat_natCast]
            exact (U HO2).set (k + 1) true
          case measure => simp [intOf]; omega
        · have hnf : namesS x1 = false := by simpa using hnm
          rw [hnf]
          go_wp2_with fail
          refine (U HN1 _).mono ?_
          rintro e w2 ⟨rfl, hw2⟩
          obtain rfl := hw2.symm
          clear hw2
          rw [hnf]
          go_wp2_with fail
          refine (U HG1 _).mono ?_
          rintro e w2 ⟨rfl, hw2⟩
          obtain rfl := hw2.symm
          clear hw2 HN1 HG1
          by_cases hend : x1 = 1 ∨ x1 = 4 ∨ x1 = 5
          · have hde : decide (x1 = 1 ∨ x1 = 4 ∨ x1 = 5) = true := decide_eq_true hend
            rw [hde]
            obtain ⟨v2, hv2⟩ : ∃ v, b[k + 1]? = some v := ⟨_, List.getElem?_eq_getElem (by omega)⟩
            have hcv2 := (U HO1).cell hv2
            have hfv2 := (U HO1).free
            have hgv2 := (U HO1).lt.1
            clear hv2 hde
            go_wp2_with fail
            go_roundw
            case rel =>
              refine ⟨k + 1, by go_num, by omega, ?_, (U HBN).setCell (by simp) _⟩
              rw [U HNX]
              unfold begStep
              simp only [hnf, hend, or_true, if_true]
              exact (U HO1).set (k + 1) true
            case measure => simp [intOf]; omega
          · have hde : decide (x1 = 1 ∨ x1 = 4 ∨ x1 = 5) = false := decide_eq_false hend
            rw [hde]
            clear hde
            go_wp2_with fail
            go_roundw
            case rel =>
              refine ⟨k + 1, by go_num, by omega, ?_, U HBN⟩
              rw [U HNX]
              unfold begStep
              simp only [hnf, hend]
              exact U HO1
            case measure => simp [intOf]; omega
      · have hkk : k = l.length := by omega
        subst hkk
        have el : (begS l en).length = l.length + 1 := begTo_len l en l.length
        clear hown hbw
        go_wp2_with fail
        go_ret
        exact ⟨w.heap.size + 1, by rw [el]; rfl, U HOWN, U HBW⟩
end Go.Proofs.YtmeiikjpaepogaaGreatDoor
