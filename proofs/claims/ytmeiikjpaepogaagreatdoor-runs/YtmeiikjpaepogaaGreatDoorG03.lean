/- The statements' holds: longer. -/
import Derived.Test.YtmeiikjpaepogaaGreatDoorG02
import Derived.Deep.CutRange
import Derived.Test.YtmeiikjpaepogaaGreatDoorRows
import Derived.Test.YtmeiikjpaepogaaGreatDoorG01
import Derived.Lib.SmallJoins
namespace Go.Proofs.YtmeiikjpaepogaaGreatDoor
open Go Go.RowKit

theorem Tryz.infoNum : (Tryz.prog.info? 2).map (fun i => (i.zero, i.size, i.bytes)) = some (some (.int .i64 0), 1, 8) := by kernel_rfl
theorem markI_more (n : Nat) (mk : Int) : instrCells (markI n mk) ++ [.int .i64 (-1), .int .i64 (-mk)] = instrCells (markI (n + 1) mk) := by
  unfold markI instrCells
  rw [List.replicate_succ', List.flatMap_append]
  rfl
theorem markN_more (n : Nat) (mk : Int) : markN n mk ++ [.int .i64 (-mk)] = markN (n + 1) mk := by
  unfold markN
  rw [List.replicate_succ']
theorem markI_take (n m : Nat) (mk : Int) (h : n ≤ m) : (instrCells (markI m mk)).take (n * 2) = instrCells (markI n mk) := by
  obtain ⟨d, rfl⟩ : ∃ d, m = n + d := ⟨m - n, by omega⟩
  have e : instrCells (markI (n + d) mk) = instrCells (markI n mk) ++ instrCells (markI d mk) := by
    unfold markI instrCells
    rw [← List.replicate_append_replicate, List.flatMap_append]
  have hl : (instrCells (markI n mk)).length = n * 2 := by
    unfold markI instrCells
    rw [List.length_flatMap]
    simp
  rw [e, ← hl, List.take_left]
theorem markN_take (n m : Nat) (mk : Int) (h : n ≤ m) : (markN m mk).take (n * 1) = markN n mk := by
  unfold markN
  rw [List.take_replicate]
  congr 1
  omega

/-- One append: what was written with that mark and was no longer still reads so. -/
theorem hold_keepI {w w' : World} {q' : Nat} {mk : Int} {vi vi' vn' : Value} {ni ni' nn' g cap H : Nat} (h : HoldIs w q' mk vi' vn' ni' nn') (hi : w.ownsRow 0 65 2 vi ni (instrCells (markI ni mk)))
    (hown : w'.ownsRow 0 65 2 (.slice (some ⟨g, 0, none⟩) (ni + 1) cap) (ni + 1) (instrCells (markI (ni + 1) mk)))
    (hs : w.grownBy w' vi.ownBlock) (hat : vi = .slice (some ⟨g, 0, none⟩) ni cap ∨ g = H ∧ ∀ k, k < w.heap.size → w'.heap[k]? = w.heap[k]?) (hle : ni' ≤ ni) : HoldIs w' q' mk vi' vn' ni' nn' := by
  have hq := row_not_blk h.blk hi (by decide)
  refine ⟨h.blk.grown hs (fun e => hq e.symm), ?_, ?_, h.bd, h.small⟩
  · rcases hat with rfl | ⟨_, hall⟩
    · by_cases e : vi'.ownBlock = some g
      · obtain ⟨ao, c', e2⟩ := own_shape h.is
        subst e2
        cases ao with
        | none => simp [Value.ownBlock] at e
        | some a =>
          have hform := h.is.2
          rcases hform with ⟨h0, _⟩ | ⟨g1, c1, cur1, e1, _⟩
          · simp at h0
          · simp only [Value.slice.injEq, Option.some.injEq, true_and] at e1
            obtain ⟨rfl, rfl⟩ := e1
            simp [Value.ownBlock] at e
            subst e
            exact own_prefix (by decide) h.is hi hown (by omega) (markI_take _ _ _ (by omega))
      · exact ownsRow_grown h.is hs (fun k hk e2 => e (by rw [hk]; simpa [Value.ownBlock] using e2))
    · exact ownsRow_of_block h.is (fun k _ hk => hall k hk)
  · exact ownsRow_grown h.ns hs (fun k hk e2 => rows_apart h.ns hi (by decide) hk e2.symm)
theorem hold_keepN {w w' : World} {q' : Nat} {mk : Int} {vi' vn vn' : Value} {nn ni' nn' g cap H : Nat} (h : HoldIs w q' mk vi' vn' ni' nn') (hn : w.ownsRow 0 2 1 vn nn (markN nn mk))
    (hown : w'.ownsRow 0 2 1 (.slice (some ⟨g, 0, none⟩) (nn + 1) cap) (nn + 1) (markN (nn + 1) mk))
    (hs : w.grownBy w' vn.ownBlock) (hat : vn = .slice (some ⟨g, 0, none⟩) nn cap ∨ g = H ∧ ∀ k, k < w.heap.size → w'.heap[k]? = w.heap[k]?) (hle : nn' ≤ nn) : HoldIs w' q' mk vi' vn' ni' nn' := by
  have hq := row_not_blk h.blk hn (by decide)
  refine ⟨h.blk.grown hs (fun e => hq e.symm), ?_, ?_, h.bd, h.small⟩
  · exact ownsRow_grown h.is hs (fun k hk e2 => rows_apart h.is hn (by decide) hk e2.symm)
  · rcases hat with rfl | ⟨_, hall⟩
    · by_cases e : vn'.ownBlock = some g
      · obtain ⟨ao, c', e2⟩ := own_shape h.ns
        subst e2
        cases ao with
        | none => simp [Value.ownBlock] at e
        | some a =>
          have hform := h.ns.2
          rcases hform with ⟨h0, _⟩ | ⟨g1, c1, cur1, e1, _⟩
          · simp at h0
          · simp only [Value.slice.injEq, Option.some.injEq, true_and] at e1
            obtain ⟨rfl, rfl⟩ := e1
            simp [Value.ownBlock] at e
            subst e
            exact own_prefix (by decide) h.ns hn hown (by omega) (markN_take _ _ _ (by omega))
      · exact ownsRow_grown h.ns hs (fun k hk e2 => e (by rw [hk]; simpa [Value.ownBlock] using e2))
    · exact ownsRow_of_block h.ns (fun k _ hk => hall k hk)
theorem HoldIs.alloc {w : World} {q : Nat} {mk : Int} {vi vn : Value} {ni nn : Nat} (h : HoldIs w q mk vi vn ni nn) (o : Obj) : HoldIs (w.alloc o) q mk vi vn ni nn := ⟨h.blk.alloc o, ownsRow_alloc h.is o, ownsRow_alloc h.ns o, h.bd, h.small⟩
theorem HoldIs.still {w w' : World} {F : Nat → Prop} {q : Nat} {mk : Int} {vi vn : Value} {ni nn : Nat} (h : HoldIs w q mk vi vn ni nn) (hs : Still w w' F) (hq : ¬ F q) (hi : ∀ k, vi.ownBlock = some k → ¬ F k) (hn : ∀ k, vn.ownBlock = some k → ¬ F k) : HoldIs w' q mk vi vn ni nn :=
  ⟨h.blk.still hs hq, ownsRow_still h.is hs hi, ownsRow_still h.ns hs hn, h.bd, h.small⟩
theorem HoldIs.far {w : World} {q : Nat} {mk : Int} {vi vn : Value} {ni nn : Nat} (h : HoldIs w q mk vi vn ni nn) {b : Nat} {cs : Array Value} (hb : Blk w b cs 134) (hne : q ≠ b) (c : Nat) (u : Value) : HoldIs (w.setCell ⟨b, c, none⟩ u) q mk vi vn ni nn :=
  ⟨h.blk.far hne u, ownsRow_far h.is (fun e => row_not_blk hb h.is (by decide) e) u, ownsRow_far h.ns (fun e => row_not_blk hb h.ns (by decide) e) u, h.bd, h.small⟩

set_option maxRecDepth 100000 in
set_option maxHeartbeats 2000000 in
theorem longer_any (q : Nat) (mk : Int) (vi vn : Value) (ni nn : Nat) (w : World) (h : HoldIs w q mk vi vn ni nn) (hni : ni < 8796093022208) (hnn : nn < 8796093022208) :
    Calls Tryz.prog 134 #[.pointer (some ⟨q, 0, none⟩)] w fun e w' => ∃ q2 vi2 vn2, e = .returned (.pointer (some ⟨q2, 0, none⟩)) ∧ w.heap.size ≤ q2 ∧ HoldIs w' q2 mk vi2 vn2 (ni + 1) (nn + 1) ∧
      (∀ k, vi2.ownBlock = some k → vi.ownBlock = some k ∨ w.heap.size ≤ k) ∧ (∀ k, vn2.ownBlock = some k → vn.ownBlock = some k ∨ w.heap.size ≤ k) ∧
      Still w w' (fun k => vi.ownBlock = some k ∨ vn.ownBlock = some k) ∧
      ∀ q' vi' vn' ni' nn', HoldIs w q' mk vi' vn' ni' nn' → ni' ≤ ni → nn' ≤ nn → HoldIs w' q' mk vi' vn' ni' nn' := by
  obtain ⟨iI, hiI, hzI0, hzI1, hzI2⟩ := info_parts Tryz.infoInstr
  obtain ⟨iN, hiN, hzN0, hzN1, hzN2⟩ := info_parts Tryz.infoNum
  have hc := h.blk.cell
  have hbl := h.blk.lt
  have hmk := h.bd
  have hw : IntKind.i64.wrap (-mk) = -mk := by rw [IntKind.wrap_i64]; omega
  have hqi := row_not_blk h.blk h.is (by decide)
  have hqn := row_not_blk h.blk h.ns (by decide)
  have HI1 := hide (ownsRow_alloc (ownsRow_alloc h.is (.cells #[.slice none 0 0, .slice none 0 0, .int .i64 mk] 134)) (.cells #[.int .i64 (-1), .int .i64 (-mk)] 65))
  have HH1 := hide ((h.alloc (.cells #[.slice none 0 0, .slice none 0 0, .int .i64 mk] 134)).alloc (.cells #[.int .i64 (-1), .int .i64 (-mk)] 65))
  have HB1 := hide ((Blk.new w #[.slice none 0 0, .slice none 0 0, .int .i64 mk] 134).alloc (.cells #[.int .i64 (-1), .int .i64 (-mk)] 65))
  have HNN := hide (Blk.new (w.alloc (.cells #[.slice none 0 0, .slice none 0 0, .int .i64 mk] 134)) #[.int .i64 (-1), .int .i64 (-mk)] 65)
  have hnew : vi.ownBlock ≠ some w.heap.size := fun e => by have := (ownsRow_lt h.is e).1; omega
  have HH := hide h
  clear h
  go_enter Tryz.func134, Tryz.ntmps134
  go_upto_region 4 with (at_builtin; refine wpList_append_keep _ rfl (.tmp 20) (.tmp 23) 33 rfl 0 65 iI _ 2 16 Tryz.underlying33 hiI hzI0 hzI1 hzI2 rfl (by decide) vi ni (instrCells (markI ni mk)) (by simp [Act.eval]) (unhide HI1) ⟨w.heap.size + 1, 0, none⟩ 1 1 [.int .i64 (-1), .int .i64 (-mk)] (by simp [Act.eval]) rfl (by have := World.news_of_block (unhide HNN); simpa using this) (by simp [Value.oneCell']) (by omega) (by unfold maxLen; omega) (by omega) (Nat.zero_le _) _ rfl ?_; intro g cap w5 hown hgrow hat hlt1; rw [markI_more] at hown; have h5 := hold_keepI (unhide HH1) (unhide HI1) hown hgrow hat (Nat.le_refl _); have hb5 := (unhide HB1).grown hgrow (fun e => hnew e.symm); have hc5 := h5.blk.cell; have hcb5 := hb5.cell; have hfb5 := hb5.free; have HO := hide hown; have HG := hide hgrow; have HA := hide hat; have H5 := hide h5; have HB5 := hide hb5; clear hown hgrow hat h5 hb5 hc)
  have hq5 : w.heap.size ≠ q := by omega
  have hn5 : vn.ownBlock ≠ some w.heap.size := fun e => by have := (ownsRow_lt (unhide HH).ns e).1; omega
  have hs5 : w.heap.size + 2 ≤ w5.heap.size := by have := (unhide HG).size; simpa using this
  have HN2 := hide (ownsRow_alloc (ownsRow_far (unhide H5).ns hn5 (.slice (some ⟨g, 0, none⟩) (ni + 1) cap) (a := ⟨w.heap.size, 0, none⟩)) (.cells #[.int .i64 (-mk)] 2))
  have HNM := hide (Blk.new (w5.setCell ⟨w.heap.size, 0, none⟩ (.slice (some ⟨g, 0, none⟩) (ni + 1) cap)) #[.int .i64 (-mk)] 2)
  have HH6 := hide (((unhide H5).far (unhide HB5) (by omega) 0 (.slice (some ⟨g, 0, none⟩) (ni + 1) cap)).alloc (.cells #[.int .i64 (-mk)] 2))
  have HB6 := hide (((unhide HB5).set 0 (.slice (some ⟨g, 0, none⟩) (ni + 1) cap)).alloc (.cells #[.int .i64 (-mk)] 2))
  simp only [List.setIfInBounds_toArray, List.set_cons_zero] at HB6
  go_wp2_with (at_builtin; refine wpList_append_keep _ rfl (.tmp 31) (.tmp 33) 42 rfl 0 2 iN _ 1 8 Tryz.underlying42 hiN hzN0 hzN1 hzN2 rfl (by decide) vn nn (markN nn mk) (by simp [Act.eval]) (unhide HN2) ⟨w5.heap.size, 0, none⟩ 1 1 [.int .i64 (-mk)] (by simp [Act.eval]) rfl (by have := World.news_of_block (unhide HNM); simpa using this) (by simp [Value.oneCell']) (by omega) (by unfold maxLen; omega) (by omega) (Nat.zero_le _) _ rfl ?_; intro g2 cap2 w7 hown hgrow hat hlt1; rw [markN_more] at hown; have h7 := hold_keepN (unhide HH6) (unhide HN2) hown hgrow hat (Nat.le_refl _); have hb7 := (unhide HB6).grown hgrow (fun e => hn5 e.symm); have hcb7 := hb7.cell; have hfb7 := hb7.free; have HO7 := hide hown; have HG7 := hide hgrow; have HA7 := hide hat; have H7 := hide h7; have HB7 := hide hb7; clear hown hgrow hat h7 hb7)
  go_ret
  have hI7 := ownsRow_grown (ownsRow_alloc (ownsRow_far (unhide HO) (row_not_blk (unhide HB5) (unhide HO) (by decide)) (.slice (some ⟨g, 0, none⟩) (ni + 1) cap) (a := ⟨w.heap.size, 0, none⟩)) (.cells #[.int .i64 (-mk)] 2)) (unhide HG7)
  have hI7 := hI7 (fun k hk e => rows_apart (ownsRow_alloc (ownsRow_far (unhide HO) (row_not_blk (unhide HB5) (unhide HO) (by decide)) (.slice (some ⟨g, 0, none⟩) (ni + 1) cap) (a := ⟨w.heap.size, 0, none⟩)) (.cells #[.int .i64 (-mk)] 2)) (unhide HN2) (by decide) hk e.symm)
  have hB8 := (unhide HB7).set 1 (.slice (some ⟨g2, 0, none⟩) (nn + 1) cap2)
  simp only [List.setIfInBounds_toArray, List.set_cons_succ, List.set_cons_zero] at hB8
  refine ⟨w.heap.size, .slice (some ⟨g, 0, none⟩) (ni + 1) cap, .slice (some ⟨g2, 0, none⟩) (nn + 1) cap2, rfl, Nat.le_refl _, ?_, ?_, ?_, ?_, ?_⟩
  · exact ⟨hB8, ownsRow_far hI7 (row_not_blk (unhide HB7) hI7 (by decide)) _, ownsRow_far (unhide HO7) (row_not_blk (unhide HB7) (unhide HO7) (by decide)) _, hmk, by omega⟩
  · intro k hk
    simp only [Value.ownBlock, Option.some.injEq] at hk
    rcases unhide HA with e | ⟨e, _⟩
    · left; rw [e, ← hk]; rfl
    · right; rw [← hk, e]; simp; omega
  · intro k hk
    simp only [Value.ownBlock, Option.some.injEq] at hk
    rcases unhide HA7 with e | ⟨e, _⟩
    · left; rw [e, ← hk]; rfl
    · right
      have hs5 := (unhide HG).size
      rw [← hk, e]; simp at hs5 ⊢; omega
  · refine Still.set (Still.grown (Still.alloc (Still.set (Still.grown (Still.alloc (Still.alloc (Still.refl w _) _) _) (unhide HG) ?_) ?_ _ _) _) (unhide HG7) ?_) ?_ _ _
    · exact fun k hk => Or.inl (Or.inl hk)
    · exact Or.inr (Nat.le_refl _)
    · exact fun k hk => Or.inl (Or.inr hk)
    · exact Or.inr (Nat.le_refl _)
  · intro q' vi' vn' ni' nn' h' h1 h2
    have hlt := h'.blk.lt
    have k1 := hold_keepI ((h'.alloc (.cells #[.slice none 0 0, .slice none 0 0, .int .i64 mk] 134)).alloc (.cells #[.int .i64 (-1), .int .i64 (-mk)] 65)) (unhide HI1) (unhide HO) (unhide HG) (unhide HA) h1
    have k2 := (k1.far (unhide HB5) (by omega) 0 (.slice (some ⟨g, 0, none⟩) (ni + 1) cap)).alloc (.cells #[.int .i64 (-mk)] 2)
    exact (hold_keepN k2 (unhide HN2) (unhide HO7) (unhide HG7) (unhide HA7) h2).far (unhide HB7) (by omega) _ _

end Go.Proofs.YtmeiikjpaepogaaGreatDoor

/- Walks of small functions of the statements and the reference that only compute. -/
namespace Go.Proofs.YtmeiikjpaepogaaGreatDoor
open Go.RowKit


def pickS (c n : Int) : Int := if c < 0 then (-(c + 1)) % n else c % n

set_option maxHeartbeats 400000 in
theorem pick_any (c n : Int) (w : World) (hc1 : -9223372036854775808 ≤ c) (hc2 : c ≤ 9223372036854775807) (hn1 : 1 ≤ n) (hn2 : n ≤ 9223372036854775807) :
    Calls Tryz.prog 43 #[.int .i64 c, .int .i64 n] w fun e w' => e = .returned (.int .i64 (pickS c n)) ∧ w' = w := by
  by_cases h : c < 0
  · go_enter Tryz.func43, Tryz.ntmps43
    go_wp2
    go_ret
    refine ⟨ret_int ?_, rfl⟩
    unfold pickS
    rw [if_pos h, ← Int.neg_tmod, Int.tmod_eq_emod_of_nonneg (by omega)]
  · go_enter Tryz.func43, Tryz.ntmps43
    go_wp2
    go_ret
    refine ⟨ret_int ?_, rfl⟩
    unfold pickS
    rw [if_neg (by omega)]

def namesS (op : Int) : Bool := op == 1 || op == 2 || op == 3 || op == 7

set_option maxHeartbeats 400000 in
theorem names_any (op : Int) (w : World) :
    Calls Tryz.prog 132 #[.int .i64 op] w fun e w' => e = .returned (.bool (namesS op)) ∧ w' = w := by
  go_enter Tryz.func132, Tryz.ntmps132
  go_wp2
  all_goals (go_ret; refine ⟨ret_bool ?_, rfl⟩; simp_all [namesS])

set_option maxHeartbeats 400000 in
theorem truth_any (b : Bool) (w : World) :
    Calls Tryz.prog 232 #[.bool b] w fun e w' => e = .returned (.int .i64 (if b then -1 else 0)) ∧ w' = w := by
  go_enter Tryz.func232, Tryz.ntmps232
  cases b
  all_goals (go_wp2; go_ret; exact ⟨rfl, rfl⟩)

theorem ret_two {k : IntKind} {a b a' b' : Int} (h : a = a') (h' : b = b') : Ending.returned (.tuple #[.int k a, .int k b]) = .returned (.tuple #[.int k a', .int k b']) := by rw [h, h']

def needsS (op : Int) : Int × Int :=
  if op = 0 ∨ op = 8 ∨ op = 28 ∨ op = 27 then (0, 1)
  else if op = 2 ∨ op = 22 ∨ op = 26 ∨ op = 31 ∨ op = 32 then (1, -1)
  else if op = 17 ∨ op = 18 ∨ op = 30 then (1, 0)
  else if op = 21 then (1, 1)
  else if op = 6 ∨ op = 29 then (2, -2)
  else if op = 9 ∨ op = 10 ∨ op = 11 ∨ op = 12 ∨ op = 13 ∨ op = 14 ∨ op = 15 ∨ op = 16 ∨ op = 19 ∨ op = 20 then (2, -1)
  else if op = 23 then (2, 0)
  else if op = 24 then (2, 1)
  else if op = 25 then (3, 0)
  else (0, 0)

set_option maxHeartbeats 1000000 in
theorem needs_any (op : Int) (w : World) :
    Calls Tryz.prog 209 #[.int .i64 op] w fun e w' => e = .returned (.tuple #[.int .i64 (needsS op).1, .int .i64 (needsS op).2]) ∧ w' = w := by
  go_enter Tryz.func209, Tryz.ntmps209
  go_wp2
  all_goals (go_ret2; refine ⟨ret_two ?_ ?_, rfl⟩ <;> simp_all [needsS])

end Go.Proofs.YtmeiikjpaepogaaGreatDoor

/- The reference's machine: Parts, aside, two, Digits. -/
namespace Go.Proofs.YtmeiikjpaepogaaGreatDoor
open Go Go.RowKit

def partsTab : List (Int × List Int) := [(40, [0, 9]), (41, [0, 10]), (42, [0, 11]), (43, [0, 20]), (44, [0, 30]), (45, [0, 29]), (46, [0, 9, 30]), (47, [21, 30]), (48, [21, 11]), (49, [21, 21]), (50, [21, 24]), (51, [21, 0, 19]), (52, [22, 22]), (53, [22, 21]), (54, [23, 22]), (55, [23, 24]), (56, [24, 24]), (57, [24, 9]), (58, [24, 24, 20]), (59, [30, 9])]
def partsS (op : Int) : List Int := match partsTab.find? (fun x => op == x.1) with | some x => x.2 | none => if 0 ≤ op ∧ op ≤ 32 then [op] else []

theorem own_lit (w : World) (e : TypeId) (cs : Array Value) (n : Nat) (hn : cs.size = n) (hm : n ≤ maxLen) : (w.alloc (.cells cs e)).ownsRow w.heap.size e 1 (.slice (some ⟨w.heap.size, 0, none⟩) n n) n cs.toList := by
  refine ⟨by simp [hn], Or.inr ⟨w.heap.size, n, cs, rfl, Nat.le_refl _, Blk.new w cs e, Nat.le_refl _, hm, by omega, ?_⟩⟩
  rw [List.take_of_length_le (by simp; omega)]

theorem parts_leaf {w : World} {e : Ending} {w' : World} {op : Int} (cs : Array Value) (n : Nat) (he : e = .returned (.slice (some ⟨w.heap.size, 0, none⟩) n n)) (hw : w' = w.alloc (.cells cs 3)) (hn : cs.size = n) (hm : n ≤ 3) (hcs : cs.toList = (partsS op).map (Value.int .i64)) :
    ∃ v, e = .returned v ∧ w'.ownsRow w.heap.size 3 1 v (partsS op).length ((partsS op).map (Value.int .i64)) ∧ Below w.heap.size w w' := by
  subst he hw
  refine ⟨_, rfl, ?_, (Below.refl _ _).alloc (Nat.le_refl _) _⟩
  have hl : (partsS op).length = n := by
    have := congrArg List.length hcs
    simp at this
    omega
  rw [← hcs, hl]
  exact own_lit w 3 cs n hn (by unfold maxLen; omega)

set_option maxRecDepth 100000 in
set_option maxHeartbeats 1000000 in
theorem parts_any (op : Int) (w : World) :
    Calls Tryz.prog 131 #[.int .i64 op] w fun e w' => ∃ v, e = .returned v ∧ w'.ownsRow w.heap.size 3 1 v (partsS op).length ((partsS op).map (Value.int .i64)) ∧ Below w.heap.size w w' := by
  go_enter Tryz.func131, Tryz.ntmps131
  go_wp2
  all_goals go_ret
  all_goals first
    | exact parts_leaf _ _ rfl rfl rfl (by decide) (by simp_all [partsS, partsTab])
    | (refine ⟨_, rfl, ?_, Below.refl _ _⟩; have hp : partsS op = [] := by simp_all [partsS, partsTab] <;> omega
       rw [hp]; exact World.ownsRow_nil _ _ _ _)

def asideS (op : Int) : Int × Int :=
  if op = 8 ∨ op = 28 then (1, 0) else if op = 27 then (1, -1) else if op = 26 then (0, 1) else if op = 6 then (0, 2) else if op = 7 then (2, 0) else (0, 0)

set_option maxHeartbeats 1000000 in
theorem aside_any (op : Int) (w : World) :
    Calls Tryz.prog 210 #[.int .i64 op] w fun e w' => e = .returned (.tuple #[.int .i64 (asideS op).1, .int .i64 (asideS op).2]) ∧ w' = w := by
  go_enter Tryz.func210, Tryz.ntmps210
  go_wp2
  all_goals (go_ret2; refine ⟨ret_two ?_ ?_, rfl⟩ <;> simp_all [asideS])

end Go.Proofs.YtmeiikjpaepogaaGreatDoor

/- The reference's machine: two. -/
namespace Go.Proofs.YtmeiikjpaepogaaGreatDoor
open Go Go.RowKit

def divS (a b : Int) : Int := if b = -1 then wrap64 (-a) else if a.tmod b < 0 ∧ 0 < b ∨ 0 < a.tmod b ∧ b < 0 then a.tdiv b - 1 else a.tdiv b
def modS (a b : Int) : Int := if b = -1 then 0 else if a.tmod b < 0 ∧ 0 < b ∨ 0 < a.tmod b ∧ b < 0 then a.tmod b + b else a.tmod b
def truthS (b : Bool) : Int := if b then -1 else 0

theorem div_facts (a b : Int) (h0 : b ≠ 0) (h1 : b ≠ -1) (ha : -9223372036854775808 ≤ a ∧ a ≤ 9223372036854775807) (hb : -9223372036854775808 ≤ b ∧ b ≤ 9223372036854775807) :
    wrap64 (a.tdiv b) = a.tdiv b ∧ wrap64 (a.tdiv b * b) = a.tdiv b * b ∧ wrap64 (a - a.tdiv b * b) = a.tmod b ∧ -9223372036854775808 ≤ a.tdiv b ∧ a.tdiv b ≤ 9223372036854775807 ∧ (a.tmod b < 0 ∧ 0 < b ∨ 0 < a.tmod b ∧ b < 0 → -9223372036854775807 ≤ a.tdiv b ∧ -9223372036854775808 ≤ a.tmod b + b ∧ a.tmod b + b ≤ 9223372036854775807) := by
  have hm := Int.tmod_add_mul_tdiv a b
  have hd : a.tdiv b * b = a - a.tmod b := by rw [Int.mul_comm]; omega
  have habs : (a.tmod b).natAbs < b.natAbs := by
    rw [Int.natAbs_tmod]
    exact Nat.mod_lt _ (by omega)
  have habs2 : (a.tmod b).natAbs ≤ a.natAbs := by rw [Int.natAbs_tmod]; exact Nat.mod_le _ _
  have hq : (a.tdiv b).natAbs = a.natAbs / b.natAbs := Int.natAbs_tdiv a b
  have hs : (0 ≤ a → 0 ≤ a.tmod b) ∧ (a ≤ 0 → a.tmod b ≤ 0) := ⟨fun h => Int.tmod_nonneg b h, fun h => by
    have := Int.tmod_nonneg b (show 0 ≤ -a by omega)
    rw [Int.neg_tmod] at this
    omega⟩
  have hd2 : a - a.tdiv b * b = a.tmod b := by omega
  have hq3 : -9223372036854775808 ≤ a.tdiv b ∧ a.tdiv b ≤ 9223372036854775807 ∧ (b = 1 ∨ -9223372036854775807 ≤ a.tdiv b) := by
    by_cases hb1 : b = 1
    · subst hb1
      rw [Int.tdiv_one]
      exact ⟨ha.1, ha.2, Or.inl rfl⟩
    · have e : 2 ≤ b.natAbs := by omega
      have h2 : a.natAbs ≤ 9223372036854775808 := by omega
      have h3 := Nat.div_le_div_left e (by omega : 0 < 2) (a := a.natAbs)
      rw [← hq] at h3
      exact ⟨by omega, by omega, Or.inr (by omega)⟩
  refine ⟨?_, ?_, ?_, hq3.1, hq3.2.1, ?_⟩
  · unfold wrap64; omega
  · rw [hd]; unfold wrap64; omega
  · rw [hd2]; unfold wrap64; omega
  · intro hf
    refine ⟨?_, by omega, by omega⟩
    rcases hq3.2.2 with e | e
    · subst e; omega
    · exact e

def twoS (op a b : Int) : Int :=
  if op = 9 then wrap64 (a + b) else if op = 10 then wrap64 (a - b) else if op = 11 then wrap64 (a * b)
  else if op = 14 then bits .and .i64 a b else if op = 15 then bits .or .i64 a b else if op = 16 then bits .xor .i64 a b
  else if op = 19 then truthS (a == b) else if op = 20 then truthS (decide (a < b)) else if op = 13 then modS a b else divS a b

set_option maxRecDepth 100000 in
set_option maxHeartbeats 1000000 in
theorem two_plain (op a b : Int) (w : World) (hop : op = 9 ∨ op = 10 ∨ op = 11 ∨ op = 14 ∨ op = 15 ∨ op = 16) :
    Calls Tryz.prog 214 #[.int .i64 op, .int .i64 a, .int .i64 b] w fun e w' => e = .returned (.int .i64 (twoS op a b)) ∧ w' = w := by
  rcases hop with rfl | rfl | rfl | rfl | rfl | rfl
  all_goals
    go_enter Tryz.func214, Tryz.ntmps214
    go_wp2
    go_ret
    exact ⟨rfl, rfl⟩

set_option maxRecDepth 100000 in
set_option maxHeartbeats 1000000 in
theorem two_truth (op a b : Int) (w : World) (hop : op = 19 ∨ op = 20) :
    Calls Tryz.prog 214 #[.int .i64 op, .int .i64 a, .int .i64 b] w fun e w' => e = .returned (.int .i64 (twoS op a b)) ∧ w' = w := by
  rcases hop with rfl | rfl
  all_goals
    go_enter Tryz.func214, Tryz.ntmps214
    go_wp2_with (go_at_call 232; refine (truth_any _ _).mono ?_; rintro e w1 ⟨rfl, hw⟩; obtain rfl := hw.symm; clear hw)
    all_goals (go_ret; refine ⟨ret_int ?_, rfl⟩; simp_all [twoS, truthS])

set_option maxRecDepth 100000 in
set_option maxHeartbeats 1000000 in
theorem two_div (op a b : Int) (w : World) (hop : op = 12 ∨ op = 13) (h0 : b ≠ 0) (ha : -9223372036854775808 ≤ a ∧ a ≤ 9223372036854775807) (hb : -9223372036854775808 ≤ b ∧ b ≤ 9223372036854775807) :
    Calls Tryz.prog 214 #[.int .i64 op, .int .i64 a, .int .i64 b] w fun e w' => e = .returned (.int .i64 (twoS op a b)) ∧ w' = w := by
  by_cases h1 : b = -1
  · subst h1
    rcases hop with rfl | rfl
    all_goals
      go_enter Tryz.func214, Tryz.ntmps214
      go_wp2
      go_ret
      exact ⟨rfl, rfl⟩
  · obtain ⟨e1, e2, e3, e4, e5, e6⟩ := div_facts a b h0 h1 ha hb
    have h1' : (b == -1) = false := by simpa using h1
    by_cases hf : a.tmod b < 0 ∧ 0 < b ∨ 0 < a.tmod b ∧ b < 0
    · have hdv : divS a b = a.tdiv b - 1 := by unfold divS; rw [if_neg h1, if_pos hf]
      have hmd : modS a b = a.tmod b + b := by unfold modS; rw [if_neg h1, if_pos hf]
      have HD := hide hdv
      have HM := hide hmd
      have e7 := e6 hf
      obtain ⟨e7, e8, e9⟩ := e7
      clear hdv hmd e6 ha hb
      rcases hf with ⟨f1, f2⟩ | ⟨f1, f2⟩
      all_goals
        rcases hop with rfl | rfl
        all_goals
          go_enter Tryz.func214, Tryz.ntmps214
          go_wp2
          go_ret
          refine ⟨ret_int ?_, rfl⟩
          simp only [twoS]
          first
            | (rw [unhide HD]; simp; done)
            | (rw [unhide HM]; simp; done)
            | (simp; done)
            | (simp [unhide HM]; done)
    · have hdv : divS a b = a.tdiv b := by unfold divS; rw [if_neg h1, if_neg hf]
      have hmd : modS a b = a.tmod b := by unfold modS; rw [if_neg h1, if_neg hf]
      have HD := hide hdv
      have HM := hide hmd
      have hways : (a.tmod b < 0 ∧ b < 0) ∨ (0 < a.tmod b ∧ 0 < b) ∨ (0 ≤ a.tmod b ∧ a.tmod b ≤ 0) := by omega
      clear hdv hmd e6 ha hb hf
      rcases hways with ⟨f1, f2⟩ | ⟨f1, f2⟩ | ⟨f1, f2⟩
      all_goals
        rcases hop with rfl | rfl
        all_goals
          go_enter Tryz.func214, Tryz.ntmps214
          go_wp2
          go_ret
          refine ⟨ret_int ?_, rfl⟩
          simp only [twoS]
          first
            | (rw [unhide HD]; simp; done)
            | (rw [unhide HM]; simp; done)
            | (simp; done)
            | (simp [unhide HM]; done)

theorem two_any (op a b : Int) (w : World) (hop : op = 9 ∨ op = 10 ∨ op = 11 ∨ op = 12 ∨ op = 13 ∨ op = 14 ∨ op = 15 ∨ op = 16 ∨ op = 19 ∨ op = 20) (h0 : op = 12 ∨ op = 13 → b ≠ 0) (ha : -9223372036854775808 ≤ a ∧ a ≤ 9223372036854775807) (hb : -9223372036854775808 ≤ b ∧ b ≤ 9223372036854775807) :
    Calls Tryz.prog 214 #[.int .i64 op, .int .i64 a, .int .i64 b] w fun e w' => e = .returned (.int .i64 (twoS op a b)) ∧ w' = w := by
  by_cases h1 : op = 12 ∨ op = 13
  · exact two_div op a b w h1 (h0 h1) ha hb
  · by_cases h2 : op = 19 ∨ op = 20
    · exact two_truth op a b w h2
    · exact two_plain op a b w (by omega)

end Go.Proofs.YtmeiikjpaepogaaGreatDoor

/- The reference's machine: Digits. -/
namespace Go.Proofs.YtmeiikjpaepogaaGreatDoor
open Go Go.RowKit

def digC (k : Nat) : UInt8 := UInt8.ofNat (48 + k % 10)
/-- The digits of a number, least last. -/
def digL : Nat → Nat → List UInt8
  | 0, _ => []
  | f + 1, k => if 10 ≤ k then digL f (k / 10) ++ [digC k] else [digC k]
theorem digL_step (f k : Nat) (h : 10 ≤ k) : digL (f + 1) k = digL f (k / 10) ++ [digC k] := by simp [digL, h]
theorem digL_last (f k : Nat) (h : ¬ 10 ≤ k) : digL (f + 1) k = [digC k] := by simp [digL, h]
theorem digL_length (f k : Nat) : (digL f k).length ≤ f := by
  induction f generalizing k with
  | zero => simp [digL]
  | succ f ih =>
    unfold digL
    split
    · simp; exact ih _
    · simp
/-- A number in base ten. -/
def digitsS (n : Int) : List UInt8 := if n < 0 then 45 :: digL 25 n.natAbs else digL 25 n.natAbs

theorem conv_one (W : World) (c : Int) : (convert 86 9 (.slice (some ⟨W.heap.size, 0, none⟩) 1 1)).run Tryz.prog (W.alloc (.cells #[.int .u8 c] 5)) = .ok (.string (strOfNums [c])) (W.alloc (.cells #[.int .u8 c] 5)) := by
  refine run_convert_bytes_arg _ 86 5 Tryz.underlying86 Tryz.underlying5 W.heap.size 0 1 1 [c] rfl ?_ 9 Tryz.underlying9
  intro i hi
  have : i = 0 := by omega
  subst this
  rw [(Blk.new W _ _).cell]
  rfl

theorem digs_app (k : Nat) (t : ByteArray) : (strOfNums [48 + (k : Int) % 10] ++ t).toList = digC k :: t.toList := by
  rw [ByteArray.toList_eq, Joins.data_append, strOfNums_data, ByteArray.toList_eq]
  have e : (48 + (k : Int) % 10).toNat = 48 + k % 10 := by omega
  simp [digC, e]
theorem digs_size (k : Int) (t : ByteArray) : (strOfNums [k] ++ t).size = t.size + 1 := by
  rw [ByteArray.size_append, strOfNums_size]; simp; omega
theorem neg_app (t : ByteArray) : (⟨#[45]⟩ : ByteArray) ++ t = ⟨(45 :: t.data.toList).toArray⟩ := by
  have h : ((⟨#[45]⟩ : ByteArray) ++ t).data.toList = 45 :: t.data.toList := by rw [Joins.data_append]; rfl
  rw [← Joins.bytes_eta ((⟨#[45]⟩ : ByteArray) ++ t), h]
theorem wrap_u (n : Int) (h : -9223372036854775808 ≤ n ∧ n < 0) : IntKind.u64.wrap (-IntKind.u64.wrap n) = -n := by
  have hs : IntKind.u64.signed = false := rfl
  simp [IntKind.wrap, IntKind.bits, hs]
  omega
theorem pow_step {k f : Nat} (h : k < 10 ^ f) (h10 : 10 ≤ k) : ∃ g, f = g + 1 ∧ k / 10 < 10 ^ g := by
  cases f with
  | zero => simp at h; omega
  | succ g => exact ⟨g, rfl, by rw [Nat.pow_succ] at h; omega⟩
theorem pow_last {k f : Nat} (h : k < 10 ^ f) (h10 : ¬ 10 ≤ k) (hf : 0 < f) : digL f k = [digC k] := by
  cases f with
  | zero => omega
  | succ g => exact digL_last g k h10

set_option maxRecDepth 100000 in
set_option maxHeartbeats 1000000 in
theorem digits_pos (n : Int) (w : World) (hn : -9223372036854775808 ≤ n ∧ n ≤ 9223372036854775807) (h0 : 0 ≤ n) :
    Calls Tryz.prog 211 #[.int .i64 n] w fun e w' => e = .returned (.string ⟨(digitsS n).toArray⟩) ∧ Below w.heap.size w w' := by
  have hcv := conv_one
  have h8 : decide (n < 0) = false := by simpa using h0
  obtain ⟨h1, h2⟩ := hn
  have hD : digitsS n = digL 25 n.natAbs := by unfold digitsS; rw [if_neg (by omega)]
  have HD := hide hD
  have hpw : n.natAbs < 10 ^ 25 := by omega
  have HPW := hide hpw
  clear hD hpw
  go_enter Tryz.func211, Tryz.ntmps211
  go_wp2_with fail
  go_loopw [3, 4] (fun u s wr => ∃ (k f : Nat) (t : ByteArray), u = .int .u64 k ∧ s = .string t ∧ k ≤ 9223372036854775808 ∧ 0 < f ∧ f + t.size = 25 ∧ k < 10 ^ f ∧ digL 25 n.natAbs = digL f k ++ t.toList ∧ Below w.heap.size w wr) (fun u _ _ => (intOf u).toNat)
  case atStart => exact ⟨n.natAbs, 25, ⟨#[]⟩, by rw [show (n.natAbs : Int) = n from by omega], rfl, by omega, by omega, rfl, unhide HPW, by rw [ByteArray.toList_eq]; exact (List.append_nil _).symm, Below.refl _ _⟩
  case round =>
    obtain ⟨k, f, t, rfl, rfl, hk, hf0, hft, hkf, hdl, hb⟩ := hrel
    have HL := hide hdl
    have HK := hide hkf
    have HFT := hide hft
    clear hdl hkf hft
    have hk' : (k : Int) ≤ 9223372036854775808 := by omega
    have hkm : (k : Int) % 10 < 10 := by omega
    have hkm0 : 0 ≤ (k : Int) % 10 := by omega
    have hts : t.size ≤ 25 := by have := unhide HFT; omega
    by_cases h10 : (10 : Int) ≤ k
    · have hsz : ¬ 9223372036854775807 < (strOfNums [48 + (k : Int) % 10]).size + t.size := by rw [strOfNums_size]; simp; omega
      go_wp2_with fail
      obtain ⟨g, hg, hgk⟩ := pow_step (unhide HK) (by omega)
      have hg0 : 0 < g := by
        cases g with
        | zero => simp at hgk; omega
        | succ g => omega
      have hstep : digL 25 n.natAbs = digL g (k / 10) ++ (strOfNums [48 + (k : Int) % 10] ++ t).toList := by
        rw [unhide HL, hg, digL_step g k (by omega), digs_app]; simp
      have hsize : g + (strOfNums [48 + (k : Int) % 10] ++ t).size = 25 := by rw [digs_size]; have := unhide HFT; omega
      exact ⟨⟨k / 10, g, _, by go_num, rfl, by omega, hg0, hsize, hgk, hstep, hb.alloc (by have := hb.size; omega) _⟩, by simp [intOf]; omega⟩
    · have hkk : (k : Int) % 10 = k := by omega
      have hsz : ¬ 9223372036854775807 < (strOfNums [48 + (k : Int)]).size + t.size := by rw [strOfNums_size]; simp; omega
      have HKK := hide hkk
      clear hkk
      go_wp2_with fail
      go_ret
      refine ⟨ret_string ?_, hb.alloc (by have := hb.size; omega) _⟩
      have e1 : (strOfNums [48 + (k : Int)] ++ t).toList = digC k :: t.toList := by
        have := digs_app k t
        rw [unhide HKK] at this
        exact this
      have e2 : digL 25 n.natAbs = digC k :: t.toList := by rw [unhide HL, pow_last (unhide HK) (by omega) hf0]; rfl
      rw [unhide HD, e2, ← e1]
      rw [ByteArray.toList_eq]

set_option maxRecDepth 100000 in
set_option maxHeartbeats 1000000 in
theorem digits_neg (n : Int) (w : World) (hn : -9223372036854775808 ≤ n ∧ n ≤ 9223372036854775807) (h0 : n < 0) :
    Calls Tryz.prog 211 #[.int .i64 n] w fun e w' => e = .returned (.string ⟨(digitsS n).toArray⟩) ∧ Below w.heap.size w w' := by
  have hcv := conv_one
  have h8 : decide (n < 0) = true := by simpa using h0
  obtain ⟨h1, h2⟩ := hn
  have hD : digitsS n = 45 :: digL 25 n.natAbs := by unfold digitsS; rw [if_pos h0]
  have HD := hide hD
  have hpw : n.natAbs < 10 ^ 25 := by omega
  have HPW := hide hpw
  clear hD hpw
  go_enter Tryz.func211, Tryz.ntmps211
  go_wp2_with fail
  go_loopw [3, 4] (fun u s wr => ∃ (k f : Nat) (t : ByteArray), u = .int .u64 k ∧ s = .string t ∧ k ≤ 9223372036854775808 ∧ 0 < f ∧ f + t.size = 25 ∧ k < 10 ^ f ∧ digL 25 n.natAbs = digL f k ++ t.toList ∧ Below w.heap.size w wr) (fun u _ _ => (intOf u).toNat)
  case atStart => exact ⟨n.natAbs, 25, ⟨#[]⟩, by rw [wrap_u n (by omega), show (n.natAbs : Int) = -n from by omega], rfl, by omega, by omega, rfl, unhide HPW, by rw [ByteArray.toList_eq]; exact (List.append_nil _).symm, Below.refl _ _⟩
  case round =>
    obtain ⟨k, f, t, rfl, rfl, hk, hf0, hft, hkf, hdl, hb⟩ := hrel
    have HL := hide hdl
    have HK := hide hkf
    have HFT := hide hft
    clear hdl hkf hft
    have hk' : (k : Int) ≤ 9223372036854775808 := by omega
    have hkm : (k : Int) % 10 < 10 := by omega
    have hkm0 : 0 ≤ (k : Int) % 10 := by omega
    have hts : t.size ≤ 25 := by have := unhide HFT; omega
    by_cases h10 : (10 : Int) ≤ k
    · have hsz : ¬ 9223372036854775807 < (strOfNums [48 + (k : Int) % 10]).size + t.size := by rw [strOfNums_size]; simp; omega
      go_wp2_with fail
      obtain ⟨g, hg, hgk⟩ := pow_step (unhide HK) (by omega)
      have hg0 : 0 < g := by
        cases g with
        | zero => simp at hgk; omega
        | succ g => omega
      have hstep : digL 25 n.natAbs = digL g (k / 10) ++ (strOfNums [48 + (k : Int) % 10] ++ t).toList := by
        rw [unhide HL, hg, digL_step g k (by omega), digs_app]; simp
      have hsize : g + (strOfNums [48 + (k : Int) % 10] ++ t).size = 25 := by rw [digs_size]; have := unhide HFT; omega
      exact ⟨⟨k / 10, g, _, by go_num, rfl, by omega, hg0, hsize, hgk, hstep, hb.alloc (by have := hb.size; omega) _⟩, by simp [intOf]; omega⟩
    · have hkk : (k : Int) % 10 = k := by omega
      have hsz : ¬ 9223372036854775807 < (strOfNums [48 + (k : Int)]).size + t.size := by rw [strOfNums_size]; simp; omega
      have HKK := hide hkk
      clear hkk
      have hsz2 : ¬ 9223372036854775807 < (⟨#[45]⟩ : ByteArray).size + (strOfNums [48 + (k : Int)] ++ t).size := by rw [digs_size]; show ¬ 9223372036854775807 < 1 + _; omega
      go_wp2_with fail
      go_ret
      refine ⟨ret_string ?_, hb.alloc (by have := hb.size; omega) _⟩
      have e1 : (strOfNums [48 + (k : Int)] ++ t).toList = digC k :: t.toList := by
        have := digs_app k t
        rw [unhide HKK] at this
        exact this
      have e2 : digL 25 n.natAbs = digC k :: t.toList := by rw [unhide HL, pow_last (unhide HK) (by omega) hf0]; rfl
      rw [unhide HD, e2, ← e1]
      rw [ByteArray.toList_eq]
      exact neg_app _

theorem digits_any (n : Int) (w : World) (hn : -9223372036854775808 ≤ n ∧ n ≤ 9223372036854775807) :
    Calls Tryz.prog 211 #[.int .i64 n] w fun e w' => e = .returned (.string ⟨(digitsS n).toArray⟩) ∧ Below w.heap.size w w' := by
  by_cases h : n < 0
  · exact digits_neg n w hn h
  · exact digits_pos n w hn (by omega)

end Go.Proofs.YtmeiikjpaepogaaGreatDoor

