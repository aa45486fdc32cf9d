/- The statements' holds: marked. -/
import Derived.Test.YtmeiikjpaepogaaGreatDoorK01
import Derived.Test.YtmeiikjpaepogaaGreatDoorK02
import Derived.Deep.CutRange
import Derived.Test.YtmeiikjpaepogaaGreatDoorK03
namespace Go.Proofs.YtmeiikjpaepogaaGreatDoor
open Go Go.RowKit

def markI (n : Nat) (mk : Int) : List (Int × Int) := List.replicate n (-1, -mk)
def markN (n : Nat) (mk : Int) : List Value := List.replicate n (.int .i64 (-mk))
/-- A hold whose lists are written full with its mark. -/
structure HoldIs (w : World) (q : Nat) (mk : Int) (vi vn : Value) (ni nn : Nat) : Prop where
  blk : Blk w q #[vi, vn, .int .i64 mk] 134
  is : w.ownsRow 0 65 2 vi ni (instrCells (markI ni mk))
  ns : w.ownsRow 0 2 1 vn nn (markN nn mk)
  bd : 0 ≤ mk ∧ mk ≤ 1152921504606846976
  small : ni ≤ 17592186044416 ∧ nn ≤ 17592186044416

set_option maxRecDepth 100000 in
set_option maxHeartbeats 2000000 in
theorem marked_any (q : Nat) (mk : Int) (vi vn : Value) (ni nn : Nat) (w : World) (h : HoldIs w q mk vi vn ni nn) :
    Calls Tryz.prog 46 #[.pointer (some ⟨q, 0, none⟩)] w fun e w' => e = .returned (.bool true) ∧ w' = w := by
  have hc := h.blk.cell
  obtain ⟨ai, ci, hvi⟩ := own_shape h.is
  obtain ⟨an, cn, hvn⟩ := own_shape h.ns
  subst hvi hvn
  have hI : ∀ k, k < ni → ∃ g, ai = some ⟨g, 0, none⟩ ∧ w.cell? ⟨g, k * 2, none⟩ = some (.int .i64 (-1)) ∧ w.cell? ⟨g, k * 2 + 1, none⟩ = some (.int .i64 (-mk)) := by
    intro k hk
    obtain ⟨g, cap, e, _, _⟩ := h.is.form (by omega)
    simp only [Value.slice.injEq] at e
    obtain ⟨rfl, _, rfl⟩ := e
    have hx : (markI ni mk)[k]? = some (-1, -mk) := by unfold markI; rw [List.getElem?_replicate]; simp [hk]
    have h1 := own_cell h.is (k * 2) (by omega)
    have h2 := own_cell h.is (k * 2 + 1) (by omega)
    rw [(instrCells_at _ _ _ hx).1] at h1
    rw [(instrCells_at _ _ _ hx).2] at h2
    exact ⟨g, rfl, h1, h2⟩
  have hN : ∀ k, k < nn → ∃ g, an = some ⟨g, 0, none⟩ ∧ w.cell? ⟨g, k, none⟩ = some (.int .i64 (-mk)) := by
    intro k hk
    obtain ⟨g, cap, e, _, _⟩ := h.ns.form (by omega)
    simp only [Value.slice.injEq] at e
    obtain ⟨rfl, _, rfl⟩ := e
    have h1 := own_cell h.ns k (by omega)
    unfold markN at h1
    rw [List.getElem?_replicate, if_pos hk] at h1
    exact ⟨g, rfl, h1⟩
  have HI := V hI
  have HN := V hN
  have hmk := h.bd
  obtain ⟨hni, hnn⟩ := h.small
  have hniI : (ni : Int) ≤ 17592186044416 := by omega
  have hnnI : (nn : Int) ≤ 17592186044416 := by omega
  have hw : IntKind.i64.wrap (-mk) = -mk := by rw [IntKind.wrap_i64]; omega
  clear hI hN h hni hnn
  go_enter Tryz.func46, Tryz.ntmps46
  go_wp2_with fail
  go_loop [4, 5] (fun ok i => ∃ k : Nat, k ≤ ni ∧ i = .int .i64 k ∧ ok = .bool true) (fun _ i => ni - (intOf i).toNat)
  case atStart => exact ⟨0, Nat.zero_le _, rfl, rfl⟩
  case round =>
    obtain ⟨k, hk, rfl, rfl⟩ := hrel
    by_cases hlt : k < ni
    · obtain ⟨g, rfl, h1, h2⟩ := U HI k hlt
      have hltI : (k : Int) < ni := by omega
      go_wp2_with fail
      go_round
      case rel => exact ⟨k + 1, by omega, by go_num, rfl⟩
      case measure => simp [intOf]; omega
    · have hkn : k = ni := by omega
      subst hkn
      go_wp2_with fail
      go_loop [4, 6] (fun ok i => ∃ k : Nat, k ≤ nn ∧ i = .int .i64 k ∧ ok = .bool true) (fun _ i => nn - (intOf i).toNat)
      case atStart => exact ⟨0, Nat.zero_le _, rfl, rfl⟩
      case round =>
        obtain ⟨j, hj, rfl, rfl⟩ := hrel
        by_cases hlt2 : j < nn
        · obtain ⟨g, rfl, h1⟩ := U HN j hlt2
          have hltJ : (j : Int) < nn := by omega
          go_wp2_with fail
          go_round
          case rel => exact ⟨j + 1, by omega, by go_num, rfl⟩
          case measure => simp [intOf]; omega
        · have hjn : j = nn := by omega
          subst hjn
          go_wp2_with fail
          go_ret
          exact ⟨rfl, rfl⟩
theorem Tryz.infoNum : (Tryz.prog.info? 2).map (fun i => (i.zero, i.size, i.bytes)) = some (some (.int .i64 0), 1, 8) := by kernel_rfl
theorem markI_more (n : Nat) (mk : Int) : instrCells (markI n mk) ++ [.int .i64 (-1), .int .i64 (-mk)] = instrCells (markI (n + 1) mk) := by
  unfold markI instrCells
  rw [List.replicate_succ', List.flatMap_append]
  rfl
theorem markN_more (n : Nat) (mk : Int) : markN n mk ++ [.int .i64 (-mk)] = markN (n + 1) mk := by
  unfold markN
  rw [List.replicate_succ']
theorem markI_take (n m : Nat) (mk : Int) (h : n ≤ m) : (instrCells (markI m mk)).take (n * 2) = instrCells (markI n mk) := by
  obtain ⟨d, rfl⟩ : ∃ d, m = n + d := ⟨m - n, by omega⟩
  have e : instrCells (markI (n + d) mk) = instrCells (markI n mk) ++ instrCells (markI d mk) := by
    unfold markI instrCells
    rw [← List.replicate_append_replicate, List.flatMap_append]
  have hl : (instrCells (markI n mk)).length = n * 2 := by
    unfold markI instrCells
    rw [List.length_flatMap]
    simp
  rw [e, ← hl, List.take_left]
theorem markN_take (n m : Nat) (mk : Int) (h : n ≤ m) : (markN m mk).take (n * 1) = markN n mk := by
  unfold markN
  rw [List.take_replicate]
  congr 1
  omega

/-- One append: what was written with that mark and was no longer still reads so. -/
theorem hold_keepI {w w' : World} {q' : Nat} {mk : Int} {vi vi' vn' : Value} {ni ni' nn' g cap H : Nat} (h : HoldIs w q' mk vi' vn' ni' nn') (hi : w.ownsRow 0 65 2 vi ni (instrCells (markI ni mk)))
    (hown : w'.ownsRow 0 65 2 (.slice (some ⟨g, 0, none⟩) (ni + 1) cap) (ni + 1) (instrCells (markI (ni + 1) mk)))
    (hs : w.grownBy w' vi.ownBlock) (hat : vi = .slice (some ⟨g, 0, none⟩) ni cap ∨ g = H ∧ ∀ k, k < w.heap.size → w'.heap[k]? = w.heap[k]?) (hle : ni' ≤ ni) : HoldIs w' q' mk vi' vn' ni' nn' := by
  have hq := row_not_blk h.blk hi (by decide)
  refine ⟨h.blk.grown hs (fun e => hq e.symm), ?_, ?_, h.bd, h.small⟩
  · rcases hat with rfl | ⟨_, hall⟩
    · by_cases e : vi'.ownBlock = some g
      · obtain ⟨ao, c', e2⟩ := own_shape h.is
        subst e2
        cases ao with
        | none => simp [Value.ownBlock] at e
        | some a =>
          have hform := h.is.2
          rcases hform with ⟨h0, _⟩ | ⟨g1, c1, cur1, e1, _⟩
          · simp at h0
          · simp only [Value.slice.injEq, Option.some.injEq, true_and] at e1
            obtain ⟨rfl, rfl⟩ := e1
            simp [Value.ownBlock] at e
            subst e
            exact own_prefix (by decide) h.is hi hown (by omega) (markI_take _ _ _ (by omega))
      · exact ownsRow_grown h.is hs (fun k hk e2 => e (by rw [hk]; simpa [Value.ownBlock] using e2))
    · exact ownsRow_of_block h.is (fun k _ hk => hall k hk)
  · exact ownsRow_grown h.ns hs (fun k hk e2 => rows_apart h.ns hi (by decide) hk e2.symm)
theorem hold_keepN {w w' : World} {q' : Nat} {mk : Int} {vi' vn vn' : Value} {nn ni' nn' g cap H : Nat} (h : HoldIs w q' mk vi' vn' ni' nn') (hn : w.ownsRow 0 2 1 vn nn (markN nn mk))
    (hown : w'.ownsRow 0 2 1 (.slice (some ⟨g, 0, none⟩) (nn + 1) cap) (nn + 1) (markN (nn + 1) mk))
    (hs : w.grownBy w' vn.ownBlock) (hat : vn = .slice (some ⟨g, 0, none⟩) nn cap ∨ g = H ∧ ∀ k, k < w.heap.size → w'.heap[k]? = w.heap[k]?) (hle : nn' ≤ nn) : HoldIs w' q' mk vi' vn' ni' nn' := by
  have hq := row_not_blk h.blk hn (by decide)
  refine ⟨h.blk.grown hs (fun e => hq e.symm), ?_, ?_, h.bd, h.small⟩
  · exact ownsRow_grown h.is hs (fun k hk e2 => rows_apart h.is hn (by decide) hk e2.symm)
  · rcases hat with rfl | ⟨_, hall⟩
    · by_cases e : vn'.ownBlock = some g
      · obtain ⟨ao, c', e2⟩ := own_shape h.ns
        subst e2
        cases ao with
        | none => simp [Value.ownBlock] at e
        | some a =>
          have hform := h.ns.2
          rcases hform with ⟨h0, _⟩ | ⟨g1, c1, cur1, e1, _⟩
          · simp at h0
          · simp only [Value.slice.injEq, Option.some.injEq, true_and] at e1
            obtain ⟨rfl, rfl⟩ := e1
            simp [Value.ownBlock] at e
            subst e
            exact own_prefix (by decide) h.ns hn hown (by omega) (markN_take _ _ _ (by omega))
      · exact ownsRow_grown h.ns hs (fun k hk e2 => e (by rw [hk]; simpa [Value.ownBlock] using e2))
    · exact ownsRow_of_block h.ns (fun k _ hk => hall k hk)
theorem HoldIs.alloc {w : World} {q : Nat} {mk : Int} {vi vn : Value} {ni nn : Nat} (h : HoldIs w q mk vi vn ni nn) (o : Obj) : HoldIs (w.alloc o) q mk vi vn ni nn := ⟨h.blk.alloc o, ownsRow_alloc h.is o, ownsRow_alloc h.ns o, h.bd, h.small⟩
theorem HoldIs.still {w w' : World} {F : Nat → Prop} {q : Nat} {mk : Int} {vi vn : Value} {ni nn : Nat} (h : HoldIs w q mk vi vn ni nn) (hs : Still w w' F) (hq : ¬ F q) (hi : ∀ k, vi.ownBlock = some k → ¬ F k) (hn : ∀ k, vn.ownBlock = some k → ¬ F k) : HoldIs w' q mk vi vn ni nn :=
  ⟨h.blk.still hs hq, ownsRow_still h.is hs hi, ownsRow_still h.ns hs hn, h.bd, h.small⟩
theorem HoldIs.far {w : World} {q : Nat} {mk : Int} {vi vn : Value} {ni nn : Nat} (h : HoldIs w q mk vi vn ni nn) {b : Nat} {cs : Array Value} (hb : Blk w b cs 134) (hne : q ≠ b) (c : Nat) (u : Value) : HoldIs (w.setCell ⟨b, c, none⟩ u) q mk vi vn ni nn :=
  ⟨h.blk.far hne u, ownsRow_far h.is (fun e => row_not_blk hb h.is (by decide) e) u, ownsRow_far h.ns (fun e => row_not_blk hb h.ns (by decide) e) u, h.bd, h.small⟩

set_option maxRecDepth 100000 in
set_option maxHeartbeats 2000000 in
theorem longer_any (q : Nat) (mk : Int) (vi vn : Value) (ni nn : Nat) (w : World) (h : HoldIs w q mk vi vn ni nn) (hni : ni < 8796093022208) (hnn : nn < 8796093022208) :
    Calls Tryz.prog 134 #[.pointer (some ⟨q, 0, none⟩)] w fun e w' => ∃ q2 vi2 vn2, e = .returned (.pointer (some ⟨q2, 0, none⟩)) ∧ w.heap.size ≤ q2 ∧ HoldIs w' q2 mk vi2 vn2 (ni + 1) (nn + 1) ∧
      (∀ k, vi2.ownBlock = some k → vi.ownBlock = some k ∨ w.heap.size ≤ k) ∧ (∀ k, vn2.ownBlock = some k → vn.ownBlock = some k ∨ w.heap.size ≤ k) ∧
      Still w w' (fun k => vi.ownBlock = some k ∨ vn.ownBlock = some k) ∧
      ∀ q' vi' vn' ni' nn', HoldIs w q' mk vi' vn' ni' nn' → ni' ≤ ni → nn' ≤ nn → HoldIs w' q' mk vi' vn' ni' nn' := by
  obtain ⟨iI, hiI, hzI0, hzI1, hzI2⟩ := info_parts Tryz.infoInstr
  obtain ⟨iN, hiN, hzN0, hzN1, hzN2⟩ := info_parts Tryz.infoNum
  have hc := h.blk.cell
  have hbl := h.blk.lt
  have hmk := h.bd
  have hw : IntKind.i64.wrap (-mk) = -mk := by rw [IntKind.wrap_i64]; omega
  have hqi := row_not_blk h.blk h.is (by decide)
  have hqn := row_not_blk h.blk h.ns (by decide)
  have HI1 := V (ownsRow_alloc (ownsRow_alloc h.is (.cells #[.slice none 0 0, .slice none 0 0, .int .i64 mk] 134)) (.cells #[.int .i64 (-1), .int .i64 (-mk)] 65))
  have HH1 := V ((h.alloc (.cells #[.slice none 0 0, .slice none 0 0, .int .i64 mk] 134)).alloc (.cells #[.int .i64 (-1), .int .i64 (-mk)] 65))
  have HB1 := V ((Blk.new w #[.slice none 0 0, .slice none 0 0, .int .i64 mk] 134).alloc (.cells #[.int .i64 (-1), .int .i64 (-mk)] 65))
  have HNN := V (Blk.new (w.alloc (.cells #[.slice none 0 0, .slice none 0 0, .int .i64 mk] 134)) #[.int .i64 (-1), .int .i64 (-mk)] 65)
  have hnew : vi.ownBlock ≠ some w.heap.size := fun e => by have := (ownsRow_lt h.is e).1; omega
  have HH := V h
  clear h
  go_enter Tryz.func134, Tryz.ntmps134
  go_upto_region 4 with (at_builtin; refine wpList_append_keep _ rfl (.tmp 20) (.tmp 23) 33 rfl 0 65 iI _ 2 16 Tryz.underlying33 hiI hzI0 hzI1 hzI2 rfl (by decide) vi ni (instrCells (markI ni mk)) (by simp [Act.eval]) (U HI1) ⟨w.heap.size + 1, 0, none⟩ 1 1 [.int .i64 (-1), .int .i64 (-mk)] (by simp [Act.eval]) rfl (by have := World.news_of_block (U HNN); simpa using this) (by simp [Value.oneCell']) (by omega) (by unfold maxLen; omega) (by omega) (Nat.zero_le _) _ rfl ?_; intro g cap w5 hown hgrow hat hlt1; rw [markI_more] at hown; have h5 := hold_keepI (U HH1) (U HI1) hown hgrow hat (Nat.le_refl _); have hb5 := (U HB1).grown hgrow (fun e => hnew e.symm); have hc5 := h5.blk.cell; have hcb5 := hb5.cell; have hfb5 := hb5.free; have HO := V hown; have HG := V hgrow; have HA := V hat; have H5 := V h5; have HB5 := V hb5; clear hown hgrow hat h5 hb5 hc)
  have hq5 : w.heap.size ≠ q := by omega
  have hn5 : vn.ownBlock ≠ some w.heap.size := fun e => by have := (ownsRow_lt (U HH).ns e).1; omega
  have hs5 : w.heap.size + 2 ≤ w5.heap.size := by have := (U HG).size; simpa using this
  have HN2 := V (ownsRow_alloc (ownsRow_far (U H5).ns hn5 (.slice (some ⟨g, 0, none⟩) (ni + 1) cap) (a := ⟨w.heap.size, 0, none⟩)) (.cells #[.int .i64 (-mk)] 2))
  have HNM := V (Blk.new (w5.setCell ⟨w.heap.size, 0, none⟩ (.slice (some ⟨g, 0, none⟩) (ni + 1) cap)) #[.int .i64 (-mk)] 2)
  have HH6 := V (((U H5).far (U HB5) (by omega) 0 (.slice (some ⟨g, 0, none⟩) (ni + 1) cap)).alloc (.cells #[.int .i64 (-mk)] 2))
  have HB6 := V (((U HB5).set 0 (.slice (some ⟨g, 0, none⟩) (ni + 1) cap)).alloc (.cells #[.int .i64 (-mk)] 2))
  simp only [List.setIfInBounds_toArray, List.set_cons_zero] at HB6
  go_wp2_with (at_builtin; refine wpList_append_keep _ rfl (.tmp 31) (.tmp 33) 42 rfl 0 2 iN _ 1 8 Tryz.underlying42 hiN hzN0 hzN1 hzN2 rfl (by decide) vn nn (markN nn mk) (by simp [Act.eval]) (U HN2) ⟨w5.heap.size, 0, none⟩ 1 1 [.int .i64 (-mk)] (by simp [Act.eval]) rfl (by have := World.news_of_block (U HNM); simpa using this) (by simp [Value.oneCell']) (by omega) (by unfold maxLen; omega) (by omega) (Nat.zero_le _) _ rfl ?_; intro g2 cap2 w7 hown hgrow hat hlt1; rw [markN_more] at hown; have h7 := hold_keepN (U HH6) (U HN2) hown hgrow hat (Nat.le_refl _); have hb7 := (U HB6).grown hgrow (fun e => hn5 e.symm); have hcb7 := hb7.cell; have hfb7 := hb7.free; have HO7 := V hown; have HG7 := V hgrow; have HA7 := V hat; have H7 := V h7; have HB7 := V hb7; clear hown hgrow hat h7 hb7)
  go_ret
  have hI7 := ownsRow_grown (ownsRow_alloc (ownsRow_far (U HO) (row_not_blk (U HB5) (U HO) (by decide)) (.slice (some ⟨g, 0, none⟩) (ni + 1) cap) (a := ⟨w.heap.size, 0, none⟩)) (.cells #[.int .i64 (-mk)] 2)) (U HG7)
  have hI7 := hI7 (fun k hk e => rows_apart (ownsRow_alloc (ownsRow_far (U HO) (row_not_blk (U HB5) (U HO) (by decide)) (.slice (some ⟨g, 0, none⟩) (ni + 1) cap) (a := ⟨w.heap.size, 0, none⟩)) (.cells #[.int .i64 (-mk)] 2)) (U HN2) (by decide) hk e.symm)
  have hB8 := (U HB7).set 1 (.slice (some ⟨g2, 0, none⟩) (nn + 1) cap2)
  simp only [List.setIfInBounds_toArray, List.set_cons_succ, List.set_cons_zero] at hB8
  refine ⟨w.heap.size, .slice (some ⟨g, 0, none⟩) (ni + 1) cap, .slice (some ⟨g2, 0, none⟩) (nn + 1) cap2, rfl, Nat.le_refl _, ?_, ?_, ?_, ?_, ?_⟩
  · exact ⟨hB8, ownsRow_far hI7 (row_not_blk (U HB7) hI7 (by decide)) _, ownsRow_far (U HO7) (row_not_blk (U HB7) (U HO7) (by decide)) _, hmk, by omega⟩
  · intro k hk
    simp only [Value.ownBlock, Option.some.injEq] at hk
    rcases U HA with e | ⟨e, _⟩
    · left; rw [e, ← hk]; rfl
    · right; rw [← hk, e]; simp; omega
  · intro k hk
    simp only [Value.ownBlock, Option.some.injEq] at hk
    rcases U HA7 with e | ⟨e, _⟩
    · left; rw [e, ← hk]; rfl
    · right
      have hs5 := (U HG).size
      rw [← hk, e]; simp at hs5 ⊢; omega
  · refine Still.set (Still.grown (Still.alloc (Still.set (Still.grown (Still.alloc (Still.alloc (Still.refl w _) _) _) (U HG) ?_) ?_ _ _) _) (U HG7) ?_) ?_ _ _
    · exact fun k hk => Or.inl (Or.inl hk)
    · exact Or.inr (Nat.le_refl _)
    · exact fun k hk => Or.inl (Or.inr hk)
    · exact Or.inr (Nat.le_refl _)
  · intro q' vi' vn' ni' nn' h' h1 h2
    have hlt := h'.blk.lt
    have k1 := hold_keepI ((h'.alloc (.cells #[.slice none 0 0, .slice none 0 0, .int .i64 mk] 134)).alloc (.cells #[.int .i64 (-1), .int .i64 (-mk)] 65)) (U HI1) (U HO) (U HG) (U HA) h1
    have k2 := (k1.far (U HB5) (by omega) 0 (.slice (some ⟨g, 0, none⟩) (ni + 1) cap)).alloc (.cells #[.int .i64 (-mk)] 2)
    exact (hold_keepN k2 (U HN2) (U HO7) (U HG7) (U HA7) h2).far (U HB7) (by omega) _ _
theorem own_set {w : World} {base : Nat} {e : TypeId} {size : Nat} {g n cap : Nat} {xs : List Value} (h : w.ownsRow base e size (.slice (some ⟨g, 0, none⟩) n cap) n xs) (j : Nat) (u : Value) : (w.setCell ⟨g, j, none⟩ u).ownsRow base e size (.slice (some ⟨g, 0, none⟩) n cap) n (xs.set j u) := by
  have ho : Owned base w [] [.slice (some ⟨g, 0, none⟩) n cap] [⟨e, size, n, xs⟩] := by
    refine ⟨?_, ?_, fun _ _ _ _ hb => by simp at hb, rfl⟩
    · intro i v s hv hs
      match i, (List.getElem?_eq_some_iff.1 hv).1 with
      | 0, _ => simp at hv hs; subst hv hs; exact h
    · intro i j v v' k hv hv' _ _
      have h1 := (List.getElem?_eq_some_iff.1 hv).1
      have h2 := (List.getElem?_eq_some_iff.1 hv').1
      simp at h1 h2
      omega
  have h2 := ho.write 0 g n cap _ rfl rfl j u
  exact h2.own 0 _ _ rfl rfl

theorem instr_set (a r : List (Int × Int)) (x y : Int × Int) (k : Nat) (hk : a.length = k) : ((instrCells (a ++ x :: r)).set (k * 2) (.int .i64 y.1)).set (k * 2 + 1) (.int .i64 y.2) = instrCells (a ++ y :: r) := by
  subst hk
  induction a with
  | nil => simp [instrCells]
  | cons z a ih =>
    have e1 : (z :: a).length * 2 = a.length * 2 + 2 := by simp; omega
    rw [e1]
    simp only [instrCells, List.cons_append, List.flatMap_cons, List.nil_append] at ih ⊢
    have e2 : a.length * 2 + 2 + 1 = (a.length * 2 + 1) + 2 := by omega
    rw [e2]
    simp only [List.set_cons_succ]
    rw [ih]
theorem drop_cons_of {α : Type} (l : List α) (k : Nat) (h : k < l.length) : ∃ x, l.drop k = x :: l.drop (k + 1) := ⟨_, List.drop_eq_getElem_cons h⟩
theorem markI_length (k : Nat) (mk : Int) : (markI k mk).length = k := by simp [markI]
theorem mark_next (l : List (Int × Int)) (k : Nat) (mk : Int) (h : k < l.length) :
    ((instrCells (markI k mk ++ l.drop k)).set (k * 2) (.int .i64 (-1))).set (k * 2 + 1) (.int .i64 (-mk)) = instrCells (markI (k + 1) mk ++ l.drop (k + 1)) := by
  obtain ⟨x, hx⟩ := drop_cons_of l k h
  rw [hx, instr_set (markI k mk) _ x (-1, -mk) k (markI_length k mk)]
  have e : markI (k + 1) mk = markI k mk ++ [(-1, -mk)] := by unfold markI; rw [List.replicate_succ']
  rw [e, List.append_assoc]
  rfl
theorem markN_next (l : List Int) (k : Nat) (mk : Int) (h : k < l.length) : (markN k mk ++ intCells (l.drop k)).set k (.int .i64 (-mk)) = markN (k + 1) mk ++ intCells (l.drop (k + 1)) := by
  obtain ⟨x, hx⟩ := drop_cons_of l k h
  have e : markN (k + 1) mk = markN k mk ++ [.int .i64 (-mk)] := by unfold markN; rw [List.replicate_succ']
  have hl : (markN k mk).length = k := by simp [markN]
  rw [hx, e, List.append_assoc]
  unfold intCells
  rw [List.map_cons, List.set_append_right _ _ (by omega), hl, Nat.sub_self]
  rfl

set_option maxRecDepth 100000 in
set_option maxHeartbeats 2000000 in
theorem marks_any (q : Nat) (mk : Int) (vi vn : Value) (li : List (Int × Int)) (ln : List Int) (w : World) (hblk : Blk w q #[vi, vn, .int .i64 mk] 134)
    (hi : w.ownsRow 0 65 2 vi li.length (instrCells li)) (hn : w.ownsRow 0 2 1 vn ln.length (intCells ln)) (hmk : 0 ≤ mk ∧ mk ≤ 1152921504606846976) (hli : li.length ≤ 17592186044416) (hln : ln.length ≤ 17592186044416) :
    Calls Tryz.prog 133 #[.pointer (some ⟨q, 0, none⟩)] w fun e w' => e = .returned (.tuple #[]) ∧ HoldIs w' q mk vi vn li.length ln.length ∧ Still w w' (fun k => vi.ownBlock = some k ∨ vn.ownBlock = some k) := by
  have hqi := row_not_blk hblk hi (by decide)
  have hqn := row_not_blk hblk hn (by decide)
  have hap : ∀ k, vi.ownBlock = some k → vn.ownBlock ≠ some k := fun k hk => rows_apart hi hn (by decide) hk
  have hc0 := hblk.cell
  have hw : IntKind.i64.wrap (-mk) = -mk := by rw [IntKind.wrap_i64]; omega
  have hliI : (li.length : Int) ≤ 17592186044416 := by omega
  have hlnI : (ln.length : Int) ≤ 17592186044416 := by omega
  obtain ⟨ai, ci, hvi⟩ := own_shape hi
  obtain ⟨an, cn, hvn⟩ := own_shape hn
  subst hvi hvn
  have HBLK := V hblk
  have HI := V hi
  have HN := V hn
  have HAP := V hap
  clear hi hn hblk hli hln hap
  go_enter Tryz.func133, Tryz.ntmps133
  go_wp2_with fail
  go_loopw [3] (fun i wr => ∃ k : Nat, i = .int .i64 k ∧ k ≤ li.length ∧ Blk wr q #[.slice ai li.length ci, .slice an ln.length cn, .int .i64 mk] 134 ∧ wr.ownsRow 0 65 2 (.slice ai li.length ci) li.length (instrCells (markI k mk ++ li.drop k)) ∧ wr.ownsRow 0 2 1 (.slice an ln.length cn) ln.length (intCells ln) ∧ Still w wr (fun k => (Value.slice ai li.length ci).ownBlock = some k ∨ (Value.slice an ln.length cn).ownBlock = some k)) (fun i _ => li.length - (intOf i).toNat)
  case atStart => exact ⟨0, rfl, Nat.zero_le _, U HBLK, U HI, U HN, Still.refl _ _⟩
  case round =>
    obtain ⟨k, rfl, hk, hb, hi, hn, hs⟩ := hrel
    have hc := hb.cell
    have HB := V hb
    have HI2 := V hi
    have HN2 := V hn
    have HS := V hs
    clear hc0
    by_cases hlt : k < li.length
    · obtain ⟨g, cap, hv, _, hgl⟩ := hi.form (by omega)
      simp only [Value.slice.injEq, true_and] at hv
      obtain ⟨rfl, rfl⟩ := hv
      have hc1 := own_cell hi (k * 2) (by omega)
      have hc2 := own_cell hi (k * 2 + 1) (by omega)
      have hf1 := own_free hi (k * 2)
      have hf2 := own_free hi (k * 2 + 1)
      obtain ⟨x, hx⟩ := drop_cons_of li k hlt
      have hx' : (markI k mk ++ li.drop k)[k]? = some x := by
        rw [hx, List.getElem?_append_right (by rw [markI_length]; exact Nat.le_refl _), markI_length, Nat.sub_self]; rfl
      rw [(instrCells_at _ _ _ hx').1] at hc1
      rw [(instrCells_at _ _ _ hx').2] at hc2
      have hltI : (k : Int) < li.length := by omega
      have hgq : g ≠ q := fun e => hqi (by rw [← e]; rfl)
      have hqg : q ≠ g := fun e => hgq e.symm
      clear hb hi hn hs hx hx'
      go_wp2_with fail
      go_roundw
      case rel =>
        refine ⟨k + 1, by go_num, by omega, ((U HB).far hqg _).far hqg _, ?_, ?_, ?_⟩
        · rw [← mark_next li k mk hlt]
          exact own_set (own_set (U HI2) _ _) _ _
        · have h2 : (Value.slice an ln.length cn).ownBlock ≠ some g := U HAP g rfl
          exact ownsRow_far (ownsRow_far (U HN2) h2 _) h2 _
        · exact ((U HS).set (Or.inl (Or.inl rfl)) _ _).set (Or.inl (Or.inl rfl)) _ _
      case measure => simp [intOf]; omega
    · have hkn : k = li.length := by omega
      subst hkn
      rw [List.drop_length, List.append_nil] at HI2
      clear hb hi hn hs
      obtain ⟨wo, rfl⟩ : ∃ wo : World, wo = wr := ⟨_, rfl⟩
      go_wp2_with fail
      go_loopw [4] (fun i wr => ∃ k : Nat, i = .int .i64 k ∧ k ≤ ln.length ∧ Blk wr q #[.slice ai li.length ci, .slice an ln.length cn, .int .i64 mk] 134 ∧ wr.ownsRow 0 65 2 (.slice ai li.length ci) li.length (instrCells (markI li.length mk)) ∧ wr.ownsRow 0 2 1 (.slice an ln.length cn) ln.length (markN k mk ++ intCells (ln.drop k)) ∧ Still w wr (fun k => (Value.slice ai li.length ci).ownBlock = some k ∨ (Value.slice an ln.length cn).ownBlock = some k)) (fun i _ => ln.length - (intOf i).toNat)
      case atStart => exact ⟨0, rfl, Nat.zero_le _, U HB, U HI2, U HN2, U HS⟩
      case round =>
        obtain ⟨k, rfl, hk, hb, hi, hn, hs⟩ := hrel
        clear hc
        have hc := hb.cell
        clear HB HI2 HN2 HS
        have HB := V hb
        have HI2 := V hi
        have HN2 := V hn
        have HS := V hs
        by_cases hlt2 : k < ln.length
        · obtain ⟨g, cap, hv, _, hgl⟩ := hn.form (by omega)
          simp only [Value.slice.injEq, true_and] at hv
          obtain ⟨rfl, rfl⟩ := hv
          have hc1 := own_cell hn k (by omega)
          have hf1 := own_free hn k
          obtain ⟨x, hx⟩ := drop_cons_of ln k hlt2
          have hx' : (markN k mk ++ intCells (ln.drop k))[k]? = some (.int .i64 x) := by
            rw [hx, List.getElem?_append_right (by simp [markN])]; simp [markN, intCells]
          rw [hx'] at hc1
          have hltI : (k : Int) < ln.length := by omega
          have hgq : g ≠ q := fun e => hqn (by rw [← e]; rfl)
          have hqg : q ≠ g := fun e => hgq e.symm
          clear hb hi hn hs hx hx'
          go_wp2_with fail
          go_roundw
          case rel =>
            refine ⟨k + 1, by go_num, by omega, (U HB).far hqg _, ?_, ?_, ?_⟩
            · have h2 : (Value.slice ai li.length ci).ownBlock ≠ some g := fun e => U HAP g e rfl
              exact ownsRow_far (U HI2) h2 _
            · rw [← markN_next ln k mk hlt2]
              exact own_set (U HN2) _ _
            · exact (U HS).set (Or.inl (Or.inr rfl)) _ _
          case measure => simp [intOf]; omega
        · have hkn : k = ln.length := by omega
          subst hkn
          rw [List.drop_length] at HN2
          have HN3 := U HN2
          rw [show intCells [] = [] from rfl, List.append_nil] at HN3
          clear hb hi hn hs
          go_wp2_with fail
          go_end0
          exact ⟨rfl, ⟨U HB, U HI2, HN3, hmk, by omega⟩, U HS⟩
end Go.Proofs.YtmeiikjpaepogaaGreatDoor
