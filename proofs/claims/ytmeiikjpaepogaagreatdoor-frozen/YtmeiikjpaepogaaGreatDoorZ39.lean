/- The program's options: Super: piecesAt. -/
import Derived.Test.YtmeiikjpaepogaaGreatDoorZ30
import Derived.Test.YtmeiikjpaepogaaGreatDoorZ23
namespace Go.Proofs.YtmeiikjpaepogaaGreatDoor
open Go Go.RowKit

/-- An instruction that may stand for the first several of a row, and for how many. -/
def pieceAt (row : List (Int × Int)) (op : Nat) : Option (Int × Int × Int) := (numGo 0 row (superS op)).map (fun n => ((op : Int), n, ((superS op).length : Int)))
def piecesTo (row : List (Int × Int)) (k : Nat) : List (Int × Int × Int) := ((List.range k).map (· + 40)).filterMap (pieceAt row)
def piecesS (row : List (Int × Int)) : List (Int × Int × Int) := piecesTo row 20
theorem piecesTo_next (row : List (Int × Int)) (k : Nat) : piecesTo row (k + 1) = piecesTo row k ++ (pieceAt row (k + 40)).toList := by
  unfold piecesTo
  rw [List.range_succ, List.map_append, List.filterMap_append]
  cases h : pieceAt row (k + 40) <;> simp [h]
theorem piecesTo_len (row : List (Int × Int)) (k : Nat) : (piecesTo row k).length ≤ k := by
  induction k with
  | zero => simp [piecesTo]
  | succ k ih =>
    rw [piecesTo_next, List.length_append]
    cases pieceAt row (k + 40) <;> simp <;> omega
def pieceCells (l : List (Int × Int × Int)) : List Value := l.flatMap (fun x => [.int .i64 x.1, .int .i64 x.2.1, .int .i64 x.2.2])
theorem pieceCells_length (l : List (Int × Int × Int)) : (pieceCells l).length = l.length * 3 := by
  induction l with
  | nil => rfl
  | cons x l ih =>
    show (pieceCells (x :: l)).length = _
    unfold pieceCells at ih ⊢
    simp only [List.flatMap_cons, List.length_append, List.length_cons, List.length_nil, ih]
    omega
theorem Tryz.infoPiece : (Tryz.prog.info? 211).map (fun i => (i.zero, i.size, i.bytes)) = some (some (.agg #[.int .i64 0, .int .i64 0, .int .i64 0]), 3, 24) := by kernel_rfl
theorem oneCells_int3 (a b c : Int) : ∀ u ∈ [Value.int .i64 a, .int .i64 b, .int .i64 c], u.oneCell' = true := by
  intro u hu
  simp at hu
  rcases hu with rfl | rfl | rfl <;> rfl

set_option maxRecDepth 100000 in
set_option maxHeartbeats 8000000 in
theorem piecesAt_any (ao : Option Addr) (c : Nat) (row : List (Int × Int)) (w : World) (hin : InL w ao row) (hr : row.length ≤ 100000) :
    Calls Tryz.prog 156 #[.slice ao row.length c] w fun e w' => ∃ v, e = .returned v ∧ w'.ownsRow w.heap.size 211 3 v (piecesS row).length (pieceCells (piecesS row)) ∧ Below w.heap.size w w' := by
  obtain ⟨iP, hiP, hzP0, hzP1, hzP2⟩ := info_parts Tryz.infoPiece
  have HIN := V hin
  clear hin
  go_enter Tryz.func156, Tryz.ntmps156
  go_wp2_with fail
  go_loopw [3, 4] (fun v i wr => ∃ (k : Nat) (a : Option Addr) (n c : Nat), i = .int .i64 ((k + 40 : Nat) : Int) ∧ v = .slice a n c ∧ n = (piecesTo row k).length ∧ k ≤ 20 ∧ wr.ownsRow w.heap.size 211 3 (.slice a n c) n (pieceCells (piecesTo row k)) ∧ Below w.heap.size w wr) (fun _ i _ => 60 - (intOf i).toNat)
  case atStart => exact ⟨0, none, 0, 0, rfl, rfl, rfl, by omega, World.ownsRow_nil _ _ _ _, Below.refl _ _⟩
  case round =>
    obtain ⟨k, a, n, cc, rfl, rfl, hn, hk, hrow, hbw⟩ := hrel
    have HROW := V hrow
    have HBW := V hbw
    have HN := V hn
    have hn20 : n ≤ 20 := by have := piecesTo_len row k; omega
    clear hn
    by_cases hlt : k < 20
    · have hltI : (((k + 40 : Nat)) : Int) ≤ 59 := by omega
      obtain ⟨op, hop⟩ : ∃ op, op = k + 40 := ⟨_, rfl⟩
      have HSP := V (superParts_any op ⟨by omega, by omega⟩ wr)
      obtain ⟨_, hl3, _⟩ := super_parts op (by omega) (by omega)
      have hnx := piecesTo_next row k
      rw [← hop] at hltI hnx ⊢
      have hopI : (op : Int) + 1 = ((k + 1 + 40 : Nat) : Int) := by omega
      have HOP := V hop
      have HOPI := V hopI
      have HNX := V hnx
      clear hop hrow hbw hopI hnx
      go_wp2_with fail
      refine (U HSP).mono ?_
      rintro e w1 ⟨cs, rfl, hcs, hw1⟩
      have hsz : cs.size = (superS op).length := by have := congrArg List.length hcs; simpa using this
      have hb1 : Below wr.heap.size wr w1 := by rw [hw1]; exact below_box wr _
      have hq : IntsAt w1 wr.heap.size (superS op) := by
        have hblk : Blk w1 wr.heap.size cs 3 := by rw [hw1]; exact Blk.new wr _ _
        refine ⟨hblk.lt, fun j p hj => ?_⟩
        rw [hblk.cell]
        have : cs.toList[j]? = some (.int .i64 p) := by rw [hcs, List.getElem?_map, hj]; rfl
        simpa using this
      have HNO := V (numberOf_any ao c wr.heap.size (superS op).length row (superS op) w1 (((U HIN).below (U HBW)).below hb1) hq hr (by omega))
      rw [hsz]
      have hlI : ((superS op).length : Int) ≤ 3 := by omega
      have hrow1 := (LawStill.ofBelow hb1).row (U HROW)
      have HROW1 := V hrow1
      have HBW1 := V ((U HBW).trans (hb1.mono (U HBW).size))
      have hpa : pieceAt row op = (numGo 0 row (superS op)).map (fun n => ((op : Int), n, ((superS op).length : Int))) := rfl
      have HPA := V hpa
      clear hcs hw1 hsz hb1 hq HSP hrow1 hpa
      generalize hres : numGo 0 row (superS op) = res at HNO HPA
      generalize hpl : (superS op).length = pl at *
      clear hres hpl
      go_wp2_with fail
      refine (U HNO).mono ?_
      rintro e w2 ⟨rfl, hw2⟩
      obtain rfl := hw2.symm
      clear hw2 HNO
      cases res with
      | none =>
        unfold nofV
        go_wp2_with fail
        go_roundw
        case rel =>
          refine ⟨k + 1, a, n, cc, by rw [← U HOPI], rfl, ?_, by omega, ?_, U HBW1⟩
          · rw [U HNX, U HPA]; simpa using U HN
          · rw [U HNX, U HPA]; simpa using U HROW1
        case measure => simp [intOf]; omega
      | some nv =>
        unfold nofV
        have HW := V (ownsRow_alloc (U HROW1) (.cells #[.int .i64 op, .int .i64 nv, .int .i64 pl] 211))
        have HNB := V (Blk.new w1 #[.int .i64 op, .int .i64 nv, .int .i64 pl] 211)
        have hBs : w.heap.size ≤ (w1.alloc (.cells #[.int .i64 op, .int .i64 nv, .int .i64 pl] 211)).heap.size := by have := (U HBW1).size; simp; omega
        have HBS := V hBs
        have HPL : Hid ((pieceCells (piecesTo row k)).length = n * 3) := by rw [pieceCells_length, ← U HN]; exact V rfl
        clear hBs
        go_wp2_with (at_builtin; refine wpList_append_lies _ rfl (.tmp 21) (.tmp 28) 209 rfl w.heap.size 211 iP _ 3 24 Tryz.underlying209 hiP hzP0 hzP1 hzP2 rfl (by decide) (.slice a n cc) n (pieceCells (piecesTo row k)) (by simp [Act.eval]) (U HW) ⟨w1.heap.size, 0, none⟩ 1 1 [.int .i64 op, .int .i64 nv, .int .i64 pl] (by simp [Act.eval]) rfl (World.news_of_block (U HNB)) (oneCells_int3 _ _ _) (by omega) (by unfold maxLen; omega) (by omega) (U HBS) _ rfl ?_; intro g5 cap5 w5 hown hgrow hat hlt1; have HO := V hown; have HG := V hgrow; clear hown hgrow hat)
        go_roundw
        case rel =>
          have e2 : piecesTo row (k + 1) = piecesTo row k ++ [((op : Int), nv, (pl : Int))] := by rw [U HNX, U HPA]; rfl
          refine ⟨k + 1, some ⟨g5, 0, none⟩, n + 1, cap5, by rw [← U HOPI], rfl, ?_, by omega, ?_, ?_⟩
          · rw [e2, List.length_append, ← U HN]; rfl
          · have ho := U HO
            have e3 : pieceCells (piecesTo row (k + 1)) = pieceCells (piecesTo row k) ++ [.int .i64 op, .int .i64 nv, .int .i64 pl] := by
              rw [e2]
              unfold pieceCells
              rw [List.flatMap_append]
              rfl
            rw [e3]
            exact ho
          · exact ((U HBW1).trans ((below_box w1 _).mono (U HBW1).size)).grown (U HG) (U HBS) (fun j hj => (ownsRow_lt (U HROW1) hj).2)
        case measure => simp [intOf]; omega
    · have hk20 : k = 20 := by omega
      subst hk20
      have hN := U HN
      subst hN
      go_wp2_with fail
      go_ret
      exact ⟨_, rfl, U HROW, U HBW⟩
end Go.Proofs.YtmeiikjpaepogaaGreatDoor
