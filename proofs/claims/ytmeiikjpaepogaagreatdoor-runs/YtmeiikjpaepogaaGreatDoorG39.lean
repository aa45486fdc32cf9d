/- The program's machine: NewTable. -/
import Derived.Test.YtmeiikjpaepogaaGreatDoorG38
import Derived.Test.YtmeiikjpaepogaaGreatDoorG33
import Derived.Test.YtmeiikjpaepogaaGreatDoorG36
import Derived.Test.YtmeiikjpaepogaaGreatDoorG19
namespace Go.Proofs.YtmeiikjpaepogaaGreatDoor
open Go Go.RowKit

/-- An operator that stands for several, in the table: its function, and the parts that the function has. -/
def SupAt (w : World) (cs : Array Value) (op : Nat) : Prop :=
  ∃ (pb q : Nat) (ps : Array Value), cs[op * 5 + 4]? = some (.func (.func 123) #[] #[.pointer (some ⟨pb, 0, none⟩)]) ∧ ps.toList = (superS op).map (Value.int .i64) ∧ Blk w q ps 3 ∧ Blk w pb #[.slice (some ⟨q, 0, none⟩) ps.size ps.size] 115
theorem SupAt.keep {w w' : World} {cs : Array Value} {op : Nat} (h : SupAt w cs op) (hk : KeepT w w') : SupAt w' cs op := by
  obtain ⟨pb, q, ps, h1, h2, h3, h4⟩ := h
  exact ⟨pb, q, ps, h1, h2, hk _ _ _ h3 (by decide), hk _ _ _ h4 (by decide)⟩
theorem get_other {cs : Array Value} {i j : Nat} (f : Value) (h : i ≠ j) : (cs.setIfInBounds i f)[j]? = cs[j]? := by
  rw [Array.getElem?_setIfInBounds_ne h]
theorem SupAt.other {w : World} {cs : Array Value} {op k : Nat} (h : SupAt w cs op) (f : Value) (hne : op ≠ k) : SupAt w (cs.setIfInBounds (k * 5 + 4) f) op := by
  obtain ⟨pb, q, ps, h1, h2, h3, h4⟩ := h
  exact ⟨pb, q, ps, by rw [get_other f (by omega)]; exact h1, h2, h3, h4⟩
theorem TabBase.set {w : World} {cs : Array Value} (h : TabBase w cs) (k : Nat) (hk : 40 ≤ k ∧ k < 60) (f : Value) : TabBase w (cs.setIfInBounds (k * 5 + 4) f) := by
  refine ⟨by rw [Array.size_setIfInBounds]; exact h.size, fun op ho => ?_, fun op h1 h2 => ?_⟩
  · obtain ⟨F, cap, a0, a1, a2, a3, a4, a5⟩ := h.base op ho
    refine ⟨F, cap, ?_, ?_, ?_, ?_, ?_, a5⟩
    all_goals rw [get_other f (by omega)]
    all_goals assumption
  · obtain ⟨a0, a1, a2, a3⟩ := h.zero op h1 h2
    refine ⟨?_, ?_, ?_, ?_⟩
    all_goals rw [get_other f (by omega)]
    all_goals assumption
/-- The table in memory. -/
def TabAt (w : World) (tb : Nat) : Prop := ∃ cs, Blk w tb cs 112 ∧ TabBase w cs ∧ ∀ op, 40 ≤ op → op < 60 → SupAt w cs op
theorem TabAt.ok {w w' : World} {tb B : Nat} (h : TabAt w tb) (hb : Below w.heap.size w w') (hB : w.heap.size ≤ B) (ht : Lib.TabBelow Tryz.prog B w' "internal/strconv.uint64pow10" .u64 Lib.pow10Tab) : TableOk B w' tb := by
  obtain ⟨cs, h1, h2, h3⟩ := h
  have hlt := h1.lt
  have hblk := h1.below hb hlt
  have hsz := hb.size
  refine ⟨by omega, fun b op ho => ?_, fun op ha hz => ?_⟩
  · obtain ⟨F, cap, a0, a1, a2, a3, a4, ⟨fn, f1, f2, f3⟩, bl, g1, g2⟩ := h2.base op ho
    refine ⟨F, cap, fn, ⟨?_, ?_, ?_, ?_, ?_, by omega⟩, f1, f2, f3, g2 B w' b tb (fun x hx => ?_) (fun _ => ht)⟩
    · rw [hblk.cell]; exact a0
    · rw [hblk.cell]; exact a1
    · rw [hblk.cell]; exact a2
    · rw [hblk.cell]; exact a3
    · rw [hblk.cell]; exact a4
    · have := (g1 x hx).1.lt
      exact ⟨(g1 x hx).1.below hb this, by omega⟩
  · obtain ⟨a0, a1, a2, a3⟩ := h2.zero op ha hz
    obtain ⟨pb, q, ps, s1, s2, s3, s4⟩ := h3 op ha hz
    have l3 := s3.lt
    have l4 := s4.lt
    have hps : ps.size = (superS op).length := by have := congrArg List.length s2; simpa using this
    refine ⟨pb, q, ps.size, ⟨?_, ?_, ?_, ?_, ?_, by omega⟩, ?_, ⟨by omega, by omega⟩, ?_⟩
    · rw [hblk.cell]; exact a0
    · rw [hblk.cell]; exact a1
    · rw [hblk.cell]; exact a2
    · rw [hblk.cell]; exact a3
    · rw [hblk.cell]; exact s1
    · rw [← hps]; exact s4.below hb l4
    · intro j p hj
      rw [(s3.below hb l3).cell]
      have : ps.toList[j]? = some (.int .i64 p) := by rw [s2, List.getElem?_map, hj]; rfl
      simpa using this

set_option maxRecDepth 100000 in
set_option maxHeartbeats 8000000 in
theorem newTable_any (w : World) : Calls Tryz.prog 39 #[] w fun e w' => ∃ tb, e = .returned (.pointer (some ⟨tb, 0, none⟩)) ∧ TabAt w' tb ∧ Below w.heap.size w w' := by
  have HBA := hide (base_any w)
  have hsf : ∀ (a : Addr) (W : World) (cap : Array Value), (store a (.func (.func 123) #[] cap)).run Tryz.prog W = stored Tryz.prog W a (.func (.func 123) #[] cap) .plain := fun a W cap => run_store _ _ _ _ _ rfl
  go_enter Tryz.func39, Tryz.ntmps39
  go_wp2_with fail
  refine (unhide HBA).mono ?_
  rintro e w1 ⟨cs, rfl, hT, hone, hb1⟩
  have HT1 := hide hT
  have HB1 := hide hb1
  have hsz := hT.size
  clear hT hb1 HBA
  go_wp2_with (refine wpList_store_row rfl 112 (.tmp 1) (.tmp 3) rfl w1.heap.size cs rfl rfl 112 _ (Blk.new w1 _ _) (by rw [hsz]; kernel_rfl) (by rw [hsz]; kernel_rfl) hone ?_)
  go_loopw [2] (fun i wr => ∃ (k : Nat) (cr : Array Value), i = .int .i64 k ∧ 40 ≤ k ∧ k ≤ 60 ∧ Blk wr w1.heap.size cr 112 ∧ TabBase wr cr ∧ (∀ op, 40 ≤ op → op < k → SupAt wr cr op) ∧ Below w.heap.size w wr) (fun i _ => 60 - (intOf i).toNat)
  case atStart =>
    refine ⟨40, cs, rfl, by omega, by omega, (Blk.new w1 _ _).setRow _, (unhide HT1).keep ((KeepT.ofBelow (below_box w1 _)).trans (KeepT.row (Blk.new w1 _ _) _)), fun op h1 h2 => by omega, ?_⟩
    exact below_setRow ((unhide HB1).trans ((below_box w1 _).mono (unhide HB1).size)) (unhide HB1).size _
  case round =>
    obtain ⟨k, cr, rfl, hk1, hk2, hblk, hbase, hsup, hbw⟩ := hrel
    have htl := hblk.lt
    by_cases hlt : k < 60
    · have hltI : (k : Int) < 60 := by omega
      have hleI : (k : Int) ≤ 59 := by omega
      have hk0 : (0 : Int) ≤ k := by omega
      have HSP := hide (superParts_any k ⟨hk1, hlt⟩ wr)
      have HB := hide hbw
      have HBLK := hide hblk
      have HBASE := hide hbase
      have HSUP := hide hsup
      clear hbw hblk hbase hsup
      go_wp2_with fail
      refine (unhide HSP).mono ?_
      rintro e w2 ⟨ps, rfl, hps, hw2⟩
      have hbd2 : Below wr.heap.size wr w2 := by rw [hw2]; exact below_box wr _
      have hq2 : Blk w2 wr.heap.size ps 3 := by rw [hw2]; exact Blk.new wr _ _
      have HIT := hide (mk_inTurn (some ⟨wr.heap.size, 0, none⟩) ps.size ps.size w2)
      have HPS := hide hps
      have HBD2 := hide hbd2
      have HQ2 := hide hq2
      clear HSP hw2 hps hbd2 hq2
      go_wp2_with fail
      refine (unhide HIT).mono ?_
      rintro e w3 ⟨rfl, hw3⟩
      have hbd3 : Below w2.heap.size w2 w3 := by rw [hw3]; exact below_box w2 _
      have hp3 : Blk w3 w2.heap.size #[.slice (some ⟨wr.heap.size, 0, none⟩) ps.size ps.size] 115 := by rw [hw3]; exact Blk.new w2 _ _
      have hq3 := (unhide HQ2).below hbd3 (unhide HQ2).lt
      have hbd : Below wr.heap.size wr w3 := (unhide HBD2).trans (hbd3.mono (unhide HBD2).size)
      have hblk3 := (unhide HBLK).below hbd htl
      have hc3 := hblk3.cell (k * 5 + 4)
      have hf3 := hblk3.free
      have htl3 := hblk3.lt
      obtain ⟨old, hold⟩ : ∃ old, cr[k * 5 + 4]? = some old := ⟨_, Array.getElem?_eq_getElem (by have := (unhide HBASE).size; omega)⟩
      rw [hold] at hc3
      have HP3 := hide hp3
      have HQ3 := hide hq3
      have HBLK3 := hide hblk3
      have HBD := hide hbd
      clear hw3 hbd3 hp3 hq3 hbd hblk3 HIT hold
      go_wp2_with fail
      go_roundw
      case rel =>
        have hk := KeepT.cell (unhide HBLK3) (k * 5 + 4) (.func (.func 123) #[] #[.pointer (some ⟨w2.heap.size, 0, none⟩)])
        have hkk := (KeepT.ofBelow (unhide HBD)).trans hk
        refine ⟨k + 1, cr.setIfInBounds (k * 5 + 4) (.func (.func 123) #[] #[.pointer (some ⟨w2.heap.size, 0, none⟩)]), by go_num, by omega, by omega, (unhide HBLK3).set _ _, ((unhide HBASE).keep hkk).set k ⟨hk1, hlt⟩ _, ?_, ?_⟩
        · intro op h1 h2
          by_cases e : op = k
          · subst e
            refine ⟨w2.heap.size, wr.heap.size, ps, ?_, unhide HPS, hk _ _ _ (unhide HQ3) (by decide), hk _ _ _ (unhide HP3) (by decide)⟩
            rw [Array.getElem?_setIfInBounds_self_of_lt (by have := (unhide HBASE).size; omega)]
          · exact ((unhide HSUP op h1 (by omega)).keep hkk).other _ e
        · exact ((unhide HB).trans ((unhide HBD).mono (unhide HB).size)).setCell (unhide HB1).size _
      case measure => simp [intOf]; omega
    · have hkk : k = 60 := by omega
      subst hkk
      have HB := hide hbw
      have HBLK := hide hblk
      have HBASE := hide hbase
      have HSUP := hide hsup
      clear hbw hblk hbase hsup
      go_wp2_with fail
      go_ret
      exact ⟨w1.heap.size, rfl, ⟨cr, unhide HBLK, unhide HBASE, unhide HSUP⟩, unhide HB⟩

end Go.Proofs.YtmeiikjpaepogaaGreatDoor

/- The program's machine: the limits. -/
namespace Go.Proofs.YtmeiikjpaepogaaGreatDoor
open Go Go.RowKit

def plimOk (n : Int) : Bool := decide (1 ≤ n ∧ n ≤ 1000)
set_option maxRecDepth 100000 in
set_option maxHeartbeats 4000000 in
theorem areLimits_any (q c : Nat) (a0 a1 a2 a3 : Int) (w : World) (hq : ∀ j : Nat, w.cell? ⟨q, j, none⟩ = (#[.int .i64 a0, .int .i64 a1, .int .i64 a2, .int .i64 a3] : Array Value)[j]?) :
    Calls Tryz.prog 61 #[.slice (some ⟨q, 0, none⟩) 4 c] w (fun e w' => e = .returned (.bool (plimOk a0 && plimOk a1 && plimOk a2 && plimOk a3)) ∧ w' = w) := by
  have hval : ∀ k : Nat, k < 4 → ∃ x, ([a0, a1, a2, a3] : List Int)[k]? = some x ∧ w.cell? ⟨q, k, none⟩ = some (.int .i64 x) := by
    intro k hk
    rw [hq k]
    match k, hk with
    | 0, _ => exact ⟨_, rfl, rfl⟩
    | 1, _ => exact ⟨_, rfl, rfl⟩
    | 2, _ => exact ⟨_, rfl, rfl⟩
    | 3, _ => exact ⟨_, rfl, rfl⟩
  have hall : (plimOk a0 && plimOk a1 && plimOk a2 && plimOk a3) = ([a0, a1, a2, a3] : List Int).all plimOk := by simp [Bool.and_assoc]
  have HV := hide hval
  have HA := hide hall
  generalize (plimOk a0 && plimOk a1 && plimOk a2 && plimOk a3) = rr at *
  generalize hls : ([a0, a1, a2, a3] : List Int) = ls at *
  have hlen : ls.length = 4 := by rw [← hls]; rfl
  clear hq hval hall hls
  go_enter Tryz.func61, Tryz.ntmps61
  go_wp2_with fail
  go_loop [7] (fun i => ∃ k : Nat, k ≤ 4 ∧ i = .int .i64 k ∧ (ls.take k).all plimOk = true) (fun i => 4 - (intOf i).toNat)
  case atStart => exact ⟨0, by omega, rfl, rfl⟩
  case round =>
    obtain ⟨k, hk, rfl, hok⟩ := hrel
    by_cases hlt : k < 4
    · obtain ⟨x, hx, hcx⟩ := unhide HV k hlt
      have hltI : (k : Int) < 4 := by omega
      have hnx : (ls.take (k + 1)).all plimOk = plimOk x := by rw [List.take_add_one, hx]; simp [hok]
      have HNX := hide hnx
      have HX := hide hx
      by_cases h1 : x < 1
      · clear hnx hx
        go_wp2_with fail
        go_ret
        refine ⟨congrArg (fun c => Ending.returned (.bool c)) ?_, rfl⟩
        rw [unhide HA]
        symm
        rw [List.all_eq_false]
        exact ⟨x, List.mem_of_getElem? (unhide HX), by simp [plimOk]; omega⟩
      · by_cases h2 : 1000 < x
        · clear hnx hx
          go_wp2_with fail
          go_ret
          refine ⟨congrArg (fun c => Ending.returned (.bool c)) ?_, rfl⟩
          rw [unhide HA]
          symm
          rw [List.all_eq_false]
          exact ⟨x, List.mem_of_getElem? (unhide HX), by simp [plimOk]; omega⟩
        · have HOK : Hid (plimOk x = true) := by show plimOk x = true; simp [plimOk]; omega
          clear hnx hx
          go_wp2_with fail
          go_round
          case rel => exact ⟨k + 1, by omega, by go_num, by rw [unhide HNX]; exact unhide HOK⟩
          case measure => simp [intOf]; omega
    · have hk4 : k = 4 := by omega
      subst hk4
      have HOK := hide hok
      clear hok
      go_wp2_with fail
      go_ret
      refine ⟨congrArg (fun c => Ending.returned (.bool c)) ?_, rfl⟩
      rw [unhide HA]
      have := unhide HOK
      rw [List.take_of_length_le (by omega)] at this
      exact this.symm

end Go.Proofs.YtmeiikjpaepogaaGreatDoor

/- The program's machine: a new one; Table.Run. -/
namespace Go.Proofs.YtmeiikjpaepogaaGreatDoor
open Go Go.RowKit

theorem start_mok (p : Nat) (ls la lc lo en : Int) (c : Nat) (hc : c ≤ 1000) (hl : limsOk ls la lc lo) : MOk (startM p ls la lc lo en c) := by
  obtain ⟨h1, h2, h3, h4⟩ := hl
  unfold limOk at h1 h2 h3 h4
  have h0 : (⟨#[]⟩ : ByteArray).size = 0 := rfl
  refine ⟨⟨h1, h2, h3, h4⟩, ?_, ?_, ?_, ?_, ?_, ?_, ?_, ?_⟩
  · simp [startM]; omega
  · simp [startM]; omega
  · simp [startM]; omega
  · simp [startM]; omega
  · simp [startM, h0]; omega
  · simp [startM]
  · simp [startM]
  · intro x hx
    simp [startM] at hx
    rw [hx.2]
    exact inI_zero
theorem pmachine_new (W : World) (B tb p : Nat) (vl : Value) (ls la lc lo en : Int) (c : Nat) (hB : B ≤ W.heap.size) (hc : c ≤ 1000) :
    PmE B ((W.alloc (.cells (madeCells #[.int .i64 0] c) 2)).alloc (.cells #[.pointer (some ⟨tb, 0, none⟩), .int .i64 ls, .int .i64 la, .int .i64 lc, .int .i64 lo, vl, .int .i64 en, .int .i64 0, .bool false, .slice none 0 0, .slice none 0 0, .slice none 0 0, .slice (some ⟨W.heap.size, 0, none⟩) c c, .slice none 0 0] 122)).drew (W.heap.size + 1) tb vl (startM p ls la lc lo en c) 0 := by
  have hs1 : (W.alloc (.cells (madeCells #[.int .i64 0] c) 2)).heap.size = W.heap.size + 1 := by simp
  have hrow : ((W.alloc (.cells (madeCells #[.int .i64 0] c) 2)).alloc (.cells #[.pointer (some ⟨tb, 0, none⟩), .int .i64 ls, .int .i64 la, .int .i64 lc, .int .i64 lo, vl, .int .i64 en, .int .i64 0, .bool false, .slice none 0 0, .slice none 0 0, .slice none 0 0, .slice (some ⟨W.heap.size, 0, none⟩) c c, .slice none 0 0] 122)).drew.ownsRow B 2 1 (.slice (some ⟨W.heap.size, 0, none⟩) c c) c (intCells (List.replicate c 0)) := by
    refine ⟨by simp [intCells], Or.inr ⟨W.heap.size, c, madeCells #[.int .i64 0] c, rfl, hB, ((Blk.new W _ _).alloc _).drew, Nat.le_refl _, by unfold maxLen; omega, by rw [size_madeCells]; omega, ?_⟩⟩
    rw [made_ints, List.take_of_length_le (by simp [intCells])]
  have hb := Blk.new (W.alloc (.cells (madeCells #[.int .i64 0] c) 2)) #[.pointer (some ⟨tb, 0, none⟩), .int .i64 ls, .int .i64 la, .int .i64 lc, .int .i64 lo, vl, .int .i64 en, .int .i64 0, .bool false, .slice none 0 0, .slice none 0 0, .slice none 0 0, .slice (some ⟨W.heap.size, 0, none⟩) c c, .slice none 0 0] 122
  rw [hs1] at hb
  refine ⟨.slice none 0 0, .slice none 0 0, .slice none 0 0, .slice (some ⟨W.heap.size, 0, none⟩) c c, .slice none 0 0, ⟨hb.drew, by omega, ⟨?_, ?_, ?_, rfl⟩⟩⟩
  · intro i v t hv ht
    have hi : i < 5 := (List.getElem?_eq_some_iff.1 hv).1
    match i, hi with
    | 0, _ => simp [pmRows, startM, intCells] at hv ht; subst hv ht; exact World.ownsRow_nil _ _ _ _
    | 1, _ => simp [pmRows, startM, intCells] at hv ht; subst hv ht; exact World.ownsRow_nil _ _ _ _
    | 2, _ => simp [pmRows, startM, intCells] at hv ht; subst hv ht; exact World.ownsRow_nil _ _ _ _
    | 3, _ =>
      simp only [pmRows, startM, List.getElem?_cons_succ, List.getElem?_cons_zero, Option.some.injEq, Int.toNat_natCast, List.length_replicate] at hv ht
      subst hv ht
      exact hrow
    | 4, _ =>
      simp only [List.getElem?_cons_succ, List.getElem?_cons_zero, Option.some.injEq] at hv
      subst hv
      have e0 : byteCells ⟨#[]⟩ = [] := by unfold byteCells; rw [ByteArray.toList_eq]; rfl
      have e : t = ⟨5, 1, 0, []⟩ := by
        have := Option.some.inj ht
        rw [← this, ← e0]
        rfl
      rw [e]
      exact World.ownsRow_nil _ _ _ _
  · intro i j v v' k hv hv' hk hk'
    have hi : i < 5 := (List.getElem?_eq_some_iff.1 hv).1
    have hj : j < 5 := (List.getElem?_eq_some_iff.1 hv').1
    match i, hi with
    | 0, _ => simp at hv; subst hv; simp [Value.ownBlock] at hk
    | 1, _ => simp at hv; subst hv; simp [Value.ownBlock] at hk
    | 2, _ => simp at hv; subst hv; simp [Value.ownBlock] at hk
    | 4, _ => simp at hv; subst hv; simp [Value.ownBlock] at hk
    | 3, _ =>
      match j, hj with
      | 0, _ => simp at hv'; subst hv'; simp [Value.ownBlock] at hk'
      | 1, _ => simp at hv'; subst hv'; simp [Value.ownBlock] at hk'
      | 2, _ => simp at hv'; subst hv'; simp [Value.ownBlock] at hk'
      | 4, _ => simp at hv'; subst hv'; simp [Value.ownBlock] at hk'
      | 3, _ => rfl
  · intro i v b hv hb e
    simp at hb
    subst hb
    have hi : i < 5 := (List.getElem?_eq_some_iff.1 hv).1
    match i, hi with
    | 0, _ => simp at hv; subst hv; simp [Value.ownBlock] at e
    | 1, _ => simp at hv; subst hv; simp [Value.ownBlock] at e
    | 2, _ => simp at hv; subst hv; simp [Value.ownBlock] at e
    | 3, _ => simp at hv; subst hv; simp [Value.ownBlock] at e
    | 4, _ => simp at hv; subst hv; simp [Value.ownBlock] at e

set_option maxRecDepth 100000 in
set_option maxHeartbeats 4000000 in
theorem newMachine_any (tb p g len cap : Nat) (ls la lc lo en ce : Int) (w : World) (hce : 0 ≤ ce ∧ ce ≤ 1000) :
    Calls Tryz.prog 62 #[.pointer (some ⟨tb, 0, none⟩), .agg #[.slice (some ⟨g, 0, none⟩) len cap, .int .i64 en, .int .i64 ce], .agg #[.int .i64 ls, .int .i64 la, .int .i64 lc, .int .i64 lo]] w fun e w' => ∃ b, e = .returned (.pointer (some ⟨b, 0, none⟩)) ∧ PmE w.heap.size w' b tb (.slice (some ⟨g, 0, none⟩) len cap) (startM p ls la lc lo en ce) 0 ∧ Below w.heap.size w w' := by
  obtain ⟨c, rfl⟩ : ∃ c : Nat, ce = c := ⟨ce.toNat, by omega⟩
  have hmk := run_make_row' (P := Tryz.prog) 42 2 (.int .i64 0) 8 Tryz.underlying42 Tryz.infoInt64 rfl .i64 .i64 c (by omega) (by omega)
  go_enter Tryz.func62, Tryz.ntmps62
  go_wp2_with fail
  have hp := Blk.new w #[.slice (some ⟨g, 0, none⟩) len cap, .int .i64 en, .int .i64 c] 73
  have hl := Blk.new (w.alloc (.cells #[.slice (some ⟨g, 0, none⟩) len cap, .int .i64 en, .int .i64 c] 73)) #[.int .i64 ls, .int .i64 la, .int .i64 lc, .int .i64 lo] 39
  rw [size_up'] at hl
  have hbw := below_box2 w (.cells #[.slice (some ⟨g, 0, none⟩) len cap, .int .i64 en, .int .i64 c] 73) (.cells #[.int .i64 ls, .int .i64 la, .int .i64 lc, .int .i64 lo] 39)
  have hsz : ((w.alloc (.cells #[.slice (some ⟨g, 0, none⟩) len cap, .int .i64 en, .int .i64 c] 73)).alloc (.cells #[.int .i64 ls, .int .i64 la, .int .i64 lc, .int .i64 lo] 39)).heap.size = w.heap.size + 2 := by simp
  have hp2 := hp.alloc (.cells #[.int .i64 ls, .int .i64 la, .int .i64 lc, .int .i64 lo] 39)
  generalize (w.alloc (.cells #[.slice (some ⟨g, 0, none⟩) len cap, .int .i64 en, .int .i64 c] 73)).alloc (.cells #[.int .i64 ls, .int .i64 la, .int .i64 lc, .int .i64 lo] 39) = W at *
  have hcp := hp2.cell
  have hcl := hl.cell
  have hcp1 := (hp2.alloc (.cells (madeCells #[.int .i64 0] c) 2)).cell
  have hcl1 := (hl.alloc (.cells (madeCells #[.int .i64 0] c) 2)).cell
  have hcp2 := ((hp2.alloc (.cells (madeCells #[.int .i64 0] c) 2)).drew).cell
  have hcl2 := ((hl.alloc (.cells (madeCells #[.int .i64 0] c) 2)).drew).cell
  have hwl : w.heap.size < W.heap.size := by omega
  have hwl1 : w.heap.size + 1 < W.heap.size := by omega
  have HB := hide hbw
  have HSZ := hide hsz
  clear hp hp2 hl hbw hsz
  go_region
  all_goals
    go_wp2_with fail
    go_ret
    refine ⟨_, rfl, pmachine_new W w.heap.size tb p _ ls la lc lo en c (unhide HB).size (by omega), ?_⟩
    exact (((unhide HB).alloc (unhide HB).size _).alloc (by have := (unhide HB).size; simp; omega) _).drew

theorem strOfNums_bytes (s : ByteArray) : strOfNums (s.toList.map (fun c => (c.toNat : Int))) = s := by
  apply ByteArray.ext
  apply Array.ext'
  rw [ByteArray.toList_eq]
  simp [strOfNums, Function.comp_def]
theorem conv_out (w : World) (B : Nat) (vO : Value) (s : ByteArray) (h : w.ownsRow B 5 1 vO s.size (byteCells s)) : (convert 86 9 vO).run Tryz.prog w = .ok (.string s) w := by
  by_cases h0 : 0 < s.size
  · obtain ⟨g, cap, rfl, _, _⟩ := h.form h0
    have hr := run_convert_bytes_arg (P := Tryz.prog) w 86 5 Tryz.underlying86 Tryz.underlying5 g 0 s.size cap (s.toList.map (fun c => (c.toNat : Int))) (by rw [List.length_map]; exact bytes_len s) (fun i hi => by
      have hc := own_cell h i (by omega)
      rw [Nat.zero_add, hc]
      unfold byteCells
      have hi' : i < s.toList.length := by rw [bytes_len]; exact hi
      rw [List.getElem?_map, List.getElem?_eq_getElem hi', List.getD_eq_getElem?_getD, List.getElem?_map, List.getElem?_eq_getElem hi']
      rfl) 9 Tryz.underlying9
    rw [strOfNums_bytes] at hr
    exact hr
  · have hz : s.size = 0 := by omega
    have hs : s = ByteArray.empty := ByteArray.ext (Array.eq_empty_of_size_eq_zero hz)
    obtain ⟨h1, h2⟩ := h
    rcases h2 with ⟨rfl, _⟩ | ⟨g, cap, cs, rfl, h3, h4, h5, h6, h7, h8⟩
    · rw [hs]
      exact run_convert_bytes_nil (P := Tryz.prog) w 86 5 Tryz.underlying86 Tryz.underlying5 _ _ 9 Tryz.underlying9
    · have hr := run_convert_bytes_arg (P := Tryz.prog) w 86 5 Tryz.underlying86 Tryz.underlying5 g 0 s.size cap [] (by simp [hz]) (fun i hi => by omega) 9 Tryz.underlying9
      rw [show strOfNums [] = s by rw [hs]; rfl] at hr
      exact hr

end Go.Proofs.YtmeiikjpaepogaaGreatDoor

