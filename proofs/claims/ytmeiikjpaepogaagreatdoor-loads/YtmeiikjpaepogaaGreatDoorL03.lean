/- The statements' world: loaded, the walk. -/
import Derived.Test.YtmeiikjpaepogaaGreatDoorL02
namespace Go.Proofs.YtmeiikjpaepogaaGreatDoor
open Go Go.RowKit

theorem step_callD {P : Program} {ops : Array Oper} {o : Oper} {a : Act} {w : World} {K : Act → World → Prop} {Q : Exit → Act → World → Prop} {E : Prop} (hgd : o.guard = none) (f : FuncId) (args : Array Operand) (tys : Array TypeId)
    (ho : o.op = .call { callee := .value (.func f), args := args, argTypes := tys }) {fn : Func} (hf : P.funcs[f]? = some fn) (hn : (fn.name == "runtime.NumGoroutine") = false) (hb : fn.body.isNone = false) (vals : Array Value) (hvals : args.map a.eval = vals) {R : Ending → World → Prop} (d : Tmp) (hd : o.dst = some d) (hc : Calls P f vals w R)
    (h : ∀ e w', R e w' → ∃ v, e = .returned v ∧ K (a.put (some d) v) w') :
    if Region.wanted o (yielded ops a.tmps) = true then Oper.wp P o a w K Q else E := by
  rw [← hd] at h
  exact step_call hgd f args tys ho hf hn hb vals hvals hc h
theorem FLoad.shape {w : World} {l : List (Int × Int)} {en ce : Int} {e : Ending} {w' : World} (h : FLoad w l en ce e w') : ∃ po er, e = .returned (.tuple #[.pointer po, .int .i64 er]) ∧ FLoad w l en ce (.returned (.tuple #[.pointer po, .int .i64 er])) w' := by
  rcases h with ⟨⟨h1, rfl⟩ | ⟨h1, c, g, cap, rfl, h2⟩, hb⟩
  · exact ⟨none, 5, rfl, Or.inl ⟨h1, rfl⟩, hb⟩
  · exact ⟨some ⟨c, 0, none⟩, 0, rfl, Or.inr ⟨h1, c, g, cap, rfl, h2⟩, hb⟩
theorem RefLoad.shape {w : World} {l : List (Int × Int)} {en ce : Int} {e : Ending} {w' : World} (h : RefLoad w l en ce e w') : ∃ po er, e = .returned (.tuple #[.pointer po, .int .i64 er]) ∧ RefLoad w l en ce (.returned (.tuple #[.pointer po, .int .i64 er])) w' := by
  rcases h with ⟨⟨h1, rfl⟩ | ⟨h1, c, g, cap, vH, rfl, h2⟩, hb⟩
  · exact ⟨none, 5, rfl, Or.inl ⟨h1, rfl⟩, hb⟩
  · exact ⟨some ⟨c, 0, none⟩, 0, rfl, Or.inr ⟨h1, c, g, cap, vH, rfl, h2⟩, hb⟩
/-- Both Loads together. -/
theorem loaded_both {w W W1 W2 : World} {l : List (Int × Int)} {en ce er er' : Int} {po po' : Option Addr} (h1 : FLoad W l en ce (.returned (.tuple #[.pointer po, .int .i64 er])) W1) (h2 : RefLoad W1 l en ce (.returned (.tuple #[.pointer po', .int .i64 er'])) W2) (hW : w.heap.size + 2 ≤ W.heap.size) :
    er = er' ∧ Loaded w l en ce W2 (.pointer po) (.pointer po') er ∧ ((po = none ∧ po' = none) ∨ ∃ c p, po = some ⟨c, 0, none⟩ ∧ po' = some ⟨p, 0, none⟩ ∧ loadS l en ce = true) := by
  obtain ⟨k1, b1⟩ := h1
  obtain ⟨k2, b2⟩ := h2
  rcases k1 with ⟨f1, e1⟩ | ⟨f1, c, g, cap, e1, h3, h4, h5⟩
  · rcases k2 with ⟨f2, e2⟩ | ⟨f2, _⟩
    · simp only [Ending.returned.injEq, Value.tuple.injEq, Array.mk.injEq, List.cons.injEq, Value.pointer.injEq, Value.int.injEq, true_and, and_true] at e1 e2
      obtain ⟨rfl, rfl⟩ := e1
      obtain ⟨rfl, rfl⟩ := e2
      exact ⟨rfl, ⟨fun _ => ⟨rfl, rfl, rfl⟩, fun hy => (by rw [f1] at hy; cases hy)⟩, Or.inl ⟨rfl, rfl⟩⟩
    · rw [f1] at f2; cases f2
  · rcases k2 with ⟨f2, _⟩ | ⟨f2, p, g', cap', vH, e2, h6, h7, h8⟩
    · rw [f1] at f2; cases f2
    · simp only [Ending.returned.injEq, Value.tuple.injEq, Array.mk.injEq, List.cons.injEq, Value.pointer.injEq, Value.int.injEq, true_and, and_true] at e1 e2
      obtain ⟨rfl, rfl⟩ := e1
      obtain ⟨rfl, rfl⟩ := e2
      have hs1 := b1.size
      refine ⟨rfl, ⟨fun hn => (by rw [f1] at hn; cases hn), fun _ => ⟨rfl, c, g, cap, p, g', cap', vH, rfl, rfl, h3.below b2 h3.lt, ?_, h6, ownsRow_base h8 (by omega)⟩⟩, Or.inr ⟨c, p, rfl, rfl, f1⟩⟩
      exact ownsRow_base ((LawStill.ofBelow b2).row h5) (by omega)

set_option maxRecDepth 100000 in
set_option maxHeartbeats 16000000 in
theorem loaded_any (B bw : Nat) (ps hs : List Nat) (vp vh : Value) (w : World) (h : Lw B w bw ps hs vp vh) (hh : HoldsOk w hs) (hp : PlayersOk prg3 w ps) (hlen : hs.length + 8 ≤ 17592186044416)
    (n : Int) (s : ByteArray) (ao : Option Addr) (c : Nat) (l : List (Int × Int)) (en ce l1 l2 l3 l4 fu : Int) (hin : InL w ao l) (hi : ∀ x ∈ l, inI x.2) (hll : l.length ≤ 8796093021960) :
    Calls Tryz.prog 42 #[.pointer (some ⟨bw, 0, none⟩), opV 2 n s false false false (.slice ao l.length c) en ce l1 l2 l3 l4 fu] w (fun e w' => e = .returned (.bool true) ∧ StepPost prg3 B w bw hs w') := by
  have hBw : B ≤ w.heap.size := by have := h.base; have := h.blk.lt; omega
  -- the box of the step, and the new list
  have hb0 : Below w.heap.size w (w.alloc (.cells (opC 2 n s false false false (.slice ao l.length c) en ce l1 l2 l3 l4 fu) 63)) := below_box w _
  have hs0 : (w.alloc (.cells (opC 2 n s false false false (.slice ao l.length c) en ce l1 l2 l3 l4 fu) 63)).heap.size = w.heap.size + 1 := by simp
  have hO0 := Blk.new w (opC 2 n s false false false (.slice ao l.length c) en ce l1 l2 l3 l4 fu) 63
  have hin0 := hin.below hb0
  obtain ⟨N, hN⟩ : ∃ N, N = l.length + 8 := ⟨_, rfl⟩
  obtain ⟨ZC, hZC⟩ : ∃ ZC, ZC = (instrCells (List.replicate N ((0 : Int), (0 : Int)))).toArray := ⟨_, rfl⟩
  have hmk : ∀ W : World, (Instr.makeSlice 33 (.int .i64 ((l.length : Int) + 8)) (.int .i64 ((l.length : Int) + 8))).run Tryz.prog W = .ok (.slice (some ⟨W.heap.size, 0, none⟩) N N) (W.alloc (.cells ZC 65)) := fun W => by
    have hr := run_make2 N (by omega) W
    rw [made2, ← hZC] at hr
    have e : ((N : Nat) : Int) = (l.length : Int) + 8 := by omega
    rw [e] at hr
    exact hr
  have hll' : (l.length : Int) ≤ 8796093021960 := by omega
  unfold opV
  unfold opC at hb0 hs0 hO0 hin0
  generalize hW0 : w.alloc (.cells #[.int .i64 2, .int .i64 n, .string s, .bool false, .bool false, .bool false, .slice ao l.length c, .int .i64 en, .int .i64 ce, .int .i64 l1, .int .i64 l2, .int .i64 l3, .int .i64 l4, .int .i64 fu] 63 ) = W0 at *
  have hbZ := below_box W0 (.cells ZC 65)
  have hZ : Blk (W0.alloc (.cells ZC 65)) (w.heap.size + 1) (instrCells (List.replicate N ((0 : Int), (0 : Int)))).toArray 65 := by
    have h0 := Blk.new W0 ZC 65
    rw [hs0] at h0
    rw [← hZC]
    exact h0
  have hinZ := hin0.below hbZ
  have HZ := V hZ
  have HINZ := V hinZ
  have hbZ' : Below (w.heap.size + 1) W0 (W0.alloc (.cells ZC 65)) := by rw [← hs0]; exact hbZ
  have HBZ := V hbZ'
  have HO0 := V hO0
  have hc0 := hO0.cell
  have HB0 := V hb0
  have HS0 := V hs0
  have HIN := V hin0
  have HN := V hN
  have HZC := V hZC
  have HL := V h
  have HH := V hh
  have HP := V hp
  have HI := V hi
  have hwl : w.heap.size < W0.heap.size := by omega
  clear hb0 hO0 hin0 hinZ hZ hbZ hbZ' h hh hp hin hi hN hZC
  go_enter Tryz.func42, Tryz.ntmps42
  go_upto_region 1 with fail
  clear hW0
  go_wp2_with (refine wpList_copyL rfl (.tmp 17) (.tmp 19) rfl l ao c (w.heap.size + 1) N (U HN) (by simp [Act.eval]) (by simp [Act.eval]) (U HZ) (U HINZ) (w.heap.size + 1) W0 (U HBZ) (Nat.le_refl _) (some 20) rfl ?_; intro w2 HB2K hb2; have HB2 := V hb2; clear hb2)
  have hmore : Blk w2 (w.heap.size + 1) (instrCells (more8 l)).toArray 65 := U HB2K
  have hO2 := (U HO0).below (U HB2) (Nat.lt_succ_self _)
  have hbw2 : Below w.heap.size w w2 := (U HB0).trans ((U HB2).mono (Nat.le_succ _))
  have hsz2 : w.heap.size + 2 ≤ w2.heap.size := hmore.lt
  have hd2 : Below w2.heap.size w2 w2.drew := below_drew (Below.refl _ _)
  have HFL := V (fload_any (some ⟨w.heap.size + 1, 0, none⟩) N l en ce w2.drew (in_more8 hmore.drew))
  have hS : ∀ W, Below w2.heap.size w2 W → W.cell? ⟨w.heap.size, 6, none⟩ = some (.slice ao l.length c) ∧ W.cell? ⟨w.heap.size, 7, none⟩ = some (.int .i64 en) ∧ W.cell? ⟨w.heap.size, 8, none⟩ = some (.int .i64 ce) := fun W hW => by
    have := (hO2.below hW hO2.lt).cell
    exact ⟨this 6, this 7, this 8⟩
  have HS := V hS
  have HSD := V (hS _ hd2)
  have HMORE := V hmore
  have HO2 := V hO2
  have HBW2 := V hbw2
  have HIN2 : Hid (InL w2 ao l) := by
    rcases U HIN with e | ⟨g1, off, e1, e2, e3⟩
    · exact Or.inl e
    · have h1 := U HS0
      exact Or.inr ⟨g1, off, e1, by omega, fun j u hj => by rw [(U HB2).cell (by simp; omega)]; exact e3 j u hj⟩
  have hNI : (N : Int) = (l.length : Int) + 8 := by have := U HN; omega
  have hleN : (l.length : Int) ≤ N := by omega
  have hleN' : l.length ≤ N := by omega
  have hw2l : w.heap.size < w2.heap.size := by omega
  have hg2l : w.heap.size + 1 < w2.heap.size := by omega
  clear hmore hO2 hbw2 hS hd2 hc0 HZ HINZ HBZ HO0 HB2K hmk
  simp only [Act.put, List.setIfInBounds_toArray, List.set_cons_succ, List.set_cons_zero]
  go_wp2_with fail
  go_cut [6, 7] from 12 to 111 (fun s6 s7 wc => ∃ po er, s6 = .pointer po ∧ s7 = .int .i64 er ∧ FLoad w2.drew l en ce (.returned (.tuple #[.pointer po, .int .i64 er])) wc)
  case first =>
    go_region_held_law (fun w' => w'.cell? ⟨w.heap.size, 6, none⟩ = some (.slice ao l.length c) ∧ w'.cell? ⟨w.heap.size, 7, none⟩ = some (.int .i64 en) ∧ w'.cell? ⟨w.heap.size, 8, none⟩ = some (.int .i64 ce)) (first | with_reducible exact U HS4 | with_reducible exact U HSD) ((refine step_callD rfl 20 #[.tmp 26, .tmp 28, .tmp 30] #[33, 3, 3] rfl Tryz.func20 Tryz.name20 Tryz.body20 #[.slice (some ⟨w.heap.size + 1, 0, none⟩) l.length N, .int .i64 en, .int .i64 ce] (by first | rfl | (simp [Act.eval]; done)) (R := FLoad w2.drew l en ce) 31 rfl (by exact U HFL) ?_; rintro e w3 hfl; obtain ⟨po, er, rfl, hfl⟩ := hfl.shape; have HS4 := V (U HS w3 ((below_drew (Below.refl _ _)).trans hfl.2)); have HFL3 := V hfl; clear hfl; refine ⟨_, rfl, ?_⟩))
    all_goals
      go_wp2_with fail
      go_meet
      refine ⟨po, er, ?_, ?_, U HFL3⟩
      all_goals first | rfl | (simp; done)
  case rest =>
    obtain ⟨po, er, rfl, rfl, hfl⟩ := hcut
    obtain ⟨w3, rfl⟩ : ∃ w3 : World, w3 = wc := ⟨_, rfl⟩
    have hb23 : Below w2.heap.size w2 w3 := (below_drew (Below.refl _ _)).trans hfl.2
    obtain ⟨s4, s5, s6⟩ := U HS w3 hb23
    have HRL := V (refLoad_any ao c l en ce w3 ((U HIN2).below hb23))
    have HFL3 := V hfl
    have HB23 := V hb23
    have hw3l : w.heap.size < w3.heap.size := by have := hb23.size; omega
    clear hfl hb23 HFL HSD
    go_wp2_with fail
    refine (U HRL).mono ?_
    rintro e w4 hrl
    obtain ⟨po', er', rfl, hrl⟩ := hrl.shape
    have hsD : w.heap.size + 2 ≤ w2.drew.heap.size := hsz2
    obtain ⟨rfl, hld, hpo⟩ := loaded_both (w := w) (U HFL3) hrl hsD
    have hb34 := hrl.2
    have hb24 : Below w2.heap.size w2 w4 := (U HB23).trans (hb34.mono (U HB23).size)
    obtain ⟨q4, q5, q6⟩ := U HS w4 hb24
    have HLD := V hld
    have HB24 := V hb24
    have HPO := V hpo
    have hw4l : w.heap.size < w4.heap.size := by have := hb24.size; omega
    have hg4l : w.heap.size + 1 < w4.heap.size := by have := hb24.size; omega
    clear hrl hld hb34 hb24 HRL HFL3 s4 s5 s6
    go_upto_region 5 with fail
    go_cut [10] from 12 to 111 (fun s10 wc => s10 = .bool true ∧ wc = w4)
    case first =>
      rcases hpo with ⟨rfl, rfl⟩ | ⟨c', p', rfl, rfl, _⟩
      all_goals
        go_wp2_with fail
        go_meet
        exact ⟨rfl, rfl⟩
    case rest =>
      obtain ⟨rfl, hw⟩ := hcut
      obtain rfl := hw.symm
      clear hw hpo
      have hrow := row_more8 (U HN) hll ((U HMORE).below (U HB24) hg2l)
      have HROW := V hrow
      have HIN4 := V ((U HIN2).below (U HB24))
      have hNI2 : (N : Int) ≤ 8796093022000 := by omega
      clear hrow
      go_wp2_with fail
      go_loopw [10, 11] (fun ok i wr => ∃ (k m : Nat), i = .int .i64 k ∧ k ≤ N ∧ ok = .bool true ∧ wr = w4.drewN m) (fun _ i _ => N - (intOf i).toNat)
      case atStart => exact ⟨0, 0, rfl, Nat.zero_le _, rfl, rfl⟩
      case round =>
        obtain ⟨k, m, rfl, hk, rfl, rfl⟩ := hrel
        by_cases hlt : k < N
        · have hltI : (k : Int) < N := by omega
          have hNl := U HN
          by_cases hin : k < l.length
          · have hinI : (k : Int) < l.length := by omega
            obtain ⟨x, hx⟩ : ∃ x, l[k]? = some x := ⟨_, List.getElem?_eq_getElem hin⟩
            have hx8 : (more8 l)[k]? = some x := by rw [more8_in l hin]; exact hx
            have ha1 := own_cell (U HROW) (k * 2) (by omega)
            have ha2 := own_cell (U HROW) (k * 2 + 1) (by omega)
            rw [(instrCells_at _ _ _ hx8).1] at ha1
            rw [(instrCells_at _ _ _ hx8).2] at ha2
            rcases U HIN4 with e0 | ⟨g1, off, rfl, hg1, hcells⟩
            · rw [e0] at hin; simp at hin
            obtain ⟨hb1, hb2⟩ := in_cell hcells hx
            clear hx hx8 hcells hNl
            go_wp2_with fail
            go_region
            go_wp2_with fail
            go_roundw
            case rel => exact ⟨k + 1, m + 1, by go_num, by omega, rfl, rfl⟩
            case measure => simp [intOf]; omega
          · have hinI : ¬ (k : Int) < l.length := by omega
            have hinI2 : (l.length : Int) ≤ k := by omega
            have hx8 : (more8 l)[k]? = some (0, 0) := more8_out l (by omega) (by omega)
            have ha1 := own_cell (U HROW) (k * 2) (by omega)
            have ha2 := own_cell (U HROW) (k * 2 + 1) (by omega)
            rw [(instrCells_at _ _ _ hx8).1] at ha1
            rw [(instrCells_at _ _ _ hx8).2] at ha2
            clear hx8 hNl
            go_wp2_with fail
            go_region
            go_wp2_with fail
            go_roundw
            case rel => exact ⟨k + 1, m + 1, by go_num, by omega, rfl, rfl⟩
            case measure => simp [intOf]; omega
        · have hkn : k = N := by omega
          subst hkn
          have hbw4 : Below w.heap.size w w4 := (U HBW2).trans ((U HB24).mono (U HBW2).size)
          have hl4 := ((U HL).below hbw4).drewN m
          have hbn : Below w.heap.size w (w4.drewN m) := below_drawn hbw4 m
          have hsz4 : (w4.drewN m).heap.size = w4.heap.size := rfl
          have hblk := Blk.new (w4.drewN m) #[.slice (some ⟨w.heap.size + 1, 0, none⟩) k k, .slice none 0 0, .int .i64 0] 134
          have hbA : Below (w4.drewN m).heap.size (w4.drewN m) ((w4.drewN m).alloc (.cells #[.slice (some ⟨w.heap.size + 1, 0, none⟩) k k, .slice none 0 0, .int .i64 0] 134)) := below_box _ _
          have hbwA : Below w.heap.size w ((w4.drewN m).alloc (.cells #[.slice (some ⟨w.heap.size + 1, 0, none⟩) k k, .slice none 0 0, .int .i64 0] 134)) := hbn.trans (hbA.mono hbn.size)
          have hrowD : (w4.drewN m).ownsRow 0 65 2 (.slice (some ⟨w.heap.size + 1, 0, none⟩) k k) k (instrCells (more8 l)) := U HROW
          have hrA := ownsRow_alloc hrowD (.cells #[.slice (some ⟨w.heap.size + 1, 0, none⟩) k k, .slice none 0 0, .int .i64 0] 134)
          have hrA' : ((w4.drewN m).alloc (.cells #[.slice (some ⟨w.heap.size + 1, 0, none⟩) k k, .slice none 0 0, .int .i64 0] 134)).ownsRow 0 65 2 (.slice (some ⟨w.heap.size + 1, 0, none⟩) k k) (more8 l).length (instrCells (more8 l)) := by
            rw [more8_len, ← U HN]; exact hrA
          have hldA : Loaded w l en ce ((w4.drewN m).alloc (.cells #[.slice (some ⟨w.heap.size + 1, 0, none⟩) k k, .slice none 0 0, .int .i64 0] 134)) (.pointer po) (.pointer po') er := ((U HLD).longer (below_drawn (Below.refl _ _) m)).longer hbA
          have HK := V (keepL_any B bw ps hs vp vh w4.heap.size 0 (.slice (some ⟨w.heap.size + 1, 0, none⟩) k k) (.slice none 0 0) (more8 l) [] _ (hl4.alloc _) hblk hrA' (World.ownsRow_nil _ _ _ _) (by rw [more8_len]; omega) (by simp) (by omega))
          have HL4 := V (hl4.alloc (.cells #[.slice (some ⟨w.heap.size + 1, 0, none⟩) k k, .slice none 0 0, .int .i64 0] 134))
          have HBLK := V hblk
          have HRA := V hrA
          have HLDA := V hldA
          have HBWA := V hbwA
          have hw4 : w.heap.size ≤ w4.heap.size := hbw4.size
          clear hbw4 hl4 hbn hblk hbA hbwA hrowD hrA hrA' hldA hsz4 q4 q5 q6
          go_wp2_with fail
          refine (U HK).mono ?_
          rintro e w5 ⟨rfl, gl, qg, vig, vng, vh5, hkp⟩
          have hvi : ∀ j, (Value.slice (some ⟨w.heap.size + 1, 0, none⟩) k k).ownBlock = some j → w.heap.size ≤ j := fun j hj => by simp [Value.ownBlock] at hj; omega
          have hnil : ∀ j, (Value.slice none 0 0).ownBlock = some j → w.heap.size ≤ j := fun j hj => by simp [Value.ownBlock] at hj
          obtain ⟨hlaw5, hbB5⟩ := hkp.law (w := w) (U HL4) (LawStill.ofBelow (U HBWA)) ((U HBWA).mono hBw) hBw hw4 hvi hnil
          have hh5 := hkp.holds (U HL4) ((U HH).free (LawStill.ofBelow (U HBWA)) hw4 hvi hnil) (U HBLK) (U HRA) (World.ownsRow_nil _ _ _ _)
          have hld5 := (U HLDA).kept hkp (U HL4) (U HBLK) (U HRA)
          have hl5 := hkp.lw
          have hlen5 : (hs ++ gl).length ≤ hs.length + 8 := by simp [hkp.len]
          rcases U HPO with ⟨rfl, rfl⟩ | ⟨c', p', rfl, rfl, hyes⟩
          · have HFIN : Hid (StepPost prg3 B w bw hs w5) := ⟨ps, hs ++ gl, vp, vh5, hl5, (U HP).law hlaw5, hh5, hlen5, hlaw5, hbB5⟩
            clear hkp hlaw5 hbB5 hh5 hld5 hl5 HK
            go_wp2_with fail
            go_ret
            exact ⟨rfl, U HFIN⟩
          · have hq6 := Blk.new w5 #[.pointer (some ⟨c', 0, none⟩), .pointer (some ⟨p', 0, none⟩), .bool false, .bool false] 129
            have hb6 : Below w5.heap.size w5 (w5.alloc (.cells #[.pointer (some ⟨c', 0, none⟩), .pointer (some ⟨p', 0, none⟩), .bool false, .bool false] 129)) := below_box _ _
            have hpl := (hld5.longer hb6).player hyes (U HI) hq6
            have HPL := V hpl
            have HAD := V (add_any B bw ps (hs ++ gl) vp vh5 w5.heap.size _ (hl5.alloc (.cells #[.pointer (some ⟨c', 0, none⟩), .pointer (some ⟨p', 0, none⟩), .bool false, .bool false] 129)))
            have hlaw6 : LawStill w (w5.alloc (.cells #[.pointer (some ⟨c', 0, none⟩), .pointer (some ⟨p', 0, none⟩), .bool false, .bool false] 129)) := hlaw5.trans (LawStill.ofBelow hb6)
            have hB5 : B ≤ w5.heap.size := by have := hbB5.size; omega
            have hbB6 : Below B w (w5.alloc (.cells #[.pointer (some ⟨c', 0, none⟩), .pointer (some ⟨p', 0, none⟩), .bool false, .bool false] 129)) := hbB5.trans (hb6.mono hB5)
            have hh6 := hh5.law (LawStill.ofBelow hb6)
            have HLAW6 := V hlaw6
            have HBB6 := V hbB6
            have HH6 := V hh6
            have HLEN := V hlen5
            clear hkp hlaw5 hbB5 hh5 hld5 hl5 hq6 hb6 hpl hlaw6 hbB6 hh6 hlen5 HK
            go_wp2_with fail
            refine (U HAD).mono ?_
            rintro e w7 ⟨rfl, ps', vp', hps, hl7, hlaw7, hb7⟩
            have HL7 := V hl7
            have HLAW7 := V hlaw7
            have HB7 := V hb7
            have HPS := V hps
            clear hl7 hlaw7 hb7 hps HAD
            go_wp2_with fail
            go_ret
            have hlaw : LawStill w w7 := (U HLAW6).trans (U HLAW7)
            refine ⟨rfl, ps', hs ++ gl, vp', vh5, U HL7, ?_, (U HH6).law (U HLAW7), U HLEN, hlaw, (U HBB6).trans (U HB7)⟩
            intro x hx
            rcases U HPS with e | e
            · rw [e] at hx
              exact ((U HP).law hlaw) x hx
            · rw [e] at hx
              rcases List.mem_append.1 hx with hx | hx
              · exact ((U HP).law hlaw) x hx
              · simp at hx
                subst hx
                exact (U HPL).law (U HLAW7)
end Go.Proofs.YtmeiikjpaepogaaGreatDoor
