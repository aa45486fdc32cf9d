/- The program's machine: dot. -/
import Derived.Test.YtmeiikjpaepogaaGreatDoorZ21
import Derived.Test.YtmeiikjpaepogaaGreatDoorZ02
import Derived.Test.YtmeiikjpaepogaaGreatDoorShelf
namespace Go.Proofs.YtmeiikjpaepogaaGreatDoor
open Go Go.RowKit

theorem digL_dec (f : Nat) : ∀ k, k < 10 ^ (f + 1) → digL (f + 1) k = Lib.decDigits k := by
  induction f with
  | zero =>
    intro k hk
    have h1 : k < 10 := by simpa using hk
    rw [digL_last _ _ (by omega), Lib.decDigits_one h1, digC, Nat.mod_eq_of_lt h1]
  | succ f ih =>
    intro k hk
    by_cases h : 10 ≤ k
    · rw [digL_step _ _ h, ih (k / 10) (by rw [Nat.pow_succ] at hk; omega), Lib.decDigits.eq_def k, dif_neg (by omega), digC]
    · rw [digL_last _ _ h, Lib.decDigits_one (by omega), digC, Nat.mod_eq_of_lt (by omega)]
theorem digits_itoa (n : Int) (h0 : -9223372036854775808 ≤ n) (h1 : n ≤ 9223372036854775807) : digitsS n = Lib.itoa n := by
  unfold digitsS Lib.itoa
  by_cases h : n < 0
  · rw [if_pos h, if_pos h, digL_dec 24 _ (by omega)]
  · rw [if_neg h, if_neg h, digL_dec 24 _ (by omega)]
    congr 1
    omega
/-- What dot lets out. -/
def dotB (n : Int) : ByteArray := ⟨(digitsS n).toArray⟩ ++ ⟨#[32]⟩
theorem dotB_size (n : Int) : (dotB n).size = (digitsS n).length + 1 := by
  unfold dotB; rw [ByteArray.size_append]; simp [ByteArray.size]
theorem dotB_cells (n : Int) : byteCells (dotB n) = Lib.byteCells (digitsS n) ++ [.int .u8 32] := by
  unfold dotB
  rw [byteCells_app]
  congr 1
  · unfold byteCells Lib.byteCells; rw [ByteArray.toList_eq]
  · unfold byteCells; rw [ByteArray.toList_eq]; rfl
theorem add_off0 (g j : Nat) : (⟨g, 0, none⟩ : Addr).add j = ⟨g, j, none⟩ := by
  by_cases h : j = 0 <;> simp [Addr.add, h]
theorem own_nil (w : World) (B : Nat) (e : TypeId) : w.ownsRow B e 1 (.slice none 0 0) 0 [] := ⟨rfl, Or.inl ⟨rfl, rfl⟩⟩

set_option maxRecDepth 100000 in
set_option maxHeartbeats 8000000 in
theorem dot_over (b : Nat) (w : World) (arg x0 x1 x2 : Int) (h0 : -9223372036854775808 ≤ x0) (h1 : x0 ≤ 9223372036854775807) (htab : Lib.TabBelow Tryz.prog w.heap.size w "internal/strconv.uint64pow10" .u64 Lib.pow10Tab) (er : Int) (R : World → Prop)
    (hput : ∀ (W : World) (g c : Nat), Below w.heap.size w W → BytesAt W g (dotB x0) → Calls Tryz.prog 168 #[.pointer (some ⟨b, 0, none⟩), .slice (some ⟨g, 0, none⟩) (dotB x0).size c] W (fun e w' => e = .returned (.int .i64 er) ∧ R w')) :
    Calls Tryz.prog 122 #[.pointer (some ⟨b, 0, none⟩), .int .i64 arg, .agg #[.int .i64 x0, .int .i64 x1, .int .i64 x2]] w (fun e w' => e = .returned (.int .i64 er) ∧ R w') := by
  obtain ⟨i0, hi, hz0, hz1, hz2⟩ := info_parts Tryz.infoByte
  have hb := below_box w (.cells #[.int .i64 x0, .int .i64 x1, .int .i64 x2] 171)
  have htab1 : Lib.TabBelow Tryz.prog (w.alloc (.cells #[.int .i64 x0, .int .i64 x1, .int .i64 x2] 171)).heap.size (w.alloc (.cells #[.int .i64 x0, .int .i64 x1, .int .i64 x2] 171)) "internal/strconv.uint64pow10" .u64 Lib.pow10Tab := fun w' h' => htab w' (hb.trans (h'.mono (by simp)))
  have HA := V (Tryz.strconv_AppendInt_10 _ 0 x0 h0 h1 (.slice none 0 0) [] _ (own_nil _ _ _) (Nat.le_refl _) (by omega) htab1)
  rw [← digits_itoa x0 h0 h1] at HA
  have hdl := digits_le x0
  have HB := V hb
  have HP := V hput
  have hdc := dotB_cells x0
  have hds := dotB_size x0
  have HDC := V hdc
  have HDS := V hds
  clear hb htab htab1 hput hdc hds
  generalize hD : digitsS x0 = D at *
  have HD := V hD
  clear hD
  go_enter Tryz.func122, Tryz.ntmps122
  go_wp2_with fail
  refine (U HA).mono ?_
  rintro e w1 ⟨v1, rfl, ho1, hb1, _⟩
  rw [Nat.zero_add, List.nil_append, size_up'] at ho1
  rw [size_up'] at hb1
  obtain ⟨a1, c1, hv1⟩ := own_shape ho1
  subst hv1
  have hbA := hb1.alloc (by have := hb1.size; rw [size_up'] at this; exact this) (.cells #[.int .u8 32] 5)
  have hoA : (w1.alloc (.cells #[.int .u8 32] 5)).ownsRow (w.heap.size + 1) 5 1 (.slice a1 D.length c1) D.length (Lib.byteCells D) := ownsRow_of_block ho1 (fun k _ hk => (below_box w1 (.cells #[.int .u8 32] 5)).block k hk)
  have hszA : w.heap.size + 1 ≤ (w1.alloc (.cells #[.int .u8 32] 5)).heap.size := by have := hbA.size; rw [size_up'] at this; exact this
  have HO := V hoA
  have HBA := V hbA
  have HSZ := V hszA
  have HN := V (Blk.new w1 #[.int .u8 32] 5)
  clear ho1 hb1 hbA hoA HA hszA
  go_wp2_with (at_builtin; refine wpList_append_own_at _ rfl (.tmp 10) (.tmp 11) 86 rfl (w.heap.size + 1) 5 i0 _ 1 1 Tryz.underlying86 hi hz0 hz1 hz2 rfl (by decide) (.slice a1 D.length c1) D.length (Lib.byteCells D) (by simp [Act.eval]) (U HO) ⟨w1.heap.size, 0, none⟩ 1 1 [.int .u8 32] (by simp [Act.eval]) rfl (World.news_of_block (U HN)) (by simp [Value.oneCell']) (by unfold maxLen; omega) (by omega) (U HSZ) ?_; intro v5 w5 hown hgrow _ hat; obtain ⟨g5, c5, hv5, _⟩ := hown.form (by omega); subst hv5; have hb5 := (U HBA).grown hgrow (U HSZ) (fun k hk => (ownsRow_lt (U HO) hk).2); have HOW := V hown; have HB5 := V hb5; clear hown hgrow hat hb5)
  have hbw : Below w.heap.size w w5 := (U HB).trans ((U HB5).mono (by omega))
  have hat5 : BytesAt w5 g5 (dotB x0) := by
    intro j u hj
    rw [U HDC] at hj
    have hjl := (List.getElem?_eq_some_iff.1 hj).1
    rw [List.length_append, Lib.byteCells_length] at hjl
    rw [add_off0]
    rw [own_cell (U HOW) j (by simp at hjl; omega), hj]
  have HC := V (U HP w5 g5 c5 hbw hat5)
  rw [U HDS] at HC
  clear hbw hat5 HP
  go_wp2_with fail
  refine (U HC).mono ?_
  rintro e w6 ⟨rfl, h6⟩
  have H6 := V h6
  clear h6 HC
  go_wp2_with fail
  go_ret
  exact ⟨rfl, U H6⟩

theorem deed_dot (B b tb : Nat) (vl : Value) (m : MS) (st : Int) (w : World) (h : PmE B w b tb vl m st) (arg x0 x1 x2 : Int) (h0 : -9223372036854775808 ≤ x0) (h1 : x0 ≤ 9223372036854775807) (htab : Lib.TabBelow Tryz.prog B w "internal/strconv.uint64pow10" .u64 Lib.pow10Tab) (hs : m.out.size ≤ 1000) (hq : (m.out.size : Int) + (digitsS x0).length + 1 ≤ m.lo) :
    Calls Tryz.prog 122 #[.pointer (some ⟨b, 0, none⟩), .int .i64 arg, .agg #[.int .i64 x0, .int .i64 x1, .int .i64 x2]] w (DeedPost B w b tb vl st { m with out := m.out ++ dotB x0 } 0) := by
  have hds := dotB_size x0
  have hdl := digits_le x0
  refine dot_over b w arg x0 x1 x2 h0 h1 (fun w' h' => htab w' (h'.mono h.size)) 0 _ ?_
  intro W g c hb hat
  refine (pmPut_any B b tb vl m st W (h.below hb) g c (dotB x0) hat (by omega) hs (by omega)).mono ?_
  rintro e w' ⟨rfl, h1⟩
  exact ⟨rfl, (PmPost.deed hb h.size h1).2⟩
theorem deed_dot_no (B b tb : Nat) (vl : Value) (m : MS) (st : Int) (w : World) (h : PmE B w b tb vl m st) (arg x0 x1 x2 : Int) (h0 : -9223372036854775808 ≤ x0) (h1 : x0 ≤ 9223372036854775807) (htab : Lib.TabBelow Tryz.prog B w "internal/strconv.uint64pow10" .u64 Lib.pow10Tab) (hs : m.out.size ≤ 1000) (hq : m.lo < (m.out.size : Int) + (digitsS x0).length + 1) :
    Calls Tryz.prog 122 #[.pointer (some ⟨b, 0, none⟩), .int .i64 arg, .agg #[.int .i64 x0, .int .i64 x1, .int .i64 x2]] w (DeedPost B w b tb vl st m 14) := by
  have hds := dotB_size x0
  have hdl := digits_le x0
  refine dot_over b w arg x0 x1 x2 h0 h1 (fun w' h' => htab w' (h'.mono h.size)) 14 _ ?_
  intro W g c hb hat
  refine (pmPut_no B b tb vl m st W (h.below hb) (some ⟨g, 0, none⟩) (dotB x0).size c (by omega) hs (by omega)).mono ?_
  rintro e w' ⟨rfl, h1⟩
  exact ⟨rfl, (DeedPost.no (er := 14) (hb.trans (h1.mono hb.size)) h).2⟩
theorem step_callv {P : Program} {ops : Array Oper} {o : Oper} {a : Act} {w : World} {K : Act → World → Prop} {Q : Exit → Act → World → Prop} {E : Prop} (hgd : o.guard = none) (t : Operand) (args : Array Operand) (tys : Array TypeId)
    (ho : o.op = .call { callee := .value t, args := args, argTypes := tys }) (F : FuncId) (cap : Array Value) (ht : a.eval t = .func (.func F) #[] cap) (vals : Array Value) (hvals : args.map a.eval ++ cap = vals) (hrun : (callFunc F vals).run P w = .ok (.enter F vals) w) {R : Ending → World → Prop} (d : Tmp) (hd : o.dst = some d) (hc : Calls P F vals w R)
    (h : ∀ e w', R e w' → ∃ v, e = .returned v ∧ K (a.put (some d) v) w') :
    if Region.wanted o (yielded ops a.tmps) = true then Oper.wp P o a w K Q else E := by
  rw [← hd] at h
  have hw : Region.wanted o (yielded ops a.tmps) = true := by simp [Region.wanted, hgd]
  rw [if_pos hw]
  subst hvals
  have he : execOp a.eval o = callFunc F (args.map a.eval ++ cap) := by
    cases o with
    | mk dst op type pos after guard =>
      simp only at ho
      subst ho
      simp [execOp, resolve, Deferred.ofValue, ht, invoke]
  unfold Oper.wp
  rw [he, hrun]
  show Calls P F (args.map a.eval ++ cap) w _
  refine hc.mono ?_
  intro e w' hr
  obtain ⟨v, rfl, hk⟩ := h e w' hr
  exact hk

set_option maxRecDepth 100000 in
set_option maxHeartbeats 8000000 in
theorem pmDo_no (B b tb : Nat) (vl : Value) (m : MS) (st : Int) (w : World) (h : PmE B w b tb vl m st) (op : Nat) (arg : Int) (hop : op < 60) (htb : tb < w.heap.size) (t1 g1 t2 g2 : Int) (f : Value) (hE : EntryAt w tb (op * 5) t1 g1 t2 g2 f) (ht : (0 ≤ t1 ∧ t1 ≤ 10) ∧ (0 ≤ g1 ∧ g1 ≤ 10) ∧ (0 ≤ t2 ∧ t2 ≤ 10) ∧ (0 ≤ g2 ∧ g2 ≤ 10)) (hs : m.stack.length ≤ 1000 ∧ m.side.length ≤ 1000) (hc0 : chkS m t1 g1 t2 g2 ≠ 0) :
    Calls Tryz.prog 124 #[.pointer (some ⟨b, 0, none⟩), .agg #[.int .i64 op, .int .i64 arg]] w (DeedPost B w b tb vl st m (chkS m t1 g1 t2 g2)) := by
  have hb := below_drew' (below_box w (.cells #[.int .i64 op, .int .i64 arg] 65))
  have HC := V (pmCheck_any B b tb (op * 5) vl m st _ (h.below hb) t1 g1 t2 g2 f (hE.below hb htb) ht hs)
  obtain ⟨vS, vA, vC, vE, vO, hp⟩ := h
  have hc := hp.blk.cell
  unfold pmArr at hc
  have hbl := hp.blk.lt
  have HH : Hid (PmE B w b tb vl m st) := ⟨_, _, _, _, _, hp⟩
  have HB := V hb
  have hopI : (op : Int) < 60 := by omega
  have hop0 : (0 : Int) ≤ op := by omega
  clear hp hb hE
  generalize chkS m t1 g1 t2 g2 = r at *
  go_enter Tryz.func124, Tryz.ntmps124
  go_wp2_with fail
  go_region
  go_wp2_with fail
  refine (U HC).mono ?_
  rintro e w1 ⟨rfl, hb1⟩
  have H1 := V hb1
  clear hb1 HC
  go_wp2_with fail
  go_ret
  exact DeedPost.no ((U HB).trans ((U H1).mono (U HB).size)) (U HH)
/-- What do has done up to the operator's function: the values are taken, and lie in a box. -/
def DoPost (B : Nat) (w : World) (b tb : Nat) (vl : Value) (st : Int) (m' : MS) (er : Int) (r : List Int) (e : Ending) (w' : World) : Prop :=
  if er = 0 then DeedPost B w b tb vl st m' 0 e w' else DeedPost B w b tb vl st { m' with stack := m'.stack ++ r } er e w'

theorem nums_three (w : World) (q : Nat) (r : List Int) (hr : r.length ≤ 3) (h : Blk w q #[.int .i64 (nth r 0), .int .i64 (nth r 1), .int .i64 (nth r 2)] 171) : NumsAt w q r := by
  intro j u hj
  rw [add_off0, h.cell]
  match r, hr with
  | [], _ => simp [intCells] at hj
  | [a], _ =>
    match j with
    | 0 => simpa [intCells, nth] using hj
    | j + 1 => simp [intCells] at hj
  | [a, b], _ =>
    match j with
    | 0 => simpa [intCells, nth] using hj
    | 1 => simpa [intCells, nth] using hj
    | j + 2 => simp [intCells] at hj
  | [a, b, c], _ =>
    match j with
    | 0 => simpa [intCells, nth] using hj
    | 1 => simpa [intCells, nth] using hj
    | 2 => simpa [intCells, nth] using hj
    | j + 3 => simp [intCells] at hj
  | _ :: _ :: _ :: _ :: _, h => simp at h

/-- How things stand behind the operator's function. -/
structure DoneAt (B : Nat) (w : World) (b tb : Nat) (vl : Value) (st : Int) (m' : MS) (op : Nat) (arg : Int) (f : Value) (q : Nat) (y0 y1 y2 : Int) (w' : World) : Prop where
  pm : PmE B w' b tb vl m' st
  keep : KeepB w w'
  below : Below B w w'
  box : Blk w' q #[.int .i64 y0, .int .i64 y1, .int .i64 y2] 171
  ins : Blk w' w.heap.size #[.int .i64 op, .int .i64 arg] 65
  cell : w'.cell? ⟨tb, op * 5 + 4, none⟩ = some f
theorem DoneAt.s {B : Nat} {w : World} {b tb : Nat} {vl : Value} {st : Int} {m' : MS} {op : Nat} {arg : Int} {f : Value} {q : Nat} {y0 y1 y2 : Int} {w' : World} (h : DoneAt B w b tb vl st m' op arg f q y0 y1 y2 w') : w'.cell? ⟨tb, op * 5 + 4, none⟩ = some f ∧ w'.cell? ⟨w.heap.size, 1, none⟩ = some (.int .i64 arg) ∧ w'.cell? ⟨q, 0, none⟩ = some (.int .i64 y0) ∧ w'.cell? ⟨q, 1, none⟩ = some (.int .i64 y1) ∧ w'.cell? ⟨q, 2, none⟩ = some (.int .i64 y2) :=
  ⟨h.cell, h.ins.cell 1, h.box.cell 0, h.box.cell 1, h.box.cell 2⟩

set_option maxRecDepth 100000 in
set_option maxHeartbeats 8000000 in
theorem pmDo_over (B b tb : Nat) (vl : Value) (m : MS) (st : Int) (w : World) (h : PmE B w b tb vl m st) (op : Nat) (arg : Int) (hop : op < 60) (htb : tb < B) (g1 t2 g2 : Int) (F : FuncId) (cap : Array Value) (l r : List Int) (hE : EntryAt w tb (op * 5) r.length g1 t2 g2 (.func (.func F) #[] cap)) (ht : (0 ≤ g1 ∧ g1 ≤ 10) ∧ (0 ≤ t2 ∧ t2 ≤ 10) ∧ (0 ≤ g2 ∧ g2 ≤ 10)) (hs : m.stack.length ≤ 1000 ∧ m.side.length ≤ 1000) (hc0 : chkS m r.length g1 t2 g2 = 0)
    (hst : m.stack = l ++ r) (hr : r.length ≤ 3) {fn : Func} (hfn : Tryz.prog.funcs[F]? = some fn) (hfa : (fn.name == "runtime.NumGoroutine") = false) (hfb : fn.body.isNone = false) (m' : MS) (er : Int) (hm' : m'.stack.length ≤ 2000)
    (hdeed : ∀ W : World, PmE B W b tb vl { m with stack := l } st → Below B w W → Calls Tryz.prog F (#[.pointer (some ⟨b, 0, none⟩), .int .i64 arg, .agg #[.int .i64 (nth r 0), .int .i64 (nth r 1), .int .i64 (nth r 2)]] ++ cap) W (DeedPost B W b tb vl st m' er)) :
    Calls Tryz.prog 124 #[.pointer (some ⟨b, 0, none⟩), .agg #[.int .i64 op, .int .i64 arg]] w (DoPost B w b tb vl st m' er r) := by
  have hB := h.size
  have hb := below_drew' (below_box w (.cells #[.int .i64 op, .int .i64 arg] 65))
  have hnew := (Blk.new w #[.int .i64 op, .int .i64 arg] 65).drew
  have HC := V (pmCheck_any B b tb (op * 5) vl m st _ (h.below hb) r.length g1 t2 g2 _ (hE.below hb (by omega)) ⟨by omega, ht⟩ hs)
  rw [hc0] at HC
  have HRUN : Hid (∀ (args : Array Value) (W : World), (callFunc F args).run Tryz.prog W = .ok (.enter F args) W) := enter_func hfn hfa hfb
  have HD := V hdeed
  have HH := V h
  obtain ⟨vS, vA, vC, vE, vO, hp⟩ := h
  have hc := hp.blk.cell
  unfold pmArr at hc
  have hbl := hp.blk.lt
  have HB := V hb
  have HN := V hnew
  have HE := V hE
  have HST := V hst
  have hopI : (op : Int) < 60 := by omega
  have hop0 : (0 : Int) ≤ op := by omega
  clear hp hb hE hc0 hfn hfa hfb hdeed hnew hst
  have hr3 : (r.length : Int) ≤ 3 := by omega
  generalize hrn : r.length = rn at *
  have HRN := V hrn
  clear hrn
  go_enter Tryz.func124, Tryz.ntmps124
  go_wp2_with fail
  go_region
  go_wp2_with fail
  refine (U HC).mono ?_
  rintro e w1 ⟨rfl, hb1⟩
  have hb01 : Below w.heap.size w w1 := (U HB).trans (hb1.mono (U HB).size)
  have hE1 := (U HE).below hb01 (by omega)
  have hbx1 := (U HN).below hb1 (U HN).lt
  have HT := V (pmTake_any B b tb vl m st w1 ((U HH).below hb01) l r (U HST) (by rw [U HRN]; omega) hs.1)
  rw [U HRN] at HT
  obtain ⟨e0, e1, e2, e3, e4, etw⟩ := hE1
  have HB01 := V hb01
  have HBX := V hbx1
  clear hb1 hb01 hbx1 HC hc
  go_wp2_with fail
  refine (U HT).mono ?_
  rintro e w2 ⟨rfl, hm2, hk2, hb2⟩
  have hbw2 : Below B w w2 := ((U HB01).mono hB).trans hb2
  have hE2 := (U HE).below hbw2 htb
  have hbx2 := hk2 _ _ _ (U HBX) (Or.inr rfl)
  have hcx := hbx2.cell
  have hlx := hbx2.lt
  obtain ⟨f0, f1, f2, f3, f4, ftw⟩ := hE2
  have hnb := Blk.new w2 #[.int .i64 (nth r 0), .int .i64 (nth r 1), .int .i64 (nth r 2)] 171
  have hbn := below_box w2 (.cells #[.int .i64 (nth r 0), .int .i64 (nth r 1), .int .i64 (nth r 2)] 171)
  have hm3 := hm2.below hbn
  have hk3 : KeepB w (w2.alloc (.cells #[.int .i64 (nth r 0), .int .i64 (nth r 1), .int .i64 (nth r 2)] 171)) := (KeepB.ofBelow (U HB01)).trans (hk2.trans (KeepB.ofBelow hbn))
  have hb3 : Below B w (w2.alloc (.cells #[.int .i64 (nth r 0), .int .i64 (nth r 1), .int .i64 (nth r 2)] 171)) := hbw2.trans (hbn.mono hm2.size)
  have HR3 := V (U HRUN (#[.pointer (some ⟨b, 0, none⟩), .int .i64 arg, .agg #[.int .i64 (nth r 0), .int .i64 (nth r 1), .int .i64 (nth r 2)]] ++ cap) (w2.alloc (.cells #[.int .i64 (nth r 0), .int .i64 (nth r 1), .int .i64 (nth r 2)] 171)).drew)
  have hdr : Below w2.heap.size w2 (w2.alloc (.cells #[.int .i64 (nth r 0), .int .i64 (nth r 1), .int .i64 (nth r 2)] 171)).drew := below_drew' hbn
  have hat0 : DoneAt B w b tb vl st { m with stack := l } op arg (.func (.func F) #[] cap) w2.heap.size (nth r 0) (nth r 1) (nth r 2) (w2.alloc (.cells #[.int .i64 (nth r 0), .int .i64 (nth r 1), .int .i64 (nth r 2)] 171)).drew :=
    ⟨hm3.below (below_drew' (Below.refl _ _)), hk3.trans (KeepB.ofBelow (below_drew' (Below.refl _ _))), below_drew' hb3, hnb.drew, hbx2.below hdr hlx, by rw [hdr.cell (by simpa using ftw)]; exact f4⟩
  have HD3 : Hid (Calls Tryz.prog F (#[.pointer (some ⟨b, 0, none⟩), .int .i64 arg, .agg #[.int .i64 (nth r 0), .int .i64 (nth r 1), .int .i64 (nth r 2)]] ++ cap) (w2.alloc (.cells #[.int .i64 (nth r 0), .int .i64 (nth r 1), .int .i64 (nth r 2)] 171)).drew (fun e w' => e = .returned (.int .i64 er) ∧ DoneAt B w b tb vl st m' op arg (.func (.func F) #[] cap) w2.heap.size (nth r 0) (nth r 1) (nth r 2) w')) := by
    refine (U HD _ hat0.pm hat0.below).mono ?_
    rintro e w' ⟨he, k1, k2, k3⟩
    exact ⟨he, k1, hat0.keep.trans k2, hat0.below.trans k3, k2 _ _ _ hat0.box (Or.inl rfl), k2 _ _ _ hat0.ins (Or.inr rfl), by rw [k3.cell (by simpa using htb)]; exact hat0.cell⟩
  have HS0 := V hat0.s
  clear hm2 hk2 hb2 hbw2 hbx2 hnb hbn hm3 hk3 hb3 hdr hat0 HT e0 e1 e2 e3 e4 etw HD HRUN HBX
  generalize hy0 : nth r 0 = y0 at *
  generalize hy1 : nth r 1 = y1 at *
  generalize hy2 : nth r 2 = y2 at *
  have HY := V (And.intro hy0 (And.intro hy1 hy2))
  clear hy0 hy1 hy2
  go_wp2_with fail
  go_cut [8] from 30 to 50 (fun s8 wc => s8 = .int .i64 er ∧ DoneAt B w b tb vl st m' op arg (.func (.func F) #[] cap) w2.heap.size y0 y1 y2 wc)
  case first =>
    go_region_held_law (fun w' => w'.cell? ⟨tb, op * 5 + 4, none⟩ = some (.func (.func F) #[] cap) ∧ w'.cell? ⟨w.heap.size, 1, none⟩ = some (.int .i64 arg) ∧ w'.cell? ⟨w2.heap.size, 0, none⟩ = some (.int .i64 y0) ∧ w'.cell? ⟨w2.heap.size, 1, none⟩ = some (.int .i64 y1) ∧ w'.cell? ⟨w2.heap.size, 2, none⟩ = some (.int .i64 y2)) (first | exact U HS4 | exact U HS0) ((refine step_callv rfl (.tmp 33) #[.tmp 34, .tmp 36, .tmp 37] #[118, 2, 171] rfl F cap (by simp [Act.eval]) (#[.pointer (some ⟨b, 0, none⟩), .int .i64 arg, .agg #[.int .i64 y0, .int .i64 y1, .int .i64 y2]] ++ cap) (by simp [Act.eval]) (by exact U HR3) (R := fun e w' => e = .returned (.int .i64 er) ∧ DoneAt B w b tb vl st m' op arg (.func (.func F) #[] cap) w2.heap.size y0 y1 y2 w') 38 rfl (by exact U HD3) ?_; rintro e w4 ⟨rfl, hd4⟩; have HS4 := V hd4.s; have HM4 := V hd4; clear hd4; refine ⟨_, rfl, ?_⟩))
    all_goals
      go_wp2_with fail
      go_meet
      refine ⟨?_, U HM4⟩
      first | rfl | (simp [Act.eval, Act.put]; done) | (simp; done)
  case rest =>
    obtain ⟨rfl, hd⟩ := hcut
    clear HS0 HR3 HD3 f0 f1 f2 f3 f4 hcx
    have hEc := (U HE).below hd.below htb
    obtain ⟨f0, f1, f2, f3, f4, ftc⟩ := hEc
    have hqc := hd.box.lt
    obtain ⟨hy0, hy1, hy2⟩ := U HY
    have HPU := V (pmPush_any B b tb vl m' st wc hd.pm w2.heap.size rn 3 r (U HRN) (nums_three _ _ _ (by rw [U HRN]; exact hr) (by rw [hy0, hy1, hy2]; exact hd.box)) ⟨hm', by omega⟩)
    have HDN := V hd
    clear hd hy0 hy1 hy2
    have hrn0 : (0 : Int) ≤ rn := by omega
    have hrn3 : rn ≤ 3 := hr
    by_cases he : er = 0
    · subst he
      go_wp2_with fail
      go_ret
      unfold DoPost
      rw [if_pos rfl]
      exact ⟨rfl, (U HDN).pm, (U HDN).keep, (U HDN).below⟩
    · have he' : (er == 0) = false := by simpa using he
      go_wp2_with fail
      refine (U HPU).mono ?_
      rintro e w5 ⟨rfl, h5⟩
      have H5 := V h5
      clear h5 HPU
      go_wp2_with fail
      go_ret
      obtain ⟨k1, k2, k3⟩ := U H5
      unfold DoPost
      rw [if_neg he]
      exact ⟨rfl, k1, (U HDN).keep.trans k2, (U HDN).below.trans k3⟩
/-- What an operator takes and gives, on the stack and aside. -/
def entTab : List (Nat × Nat × Nat × Nat) :=
  [(0, 1, 0, 0), (0, 0, 0, 0), (1, 0, 0, 0), (0, 0, 0, 0), (0, 0, 0, 0), (0, 0, 0, 0), (2, 0, 0, 2), (0, 0, 2, 2), (0, 1, 1, 1),
   (2, 1, 0, 0), (2, 1, 0, 0), (2, 1, 0, 0), (2, 1, 0, 0), (2, 1, 0, 0), (2, 1, 0, 0), (2, 1, 0, 0), (2, 1, 0, 0),
   (1, 1, 0, 0), (1, 1, 0, 0), (2, 1, 0, 0), (2, 1, 0, 0),
   (1, 2, 0, 0), (1, 0, 0, 0), (2, 2, 0, 0), (2, 3, 0, 0), (3, 3, 0, 0),
   (1, 0, 0, 1), (0, 1, 1, 0), (0, 1, 1, 1), (2, 0, 0, 0), (1, 1, 0, 0), (1, 0, 0, 0), (1, 0, 0, 0)]
def entS (op : Nat) : Nat × Nat × Nat × Nat := entTab.getD op (0, 0, 0, 0)
theorem ent_needs (op : Nat) (h : op < 33) : needsS op = (((entS op).1 : Int), ((entS op).2.1 : Int) - (entS op).1) ∧ asideS op = (((entS op).2.2.1 : Int), ((entS op).2.2.2 : Int) - (entS op).2.2.1) := by
  have : ∀ k : Fin 33, needsS (k.val : Int) = (((entS k.val).1 : Int), ((entS k.val).2.1 : Int) - (entS k.val).1) ∧ asideS (k.val : Int) = (((entS k.val).2.2.1 : Int), ((entS k.val).2.2.2 : Int) - (entS k.val).2.2.1) := by decide
  exact this ⟨op, h⟩
theorem ent_small (op : Nat) (h : op < 33) : (entS op).1 ≤ 3 ∧ (entS op).2.1 ≤ 3 ∧ (entS op).2.2.1 ≤ 2 ∧ (entS op).2.2.2 ≤ 2 := by
  have : ∀ k : Fin 33, (entS k.val).1 ≤ 3 ∧ (entS k.val).2.1 ≤ 3 ∧ (entS k.val).2.2.1 ≤ 2 ∧ (entS k.val).2.2.2 ≤ 2 := by decide
  exact this ⟨op, h⟩

/-- The check finds the reference's first four errors. -/
theorem chk_refused (m : MS) (hm : MOk m) (op : Nat) (h : op < 33) : (chkS m (entS op).1 (entS op).2.1 (entS op).2.2.1 (entS op).2.2.2 ≠ 0 → refusedS m op = chkS m (entS op).1 (entS op).2.1 (entS op).2.2.1 (entS op).2.2.2) ∧
    (chkS m (entS op).1 (entS op).2.1 (entS op).2.2.1 (entS op).2.2.2 = 0 → ((entS op).1 : Int) ≤ m.stack.length ∧ ((entS op).2.2.1 : Int) ≤ m.side.length ∧ (m.stack.length : Int) - (entS op).1 + (entS op).2.1 ≤ m.ls ∧ (m.side.length : Int) - (entS op).2.2.1 + (entS op).2.2.2 ≤ m.la) := by
  obtain ⟨e1, e2⟩ := ent_needs op h
  have s1 := hm.stack
  have s2 := hm.side
  unfold chkS refusedS
  rw [e1, e2]
  generalize (entS op).1 = t1
  generalize (entS op).2.1 = g1
  generalize (entS op).2.2.1 = t2
  generalize (entS op).2.2.2 = g2
  simp only
  by_cases c1 : (m.stack.length : Int) < t1
  · rw [if_pos c1, if_pos c1]
    exact ⟨fun _ => rfl, fun e => by omega⟩
  rw [if_neg c1, if_neg c1]
  by_cases c2 : m.ls < (m.stack.length : Int) - t1 + g1
  · have p2 : 0 < (g1 : Int) - t1 ∧ m.ls < (m.stack.length : Int) + ((g1 : Int) - t1) := by omega
    rw [if_pos c2, if_pos p2]
    exact ⟨fun _ => rfl, fun e => by omega⟩
  have n2 : ¬ (0 < (g1 : Int) - t1 ∧ m.ls < (m.stack.length : Int) + ((g1 : Int) - t1)) := by omega
  rw [if_neg c2, if_neg n2]
  by_cases c3 : (m.side.length : Int) < t2
  · rw [if_pos c3, if_pos c3]
    exact ⟨fun _ => rfl, fun e => by omega⟩
  rw [if_neg c3, if_neg c3]
  by_cases c4 : m.la < (m.side.length : Int) - t2 + g2
  · have p4 : 0 < (g2 : Int) - t2 ∧ m.la < (m.side.length : Int) + ((g2 : Int) - t2) := by omega
    rw [if_pos c4, if_pos p4]
    exact ⟨fun _ => rfl, fun e => by omega⟩
  have n4 : ¬ (0 < (g2 : Int) - t2 ∧ m.la < (m.side.length : Int) + ((g2 : Int) - t2)) := by omega
  rw [if_neg c4, if_neg n4]
  exact ⟨fun e => absurd rfl e, fun _ => ⟨by omega, by omega, by omega, by omega⟩⟩
/-- What an operator's function must do: called with the values taken, it does what the reference does, or says the reference's error and leaves the rest. -/
def DeedSem (B : Nat) (w : World) (b tb : Nat) (op : Nat) (F : FuncId) (cap : Array Value) : Prop :=
  ∀ (W : World) (vl : Value) (m : MS) (st arg : Int) (l r : List Int), Below B w W → PmE B W b tb vl { m with stack := l } st → MOk m → inI arg → m.stack = l ++ r → r.length = (entS op).1 →
    chkS m (entS op).1 (entS op).2.1 (entS op).2.2.1 (entS op).2.2.2 = 0 →
    Calls Tryz.prog F (#[.pointer (some ⟨b, 0, none⟩), .int .i64 arg, .agg #[.int .i64 (nth r 0), .int .i64 (nth r 1), .int .i64 (nth r 2)]] ++ cap) W
      (DeedPost B W b tb vl st (if refusedS m op = 0 then doS m op arg else { m with stack := l }) (refusedS m op))
/-- A base operator's entry. -/
def EntryOk (B : Nat) (w : World) (b tb : Nat) (op : Nat) : Prop :=
  ∃ (F : FuncId) (cap : Array Value) (fn : Func), EntryAt w tb (op * 5) (entS op).1 (entS op).2.1 (entS op).2.2.1 (entS op).2.2.2 (.func (.func F) #[] cap) ∧
    Tryz.prog.funcs[F]? = some fn ∧ (fn.name == "runtime.NumGoroutine") = false ∧ fn.body.isNone = false ∧ DeedSem B w b tb op F cap

theorem do_base (B b tb : Nat) (vl : Value) (m : MS) (st : Int) (w w0 : World) (hw : Below B w0 w) (h : PmE B w b tb vl m st) (hm : MOk m) (op : Nat) (arg : Int) (hop : op < 33) (harg : inI arg) (htb : tb < B) (hE : EntryOk B w0 b tb op) (hlen : (doS m op arg).stack.length ≤ 2000) :
    Calls Tryz.prog 124 #[.pointer (some ⟨b, 0, none⟩), .agg #[.int .i64 op, .int .i64 arg]] w
      (DeedPost B w b tb vl st (if refusedS m op = 0 then doS m op arg else m) (refusedS m op)) := by
  obtain ⟨F, cap, fn, hat, h1, h2, h3, hsem⟩ := hE
  have hat' := hat.below hw htb
  obtain ⟨c1, c2⟩ := chk_refused m hm op hop
  obtain ⟨b1, b2, b3, b4⟩ := ent_small op hop
  have hl := hm.lims
  have hs := hm.stack
  have ha := hm.side
  have hB := h.size
  by_cases hc : chkS m (entS op).1 (entS op).2.1 (entS op).2.2.1 (entS op).2.2.2 = 0
  · obtain ⟨d1, d2, d3, d4⟩ := c2 hc
    have hsp : m.stack = m.stack.take (m.stack.length - (entS op).1) ++ m.stack.drop (m.stack.length - (entS op).1) := (List.take_append_drop _ _).symm
    have hrl : (m.stack.drop (m.stack.length - (entS op).1)).length = (entS op).1 := by rw [List.length_drop]; omega
    generalize m.stack.take (m.stack.length - (entS op).1) = l at hsp
    generalize m.stack.drop (m.stack.length - (entS op).1) = r at hsp hrl
    have hlr : m.stack.length = l.length + r.length := by rw [hsp]; simp
    have := pmDo_over B b tb vl m st w h op arg (by omega) htb (entS op).2.1 (entS op).2.2.1 (entS op).2.2.2 F cap l r (by rw [hrl]; exact hat') (by omega) (by omega) (by rw [hrl]; exact hc) hsp (by omega) h1 h2 h3 (if refusedS m op = 0 then doS m op arg else { m with stack := l }) (refusedS m op)
      (by split; exact hlen; simp only; omega)
      (fun W hW hb => hsem W vl m st arg l r (hw.trans hb) hW hm harg hsp hrl hc)
    refine this.mono ?_
    intro e w' hd
    unfold DoPost at hd
    by_cases h0 : refusedS m op = 0
    · rw [if_pos h0, if_pos h0] at hd
      rw [if_pos h0, h0]
      exact hd
    · rw [if_neg h0, if_neg h0] at hd
      rw [if_neg h0]
      have em : { m with stack := l ++ r } = m := by rw [← hsp]
      simp only at hd
      rw [em] at hd
      exact hd
  · have e1 := c1 hc
    have h0 : refusedS m op ≠ 0 := by rw [e1]; exact hc
    rw [if_neg h0, e1]
    exact pmDo_no B b tb vl m st w h op arg (by omega) (by omega) _ _ _ _ _ hat' (by omega) (by omega) hc
end Go.Proofs.YtmeiikjpaepogaaGreatDoor
