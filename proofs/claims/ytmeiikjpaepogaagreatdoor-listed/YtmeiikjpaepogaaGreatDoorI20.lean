/- The program's machine: do, over what an operator's function does. -/
import Derived.Test.YtmeiikjpaepogaaGreatDoorI19
import Derived.Test.YtmeiikjpaepogaaGreatDoorI02
import Derived.Test.YtmeiikjpaepogaaGreatDoorI05
import Derived.Test.YtmeiikjpaepogaaGreatDoorI18
namespace Go.Proofs.YtmeiikjpaepogaaGreatDoor
open Go Go.RowKit

theorem step_callv {P : Program} {ops : Array Oper} {o : Oper} {a : Act} {w : World} {K : Act → World → Prop} {Q : Exit → Act → World → Prop} {E : Prop} (hgd : o.guard = none) (t : Operand) (args : Array Operand) (tys : Array TypeId)
    (ho : o.op = .call { callee := .value t, args := args, argTypes := tys }) (F : FuncId) (cap : Array Value) (ht : a.eval t = .func (.func F) #[] cap) (vals : Array Value) (hvals : args.map a.eval ++ cap = vals) (hrun : (callFunc F vals).run P w = .ok (.enter F vals) w) {R : Ending → World → Prop} (d : Tmp) (hd : o.dst = some d) (hc : Calls P F vals w R)
    (h : ∀ e w', R e w' → ∃ v, e = .returned v ∧ K (a.put (some d) v) w') :
    if Region.wanted o (yielded ops a.tmps) = true then Oper.wp P o a w K Q else E := by
  rw [← hd] at h
  have hw : Region.wanted o (yielded ops a.tmps) = true := by simp [Region.wanted, hgd]
  rw [if_pos hw]
  subst hvals
  have he : execOp a.eval o = callFunc F (args.map a.eval ++ cap) := by
    cases o with
    | mk dst op type pos after guard =>
      simp only at ho
      subst ho
      simp [execOp, resolve, Deferred.ofValue, ht, invoke]
  unfold Oper.wp
  rw [he, hrun]
  show Calls P F (args.map a.eval ++ cap) w _
  refine hc.mono ?_
  intro e w' hr
  obtain ⟨v, rfl, hk⟩ := h e w' hr
  exact hk

set_option maxRecDepth 100000 in
set_option maxHeartbeats 8000000 in
theorem pmDo_no (B b tb : Nat) (vl : Value) (m : MS) (st : Int) (w : World) (h : PmE B w b tb vl m st) (op : Nat) (arg : Int) (hop : op < 60) (htb : tb < w.heap.size) (t1 g1 t2 g2 : Int) (f : Value) (hE : EntryAt w tb (op * 5) t1 g1 t2 g2 f) (ht : (0 ≤ t1 ∧ t1 ≤ 10) ∧ (0 ≤ g1 ∧ g1 ≤ 10) ∧ (0 ≤ t2 ∧ t2 ≤ 10) ∧ (0 ≤ g2 ∧ g2 ≤ 10)) (hs : m.stack.length ≤ 1000 ∧ m.side.length ≤ 1000) (hc0 : chkS m t1 g1 t2 g2 ≠ 0) :
    Calls Tryz.prog 124 #[.pointer (some ⟨b, 0, none⟩), .agg #[.int .i64 op, .int .i64 arg]] w (DeedPost B w b tb vl st m (chkS m t1 g1 t2 g2)) := by
  have hb := below_drew' (below_box w (.cells #[.int .i64 op, .int .i64 arg] 65))
  have HC := V (pmCheck_any B b tb (op * 5) vl m st _ (h.below hb) t1 g1 t2 g2 f (hE.below hb htb) ht hs)
  obtain ⟨vS, vA, vC, vE, vO, hp⟩ := h
  have hc := hp.blk.cell
  unfold pmArr at hc
  have hbl := hp.blk.lt
  have HH : Hid (PmE B w b tb vl m st) := ⟨_, _, _, _, _, hp⟩
  have HB := V hb
  have hopI : (op : Int) < 60 := by omega
  have hop0 : (0 : Int) ≤ op := by omega
  clear hp hb hE
  generalize chkS m t1 g1 t2 g2 = r at *
  go_enter Tryz.func124, Tryz.ntmps124
  go_wp2_with fail
  go_region
  go_wp2_with fail
  refine (U HC).mono ?_
  rintro e w1 ⟨rfl, hb1⟩
  have H1 := V hb1
  clear hb1 HC
  go_wp2_with fail
  go_ret
  exact DeedPost.no ((U HB).trans ((U H1).mono (U HB).size)) (U HH)
/-- What do has done up to the operator's function: the values are taken, and lie in a box. -/
def DoPost (B : Nat) (w : World) (b tb : Nat) (vl : Value) (st : Int) (m' : MS) (er : Int) (r : List Int) (e : Ending) (w' : World) : Prop :=
  if er = 0 then DeedPost B w b tb vl st m' 0 e w' else DeedPost B w b tb vl st { m' with stack := m'.stack ++ r } er e w'

theorem nums_three (w : World) (q : Nat) (r : List Int) (hr : r.length ≤ 3) (h : Blk w q #[.int .i64 (nth r 0), .int .i64 (nth r 1), .int .i64 (nth r 2)] 171) : NumsAt w q r := by
  intro j u hj
  rw [add_off0, h.cell]
  match r, hr with
  | [], _ => simp [intCells] at hj
  | [a], _ =>
    match j with
    | 0 => simpa [intCells, nth] using hj
    | j + 1 => simp [intCells] at hj
  | [a, b], _ =>
    match j with
    | 0 => simpa [intCells, nth] using hj
    | 1 => simpa [intCells, nth] using hj
    | j + 2 => simp [intCells] at hj
  | [a, b, c], _ =>
    match j with
    | 0 => simpa [intCells, nth] using hj
    | 1 => simpa [intCells, nth] using hj
    | 2 => simpa [intCells, nth] using hj
    | j + 3 => simp [intCells] at hj
  | _ :: _ :: _ :: _ :: _, h => simp at h

/-- How things stand behind the operator's function. -/
structure DoneAt (B : Nat) (w : World) (b tb : Nat) (vl : Value) (st : Int) (m' : MS) (op : Nat) (arg : Int) (f : Value) (q : Nat) (y0 y1 y2 : Int) (w' : World) : Prop where
  pm : PmE B w' b tb vl m' st
  keep : KeepB w w'
  below : Below B w w'
  box : Blk w' q #[.int .i64 y0, .int .i64 y1, .int .i64 y2] 171
  ins : Blk w' w.heap.size #[.int .i64 op, .int .i64 arg] 65
  cell : w'.cell? ⟨tb, op * 5 + 4, none⟩ = some f
theorem DoneAt.s {B : Nat} {w : World} {b tb : Nat} {vl : Value} {st : Int} {m' : MS} {op : Nat} {arg : Int} {f : Value} {q : Nat} {y0 y1 y2 : Int} {w' : World} (h : DoneAt B w b tb vl st m' op arg f q y0 y1 y2 w') : w'.cell? ⟨tb, op * 5 + 4, none⟩ = some f ∧ w'.cell? ⟨w.heap.size, 1, none⟩ = some (.int .i64 arg) ∧ w'.cell? ⟨q, 0, none⟩ = some (.int .i64 y0) ∧ w'.cell? ⟨q, 1, none⟩ = some (.int .i64 y1) ∧ w'.cell? ⟨q, 2, none⟩ = some (.int .i64 y2) :=
  ⟨h.cell, h.ins.cell 1, h.box.cell 0, h.box.cell 1, h.box.cell 2⟩

set_option maxRecDepth 100000 in
set_option maxHeartbeats 8000000 in
theorem pmDo_over (B b tb : Nat) (vl : Value) (m : MS) (st : Int) (w : World) (h : PmE B w b tb vl m st) (op : Nat) (arg : Int) (hop : op < 60) (htb : tb < B) (g1 t2 g2 : Int) (F : FuncId) (cap : Array Value) (l r : List Int) (hE : EntryAt w tb (op * 5) r.length g1 t2 g2 (.func (.func F) #[] cap)) (ht : (0 ≤ g1 ∧ g1 ≤ 10) ∧ (0 ≤ t2 ∧ t2 ≤ 10) ∧ (0 ≤ g2 ∧ g2 ≤ 10)) (hs : m.stack.length ≤ 1000 ∧ m.side.length ≤ 1000) (hc0 : chkS m r.length g1 t2 g2 = 0)
    (hst : m.stack = l ++ r) (hr : r.length ≤ 3) {fn : Func} (hfn : Tryz.prog.funcs[F]? = some fn) (hfa : (fn.name == "runtime.NumGoroutine") = false) (hfb : fn.body.isNone = false) (m' : MS) (er : Int) (hm' : m'.stack.length ≤ 2000)
    (hdeed : ∀ W : World, PmE B W b tb vl { m with stack := l } st → Below B w W → Calls Tryz.prog F (#[.pointer (some ⟨b, 0, none⟩), .int .i64 arg, .agg #[.int .i64 (nth r 0), .int .i64 (nth r 1), .int .i64 (nth r 2)]] ++ cap) W (DeedPost B W b tb vl st m' er)) :
    Calls Tryz.prog 124 #[.pointer (some ⟨b, 0, none⟩), .agg #[.int .i64 op, .int .i64 arg]] w (DoPost B w b tb vl st m' er r) := by
  have hB := h.size
  have hb := below_drew' (below_box w (.cells #[.int .i64 op, .int .i64 arg] 65))
  have hnew := (Blk.new w #[.int .i64 op, .int .i64 arg] 65).drew
  have HC := V (pmCheck_any B b tb (op * 5) vl m st _ (h.below hb) r.length g1 t2 g2 _ (hE.below hb (by omega)) ⟨by omega, ht⟩ hs)
  rw [hc0] at HC
  have HRUN : Hid (∀ (args : Array Value) (W : World), (callFunc F args).run Tryz.prog W = .ok (.enter F args) W) := enter_func hfn hfa hfb
  have HD := V hdeed
  have HH := V h
  obtain ⟨vS, vA, vC, vE, vO, hp⟩ := h
  have hc := hp.blk.cell
  unfold pmArr at hc
  have hbl := hp.blk.lt
  have HB := V hb
  have HN := V hnew
  have HE := V hE
  have HST := V hst
  have hopI : (op : Int) < 60 := by omega
  have hop0 : (0 : Int) ≤ op := by omega
  clear hp hb hE hc0 hfn hfa hfb hdeed hnew hst
  have hr3 : (r.length : Int) ≤ 3 := by omega
  generalize hrn : r.length = rn at *
  have HRN := V hrn
  clear hrn
  go_enter Tryz.func124, Tryz.ntmps124
  go_wp2_with fail
  go_region
  go_wp2_with fail
  refine (U HC).mono ?_
  rintro e w1 ⟨rfl, hb1⟩
  have hb01 : Below w.heap.size w w1 := (U HB).trans (hb1.mono (U HB).size)
  have hE1 := (U HE).below hb01 (by omega)
  have hbx1 := (U HN).below hb1 (U HN).lt
  have HT := V (pmTake_any B b tb vl m st w1 ((U HH).below hb01) l r (U HST) (by rw [U HRN]; omega) hs.1)
  rw [U HRN] at HT
  obtain ⟨e0, e1, e2, e3, e4, etw⟩ := hE1
  have HB01 := V hb01
  have HBX := V hbx1
  clear hb1 hb01 hbx1 HC hc
  go_wp2_with fail
  refine (U HT).mono ?_
  rintro e w2 ⟨rfl, hm2, hk2, hb2⟩
  have hbw2 : Below B w w2 := ((U HB01).mono hB).trans hb2
  have hE2 := (U HE).below hbw2 htb
  have hbx2 := hk2 _ _ _ (U HBX) (Or.inr rfl)
  have hcx := hbx2.cell
  have hlx := hbx2.lt
  obtain ⟨f0, f1, f2, f3, f4, ftw⟩ := hE2
  have hnb := Blk.new w2 #[.int .i64 (nth r 0), .int .i64 (nth r 1), .int .i64 (nth r 2)] 171
  have hbn := below_box w2 (.cells #[.int .i64 (nth r 0), .int .i64 (nth r 1), .int .i64 (nth r 2)] 171)
  have hm3 := hm2.below hbn
  have hk3 : KeepB w (w2.alloc (.cells #[.int .i64 (nth r 0), .int .i64 (nth r 1), .int .i64 (nth r 2)] 171)) := (KeepB.ofBelow (U HB01)).trans (hk2.trans (KeepB.ofBelow hbn))
  have hb3 : Below B w (w2.alloc (.cells #[.int .i64 (nth r 0), .int .i64 (nth r 1), .int .i64 (nth r 2)] 171)) := hbw2.trans (hbn.mono hm2.size)
  have HR3 := V (U HRUN (#[.pointer (some ⟨b, 0, none⟩), .int .i64 arg, .agg #[.int .i64 (nth r 0), .int .i64 (nth r 1), .int .i64 (nth r 2)]] ++ cap) (w2.alloc (.cells #[.int .i64 (nth r 0), .int .i64 (nth r 1), .int .i64 (nth r 2)] 171)).drew)
  have hdr : Below w2.heap.size w2 (w2.alloc (.cells #[.int .i64 (nth r 0), .int .i64 (nth r 1), .int .i64 (nth r 2)] 171)).drew := below_drew' hbn
  have hat0 : DoneAt B w b tb vl st { m with stack := l } op arg (.func (.func F) #[] cap) w2.heap.size (nth r 0) (nth r 1) (nth r 2) (w2.alloc (.cells #[.int .i64 (nth r 0), .int .i64 (nth r 1), .int .i64 (nth r 2)] 171)).drew :=
    ⟨hm3.below (below_drew' (Below.refl _ _)), hk3.trans (KeepB.ofBelow (below_drew' (Below.refl _ _))), below_drew' hb3, hnb.drew, hbx2.below hdr hlx, by rw [hdr.cell (by simpa using ftw)]; exact f4⟩
  have HD3 : Hid (Calls Tryz.prog F (#[.pointer (some ⟨b, 0, none⟩), .int .i64 arg, .agg #[.int .i64 (nth r 0), .int .i64 (nth r 1), .int .i64 (nth r 2)]] ++ cap) (w2.alloc (.cells #[.int .i64 (nth r 0), .int .i64 (nth r 1), .int .i64 (nth r 2)] 171)).drew (fun e w' => e = .returned (.int .i64 er) ∧ DoneAt B w b tb vl st m' op arg (.func (.func F) #[] cap) w2.heap.size (nth r 0) (nth r 1) (nth r 2) w')) := by
    refine (U HD _ hat0.pm hat0.below).mono ?_
    rintro e w' ⟨he, k1, k2, k3⟩
    exact ⟨he, k1, hat0.keep.trans k2, hat0.below.trans k3, k2 _ _ _ hat0.box (Or.inl rfl), k2 _ _ _ hat0.ins (Or.inr rfl), by rw [k3.cell (by simpa using htb)]; exact hat0.cell⟩
  have HS0 := V hat0.s
  clear hm2 hk2 hb2 hbw2 hbx2 hnb hbn hm3 hk3 hb3 hdr hat0 HT e0 e1 e2 e3 e4 etw HD HRUN HBX
  generalize hy0 : nth r 0 = y0 at *
  generalize hy1 : nth r 1 = y1 at *
  generalize hy2 : nth r 2 = y2 at *
  have HY := V (And.intro hy0 (And.intro hy1 hy2))
  clear hy0 hy1 hy2
  go_wp2_with fail
  go_cut [8] from 30 to 50 (fun s8 wc => s8 = .int .i64 er ∧ DoneAt B w b tb vl st m' op arg (.func (.func F) #[] cap) w2.heap.size y0 y1 y2 wc)
  case first =>
    go_region_held_law (fun w' => w'.cell? ⟨tb, op * 5 + 4, none⟩ = some (.func (.func F) #[] cap) ∧ w'.cell? ⟨w.heap.size, 1, none⟩ = some (.int .i64 arg) ∧ w'.cell? ⟨w2.heap.size, 0, none⟩ = some (.int .i64 y0) ∧ w'.cell? ⟨w2.heap.size, 1, none⟩ = some (.int .i64 y1) ∧ w'.cell? ⟨w2.heap.size, 2, none⟩ = some (.int .i64 y2)) (first | exact U HS4 | exact U HS0) ((refine step_callv rfl (.tmp 33) #[.tmp 34, .tmp 36, .tmp 37] #[118, 2, 171] rfl F cap (by simp [Act.eval]) (#[.pointer (some ⟨b, 0, none⟩), .int .i64 arg, .agg #[.int .i64 y0, .int .i64 y1, .int .i64 y2]] ++ cap) (by simp [Act.eval]) (by exact U HR3) (R := fun e w' => e = .returned (.int .i64 er) ∧ DoneAt B w b tb vl st m' op arg (.func (.func F) #[] cap) w2.heap.size y0 y1 y2 w') 38 rfl (by exact U HD3) ?_; rintro e w4 ⟨rfl, hd4⟩; have HS4 := V hd4.s; have HM4 := V hd4; clear hd4; refine ⟨_, rfl, ?_⟩))
    all_goals
      go_wp2_with fail
      go_meet
      refine ⟨?_, U HM4⟩
      first | rfl | (simp [Act.eval, Act.put]; done) | (simp; done)
  case rest =>
    obtain ⟨rfl, hd⟩ := hcut
    clear HS0 HR3 HD3 f0 f1 f2 f3 f4 hcx
    have hEc := (U HE).below hd.below htb
    obtain ⟨f0, f1, f2, f3, f4, ftc⟩ := hEc
    have hqc := hd.box.lt
    obtain ⟨hy0, hy1, hy2⟩ := U HY
    have HPU := V (pmPush_any B b tb vl m' st wc hd.pm w2.heap.size rn 3 r (U HRN) (nums_three _ _ _ (by rw [U HRN]; exact hr) (by rw [hy0, hy1, hy2]; exact hd.box)) ⟨hm', by omega⟩)
    have HDN := V hd
    clear hd hy0 hy1 hy2
    have hrn0 : (0 : Int) ≤ rn := by omega
    have hrn3 : rn ≤ 3 := hr
    by_cases he : er = 0
    · subst he
      go_wp2_with fail
      go_ret
      unfold DoPost
      rw [if_pos rfl]
      exact ⟨rfl, (U HDN).pm, (U HDN).keep, (U HDN).below⟩
    · have he' : (er == 0) = false := by simpa using he
      go_wp2_with fail
      refine (U HPU).mono ?_
      rintro e w5 ⟨rfl, h5⟩
      have H5 := V h5
      clear h5 HPU
      go_wp2_with fail
      go_ret
      obtain ⟨k1, k2, k3⟩ := U H5
      unfold DoPost
      rw [if_neg he]
      exact ⟨rfl, k1, (U HDN).keep.trans k2, (U HDN).below.trans k3⟩
/-- What an operator takes and gives, on the stack and aside. -/
def entTab : List (Nat × Nat × Nat × Nat) :=
  [(0, 1, 0, 0), (0, 0, 0, 0), (1, 0, 0, 0), (0, 0, 0, 0), (0, 0, 0, 0), (0, 0, 0, 0), (2, 0, 0, 2), (0, 0, 2, 2), (0, 1, 1, 1),
   (2, 1, 0, 0), (2, 1, 0, 0), (2, 1, 0, 0), (2, 1, 0, 0), (2, 1, 0, 0), (2, 1, 0, 0), (2, 1, 0, 0), (2, 1, 0, 0),
   (1, 1, 0, 0), (1, 1, 0, 0), (2, 1, 0, 0), (2, 1, 0, 0),
   (1, 2, 0, 0), (1, 0, 0, 0), (2, 2, 0, 0), (2, 3, 0, 0), (3, 3, 0, 0),
   (1, 0, 0, 1), (0, 1, 1, 0), (0, 1, 1, 1), (2, 0, 0, 0), (1, 1, 0, 0), (1, 0, 0, 0), (1, 0, 0, 0)]
def entS (op : Nat) : Nat × Nat × Nat × Nat := entTab.getD op (0, 0, 0, 0)
theorem ent_needs (op : Nat) (h : op < 33) : needsS op = (((entS op).1 : Int), ((entS op).2.1 : Int) - (entS op).1) ∧ asideS op = (((entS op).2.2.1 : Int), ((entS op).2.2.2 : Int) - (entS op).2.2.1) := by
  have : ∀ k : Fin 33, needsS (k.val : Int) = (((entS k.val).1 : Int), ((entS k.val).2.1 : Int) - (entS k.val).1) ∧ asideS (k.val : Int) = (((entS k.val).2.2.1 : Int), ((entS k.val).2.2.2 : Int) - (entS k.val).2.2.1) := by decide
  exact this ⟨op, h⟩
theorem ent_small (op : Nat) (h : op < 33) : (entS op).1 ≤ 3 ∧ (entS op).2.1 ≤ 3 ∧ (entS op).2.2.1 ≤ 2 ∧ (entS op).2.2.2 ≤ 2 := by
  have : ∀ k : Fin 33, (entS k.val).1 ≤ 3 ∧ (entS k.val).2.1 ≤ 3 ∧ (entS k.val).2.2.1 ≤ 2 ∧ (entS k.val).2.2.2 ≤ 2 := by decide
  exact this ⟨op, h⟩

/-- The check finds the reference's first four errors. -/
theorem chk_refused (m : MS) (hm : MOk m) (op : Nat) (h : op < 33) : (chkS m (entS op).1 (entS op).2.1 (entS op).2.2.1 (entS op).2.2.2 ≠ 0 → refusedS m op = chkS m (entS op).1 (entS op).2.1 (entS op).2.2.1 (entS op).2.2.2) ∧
    (chkS m (entS op).1 (entS op).2.1 (entS op).2.2.1 (entS op).2.2.2 = 0 → ((entS op).1 : Int) ≤ m.stack.length ∧ ((entS op).2.2.1 : Int) ≤ m.side.length ∧ (m.stack.length : Int) - (entS op).1 + (entS op).2.1 ≤ m.ls ∧ (m.side.length : Int) - (entS op).2.2.1 + (entS op).2.2.2 ≤ m.la) := by
  obtain ⟨e1, e2⟩ := ent_needs op h
  have s1 := hm.stack
  have s2 := hm.side
  unfold chkS refusedS
  rw [e1, e2]
  generalize (entS op).1 = t1
  generalize (entS op).2.1 = g1
  generalize (entS op).2.2.1 = t2
  generalize (entS op).2.2.2 = g2
  simp only
  by_cases c1 : (m.stack.length : Int) < t1
  · rw [if_pos c1, if_pos c1]
    exact ⟨fun _ => rfl, fun e => by omega⟩
  rw [if_neg c1, if_neg c1]
  by_cases c2 : m.ls < (m.stack.length : Int) - t1 + g1
  · have p2 : 0 < (g1 : Int) - t1 ∧ m.ls < (m.stack.length : Int) + ((g1 : Int) - t1) := by omega
    rw [if_pos c2, if_pos p2]
    exact ⟨fun _ => rfl, fun e => by omega⟩
  have n2 : ¬ (0 < (g1 : Int) - t1 ∧ m.ls < (m.stack.length : Int) + ((g1 : Int) - t1)) := by omega
  rw [if_neg c2, if_neg n2]
  by_cases c3 : (m.side.length : Int) < t2
  · rw [if_pos c3, if_pos c3]
    exact ⟨fun _ => rfl, fun e => by omega⟩
  rw [if_neg c3, if_neg c3]
  by_cases c4 : m.la < (m.side.length : Int) - t2 + g2
  · have p4 : 0 < (g2 : Int) - t2 ∧ m.la < (m.side.length : Int) + ((g2 : Int) - t2) := by omega
    rw [if_pos c4, if_pos p4]
    exact ⟨fun _ => rfl, fun e => by omega⟩
  have n4 : ¬ (0 < (g2 : Int) - t2 ∧ m.la < (m.side.length : Int) + ((g2 : Int) - t2)) := by omega
  rw [if_neg c4, if_neg n4]
  exact ⟨fun e => absurd rfl e, fun _ => ⟨by omega, by omega, by omega, by omega⟩⟩
/-- What an operator's function must do: called with the values taken, it does what the reference does, or says the reference's error and leaves the rest. -/
def DeedSem (B : Nat) (w : World) (b tb : Nat) (op : Nat) (F : FuncId) (cap : Array Value) : Prop :=
  ∀ (W : World) (vl : Value) (m : MS) (st arg : Int) (l r : List Int), Below B w W → PmE B W b tb vl { m with stack := l } st → MOk m → inI arg → m.stack = l ++ r → r.length = (entS op).1 →
    chkS m (entS op).1 (entS op).2.1 (entS op).2.2.1 (entS op).2.2.2 = 0 →
    Calls Tryz.prog F (#[.pointer (some ⟨b, 0, none⟩), .int .i64 arg, .agg #[.int .i64 (nth r 0), .int .i64 (nth r 1), .int .i64 (nth r 2)]] ++ cap) W
      (DeedPost B W b tb vl st (if refusedS m op = 0 then doS m op arg else { m with stack := l }) (refusedS m op))
/-- A base operator's entry. -/
def EntryOk (B : Nat) (w : World) (b tb : Nat) (op : Nat) : Prop :=
  ∃ (F : FuncId) (cap : Array Value) (fn : Func), EntryAt w tb (op * 5) (entS op).1 (entS op).2.1 (entS op).2.2.1 (entS op).2.2.2 (.func (.func F) #[] cap) ∧
    Tryz.prog.funcs[F]? = some fn ∧ (fn.name == "runtime.NumGoroutine") = false ∧ fn.body.isNone = false ∧ DeedSem B w b tb op F cap

theorem do_base (B b tb : Nat) (vl : Value) (m : MS) (st : Int) (w w0 : World) (hw : Below B w0 w) (h : PmE B w b tb vl m st) (hm : MOk m) (op : Nat) (arg : Int) (hop : op < 33) (harg : inI arg) (htb : tb < B) (hE : EntryOk B w0 b tb op) (hlen : (doS m op arg).stack.length ≤ 2000) :
    Calls Tryz.prog 124 #[.pointer (some ⟨b, 0, none⟩), .agg #[.int .i64 op, .int .i64 arg]] w
      (DeedPost B w b tb vl st (if refusedS m op = 0 then doS m op arg else m) (refusedS m op)) := by
  obtain ⟨F, cap, fn, hat, h1, h2, h3, hsem⟩ := hE
  have hat' := hat.below hw htb
  obtain ⟨c1, c2⟩ := chk_refused m hm op hop
  obtain ⟨b1, b2, b3, b4⟩ := ent_small op hop
  have hl := hm.lims
  have hs := hm.stack
  have ha := hm.side
  have hB := h.size
  by_cases hc : chkS m (entS op).1 (entS op).2.1 (entS op).2.2.1 (entS op).2.2.2 = 0
  · obtain ⟨d1, d2, d3, d4⟩ := c2 hc
    have hsp : m.stack = m.stack.take (m.stack.length - (entS op).1) ++ m.stack.drop (m.stack.length - (entS op).1) := (List.take_append_drop _ _).symm
    have hrl : (m.stack.drop (m.stack.length - (entS op).1)).length = (entS op).1 := by rw [List.length_drop]; omega
    generalize m.stack.take (m.stack.length - (entS op).1) = l at hsp
    generalize m.stack.drop (m.stack.length - (entS op).1) = r at hsp hrl
    have hlr : m.stack.length = l.length + r.length := by rw [hsp]; simp
    have := pmDo_over B b tb vl m st w h op arg (by omega) htb (entS op).2.1 (entS op).2.2.1 (entS op).2.2.2 F cap l r (by rw [hrl]; exact hat') (by omega) (by omega) (by rw [hrl]; exact hc) hsp (by omega) h1 h2 h3 (if refusedS m op = 0 then doS m op arg else { m with stack := l }) (refusedS m op)
      (by split; exact hlen; simp only; omega)
      (fun W hW hb => hsem W vl m st arg l r (hw.trans hb) hW hm harg hsp hrl hc)
    refine this.mono ?_
    intro e w' hd
    unfold DoPost at hd
    by_cases h0 : refusedS m op = 0
    · rw [if_pos h0, if_pos h0] at hd
      rw [if_pos h0, h0]
      exact hd
    · rw [if_neg h0, if_neg h0] at hd
      rw [if_neg h0]
      have em : { m with stack := l ++ r } = m := by rw [← hsp]
      simp only at hd
      rw [em] at hd
      exact hd
  · have e1 := c1 hc
    have h0 : refusedS m op ≠ 0 := by rw [e1]; exact hc
    rw [if_neg h0, e1]
    exact pmDo_no B b tb vl m st w h op arg (by omega) (by omega) _ _ _ _ _ hat' (by omega) (by omega) hc
def okL (l : List Int) : Prop := ∀ x ∈ l, inI x
theorem okL_nil : okL [] := by intro x h; simp at h
theorem okL_app {a b : List Int} (ha : okL a) (hb : okL b) : okL (a ++ b) := by
  intro x h
  rcases List.mem_append.1 h with h | h
  · exact ha x h
  · exact hb x h
theorem okL_cons {a : Int} {b : List Int} (ha : inI a) (hb : okL b) : okL (a :: b) := by
  intro x h
  rcases List.mem_cons.1 h with rfl | h
  · exact ha
  · exact hb x h
theorem okL_drop {a : List Int} (ha : okL a) : okL a.dropLast := fun x h => ha x (dropLast_mem h)
theorem inI_zero : inI 0 := by unfold inI; omega
theorem okL_top {a : List Int} (ha : okL a) : inI (topL a) := by
  by_cases h : 0 < a.length
  · exact ha _ (topL_mem a h)
  · have : a = [] := List.length_eq_zero_iff.1 (by omega)
    subst this
    exact inI_zero
theorem okL_set {a : List Int} {k : Nat} {x : Int} (ha : okL a) (hx : inI x) : okL (a.set k x) := by
  intro y h
  rcases List.mem_or_eq_of_mem_set h with h | rfl
  · exact ha y h
  · exact hx
theorem okL_get {a : List Int} {k : Nat} (ha : okL a) : inI (a[k]?.getD 0) := by
  cases h : a[k]? with
  | none => exact inI_zero
  | some x => exact ha x (List.mem_of_getElem? h)
theorem mk_ok {m : MS} (hm : MOk m) (s a c e : List Int) (o : ByteArray) (pc : Int) (hd : Bool) (ho : (o.size : Int) ≤ m.lo) (hs : (s.length : Int) ≤ m.ls := by (first | assumption | ((try simp only [List.length_append]) <;> (try simp only [List.length_cons]) <;> (try simp only [List.length_nil]) <;> (try simp only [List.length_dropLast]) <;> (try simp only [List.length_set]) <;> omega))) (ha : (a.length : Int) ≤ m.la := by (first | assumption | ((try simp only [List.length_append]) <;> (try simp only [List.length_cons]) <;> (try simp only [List.length_nil]) <;> (try simp only [List.length_dropLast]) <;> (try simp only [List.length_set]) <;> omega))) (hc : (c.length : Int) ≤ m.lc := by (first | assumption | ((try simp only [List.length_append]) <;> (try simp only [List.length_cons]) <;> (try simp only [List.length_nil]) <;> (try simp only [List.length_dropLast]) <;> (try simp only [List.length_set]) <;> omega))) (he : e.length ≤ 1000 := by (first | assumption | ((try simp only [List.length_append]) <;> (try simp only [List.length_cons]) <;> (try simp only [List.length_nil]) <;> (try simp only [List.length_dropLast]) <;> (try simp only [List.length_set]) <;> omega))) (is : okL s := by (repeat' (first | assumption | exact okL_nil | with_reducible apply okL_app | with_reducible apply okL_drop | with_reducible apply okL_cons | with_reducible apply okL_top | with_reducible apply wrap64_in | with_reducible apply okL_set | with_reducible apply okL_get))) (ia : okL a := by (repeat' (first | assumption | exact okL_nil | with_reducible apply okL_app | with_reducible apply okL_drop | with_reducible apply okL_cons | with_reducible apply okL_top | with_reducible apply wrap64_in | with_reducible apply okL_set | with_reducible apply okL_get))) (ie : okL e := by (repeat' (first | assumption | exact okL_nil | with_reducible apply okL_app | with_reducible apply okL_drop | with_reducible apply okL_cons | with_reducible apply okL_top | with_reducible apply wrap64_in | with_reducible apply okL_set | with_reducible apply okL_get))) : MOk { m with stack := s, side := a, calls := c, cells := e, out := o, pc := pc, halted := hd } :=
  ⟨hm.lims, hs, ha, hc, he, ho, is, ia, ie⟩
theorem MOk.pc {m : MS} (hm : MOk m) (k : Int) : MOk { m with pc := k } := ⟨hm.lims, hm.stack, hm.side, hm.calls, hm.cells, hm.out, hm.ints⟩

theorem doS_mok (m : MS) (hm : MOk m) (op arg : Int) (hop : 0 ≤ op ∧ op ≤ 32) (harg : inI arg) (hr : refusedS m op = 0) : MOk (doS m op arg) := by
  obtain ⟨z1, z2, z3, z4, z5, z6, z7, z8, z9, z10⟩ := refused_zero m op hr
  clear hr
  rw [topS_eq] at z7 z8 z10
  have hs := hm.stack
  have ha := hm.side
  have hc := hm.calls
  have he := hm.cells
  have ho := hm.out
  have is : okL m.stack := hm.ints.1
  have ia : okL m.side := hm.ints.2.1
  have ie : okL m.cells := hm.ints.2.2
  have hop' : op = 0 ∨ op = 1 ∨ op = 2 ∨ op = 3 ∨ op = 4 ∨ op = 5 ∨ op = 6 ∨ op = 7 ∨ op = 8 ∨ op = 9 ∨ op = 10 ∨ op = 11 ∨ op = 12 ∨ op = 13 ∨ op = 14 ∨ op = 15 ∨ op = 16 ∨ op = 17 ∨ op = 18 ∨ op = 19 ∨ op = 20 ∨ op = 21 ∨ op = 22 ∨ op = 23 ∨ op = 24 ∨ op = 25 ∨ op = 26 ∨ op = 27 ∨ op = 28 ∨ op = 29 ∨ op = 30 ∨ op = 31 ∨ op = 32 := by omega
  clear hop
  rcases hop' with rfl | rfl | rfl | rfl | rfl | rfl | rfl | rfl | rfl | rfl | rfl | rfl | rfl | rfl | rfl | rfl | rfl | rfl | rfl | rfl | rfl | rfl | rfl | rfl | rfl | rfl | rfl | rfl | rfl | rfl | rfl | rfl | rfl
  · have n1 : (0 : Int) ≤ m.stack.length := z1
    have a1 : (0 : Int) ≤ m.side.length := z3
    have n2 : (m.stack.length : Int) + 1 ≤ m.ls := z2 (by decide)
    exact mk_ok hm _ _ _ _ _ _ _ (by assumption)
  · have n1 : (0 : Int) ≤ m.stack.length := z1
    have a1 : (0 : Int) ≤ m.side.length := z3
    exact mk_ok hm _ _ _ _ _ _ _ (by assumption)
  · have n1 : (1 : Int) ≤ m.stack.length := z1
    have a1 : (0 : Int) ≤ m.side.length := z3
    by_cases k : topL m.stack = 0
    · rw [show doS m 2 arg = { m with stack := m.stack.dropLast, pc := arg } from if_pos k]
      exact mk_ok hm _ _ _ _ _ _ _ (by assumption)
    · rw [show doS m 2 arg = { m with stack := m.stack.dropLast } from if_neg k]
      exact mk_ok hm _ _ _ _ _ _ _ (by assumption)
  · have n1 : (0 : Int) ≤ m.stack.length := z1
    have a1 : (0 : Int) ≤ m.side.length := z3
    have c1 := z5 rfl
    exact mk_ok hm _ _ _ _ _ _ _ (by assumption)
  · have n1 : (0 : Int) ≤ m.stack.length := z1
    have a1 : (0 : Int) ≤ m.side.length := z3
    exact mk_ok hm _ _ _ _ _ _ _ (by assumption)
  · have n1 : (0 : Int) ≤ m.stack.length := z1
    have a1 : (0 : Int) ≤ m.side.length := z3
    exact mk_ok hm _ _ _ _ _ _ _ (by assumption)
  · have n1 : (2 : Int) ≤ m.stack.length := z1
    have a1 : (0 : Int) ≤ m.side.length := z3
    have a2 : (m.side.length : Int) + 2 ≤ m.la := z4 (by decide)
    exact mk_ok hm _ _ _ _ _ _ _ (by assumption)
  · have n1 : (0 : Int) ≤ m.stack.length := z1
    have a1 : (2 : Int) ≤ m.side.length := z3
    by_cases k : wrap64 (topL m.side + 1) = topL m.side.dropLast
    · rw [show doS m 7 arg = { m with side := m.side.dropLast.dropLast } from if_pos k]
      exact mk_ok hm _ _ _ _ _ _ _ (by assumption)
    · rw [show doS m 7 arg = { m with side := m.side.dropLast.dropLast ++ [topL m.side.dropLast, wrap64 (topL m.side + 1)], pc := arg } from if_neg k]
      exact mk_ok hm _ _ _ _ _ _ _ (by assumption)
  · have n1 : (0 : Int) ≤ m.stack.length := z1
    have a1 : (1 : Int) ≤ m.side.length := z3
    have n2 : (m.stack.length : Int) + 1 ≤ m.ls := z2 (by decide)
    exact mk_ok hm _ _ _ _ _ _ _ (by assumption)
  · have n1 : (2 : Int) ≤ m.stack.length := z1
    have a1 : (0 : Int) ≤ m.side.length := z3
    have t1 : inI (twoS 9 (topL m.stack.dropLast) (topL m.stack)) := two_in 9 _ _ (by omega) (by omega) (okL_top (okL_drop is)) (okL_top is)
    exact mk_ok hm _ _ _ _ _ _ _ (by assumption)
  · have n1 : (2 : Int) ≤ m.stack.length := z1
    have a1 : (0 : Int) ≤ m.side.length := z3
    have t1 : inI (twoS 10 (topL m.stack.dropLast) (topL m.stack)) := two_in 10 _ _ (by omega) (by omega) (okL_top (okL_drop is)) (okL_top is)
    exact mk_ok hm _ _ _ _ _ _ _ (by assumption)
  · have n1 : (2 : Int) ≤ m.stack.length := z1
    have a1 : (0 : Int) ≤ m.side.length := z3
    have t1 : inI (twoS 11 (topL m.stack.dropLast) (topL m.stack)) := two_in 11 _ _ (by omega) (by omega) (okL_top (okL_drop is)) (okL_top is)
    exact mk_ok hm _ _ _ _ _ _ _ (by assumption)
  · have n1 : (2 : Int) ≤ m.stack.length := z1
    have a1 : (0 : Int) ≤ m.side.length := z3
    have t1 : inI (twoS 12 (topL m.stack.dropLast) (topL m.stack)) := two_in 12 _ _ (by exact z8) (by omega) (okL_top (okL_drop is)) (okL_top is)
    exact mk_ok hm _ _ _ _ _ _ _ (by assumption)
  · have n1 : (2 : Int) ≤ m.stack.length := z1
    have a1 : (0 : Int) ≤ m.side.length := z3
    have t1 : inI (twoS 13 (topL m.stack.dropLast) (topL m.stack)) := two_in 13 _ _ (by exact z8) (by omega) (okL_top (okL_drop is)) (okL_top is)
    exact mk_ok hm _ _ _ _ _ _ _ (by assumption)
  · have n1 : (2 : Int) ≤ m.stack.length := z1
    have a1 : (0 : Int) ≤ m.side.length := z3
    have t1 : inI (twoS 14 (topL m.stack.dropLast) (topL m.stack)) := two_in 14 _ _ (by omega) (by omega) (okL_top (okL_drop is)) (okL_top is)
    exact mk_ok hm _ _ _ _ _ _ _ (by assumption)
  · have n1 : (2 : Int) ≤ m.stack.length := z1
    have a1 : (0 : Int) ≤ m.side.length := z3
    have t1 : inI (twoS 15 (topL m.stack.dropLast) (topL m.stack)) := two_in 15 _ _ (by omega) (by omega) (okL_top (okL_drop is)) (okL_top is)
    exact mk_ok hm _ _ _ _ _ _ _ (by assumption)
  · have n1 : (2 : Int) ≤ m.stack.length := z1
    have a1 : (0 : Int) ≤ m.side.length := z3
    have t1 : inI (twoS 16 (topL m.stack.dropLast) (topL m.stack)) := two_in 16 _ _ (by omega) (by omega) (okL_top (okL_drop is)) (okL_top is)
    exact mk_ok hm _ _ _ _ _ _ _ (by assumption)
  · have n1 : (1 : Int) ≤ m.stack.length := z1
    have a1 : (0 : Int) ≤ m.side.length := z3
    have t1 : inI (-1 - topL m.stack) := by
      have := okL_top is
      unfold inI at *
      omega
    exact mk_ok hm _ _ _ _ _ _ _ (by assumption)
  · have n1 : (1 : Int) ≤ m.stack.length := z1
    have a1 : (0 : Int) ≤ m.side.length := z3
    exact mk_ok hm _ _ _ _ _ _ _ (by assumption)
  · have n1 : (2 : Int) ≤ m.stack.length := z1
    have a1 : (0 : Int) ≤ m.side.length := z3
    have t1 : inI (twoS 19 (topL m.stack.dropLast) (topL m.stack)) := two_in 19 _ _ (by omega) (by omega) (okL_top (okL_drop is)) (okL_top is)
    exact mk_ok hm _ _ _ _ _ _ _ (by assumption)
  · have n1 : (2 : Int) ≤ m.stack.length := z1
    have a1 : (0 : Int) ≤ m.side.length := z3
    have t1 : inI (twoS 20 (topL m.stack.dropLast) (topL m.stack)) := two_in 20 _ _ (by omega) (by omega) (okL_top (okL_drop is)) (okL_top is)
    exact mk_ok hm _ _ _ _ _ _ _ (by assumption)
  · have n1 : (1 : Int) ≤ m.stack.length := z1
    have a1 : (0 : Int) ≤ m.side.length := z3
    have n2 : (m.stack.length : Int) + 1 ≤ m.ls := z2 (by decide)
    exact mk_ok hm _ _ _ _ _ _ _ (by assumption)
  · have n1 : (1 : Int) ≤ m.stack.length := z1
    have a1 : (0 : Int) ≤ m.side.length := z3
    exact mk_ok hm _ _ _ _ _ _ _ (by assumption)
  · have n1 : (2 : Int) ≤ m.stack.length := z1
    have a1 : (0 : Int) ≤ m.side.length := z3
    exact mk_ok hm _ _ _ _ _ _ _ (by assumption)
  · have n1 : (2 : Int) ≤ m.stack.length := z1
    have a1 : (0 : Int) ≤ m.side.length := z3
    have n2 : (m.stack.length : Int) + 1 ≤ m.ls := z2 (by decide)
    exact mk_ok hm _ _ _ _ _ _ _ (by assumption)
  · have n1 : (3 : Int) ≤ m.stack.length := z1
    have a1 : (0 : Int) ≤ m.side.length := z3
    exact mk_ok hm _ _ _ _ _ _ _ (by assumption)
  · have n1 : (1 : Int) ≤ m.stack.length := z1
    have a1 : (0 : Int) ≤ m.side.length := z3
    have a2 : (m.side.length : Int) + 1 ≤ m.la := z4 (by decide)
    exact mk_ok hm _ _ _ _ _ _ _ (by assumption)
  · have n1 : (0 : Int) ≤ m.stack.length := z1
    have a1 : (1 : Int) ≤ m.side.length := z3
    have n2 : (m.stack.length : Int) + 1 ≤ m.ls := z2 (by decide)
    exact mk_ok hm _ _ _ _ _ _ _ (by assumption)
  · have n1 : (0 : Int) ≤ m.stack.length := z1
    have a1 : (1 : Int) ≤ m.side.length := z3
    have n2 : (m.stack.length : Int) + 1 ≤ m.ls := z2 (by decide)
    exact mk_ok hm _ _ _ _ _ _ _ (by assumption)
  · have n1 : (2 : Int) ≤ m.stack.length := z1
    have a1 : (0 : Int) ≤ m.side.length := z3
    exact mk_ok hm _ _ _ _ _ _ _ (by assumption)
  · have n1 : (1 : Int) ≤ m.stack.length := z1
    have a1 : (0 : Int) ≤ m.side.length := z3
    exact mk_ok hm _ _ _ _ _ _ _ (by assumption)
  · have n1 : (1 : Int) ≤ m.stack.length := z1
    have a1 : (0 : Int) ≤ m.side.length := z3
    exact mk_ok hm _ _ _ _ _ _ _ (by (simp only [ByteArray.size_append, size_one]; have := z9 rfl; omega))
  · have n1 : (1 : Int) ≤ m.stack.length := z1
    have a1 : (0 : Int) ≤ m.side.length := z3
    exact mk_ok hm _ _ _ _ _ _ _ (by (rw [ByteArray.append_assoc, ByteArray.size_append]; have e1 := dotB_size (topL m.stack); unfold dotB at e1; rw [e1]; have := z10 rfl; omega))
theorem partsRun_mok (arg : Int) (harg : inI arg) (ps : List Int) : ∀ (m : MS), MOk m → (∀ x ∈ ps, 0 ≤ x ∧ x ≤ 32) → MOk (partsRun arg ps m).1 := by
  induction ps with
  | nil => intro m hm _; exact hm
  | cons op r ih =>
    intro m hm hp
    unfold partsRun
    split
    · rename_i h0
      exact ih _ (doS_mok m hm op arg (hp op (List.mem_cons_self ..)) harg h0) (fun x hx => hp x (List.mem_cons_of_mem _ hx))
    · exact hm
theorem MOk.short {m : MS} (hm : MOk m) : m.stack.length ≤ 2000 := by
  have h1 := hm.stack
  have h2 := hm.lims
  omega
/-- The parts that the program's table is made of. -/
def superS (op : Int) : List Int := match partsTab.find? (fun x => op == x.1) with | some x => x.2 | none => []
set_option maxRecDepth 100000 in
set_option maxHeartbeats 2000000 in
theorem superParts_any (op : Nat) (h : 40 ≤ op ∧ op < 60) (w : World) :
    Calls Tryz.prog 60 #[.int .i64 op] w fun e w' => ∃ cs : Array Value, e = .returned (.slice (some ⟨w.heap.size, 0, none⟩) cs.size cs.size) ∧ cs.toList = (superS op).map (Value.int .i64) ∧ w' = w.alloc (.cells cs 3) := by
  have hall : op = 40 ∨ op = 41 ∨ op = 42 ∨ op = 43 ∨ op = 44 ∨ op = 45 ∨ op = 46 ∨ op = 47 ∨ op = 48 ∨ op = 49 ∨ op = 50 ∨ op = 51 ∨ op = 52 ∨ op = 53 ∨ op = 54 ∨ op = 55 ∨ op = 56 ∨ op = 57 ∨ op = 58 ∨ op = 59 := by omega
  clear h
  rcases hall with rfl | rfl | rfl | rfl | rfl | rfl | rfl | rfl | rfl | rfl | rfl | rfl | rfl | rfl | rfl | rfl | rfl | rfl | rfl | rfl
  all_goals
    go_enter Tryz.func60, Tryz.ntmps60
    go_wp2_with fail
    go_ret
    exact ⟨_, rfl, rfl, rfl⟩
end Go.Proofs.YtmeiikjpaepogaaGreatDoor
