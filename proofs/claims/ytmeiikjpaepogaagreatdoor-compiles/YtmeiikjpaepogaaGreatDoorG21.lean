/- The statements' UpTo. -/
import Derived.Test.YtmeiikjpaepogaaGreatDoorG20
import Derived.Deep.CutRange
import Derived.ProofKit
import Derived.OpenShut
import Derived.Deep.Slices
import Derived.Deep.DeepHandedRow
import Derived.Test.YtmeiikjpaepogaaGreatDoorG05
namespace Go.Proofs.YtmeiikjpaepogaaGreatDoor
open Go Go.RowKit

def OpOk (cs : Array Value) : Prop := ∃ kind n s b0 b1 b2 ao m c en ce l1 l2 l3 l4 fu, cs = opC kind n s b0 b1 b2 (.slice ao m c) en ce l1 l2 l3 l4 fu ∧ inI n
/-- A script in memory. -/
def ScriptIs (w : World) (v : Value) (n : Nat) : Prop :=
  ∃ ao cap, v = .slice ao n cap ∧ ∀ k, k < n → ∃ g off cs, ao = some ⟨g, off, none⟩ ∧ g < w.heap.size ∧ OpOk cs ∧ ∀ i, i < 14 → w.cell? ⟨g, off + k * 14 + i, none⟩ = cs[i]?
theorem ScriptIs.below {w w' : World} {v : Value} {n : Nat} (h : ScriptIs w v n) (hb : Below w.heap.size w w') : ScriptIs w' v n := by
  obtain ⟨ao, cap, rfl, h⟩ := h
  refine ⟨ao, cap, rfl, fun k hk => ?_⟩
  obtain ⟨g, off, cs, h1, h2, h3, h4⟩ := h k hk
  refine ⟨g, off, cs, h1, by have := hb.size; omega, h3, fun i hi => ?_⟩
  rw [hb.cell (by simpa using h2)]
  exact h4 i hi

theorem lw_new (w : World) : Lw w.heap.size (w.alloc (.cells #[.slice none 0 0, .slice none 0 0] 70)) w.heap.size [] [] (.slice none 0 0) (.slice none 0 0) := by
  refine ⟨Blk.new _ _ _, Nat.le_refl _, ⟨?_, ?_, ?_, rfl⟩, by simp⟩
  · intro i v t hv ht
    match i, (List.getElem?_eq_some_iff.1 hv).1 with
    | 0, _ => simp [ptrs] at hv ht; subst hv ht; exact World.ownsRow_nil _ _ _ _
    | 1, _ => simp [ptrs] at hv ht; subst hv ht; exact World.ownsRow_nil _ _ _ _
  · intro i j v v' k hv hv' hk
    match i, (List.getElem?_eq_some_iff.1 hv).1 with
    | 0, _ => simp at hv; subst hv; simp [Value.ownBlock] at hk
    | 1, _ => simp at hv; subst hv; simp [Value.ownBlock] at hk
  · intro i v b hv _ e
    match i, (List.getElem?_eq_some_iff.1 hv).1 with
    | 0, _ => simp at hv; subst hv; simp [Value.ownBlock] at e
    | 1, _ => simp at hv; subst hv; simp [Value.ownBlock] at e

/-- What holds ahead of step k. -/
def UpRel (P : Prg) (w : World) (k : Nat) (wr : World) : Prop :=
  ∃ ps hs vp vh, Lw w.heap.size wr w.heap.size ps hs vp vh ∧ PlayersOk P wr ps ∧ HoldsOk wr hs ∧ hs.length ≤ 8 * k ∧ Below w.heap.size w wr
theorem UpRel.longer {P : Prg} {w wr w' : World} {k : Nat} (h : UpRel P w k wr) (hb : Below wr.heap.size wr w') : UpRel P w (k + 1) w' := by
  obtain ⟨ps, hs, vp, vh, h1, h2, h3, h4, h5⟩ := h
  have hl := LawStill.ofBelow hb
  exact ⟨ps, hs, vp, vh, h1.below hb, h2.law hl, h3.law hl, by omega, h5.trans (hb.mono h5.size)⟩


end Go.Proofs.YtmeiikjpaepogaaGreatDoor

/- The statements' example; Compiles, given the program's contracts. -/
namespace Go.Proofs.YtmeiikjpaepogaaGreatDoor
open Go Go.RowKit

def exText : ByteArray := ⟨#[58, 32, 102, 32, 100, 117, 112, 32, 105, 102, 32, 49, 32, 45, 32, 114, 101, 99, 117, 114, 115, 101, 32, 116, 104, 101, 110, 32, 59, 32, 51, 32, 102, 32, 46, 32, 49, 32, 50, 32, 43, 32, 46, 32, 51, 32, 48, 32, 100, 111, 32, 105, 32, 46, 32, 108, 111, 111, 112]⟩

def exOp (b : Nat) : Nat → Array Value
  | 0 => opC 1 0 exText false false false (.slice none 0 0) 0 0 0 0 0 0 0
  | 1 => opC 1 0 ⟨#[49, 32, 101, 108, 115, 101]⟩ false false false (.slice none 0 0) 0 0 0 0 0 0 0
  | 2 => opC 3 0 ⟨#[]⟩ false false false (.slice none 0 0) 0 0 0 0 0 0 0
  | 3 => opC 4 0 ⟨#[]⟩ false false false (.slice none 0 0) 0 0 10 10 10 100 100
  | 4 => opC 1 0 exText true true true (.slice none 0 0) 0 0 0 0 0 0 0
  | 5 => opC 4 1 ⟨#[]⟩ false false false (.slice none 0 0) 0 0 10 10 10 100 100
  | 6 => opC 1 0 exText false false true (.slice none 0 0) 0 0 0 0 0 0 0
  | 7 => opC 3 2 ⟨#[]⟩ false false false (.slice none 0 0) 0 0 0 0 0 0 0
  | _ => opC 2 0 ⟨#[]⟩ false false false (.slice (some ⟨b, 0, none⟩) 1 1) 0 0 0 0 0 0 0
theorem exOp_ok (b k : Nat) : OpOk (exOp b k) := by
  unfold exOp
  split
  all_goals exact ⟨_, _, _, _, _, _, _, _, _, _, _, _, _, _, _, _, rfl, by unfold inI; omega⟩

theorem Tryz.infoOp : (Tryz.prog.info? 63).map (fun i => (i.zero, i.size, i.bytes)) = some (some (.agg #[.int .i64 0, .int .i64 0, .string ⟨#[]⟩, .bool false, .bool false, .bool false, .slice none 0 0, .int .i64 0, .int .i64 0, .int .i64 0, .int .i64 0, .int .i64 0, .int .i64 0, .int .i64 0]), 14, 120) := by kernel_rfl
theorem flat14 (xs : List (Array Value)) (h : ∀ cs ∈ xs, cs.size = 14) : ∀ (k : Nat) (cs : Array Value), xs[k]? = some cs → ∀ i, i < 14 → (xs.flatMap Array.toList)[k * 14 + i]? = cs[i]? := by
  induction xs with
  | nil => intro k cs hk; simp at hk
  | cons x xs ih =>
    intro k cs hk i hi
    have hx : x.toList.length = 14 := by have := h x (List.mem_cons_self ..); simpa using this
    rw [List.flatMap_cons]
    cases k with
    | zero =>
      simp at hk
      subst hk
      rw [List.getElem?_append_left (by omega)]
      simp
    | succ k =>
      simp at hk
      rw [List.getElem?_append_right (by omega)]
      have e : (k + 1) * 14 + i - x.toList.length = k * 14 + i := by omega
      rw [e]
      exact ih (fun cs hcs => h cs (List.mem_cons_of_mem _ hcs)) k cs hk i hi
theorem OpOk.size {cs : Array Value} (h : OpOk cs) : cs.size = 14 := by
  obtain ⟨_, _, _, _, _, _, _, _, _, _, _, _, _, _, _, _, rfl, _⟩ := h
  rfl
theorem script_of_row {w : World} {B : Nat} {v : Value} {xs : List (Array Value)} (h : w.ownsRow B 63 14 v xs.length (xs.flatMap Array.toList)) (hx : ∀ cs ∈ xs, OpOk cs) : ScriptIs w v xs.length := by
  obtain ⟨ao, cap, hv⟩ := own_shape h
  subst hv
  refine ⟨ao, cap, rfl, fun k hk => ?_⟩
  obtain ⟨g, cap', hv, _, hg⟩ := h.form (by omega)
  simp only [Value.slice.injEq, true_and] at hv
  obtain ⟨rfl, rfl⟩ := hv
  obtain ⟨cs, hcs⟩ : ∃ cs, xs[k]? = some cs := ⟨_, List.getElem?_eq_getElem hk⟩
  refine ⟨g, 0, cs, rfl, hg, hx cs (List.mem_of_getElem? hcs), fun i hi => ?_⟩
  have := own_cell h (k * 14 + i) (by omega)
  rw [flat14 xs (fun cs hcs => (hx cs hcs).size) k cs hcs i hi] at this
  rw [Nat.zero_add]
  exact this


end Go.Proofs.YtmeiikjpaepogaaGreatDoor

/- The script as it came in: its cells. -/
namespace Go.Proofs.YtmeiikjpaepogaaGreatDoor
open Go Go.RowKit Go.ChangeShapes Go.WideShapes Go.ChangeAt Go.Deep

theorem Tryz.cells63 : Tryz.prog.cellsOf 63 = 14 := by kernel_rfl
theorem Tryz.bytesOp : Tryz.prog.bytesOf 63 = 120 := by kernel_rfl
theorem Tryz.cells3 : Tryz.prog.cellsOf 3 = 1 := by kernel_rfl
theorem Tryz.cells9 : Tryz.prog.cellsOf 9 = 1 := by kernel_rfl
theorem Tryz.cells4 : Tryz.prog.cellsOf 4 = 1 := by kernel_rfl
theorem Tryz.cells32 : Tryz.prog.cellsOf 32 = 3 := by kernel_rfl
theorem Tryz.cells33 : Tryz.prog.cellsOf 33 = 1 := by kernel_rfl
theorem Tryz.cells39 : Tryz.prog.cellsOf 39 = 4 := by kernel_rfl

section
variable {H : Type} {enc : TypeId × Value → H} {w : World} {base : Nat} {spare : Nat → Bool} {held : Bool}
theorem list14 {cs : List Value} (h : cs.length = 14) : ∃ a b c d e f g i j k l m n o, cs = [a, b, c, d, e, f, g, i, j, k, l, m, n, o] := by
  match cs, h with
  | [a, b, c, d, e, f, g, i, j, k, l, m, n, o], _ => exact ⟨a, b, c, d, e, f, g, i, j, k, l, m, n, o, rfl⟩

theorem trod_structs3 {P : Program} {t : TypeId} {f0 f1 f2 : Field} {fuel : Nat} {cs : List Value} {x : DataW H × List MemPlace} (ht : P.underlying t = some (.struct #[f0, f1, f2])) (h : DataW.trod enc P w base spare held fuel t cs = some x) :
    ∃ y0 y1 y2 n, cs.length = P.cellsOf t ∧ DataW.trod enc P w base spare held n f0.type ((cs.drop f0.offset).take (P.cellsOf f0.type)) = some y0 ∧ DataW.trod enc P w base spare held n f1.type ((cs.drop f1.offset).take (P.cellsOf f1.type)) = some y1 ∧ DataW.trod enc P w base spare held n f2.type ((cs.drop f2.offset).take (P.cellsOf f2.type)) = some y2 := by
  obtain ⟨xs, n, _, rfl, hl, hlen, hf⟩ := DataW.trod_struct ht h
  match xs, hlen with
  | [y0, y1, y2], _ => exact ⟨y0, y1, y2, n, hl, by simpa using hf 0 f0 rfl, by simpa using hf 1 f1 rfl, by simpa using hf 2 f2 rfl⟩
theorem trod_structs4 {P : Program} {t : TypeId} {f0 f1 f2 f3 : Field} {fuel : Nat} {cs : List Value} {x : DataW H × List MemPlace} (ht : P.underlying t = some (.struct #[f0, f1, f2, f3])) (h : DataW.trod enc P w base spare held fuel t cs = some x) :
    ∃ y0 y1 y2 y3 n, cs.length = P.cellsOf t ∧ DataW.trod enc P w base spare held n f0.type ((cs.drop f0.offset).take (P.cellsOf f0.type)) = some y0 ∧ DataW.trod enc P w base spare held n f1.type ((cs.drop f1.offset).take (P.cellsOf f1.type)) = some y1 ∧ DataW.trod enc P w base spare held n f2.type ((cs.drop f2.offset).take (P.cellsOf f2.type)) = some y2 ∧ DataW.trod enc P w base spare held n f3.type ((cs.drop f3.offset).take (P.cellsOf f3.type)) = some y3 := by
  obtain ⟨xs, n, _, rfl, hl, hlen, hf⟩ := DataW.trod_struct ht h
  match xs, hlen with
  | [y0, y1, y2, y3], _ => exact ⟨y0, y1, y2, y3, n, hl, by simpa using hf 0 f0 rfl, by simpa using hf 1 f1 rfl, by simpa using hf 2 f2 rfl, by simpa using hf 3 f3 rfl⟩
theorem trod_structs9 {P : Program} {t : TypeId} {f0 f1 f2 f3 f4 f5 f6 f7 f8 : Field} {fuel : Nat} {cs : List Value} {x : DataW H × List MemPlace} (ht : P.underlying t = some (.struct #[f0, f1, f2, f3, f4, f5, f6, f7, f8])) (h : DataW.trod enc P w base spare held fuel t cs = some x) :
    ∃ y0 y1 y2 y3 y4 y5 y6 y7 y8 n, cs.length = P.cellsOf t ∧ DataW.trod enc P w base spare held n f0.type ((cs.drop f0.offset).take (P.cellsOf f0.type)) = some y0 ∧ DataW.trod enc P w base spare held n f1.type ((cs.drop f1.offset).take (P.cellsOf f1.type)) = some y1 ∧ DataW.trod enc P w base spare held n f2.type ((cs.drop f2.offset).take (P.cellsOf f2.type)) = some y2 ∧ DataW.trod enc P w base spare held n f3.type ((cs.drop f3.offset).take (P.cellsOf f3.type)) = some y3 ∧ DataW.trod enc P w base spare held n f4.type ((cs.drop f4.offset).take (P.cellsOf f4.type)) = some y4 ∧ DataW.trod enc P w base spare held n f5.type ((cs.drop f5.offset).take (P.cellsOf f5.type)) = some y5 ∧ DataW.trod enc P w base spare held n f6.type ((cs.drop f6.offset).take (P.cellsOf f6.type)) = some y6 ∧ DataW.trod enc P w base spare held n f7.type ((cs.drop f7.offset).take (P.cellsOf f7.type)) = some y7 ∧ DataW.trod enc P w base spare held n f8.type ((cs.drop f8.offset).take (P.cellsOf f8.type)) = some y8 := by
  obtain ⟨xs, n, _, rfl, hl, hlen, hf⟩ := DataW.trod_struct ht h
  match xs, hlen with
  | [y0, y1, y2, y3, y4, y5, y6, y7, y8], _ => exact ⟨y0, y1, y2, y3, y4, y5, y6, y7, y8, n, hl, by simpa using hf 0 f0 rfl, by simpa using hf 1 f1 rfl, by simpa using hf 2 f2 rfl, by simpa using hf 3 f3 rfl, by simpa using hf 4 f4 rfl, by simpa using hf 5 f5 rfl, by simpa using hf 6 f6 rfl, by simpa using hf 7 f7 rfl, by simpa using hf 8 f8 rfl⟩
/-- One step of a script. -/
theorem open_op {fuel : Nat} {cs : List Value} {x : DataW H × List MemPlace} (h : DataW.trod enc Tryz.prog w base spare held fuel 63 cs = some x) :
    ∃ kind n s b0 b1 b2 ao m c en ce l1 l2 l3 l4 fu, cs = (opC kind n s b0 b1 b2 (.slice ao m c) en ce l1 l2 l3 l4 fu).toList ∧ inI n := by
  obtain ⟨y0, y1, y2, y3, y4, y5, y6, y7, y8, n, hl, f0, f1, f2, f3, f4, f5, f6, f7, f8⟩ := trod_structs9 Tryz.underlying63 h
  rw [Tryz.cells63] at hl
  obtain ⟨a, b, c, d, e, f, g, i, j, k, l, m, n', o, rfl⟩ := list14 hl
  simp only [Tryz.cells3, List.drop_zero, List.take_succ_cons, List.take_zero] at f0
  simp only [Tryz.cells3, List.drop_succ_cons, List.drop_zero, List.take_succ_cons, List.take_zero] at f1
  simp only [Tryz.cells9, List.drop_succ_cons, List.drop_zero, List.take_succ_cons, List.take_zero] at f2
  simp only [Tryz.cells32, List.drop_succ_cons, List.drop_zero, List.take_succ_cons, List.take_zero] at f3
  simp only [Tryz.cells33, List.drop_succ_cons, List.drop_zero, List.take_succ_cons, List.take_zero] at f4
  simp only [Tryz.cells3, List.drop_succ_cons, List.drop_zero, List.take_succ_cons, List.take_zero] at f5
  simp only [Tryz.cells3, List.drop_succ_cons, List.drop_zero, List.take_succ_cons, List.take_zero] at f6
  simp only [Tryz.cells39, List.drop_succ_cons, List.drop_zero, List.take_succ_cons, List.take_zero] at f7
  simp only [Tryz.cells3, List.drop_succ_cons, List.drop_zero, List.take_succ_cons, List.take_zero] at f8
  obtain ⟨v0, g0, _, _⟩ := DataW.trod_int Tryz.underlying3 f0
  obtain ⟨v1, g1, _, w1⟩ := DataW.trod_int Tryz.underlying3 f1
  obtain ⟨v2, g2, _, _⟩ := DataW.trod_string Tryz.underlying9 f2
  obtain ⟨z0, z1, z2, n3, _, r0, r1, r2⟩ := trod_structs3 Tryz.underlying32 f3
  simp only [Tryz.cells4, List.drop_succ_cons, List.drop_zero, List.take_succ_cons, List.take_zero] at r0 r1 r2
  obtain ⟨u0, s0, _⟩ := DataW.trod_bool Tryz.underlying4 r0
  obtain ⟨u1, s1, _⟩ := DataW.trod_bool Tryz.underlying4 r1
  obtain ⟨u2, s2, _⟩ := DataW.trod_bool Tryz.underlying4 r2
  obtain ⟨v5, g5, _, _⟩ := DataW.trod_int Tryz.underlying3 f5
  obtain ⟨v6, g6, _, _⟩ := DataW.trod_int Tryz.underlying3 f6
  obtain ⟨v8, g8, _, _⟩ := DataW.trod_int Tryz.underlying3 f8
  obtain ⟨t0, t1, t2, t3, n7, _, k0, k1, k2, k3⟩ := trod_structs4 Tryz.underlying39 f7
  simp only [Tryz.cells3, List.drop_succ_cons, List.drop_zero, List.take_succ_cons, List.take_zero] at k0 k1 k2 k3
  obtain ⟨l1, m1, _, _⟩ := DataW.trod_int Tryz.underlying3 k0
  obtain ⟨l2, m2, _, _⟩ := DataW.trod_int Tryz.underlying3 k1
  obtain ⟨l3, m3, _, _⟩ := DataW.trod_int Tryz.underlying3 k2
  obtain ⟨l4, m4, _, _⟩ := DataW.trod_int Tryz.underlying3 k3
  obtain ⟨ao, om, oc, hg⟩ : ∃ ao om oc, g = .slice ao om oc := by
    rcases open_slice Tryz.underlying33 f4 with ⟨e, _⟩ | ⟨a', len, cap, _, _, _, _, e, _⟩
    · exact ⟨_, _, _, by simpa using e⟩
    · exact ⟨_, _, _, by simpa using e⟩
  simp only [List.cons.injEq, and_true] at g0 g1 g2 s0 s1 s2 g5 g6 g8 m1 m2 m3 m4
  subst g0 g1 g2 s0 s1 s2 g5 g6 g8 m1 m2 m3 m4 hg
  refine ⟨v0, v1, v2, u0, u1, u2, ao, om, oc, v5, v6, l1, l2, l3, l4, v8, rfl, ?_⟩
  have := w1
  simp [Lit.wf, IntKind.min, IntKind.max, IntKind.bits, IntKind.signed] at this
  unfold inI
  omega

set_option maxRecDepth 100000 in
/-- A script. -/
theorem open_script {v : Value} {d : DataW H} {p : List MemPlace} (hv : ∃ a l c, v = .slice a l c) (h : DataW.Trod enc Tryz.prog w 0 (fun _ => true) true 22 v d p) (hw : (d.weights Tryz.prog 22).all (· ≤ reachBytes) = true) : ∃ n, ScriptIs w v n ∧ n ≤ 1500000000000 := by
  obtain ⟨fuel, h⟩ := h
  obtain ⟨a0, l0, c0, rfl⟩ := hv
  rcases open_slice Tryz.underlying22 h with ⟨e, _⟩ | ⟨a, len, cap, m, n, D, Pl, e, hb, hl, hm, hmm, hx, hall⟩
  · simp only [Value.cells, List.cons.injEq, Value.slice.injEq, and_true] at e
    obtain ⟨rfl, rfl, rfl⟩ := e
    exact ⟨0, ⟨none, 0, rfl, fun k hk => absurd hk (Nat.not_lt_zero _)⟩, by omega⟩
  · simp only [Value.cells, List.cons.injEq, Value.slice.injEq, and_true] at e
    obtain ⟨rfl, rfl, rfl⟩ := e
    simp only [if_true] at hmm
    subst hmm
    simp only [Prod.mk.injEq] at hx
    obtain ⟨rfl, rfl⟩ := hx
    refine ⟨_, ⟨some a, _, rfl, ?_⟩, ?_⟩
    · intro k hk
      obtain ⟨cs', h1, h2⟩ := hall k (by omega)
      rw [Tryz.cells63] at h1
      obtain ⟨_, hlen, hcell⟩ := World.cells?_some h1
      obtain ⟨kind, n', s, b0, b1, b2, ao, om, oc, en, ce, l1, l2, l3, l4, fu, rfl, hin⟩ := open_op h2
      have hspot : a.spot = none ∧ a.block < w.heap.size := by
        obtain ⟨cs0, hc0, _⟩ := hall 0 (by omega)
        rw [Tryz.cells63] at hc0
        obtain ⟨_, hl0, hcell0⟩ := World.cells?_some hc0
        have h0 := hcell0 0 (by decide)
        have e2 : (a.add (0 * 14)).add 0 = a := by
          rw [Deep.add_add, Nat.zero_mul]
          rfl
        rw [e2, List.getElem?_eq_getElem (by omega)] at h0
        unfold World.cell? at h0
        split at h0
        · rename_i hh
          refine ⟨?_, lt_of_block hh⟩
          split at h0
          · cases h0
          · rename_i hn
            simpa using hn
        · cases h0
      refine ⟨a.block, a.off, _, ?_, hspot.2, ⟨kind, n', s, b0, b1, b2, ao, om, oc, en, ce, l1, l2, l3, l4, fu, rfl, hin⟩, ?_⟩
      · have := hspot.1
        cases a
        simp only at this
        subst this
        rfl
      · intro i hi
        have := hcell i hi
        rw [Array.getElem?_toList] at this
        rw [← this, Deep.add_add]
        have e3 : a.add (k * 14 + i) = ⟨a.block, a.off + k * 14 + i, none⟩ := by
          unfold Addr.add
          split
          · rename_i e0
            have := hspot.1
            cases a
            simp only at this
            subst this
            simp only [Addr.mk.injEq, and_true, true_and]
            omega
          · simp only [Addr.mk.injEq, and_true, true_and]
            omega
        rw [e3]
    · unfold DataW.weights at hw
      rw [Tryz.underlying22] at hw
      simp only [List.all_cons, Bool.and_eq_true, decide_eq_true_eq, List.length_map, List.length_range, Tryz.bytesOp] at hw
      have := hw.1
      unfold reachBytes at this
      omega

end
end Go.Proofs.YtmeiikjpaepogaaGreatDoor

/- The program: small functions of its packages tokens and compiler. -/
namespace Go.Proofs.YtmeiikjpaepogaaGreatDoor
open Go Go.RowKit

set_option maxHeartbeats 400000 in
theorem isGap_any (c : UInt8) (w : World) :
    Calls Tryz.prog 141 #[.int .u8 c.toNat] w fun e w' => e = .returned (.bool (gapB c)) ∧ w' = w := by
  have h1 : gapB c = (((c.toNat : Int) == 32) || ((c.toNat : Int) == 10)) := by
    unfold gapB
    have e1 : (c == 32) = ((c.toNat : Int) == 32) := by
      rw [Bool.eq_iff_iff]
      simp only [beq_iff_eq]
      constructor
      · rintro rfl; rfl
      · intro h; apply UInt8.toNat_inj.1; have : (32 : UInt8).toNat = 32 := rfl; omega
    have e2 : (c == 10) = ((c.toNat : Int) == 10) := by
      rw [Bool.eq_iff_iff]
      simp only [beq_iff_eq]
      constructor
      · rintro rfl; rfl
      · intro h; apply UInt8.toNat_inj.1; have : (10 : UInt8).toNat = 10 := rfl; omega
    rw [e1, e2]
  rw [h1]
  generalize (c.toNat : Int) = z
  by_cases hz : z = 32
  · subst hz
    go_enter Tryz.func141, Tryz.ntmps141
    go_wp2
    go_ret
    exact ⟨rfl, rfl⟩
  · by_cases hz2 : z = 10
    · subst hz2
      go_enter Tryz.func141, Tryz.ntmps141
      go_wp2
      go_ret
      exact ⟨rfl, rfl⟩
    · go_enter Tryz.func141, Tryz.ntmps141
      go_wp2
      go_ret
      exact ⟨rfl, rfl⟩

theorem Tryz.sizeInstr : (Tryz.prog.info? 65).map (fun i => i.size) = some 2 := by kernel_rfl

set_option maxHeartbeats 400000 in
theorem plainI_any (op : Int) (w : World) :
    Calls Tryz.prog 51 #[.int .i64 op] w fun e w' => e = .returned (.agg #[.int .i64 op, .int .i64 0]) ∧ w' = w.alloc (.cells #[.int .i64 op, .int .i64 0] 65) := by
  go_enter Tryz.func51, Tryz.ntmps51
  go_wp2_with fail
  refine bodyPost_ret (results_cell_row (P := Tryz.prog) rfl _ _ w.heap.size 65 _ (0, 0) _ rfl (Blk.new w _ _) Tryz.underlying65 rfl Tryz.sizeInstr) rfl ?_
  exact ⟨rfl, rfl⟩

set_option maxHeartbeats 400000 in
theorem withI_any (op arg : Int) (w : World) :
    Calls Tryz.prog 77 #[.int .i64 op, .int .i64 arg] w fun e w' => e = .returned (.agg #[.int .i64 op, .int .i64 arg]) ∧ w' = w.alloc (.cells #[.int .i64 op, .int .i64 arg] 65) := by
  go_enter Tryz.func77, Tryz.ntmps77
  go_wp2_with fail
  refine bodyPost_ret (results_cell_row (P := Tryz.prog) rfl _ _ w.heap.size 65 _ (0, 0) _ rfl (Blk.new w _ _) Tryz.underlying65 rfl Tryz.sizeInstr) rfl ?_
  exact ⟨rfl, rfl⟩

set_option maxHeartbeats 400000 in
theorem partNext_any (d n : Nat) (ao : Option Addr) (cap : Nat) (w : World) (h : Blk w d #[.slice ao n cap] 140) (hn : n ≤ 100000) :
    Calls Tryz.prog 78 #[.pointer (some ⟨d, 0, none⟩)] w fun e w' => e = .returned (.int .i64 n) ∧ w' = w := by
  have hc := h.cell
  have hnI : (n : Int) ≤ 100000 := by omega
  have hw : IntKind.i64.wrap (n : Int) = n := by rw [IntKind.wrap_i64]; omega
  go_enter Tryz.func78, Tryz.ntmps78
  go_wp2
  go_ret
  exact ⟨rfl, rfl⟩

set_option maxRecDepth 100000 in
set_option maxHeartbeats 2000000 in
/-- One instruction more. -/
theorem partAdd_any (B d q : Nat) (v : Value) (l : List (Int × Int)) (op arg : Int) (c1 : Nat) (w : World) (h : Blk w d #[v] 140) (ho : w.ownsRow B 65 2 v l.length (instrCells l)) (hq : Blk w q #[.int .i64 op, .int .i64 arg] 65) (hB : B ≤ w.heap.size) (hl : l.length < 50000) :
    Calls Tryz.prog 50 #[.pointer (some ⟨d, 0, none⟩), .slice (some ⟨q, 0, none⟩) 1 c1] w fun e w' => e = .returned (.int .i64 l.length) ∧ ∃ g cap w1, w1.ownsRow B 65 2 (.slice (some ⟨g, 0, none⟩) (l.length + 1) cap) (l.length + 1) (instrCells (l ++ [(op, arg)])) ∧ w.grownBy w1 v.ownBlock ∧ (v.ownBlock = some g ∨ g = w.heap.size) ∧ w' = w1.setCell ⟨d, 0, none⟩ (.slice (some ⟨g, 0, none⟩) (l.length + 1) cap) := by
  obtain ⟨iI, hiI, hzI0, hzI1, hzI2⟩ := info_parts Tryz.infoInstr
  obtain ⟨ao, cap, hv⟩ := own_shape ho
  subst hv
  have HN := hide (partNext_any d l.length ao cap w h (by omega))
  have hc := h.cell
  have hf := h.free
  have hne : some d ≠ (Value.slice ao l.length cap).ownBlock := fun e => row_not_blk h ho (by decide) e.symm
  have HO := hide ho
  have HQ := hide hq
  have HB := hide hB
  have HH := hide h
  clear ho hq hB h
  go_enter Tryz.func50, Tryz.ntmps50
  go_wp2_with fail
  refine (unhide HN).mono ?_
  rintro e w2 ⟨rfl, hw⟩
  obtain rfl := hw.symm
  clear hw HN
  go_wp2_with (at_builtin; refine wpList_append_lies _ rfl (.tmp 12) (.tmp 13) 33 rfl B 65 iI _ 2 16 Tryz.underlying33 hiI hzI0 hzI1 hzI2 rfl (by decide) (.slice ao l.length cap) l.length (instrCells l) (by simp [Act.eval]) (unhide HO) ⟨q, 0, none⟩ 1 c1 [.int .i64 op, .int .i64 arg] (by simp [Act.eval]) rfl (World.news_of_block (unhide HQ)) (by simp [Value.oneCell']) (by omega) (by unfold maxLen; omega) (by omega) (unhide HB) _ rfl ?_; intro g cap2 w5 hown hgrow hat hlt1; have hb5 := (unhide HH).grown hgrow hne; have hc5 := hb5.cell; have hf5 := hb5.free; have HOW := hide hown; have HG := hide hgrow; have HA := hide hat; clear hown hgrow hat hb5 hc hf)
  go_ret
  refine ⟨rfl, g, cap2, w5, ?_, unhide HG, unhide HA, rfl⟩
  have := unhide HOW
  simpa [instrCells] using this

theorem blk_two (w : World) (o : Obj) (cs : Array Value) (T : TypeId) : Blk ((w.alloc o).alloc (.cells cs T)) (w.heap.size + 1) cs T := by
  have h := Blk.new (w.alloc o) cs T
  have e : (w.alloc o).heap.size = w.heap.size + 1 := by simp
  rw [e] at h
  exact h

set_option maxRecDepth 100000 in
set_option maxHeartbeats 400000 in
theorem moved_any (op arg by' : Int) (w : World) :
    Calls Tryz.prog 150 #[.agg #[.int .i64 op, .int .i64 arg], .int .i64 by'] w fun e w' => e = .returned (.agg #[.int .i64 (shiftS by' (op, arg)).1, .int .i64 (shiftS by' (op, arg)).2]) ∧ Below w.heap.size w w' := by
  go_enter Tryz.func150, Tryz.ntmps150
  go_wp2_with fail
  all_goals
    refine bodyPost_ret (results_cell_row (P := Tryz.prog) rfl _ _ (w.heap.size + 1) 65 _ (0, 0) _ rfl (blk_two w _ _ _) Tryz.underlying65 rfl Tryz.sizeInstr) rfl ?_
    refine ⟨?_, ((Below.refl _ _).alloc (Nat.le_refl _) _).alloc (by simp) _⟩
    rw [shiftS_eq]
    simp_all [jumpB]

end Go.Proofs.YtmeiikjpaepogaaGreatDoor

/- The program's vocabulary. -/
namespace Go.Proofs.YtmeiikjpaepogaaGreatDoor
open Go Go.RowKit

def vocab : List (ByteArray × Int × Int) := [(⟨#[43]⟩, 0, 9), (⟨#[45]⟩, 0, 10), (⟨#[42]⟩, 0, 11), (⟨#[47]⟩, 0, 12), (⟨#[109, 111, 100]⟩, 0, 13), (⟨#[97, 110, 100]⟩, 0, 14), (⟨#[111, 114]⟩, 0, 15), (⟨#[120, 111, 114]⟩, 0, 16), (⟨#[105, 110, 118, 101, 114, 116]⟩, 0, 17), (⟨#[110, 101, 103, 97, 116, 101]⟩, 0, 18), (⟨#[61]⟩, 0, 19), (⟨#[60]⟩, 0, 20), (⟨#[100, 117, 112]⟩, 0, 21), (⟨#[100, 114, 111, 112]⟩, 0, 22), (⟨#[115, 119, 97, 112]⟩, 0, 23), (⟨#[111, 118, 101, 114]⟩, 0, 24), (⟨#[114, 111, 116]⟩, 0, 25), (⟨#[62, 114]⟩, 0, 26), (⟨#[114, 62]⟩, 0, 27), (⟨#[114, 64]⟩, 0, 28), (⟨#[33]⟩, 0, 29), (⟨#[64]⟩, 0, 30), (⟨#[101, 109, 105, 116]⟩, 0, 31), (⟨#[46]⟩, 0, 32), (⟨#[105]⟩, 0, 8), (⟨#[58]⟩, 1, 0), (⟨#[118, 97, 114, 105, 97, 98, 108, 101]⟩, 2, 0), (⟨#[99, 111, 110, 115, 116, 97, 110, 116]⟩, 3, 0), (⟨#[114, 101, 99, 117, 114, 115, 101]⟩, 4, 0), (⟨#[105, 102]⟩, 5, 0), (⟨#[98, 101, 103, 105, 110]⟩, 6, 0), (⟨#[100, 111]⟩, 7, 0), (⟨#[59]⟩, 8, 0), (⟨#[116, 104, 101, 110]⟩, 8, 0), (⟨#[101, 108, 115, 101]⟩, 8, 0), (⟨#[117, 110, 116, 105, 108]⟩, 8, 0), (⟨#[119, 104, 105, 108, 101]⟩, 8, 0), (⟨#[114, 101, 112, 101, 97, 116]⟩, 8, 0), (⟨#[108, 111, 111, 112]⟩, 8, 0)]
def vocA : Array Value := (nameCells vocab).toArray
theorem vocA_size : vocA.size = 117 := by decide
theorem vocab_length : vocab.length = 39 := rfl
theorem vocA_at (k : Nat) (x : ByteArray × Int × Int) (h : vocab[k]? = some x) : vocA.extract (k * 3) (k * 3 + 3) = #[.string x.1, .int .i64 x.2.1, .int .i64 x.2.2] := by
  have hk : k < 39 := by have := (List.getElem?_eq_some_iff.1 h).1; rw [vocab_length] at this; exact this
  have h2 : vocab[k]? = some vocab[k] := List.getElem?_eq_getElem (by rw [vocab_length]; exact hk)
  rw [h2] at h
  obtain rfl := Option.some.inj h
  match k, hk with
  | 0, _ => rfl
  | 1, _ => rfl
  | 2, _ => rfl
  | 3, _ => rfl
  | 4, _ => rfl
  | 5, _ => rfl
  | 6, _ => rfl
  | 7, _ => rfl
  | 8, _ => rfl
  | 9, _ => rfl
  | 10, _ => rfl
  | 11, _ => rfl
  | 12, _ => rfl
  | 13, _ => rfl
  | 14, _ => rfl
  | 15, _ => rfl
  | 16, _ => rfl
  | 17, _ => rfl
  | 18, _ => rfl
  | 19, _ => rfl
  | 20, _ => rfl
  | 21, _ => rfl
  | 22, _ => rfl
  | 23, _ => rfl
  | 24, _ => rfl
  | 25, _ => rfl
  | 26, _ => rfl
  | 27, _ => rfl
  | 28, _ => rfl
  | 29, _ => rfl
  | 30, _ => rfl
  | 31, _ => rfl
  | 32, _ => rfl
  | 33, _ => rfl
  | 34, _ => rfl
  | 35, _ => rfl
  | 36, _ => rfl
  | 37, _ => rfl
  | 38, _ => rfl

theorem Tryz.infoMeaning : (Tryz.prog.info? 146).map (fun i => i.size) = some 3 := by kernel_rfl
theorem Tryz.sizeVocab : (Tryz.prog.info? 194).map (fun i => i.size) = some 117 := by kernel_rfl
theorem voc_index (k : Nat) (x : ByteArray × Int × Int) (h : vocab[k]? = some x) (W : World) :
    (Instr.index 194 (.agg vocA) (.int .i64 (k : Int))).run Tryz.prog W = .ok (.agg #[.string x.1, .int .i64 x.2.1, .int .i64 x.2.2]) W := by
  have hk : k < 39 := by have := (List.getElem?_eq_some_iff.1 h).1; rw [vocab_length] at this; exact this
  have hx := vocA_at k x h
  cases hq : Tryz.prog.info? 146 with
  | none => have := Tryz.infoMeaning; rw [hq] at this; cases this
  | some i =>
    have hs : i.size = 3 := by have := Tryz.infoMeaning; rw [hq] at this; simpa using this
    have hc : (0 : Int) ≤ (k : Int) ∧ (k : Int) < 39 := by omega
    simp [Instr.index, run_underlying Tryz.underlying194, asIntOf, sizeOf, typeInfo, hq, hs, hc, Sem.run_bind]
    rw [if_pos hk]
    have hagg : (isAgg 146).run Tryz.prog W = .ok true W := by
      unfold isAgg
      rw [Sem.run_bind, run_underlying Tryz.underlying146 W]
      rfl
    simp [part, Sem.run_bind, hagg, sizeOf, typeInfo, hq, hs, hx]

/-- What a token means by itself. -/
def meanS (s : ByteArray) : Option (ByteArray × Int × Int) := vocab.find? (fun x => x.1.toList == s.toList)
def meanV (s : ByteArray) : Value := match meanS s with | some x => .agg #[.string x.1, .int .i64 x.2.1, .int .i64 x.2.2] | none => .agg #[.string ⟨#[]⟩, .int .i64 0, .int .i64 0]
theorem mean_hit (s : ByteArray) (k : Nat) (x : ByteArray × Int × Int) (hx : vocab[k]? = some x) (hall : ∀ (j : Nat) (y : ByteArray × Int × Int), j < k → vocab[j]? = some y → (y.1.toList == s.toList) = false) (he : (x.1.toList == s.toList) = true) : meanS s = some x := by
  unfold meanS
  rw [List.find?_eq_some_iff_getElem]
  obtain ⟨hk, rfl⟩ := List.getElem?_eq_some_iff.1 hx
  refine ⟨he, k, hk, rfl, ?_⟩
  intro j hj
  have := hall j _ hj (List.getElem?_eq_getElem (by omega))
  simp [this]
theorem mean_none (s : ByteArray) (hall : ∀ (j : Nat) (y : ByteArray × Int × Int), vocab[j]? = some y → (y.1.toList == s.toList) = false) : meanS s = none := by
  unfold meanS
  rw [List.find?_eq_none]
  intro x hx
  obtain ⟨j, hj⟩ := List.getElem?_of_mem hx
  simp [hall j x hj]

theorem results_row_tmp {P : Program} {fn : Func} {p u : Tmp} {ty : TypeId} (h : fn.results = #[.cell p ty, .tmp u]) (tmps : Array Value) (w : World) (g : Nat) (t : TypeId) (cs : Array Value) (fr : Nat × Nat) (d : TypeDesc)
    (hp : tmps.getD p undef = .pointer (some ⟨g, 0, none⟩)) (hg : w.heap[g]? = some (.cells cs t fr))
    (hu : P.underlying ty = some d) (hd : (match d with | .struct _ | .array _ _ => true | _ => false) = true) (hi : (P.info? ty).map (·.size) = some cs.size) :
    (results fn tmps).run P w = .ok (.tuple #[.agg cs, tmps.getD u undef]) w := by
  rw [results_cell_tmp h, hp]
  simp [asAddr, run_loadVar_row w g t ty cs fr d hg hu hd hi]
theorem three_set {w : World} {b : Nat} {cs : Array Value} {T : TypeId} {x0 x1 x2 y0 y1 y2 : Value} (h : Blk w b cs T) (hcs : cs = #[x0, x1, x2]) :
    Blk (((w.setCell ⟨b, 0, none⟩ y0).setCell ⟨b, 1, none⟩ y1).setCell ⟨b, 2, none⟩ y2) b #[y0, y1, y2] T := by
  subst hcs
  have h5 := ((h.set 0 y0).set 1 y1).set 2 y2
  simpa only [List.setIfInBounds_toArray, List.set_cons_succ, List.set_cons_zero] using h5

/-- The vocabulary's block. -/
def VocOk (w : World) : Prop := (∃ T fr, w.heap[0]? = some (.cells vocA T fr)) ∧ 6 ≤ w.heap.size
theorem VocOk.below {w w' : World} (h : VocOk w) (hb : Below w.heap.size w w') : VocOk w' := by
  obtain ⟨⟨T, fr, h1⟩, h2⟩ := h
  exact ⟨⟨T, fr, by rw [hb.block _ (by omega)]; exact h1⟩, by have := hb.size; omega⟩

set_option maxRecDepth 100000 in
set_option maxHeartbeats 4000000 in
theorem meaning_any (s : ByteArray) (w : World) (hV : VocOk w) :
    Calls Tryz.prog 74 #[.string s] w fun e w' => e = .returned (.tuple #[meanV s, .bool (meanS s).isSome]) ∧ Below w.heap.size w w' := by
  obtain ⟨⟨T, fr, hv⟩, h6⟩ := hV
  have hvA : (w.alloc (.cells #[.string ⟨#[]⟩, .int .i64 0, .int .i64 0] 146)).heap[0]? = some (.cells vocA T fr) := by
    rw [Below.heap_alloc _ _ _ (by omega)]; exact hv
  have HV := hide hvA
  have HR0 := hide (Blk.new w #[.string ⟨#[]⟩, .int .i64 0, .int .i64 0] 146)
  have hsz : (Tryz.prog.info? 194).map (fun i => i.size) = some vocA.size := by rw [vocA_size]; exact Tryz.sizeVocab
  have HSZ := hide hsz
  have HIX := hide voc_index
  have HLEN := hide vocab_length
  clear hv hvA hsz
  go_enter Tryz.func74, Tryz.ntmps74
  go_wp2_with (refine wpList_load_row rfl 194 _ rfl 0 rfl T vocA fr _ (unhide HV) Tryz.underlying194 rfl (unhide HSZ) ?_)
  clear HV HSZ
  generalize vocA = vA at HIX ⊢
  go_loopw [7] (fun i wr => ∃ k : Nat, i = .int .i64 k ∧ k ≤ 39 ∧ (∀ (j : Nat) (y : ByteArray × Int × Int), j < k → vocab[j]? = some y → (y.1.toList == s.toList) = false) ∧ Blk wr w.heap.size #[.string ⟨#[]⟩, .int .i64 0, .int .i64 0] 146 ∧ Below w.heap.size w wr) (fun i _ => 39 - (intOf i).toNat)
  case atStart => exact ⟨0, rfl, by omega, fun j y hj => by omega, unhide HR0, (Below.refl _ _).alloc (Nat.le_refl _) _⟩
  case round =>
    clear HR0
    obtain ⟨k, rfl, hk, hall, hr, hb⟩ := hrel
    have HALL := hide hall
    have HB := hide hb
    have HR := hide hr
    have hc := hr.cell
    have hf := hr.free
    have hl := hr.lt
    clear hall hb hr
    by_cases hlt : k < 39
    · obtain ⟨x, hx⟩ : ∃ x, vocab[k]? = some x := ⟨_, List.getElem?_eq_getElem (by rw [unhide HLEN]; exact hlt)⟩
      have hidx := unhide HIX k x hx
      have HX := hide hx
      have hltI : (k : Int) < 39 := by omega
      clear hx
      cases he : (x.1.toList == s.toList)
      · go_wp2_with fail
        go_roundw
        case rel =>
          refine ⟨k + 1, by go_num, by omega, ?_, (unhide HR).alloc _, (unhide HB).alloc (unhide HB).size _⟩
          intro j y hj hy
          rcases Nat.lt_or_ge j k with h1 | h1
          · exact unhide HALL j y h1 hy
          · have : j = k := by omega
            subst this
            rw [unhide HX] at hy
            obtain rfl := Option.some.inj hy
            exact he
        case measure => simp [intOf]; omega
      · have hm := mean_hit s k x (unhide HX) (unhide HALL) he
        have HM := hide hm
        clear hm
        go_wp2_with fail
        refine bodyPost_ret (results_row_tmp (P := Tryz.prog) rfl _ _ w.heap.size 146 _ (0, 0) _ rfl ((three_set (unhide HR) rfl).alloc _) Tryz.underlying146 rfl Tryz.infoMeaning) rfl ?_
        unfold meanV
        rw [unhide HM]
        exact ⟨rfl, ((((unhide HB).setCell (Nat.le_refl _) _).setCell (Nat.le_refl _) _).setCell (Nat.le_refl _) _).alloc (by have := (unhide HB).size; simpa using this) _⟩
    · have hkn : k = 39 := by omega
      subst hkn
      have hm := mean_none s (fun j y hy => unhide HALL j y (by have := (List.getElem?_eq_some_iff.1 hy).1; rw [unhide HLEN] at this; exact this) hy)
      have HM := hide hm
      clear hm
      go_wp2_with fail
      refine bodyPost_ret (results_row_tmp (P := Tryz.prog) rfl _ _ w.heap.size 146 _ (0, 0) _ rfl (three_set (unhide HR) rfl) Tryz.underlying146 rfl Tryz.infoMeaning) rfl ?_
      unfold meanV
      rw [unhide HM]
      exact ⟨rfl, (((unhide HB).setCell (Nat.le_refl _) _).setCell (Nat.le_refl _) _).setCell (Nat.le_refl _) _⟩

end Go.Proofs.YtmeiikjpaepogaaGreatDoor

