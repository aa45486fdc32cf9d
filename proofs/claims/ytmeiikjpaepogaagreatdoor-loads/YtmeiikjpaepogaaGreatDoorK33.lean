/- The script as it came in: its cells. -/
import Derived.Test.YtmeiikjpaepogaaGreatDoorK24
import Derived.ProofKit
import Derived.OpenShut
import Derived.Deep.Slices
import Derived.Deep.DeepHandedRow
import Derived.Test.YtmeiikjpaepogaaGreatDoorK32
import Derived.MakeChecks
import Derived.Deep.Strs
import Derived.LaidMore
import Derived.Stop.Joined
namespace Go.Proofs.YtmeiikjpaepogaaGreatDoor
open Go Go.RowKit Go.ChangeShapes Go.WideShapes Go.ChangeAt Go.Deep

theorem Tryz.cells63 : Tryz.prog.cellsOf 63 = 14 := by kernel_rfl
theorem Tryz.bytesOp : Tryz.prog.bytesOf 63 = 120 := by kernel_rfl
theorem Tryz.cells3 : Tryz.prog.cellsOf 3 = 1 := by kernel_rfl
theorem Tryz.cells9 : Tryz.prog.cellsOf 9 = 1 := by kernel_rfl
theorem Tryz.cells4 : Tryz.prog.cellsOf 4 = 1 := by kernel_rfl
theorem Tryz.cells32 : Tryz.prog.cellsOf 32 = 3 := by kernel_rfl
theorem Tryz.cells33 : Tryz.prog.cellsOf 33 = 1 := by kernel_rfl
theorem Tryz.cells39 : Tryz.prog.cellsOf 39 = 4 := by kernel_rfl

section
variable {H : Type} {enc : TypeId × Value → H} {w : World} {base : Nat} {spare : Nat → Bool} {held : Bool}
theorem list14 {cs : List Value} (h : cs.length = 14) : ∃ a b c d e f g i j k l m n o, cs = [a, b, c, d, e, f, g, i, j, k, l, m, n, o] := by
  match cs, h with
  | [a, b, c, d, e, f, g, i, j, k, l, m, n, o], _ => exact ⟨a, b, c, d, e, f, g, i, j, k, l, m, n, o, rfl⟩

theorem trod_structs3 {P : Program} {t : TypeId} {f0 f1 f2 : Field} {fuel : Nat} {cs : List Value} {x : DataW H × List MemPlace} (ht : P.underlying t = some (.struct #[f0, f1, f2])) (h : DataW.trod enc P w base spare held fuel t cs = some x) :
    ∃ y0 y1 y2 n, cs.length = P.cellsOf t ∧ DataW.trod enc P w base spare held n f0.type ((cs.drop f0.offset).take (P.cellsOf f0.type)) = some y0 ∧ DataW.trod enc P w base spare held n f1.type ((cs.drop f1.offset).take (P.cellsOf f1.type)) = some y1 ∧ DataW.trod enc P w base spare held n f2.type ((cs.drop f2.offset).take (P.cellsOf f2.type)) = some y2 := by
  obtain ⟨xs, n, _, rfl, hl, hlen, hf⟩ := DataW.trod_struct ht h
  match xs, hlen with
  | [y0, y1, y2], _ => exact ⟨y0, y1, y2, n, hl, by simpa using hf 0 f0 rfl, by simpa using hf 1 f1 rfl, by simpa using hf 2 f2 rfl⟩
theorem trod_structs4 {P : Program} {t : TypeId} {f0 f1 f2 f3 : Field} {fuel : Nat} {cs : List Value} {x : DataW H × List MemPlace} (ht : P.underlying t = some (.struct #[f0, f1, f2, f3])) (h : DataW.trod enc P w base spare held fuel t cs = some x) :
    ∃ y0 y1 y2 y3 n, cs.length = P.cellsOf t ∧ DataW.trod enc P w base spare held n f0.type ((cs.drop f0.offset).take (P.cellsOf f0.type)) = some y0 ∧ DataW.trod enc P w base spare held n f1.type ((cs.drop f1.offset).take (P.cellsOf f1.type)) = some y1 ∧ DataW.trod enc P w base spare held n f2.type ((cs.drop f2.offset).take (P.cellsOf f2.type)) = some y2 ∧ DataW.trod enc P w base spare held n f3.type ((cs.drop f3.offset).take (P.cellsOf f3.type)) = some y3 := by
  obtain ⟨xs, n, _, rfl, hl, hlen, hf⟩ := DataW.trod_struct ht h
  match xs, hlen with
  | [y0, y1, y2, y3], _ => exact ⟨y0, y1, y2, y3, n, hl, by simpa using hf 0 f0 rfl, by simpa using hf 1 f1 rfl, by simpa using hf 2 f2 rfl, by simpa using hf 3 f3 rfl⟩
theorem trod_structs9 {P : Program} {t : TypeId} {f0 f1 f2 f3 f4 f5 f6 f7 f8 : Field} {fuel : Nat} {cs : List Value} {x : DataW H × List MemPlace} (ht : P.underlying t = some (.struct #[f0, f1, f2, f3, f4, f5, f6, f7, f8])) (h : DataW.trod enc P w base spare held fuel t cs = some x) :
    ∃ y0 y1 y2 y3 y4 y5 y6 y7 y8 n, cs.length = P.cellsOf t ∧ DataW.trod enc P w base spare held n f0.type ((cs.drop f0.offset).take (P.cellsOf f0.type)) = some y0 ∧ DataW.trod enc P w base spare held n f1.type ((cs.drop f1.offset).take (P.cellsOf f1.type)) = some y1 ∧ DataW.trod enc P w base spare held n f2.type ((cs.drop f2.offset).take (P.cellsOf f2.type)) = some y2 ∧ DataW.trod enc P w base spare held n f3.type ((cs.drop f3.offset).take (P.cellsOf f3.type)) = some y3 ∧ DataW.trod enc P w base spare held n f4.type ((cs.drop f4.offset).take (P.cellsOf f4.type)) = some y4 ∧ DataW.trod enc P w base spare held n f5.type ((cs.drop f5.offset).take (P.cellsOf f5.type)) = some y5 ∧ DataW.trod enc P w base spare held n f6.type ((cs.drop f6.offset).take (P.cellsOf f6.type)) = some y6 ∧ DataW.trod enc P w base spare held n f7.type ((cs.drop f7.offset).take (P.cellsOf f7.type)) = some y7 ∧ DataW.trod enc P w base spare held n f8.type ((cs.drop f8.offset).take (P.cellsOf f8.type)) = some y8 := by
  obtain ⟨xs, n, _, rfl, hl, hlen, hf⟩ := DataW.trod_struct ht h
  match xs, hlen with
  | [y0, y1, y2, y3, y4, y5, y6, y7, y8], _ => exact ⟨y0, y1, y2, y3, y4, y5, y6, y7, y8, n, hl, by simpa using hf 0 f0 rfl, by simpa using hf 1 f1 rfl, by simpa using hf 2 f2 rfl, by simpa using hf 3 f3 rfl, by simpa using hf 4 f4 rfl, by simpa using hf 5 f5 rfl, by simpa using hf 6 f6 rfl, by simpa using hf 7 f7 rfl, by simpa using hf 8 f8 rfl⟩
/-- One step of a script. -/
theorem open_op {fuel : Nat} {cs : List Value} {x : DataW H × List MemPlace} (h : DataW.trod enc Tryz.prog w base spare held fuel 63 cs = some x) :
    ∃ kind n s b0 b1 b2 ao m c en ce l1 l2 l3 l4 fu, cs = (opC kind n s b0 b1 b2 (.slice ao m c) en ce l1 l2 l3 l4 fu).toList ∧ inI n := by
  obtain ⟨y0, y1, y2, y3, y4, y5, y6, y7, y8, n, hl, f0, f1, f2, f3, f4, f5, f6, f7, f8⟩ := trod_structs9 Tryz.underlying63 h
  rw [Tryz.cells63] at hl
  obtain ⟨a, b, c, d, e, f, g, i, j, k, l, m, n', o, rfl⟩ := list14 hl
  simp only [Tryz.cells3, List.drop_zero, List.take_succ_cons, List.take_zero] at f0
  simp only [Tryz.cells3, List.drop_succ_cons, List.drop_zero, List.take_succ_cons, List.take_zero] at f1
  simp only [Tryz.cells9, List.drop_succ_cons, List.drop_zero, List.take_succ_cons, List.take_zero] at f2
  simp only [Tryz.cells32, List.drop_succ_cons, List.drop_zero, List.take_succ_cons, List.take_zero] at f3
  simp only [Tryz.cells33, List.drop_succ_cons, List.drop_zero, List.take_succ_cons, List.take_zero] at f4
  simp only [Tryz.cells3, List.drop_succ_cons, List.drop_zero, List.take_succ_cons, List.take_zero] at f5
  simp only [Tryz.cells3, List.drop_succ_cons, List.drop_zero, List.take_succ_cons, List.take_zero] at f6
  simp only [Tryz.cells39, List.drop_succ_cons, List.drop_zero, List.take_succ_cons, List.take_zero] at f7
  simp only [Tryz.cells3, List.drop_succ_cons, List.drop_zero, List.take_succ_cons, List.take_zero] at f8
  obtain ⟨v0, g0, _, _⟩ := DataW.trod_int Tryz.underlying3 f0
  obtain ⟨v1, g1, _, w1⟩ := DataW.trod_int Tryz.underlying3 f1
  obtain ⟨v2, g2, _, _⟩ := DataW.trod_string Tryz.underlying9 f2
  obtain ⟨z0, z1, z2, n3, _, r0, r1, r2⟩ := trod_structs3 Tryz.underlying32 f3
  simp only [Tryz.cells4, List.drop_succ_cons, List.drop_zero, List.take_succ_cons, List.take_zero] at r0 r1 r2
  obtain ⟨u0, s0, _⟩ := DataW.trod_bool Tryz.underlying4 r0
  obtain ⟨u1, s1, _⟩ := DataW.trod_bool Tryz.underlying4 r1
  obtain ⟨u2, s2, _⟩ := DataW.trod_bool Tryz.underlying4 r2
  obtain ⟨v5, g5, _, _⟩ := DataW.trod_int Tryz.underlying3 f5
  obtain ⟨v6, g6, _, _⟩ := DataW.trod_int Tryz.underlying3 f6
  obtain ⟨v8, g8, _, _⟩ := DataW.trod_int Tryz.underlying3 f8
  obtain ⟨t0, t1, t2, t3, n7, _, k0, k1, k2, k3⟩ := trod_structs4 Tryz.underlying39 f7
  simp only [Tryz.cells3, List.drop_succ_cons, List.drop_zero, List.take_succ_cons, List.take_zero] at k0 k1 k2 k3
  obtain ⟨l1, m1, _, _⟩ := DataW.trod_int Tryz.underlying3 k0
  obtain ⟨l2, m2, _, _⟩ := DataW.trod_int Tryz.underlying3 k1
  obtain ⟨l3, m3, _, _⟩ := DataW.trod_int Tryz.underlying3 k2
  obtain ⟨l4, m4, _, _⟩ := DataW.trod_int Tryz.underlying3 k3
  obtain ⟨ao, om, oc, hg⟩ : ∃ ao om oc, g = .slice ao om oc := by
    rcases open_slice Tryz.underlying33 f4 with ⟨e, _⟩ | ⟨a', len, cap, _, _, _, _, e, _⟩
    · exact ⟨_, _, _, by simpa using e⟩
    · exact ⟨_, _, _, by simpa using e⟩
  simp only [List.cons.injEq, and_true] at g0 g1 g2 s0 s1 s2 g5 g6 g8 m1 m2 m3 m4
  subst g0 g1 g2 s0 s1 s2 g5 g6 g8 m1 m2 m3 m4 hg
  refine ⟨v0, v1, v2, u0, u1, u2, ao, om, oc, v5, v6, l1, l2, l3, l4, v8, rfl, ?_⟩
  have := w1
  simp [Lit.wf, IntKind.min, IntKind.max, IntKind.bits, IntKind.signed] at this
  unfold inI
  omega

set_option maxRecDepth 100000 in
/-- A script. -/
theorem open_script {v : Value} {d : DataW H} {p : List MemPlace} (hv : ∃ a l c, v = .slice a l c) (h : DataW.Trod enc Tryz.prog w 0 (fun _ => true) true 22 v d p) (hw : (d.weights Tryz.prog 22).all (· ≤ reachBytes) = true) : ∃ n, ScriptIs w v n ∧ n ≤ 1500000000000 := by
  obtain ⟨fuel, h⟩ := h
  obtain ⟨a0, l0, c0, rfl⟩ := hv
  rcases open_slice Tryz.underlying22 h with ⟨e, _⟩ | ⟨a, len, cap, m, n, D, Pl, e, hb, hl, hm, hmm, hx, hall⟩
  · simp only [Value.cells, List.cons.injEq, Value.slice.injEq, and_true] at e
    obtain ⟨rfl, rfl, rfl⟩ := e
    exact ⟨0, ⟨none, 0, rfl, fun k hk => absurd hk (Nat.not_lt_zero _)⟩, by omega⟩
  · simp only [Value.cells, List.cons.injEq, Value.slice.injEq, and_true] at e
    obtain ⟨rfl, rfl, rfl⟩ := e
    simp only [if_true] at hmm
    subst hmm
    simp only [Prod.mk.injEq] at hx
    obtain ⟨rfl, rfl⟩ := hx
    refine ⟨_, ⟨some a, _, rfl, ?_⟩, ?_⟩
    · intro k hk
      obtain ⟨cs', h1, h2⟩ := hall k (by omega)
      rw [Tryz.cells63] at h1
      obtain ⟨_, hlen, hcell⟩ := World.cells?_some h1
      obtain ⟨kind, n', s, b0, b1, b2, ao, om, oc, en, ce, l1, l2, l3, l4, fu, rfl, hin⟩ := open_op h2
      have hspot : a.spot = none ∧ a.block < w.heap.size := by
        obtain ⟨cs0, hc0, _⟩ := hall 0 (by omega)
        rw [Tryz.cells63] at hc0
        obtain ⟨_, hl0, hcell0⟩ := World.cells?_some hc0
        have h0 := hcell0 0 (by decide)
        have e2 : (a.add (0 * 14)).add 0 = a := by
          rw [Deep.add_add, Nat.zero_mul]
          rfl
        rw [e2, List.getElem?_eq_getElem (by omega)] at h0
        unfold World.cell? at h0
        split at h0
        · rename_i hh
          refine ⟨?_, lt_of_block hh⟩
          split at h0
          · cases h0
          · rename_i hn
            simpa using hn
        · cases h0
      refine ⟨a.block, a.off, _, ?_, hspot.2, ⟨kind, n', s, b0, b1, b2, ao, om, oc, en, ce, l1, l2, l3, l4, fu, rfl, hin⟩, ?_⟩
      · have := hspot.1
        cases a
        simp only at this
        subst this
        rfl
      · intro i hi
        have := hcell i hi
        rw [Array.getElem?_toList] at this
        rw [← this, Deep.add_add]
        have e3 : a.add (k * 14 + i) = ⟨a.block, a.off + k * 14 + i, none⟩ := by
          unfold Addr.add
          split
          · rename_i e0
            have := hspot.1
            cases a
            simp only at this
            subst this
            simp only [Addr.mk.injEq, and_true, true_and]
            omega
          · simp only [Addr.mk.injEq, and_true, true_and]
            omega
        rw [e3]
    · unfold DataW.weights at hw
      rw [Tryz.underlying22] at hw
      simp only [List.all_cons, Bool.and_eq_true, decide_eq_true_eq, List.length_map, List.length_range, Tryz.bytesOp] at hw
      have := hw.1
      unfold reachBytes at this
      omega

end
section
variable {H : Type} {enc : TypeId × Value → H} {P : Program} {w : World} {base : Nat} {spare : Nat → Bool}
theorem trod_iface {t : TypeId} {ms : Array (String × TypeId)} {fuel : Nat} {cs : List Value} {nm : String} {d : DataW H} {p : List MemPlace} (ht : P.underlying t = some (.interface ms)) (h : DataW.trod enc P w base spare false fuel t cs = some (.iface nm d, p)) : ∃ u v, cs = [.iface u v] := by
  cases fuel with
  | zero => simp [DataW.trod] at h
  | succ n =>
    unfold DataW.trod at h
    rw [ht] at h
    split at h <;> simp_all
end

/-- A row of the vocabulary as data. -/
def vocRow (x : ByteArray × Int × Int) : DataW Unit := .agg [.lit (.string x.1.data.toList), .lit (.int .i64 x.2.1), .lit (.int .i64 x.2.2)]
theorem voc_datum : Rows.laid_fathom_compiler_vocabulary (H := Unit) = .agg (vocab.map vocRow) := by kernel_rfl
theorem Tryz.cells146 : Tryz.prog.cellsOf 146 = 3 := by kernel_rfl
theorem Tryz.cells144 : Tryz.prog.cellsOf 144 = 1 := by kernel_rfl
theorem Tryz.cells194 : Tryz.prog.cellsOf 194 = 117 := by kernel_rfl

theorem list3 {cs : List Value} (h : cs.length = 3) : ∃ a b c, cs = [a, b, c] := by
  match cs, h with
  | [a, b, c], _ => exact ⟨a, b, c, rfl⟩
theorem voc_row {w : World} {base : Nat} {spare : Nat → Bool} {held : Bool} {fuel : Nat} {cs : List Value} {x : ByteArray × Int × Int} {p : List MemPlace} (h : DataW.trod (fun _ => ()) Tryz.prog w base spare held fuel 146 cs = some (vocRow x, p)) :
    cs = [.string x.1, .int .i64 x.2.1, .int .i64 x.2.2] := by
  obtain ⟨y0, y1, y2, n, hx, hl, f0, f1, f2⟩ := trod_struct3 Tryz.underlying146 h
  rw [Tryz.cells146] at hl
  obtain ⟨a, b, c, rfl⟩ := list3 hl
  simp only [Tryz.cells9, List.drop_zero, List.take_succ_cons, List.take_zero] at f0
  simp only [Tryz.cells144, List.drop_succ_cons, List.drop_zero, List.take_succ_cons, List.take_zero] at f1
  simp only [Tryz.cells3, List.drop_succ_cons, List.drop_zero, List.take_succ_cons, List.take_zero] at f2
  obtain ⟨s, g0, e0, _⟩ := DataW.trod_string Tryz.underlying9 f0
  obtain ⟨i, g1, e1, _⟩ := DataW.trod_int Tryz.underlying144 f1
  obtain ⟨j, g2, e2, _⟩ := DataW.trod_int Tryz.underlying3 f2
  subst e0 e1 e2
  unfold vocRow at hx
  simp only [Prod.mk.injEq, DataW.agg.injEq, List.cons.injEq, DataW.lit.injEq, Lit.string.injEq, Lit.int.injEq, and_true, true_and] at hx
  simp only [List.cons.injEq, and_true] at g0 g1 g2
  obtain ⟨⟨k0, k1, k2⟩, _⟩ := hx
  subst g0 g1 g2
  rw [k1, k2, bytes_ext k0]
theorem voc_cells {w : World} {base : Nat} {spare : Nat → Bool} {held : Bool} {fuel : Nat} {cs : List Value} {p : List MemPlace} (h : DataW.trod (fun _ => ()) Tryz.prog w base spare held fuel 194 cs = some (.agg (vocab.map vocRow), p)) :
    cs = nameCells vocab := by
  obtain ⟨xs, m, _, hx, hl, hn, hel⟩ := DataW.trod_array Tryz.underlying194 h
  rw [Tryz.cells194] at hl
  simp only [Prod.mk.injEq, DataW.agg.injEq] at hx
  have hrow : ∀ i, i < 39 → (cs.drop (i * 3)).take 3 = ((nameCells vocab).drop (i * 3)).take 3 := by
    intro i hi
    have h1 := hel i hi
    rw [Tryz.cells146, List.getElem?_eq_getElem (by omega)] at h1
    obtain ⟨y, hy⟩ : ∃ y, vocab[i]? = some y := ⟨_, List.getElem?_eq_getElem (by rw [vocab_length]; exact hi)⟩
    have h2 : (xs[i]'(by omega)).1 = vocRow y := by
      have e1 : (xs.map (·.1))[i]? = some (xs[i]'(by omega)).1 := by rw [List.getElem?_map, List.getElem?_eq_getElem (by omega)]; rfl
      have e2 : (vocab.map vocRow)[i]? = some (vocRow y) := by rw [List.getElem?_map, hy]; rfl
      rw [← hx.1, e2] at e1
      exact (Option.some.inj e1).symm
    have h3 : DataW.trod (fun _ => ()) Tryz.prog w base spare held m 146 ((cs.drop (i * 3)).take 3) = some (vocRow y, (xs[i]'(by omega)).2) := by rw [h1, ← h2]
    rw [voc_row h3]
    obtain ⟨a1, a2, a3⟩ := nameCells_at vocab i y hy
    apply List.ext_getElem?
    intro j
    match j with
    | 0 => rw [List.getElem?_take, List.getElem?_drop]; simpa using a1.symm
    | 1 => rw [List.getElem?_take, List.getElem?_drop]; simpa using a2.symm
    | 2 => rw [List.getElem?_take, List.getElem?_drop]; simpa using a3.symm
    | j + 3 => rw [List.getElem?_take, if_neg (by omega)]; rfl
  apply List.ext_getElem?
  intro j
  by_cases hj : j < 117
  · have h1 := hrow (j / 3) (by omega)
    have h2 := congrArg (fun l => l[j % 3]?) h1
    simp only [List.getElem?_take, List.getElem?_drop] at h2
    rw [if_pos (Nat.mod_lt _ (by decide)), if_pos (Nat.mod_lt _ (by decide))] at h2
    have e : j / 3 * 3 + j % 3 = j := by omega
    rw [e] at h2
    exact h2
  · rw [List.getElem?_eq_none (by omega), List.getElem?_eq_none (by rw [nameCells_length, vocab_length]; omega)]

theorem var_block {P : Program} {w : World} {n : String} {g : Nat} {cs : Array Value} (hg : P.globalNamed n = some g) (h : w.var? P n = some cs) : ∃ T fr, w.heap[g]? = some (.cells cs T fr) := by
  unfold World.var? at h
  rw [hg] at h
  simp only [Option.bind_some] at h
  split at h
  · rename_i c T fr hh
    obtain rfl := Option.some.inj h
    exact ⟨_, _, hh⟩
  · cases h

theorem Tryz.gVoc : (Rows.compilesRow.laid[5]?).bind (fun x => Tryz.prog.globalNamed x.1) = some 0 := by kernel_rfl
theorem Tryz.gSyn : (Rows.compilesRow.laid[4]?).bind (fun x => Tryz.prog.globalNamed x.1) = some 1 := by kernel_rfl
theorem Tryz.gRan : (Rows.compilesRow.laid[3]?).bind (fun x => Tryz.prog.globalNamed x.1) = some 2 := by kernel_rfl
theorem Tryz.gB64 : (Rows.compilesRow.laid[1]?).bind (fun x => Tryz.prog.globalNamed x.1) = some 5 := by kernel_rfl
theorem Tryz.tVoc : (Tryz.prog.globals[0]?).map (·.type) = some 194 := by kernel_rfl
theorem Tryz.tSyn : (Tryz.prog.globals[1]?).map (·.type) = some 197 := by kernel_rfl
theorem Tryz.tRan : (Tryz.prog.globals[2]?).map (·.type) = some 197 := by kernel_rfl

theorem env_of_laid {W : World} (h : laidMetH Tryz.prog Rows.compilesRow.laid W) : VocOk W ∧ ErrsOk W := by
  rw [MakeChecks.laidMetH_plain _ _ _ (by kernel_rfl)] at h
  obtain ⟨ps, ⟨_, _, _, _, _, _, _, _, _, _, ⟨g1, _, c1, _, _, _, hg1, _, hv1, _, ⟨_, _, _, _, _, _, _, _, _, _, ⟨g3, t3, c3, f3, p3, q3, hg3, ht3, hv3, hd3, ⟨g4, t4, c4, f4, p4, q4, hg4, ht4, hv4, hd4, ⟨g5, t5, c5, f5, p5, q5, hg5, ht5, hv5, hd5, _, _⟩, _⟩, _⟩, _⟩, _⟩, _⟩, _, _⟩ := h
  obtain rfl := Option.some.inj (hg1.symm.trans Tryz.gB64)
  have h6 : 6 ≤ W.heap.size := by
    obtain ⟨_, _, hb⟩ := var_block hg1 hv1
    exact lt_of_block hb
  obtain rfl := Option.some.inj (hg3.symm.trans Tryz.gRan)
  obtain rfl := Option.some.inj (hg4.symm.trans Tryz.gSyn)
  obtain rfl := Option.some.inj (hg5.symm.trans Tryz.gVoc)
  obtain rfl := Option.some.inj (ht3.symm.trans Tryz.tRan)
  obtain rfl := Option.some.inj (ht4.symm.trans Tryz.tSyn)
  obtain rfl := Option.some.inj (ht5.symm.trans Tryz.tVoc)
  have hd5' := hd5
  rw [voc_datum] at hd5'
  have e5 := voc_cells hd5'
  have e5' : c5 = vocA := by
    unfold vocA
    rw [← e5]
  subst e5'
  obtain ⟨u3, v3, e3⟩ := trod_iface Tryz.underlying197 hd3
  obtain ⟨u4, v4, e4⟩ := trod_iface Tryz.underlying197 hd4
  have e3' : c3 = #[.iface u3 v3] := by rw [← e3]
  have e4' : c4 = #[.iface u4 v4] := by rw [← e4]
  subst e3' e4'
  refine ⟨⟨var_block hg5 hv5, h6⟩, ⟨u4, v4, ?_⟩, ⟨u3, v3, ?_⟩, h6⟩
  · simpa using World.var?_cell hg4 hv4 0
  · simpa using World.var?_cell hg3 hv3 0
end Go.Proofs.YtmeiikjpaepogaaGreatDoor
namespace Go.Proofs.YtmeiikjpaepogaaGreatDoor
open Go Go.RowKit

set_option maxRecDepth 100000 in
set_option maxHeartbeats 4000000 in
theorem fol_op (B : Nat) (x : CX) (st : RS) (w : World) (h : CpE B w x st) (t : ByteArray) (o : Int) (hlen : hereS st < 4000) (h0 : st.err = 0) :
    Calls Tryz.prog 75 #[.pointer (some ⟨x.b, 0, none⟩), .agg #[.string t, .int .i64 0, .int .i64 o]] w (Took B w x (putS st o 0)) := by
  have hb0 : Below w.heap.size w (w.alloc (.cells #[.string t, .int .i64 0, .int .i64 o] 146)) := by (repeat (first | with_reducible refine below_drew ?_ | with_reducible refine below_drawn ?_ _ | with_reducible refine below_longer ?_ _ | (with_reducible refine Below.alloc ?_ ?_ _; rotate_left; (first | omega | ((repeat (first | rw [World.size_up] | rw [World.size_dr] | rw [World.size_drN])) <;> omega))))); (with_reducible exact Below.refl _ _)
  have hmb : Blk (w.alloc (.cells #[.string t, .int .i64 0, .int .i64 o] 146)) w.heap.size #[.string t, .int .i64 0, .int .i64 o] 146 := Blk.new _ _ _
  have hB := h.size
  obtain ⟨fw, fo, hF⟩ := (h.below hb0).f
  obtain ⟨s0, vo, hblk⟩ := hF.blk
  have hc := hblk.cell
  unfold cpArr at hc
  have hmc := hmb.cell
  have hml := hmb.lt
  have hxl := hblk.lt
  have HADD := V (addW B x st _ fw fo hF o 0 hlen)
  have HB0 := V hb0
  have HP0 := V (show (putS st o 0).err = 0 by unfold putS; split <;> exact h0)
  clear h hb0 hmb hblk hF h0
  generalize hereX x st = hx at *
  go_enter Tryz.func75, Tryz.ntmps75
  go_wp2_with fail
  generalize w.alloc (.cells #[.string t, .int .i64 0, .int .i64 o] 146) = W0 at *
  have hxa : x.b < W0.heap.size + 1 := by omega
  have hxb : x.b ≤ W0.heap.size := by omega
  have hxc : x.b ≤ W0.heap.size + 1 := by omega
  have hxd : x.b < W0.heap.size + 1 + 1 := by omega
  have hma : w.heap.size < W0.heap.size + 1 := by omega
  have hmb : w.heap.size ≤ W0.heap.size := by omega
  have hmc1 : w.heap.size ≤ W0.heap.size + 1 := by omega
  have hmd : w.heap.size < W0.heap.size + 1 + 1 := by omega
  go_region_law (first
      | (refine step_call rfl 51 #[.tmp 18] #[3] rfl Tryz.func51 Tryz.name51 Tryz.body51 #[.int .i64 o] (by first | (simp [Act.eval]; done) | (simp [Act.eval, Act.put]; done) | rfl) (plainI_any o _) ?_; rintro e w1 ⟨rfl, rfl⟩; refine ⟨_, rfl, ?_⟩)
      | (refine step_call rfl 50 #[.tmp 16, .tmp 20] #[96, 33] rfl Tryz.func50 Tryz.name50 Tryz.body50 #[.pointer (some ⟨hx, 0, none⟩), .slice (some ⟨W0.heap.size + 1, 0, none⟩) 1 1] (by first | (simp [Act.eval]; done) | (simp [Act.eval, Act.put]; done) | rfl) (U HADD _ (W0.heap.size + 1) (by (repeat (first | with_reducible refine below_drew ?_ | with_reducible refine below_drawn ?_ _ | with_reducible refine below_longer ?_ _ | (with_reducible refine Below.alloc ?_ ?_ _; rotate_left; (first | omega | ((repeat (first | rw [World.size_up] | rw [World.size_dr] | rw [World.size_drN])) <;> omega))))); (with_reducible exact Below.refl _ _)) (by (repeat (first | with_reducible refine Blk.drew ?_ | with_reducible refine Blk.drewN ?_ _ | (with_reducible refine blk_newAt _ _ ?_; (first | omega | ((repeat (first | rw [World.size_up] | rw [World.size_dr] | rw [World.size_drN])) <;> omega))) | with_reducible refine Blk.alloc ?_ _)); (first | done | with_reducible assumption))) ?_; rintro e w1 ⟨rfl, h2, h1⟩; refine ⟨_, rfl, ?_⟩; have H1 := V h1; clear h1 h2))
  all_goals
    go_wp2_with fail
    go_ret
    obtain ⟨k1, _, k2, k3⟩ := U H1
    exact Took.ok (U HP0) k1.e ((below_less (U HB0) hB).trans k3)

set_option maxRecDepth 100000 in
set_option maxHeartbeats 4000000 in
theorem fol_recur (B : Nat) (x : CX) (w : World) (hB : B ≤ w.heap.size) (t : ByteArray) (o : Int) (r : RS)
    (hcall : ∀ W : World, Below w.heap.size w W → Calls Tryz.prog 142 #[.pointer (some ⟨x.b, 0, none⟩)] W (Took B W x r)) :
    Calls Tryz.prog 75 #[.pointer (some ⟨x.b, 0, none⟩), .agg #[.string t, .int .i64 4, .int .i64 o]] w (Took B w x r) := by
  have hb0 : Below w.heap.size w (w.alloc (.cells #[.string t, .int .i64 4, .int .i64 o] 146)) := by (repeat (first | with_reducible refine below_drew ?_ | with_reducible refine below_drawn ?_ _ | with_reducible refine below_longer ?_ _ | (with_reducible refine Below.alloc ?_ ?_ _; rotate_left; (first | omega | ((repeat (first | rw [World.size_up] | rw [World.size_dr] | rw [World.size_drN])) <;> omega))))); (with_reducible exact Below.refl _ _)
  have HC := V (hcall _ hb0)
  have HB := V (below_less hb0 hB)
  clear hcall hb0
  go_enter Tryz.func75, Tryz.ntmps75
  go_wp2_with fail
  refine (U HC).mono ?_
  rintro e w1 ⟨rfl, h1, h2, h3⟩
  have H1 := V (And.intro h1 (And.intro h2 h3))
  clear h1 h2 h3 HC
  go_wp2_with fail
  go_ret
  exact ⟨rfl, (U H1).1, (U H1).2.1, (U HB).trans (U H1).2.2⟩
theorem fol_recurse (B : Nat) (x : CX) (st : RS) (w : World) (h : CpE B w x st) (t : ByteArray) (o : Int) (hlen : hereS st < 4000) (h0 : st.err = 0) :
    Calls Tryz.prog 75 #[.pointer (some ⟨x.b, 0, none⟩), .agg #[.string t, .int .i64 4, .int .i64 o]] w (Took B w x (if 0 ≤ st.start then putS st 3 st.start else failS st 2)) := by
  refine fol_recur B x w h.size t o _ (fun W hW => ?_)
  have h1 := h.below hW
  by_cases hs : 0 ≤ st.start
  · rw [if_pos hs]
    refine (recur_yes B x st _ h1 hs hlen).mono ?_
    rintro e w' ⟨rfl, k1, _, k3⟩
    exact Took.ok (by unfold putS; split <;> exact h0) k1 k3
  · rw [if_neg hs]
    refine (recur_no B x st _ h1 (by omega)).mono ?_
    rintro e w' ⟨rfl, k0, k3⟩
    exact Took.fail h0 (by decide) k0.atIs k3

set_option maxRecDepth 100000 in
set_option maxHeartbeats 4000000 in
theorem fol_if (B : Nat) (x : CX) (st : RS) (w : World) (h : CpE B w x st) (t : ByteArray) (o : Int) (hlen : hereS st < 4000) (hop : st.opens.length < 3980) (h0 : st.err = 0) :
    Calls Tryz.prog 75 #[.pointer (some ⟨x.b, 0, none⟩), .agg #[.string t, .int .i64 5, .int .i64 o]] w (Took B w x (openS (putS st 2 0) (⟨#[105, 102]⟩, 0, hereS st))) := by
  have hb0 : Below w.heap.size w (w.alloc (.cells #[.string t, .int .i64 5, .int .i64 o] 146)) := by (repeat (first | with_reducible refine below_drew ?_ | with_reducible refine below_drawn ?_ _ | with_reducible refine below_longer ?_ _ | (with_reducible refine Below.alloc ?_ ?_ _; rotate_left; (first | omega | ((repeat (first | rw [World.size_up] | rw [World.size_dr] | rw [World.size_drN])) <;> omega))))); (with_reducible exact Below.refl _ _)
  have HC := V (openIf_any B x st _ (h.below hb0) hlen hop)
  have HB := V (below_less hb0 h.size)
  have HP0 := V (show (openS (putS st 2 0) (⟨#[105, 102]⟩, 0, hereS st)).err = 0 by unfold openS putS; split <;> exact h0)
  clear h hb0 h0
  go_enter Tryz.func75, Tryz.ntmps75
  go_wp2_with fail
  refine (U HC).mono ?_
  rintro e w1 ⟨rfl, h1, _, h2⟩
  have H1 := V (And.intro h1 h2)
  clear h1 h2 HC
  go_wp2_with fail
  go_ret
  exact Took.ok (U HP0) (U H1).1 ((U HB).trans (U H1).2)

set_option maxRecDepth 100000 in
set_option maxHeartbeats 4000000 in
theorem fol_begin (B : Nat) (x : CX) (st : RS) (w : World) (h : CpE B w x st) (t : ByteArray) (o : Int) (hop : st.opens.length < 3980) (h0 : st.err = 0) :
    Calls Tryz.prog 75 #[.pointer (some ⟨x.b, 0, none⟩), .agg #[.string t, .int .i64 6, .int .i64 o]] w (Took B w x (openS st (⟨#[98, 101, 103, 105, 110]⟩, hereS st, 0))) := by
  have hb0 : Below w.heap.size w (w.alloc (.cells #[.string t, .int .i64 6, .int .i64 o] 146)) := by (repeat (first | with_reducible refine below_drew ?_ | with_reducible refine below_drawn ?_ _ | with_reducible refine below_longer ?_ _ | (with_reducible refine Below.alloc ?_ ?_ _; rotate_left; (first | omega | ((repeat (first | rw [World.size_up] | rw [World.size_dr] | rw [World.size_drN])) <;> omega))))); (with_reducible exact Below.refl _ _)
  have HC := V (openBegin_any B x st _ (h.below hb0) hop)
  have HB := V (below_less hb0 h.size)
  have HP0 := V (show (openS st (⟨#[98, 101, 103, 105, 110]⟩, hereS st, 0)).err = 0 from h0)
  clear h hb0 h0
  go_enter Tryz.func75, Tryz.ntmps75
  go_wp2_with fail
  refine (U HC).mono ?_
  rintro e w1 ⟨rfl, h1, _, h2⟩
  have H1 := V (And.intro h1 h2)
  clear h1 h2 HC
  go_wp2_with fail
  go_ret
  exact Took.ok (U HP0) (U H1).1 ((U HB).trans (U H1).2)

set_option maxRecDepth 100000 in
set_option maxHeartbeats 4000000 in
theorem fol_do (B : Nat) (x : CX) (st : RS) (w : World) (h : CpE B w x st) (t : ByteArray) (o : Int) (hlen : hereS st < 4000) (hop : st.opens.length < 3980) (h0 : st.err = 0) :
    Calls Tryz.prog 75 #[.pointer (some ⟨x.b, 0, none⟩), .agg #[.string t, .int .i64 7, .int .i64 o]] w (Took B w x (openS (putS st 6 0) (⟨#[100, 111]⟩, (hereS st : Int) + 1, 0))) := by
  have hb0 : Below w.heap.size w (w.alloc (.cells #[.string t, .int .i64 7, .int .i64 o] 146)) := by (repeat (first | with_reducible refine below_drew ?_ | with_reducible refine below_drawn ?_ _ | with_reducible refine below_longer ?_ _ | (with_reducible refine Below.alloc ?_ ?_ _; rotate_left; (first | omega | ((repeat (first | rw [World.size_up] | rw [World.size_dr] | rw [World.size_drN])) <;> omega))))); (with_reducible exact Below.refl _ _)
  have HC := V (openDo_any B x st _ (h.below hb0) hlen hop)
  have HB := V (below_less hb0 h.size)
  have HP0 := V (show (openS (putS st 6 0) (⟨#[100, 111]⟩, (hereS st : Int) + 1, 0)).err = 0 by unfold openS putS; split <;> exact h0)
  clear h hb0 h0
  go_enter Tryz.func75, Tryz.ntmps75
  go_wp2_with fail
  refine (U HC).mono ?_
  rintro e w1 ⟨rfl, h1, _, h2⟩
  have H1 := V (And.intro h1 h2)
  clear h1 h2 HC
  go_wp2_with fail
  go_ret
  exact Took.ok (U HP0) (U H1).1 ((U HB).trans (U H1).2)

set_option maxRecDepth 100000 in
set_option maxHeartbeats 4000000 in
theorem fol_closes (B : Nat) (x : CX) (w : World) (hB : B ≤ w.heap.size) (t : ByteArray) (o : Int) (r : RS)
    (hcall : ∀ W : World, Below w.heap.size w W → Calls Tryz.prog 146 #[.pointer (some ⟨x.b, 0, none⟩), .string t] W (Took B W x r)) :
    Calls Tryz.prog 75 #[.pointer (some ⟨x.b, 0, none⟩), .agg #[.string t, .int .i64 8, .int .i64 o]] w (Took B w x r) := by
  have hb0 : Below w.heap.size w (w.alloc (.cells #[.string t, .int .i64 8, .int .i64 o] 146)) := by (repeat (first | with_reducible refine below_drew ?_ | with_reducible refine below_drawn ?_ _ | with_reducible refine below_longer ?_ _ | (with_reducible refine Below.alloc ?_ ?_ _; rotate_left; (first | omega | ((repeat (first | rw [World.size_up] | rw [World.size_dr] | rw [World.size_drN])) <;> omega))))); (with_reducible exact Below.refl _ _)
  have HC := V (hcall _ hb0)
  have HB := V (below_less hb0 hB)
  clear hcall hb0
  go_enter Tryz.func75, Tryz.ntmps75
  go_wp2_with fail
  refine (U HC).mono ?_
  rintro e w1 ⟨rfl, h1, h2, h3⟩
  have H1 := V (And.intro h1 (And.intro h2 h3))
  clear h1 h2 h3 HC
  go_wp2_with fail
  go_ret
  exact ⟨rfl, (U H1).1, (U H1).2.1, (U HB).trans (U H1).2.2⟩

set_option maxRecDepth 100000 in
set_option maxHeartbeats 4000000 in
theorem fol_define (B : Nat) (x : CX) (w : World) (hB : B ≤ w.heap.size) (t : ByteArray) (k o : Int) (hk : k = 1 ∨ k = 2 ∨ k = 3) (r : RS)
    (hcall : ∀ W : World, Below w.heap.size w W → Calls Tryz.prog 147 #[.pointer (some ⟨x.b, 0, none⟩), .int .i64 k] W (Took B W x r)) :
    Calls Tryz.prog 75 #[.pointer (some ⟨x.b, 0, none⟩), .agg #[.string t, .int .i64 k, .int .i64 o]] w (Took B w x r) := by
  have hb0 : Below w.heap.size w (w.alloc (.cells #[.string t, .int .i64 k, .int .i64 o] 146)) := by (repeat (first | with_reducible refine below_drew ?_ | with_reducible refine below_drawn ?_ _ | with_reducible refine below_longer ?_ _ | (with_reducible refine Below.alloc ?_ ?_ _; rotate_left; (first | omega | ((repeat (first | rw [World.size_up] | rw [World.size_dr] | rw [World.size_drN])) <;> omega))))); (with_reducible exact Below.refl _ _)
  have HC := V (hcall _ hb0)
  have HB := V (below_less hb0 hB)
  clear hcall hb0
  rcases hk with rfl | rfl | rfl
  all_goals
    go_enter Tryz.func75, Tryz.ntmps75
    go_wp2_with fail
    refine (U HC).mono ?_
    rintro e w1 ⟨rfl, h1, h2, h3⟩
    have H1 := V (And.intro h1 (And.intro h2 h3))
    clear h1 h2 h3 HC
    go_wp2_with fail
    go_ret
    exact ⟨rfl, (U H1).1, (U H1).2.1, (U HB).trans (U H1).2.2⟩
end Go.Proofs.YtmeiikjpaepogaaGreatDoor
