/- What lies at package level, as the row lists it. -/
import Derived.Test.YtbcjfiaacenhgaaGreatDoorG47
import Derived.Test.YtbcjfiaacenhgaaGreatDoorG39
import Derived.MakeChecks
import Derived.Deep.Strs
import Derived.LaidMore
import Derived.Stop.Joined
namespace Go.Proofs.YtbcjfiaacenhgaaGreatDoor
open Go Go.RowKit Go.ChangeShapes Go.WideShapes Go.ChangeAt Go.Deep

section
variable {H : Type} {enc : TypeId × Value → H} {P : Program} {w : World} {base : Nat} {spare : Nat → Bool}
theorem trod_iface {t : TypeId} {ms : Array (String × TypeId)} {fuel : Nat} {cs : List Value} {nm : String} {d : DataW H} {p : List MemPlace} (ht : P.underlying t = some (.interface ms)) (h : DataW.trod enc P w base spare false fuel t cs = some (.iface nm d, p)) : ∃ u v, cs = [.iface u v] := by
  cases fuel with
  | zero => simp [DataW.trod] at h
  | succ n =>
    unfold DataW.trod at h
    rw [ht] at h
    split at h <;> simp_all
end

/-- A row of the vocabulary as data. -/
def vocRow (x : ByteArray × Int × Int) : DataW Unit := .agg [.lit (.string x.1.data.toList), .lit (.int .i64 x.2.1), .lit (.int .i64 x.2.2)]
theorem voc_datum : Rows.laid_fathom_compiler_vocabulary (H := Unit) = .agg (vocab.map vocRow) := by kernel_rfl
theorem Tryz.cells140 : Tryz.prog.cellsOf 140 = 3 := by kernel_rfl
theorem Tryz.cells138 : Tryz.prog.cellsOf 138 = 1 := by kernel_rfl
theorem Tryz.cells159 : Tryz.prog.cellsOf 159 = 117 := by kernel_rfl

theorem list3 {cs : List Value} (h : cs.length = 3) : ∃ a b c, cs = [a, b, c] := by
  match cs, h with
  | [a, b, c], _ => exact ⟨a, b, c, rfl⟩
theorem voc_row {w : World} {base : Nat} {spare : Nat → Bool} {held : Bool} {fuel : Nat} {cs : List Value} {x : ByteArray × Int × Int} {p : List MemPlace} (h : DataW.trod (fun _ => ()) Tryz.prog w base spare held fuel 140 cs = some (vocRow x, p)) :
    cs = [.string x.1, .int .i64 x.2.1, .int .i64 x.2.2] := by
  obtain ⟨y0, y1, y2, n, hx, hl, f0, f1, f2⟩ := trod_struct3 Tryz.underlying140 h
  rw [Tryz.cells140] at hl
  obtain ⟨a, b, c, rfl⟩ := list3 hl
  simp only [Tryz.cells9, List.drop_zero, List.take_succ_cons, List.take_zero] at f0
  simp only [Tryz.cells138, List.drop_succ_cons, List.drop_zero, List.take_succ_cons, List.take_zero] at f1
  simp only [Tryz.cells3, List.drop_succ_cons, List.drop_zero, List.take_succ_cons, List.take_zero] at f2
  obtain ⟨s, g0, e0, _⟩ := DataW.trod_string Tryz.underlying9 f0
  obtain ⟨i, g1, e1, _⟩ := DataW.trod_int Tryz.underlying138 f1
  obtain ⟨j, g2, e2, _⟩ := DataW.trod_int Tryz.underlying3 f2
  subst e0 e1 e2
  unfold vocRow at hx
  simp only [Prod.mk.injEq, DataW.agg.injEq, List.cons.injEq, DataW.lit.injEq, Lit.string.injEq, Lit.int.injEq, and_true, true_and] at hx
  simp only [List.cons.injEq, and_true] at g0 g1 g2
  obtain ⟨⟨k0, k1, k2⟩, _⟩ := hx
  subst g0 g1 g2
  rw [k1, k2, bytes_ext k0]
theorem voc_cells {w : World} {base : Nat} {spare : Nat → Bool} {held : Bool} {fuel : Nat} {cs : List Value} {p : List MemPlace} (h : DataW.trod (fun _ => ()) Tryz.prog w base spare held fuel 159 cs = some (.agg (vocab.map vocRow), p)) :
    cs = nameCells vocab := by
  obtain ⟨xs, m, _, hx, hl, hn, hel⟩ := DataW.trod_array Tryz.underlying159 h
  rw [Tryz.cells159] at hl
  simp only [Prod.mk.injEq, DataW.agg.injEq] at hx
  have hrow : ∀ i, i < 39 → (cs.drop (i * 3)).take 3 = ((nameCells vocab).drop (i * 3)).take 3 := by
    intro i hi
    have h1 := hel i hi
    rw [Tryz.cells140, List.getElem?_eq_getElem (by omega)] at h1
    obtain ⟨y, hy⟩ : ∃ y, vocab[i]? = some y := ⟨_, List.getElem?_eq_getElem (by rw [vocab_length]; exact hi)⟩
    have h2 : (xs[i]'(by omega)).1 = vocRow y := by
      have e1 : (xs.map (·.1))[i]? = some (xs[i]'(by omega)).1 := by rw [List.getElem?_map, List.getElem?_eq_getElem (by omega)]; rfl
      have e2 : (vocab.map vocRow)[i]? = some (vocRow y) := by rw [List.getElem?_map, hy]; rfl
      rw [← hx.1, e2] at e1
      exact (Option.some.inj e1).symm
    have h3 : DataW.trod (fun _ => ()) Tryz.prog w base spare held m 140 ((cs.drop (i * 3)).take 3) = some (vocRow y, (xs[i]'(by omega)).2) := by rw [h1, ← h2]
    rw [voc_row h3]
    obtain ⟨a1, a2, a3⟩ := nameCells_at vocab i y hy
    apply List.ext_getElem?
    intro j
    match j with
    | 0 => rw [List.getElem?_take, List.getElem?_drop]; simpa using a1.symm
    | 1 => rw [List.getElem?_take, List.getElem?_drop]; simpa using a2.symm
    | 2 => rw [List.getElem?_take, List.getElem?_drop]; simpa using a3.symm
    | j + 3 => rw [List.getElem?_take, if_neg (by omega)]; rfl
  apply List.ext_getElem?
  intro j
  by_cases hj : j < 117
  · have h1 := hrow (j / 3) (by omega)
    have h2 := congrArg (fun l => l[j % 3]?) h1
    simp only [List.getElem?_take, List.getElem?_drop] at h2
    rw [if_pos (Nat.mod_lt _ (by decide)), if_pos (Nat.mod_lt _ (by decide))] at h2
    have e : j / 3 * 3 + j % 3 = j := by omega
    rw [e] at h2
    exact h2
  · rw [List.getElem?_eq_none (by omega), List.getElem?_eq_none (by rw [nameCells_length, vocab_length]; omega)]

theorem var_block {P : Program} {w : World} {n : String} {g : Nat} {cs : Array Value} (hg : P.globalNamed n = some g) (h : w.var? P n = some cs) : ∃ T fr, w.heap[g]? = some (.cells cs T fr) := by
  unfold World.var? at h
  rw [hg] at h
  simp only [Option.bind_some] at h
  split at h
  · rename_i c T fr hh
    obtain rfl := Option.some.inj h
    exact ⟨_, _, hh⟩
  · cases h

theorem Tryz.gVoc : (Rows.compilesRow.laid[5]?).bind (fun x => Tryz.prog.globalNamed x.1) = some 0 := by kernel_rfl
theorem Tryz.gSyn : (Rows.compilesRow.laid[4]?).bind (fun x => Tryz.prog.globalNamed x.1) = some 1 := by kernel_rfl
theorem Tryz.gRan : (Rows.compilesRow.laid[3]?).bind (fun x => Tryz.prog.globalNamed x.1) = some 2 := by kernel_rfl
theorem Tryz.gB64 : (Rows.compilesRow.laid[1]?).bind (fun x => Tryz.prog.globalNamed x.1) = some 5 := by kernel_rfl
theorem Tryz.tVoc : (Tryz.prog.globals[0]?).map (·.type) = some 159 := by kernel_rfl
theorem Tryz.tSyn : (Tryz.prog.globals[1]?).map (·.type) = some 162 := by kernel_rfl
theorem Tryz.tRan : (Tryz.prog.globals[2]?).map (·.type) = some 162 := by kernel_rfl

theorem env_of_laid {W : World} (h : laidMetH Tryz.prog Rows.compilesRow.laid W) : VocOk W ∧ ErrsOk W := by
  rw [MakeChecks.laidMetH_plain _ _ _ (by kernel_rfl)] at h
  obtain ⟨ps, ⟨_, _, _, _, _, _, _, _, _, _, ⟨g1, _, c1, _, _, _, hg1, _, hv1, _, ⟨_, _, _, _, _, _, _, _, _, _, ⟨g3, t3, c3, f3, p3, q3, hg3, ht3, hv3, hd3, ⟨g4, t4, c4, f4, p4, q4, hg4, ht4, hv4, hd4, ⟨g5, t5, c5, f5, p5, q5, hg5, ht5, hv5, hd5, _, _⟩, _⟩, _⟩, _⟩, _⟩, _⟩, _, _⟩ := h
  obtain rfl := Option.some.inj (hg1.symm.trans Tryz.gB64)
  have h6 : 6 ≤ W.heap.size := by
    obtain ⟨_, _, hb⟩ := var_block hg1 hv1
    exact lt_of_block hb
  obtain rfl := Option.some.inj (hg3.symm.trans Tryz.gRan)
  obtain rfl := Option.some.inj (hg4.symm.trans Tryz.gSyn)
  obtain rfl := Option.some.inj (hg5.symm.trans Tryz.gVoc)
  obtain rfl := Option.some.inj (ht3.symm.trans Tryz.tRan)
  obtain rfl := Option.some.inj (ht4.symm.trans Tryz.tSyn)
  obtain rfl := Option.some.inj (ht5.symm.trans Tryz.tVoc)
  have hd5' := hd5
  rw [voc_datum] at hd5'
  have e5 := voc_cells hd5'
  have e5' : c5 = vocA := by
    unfold vocA
    rw [← e5]
  subst e5'
  obtain ⟨u3, v3, e3⟩ := trod_iface Tryz.underlying162 hd3
  obtain ⟨u4, v4, e4⟩ := trod_iface Tryz.underlying162 hd4
  have e3' : c3 = #[.iface u3 v3] := by rw [← e3]
  have e4' : c4 = #[.iface u4 v4] := by rw [← e4]
  subst e3' e4'
  refine ⟨⟨var_block hg5 hv5, h6⟩, ⟨u4, v4, ?_⟩, ⟨u3, v3, ?_⟩, h6⟩
  · simpa using World.var?_cell hg4 hv4 0
  · simpa using World.var?_cell hg3 hv3 0

end Go.Proofs.YtbcjfiaacenhgaaGreatDoor

