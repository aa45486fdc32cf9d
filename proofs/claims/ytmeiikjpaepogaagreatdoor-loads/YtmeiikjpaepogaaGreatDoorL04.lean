/- The script as it came in: the lists of its steps. -/
import Derived.Test.YtmeiikjpaepogaaGreatDoorK33
import Derived.Test.YtmeiikjpaepogaaGreatDoorL03
import Derived.Test.YtmeiikjpaepogaaGreatDoorK44
import Derived.Deep.SlicePairs
import Derived.SizedLaws
namespace Go.Proofs.YtmeiikjpaepogaaGreatDoor
open Go Go.RowKit Go.ChangeShapes Go.WideShapes Go.ChangeAt Go.Deep

theorem Tryz.cells65 : Tryz.prog.cellsOf 65 = 2 := by kernel_rfl
theorem Tryz.bytesIns : Tryz.prog.bytesOf 65 = 16 := by kernel_rfl
theorem Tryz.cells2 : Tryz.prog.cellsOf 2 = 1 := by kernel_rfl

section
variable {H : Type} {enc : TypeId × Value → H} {w : World}
theorem weightsAll_mem {P : Program} {e : TypeId} : ∀ {l : List (DataW H)} {d : DataW H}, d ∈ l → ∀ n ∈ d.weights P e, n ∈ DataW.weightsAll P e l
  | d0 :: l, d, hd, n, hn => by
    simp only [DataW.weightsAll, List.mem_append]
    rcases List.mem_cons.1 hd with rfl | hd
    · exact Or.inl hn
    · exact Or.inr (weightsAll_mem hd n hn)
  | [], _, hd, _, _ => by simp at hd
theorem cell_plain {w : World} {a : Addr} {v : Value} (h : w.cell? a = some v) : a.spot = none ∧ a.block < w.heap.size := by
  unfold World.cell? at h
  split at h
  · rename_i hh
    refine ⟨?_, lt_of_block hh⟩
    split at h
    · cases h
    · rename_i hn
      simpa using hn
  · cases h
theorem inI_lit {z : Int} (h : (Lit.int .i64 z).wf = true) : inI z := by
  simp [Lit.wf, IntKind.min, IntKind.max, IntKind.bits, IntKind.signed] at h
  unfold inI
  omega
set_option maxRecDepth 100000 in
/-- A list of instructions as it came in. -/
theorem open_list {fuel : Nat} {v : Value} {x : DataW H × List MemPlace} (h : DataW.trod enc Tryz.prog w 0 (fun _ => true) true fuel 33 [v] = some x) (hw : (x.1.weights Tryz.prog 33).all (· ≤ reachBytes) = true) :
    ∃ ao c l, v = .slice ao (List.length l) c ∧ InL w ao l ∧ (∀ y ∈ l, inI y.2) ∧ l.length ≤ 8796093021960 := by
  rcases open_slice_pairs Tryz.underlying33 Tryz.underlying65 Tryz.cells65 rfl rfl Tryz.cells3 Tryz.cells2 h with ⟨e, _⟩ | ⟨a, len, cap, m, n, V0, V1, D0, D1, P0, P1, e, hb, hl, hm, hmm, rfl, hall⟩
  · simp only [List.cons.injEq, and_true] at e
    exact ⟨none, 0, [], e, Or.inl rfl, fun y hy => by simp at hy, by simp⟩
  · simp only [List.cons.injEq, and_true] at e
    subst e
    simp only [if_true] at hmm
    subst hmm
    have hz : ∀ i, i < m → ∃ z0 z1, V0 i = .int .i64 z0 ∧ V1 i = .int .i64 z1 ∧ inI z1 := fun i hi => by
      obtain ⟨_, _, t0, t1⟩ := hall i hi
      obtain ⟨z0, g0, _, _⟩ := DataW.trod_int Tryz.underlying3 t0
      obtain ⟨z1, g1, _, w1⟩ := DataW.trod_int Tryz.underlying2 t1
      simp only [List.cons.injEq, and_true] at g0 g1
      exact ⟨z0, z1, g0, g1, inI_lit w1⟩
    have hlen : len ≤ 8796093021960 := by
      unfold DataW.weights at hw
      rw [Tryz.underlying33] at hw
      simp only [List.all_cons, Bool.and_eq_true, decide_eq_true_eq, List.length_map, List.length_range, Tryz.bytesIns] at hw
      have := hw.1
      unfold reachBytes at this
      omega
    refine ⟨some a, m, (List.range len).map (fun i => (intOf (V0 i), intOf (V1 i))), by simp, ?_, ?_, by simpa using hlen⟩
    · by_cases h0 : len = 0
      · left
        subst h0
        rfl
      · right
        obtain ⟨c0, _, _, _⟩ := hall 0 (by omega)
        have e0 : a.add (0 * 2) = a := by rw [Nat.zero_mul]; rfl
        rw [e0] at c0
        obtain ⟨hs, hlt⟩ := cell_plain c0
        obtain ⟨bk, off, sp⟩ := a
        simp only at hs hlt
        subst hs
        refine ⟨bk, off, rfl, hlt, fun j u hj => ?_⟩
        have hjl : j < len * 2 := by
          have := (List.getElem?_eq_some_iff.1 hj).1
          rw [instrCells_length] at this
          simpa using this
        obtain ⟨k1, k2, _, _⟩ := hall (j / 2) (by omega)
        obtain ⟨z0, z1, v0, v1, _⟩ := hz (j / 2) (by omega)
        have hx : ((List.range len).map (fun i => (intOf (V0 i), intOf (V1 i))))[j / 2]? = some (z0, z1) := by
          rw [List.getElem?_map, List.getElem?_range (by omega)]
          simp [v0, v1, intOf]
        obtain ⟨e1, e2⟩ := instrCells_at _ _ _ hx
        rw [addr_off] at k1 k2
        rcases Nat.mod_two_eq_zero_or_one j with hj2 | hj2
        · have ej : j / 2 * 2 = j := by omega
          rw [ej] at e1 k1
          rw [e1] at hj
          rw [k1, v0]
          exact hj
        · have ej : j / 2 * 2 + 1 = j := by omega
          rw [ej] at e2 k2
          rw [e2] at hj
          rw [k2, v1]
          exact hj
    · intro y hy
      obtain ⟨i, hi, rfl⟩ := List.mem_map.1 hy
      obtain ⟨z0, z1, v0, v1, h1⟩ := hz i (by have := List.mem_range.1 hi; omega)
      simpa [v1, intOf] using h1
set_option maxRecDepth 100000 in
/-- A step that loads, of a script as it came in. -/
theorem script_loads {v : Value} {d : DataW H} {p : List MemPlace} (h : DataW.Trod enc Tryz.prog w 0 (fun _ => true) true 22 v d p) (hw : (d.weights Tryz.prog 22).all (· ≤ reachBytes) = true) (n : Nat) : LoadsAs prg3 w v n := by
  intro k g off cap on os b0 b1 b2 oa om oc en ce l1 l2 l3 l4 fu hk hv hcells B bw ps hs vp vh W hW _ hL hH hP hlen
  obtain ⟨fuel, h⟩ := h
  subst hv
  rcases open_slice Tryz.underlying22 h with ⟨e, _⟩ | ⟨a, len, cap', m, n', D, Pl, e, hb, hl, hm, hmm, hx, hall⟩
  · simp [Value.cells] at e
  · simp only [Value.cells, List.cons.injEq, Value.slice.injEq, Option.some.injEq, and_true] at e
    obtain ⟨rfl, rfl, rfl⟩ := e
    simp only [if_true] at hmm
    subst hmm
    simp only [Prod.mk.injEq] at hx
    obtain ⟨rfl, rfl⟩ := hx
    obtain ⟨cs', h1, h2⟩ := hall k (by omega)
    rw [Tryz.cells63] at h1
    obtain ⟨_, hcl, hcell⟩ := World.cells?_some h1
    obtain ⟨xs, n2, _, hxe, _, hxl, hf⟩ := DataW.trod_struct Tryz.underlying63 h2
    have hf4 := hf 4 _ rfl
    have h6 : cs'[6]? = some (.slice oa om oc) := by
      have c6 := hcell 6 (by decide)
      have q6 := hcells 6 (by decide)
      rw [Deep.add_add, addr_off] at c6
      have e6 : off + (k * 14 + 6) = off + k * 14 + 6 := by omega
      rw [e6, q6] at c6
      rw [← c6]
      rfl
    have htk : (cs'.drop 6).take 1 = [.slice oa om oc] := by
      rw [List.drop_eq_getElem_cons (by omega)]
      have : cs'[6]'(by omega) = .slice oa om oc := by
        have := List.getElem?_eq_getElem (l := cs') (i := 6) (by omega)
        rw [h6] at this
        exact (Option.some.inj this).symm
      rw [this]
      rfl
    have hf4' : DataW.trod enc Tryz.prog w 0 (fun _ => true) true n2 33 [.slice oa om oc] = some (xs[4]'(by simp at hxl; omega)) := by
      have this : DataW.trod enc Tryz.prog w 0 (fun _ => true) true n2 33 ((cs'.drop 6).take (Tryz.prog.cellsOf 33)) = xs[4]? := hf4
      rw [Tryz.cells33, htk] at this
      rw [this, List.getElem?_eq_getElem (by simp at hxl; omega)]
    have hwl : ((xs[4]'(by simp at hxl; omega)).1.weights Tryz.prog 33).all (· ≤ reachBytes) = true := by
      rw [List.all_eq_true]
      intro y hy
      refine List.all_eq_true.1 hw y ?_
      unfold DataW.weights
      rw [Tryz.underlying22]
      refine List.mem_cons_of_mem _ (List.mem_append_left _ (weightsAll_mem (d := D k) (List.mem_map.2 ⟨k, List.mem_range.2 hk, rfl⟩) y ?_))
      have hD : D k = .agg (xs.map (·.1)) := by
        have := congrArg Prod.fst hxe
        simpa using this
      rw [hD]
      unfold DataW.weights
      rw [Tryz.underlying63]
      refine DataW.weights_mem_each (j := 4) (t := 33) (d := (xs[4]'(by simp at hxl; omega)).1) rfl ?_ y hy
      rw [List.getElem?_map, List.getElem?_eq_getElem (by simp at hxl; omega)]
      rfl
    obtain ⟨ao, c', l, hv, hin, hi, hll⟩ := open_list hf4' hwl
    simp only [Value.slice.injEq] at hv
    obtain ⟨rfl, rfl, rfl⟩ := hv
    exact loaded_any B bw ps hs vp vh W hL hH hP hlen on os oa oc l en ce l1 l2 l3 l4 fu (hin.below hW) hi hll
end
end Go.Proofs.YtmeiikjpaepogaaGreatDoor
