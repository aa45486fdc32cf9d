/- The program's compiler: a new one. -/
import Derived.Test.YtmeiikjpaepogaaGreatDoorG27
import Derived.Test.YtmeiikjpaepogaaGreatDoorG22
import Derived.Deep.CutRange
import Derived.Test.YtmeiikjpaepogaaGreatDoorG21
import Derived.MakeChecks
import Derived.Deep.Strs
import Derived.LaidMore
import Derived.Stop.Joined
import Derived.Test.YtmeiikjpaepogaaGreatDoorG24
namespace Go.Proofs.YtmeiikjpaepogaaGreatDoor
open Go Go.RowKit

set_option maxRecDepth 100000 in
theorem newReader_any (s : ByteArray) (w : World) :
    Calls Tryz.prog 72 #[.string s] w (fun e w' => e = .returned (.pointer (some ⟨w.heap.size, 0, none⟩)) ∧ w' = w.alloc (.cells (rdrA s 0) 192)) := by
  unfold rdrA
  go_enter Tryz.func72, Tryz.ntmps72
  go_wp2_with fail
  go_ret
  exact ⟨rfl, rfl⟩

theorem make_names (w : World) : (Instr.makeMap 97 none).run Tryz.prog w = .ok (.map (some w.heap.size)) (w.alloc (.map #[] 0)) := by
  simp [Instr.makeMap]

set_option maxRecDepth 100000 in
set_option maxHeartbeats 4000000 in
theorem newCompiler_any (s : ByteArray) (w : World) (hs : s.size ≤ 2000) :
    Calls Tryz.prog 47 #[.string s] w (fun e w' => ∃ x : CX, e = .returned (.pointer (some ⟨x.b, 0, none⟩)) ∧ CpE w.heap.size w' x (startS s) ∧ Below w.heap.size w w') := by
  have hmm := make_names
  go_enter Tryz.func47, Tryz.ntmps47
  go_wp2_with fail
  refine (newReader_any s _).mono ?_
  rintro e w1 ⟨rfl, rfl⟩
  go_wp2_with fail
  go_ret
  refine ⟨⟨w.heap.size + 1 + 1 + 1 + 1, w.heap.size + 1, w.heap.size + 1 + 1, w.heap.size, w.heap.size + 1 + 1 + 1⟩, rfl, ⟨0, .slice none 0 0, .slice none 0 0, .slice none 0 0, [], [], ?_⟩, ?_⟩
  · refine ⟨?_, ?_, ?_, ?_, ?_, ?_, ?_, ?_, ?_, ?_, ?_⟩
    · exact blk_newAt _ _ (by simp)
    · exact (((blk_newAt _ _ (by simp)).alloc _).alloc _).alloc _
    · exact ((blk_newAt _ _ (by simp)).alloc _).alloc _
    · exact ((((blk_newAt _ _ rfl).alloc _).alloc _).alloc _).alloc _
    · simp only; omega
    · simp only; omega
    · refine ⟨?_, ?_, ?_, rfl⟩
      · intro i v s' hv hs'
        match i, hv, hs' with
        | 0, hv, hs' => simp [cpRows, startS] at hv hs'; subst hv hs'; exact World.ownsRow_nil _ _ _ _
        | 1, hv, hs' => simp [cpRows, startS] at hv hs'; subst hv hs'; exact World.ownsRow_nil _ _ _ _
        | 2, hv, hs' => simp [cpRows, startS] at hv hs'; subst hv hs'; exact World.ownsRow_nil _ _ _ _
        | i + 3, hv, hs' => simp at hv
      · intro i j v v' k hv hv' hk hk'
        match i, hv with
        | 0, hv => simp at hv; subst hv; simp [Value.ownBlock] at hk
        | 1, hv => simp at hv; subst hv; simp [Value.ownBlock] at hk
        | 2, hv => simp at hv; subst hv; simp [Value.ownBlock] at hk
        | i + 3, hv => simp at hv
      · intro i v b hv hb hk
        match i, hv with
        | 0, hv => simp at hv; subst hv; simp [Value.ownBlock] at hk
        | 1, hv => simp at hv; subst hv; simp [Value.ownBlock] at hk
        | 2, hv => simp at hv; subst hv; simp [Value.ownBlock] at hk
        | i + 3, hv => simp at hv
    · have hn := MapIs.new (((w.alloc (.cells #[.slice none 0 0] 140)).alloc (.cells (rdrA s 0) 192)).alloc (.cells #[.slice none 0 0] 140))
      rw [World.size_up, World.size_up, World.size_up] at hn
      exact hn.to (Below.heap_alloc _ _ _ hn.lt)
    · intro h; simp [startS] at h
    · exact ⟨fun h => by simp [startS] at h, fun _ => rfl, by simp [startS], fun i f o h1 _ => by simp at h1⟩
    · simp [startS]; omega
  · (repeat (first | with_reducible refine below_drew ?_ | with_reducible refine below_drawn ?_ _ | with_reducible refine below_longer ?_ _ | (with_reducible refine Below.alloc ?_ ?_ _; rotate_left; (first | omega | ((try simp only [World.size_up]) <;> (try simp only [World.size_dr]) <;> (try simp only [World.size_drN]) <;> (try simp only [World.size_up]) <;> (try simp only [World.size_dr]) <;> (try simp only [World.size_up]) <;> omega))))); (with_reducible exact Below.refl _ _)

end Go.Proofs.YtmeiikjpaepogaaGreatDoor

/- The program's compiler: define, where it may not stand, and where there is no name. -/
namespace Go.Proofs.YtmeiikjpaepogaaGreatDoor
open Go Go.RowKit

theorem VocOk.low {B : Nat} {w w' : World} (h : VocOk w) (hB : 6 ≤ B) (hb : Below B w w') : VocOk w' := by
  obtain ⟨⟨T, fr, h1⟩, h2⟩ := h
  exact ⟨⟨T, fr, by rw [hb.block _ (by omega)]; exact h1⟩, by have := hb.size; omega⟩
theorem ErrsOk.low {B : Nat} {w w' : World} (h : ErrsOk w) (hB : 6 ≤ B) (hb : Below B w w') : ErrsOk w' := by
  obtain ⟨⟨t1, p1, h1⟩, ⟨t2, p2, h2⟩, h3⟩ := h
  exact ⟨⟨t1, p1, by rw [hb.cell (by simp only; omega)]; exact h1⟩, ⟨t2, p2, by rw [hb.cell (by simp only; omega)]; exact h2⟩, by have := hb.size; omega⟩

/-- What a token is taken for. -/
def Took (B : Nat) (w : World) (x : CX) (r : RS) (e : Ending) (w' : World) : Prop :=
  e = .returned (.int .i64 r.err) ∧ (r.err = 0 → CpE B w' x r) ∧ (r.err ≠ 0 → ∃ p : Nat, r.place = p ∧ AtIs w' x p) ∧ Below B w w'
theorem Took.fail {B : Nat} {w w' : World} {x : CX} {st : RS} {er : Int} (h0 : st.err = 0) (he : er ≠ 0) (h : AtIs w' x st.place0) (hb : Below B w w') : Took B w x (failS st er) (.returned (.int .i64 er)) w' := by
  unfold failS
  rw [if_pos h0]
  exact ⟨rfl, fun e => absurd e he, fun _ => ⟨_, rfl, h⟩, hb⟩
theorem Took.ok {B : Nat} {w w' : World} {x : CX} {st : RS} (h0 : st.err = 0) (h : CpE B w' x st) (hb : Below B w w') : Took B w x st (.returned (.int .i64 0)) w' :=
  ⟨by rw [h0], fun _ => h, fun e => absurd h0 e, hb⟩
theorem Cp.openLen {B : Nat} {w : World} {x : CX} {st : RS} {s0 : Int} {vd vm vo : Value} {fw fo : List Value} (h : Cp B w x st s0 vd vm vo fw fo) : (fw ++ fo).length ≤ 4001 := by
  have h1 := h.things.len
  have h2 : fw.length ≤ 1 := by
    by_cases hs : 0 ≤ st.start
    · obtain ⟨f, e, _⟩ := h.things.word hs; rw [e]; simp
    · rw [h.things.none (by omega)]; simp
  have := h.small
  simp; omega

set_option maxRecDepth 100000 in
set_option maxHeartbeats 4000000 in
theorem cdef_nest (B : Nat) (x : CX) (st : RS) (w : World) (h : CpE B w x st) (k : Int) (hno : 0 ≤ st.start ∨ st.opens ≠ []) (h0 : st.err = 0) :
    Calls Tryz.prog 147 #[.pointer (some ⟨x.b, 0, none⟩), .int .i64 k] w (Took B w x (failS st 4)) := by
  obtain ⟨s0, vd, vm, vo, fw, fo, h⟩ := h
  obtain ⟨ao, co, hvo⟩ := own_shape h.oo
  subst hvo
  have hL := h.openLen
  have hl : 0 < (fw ++ fo).length := by
    rcases hno with e | e
    · obtain ⟨f, e, _⟩ := h.things.word e; rw [e]; simp
    · have := List.length_pos_iff.2 e
      have h1 := h.things.len
      simp; omega
  have HAT := hide h.atIs
  have hc := h.blk.cell
  unfold cpArr at hc
  clear h
  generalize (fw ++ fo).length = L at *
  have hlI : (0 : Int) < L := by omega
  go_enter Tryz.func147, Tryz.ntmps147
  go_wp2_with fail
  go_ret
  exact Took.fail h0 (by decide) (unhide HAT) (Below.refl _ _)

set_option maxRecDepth 100000 in
set_option maxHeartbeats 4000000 in
theorem cdef_bad (B : Nat) (x : CX) (st : RS) (w : World) (h : CpE B w x st) (m : Nat) (hi : Inv st m) (k : Int) (hs : st.start < 0) (hop : st.opens = []) (h0 : st.err = 0) (hB : 6 ≤ B) (hV : VocOk w) (hE : ErrsOk w) (hbad : badName (stepS st) = true) :
    Calls Tryz.prog 147 #[.pointer (some ⟨x.b, 0, none⟩), .int .i64 k] w (Took B w x (failS (stepS st) 3)) := by
  have HN := hide (cnext_any B x st w h hi.next)
  have hsz : (stepS st).token.size ≤ 2000 := by have := stepS_token_size st; have := hi.size; omega
  have hml := may_link (stepS st)
  rw [hbad] at hml
  have HM : Hid (∀ w1, CpE B w1 x (stepS st) → Below B w w1 → Calls Tryz.prog 193 #[.pointer (some ⟨x.b, 0, none⟩), .string (stepS st).token] w1 (fun e w' => e = .returned (.bool false) ∧ Below w1.heap.size w1 w')) := by
    intro w1 h1 hb
    have := mayBeName_any B x (stepS st) w1 h1 (stepS st).token hsz (hV.low hB hb) (hE.low hB hb)
    rw [hml] at this
    exact this
  obtain ⟨s0, vd, vm, vo, fw, fo, h⟩ := h
  obtain rfl := h.things.none hs
  have hfo : fo = [] := by have := h.things.len; rw [hop] at this; simpa using this
  subst hfo
  obtain ⟨ao, co, hvo⟩ := own_shape h.oo
  subst hvo
  have hc := h.blk.cell
  unfold cpArr at hc
  have h0' : (stepS st).err = 0 := h0
  have HE0 := hide h0'
  clear h hbad hml h0 h0' hV hE
  generalize hu : stepS st = u at *
  clear hu
  go_enter Tryz.func147, Tryz.ntmps147
  go_wp2_with fail
  refine (unhide HN).mono ?_
  rintro e w1 ⟨rfl, h1, hb1⟩
  have HM1 := hide (unhide HM w1 h1 hb1)
  have H1 := hide (And.intro h1 hb1)
  clear h1 hb1 HM HN hc
  go_wp2_with fail
  refine (unhide HM1).mono ?_
  rintro e w2 ⟨rfl, hb2⟩
  have H2 := hide hb2
  clear hb2
  go_wp2_with fail
  go_ret
  obtain ⟨h1, hb1⟩ := unhide H1
  exact Took.fail (unhide HE0) (by decide) ((h1.below (unhide H2)).atIs) (hb1.trans (below_less (unhide H2) h1.size))

set_option maxRecDepth 100000 in
set_option maxHeartbeats 4000000 in
theorem cdef_colon (B : Nat) (x : CX) (st : RS) (w : World) (h : CpE B w x st) (m : Nat) (hi : Inv st m) (hs : st.start < 0) (hop : st.opens = []) (h0 : st.err = 0) (hB : 6 ≤ B) (hV : VocOk w) (hE : ErrsOk w) (hbad : badName (stepS st) = false) :
    Calls Tryz.prog 147 #[.pointer (some ⟨x.b, 0, none⟩), .int .i64 1] w (Took B w x (colonS (stepS st) (stepS st).token)) := by
  have HN := hide (cnext_any B x st w h hi.next)
  have hsz : (stepS st).token.size ≤ 2000 := by have := stepS_token_size st; have := hi.size; omega
  have hml := may_link (stepS st)
  rw [hbad] at hml
  have HM : Hid (∀ w1, CpE B w1 x (stepS st) → Below B w w1 → Calls Tryz.prog 193 #[.pointer (some ⟨x.b, 0, none⟩), .string (stepS st).token] w1 (fun e w' => e = .returned (.bool true) ∧ Below w1.heap.size w1 w')) := by
    intro w1 h1 hb
    have := mayBeName_any B x (stepS st) w1 h1 (stepS st).token hsz (hV.low hB hb) (hE.low hB hb)
    rw [hml] at this
    exact this
  have HO : Hid (∀ w1, CpE B w1 x (stepS st) → Calls Tryz.prog 194 #[.pointer (some ⟨x.b, 0, none⟩), .string (stepS st).token] w1 fun e w' => e = .returned (.tuple #[]) ∧ CpE B w' x (colonS (stepS st) (stepS st).token) ∧ BoxStill w1 w' ∧ Below B w1 w') := fun w1 h1 => openWord_any B x (stepS st) w1 h1 _ hs hop
  obtain ⟨s0, vd, vm, vo, fw, fo, h⟩ := h
  obtain rfl := h.things.none hs
  have hfo : fo = [] := by have := h.things.len; rw [hop] at this; simpa using this
  subst hfo
  obtain ⟨ao, co, hvo⟩ := own_shape h.oo
  subst hvo
  have hc := h.blk.cell
  unfold cpArr at hc
  have h0' : (colonS (stepS st) (stepS st).token).err = 0 := h0
  have HE0 := hide h0'
  clear h hbad hml h0 h0' hV hE
  generalize hu : stepS st = u at *
  clear hu
  go_enter Tryz.func147, Tryz.ntmps147
  go_wp2_with fail
  refine (unhide HN).mono ?_
  rintro e w1 ⟨rfl, h1, hb1⟩
  have HM1 := hide (unhide HM w1 h1 hb1)
  have H1 := hide (And.intro h1 hb1)
  clear h1 hb1 HM HN hc
  go_wp2_with fail
  refine (unhide HM1).mono ?_
  rintro e w2 ⟨rfl, hb2⟩
  have H2 := hide hb2
  clear hb2
  go_wp2_with fail
  refine (unhide HO w2 ((unhide H1).1.below (unhide H2))).mono ?_
  rintro e w3 ⟨rfl, h3, _, hb3⟩
  have H3 := hide (And.intro h3 hb3)
  clear h3 hb3 HO
  go_wp2_with fail
  go_ret
  obtain ⟨h1, hb1⟩ := unhide H1
  exact Took.ok (unhide HE0) (unhide H3).1 ((hb1.trans (below_less (unhide H2) h1.size)).trans (unhide H3).2)

end Go.Proofs.YtmeiikjpaepogaaGreatDoor

/- What lies at package level, as the row lists it. -/
namespace Go.Proofs.YtmeiikjpaepogaaGreatDoor
open Go Go.RowKit Go.ChangeShapes Go.WideShapes Go.ChangeAt Go.Deep

section
variable {H : Type} {enc : TypeId × Value → H} {P : Program} {w : World} {base : Nat} {spare : Nat → Bool}
theorem trod_iface {t : TypeId} {ms : Array (String × TypeId)} {fuel : Nat} {cs : List Value} {nm : String} {d : DataW H} {p : List MemPlace} (ht : P.underlying t = some (.interface ms)) (h : DataW.trod enc P w base spare false fuel t cs = some (.iface nm d, p)) : ∃ u v, cs = [.iface u v] := by
  cases fuel with
  | zero => simp [DataW.trod] at h
  | succ n =>
    unfold DataW.trod at h
    rw [ht] at h
    split at h <;> simp_all
end

/-- A row of the vocabulary as data. -/
def vocRow (x : ByteArray × Int × Int) : DataW Unit := .agg [.lit (.string x.1.data.toList), .lit (.int .i64 x.2.1), .lit (.int .i64 x.2.2)]
theorem voc_datum : Rows.laid_fathom_compiler_vocabulary (H := Unit) = .agg (vocab.map vocRow) := by kernel_rfl
theorem Tryz.cells146 : Tryz.prog.cellsOf 146 = 3 := by kernel_rfl
theorem Tryz.cells144 : Tryz.prog.cellsOf 144 = 1 := by kernel_rfl
theorem Tryz.cells194 : Tryz.prog.cellsOf 194 = 117 := by kernel_rfl

theorem list3 {cs : List Value} (h : cs.length = 3) : ∃ a b c, cs = [a, b, c] := by
  match cs, h with
  | [a, b, c], _ => exact ⟨a, b, c, rfl⟩
theorem voc_row {w : World} {base : Nat} {spare : Nat → Bool} {held : Bool} {fuel : Nat} {cs : List Value} {x : ByteArray × Int × Int} {p : List MemPlace} (h : DataW.trod (fun _ => ()) Tryz.prog w base spare held fuel 146 cs = some (vocRow x, p)) :
    cs = [.string x.1, .int .i64 x.2.1, .int .i64 x.2.2] := by
  obtain ⟨y0, y1, y2, n, hx, hl, f0, f1, f2⟩ := trod_struct3 Tryz.underlying146 h
  rw [Tryz.cells146] at hl
  obtain ⟨a, b, c, rfl⟩ := list3 hl
  simp only [Tryz.cells9, List.drop_zero, List.take_succ_cons, List.take_zero] at f0
  simp only [Tryz.cells144, List.drop_succ_cons, List.drop_zero, List.take_succ_cons, List.take_zero] at f1
  simp only [Tryz.cells3, List.drop_succ_cons, List.drop_zero, List.take_succ_cons, List.take_zero] at f2
  obtain ⟨s, g0, e0, _⟩ := DataW.trod_string Tryz.underlying9 f0
  obtain ⟨i, g1, e1, _⟩ := DataW.trod_int Tryz.underlying144 f1
  obtain ⟨j, g2, e2, _⟩ := DataW.trod_int Tryz.underlying3 f2
  subst e0 e1 e2
  unfold vocRow at hx
  simp only [Prod.mk.injEq, DataW.agg.injEq, List.cons.injEq, DataW.lit.injEq, Lit.string.injEq, Lit.int.injEq, and_true, true_and] at hx
  simp only [List.cons.injEq, and_true] at g0 g1 g2
  obtain ⟨⟨k0, k1, k2⟩, _⟩ := hx
  subst g0 g1 g2
  rw [k1, k2, bytes_ext k0]
theorem voc_cells {w : World} {base : Nat} {spare : Nat → Bool} {held : Bool} {fuel : Nat} {cs : List Value} {p : List MemPlace} (h : DataW.trod (fun _ => ()) Tryz.prog w base spare held fuel 194 cs = some (.agg (vocab.map vocRow), p)) :
    cs = nameCells vocab := by
  obtain ⟨xs, m, _, hx, hl, hn, hel⟩ := DataW.trod_array Tryz.underlying194 h
  rw [Tryz.cells194] at hl
  simp only [Prod.mk.injEq, DataW.agg.injEq] at hx
  have hrow : ∀ i, i < 39 → (cs.drop (i * 3)).take 3 = ((nameCells vocab).drop (i * 3)).take 3 := by
    intro i hi
    have h1 := hel i hi
    rw [Tryz.cells146, List.getElem?_eq_getElem (by omega)] at h1
    obtain ⟨y, hy⟩ : ∃ y, vocab[i]? = some y := ⟨_, List.getElem?_eq_getElem (by rw [vocab_length]; exact hi)⟩
    have h2 : (xs[i]'(by omega)).1 = vocRow y := by
      have e1 : (xs.map (·.1))[i]? = some (xs[i]'(by omega)).1 := by rw [List.getElem?_map, List.getElem?_eq_getElem (by omega)]; rfl
      have e2 : (vocab.map vocRow)[i]? = some (vocRow y) := by rw [List.getElem?_map, hy]; rfl
      rw [← hx.1, e2] at e1
      exact (Option.some.inj e1).symm
    have h3 : DataW.trod (fun _ => ()) Tryz.prog w base spare held m 146 ((cs.drop (i * 3)).take 3) = some (vocRow y, (xs[i]'(by omega)).2) := by rw [h1, ← h2]
    rw [voc_row h3]
    obtain ⟨a1, a2, a3⟩ := nameCells_at vocab i y hy
    apply List.ext_getElem?
    intro j
    match j with
    | 0 => rw [List.getElem?_take, List.getElem?_drop]; simpa using a1.symm
    | 1 => rw [List.getElem?_take, List.getElem?_drop]; simpa using a2.symm
    | 2 => rw [List.getElem?_take, List.getElem?_drop]; simpa using a3.symm
    | j + 3 => rw [List.getElem?_take, if_neg (by omega)]; rfl
  apply List.ext_getElem?
  intro j
  by_cases hj : j < 117
  · have h1 := hrow (j / 3) (by omega)
    have h2 := congrArg (fun l => l[j % 3]?) h1
    simp only [List.getElem?_take, List.getElem?_drop] at h2
    rw [if_pos (Nat.mod_lt _ (by decide)), if_pos (Nat.mod_lt _ (by decide))] at h2
    have e : j / 3 * 3 + j % 3 = j := by omega
    rw [e] at h2
    exact h2
  · rw [List.getElem?_eq_none (by omega), List.getElem?_eq_none (by rw [nameCells_length, vocab_length]; omega)]

theorem var_block {P : Program} {w : World} {n : String} {g : Nat} {cs : Array Value} (hg : P.globalNamed n = some g) (h : w.var? P n = some cs) : ∃ T fr, w.heap[g]? = some (.cells cs T fr) := by
  unfold World.var? at h
  rw [hg] at h
  simp only [Option.bind_some] at h
  split at h
  · rename_i c T fr hh
    obtain rfl := Option.some.inj h
    exact ⟨_, _, hh⟩
  · cases h

theorem Tryz.gVoc : (Rows.compilesRow.laid[5]?).bind (fun x => Tryz.prog.globalNamed x.1) = some 0 := by kernel_rfl
theorem Tryz.gSyn : (Rows.compilesRow.laid[4]?).bind (fun x => Tryz.prog.globalNamed x.1) = some 1 := by kernel_rfl
theorem Tryz.gRan : (Rows.compilesRow.laid[3]?).bind (fun x => Tryz.prog.globalNamed x.1) = some 2 := by kernel_rfl
theorem Tryz.gB64 : (Rows.compilesRow.laid[1]?).bind (fun x => Tryz.prog.globalNamed x.1) = some 5 := by kernel_rfl
theorem Tryz.tVoc : (Tryz.prog.globals[0]?).map (·.type) = some 194 := by kernel_rfl
theorem Tryz.tSyn : (Tryz.prog.globals[1]?).map (·.type) = some 197 := by kernel_rfl
theorem Tryz.tRan : (Tryz.prog.globals[2]?).map (·.type) = some 197 := by kernel_rfl

theorem env_of_laid {W : World} (h : laidMetH Tryz.prog Rows.compilesRow.laid W) : VocOk W ∧ ErrsOk W := by
  rw [MakeChecks.laidMetH_plain _ _ _ (by kernel_rfl)] at h
  obtain ⟨ps, ⟨_, _, _, _, _, _, _, _, _, _, ⟨g1, _, c1, _, _, _, hg1, _, hv1, _, ⟨_, _, _, _, _, _, _, _, _, _, ⟨g3, t3, c3, f3, p3, q3, hg3, ht3, hv3, hd3, ⟨g4, t4, c4, f4, p4, q4, hg4, ht4, hv4, hd4, ⟨g5, t5, c5, f5, p5, q5, hg5, ht5, hv5, hd5, _, _⟩, _⟩, _⟩, _⟩, _⟩, _⟩, _, _⟩ := h
  obtain rfl := Option.some.inj (hg1.symm.trans Tryz.gB64)
  have h6 : 6 ≤ W.heap.size := by
    obtain ⟨_, _, hb⟩ := var_block hg1 hv1
    exact lt_of_block hb
  obtain rfl := Option.some.inj (hg3.symm.trans Tryz.gRan)
  obtain rfl := Option.some.inj (hg4.symm.trans Tryz.gSyn)
  obtain rfl := Option.some.inj (hg5.symm.trans Tryz.gVoc)
  obtain rfl := Option.some.inj (ht3.symm.trans Tryz.tRan)
  obtain rfl := Option.some.inj (ht4.symm.trans Tryz.tSyn)
  obtain rfl := Option.some.inj (ht5.symm.trans Tryz.tVoc)
  have hd5' := hd5
  rw [voc_datum] at hd5'
  have e5 := voc_cells hd5'
  have e5' : c5 = vocA := by
    unfold vocA
    rw [← e5]
  subst e5'
  obtain ⟨u3, v3, e3⟩ := trod_iface Tryz.underlying197 hd3
  obtain ⟨u4, v4, e4⟩ := trod_iface Tryz.underlying197 hd4
  have e3' : c3 = #[.iface u3 v3] := by rw [← e3]
  have e4' : c4 = #[.iface u4 v4] := by rw [← e4]
  subst e3' e4'
  refine ⟨⟨var_block hg5 hv5, h6⟩, ⟨u4, v4, ?_⟩, ⟨u3, v3, ?_⟩, h6⟩
  · simpa using World.var?_cell hg4 hv4 0
  · simpa using World.var?_cell hg3 hv3 0

end Go.Proofs.YtmeiikjpaepogaaGreatDoor

/- The program's compiler: define, a variable. -/
namespace Go.Proofs.YtmeiikjpaepogaaGreatDoor
open Go Go.RowKit

section
variable {B : Nat} {w w' w1 : World} {x : CX} {st : RS} {hx : Nat} {s0 : Int} {vd vm vo : Value} {fs fw fo : List Value}
/-- One cell more. -/
theorem Cr.setC (h : Cr B w x st hx s0 vd vm vo fs) (c : Int) : Cr B (w.setCell ⟨x.b, 7, none⟩ (.int .i64 c)) x { st with cells := c } hx s0 vd vm vo fs ∧ BoxStill w (w.setCell ⟨x.b, 7, none⟩ (.int .i64 c)) ∧ Below B w (w.setCell ⟨x.b, 7, none⟩ (.int .i64 c)) := by
  refine ⟨⟨?_, h.rdr.far h.ne.1 _, h.dp.far h.ne.2.1 _, h.mn.far h.ne.2.2.1 _, h.dm, h.base, h.owned.set (by simp) 7 _, h.names.to (Below.heap_setCell _ _ _ _ h.ne.2.2.2), h.small⟩, ?_, (Below.refl B w).setCell h.base.1 _⟩
  · have := h.blk.set 7 (.int .i64 c)
    unfold crArr at this
    simp only [List.setIfInBounds_toArray, List.set_cons_succ, List.set_cons_zero] at this
    exact this
  · refine fun k cs T hb ht => hb.far ?_ _
    intro e
    simp at e
    subst e
    have := Cr.bl h.blk hb
    subst this
    rcases ht with e | e | e <;> exact absurd e (by decide)
/-- A compiler with nothing open. -/
theorem Cr.bare (h : Cr B w x st x.m s0 vd vm vo []) (hs : st.start < 0) (hop : st.opens = []) : CpE B w x st := by
  have e : hereX x st = x.m := by unfold hereX; exact if_neg (by omega)
  refine ⟨s0, vd, vm, vo, [], [], Cr.cp (fw := []) (fo := []) ?_ (fun h => by omega) ⟨fun h => by omega, fun _ => rfl, by rw [hop]; rfl, fun i f o h1 _ => by simp at h1⟩⟩
  rw [e]
  exact h
theorem CpE.bare (h : CpE B w x st) (hs : st.start < 0) (hop : st.opens = []) : ∃ s0 vd vm ao co, Cr B w x st x.m s0 vd vm (.slice ao 0 co) [] := by
  obtain ⟨s0, vd, vm, vo, fw, fo, h⟩ := h
  obtain rfl := h.things.none hs
  have hfo : fo = [] := by have := h.things.len; rw [hop] at this; simpa using this
  subst hfo
  obtain ⟨ao, co, hvo⟩ := own_shape h.oo
  subst hvo
  have e : hereX x st = x.m := by unfold hereX; exact if_neg (by omega)
  have hr := h.raw
  rw [e] at hr
  exact ⟨s0, vd, vm, ao, co, hr⟩
end

set_option maxRecDepth 100000 in
set_option maxHeartbeats 4000000 in
theorem cdef_variable (B : Nat) (x : CX) (st : RS) (w : World) (h : CpE B w x st) (m : Nat) (hi : Inv st m) (hm : m < 3000) (hs : st.start < 0) (hop : st.opens = []) (h0 : st.err = 0) (hB : 6 ≤ B) (hV : VocOk w) (hE : ErrsOk w) (hbad : badName (stepS st) = false) (hnew : (stepS st).names.find? (fun x => x.1 == (stepS st).token) = none) :
    Calls Tryz.prog 147 #[.pointer (some ⟨x.b, 0, none⟩), .int .i64 2] w (Took B w x (variableS (stepS st) (stepS st).token)) := by
  have HN := hide (cnext_any B x st w h hi.next)
  have hsz : (stepS st).token.size ≤ 2000 := by have := stepS_token_size st; have := hi.size; omega
  have hml := may_link (stepS st)
  rw [hbad] at hml
  have hcl : 0 ≤ (stepS st).cells ∧ (stepS st).cells ≤ 3000 := by have := hi.lens; unfold lens at this; show 0 ≤ st.cells ∧ st.cells ≤ 3000; omega
  have hnl : (stepS st).names.length < 4000 := by have := hi.lens; unfold lens at this; show st.names.length < 4000; omega
  have HM : Hid (∀ w1, CpE B w1 x (stepS st) → Below B w w1 → Calls Tryz.prog 193 #[.pointer (some ⟨x.b, 0, none⟩), .string (stepS st).token] w1 (fun e w' => e = .returned (.bool true) ∧ Below w1.heap.size w1 w')) := by
    intro w1 h1 hb
    have := mayBeName_any B x (stepS st) w1 h1 (stepS st).token hsz (hV.low hB hb) (hE.low hB hb)
    rw [hml] at this
    exact this
  have hs' : (stepS st).start < 0 := hs
  have hop' : (stepS st).opens = [] := hop
  obtain ⟨s0, vd, vm, ao, co, hr⟩ := h.bare hs hop
  have hc := hr.blk.cell
  unfold crArr at hc
  have h0' : (stepS st).err = 0 := h0
  have HE0 := hide h0'
  have HS := hide (And.intro hs' hop')
  have HNW := hide (And.intro hnew (And.intro hsz hnl))
  clear h hr hbad hml h0 h0' hV hE hs' hop' hs hop hi hnew hsz hnl
  generalize hu : stepS st = u at *
  clear hu
  go_enter Tryz.func147, Tryz.ntmps147
  go_wp2_with fail
  refine (unhide HN).mono ?_
  rintro e w1 ⟨rfl, h1, hb1⟩
  have HM1 := hide (unhide HM w1 h1 hb1)
  have H1 := hide (And.intro h1 hb1)
  clear h1 hb1 HM HN hc
  go_wp2_with fail
  refine (unhide HM1).mono ?_
  rintro e w2 ⟨rfl, hb2⟩
  clear HM1
  obtain ⟨h1, hb1⟩ := unhide H1
  have h2 := h1.below hb2
  have hbw2 : Below B w w2 := hb1.trans (below_less hb2 h1.size)
  obtain ⟨s0, vd, vm, ao, co, hr2⟩ := h2.bare (unhide HS).1 (unhide HS).2
  obtain ⟨hnew, hsz, hnl⟩ := unhide HNW
  have HUP := hide (updW B x u w2 x.m s0 vd vm (.slice ao 0 co) [] hr2 u.token 0 u.cells hsz hnl hnew)
  have hc2 := hr2.blk.cell
  unfold crArr at hc2
  have hxl := hr2.blk.lt
  have hxa : x.b < w2.heap.size + 1 := by omega
  have hxb : x.b ≤ w2.heap.size := by omega
  have H2 := hide hbw2
  clear hbw2 h2 h1 hb1 hb2 hr2 hnew hsz hnl H1 HNW
  generalize hce : u.cells = c at *
  have HCE := hide hce
  clear hce
  have hwr : IntKind.i64.wrap (c + 1) = c + 1 := by rw [IntKind.wrap_i64]; omega
  go_wp2_with fail
  go_cut [] from 8 to 62 (fun wd => Cr B wd x { u with names := u.names ++ [(u.token, 0, c)], cells := c } x.m s0 vd vm (.slice ao 0 co) [] ∧ BoxStill w2 wd ∧ Below B w2 wd)
  case first =>
    obtain ⟨w3, hrun, h3⟩ := unhide HUP (w2.alloc (.cells #[.int .i64 0, .int .i64 c] 65)).drew (by (repeat (first | with_reducible refine below_drew ?_ | with_reducible refine below_drawn ?_ _ | with_reducible refine below_longer ?_ _ | (with_reducible refine Below.alloc ?_ ?_ _; rotate_left; (first | omega | ((try simp only [World.size_up]) <;> (try simp only [World.size_dr]) <;> (try simp only [World.size_drN]) <;> (try simp only [World.size_up]) <;> (try simp only [World.size_dr]) <;> (try simp only [World.size_up]) <;> omega))))); (with_reducible exact Below.refl _ _))
    have H3 := hide h3
    clear h3 HUP
    go_region_law (refine step_call rfl 77 #[.const (.int .i64 0), .tmp 36] #[3, 2] rfl Tryz.func77 Tryz.name77 Tryz.body77 #[.int .i64 0, .int .i64 c] (by first | (simp [Act.eval]; done) | (simp [Act.eval, Act.put]; done) | rfl) (withI_any 0 c _) ?_; rintro e w1 ⟨rfl, rfl⟩; refine ⟨_, rfl, ?_⟩)
    all_goals
      go_wp2_with fail
      go_meet
      exact unhide H3
  case rest =>
    obtain ⟨hr3, _, hb3⟩ := hcut
    have hc3 := hr3.blk.cell
    have hf3 := hr3.blk.free
    unfold crArr at hc3
    have H3 := hide (And.intro hr3 hb3)
    clear hr3 hb3 hc2 HUP
    go_wp2_with fail
    go_ret
    obtain ⟨hr3, hb3⟩ := unhide H3
    obtain ⟨k1, _, k3⟩ := hr3.setC (c + 1)
    have e : variableS u u.token = { u with names := u.names ++ [(u.token, 0, c)], cells := c + 1 } := by unfold variableS; rw [unhide HCE]
    rw [e]
    exact Took.ok (unhide HE0) (k1.bare (unhide HS).1 (unhide HS).2) ((unhide H2).trans (hb3.trans k3))

end Go.Proofs.YtmeiikjpaepogaaGreatDoor

/- The program's compiler: define, a constant. -/
namespace Go.Proofs.YtmeiikjpaepogaaGreatDoor
open Go Go.RowKit

theorem constant_yes {u : RS} (h : (numS (stepS u).token).isSome = true) (t : ByteArray) : constantS u t = { stepS u with names := (stepS u).names ++ [(t, 0, numV (stepS u).token)] } := by
  unfold constantS constant3
  rw [if_pos h]
theorem constant_no {u : RS} (h : (numS (stepS u).token).isSome = false) (h0 : u.err = 0) (t : ByteArray) : (constantS u t).err = 3 ∧ (constantS u t).place = ((stepS u).place0 : Int) := by
  have h0' : (stepS u).err = 0 := h0
  unfold constantS constant3 failS
  rw [if_neg (by rw [h]; simp), if_pos h0']
  exact ⟨rfl, rfl⟩

set_option maxRecDepth 100000 in
set_option maxHeartbeats 4000000 in
theorem cdef_constant (B : Nat) (x : CX) (st : RS) (w : World) (h : CpE B w x st) (m : Nat) (hi : Inv st m) (hm : m < 3000) (hs : st.start < 0) (hop : st.opens = []) (h0 : st.err = 0) (hB : 6 ≤ B) (hV : VocOk w) (hE : ErrsOk w) (hbad : badName (stepS st) = false) (hnew : (stepS st).names.find? (fun x => x.1 == (stepS st).token) = none) :
    Calls Tryz.prog 147 #[.pointer (some ⟨x.b, 0, none⟩), .int .i64 3] w (Took B w x (constantS (stepS st) (stepS st).token)) := by
  have HN := hide (cnext_any B x st w h hi.next)
  have hsz : (stepS st).token.size ≤ 2000 := by have := stepS_token_size st; have := hi.size; omega
  have hsz2 : (stepS (stepS st)).token.size ≤ 2000 := by have := stepS_token_size (stepS st); have := (stepS_inv hi).1.size; omega
  have hml := may_link (stepS st)
  rw [hbad] at hml
  have hnl : (stepS st).names.length < 4000 := by have := hi.lens; unfold lens at this; show st.names.length < 4000; omega
  have hnx : (stepS st).next ≤ (stepS st).s.size := (stepS_inv hi).1.next
  have HM : Hid (∀ w1, CpE B w1 x (stepS st) → Below B w w1 → Calls Tryz.prog 193 #[.pointer (some ⟨x.b, 0, none⟩), .string (stepS st).token] w1 (fun e w' => e = .returned (.bool true) ∧ Below w1.heap.size w1 w')) := by
    intro w1 h1 hb
    have := mayBeName_any B x (stepS st) w1 h1 (stepS st).token hsz (hV.low hB hb) (hE.low hB hb)
    rw [hml] at this
    exact this
  have HN2 : Hid (∀ w1, CpE B w1 x (stepS st) → Calls Tryz.prog 48 #[.pointer (some ⟨x.b, 0, none⟩)] w1 fun e w' => e = .returned (.string (stepS (stepS st)).token) ∧ CpE B w' x (stepS (stepS st)) ∧ Below B w1 w') := fun w1 h1 => cnext_any B x (stepS st) w1 h1 hnx
  have HNUM : Hid (∀ w1, Below B w w1 → Calls Tryz.prog 76 #[.string (stepS (stepS st)).token] w1 fun e w' => e = .returned (.tuple #[.int .i64 (numV (stepS (stepS st)).token), .bool (numS (stepS (stepS st)).token).isSome]) ∧ Below w1.heap.size w1 w') := fun w1 hb => tokNumber_any _ w1 hsz2 (hE.low hB hb)
  have hs' : (stepS st).start < 0 := hs
  have hop' : (stepS st).opens = [] := hop
  obtain ⟨s0, vd, vm, ao, co, hr⟩ := h.bare hs hop
  have hc := hr.blk.cell
  unfold crArr at hc
  have h0' : (stepS st).err = 0 := h0
  have HE0 := hide h0'
  have HS := hide (And.intro hs' hop')
  have HNW := hide (And.intro hnew (And.intro hsz hnl))
  clear h hr hbad hml h0 h0' hV hE hs' hop' hs hop hi hnew hsz hnl hnx hsz2
  generalize hu : stepS st = u at *
  clear hu
  go_enter Tryz.func147, Tryz.ntmps147
  go_wp2_with fail
  refine (unhide HN).mono ?_
  rintro e w1 ⟨rfl, h1, hb1⟩
  have HM1 := hide (unhide HM w1 h1 hb1)
  have H1 := hide (And.intro h1 hb1)
  clear h1 hb1 HM HN hc
  go_wp2_with fail
  refine (unhide HM1).mono ?_
  rintro e w2 ⟨rfl, hb2⟩
  have HN3 := hide (unhide HN2 w2 ((unhide H1).1.below hb2))
  have H2 := hide ((unhide H1).2.trans (below_less hb2 (unhide H1).1.size))
  clear HM1 H1 hb2 HN2
  go_wp2_with fail
  refine (unhide HN3).mono ?_
  rintro e w3 ⟨rfl, h3, hb3⟩
  have HNUM3 := hide (unhide HNUM w3 ((unhide H2).trans hb3))
  have H3 := hide (And.intro h3 ((unhide H2).trans hb3))
  clear HN3 h3 hb3 H2 HNUM
  go_wp2_with fail
  refine (unhide HNUM3).mono ?_
  rintro e w4 ⟨rfl, hb4⟩
  have h4 := (unhide H3).1.below hb4
  have hbw4 : Below B w w4 := (unhide H3).2.trans (below_less hb4 (unhide H3).1.size)
  clear HNUM3 H3 hb4
  cases hnum : (numS (stepS u).token).isSome
  · have HA := hide (And.intro h4.atIs hbw4)
    have HCN := hide (constant_no hnum (unhide HE0) u.token)
    clear h4 hbw4 hnum
    generalize numV (stepS u).token = nv at *
    go_wp2_with fail
    go_ret
    obtain ⟨e1, e2⟩ := unhide HCN
    exact ⟨by rw [e1]; rfl, fun e => by rw [e1] at e; exact absurd e (by decide), fun _ => ⟨_, e2, (unhide HA).1⟩, (unhide HA).2⟩
  · obtain ⟨s0, vd, vm, ao, co, hr4⟩ := h4.bare (unhide HS).1 (unhide HS).2
    obtain ⟨hnew, hsz, hnl⟩ := unhide HNW
    have HUP := hide (updW B x (stepS u) w4 x.m s0 vd vm (.slice ao 0 co) [] hr4 u.token 0 (numV (stepS u).token) hsz hnl hnew)
    have hc4 := hr4.blk.cell
    unfold crArr at hc4
    have hxl := hr4.blk.lt
    have hxa : x.b < w4.heap.size + 1 := by omega
    have hxb : x.b ≤ w4.heap.size := by omega
    have HY := hide (constant_yes hnum u.token)
    have H4 := hide hbw4
    clear hbw4 h4 hr4 hnew hsz hnl HNW hnum
    generalize hnv : numV (stepS u).token = nv at *
    have HNV := hide hnv
    clear hnv
    go_wp2_with fail
    obtain ⟨w5, hrun, h5⟩ := unhide HUP (w4.alloc (.cells #[.int .i64 0, .int .i64 nv] 65)).drew (by (repeat (first | with_reducible refine below_drew ?_ | with_reducible refine below_drawn ?_ _ | with_reducible refine below_longer ?_ _ | (with_reducible refine Below.alloc ?_ ?_ _; rotate_left; (first | omega | ((try simp only [World.size_up]) <;> (try simp only [World.size_dr]) <;> (try simp only [World.size_drN]) <;> (try simp only [World.size_up]) <;> (try simp only [World.size_dr]) <;> (try simp only [World.size_up]) <;> omega))))); (with_reducible exact Below.refl _ _))
    have H5 := hide h5
    clear h5 HUP
    go_region_law (refine step_call rfl 77 #[.const (.int .i64 0), .tmp 60] #[3, 2] rfl Tryz.func77 Tryz.name77 Tryz.body77 #[.int .i64 0, .int .i64 nv] (by first | (simp [Act.eval]; done) | (simp [Act.eval, Act.put]; done) | rfl) (withI_any 0 nv _) ?_; rintro e w1 ⟨rfl, rfl⟩; refine ⟨_, rfl, ?_⟩)
    all_goals
      go_wp2_with fail
      go_ret
      obtain ⟨hr5, _, hb5⟩ := unhide H5
      rw [unhide HY]
      exact Took.ok (unhide HE0) (hr5.bare (unhide HS).1 (unhide HS).2) ((unhide H4).trans hb5)

end Go.Proofs.YtmeiikjpaepogaaGreatDoor

/- The program's compiler: openBegin. -/
namespace Go.Proofs.YtmeiikjpaepogaaGreatDoor
open Go Go.RowKit

set_option maxRecDepth 100000 in
set_option maxHeartbeats 4000000 in
theorem openBegin_any (B : Nat) (x : CX) (st : RS) (w : World) (h : CpE B w x st) (hop : st.opens.length < 3980) :
    Calls Tryz.prog 144 #[.pointer (some ⟨x.b, 0, none⟩)] w fun e w' => e = .returned (.tuple #[]) ∧ CpE B w' x (openS st (⟨#[98, 101, 103, 105, 110]⟩, hereS st, 0)) ∧ BoxStill w w' ∧ Below B w w' := by
  obtain ⟨fw, fo, h⟩ := h.f
  have hb0 : Below w.heap.size w (w.alloc (.cells #[.pointer (some ⟨x.b, 0, none⟩)] 91)) := by (repeat (first | with_reducible refine below_drew ?_ | with_reducible refine below_drawn ?_ _ | with_reducible refine below_longer ?_ _ | (with_reducible refine Below.alloc ?_ ?_ _; rotate_left; (first | omega | ((try simp only [World.size_up]) <;> (try simp only [World.size_dr]) <;> (try simp only [World.size_drN]) <;> (try simp only [World.size_up]) <;> (try simp only [World.size_dr]) <;> (try simp only [World.size_up]) <;> omega))))); (with_reducible exact Below.refl _ _)
  have hcb : Blk (w.alloc (.cells #[.pointer (some ⟨x.b, 0, none⟩)] 91)) w.heap.size #[.pointer (some ⟨x.b, 0, none⟩)] 91 := by (repeat (first | with_reducible refine Blk.drew ?_ | with_reducible refine Blk.drewN ?_ _ | (with_reducible refine blk_newAt _ _ ?_; (first | omega | ((try simp only [World.size_up]) <;> (try simp only [World.size_dr]) <;> (try simp only [World.size_drN]) <;> (try simp only [World.size_up]) <;> (try simp only [World.size_dr]) <;> (try simp only [World.size_up]) <;> omega))) | with_reducible refine Blk.alloc ?_ _)); (first | done | with_reducible assumption)
  have h0 := h.below hb0
  have hB := h.size
  obtain ⟨s0, vo, hblk⟩ := h0.blk
  have hc := hblk.cell
  have hxl := h.size0
  have hxa0 : x.b < w.heap.size := by omega
  have hxb0 : x.b ≤ w.heap.size := by omega
  have hxa1 : x.b < w.heap.size + 1 := by omega
  have hxb1 : x.b ≤ w.heap.size + 1 := by omega
  have hxa2 : x.b < w.heap.size + 1 + 1 := by omega
  have hxb2 : x.b ≤ w.heap.size + 1 + 1 := by omega
  have hxa3 : x.b < w.heap.size + 1 + 1 + 1 := by omega
  have hxb3 : x.b ≤ w.heap.size + 1 + 1 + 1 := by omega
  have hxa4 : x.b < w.heap.size + 1 + 1 + 1 + 1 := by omega
  have hxb4 : x.b ≤ w.heap.size + 1 + 1 + 1 + 1 := by omega
  have hxa5 : x.b < w.heap.size + 1 + 1 + 1 + 1 + 1 := by omega
  have hxb5 : x.b ≤ w.heap.size + 1 + 1 + 1 + 1 + 1 := by omega
  unfold cpArr at hc
  have H0 := hide h0
  have hsz : (w.alloc (.cells #[.pointer (some ⟨x.b, 0, none⟩)] 91)).heap.size = w.heap.size + 1 := by simp
  have hcc := hcb.cell
  have HCB := hide hcb
  have HB0 := hide hb0
  clear hblk hcb hb0 h h0
  have HNX := hide (nextF_any B x st _ (unhide H0).e)
  generalize hhx : hereX x st = hx at *
  have HHX := hide hhx
  clear hhx
  go_enter Tryz.func144, Tryz.ntmps144
  go_wp2_with fail
  refine (unhide HNX).mono ?_
  rintro e w1 ⟨rfl, rfl⟩
  generalize w.alloc (.cells #[.pointer (some ⟨x.b, 0, none⟩)] 91) = W0 at *
  go_wp2_with fail
  have hb1 : Below W0.heap.size W0 (W0.alloc (.cells #[.int .i64 (hereS st)] 2)) := by (repeat (first | with_reducible refine below_drew ?_ | with_reducible refine below_drawn ?_ _ | with_reducible refine below_longer ?_ _ | (with_reducible refine Below.alloc ?_ ?_ _; rotate_left; (first | omega | ((try simp only [World.size_up]) <;> (try simp only [World.size_dr]) <;> (try simp only [World.size_drN]) <;> (try simp only [World.size_up]) <;> (try simp only [World.size_dr]) <;> (try simp only [World.size_up]) <;> omega))))); (with_reducible exact Below.refl _ _)
  have e1 : (W0.alloc (.cells #[.int .i64 (hereS st)] 2)).heap.size = w.heap.size + 1 + 1 := by rw [World.size_up, hsz]
  have hcb1 := (unhide HCB).alloc (.cells #[.int .i64 (hereS st)] 2)
  have hp := pushW B x st (W0.alloc (.cells #[.int .i64 (hereS st)] 2)) ((unhide H0).below hb1).e (.func (.func 190) #[] #[.pointer (some ⟨w.heap.size, 0, none⟩), .pointer (some ⟨w.heap.size + 1, 0, none⟩)]) rfl (⟨#[98, 101, 103, 105, 110]⟩, hereS st, 0) ⟨_, hcb1, Or.inr (Or.inr (Or.inl ⟨rfl, _, (by (repeat (first | with_reducible refine Blk.drew ?_ | with_reducible refine Blk.drewN ?_ _ | (with_reducible refine blk_newAt _ _ ?_; (first | omega | ((try simp only [World.size_up]) <;> (try simp only [World.size_dr]) <;> (try simp only [World.size_drN]) <;> (try simp only [World.size_up]) <;> (try simp only [World.size_dr]) <;> (try simp only [World.size_up]) <;> omega))) | with_reducible refine Blk.alloc ?_ _)); (first | done | with_reducible assumption)), rfl⟩))⟩ (by omega)
  rw [e1] at hp
  refine hp.mono ?_
  rintro e w2 ⟨rfl, k1, k2, k3⟩
  clear hp hcb1
  have HB1 := hide hb1
  clear hb1
  go_wp2_with fail
  go_end0
  exact ⟨rfl, k1, (BoxStill.ofBelow (unhide HB0)).trans ((BoxStill.ofBelow (unhide HB1)).trans k2), (below_less (unhide HB0) (by omega)).trans ((below_less (unhide HB1) (by omega)).trans k3)⟩

end Go.Proofs.YtmeiikjpaepogaaGreatDoor

