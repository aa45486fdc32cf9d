/- The program's Load, whole. -/
import Derived.Test.YtmeiikjpaepogaaGreatDoorK45
import Derived.Test.YtmeiikjpaepogaaGreatDoorCards
import Derived.Test.YtmeiikjpaepogaaGreatDoorTie
import Derived.Deep.DeepWitnessRowRef
import Derived.WideKeyArgs
namespace Go.Proofs.YtmeiikjpaepogaaGreatDoor
open Go Go.RowKit

set_option maxRecDepth 100000 in
set_option maxHeartbeats 8000000 in
theorem isSound_any (g off c : Nat) (l : List (Int × Int)) (w : World) (hg : g < w.heap.size) (hcells : ∀ j u, (instrCells l)[j]? = some u → w.cell? ⟨g, off + j, none⟩ = some u) (hpos : 0 < l.length) (h5 : l.length ≤ 5000) :
    Calls Tryz.prog 57 #[.slice (some ⟨g, off, none⟩) l.length c] w fun e w' => e = .returned (.bool (l.all (soundS l.length) && endsS l)) ∧ Below w.heap.size w w' := by
  have HCE := V hcells
  have h5I : (l.length : Int) ≤ 5000 := by omega
  have hbad : ∀ (k : Nat) (x : Int × Int), l[k]? = some x → soundS l.length x = false → (l.all (soundS l.length) && endsS l) = false := fun k x hx h => by
    have : l.all (soundS l.length) = false := by
      rw [List.all_eq_false]
      exact ⟨x, List.mem_of_getElem? hx, by rw [h]; simp⟩
    rw [this]
    rfl
  have HBAD := V hbad
  have hall0 : (∀ j x, j < l.length → l[j]? = some x → soundS l.length x = true) → (l.all (soundS l.length) && endsS l) = endsS l := fun h => by
    have : l.all (soundS l.length) = true := by
      rw [List.all_eq_true]
      intro x hx
      obtain ⟨j, hj, e⟩ := List.getElem_of_mem hx
      exact h j x hj (by rw [List.getElem?_eq_getElem hj, e])
    rw [this]
    rfl
  have HAL := V hall0
  clear hcells hbad hall0
  generalize (l.all (soundS l.length) && endsS l) = res at *
  go_enter Tryz.func57, Tryz.ntmps57
  go_wp2_with fail
  go_loopw [7] (fun i wr => ∃ k : Nat, i = .int .i64 k ∧ k ≤ l.length ∧ (∀ j x, j < k → l[j]? = some x → soundS l.length x = true) ∧ Below w.heap.size w wr) (fun i _ => l.length - (intOf i).toNat)
  case atStart => exact ⟨0, rfl, Nat.zero_le _, fun j x hj => absurd hj (Nat.not_lt_zero _), Below.refl _ _⟩
  case round =>
    obtain ⟨k, rfl, hk, hall, hbr⟩ := hrel
    have HALL := V hall
    have HBR := V hbr
    have hgr : g < wr.heap.size := by have := hbr.size; omega
    by_cases hlt : k < l.length
    · obtain ⟨x, hx⟩ : ∃ x, l[k]? = some x := ⟨_, List.getElem?_eq_getElem hlt⟩
      have hc0 := in_cell (U HCE) hx
      have hcr1 : wr.cell? ⟨g, off + k * 2, none⟩ = some (.int .i64 x.1) := by rw [hbr.cell (by simpa using hg)]; exact hc0.1
      have hcr2 : wr.cell? ⟨g, off + k * 2 + 1, none⟩ = some (.int .i64 x.2) := by rw [hbr.cell (by simpa using hg)]; exact hc0.2
      have hltI : (k : Int) < l.length := by omega
      have HIO := V (fun W => isOperator_any x.1 W)
      have HNI := V (fun W => namesIns_any x.1 W)
      have hbN : Below w.heap.size w (wr.alloc (.cells #[.int .i64 x.1, .int .i64 x.2] 65)) := hbr.trans ((below_box wr _).mono hbr.size)
      have HBN := V hbN
      have HX := V hx
      have hsnd : soundS l.length x = (opS x.1 && (!namesS x.1 || decide (0 ≤ x.2 ∧ x.2 < l.length))) := rfl
      generalize hsx : soundS l.length x = sx at hsnd
      have HSX := V hsx
      clear hx hc0 hall hbr hbN hsx
      generalize x.1 = xo at *
      generalize x.2 = xa at *
      generalize hop : opS xo = ob at HIO hsnd
      generalize hnn : namesS xo = nb at HNI hsnd
      clear hop hnn
      go_wp2_with fail
      refine (U HIO _).mono ?_
      rintro e w1 ⟨rfl, hw1⟩
      obtain rfl := hw1.symm
      clear hw1 HIO
      cases ob
      · have HR := V (U HBAD k x (U HX) (by rw [U HSX, hsnd]; rfl))
        clear hsnd
        go_wp2_with fail
        go_ret
        rw [U HR]
        exact ⟨rfl, U HBN⟩
      · go_wp2_with fail
        refine (U HNI _).mono ?_
        rintro e w1 ⟨rfl, hw1⟩
        obtain rfl := hw1.symm
        clear hw1 HNI
        cases nb
        · have hgood : sx = true := by rw [hsnd]; rfl
          clear hsnd
          go_wp2_with fail
          go_roundw
          case rel =>
            refine ⟨k + 1, by go_num, by omega, ?_, U HBN⟩
            intro j y hj hy
            rcases Nat.lt_or_ge j k with h1 | h1
            · exact U HALL j y h1 hy
            · obtain rfl : j = k := by omega
              rw [U HX] at hy
              obtain rfl := Option.some.inj hy
              rw [U HSX]
              exact hgood
          case measure => simp [intOf]; omega
        · by_cases hneg : xa < 0
          · have HR := V (U HBAD k x (U HX) (by rw [U HSX, hsnd]; simp; omega))
            clear hsnd
            go_wp2_with fail
            go_ret
            rw [U HR]
            exact ⟨rfl, U HBN⟩
          by_cases hbig : (l.length : Int) ≤ xa
          · have HR := V (U HBAD k x (U HX) (by rw [U HSX, hsnd]; simp; omega))
            clear hsnd
            go_wp2_with fail
            go_ret
            rw [U HR]
            exact ⟨rfl, U HBN⟩
          · have hgood : sx = true := by rw [hsnd]; simp; omega
            clear hsnd
            go_wp2_with fail
            go_roundw
            case rel =>
              refine ⟨k + 1, by go_num, by omega, ?_, U HBN⟩
              intro j y hj hy
              rcases Nat.lt_or_ge j k with h1 | h1
              · exact U HALL j y h1 hy
              · obtain rfl : j = k := by omega
                rw [U HX] at hy
                obtain rfl := Option.some.inj hy
                rw [U HSX]
                exact hgood
            case measure => simp [intOf]; omega
    · have hkn : k = l.length := by omega
      subst hkn
      obtain ⟨x, hx⟩ : ∃ x, l[l.length - 1]? = some x := ⟨_, List.getElem?_eq_getElem (by omega)⟩
      have hlast : l.getLast? = some x := by rw [List.getLast?_eq_getElem?]; exact hx
      have hc0 := in_cell (U HCE) hx
      have hcw : wr.cell? ⟨g, off + (l.length - 1) * 2, none⟩ = some (.int .i64 x.1) := by
        rw [hbr.cell (by simpa using hg)]
        exact hc0.1
      have hsub : (l.length : Int) - 1 = ((l.length - 1 : Nat) : Int) := by omega
      have hln : (((l.length - 1 : Nat)) : Int) < l.length := by omega
      have hends : endsS l = decide (x.1 = 1 ∨ x.1 = 4 ∨ x.1 = 5) := by unfold endsS; rw [hlast]
      have HE := V hends
      have HGO := V (goesOn_any x.1 wr)
      clear hx hlast hc0 hall hbr hlt hends
      generalize decide (x.1 = 1 ∨ x.1 = 4 ∨ x.1 = 5) = eb at *
      go_wp2_with fail
      refine (U HGO).mono ?_
      rintro e w1 ⟨rfl, hw1⟩
      obtain rfl := hw1.symm
      clear hw1 HGO
      go_wp2_with fail
      go_ret
      rw [U HAL (U HALL), U HE]
      refine ⟨?_, U HBR⟩
      cases eb <;> rfl

set_option maxRecDepth 100000 in
set_option maxHeartbeats 2000000 in
theorem clone4_any (g off c : Nat) (l : List (Int × Int)) (w : World) (hg : g < w.heap.size) (hcells : ∀ j u, (instrCells l)[j]? = some u → w.cell? ⟨g, off + j, none⟩ = some u) (hpos : 0 < l.length) (hl : l.length ≤ 50000) :
    Calls Tryz.prog 37 #[.slice (some ⟨g, off, none⟩) l.length c] w fun e w' => ∃ v, e = .returned v ∧ w'.ownsRow w.heap.size 65 2 v l.length (instrCells l) ∧ Below w.heap.size w w' := by
  obtain ⟨iI, hiI, hzI0, hzI1, hzI2⟩ := info_parts Tryz.infoInstr
  have hE : (w.alloc (.cells #[] 65)).ownsRow w.heap.size 65 2 (.slice (some ⟨w.heap.size, 0, none⟩) 0 0) 0 [] := ⟨rfl, Or.inr ⟨w.heap.size, 0, #[], rfl, Nat.le_refl _, Blk.new w _ _, Nat.le_refl _, by unfold maxLen; omega, rfl, rfl⟩⟩
  have HE := V hE
  have hnews : ∀ j u, (instrCells l)[j]? = some u → (w.alloc (.cells #[] 65)).cell? ((⟨g, off, none⟩ : Addr).add j) = some u := fun j u hj => by
    rw [addr_off, (below_box w (.cells #[] 65)).cell (by simpa using hg)]
    exact hcells j u hj
  have HN := V hnews
  have HL : Hid ((instrCells l).length = l.length * 2) := instrCells_length l
  have qn : ∀ W : World, (binOp .eql 33 (.slice (some ⟨g, off, none⟩) l.length c) (.slice none 0 0)).run Tryz.prog W = .ok (.bool false) W := fun W => Lib.run_eql_slice_nil W _ _ _ _ _ _ _ Tryz.underlying33
  clear hE hnews hcells
  go_enter Tryz.func37, Tryz.ntmps37
  go_wp2_with (at_builtin; refine wpList_append_lies _ rfl (.tmp 5) (.tmp 6) 33 rfl w.heap.size 65 iI _ 2 16 Tryz.underlying33 hiI hzI0 hzI1 hzI2 rfl (by decide) (.slice (some ⟨w.heap.size, 0, none⟩) 0 0) 0 [] (by simp [Act.eval]) (U HE) ⟨g, off, none⟩ l.length c (instrCells l) (by simp [Act.eval]) (U HL) (U HN) (instr_oneCell l) hpos (by unfold maxLen; omega) (by omega) (by simp) _ rfl ?_; intro g2 cap2 w5 hown hgrow hat hlt1; have HOW := V hown; have HG := V hgrow; clear hown hgrow hat)
  go_ret
  have ho := U HOW
  rw [Nat.zero_add, List.nil_append] at ho
  refine ⟨_, rfl, ho, ((Below.refl _ _).alloc (Nat.le_refl _) _).grown (U HG) (by simp) (fun k hk => by simp [Value.ownBlock] at hk; omega)⟩
theorem results_row_tmp1 {P : Program} {fn : Func} {p u : Tmp} {ty : TypeId} (h : fn.results = #[.cell p ty, .tmp u]) (tmps : Array Value) (w : World) (g : Nat) (t : TypeId) (cs : Array Value) (fr : Nat × Nat) (d : TypeDesc)
    (hp : tmps.getD p undef = .pointer (some ⟨g, 0, none⟩)) (hg : w.heap[g]? = some (.cells cs t fr))
    (hu : P.underlying ty = some d) (hd : (match d with | .struct _ | .array _ _ => true | _ => false) = true) (hi : (P.info? ty).map (·.size) = some cs.size) :
    (results fn tmps).run P w = .ok (.tuple #[.agg cs, tmps.getD u undef]) w := by
  have hp' : tmps[p]?.getD undef = .pointer (some ⟨g, 0, none⟩) := by simpa using hp
  simp only [results, h]
  simp [hp', asAddr, run_loadVar_row w g t ty cs fr d hg hu hd hi]
/-- What code.Load answers. -/
def CLoad (w : World) (l : List (Int × Int)) (en ce : Int) (e : Ending) (w' : World) : Prop :=
  (loadS l en ce = false ∧ e = .returned (.tuple #[.agg #[.slice none 0 0, .int .i64 0, .int .i64 0], .int .i64 5]) ∨
   loadS l en ce = true ∧ ∃ g cap, e = .returned (.tuple #[.agg #[.slice (some ⟨g, 0, none⟩) l.length cap, .int .i64 en, .int .i64 ce], .int .i64 0]) ∧ w'.ownsRow w.heap.size 65 2 (.slice (some ⟨g, 0, none⟩) l.length cap) l.length (instrCells l)) ∧ Below w.heap.size w w'

set_option maxRecDepth 100000 in
set_option maxHeartbeats 8000000 in
theorem cload_any (ao : Option Addr) (c : Nat) (l : List (Int × Int)) (en ce : Int) (w : World) (hin : InL w ao l) :
    Calls Tryz.prog 38 #[.slice ao l.length c, .int .i64 en, .int .i64 ce] w (CLoad w l en ce) := by
  have hb0 : Below w.heap.size w (w.alloc (.cells #[.slice none 0 0, .int .i64 0, .int .i64 0] 73)) := by (repeat (first | with_reducible refine below_drew ?_ | with_reducible refine below_drawn ?_ _ | with_reducible refine below_longer ?_ _ | (with_reducible refine Below.alloc ?_ ?_ _; rotate_left; (first | omega | ((repeat (first | rw [World.size_up] | rw [World.size_dr] | rw [World.size_drN])) <;> omega))))); (with_reducible exact Below.refl _ _)
  have hR := Blk.new w #[.slice none 0 0, .int .i64 0, .int .i64 0] 73
  have HB0 := V hb0
  have HR := V hR
  have HSH := V (fun W => hasShape_any l.length en ce W)
  cases hs : shapeS l.length en ce
  · rw [hs] at HSH
    have hno : loadS l en ce = false := by unfold loadS; rw [hs]; rfl
    have HNO := V hno
    clear hno
    clear hb0 hR hs hin
    go_enter Tryz.func38, Tryz.ntmps38
    go_wp2_with fail
    generalize w.alloc (.cells #[.slice none 0 0, .int .i64 0, .int .i64 0] 73) = W0 at *
    refine (U HSH _).mono ?_
    rintro e w1 ⟨rfl, hw1⟩
    obtain rfl := hw1.symm
    clear hw1 HSH
    have hc := (U HR).cell
    have hf := (U HR).free
    have hl := (U HR).lt
    go_wp2_with fail
    refine bodyPost_ret (results_row_tmp1 (P := Tryz.prog) rfl _ _ w.heap.size 73 _ (0, 0) _ rfl (triple_set (U HR) rfl) Tryz.underlying73 rfl Tryz.sizeProgram) rfl ?_
    exact ⟨Or.inl ⟨U HNO, rfl⟩, (((U HB0).setCell (Nat.le_refl _) _).setCell (Nat.le_refl _) _).setCell (Nat.le_refl _) _⟩
  · rw [hs] at HSH
    have hs' := hs
    unfold shapeS at hs'
    have hsd := of_decide_eq_true hs'
    rcases hin with h0 | ⟨g, off, rfl, hg, hcells⟩
    · rw [h0] at hsd
      simp at hsd
    have hpos : 0 < l.length := by omega
    have h5 : l.length ≤ 5000 := by omega
    have hg0 : g < (w.alloc (.cells #[.slice none 0 0, .int .i64 0, .int .i64 0] 73)).heap.size := by simp; omega
    have hcr : ∀ W, Below w.heap.size w W → ∀ j u, (instrCells l)[j]? = some u → W.cell? ⟨g, off + j, none⟩ = some u := fun W hW j u hj => by
      rw [hW.cell (by simpa using hg)]
      exact hcells j u hj
    have HSO := V (isSound_any g off c l _ hg0 (hcr _ hb0) hpos h5)
    have HCL : Hid (∀ W, Below w.heap.size w W → Calls Tryz.prog 37 #[.slice (some ⟨g, off, none⟩) l.length c] W fun e w' => ∃ v, e = .returned v ∧ w'.ownsRow W.heap.size 65 2 v l.length (instrCells l) ∧ Below W.heap.size W w') := fun W hW => clone4_any g off c l W (by have := hW.size; omega) (hcr W hW) hpos (by omega)
    have hld : loadS l en ce = (l.all (soundS l.length) && endsS l) := by unfold loadS; rw [hs]; simp
    have HLD := V hld
    clear hb0 hR hs hs' hsd hcells hcr hg0 hld
    generalize (l.all (soundS l.length) && endsS l) = ok at *
    go_enter Tryz.func38, Tryz.ntmps38
    go_wp2_with fail
    generalize w.alloc (.cells #[.slice none 0 0, .int .i64 0, .int .i64 0] 73) = W0 at *
    refine (U HSH _).mono ?_
    rintro e w1 ⟨rfl, hw1⟩
    obtain rfl := hw1.symm
    clear hw1 HSH
    go_wp2_with fail
    refine (U HSO).mono ?_
    rintro e w2 ⟨rfl, hb2⟩
    have hbw2 : Below w.heap.size w w2 := (U HB0).trans (hb2.mono (U HB0).size)
    have hr2 := (U HR).below hb2 (U HR).lt
    have hc := hr2.cell
    have hf := hr2.free
    have hl := hr2.lt
    have HB2 := V hbw2
    have HR2 := V hr2
    clear hb2 hbw2 hr2 HSO
    cases ok
    · go_wp2_with fail
      refine bodyPost_ret (results_row_tmp1 (P := Tryz.prog) rfl _ _ w.heap.size 73 _ (0, 0) _ rfl (triple_set (U HR2) rfl) Tryz.underlying73 rfl Tryz.sizeProgram) rfl ?_
      exact ⟨Or.inl ⟨U HLD, rfl⟩, (((U HB2).setCell (Nat.le_refl _) _).setCell (Nat.le_refl _) _).setCell (Nat.le_refl _) _⟩
    · clear hc hf
      go_wp2_with fail
      refine (U HCL w2 (U HB2)).mono ?_
      rintro e w3 ⟨v, rfl, ho, hb3⟩
      obtain ⟨g3, cap3, rfl, _, _⟩ := ho.form hpos
      have hbw3 : Below w.heap.size w w3 := (U HB2).trans (hb3.mono (U HB2).size)
      have hr3 := (U HR2).below hb3 (U HR2).lt
      have hc := hr3.cell
      have hf := hr3.free
      have hl3 := hr3.lt
      have HB3 := V hbw3
      have HR3 := V hr3
      have HO := V ho
      clear hb3 hbw3 hr3 ho HCL
      go_wp2_with fail
      refine bodyPost_ret (results_row_tmp1 (P := Tryz.prog) rfl _ _ w.heap.size 73 _ (0, 0) _ rfl (triple_set (U HR3) rfl) Tryz.underlying73 rfl Tryz.sizeProgram) rfl ?_
      have hn : (Value.slice (some ⟨g3, 0, none⟩) l.length cap3).ownBlock ≠ some w.heap.size := fun e => row_not_blk (U HR3) (U HO) (by decide) e
      refine ⟨Or.inr ⟨U HLD, g3, cap3, rfl, ?_⟩, (((U HB3).setCell (Nat.le_refl _) _).setCell (Nat.le_refl _) _).setCell (Nat.le_refl _) _⟩
      exact ownsRow_base (ownsRow_far (ownsRow_far (ownsRow_far (U HO) hn _) hn _) hn _) (U HB2).size

/-- What the program's Load answers. -/
def FLoad (w : World) (l : List (Int × Int)) (en ce : Int) (e : Ending) (w' : World) : Prop :=
  (loadS l en ce = false ∧ e = .returned (.tuple #[.pointer none, .int .i64 5]) ∨ loadS l en ce = true ∧ ∃ c g cap, e = .returned (.tuple #[.pointer (some ⟨c, 0, none⟩), .int .i64 0]) ∧ Blk w' c #[.slice (some ⟨g, 0, none⟩) l.length cap, .int .i64 en, .int .i64 ce] 78 ∧ w.heap.size ≤ c ∧ w'.ownsRow w.heap.size 65 2 (.slice (some ⟨g, 0, none⟩) l.length cap) l.length (instrCells l)) ∧ Below w.heap.size w w'

set_option maxRecDepth 100000 in
set_option maxHeartbeats 8000000 in
theorem fload_any (ao : Option Addr) (c : Nat) (l : List (Int × Int)) (en ce : Int) (w : World) (hin : InL w ao l) :
    Calls Tryz.prog 20 #[.slice ao l.length c, .int .i64 en, .int .i64 ce] w (FLoad w l en ce) := by
  have HC := V (cload_any ao c l en ce w hin)
  clear hin
  go_enter Tryz.func20, Tryz.ntmps20
  go_wp2_with fail
  refine (U HC).mono ?_
  rintro e w1 ⟨hcase, hb1⟩
  have HB1 := V hb1
  rcases hcase with ⟨hno, rfl⟩ | ⟨hyes, g, cap, rfl, ho⟩
  · have HNO := V hno
    clear hno hb1 HC
    go_wp2_with fail
    go_ret2
    exact ⟨Or.inl ⟨U HNO, rfl⟩, (U HB1).alloc (U HB1).size _⟩
  · have HY := V hyes
    have HO := V ho
    clear hyes hb1 ho HC
    go_wp2_with fail
    go_ret2
    refine ⟨Or.inr ⟨U HY, _, g, cap, rfl, blk_two w1 _ _ _, by have := (U HB1).size; omega, ownsRow_alloc (ownsRow_alloc (U HO) _) _⟩, ?_⟩
    exact ((U HB1).alloc (U HB1).size _).alloc (by have := (U HB1).size; simp; omega) _
end Go.Proofs.YtmeiikjpaepogaaGreatDoor
namespace Go.Proofs.YtmeiikjpaepogaaGreatDoor
open Go Go.ChangeShapes Go.WideShapes Go.ChangeAt

theorem Tryz.own : ownKnob Tryz.prog.godebug = none := by kernel_rfl
theorem Tryz.laidOut : laidOutB Tryz.prog = true := by kernel_rfl
theorem Tryz.mapsRowed : mapsRowed Tryz.prog = true := by kernel_rfl
theorem Tryz.stops0 : (Tryz.prog.stops == []) = true := by kernel_rfl
theorem Tryz.knobs0 : (Tryz.prog.stopKnobs == []) = true := by kernel_rfl
theorem Tryz.heardC : Tryz.prog.stopsHeard = true := by kernel_rfl
theorem Tryz.mayEnterC : Tryz.prog.mayEnter = true := by kernel_rfl
theorem Tryz.wfC : Rows.compilesRow.wf (OpenSpec.ofChange (OpenSpec.ofChange Rows.compilesSpec).bare) = true := by kernel_rfl
theorem Tryz.inPlaceC : (Rows.compilesRow.inPlace == Tryz.prog.inPlace 3) = true := by kernel_rfl
theorem Tryz.unfollowedC : (Rows.compilesRow.unfollowed == Tryz.prog.unfollowed 3) = true := by kernel_rfl
theorem Tryz.recursesC : (Rows.compilesRow.recurses == Tryz.prog.recurses 3) = true := by kernel_rfl
theorem Tryz.namedC : (Rows.compilesRow.named == Tryz.prog.varsNamed 3) = true := by kernel_rfl
theorem Tryz.plainKeysC : (Rows.compilesRow.plainKeys == Tryz.prog.plainKeys) = true := by kernel_rfl
theorem Tryz.liftedC : (Rows.compilesRow.lifted == Tryz.prog.liftsFinal) = true := by kernel_rfl
theorem Tryz.makeC : (Tryz.prog.make == some Rows.compilesRow.make) = true := by kernel_rfl
theorem Tryz.closedC : joinedFacts Tryz.prog 3 Tryz.f3 (OpenSpec.ofChange Rows.compilesSpec).bare Rows.compilesRow = true := by
  unfold joinedFacts
  simp only [Bool.and_eq_true]
  refine ⟨⟨⟨⟨⟨⟨⟨⟨⟨⟨⟨⟨⟨⟨⟨⟨⟨⟨⟨⟨⟨⟨⟨⟨⟨⟨⟨⟨⟨⟨⟨?_, ?_⟩, ?_⟩, ?_⟩, ?_⟩, ?_⟩, ?_⟩, ?_⟩, ?_⟩, ?_⟩, ?_⟩, ?_⟩, ?_⟩, ?_⟩, ?_⟩, ?_⟩, ?_⟩, ?_⟩, ?_⟩, ?_⟩, ?_⟩, ?_⟩, ?_⟩, ?_⟩, ?_⟩, ?_⟩, ?_⟩, ?_⟩, ?_⟩, ?_⟩, ?_⟩, ?_⟩
  all_goals first
    | with_reducible exact Tryz.laidOut
    | with_reducible exact Tryz.mapsRowed
    | with_reducible exact Tryz.stops0
    | with_reducible exact Tryz.knobs0
    | with_reducible exact Tryz.heardC
    | with_reducible exact Tryz.mayEnterC
    | with_reducible exact Tryz.wfC
    | with_reducible exact Tryz.inPlaceC
    | with_reducible exact Tryz.unfollowedC
    | with_reducible exact Tryz.recursesC
    | with_reducible exact Tryz.namedC
    | with_reducible exact Tryz.plainKeysC
    | with_reducible exact Tryz.liftedC
    | with_reducible exact Tryz.makeC
    | as_aux_lemma => kernel_rfl
theorem Tryz.wfL : Rows.loadsRow.wf (OpenSpec.ofChange (OpenSpec.ofChange Rows.loadsSpec).bare) = true := by kernel_rfl
theorem Tryz.inPlaceL : (Rows.loadsRow.inPlace == Tryz.prog.inPlace 5) = true := by kernel_rfl
theorem Tryz.unfollowedL : (Rows.loadsRow.unfollowed == Tryz.prog.unfollowed 5) = true := by kernel_rfl
theorem Tryz.recursesL : (Rows.loadsRow.recurses == Tryz.prog.recurses 5) = true := by kernel_rfl
theorem Tryz.namedL : (Rows.loadsRow.named == Tryz.prog.varsNamed 5) = true := by kernel_rfl
theorem Tryz.plainKeysL : (Rows.loadsRow.plainKeys == Tryz.prog.plainKeys) = true := by kernel_rfl
theorem Tryz.liftedL : (Rows.loadsRow.lifted == Tryz.prog.liftsFinal) = true := by kernel_rfl
theorem Tryz.makeL : (Tryz.prog.make == some Rows.loadsRow.make) = true := by kernel_rfl
theorem Tryz.closedL : joinedFacts Tryz.prog 5 Tryz.f5 (OpenSpec.ofChange Rows.loadsSpec).bare Rows.loadsRow = true := by
  unfold joinedFacts
  simp only [Bool.and_eq_true]
  refine ⟨⟨⟨⟨⟨⟨⟨⟨⟨⟨⟨⟨⟨⟨⟨⟨⟨⟨⟨⟨⟨⟨⟨⟨⟨⟨⟨⟨⟨⟨⟨?_, ?_⟩, ?_⟩, ?_⟩, ?_⟩, ?_⟩, ?_⟩, ?_⟩, ?_⟩, ?_⟩, ?_⟩, ?_⟩, ?_⟩, ?_⟩, ?_⟩, ?_⟩, ?_⟩, ?_⟩, ?_⟩, ?_⟩, ?_⟩, ?_⟩, ?_⟩, ?_⟩, ?_⟩, ?_⟩, ?_⟩, ?_⟩, ?_⟩, ?_⟩, ?_⟩, ?_⟩
  all_goals first
    | with_reducible exact Tryz.laidOut
    | with_reducible exact Tryz.mapsRowed
    | with_reducible exact Tryz.stops0
    | with_reducible exact Tryz.knobs0
    | with_reducible exact Tryz.heardC
    | with_reducible exact Tryz.mayEnterC
    | with_reducible exact Tryz.wfL
    | with_reducible exact Tryz.inPlaceL
    | with_reducible exact Tryz.unfollowedL
    | with_reducible exact Tryz.recursesL
    | with_reducible exact Tryz.namedL
    | with_reducible exact Tryz.plainKeysL
    | with_reducible exact Tryz.liftedL
    | with_reducible exact Tryz.makeL
    | as_aux_lemma => kernel_rfl
end Go.Proofs.YtmeiikjpaepogaaGreatDoor
