/- The program's Run of code. -/
import Derived.Test.YtmeiikjpaepogaaGreatDoorZ27
import Derived.Test.YtmeiikjpaepogaaGreatDoorZ08
import Derived.Test.YtmeiikjpaepogaaGreatDoorZ17
import Derived.Lib.LaidTab
import Derived.Test.YtmeiikjpaepogaaGreatDoorCards
import Derived.Test.YtmeiikjpaepogaaGreatDoorTie
import Derived.Deep.DeepWitnessRowRef
import Derived.WideKeyArgs
namespace Go.Proofs.YtmeiikjpaepogaaGreatDoor
open Go Go.RowKit

/-- What a run's outcome holds. -/
structure CodeRes (w : World) (l : List (Int × Int)) (p : Nat) (en ce ls la lc lo fuel : Int) (er : Int) (vS vC : Value) (out : ByteArray) (st : Int) (w' : World) : Prop where
  no : ¬ limsOk ls la lc lo → er = 6 ∧ vS = .slice none 0 0 ∧ vC = .slice none 0 0 ∧ out = ⟨#[]⟩ ∧ st = 0
  yes : limsOk ls la lc lo → er = (runM l fuel.toNat 0 (startM p ls la lc lo en ce)).2.1 ∧ out = (runM l fuel.toNat 0 (startM p ls la lc lo en ce)).1.out ∧ st = (runM l fuel.toNat 0 (startM p ls la lc lo en ce)).2.2
  ok : limsOk ls la lc lo → er = 0 → w'.ownsRow w.heap.size 2 1 vS (runM l fuel.toNat 0 (startM p ls la lc lo en ce)).1.stack.length (intCells (runM l fuel.toNat 0 (startM p ls la lc lo en ce)).1.stack) ∧ w'.ownsRow w.heap.size 2 1 vC (runM l fuel.toNat 0 (startM p ls la lc lo en ce)).1.cells.length (intCells (runM l fuel.toNat 0 (startM p ls la lc lo en ce)).1.cells) ∧ (runM l fuel.toNat 0 (startM p ls la lc lo en ce)).1.stack.length ≤ 1000 ∧ (runM l fuel.toNat 0 (startM p ls la lc lo en ce)).1.cells.length ≤ 1000 ∧ ∀ j, vS.ownBlock = some j → vC.ownBlock ≠ some j
  bad : er ≠ 0 → vS = .slice none 0 0 ∧ vC = .slice none 0 0
  below : Below w.heap.size w w'
theorem CodeOut.res {w : World} {l : List (Int × Int)} {p : Nat} {en ce ls la lc lo fuel : Int} {e : Ending} {w' : World} (h : CodeOut w l p en ce ls la lc lo fuel e w') :
    ∃ er a1 n1 k1 a2 n2 k2 out st, e = .returned (.agg #[.int .i64 er, .slice a1 n1 k1, .slice a2 n2 k2, .string out, .int .i64 st]) ∧ CodeRes w l p en ce ls la lc lo fuel er (.slice a1 n1 k1) (.slice a2 n2 k2) out st w' := by
  obtain ⟨hno, hyes⟩ := h
  by_cases hl : limsOk ls la lc lo
  · obtain ⟨vS, vC, rfl, h0, h1, hb⟩ := hyes hl
    by_cases he : (runM l fuel.toNat 0 (startM p ls la lc lo en ce)).2.1 = 0
    · obtain ⟨o1, o2, o3, o4, o5⟩ := h0 he
      obtain ⟨a1, k1, rfl⟩ := own_shape o1
      obtain ⟨a2, k2, rfl⟩ := own_shape o2
      exact ⟨_, _, _, _, _, _, _, _, _, rfl, ⟨fun hn => absurd hl hn, fun _ => ⟨rfl, rfl, rfl⟩, fun _ _ => ⟨o1, o2, o3, o4, o5⟩, fun hn => absurd he hn, hb⟩⟩
    · obtain ⟨rfl, rfl⟩ := h1 he
      exact ⟨_, _, _, _, _, _, _, _, _, rfl, ⟨fun hn => absurd hl hn, fun _ => ⟨rfl, rfl, rfl⟩, fun _ hz => absurd hz he, fun _ => ⟨rfl, rfl⟩, hb⟩⟩
  · obtain ⟨rfl, hb⟩ := hno hl
    exact ⟨_, _, _, _, _, _, _, _, _, rfl, ⟨fun _ => ⟨rfl, rfl, rfl, rfl, rfl⟩, fun hy => absurd hy hl, fun hy => absurd hy hl, fun _ => ⟨rfl, rfl⟩, hb⟩⟩

/-- The world in which code is run: the limits and the outcome have boxes. -/
structure CallOk (w : World) (c : Nat) (vl : Value) (en ce ls la lc lo : Int) (W : World) : Prop where
  c : Blk W c #[vl, .int .i64 en, .int .i64 ce] 78
  l : Blk W w.heap.size #[.int .i64 ls, .int .i64 la, .int .i64 lc, .int .i64 lo] 39
  r : Blk W (w.heap.size + 1) #[.int .i64 0, .slice none 0 0, .slice none 0 0, .string ⟨#[]⟩, .int .i64 0] 44
  below : Below w.heap.size w W
  size : w.heap.size + 2 ≤ W.heap.size
theorem CallOk.on {w : World} {c : Nat} {vl : Value} {en ce ls la lc lo : Int} {W W' : World} (h : CallOk w c vl en ce ls la lc lo W) (hb : Below W.heap.size W W') : CallOk w c vl en ce ls la lc lo W' :=
  ⟨h.c.below hb h.c.lt, h.l.below hb h.l.lt, h.r.below hb h.r.lt, h.below.trans (hb.mono h.below.size), Nat.le_trans h.size hb.size⟩
def CallS (w : World) (c : Nat) (vl : Value) (en ce ls la lc lo : Int) (W : World) : Prop :=
  W.cell? ⟨c, 0, none⟩ = some vl ∧ W.cell? ⟨c, 1, none⟩ = some (.int .i64 en) ∧ W.cell? ⟨c, 2, none⟩ = some (.int .i64 ce) ∧ W.cell? ⟨w.heap.size, 0, none⟩ = some (.int .i64 ls) ∧ W.cell? ⟨w.heap.size, 1, none⟩ = some (.int .i64 la) ∧ W.cell? ⟨w.heap.size, 2, none⟩ = some (.int .i64 lc) ∧ W.cell? ⟨w.heap.size, 3, none⟩ = some (.int .i64 lo)
theorem CallOk.s {w : World} {c : Nat} {vl : Value} {en ce ls la lc lo : Int} {W : World} (h : CallOk w c vl en ce ls la lc lo W) : CallS w c vl en ce ls la lc lo W :=
  ⟨h.c.cell 0, h.c.cell 1, h.c.cell 2, h.l.cell 0, h.l.cell 1, h.l.cell 2, h.l.cell 3⟩
theorem CallOk.s5 {w : World} {c : Nat} {vl : Value} {en ce ls la lc lo : Int} {W : World} (h : CallOk w c vl en ce ls la lc lo W) (hc : c < w.heap.size) (y0 y1 y2 y3 y4 : Value) : CallS w c vl en ce ls la lc lo (((((W.setCell ⟨w.heap.size + 1, 0, none⟩ y0).setCell ⟨w.heap.size + 1, 1, none⟩ y1).setCell ⟨w.heap.size + 1, 2, none⟩ y2).setCell ⟨w.heap.size + 1, 3, none⟩ y3).setCell ⟨w.heap.size + 1, 4, none⟩ y4) := by
  have n1 : c ≠ w.heap.size + 1 := by omega
  have n2 : w.heap.size ≠ w.heap.size + 1 := by omega
  have h1 := ((((h.c.far (a := ⟨w.heap.size + 1, 0, none⟩) n1 y0).far (a := ⟨w.heap.size + 1, 1, none⟩) n1 y1).far (a := ⟨w.heap.size + 1, 2, none⟩) n1 y2).far (a := ⟨w.heap.size + 1, 3, none⟩) n1 y3).far (a := ⟨w.heap.size + 1, 4, none⟩) n1 y4
  have h2 := ((((h.l.far (a := ⟨w.heap.size + 1, 0, none⟩) n2 y0).far (a := ⟨w.heap.size + 1, 1, none⟩) n2 y1).far (a := ⟨w.heap.size + 1, 2, none⟩) n2 y2).far (a := ⟨w.heap.size + 1, 3, none⟩) n2 y3).far (a := ⟨w.heap.size + 1, 4, none⟩) n2 y4
  exact ⟨h1.cell 0, h1.cell 1, h1.cell 2, h2.cell 0, h2.cell 1, h2.cell 2, h2.cell 3⟩
theorem ListAt.ofRow {w : World} {g cap : Nat} {l : List (Int × Int)} (h : w.ownsRow 0 65 2 (.slice (some ⟨g, 0, none⟩) l.length cap) l.length (instrCells l)) : ListAt w.heap.size w g l := by
  refine ⟨(ownsRow_lt h (k := g) rfl).1, fun k x hx => ?_⟩
  have hk : k < l.length := (List.getElem?_eq_some_iff.1 hx).1
  obtain ⟨e1, e2⟩ := instrCells_at l k x hx
  have c1 := own_cell h (k * 2) (by omega)
  have c2 := own_cell h (k * 2 + 1) (by omega)
  rw [e1] at c1
  rw [e2] at c2
  exact ⟨c1, c2⟩

set_option maxRecDepth 100000 in
set_option maxHeartbeats 16000000 in
theorem run3_any (w : World) (c p : Nat) (l : List (Int × Int)) (en ce ls la lc lo fuel : Int) (h : CodeR3 w c l en ce) (ht : Lib.TabIs Tryz.prog w "internal/strconv.uint64pow10" .u64 Lib.pow10Tab) (hok : CodeOk l) (hen : 0 ≤ en ∧ en < l.length) (hce : 0 ≤ ce ∧ ce ≤ 1000) (hfu : fuel ≤ 1000000000) :
    Calls Tryz.prog 23 #[.pointer (some ⟨c, 0, none⟩), .agg #[.int .i64 ls, .int .i64 la, .int .i64 lc, .int .i64 lo], .int .i64 fuel] w fun e w' => ∃ er vS vC out st, e = .returned (outV er vS vC out st) ∧ CodeRes w l p en ce ls la lc lo fuel er vS vC out st w' := by
  obtain ⟨g, cap, hb, ho⟩ := h
  have hpos : 0 < l.length := by omega
  have hcw := hb.lt
  have hbw := below_box2 w (.cells #[.int .i64 ls, .int .i64 la, .int .i64 lc, .int .i64 lo] 39) (.cells #[.int .i64 0, .slice none 0 0, .slice none 0 0, .string ⟨#[]⟩, .int .i64 0] 44)
  have hcall : CallOk w c (.slice (some ⟨g, 0, none⟩) l.length cap) en ce ls la lc lo ((w.alloc (.cells #[.int .i64 ls, .int .i64 la, .int .i64 lc, .int .i64 lo] 39)).alloc (.cells #[.int .i64 0, .slice none 0 0, .slice none 0 0, .string ⟨#[]⟩, .int .i64 0] 44)) := by
    refine ⟨hb.below hbw hb.lt, ?_, ?_, hbw, by simp⟩
    · (repeat (first | with_reducible refine Blk.drew ?_ | with_reducible refine Blk.drewN ?_ _ | (with_reducible refine blk_newAt _ _ ?_; (first | omega | ((repeat (first | rw [World.size_up] | rw [World.size_dr] | rw [World.size_drN])) <;> omega))) | with_reducible refine Blk.alloc ?_ _)); (first | done | with_reducible assumption)
    · (repeat (first | with_reducible refine Blk.drew ?_ | with_reducible refine Blk.drewN ?_ _ | (with_reducible refine blk_newAt _ _ ?_; (first | omega | ((repeat (first | rw [World.size_up] | rw [World.size_dr] | rw [World.size_drN])) <;> omega))) | with_reducible refine Blk.alloc ?_ _)); (first | done | with_reducible assumption)
  have hla := (ListAt.ofRow ho).to hbw
  have HLA := V (And.intro hla.low hla.cell)
  have hti : ∀ W', Below w.heap.size w W' → Lib.TabIs Tryz.prog W' "internal/strconv.uint64pow10" .u64 Lib.pow10Tab := Lib.tabBelow_of_tabIs ht
  have HTI := V hti
  have HOK := V hok
  have HNO := V (isNone_no c g l.length cap _ _ _ hcall.c hpos)
  have HCA := V hcall
  have hlist : ListAt w.heap.size w g l := ListAt.ofRow ho
  have HLI := V hlist
  clear hb ho hla hti hok hcall hbw hlist ht
  generalize hvl : (Value.slice (some ⟨g, 0, none⟩) l.length cap) = vl at *
  have HVL := V hvl
  clear hvl
  go_enter Tryz.func23, Tryz.ntmps23
  go_wp2_with fail
  refine (U HNO).mono ?_
  rintro e W ⟨rfl, hw⟩
  rw [← hw] at HCA
  clear hw HNO
  have HCD := V ((U HCA).on (below_drew (Below.refl _ _)))
  have HS0 := V (U HCD).s
  have HNT := V (newTable_any W.drew)
  have HRUN : Hid (∀ tb wt, TabAt wt tb → CallOk w c vl en ce ls la lc lo wt → Calls Tryz.prog 40 #[.pointer (some ⟨tb, 0, none⟩), .agg #[vl, .int .i64 en, .int .i64 ce], .agg #[.int .i64 ls, .int .i64 la, .int .i64 lc, .int .i64 lo], .int .i64 fuel] wt (CodeOut wt l p en ce ls la lc lo fuel)) := by
    intro tb wt h1 h2
    rw [← U HVL]
    have hlb := (U HLI).to h2.below
    exact tableRun_all tb g cap p l en ce ls la lc lo fuel wt h1 (U HTI wt h2.below) ⟨Nat.lt_of_lt_of_le hlb.low h2.below.size, hlb.cell⟩ (U HOK) hen hce hfu
  have hcl := (U HCA).c.lt
  have hcl0 : c < W.heap.size := hcl
  unfold CallS at HS0
  go_wp2_with fail
  go_cut [] from 7 to 17 (fun wc => ∃ er a1 n1 k1 a2 n2 k2 out st wt wu, CallOk w c vl en ce ls la lc lo wt ∧ CodeRes wt l p en ce ls la lc lo fuel er (.slice a1 n1 k1) (.slice a2 n2 k2) out st wu ∧ wc = ((((wu.setCell ⟨w.heap.size + 1, 0, none⟩ (.int .i64 er)).setCell ⟨w.heap.size + 1, 1, none⟩ (.slice a1 n1 k1)).setCell ⟨w.heap.size + 1, 2, none⟩ (.slice a2 n2 k2)).setCell ⟨w.heap.size + 1, 3, none⟩ (.string out)).setCell ⟨w.heap.size + 1, 4, none⟩ (.int .i64 st))
  case first =>
    go_region_held_law (fun w' => w'.cell? ⟨c, 0, none⟩ = some vl ∧ w'.cell? ⟨c, 1, none⟩ = some (.int .i64 en) ∧ w'.cell? ⟨c, 2, none⟩ = some (.int .i64 ce) ∧ w'.cell? ⟨w.heap.size, 0, none⟩ = some (.int .i64 ls) ∧ w'.cell? ⟨w.heap.size, 1, none⟩ = some (.int .i64 la) ∧ w'.cell? ⟨w.heap.size, 2, none⟩ = some (.int .i64 lc) ∧ w'.cell? ⟨w.heap.size, 3, none⟩ = some (.int .i64 lo)) (first | with_reducible exact U HS5 | with_reducible exact U HS6 _ _ _ _ _ | with_reducible exact U HS4 | with_reducible exact U HS0) (first
      | (refine step_call rfl 39 #[] #[] rfl Tryz.func39 Tryz.name39 Tryz.body39 #[] (by first | rfl | (simp; done)) (by exact U HNT) ?_; rintro e wt ⟨tb, rfl, hta, hbt⟩; have hct := (U HCD).on hbt; have HS4 := V hct.s; unfold CallS at HS4; have HR4 := V (U HRUN tb wt hta hct); have HC4 := V hct; clear hta hbt hct; refine ⟨_, rfl, ?_⟩)
      | (refine step_call rfl 40 #[.tmp 10, .tmp 14, .tmp 15, .tmp 16] #[82, 73, 39, 3] rfl Tryz.func40 Tryz.name40 Tryz.body40 #[.pointer (some ⟨tb, 0, none⟩), .agg #[vl, .int .i64 en, .int .i64 ce], .agg #[.int .i64 ls, .int .i64 la, .int .i64 lc, .int .i64 lo], .int .i64 fuel] (by first | rfl | (simp [Act.eval]; done) | (simp [Act.eval, Act.put]; done)) (by exact U HR4) ?_; rintro e wu hout; obtain ⟨er, a1, n1, k1, a2, n2, k2, out, st, rfl, hres⟩ := hout.res; have hcu := (U HC4).on hres.below; have HS5 := V hcu.s; unfold CallS at HS5; have HS6 := V (hcu.s5 hcw); unfold CallS at HS6; have hcr := hcu.r.cell; have hfr := hcu.r.free; have hrl := hcu.r.lt; have HRES := V hres; clear hres hout hcu; refine ⟨_, rfl, ?_⟩))
    all_goals
      go_wp2_with fail
      go_meet
      exact ⟨er, a1, n1, k1, a2, n2, k2, out, st, wt, wu, U HC4, U HRES, rfl⟩
  case rest =>
    obtain ⟨er, a1, n1, k1, a2, n2, k2, out, st, wt, wu, hct, hres, rfl⟩ := hcut
    have hcu := hct.on hres.below
    have HCU := V hcu
    have HCT := V hct
    have HRES := V hres
    clear hcu hct hres HS0 HNT HRUN
    go_wp2_with fail
    refine bodyPost_ret (results_cell_row (P := Tryz.prog) rfl _ _ (w.heap.size + 1) 44 _ (0, 0) _ rfl (out_set (U HCU).r rfl) Tryz.underlying44 rfl Tryz.sizeOutcome) rfl ?_
    have hres := U HRES
    have hct := U HCT
    have hsz := hct.size
    have hn : ∀ {v : Value} {n : Nat} {xs : List Value}, wu.ownsRow wt.heap.size 2 1 v n xs → v.ownBlock ≠ some (w.heap.size + 1) := fun ho e => by have := (ownsRow_lt ho e).2; omega
    refine ⟨er, _, _, out, st, rfl, ⟨hres.no, hres.yes, fun h1 h2 => ?_, hres.bad, ?_⟩⟩
    · obtain ⟨o1, o2, o3⟩ := hres.ok h1 h2
      exact ⟨ownsRow_base (ownsRow_far (ownsRow_far (ownsRow_far (ownsRow_far (ownsRow_far o1 (hn o1) _) (hn o1) _) (hn o1) _) (hn o1) _) (hn o1) _) (by omega), ownsRow_base (ownsRow_far (ownsRow_far (ownsRow_far (ownsRow_far (ownsRow_far o2 (hn o2) _) (hn o2) _) (hn o2) _) (hn o2) _) (hn o2) _) (by omega), o3⟩
    · have hb : Below w.heap.size w wu := hct.below.trans (hres.below.mono (by omega))
      exact ((((hb.setCell (by simp) _).setCell (by simp) _).setCell (by simp) _).setCell (by simp) _).setCell (by simp) _
set_option maxRecDepth 100000 in
set_option maxHeartbeats 4000000 in
theorem fcompile3_no (s : ByteArray) (b0 b1 b2 : Bool) (w : World) (er pl : Int) (hE : er ≠ 0)
    (hcall : ∀ W, Below w.heap.size w W → Calls Tryz.prog 34 #[.string s] W fun e w' => e = .returned (.tuple #[.agg #[.slice none 0 0, .int .i64 0, .int .i64 0], .int .i64 er, .int .i64 pl]) ∧ Below W.heap.size W w') :
    Calls Tryz.prog 18 #[.string s, .agg #[.bool b0, .bool b1, .bool b2]] w fun e w' => e = .returned (.tuple #[.pointer none, .int .i64 er, .int .i64 pl]) ∧ Below w.heap.size w w' := by
  have hb0 : Below w.heap.size w (w.alloc (.cells #[.bool b0, .bool b1, .bool b2] 32)) := by (repeat (first | with_reducible refine below_drew ?_ | with_reducible refine below_drawn ?_ _ | with_reducible refine below_longer ?_ _ | (with_reducible refine Below.alloc ?_ ?_ _; rotate_left; (first | omega | ((repeat (first | rw [World.size_up] | rw [World.size_dr] | rw [World.size_drN])) <;> omega))))); (with_reducible exact Below.refl _ _)
  have HC := V (hcall _ hb0)
  have HB0 := V hb0
  have he' : (er == 0) = false := by simpa using hE
  clear hcall hb0
  go_enter Tryz.func18, Tryz.ntmps18
  go_wp2_with fail
  refine (U HC).mono ?_
  rintro e w1 ⟨rfl, hb1⟩
  have hb2 := (U HB0).trans (below_less hb1 (U HB0).size)
  have HB2 := V hb2
  clear hb1 hb2 HC
  go_wp2_with fail
  go_ret3
  exact ⟨rfl, (U HB2).alloc (U HB2).size _⟩

theorem comp3_no (s : ByteArray) (w : World) (hV : VocOk w) (hE : ErrsOk w) (er pl : Int) (h : 2000 < s.size ∧ er = 1 ∧ pl = 0 ∨ s.size ≤ 2000 ∧ (endS s).err = er ∧ (endS s).place = pl ∧ er ≠ 0) :
    Calls Tryz.prog 34 #[.string s] w fun e w' => e = .returned (.tuple #[.agg #[.slice none 0 0, .int .i64 0, .int .i64 0], .int .i64 er, .int .i64 pl]) ∧ Below w.heap.size w w' := by
  rcases h with ⟨h1, rfl, rfl⟩ | ⟨h1, rfl, rfl, h2⟩
  · exact comp_long s w h1
  · refine (comp_any s w h1 hV hE).mono ?_
    rintro e w' ⟨hcase, hb⟩
    rcases hcase with ⟨_, rfl⟩ | ⟨h3, _⟩
    · exact ⟨rfl, hb⟩
    · exact absurd h3 h2

/-- What lies at package level. -/
def Env3 (w : World) : Prop := VocOk w ∧ ErrsOk w ∧ Lib.TabIs Tryz.prog w "internal/strconv.uint64pow10" .u64 Lib.pow10Tab
theorem Env3.below {w w' : World} (h : Env3 w) (hb : Below w.heap.size w w') : Env3 w' := ⟨h.1.below hb, h.2.1.below hb, Lib.tabBelow_of_tabIs h.2.2 w' hb⟩
end Go.Proofs.YtmeiikjpaepogaaGreatDoor
namespace Go.Proofs.YtmeiikjpaepogaaGreatDoor
open Go Go.RowKit Go.ChangeShapes Go.WideShapes Go.ChangeAt Go.Deep

theorem pow_datum : Rows.laid_internal_strconv_uint64pow10 (H := Unit) = Lib.tabData .u64 Lib.pow10Tab := by kernel_rfl
theorem Tryz.gPow : (Rows.compilesRow.laid[2]?).bind (fun x => Tryz.prog.globalNamed x.1) = some 3 := by kernel_rfl
theorem Tryz.tPow : (Tryz.prog.globals[3]?).map (·.type) = some 293 := by kernel_rfl
theorem Tryz.cells85 : Tryz.prog.cellsOf 85 = 1 := by kernel_rfl
theorem Tryz.cells293 : Tryz.prog.cellsOf 293 = 20 := by kernel_rfl
theorem tab_of_laid {W : World} (h : laidMetH Tryz.prog Rows.compilesRow.laid W) : Lib.TabIs Tryz.prog W "internal/strconv.uint64pow10" .u64 Lib.pow10Tab := by
  rw [MakeChecks.laidMetH_plain _ _ _ (by kernel_rfl)] at h
  obtain ⟨ps, ⟨_, _, _, _, _, _, _, _, _, _, ⟨_, _, _, _, _, _, _, _, _, _, ⟨g2, t2, c2, f2, p2, q2, hg2, ht2, hv2, hd2, _, _⟩, _⟩, _⟩, _⟩ := h
  obtain rfl := Option.some.inj (hg2.symm.trans Tryz.gPow)
  obtain rfl := Option.some.inj (ht2.symm.trans Tryz.tPow)
  have hd2' := hd2
  rw [pow_datum] at hd2'
  have e := Lib.cells_of_tab Tryz.underlying293 Tryz.underlying85 Tryz.cells85 Tryz.cells293 hd2'
  unfold Lib.TabIs
  rw [← e]
  exact hv2
theorem env3_of_laid {W : World} (h : laidMetH Tryz.prog Rows.compilesRow.laid W) : Env3 W := ⟨(env_of_laid h).1, (env_of_laid h).2, tab_of_laid h⟩
end Go.Proofs.YtmeiikjpaepogaaGreatDoor
namespace Go.Proofs.YtmeiikjpaepogaaGreatDoor
open Go Go.RowKit

set_option maxRecDepth 100000 in
theorem namesIns_any (op : Int) (w : World) : Calls Tryz.prog 89 #[.int .i64 op] w fun e w' => e = .returned (.bool (namesS op)) ∧ w' = w := by
  have fin : ∀ (b : Bool), namesS op = b → (Calls Tryz.prog 89 #[.int .i64 op] w fun e w' => e = .returned (.bool b) ∧ w' = w) → Calls Tryz.prog 89 #[.int .i64 op] w fun e w' => e = .returned (.bool (namesS op)) ∧ w' = w := fun b h k => by rw [h]; exact k
  by_cases c : op = 1 ∨ op = 2 ∨ op = 3 ∨ op = 7
  · refine fin true (by unfold namesS; simp; omega) ?_
    rcases c with rfl | rfl | rfl | rfl
    all_goals
      go_enter Tryz.func89, Tryz.ntmps89
      go_wp2_with fail
      go_ret
      exact ⟨rfl, rfl⟩
  · refine fin false (by unfold namesS; simp; omega) ?_
    have m1 : (op == 1) = false := by simpa using (fun e => c (Or.inl e) : ¬ op = 1)
    have m2 : (op == 2) = false := by simpa using (fun e => c (Or.inr (Or.inl e)) : ¬ op = 2)
    have m3 : (op == 3) = false := by simpa using (fun e => c (Or.inr (Or.inr (Or.inl e))) : ¬ op = 3)
    have m7 : (op == 7) = false := by simpa using (fun e => c (Or.inr (Or.inr (Or.inr e))) : ¬ op = 7)
    clear fin
    go_enter Tryz.func89, Tryz.ntmps89
    go_wp2_with fail
    go_ret
    exact ⟨rfl, rfl⟩

set_option maxRecDepth 100000 in
theorem goesOn_any (op : Int) (w : World) : Calls Tryz.prog 90 #[.int .i64 op] w fun e w' => e = .returned (.bool (!decide (op = 1 ∨ op = 4 ∨ op = 5))) ∧ w' = w := by
  by_cases c : op = 1 ∨ op = 4 ∨ op = 5
  · rw [decide_eq_true c]
    rcases c with rfl | rfl | rfl
    all_goals
      go_enter Tryz.func90, Tryz.ntmps90
      go_wp2_with fail
      go_ret
      exact ⟨rfl, rfl⟩
  · rw [decide_eq_false c]
    have m1 : (op == 1) = false := by simpa using (fun e => c (Or.inl e) : ¬ op = 1)
    have m4 : (op == 4) = false := by simpa using (fun e => c (Or.inr (Or.inl e)) : ¬ op = 4)
    have m5 : (op == 5) = false := by simpa using (fun e => c (Or.inr (Or.inr e)) : ¬ op = 5)
    have r1 : (op != 1) = true := by rw [bne, m1]; rfl
    have r4 : (op != 4) = true := by rw [bne, m4]; rfl
    have r5 : (op != 5) = true := by rw [bne, m5]; rfl
    clear c
    go_enter Tryz.func90, Tryz.ntmps90
    go_wp2_with fail
    go_ret
    exact ⟨rfl, rfl⟩
end Go.Proofs.YtmeiikjpaepogaaGreatDoor
namespace Go.Proofs.YtmeiikjpaepogaaGreatDoor
open Go Go.ChangeShapes Go.WideShapes Go.ChangeAt

theorem Tryz.own : ownKnob Tryz.prog.godebug = none := by kernel_rfl
theorem Tryz.laidOut : laidOutB Tryz.prog = true := by kernel_rfl
theorem Tryz.mapsRowed : mapsRowed Tryz.prog = true := by kernel_rfl
theorem Tryz.stops0 : (Tryz.prog.stops == []) = true := by kernel_rfl
theorem Tryz.knobs0 : (Tryz.prog.stopKnobs == []) = true := by kernel_rfl
theorem Tryz.heardC : Tryz.prog.stopsHeard = true := by kernel_rfl
theorem Tryz.mayEnterC : Tryz.prog.mayEnter = true := by kernel_rfl
end Go.Proofs.YtmeiikjpaepogaaGreatDoor
