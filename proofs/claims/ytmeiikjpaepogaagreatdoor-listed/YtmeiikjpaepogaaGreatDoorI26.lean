/- The program's Run of code. -/
import Derived.Test.YtmeiikjpaepogaaGreatDoorI25
import Derived.Test.YtmeiikjpaepogaaGreatDoorI07
import Derived.Test.YtmeiikjpaepogaaGreatDoorI15
import Derived.Lib.LaidTab
namespace Go.Proofs.YtmeiikjpaepogaaGreatDoor
open Go Go.RowKit

/-- What a run's outcome holds. -/
structure CodeRes (w : World) (l : List (Int × Int)) (p : Nat) (en ce ls la lc lo fuel : Int) (er : Int) (vS vC : Value) (out : ByteArray) (st : Int) (w' : World) : Prop where
  no : ¬ limsOk ls la lc lo → er = 6 ∧ vS = .slice none 0 0 ∧ vC = .slice none 0 0 ∧ out = ⟨#[]⟩ ∧ st = 0
  yes : limsOk ls la lc lo → er = (runM l fuel.toNat 0 (startM p ls la lc lo en ce)).2.1 ∧ out = (runM l fuel.toNat 0 (startM p ls la lc lo en ce)).1.out ∧ st = (runM l fuel.toNat 0 (startM p ls la lc lo en ce)).2.2
  ok : limsOk ls la lc lo → er = 0 → w'.ownsRow w.heap.size 2 1 vS (runM l fuel.toNat 0 (startM p ls la lc lo en ce)).1.stack.length (intCells (runM l fuel.toNat 0 (startM p ls la lc lo en ce)).1.stack) ∧ w'.ownsRow w.heap.size 2 1 vC (runM l fuel.toNat 0 (startM p ls la lc lo en ce)).1.cells.length (intCells (runM l fuel.toNat 0 (startM p ls la lc lo en ce)).1.cells) ∧ (runM l fuel.toNat 0 (startM p ls la lc lo en ce)).1.stack.length ≤ 1000 ∧ (runM l fuel.toNat 0 (startM p ls la lc lo en ce)).1.cells.length ≤ 1000 ∧ ∀ j, vS.ownBlock = some j → vC.ownBlock ≠ some j
  bad : er ≠ 0 → vS = .slice none 0 0 ∧ vC = .slice none 0 0
  below : Below w.heap.size w w'
theorem CodeOut.res {w : World} {l : List (Int × Int)} {p : Nat} {en ce ls la lc lo fuel : Int} {e : Ending} {w' : World} (h : CodeOut w l p en ce ls la lc lo fuel e w') :
    ∃ er a1 n1 k1 a2 n2 k2 out st, e = .returned (.agg #[.int .i64 er, .slice a1 n1 k1, .slice a2 n2 k2, .string out, .int .i64 st]) ∧ CodeRes w l p en ce ls la lc lo fuel er (.slice a1 n1 k1) (.slice a2 n2 k2) out st w' := by
  obtain ⟨hno, hyes⟩ := h
  by_cases hl : limsOk ls la lc lo
  · obtain ⟨vS, vC, rfl, h0, h1, hb⟩ := hyes hl
    by_cases he : (runM l fuel.toNat 0 (startM p ls la lc lo en ce)).2.1 = 0
    · obtain ⟨o1, o2, o3, o4, o5⟩ := h0 he
      obtain ⟨a1, k1, rfl⟩ := own_shape o1
      obtain ⟨a2, k2, rfl⟩ := own_shape o2
      exact ⟨_, _, _, _, _, _, _, _, _, rfl, ⟨fun hn => absurd hl hn, fun _ => ⟨rfl, rfl, rfl⟩, fun _ _ => ⟨o1, o2, o3, o4, o5⟩, fun hn => absurd he hn, hb⟩⟩
    · obtain ⟨rfl, rfl⟩ := h1 he
      exact ⟨_, _, _, _, _, _, _, _, _, rfl, ⟨fun hn => absurd hl hn, fun _ => ⟨rfl, rfl, rfl⟩, fun _ hz => absurd hz he, fun _ => ⟨rfl, rfl⟩, hb⟩⟩
  · obtain ⟨rfl, hb⟩ := hno hl
    exact ⟨_, _, _, _, _, _, _, _, _, rfl, ⟨fun _ => ⟨rfl, rfl, rfl, rfl, rfl⟩, fun hy => absurd hy hl, fun hy => absurd hy hl, fun _ => ⟨rfl, rfl⟩, hb⟩⟩

/-- The world in which code is run: the limits and the outcome have boxes. -/
structure CallOk (w : World) (c : Nat) (vl : Value) (en ce ls la lc lo : Int) (W : World) : Prop where
  c : Blk W c #[vl, .int .i64 en, .int .i64 ce] 78
  l : Blk W w.heap.size #[.int .i64 ls, .int .i64 la, .int .i64 lc, .int .i64 lo] 39
  r : Blk W (w.heap.size + 1) #[.int .i64 0, .slice none 0 0, .slice none 0 0, .string ⟨#[]⟩, .int .i64 0] 44
  below : Below w.heap.size w W
  size : w.heap.size + 2 ≤ W.heap.size
theorem CallOk.on {w : World} {c : Nat} {vl : Value} {en ce ls la lc lo : Int} {W W' : World} (h : CallOk w c vl en ce ls la lc lo W) (hb : Below W.heap.size W W') : CallOk w c vl en ce ls la lc lo W' :=
  ⟨h.c.below hb h.c.lt, h.l.below hb h.l.lt, h.r.below hb h.r.lt, h.below.trans (hb.mono h.below.size), Nat.le_trans h.size hb.size⟩
def CallS (w : World) (c : Nat) (vl : Value) (en ce ls la lc lo : Int) (W : World) : Prop :=
  W.cell? ⟨c, 0, none⟩ = some vl ∧ W.cell? ⟨c, 1, none⟩ = some (.int .i64 en) ∧ W.cell? ⟨c, 2, none⟩ = some (.int .i64 ce) ∧ W.cell? ⟨w.heap.size, 0, none⟩ = some (.int .i64 ls) ∧ W.cell? ⟨w.heap.size, 1, none⟩ = some (.int .i64 la) ∧ W.cell? ⟨w.heap.size, 2, none⟩ = some (.int .i64 lc) ∧ W.cell? ⟨w.heap.size, 3, none⟩ = some (.int .i64 lo)
theorem CallOk.s {w : World} {c : Nat} {vl : Value} {en ce ls la lc lo : Int} {W : World} (h : CallOk w c vl en ce ls la lc lo W) : CallS w c vl en ce ls la lc lo W :=
  ⟨h.c.cell 0, h.c.cell 1, h.c.cell 2, h.l.cell 0, h.l.cell 1, h.l.cell 2, h.l.cell 3⟩
theorem CallOk.s5 {w : World} {c : Nat} {vl : Value} {en ce ls la lc lo : Int} {W : World} (h : CallOk w c vl en ce ls la lc lo W) (hc : c < w.heap.size) (y0 y1 y2 y3 y4 : Value) : CallS w c vl en ce ls la lc lo (((((W.setCell ⟨w.heap.size + 1, 0, none⟩ y0).setCell ⟨w.heap.size + 1, 1, none⟩ y1).setCell ⟨w.heap.size + 1, 2, none⟩ y2).setCell ⟨w.heap.size + 1, 3, none⟩ y3).setCell ⟨w.heap.size + 1, 4, none⟩ y4) := by
  have n1 : c ≠ w.heap.size + 1 := by omega
  have n2 : w.heap.size ≠ w.heap.size + 1 := by omega
  have h1 := ((((h.c.far (a := ⟨w.heap.size + 1, 0, none⟩) n1 y0).far (a := ⟨w.heap.size + 1, 1, none⟩) n1 y1).far (a := ⟨w.heap.size + 1, 2, none⟩) n1 y2).far (a := ⟨w.heap.size + 1, 3, none⟩) n1 y3).far (a := ⟨w.heap.size + 1, 4, none⟩) n1 y4
  have h2 := ((((h.l.far (a := ⟨w.heap.size + 1, 0, none⟩) n2 y0).far (a := ⟨w.heap.size + 1, 1, none⟩) n2 y1).far (a := ⟨w.heap.size + 1, 2, none⟩) n2 y2).far (a := ⟨w.heap.size + 1, 3, none⟩) n2 y3).far (a := ⟨w.heap.size + 1, 4, none⟩) n2 y4
  exact ⟨h1.cell 0, h1.cell 1, h1.cell 2, h2.cell 0, h2.cell 1, h2.cell 2, h2.cell 3⟩
theorem ListAt.ofRow {w : World} {g cap : Nat} {l : List (Int × Int)} (h : w.ownsRow 0 65 2 (.slice (some ⟨g, 0, none⟩) l.length cap) l.length (instrCells l)) : ListAt w.heap.size w g l := by
  refine ⟨(ownsRow_lt h (k := g) rfl).1, fun k x hx => ?_⟩
  have hk : k < l.length := (List.getElem?_eq_some_iff.1 hx).1
  obtain ⟨e1, e2⟩ := instrCells_at l k x hx
  have c1 := own_cell h (k * 2) (by omega)
  have c2 := own_cell h (k * 2 + 1) (by omega)
  rw [e1] at c1
  rw [e2] at c2
  exact ⟨c1, c2⟩

set_option maxRecDepth 100000 in
set_option maxHeartbeats 16000000 in
theorem run3_any (w : World) (c p : Nat) (l : List (Int × Int)) (en ce ls la lc lo fuel : Int) (h : CodeR3 w c l en ce) (ht : Lib.TabIs Tryz.prog w "internal/strconv.uint64pow10" .u64 Lib.pow10Tab) (hok : CodeOk l) (hen : 0 ≤ en ∧ en < l.length) (hce : 0 ≤ ce ∧ ce ≤ 1000) (hfu : fuel ≤ 1000000000) :
    Calls Tryz.prog 23 #[.pointer (some ⟨c, 0, none⟩), .agg #[.int .i64 ls, .int .i64 la, .int .i64 lc, .int .i64 lo], .int .i64 fuel] w fun e w' => ∃ er vS vC out st, e = .returned (outV er vS vC out st) ∧ CodeRes w l p en ce ls la lc lo fuel er vS vC out st w' := by
  obtain ⟨g, cap, hb, ho⟩ := h
  have hpos : 0 < l.length := by omega
  have hcw := hb.lt
  have hbw := below_box2 w (.cells #[.int .i64 ls, .int .i64 la, .int .i64 lc, .int .i64 lo] 39) (.cells #[.int .i64 0, .slice none 0 0, .slice none 0 0, .string ⟨#[]⟩, .int .i64 0] 44)
  have hcall : CallOk w c (.slice (some ⟨g, 0, none⟩) l.length cap) en ce ls la lc lo ((w.alloc (.cells #[.int .i64 ls, .int .i64 la, .int .i64 lc, .int .i64 lo] 39)).alloc (.cells #[.int .i64 0, .slice none 0 0, .slice none 0 0, .string ⟨#[]⟩, .int .i64 0] 44)) := by
    refine ⟨hb.below hbw hb.lt, ?_, ?_, hbw, by simp⟩
    · (repeat (first | with_reducible refine Blk.drew ?_ | with_reducible refine Blk.drewN ?_ _ | (with_reducible refine blk_newAt _ _ ?_; (first | omega | ((repeat (first | rw [World.size_up] | rw [World.size_dr] | rw [World.size_drN])) <;> omega))) | with_reducible refine Blk.alloc ?_ _)); (first | done | with_reducible assumption)
    · (repeat (first | with_reducible refine Blk.drew ?_ | with_reducible refine Blk.drewN ?_ _ | (with_reducible refine blk_newAt _ _ ?_; (first | omega | ((repeat (first | rw [World.size_up] | rw [World.size_dr] | rw [World.size_drN])) <;> omega))) | with_reducible refine Blk.alloc ?_ _)); (first | done | with_reducible assumption)
  have hla := (ListAt.ofRow ho).to hbw
  have HLA := V (And.intro hla.low hla.cell)
  have hti : ∀ W', Below w.heap.size w W' → Lib.TabIs Tryz.prog W' "internal/strconv.uint64pow10" .u64 Lib.pow10Tab := Lib.tabBelow_of_tabIs ht
  have HTI := V hti
  have HOK := V hok
  have HNO := V (isNone_no c g l.length cap _ _ _ hcall.c hpos)
  have HCA := V hcall
  have hlist : ListAt w.heap.size w g l := ListAt.ofRow ho
  have HLI := V hlist
  clear hb ho hla hti hok hcall hbw hlist ht
  generalize hvl : (Value.slice (some ⟨g, 0, none⟩) l.length cap) = vl at *
  have HVL := V hvl
  clear hvl
  go_enter Tryz.func23, Tryz.ntmps23
  go_wp2_with fail
  refine (U HNO).mono ?_
  rintro e W ⟨rfl, hw⟩
  rw [← hw] at HCA
  clear hw HNO
  have HCD := V ((U HCA).on (below_drew (Below.refl _ _)))
  have HS0 := V (U HCD).s
  have HNT := V (newTable_any W.drew)
  have HRUN : Hid (∀ tb wt, TabAt wt tb → CallOk w c vl en ce ls la lc lo wt → Calls Tryz.prog 40 #[.pointer (some ⟨tb, 0, none⟩), .agg #[vl, .int .i64 en, .int .i64 ce], .agg #[.int .i64 ls, .int .i64 la, .int .i64 lc, .int .i64 lo], .int .i64 fuel] wt (CodeOut wt l p en ce ls la lc lo fuel)) := by
    intro tb wt h1 h2
    rw [← U HVL]
    have hlb := (U HLI).to h2.below
    exact tableRun_all tb g cap p l en ce ls la lc lo fuel wt h1 (U HTI wt h2.below) ⟨Nat.lt_of_lt_of_le hlb.low h2.below.size, hlb.cell⟩ (U HOK) hen hce hfu
  have hcl := (U HCA).c.lt
  have hcl0 : c < W.heap.size := hcl
  unfold CallS at HS0
  go_wp2_with fail
  go_cut [] from 7 to 17 (fun wc => ∃ er a1 n1 k1 a2 n2 k2 out st wt wu, CallOk w c vl en ce ls la lc lo wt ∧ CodeRes wt l p en ce ls la lc lo fuel er (.slice a1 n1 k1) (.slice a2 n2 k2) out st wu ∧ wc = ((((wu.setCell ⟨w.heap.size + 1, 0, none⟩ (.int .i64 er)).setCell ⟨w.heap.size + 1, 1, none⟩ (.slice a1 n1 k1)).setCell ⟨w.heap.size + 1, 2, none⟩ (.slice a2 n2 k2)).setCell ⟨w.heap.size + 1, 3, none⟩ (.string out)).setCell ⟨w.heap.size + 1, 4, none⟩ (.int .i64 st))
  case first =>
    go_region_held_law (fun w' => w'.cell? ⟨c, 0, none⟩ = some vl ∧ w'.cell? ⟨c, 1, none⟩ = some (.int .i64 en) ∧ w'.cell? ⟨c, 2, none⟩ = some (.int .i64 ce) ∧ w'.cell? ⟨w.heap.size, 0, none⟩ = some (.int .i64 ls) ∧ w'.cell? ⟨w.heap.size, 1, none⟩ = some (.int .i64 la) ∧ w'.cell? ⟨w.heap.size, 2, none⟩ = some (.int .i64 lc) ∧ w'.cell? ⟨w.heap.size, 3, none⟩ = some (.int .i64 lo)) (first | with_reducible exact U HS5 | with_reducible exact U HS6 _ _ _ _ _ | with_reducible exact U HS4 | with_reducible exact U HS0) (first
      | (refine step_call rfl 39 #[] #[] rfl Tryz.func39 Tryz.name39 Tryz.body39 #[] (by first | rfl | (simp; done)) (by exact U HNT) ?_; rintro e wt ⟨tb, rfl, hta, hbt⟩; have hct := (U HCD).on hbt; have HS4 := V hct.s; unfold CallS at HS4; have HR4 := V (U HRUN tb wt hta hct); have HC4 := V hct; clear hta hbt hct; refine ⟨_, rfl, ?_⟩)
      | (refine step_call rfl 40 #[.tmp 10, .tmp 14, .tmp 15, .tmp 16] #[82, 73, 39, 3] rfl Tryz.func40 Tryz.name40 Tryz.body40 #[.pointer (some ⟨tb, 0, none⟩), .agg #[vl, .int .i64 en, .int .i64 ce], .agg #[.int .i64 ls, .int .i64 la, .int .i64 lc, .int .i64 lo], .int .i64 fuel] (by first | rfl | (simp [Act.eval]; done) | (simp [Act.eval, Act.put]; done)) (by exact U HR4) ?_; rintro e wu hout; obtain ⟨er, a1, n1, k1, a2, n2, k2, out, st, rfl, hres⟩ := hout.res; have hcu := (U HC4).on hres.below; have HS5 := V hcu.s; unfold CallS at HS5; have HS6 := V (hcu.s5 hcw); unfold CallS at HS6; have hcr := hcu.r.cell; have hfr := hcu.r.free; have hrl := hcu.r.lt; have HRES := V hres; clear hres hout hcu; refine ⟨_, rfl, ?_⟩))
    all_goals
      go_wp2_with fail
      go_meet
      exact ⟨er, a1, n1, k1, a2, n2, k2, out, st, wt, wu, U HC4, U HRES, rfl⟩
  case rest =>
    obtain ⟨er, a1, n1, k1, a2, n2, k2, out, st, wt, wu, hct, hres, rfl⟩ := hcut
    have hcu := hct.on hres.below
    have HCU := V hcu
    have HCT := V hct
    have HRES := V hres
    clear hcu hct hres HS0 HNT HRUN
    go_wp2_with fail
    refine bodyPost_ret (results_cell_row (P := Tryz.prog) rfl _ _ (w.heap.size + 1) 44 _ (0, 0) _ rfl (out_set (U HCU).r rfl) Tryz.underlying44 rfl Tryz.sizeOutcome) rfl ?_
    have hres := U HRES
    have hct := U HCT
    have hsz := hct.size
    have hn : ∀ {v : Value} {n : Nat} {xs : List Value}, wu.ownsRow wt.heap.size 2 1 v n xs → v.ownBlock ≠ some (w.heap.size + 1) := fun ho e => by have := (ownsRow_lt ho e).2; omega
    refine ⟨er, _, _, out, st, rfl, ⟨hres.no, hres.yes, fun h1 h2 => ?_, hres.bad, ?_⟩⟩
    · obtain ⟨o1, o2, o3⟩ := hres.ok h1 h2
      exact ⟨ownsRow_base (ownsRow_far (ownsRow_far (ownsRow_far (ownsRow_far (ownsRow_far o1 (hn o1) _) (hn o1) _) (hn o1) _) (hn o1) _) (hn o1) _) (by omega), ownsRow_base (ownsRow_far (ownsRow_far (ownsRow_far (ownsRow_far (ownsRow_far o2 (hn o2) _) (hn o2) _) (hn o2) _) (hn o2) _) (hn o2) _) (by omega), o3⟩
    · have hb : Below w.heap.size w wu := hct.below.trans (hres.below.mono (by omega))
      exact ((((hb.setCell (by simp) _).setCell (by simp) _).setCell (by simp) _).setCell (by simp) _).setCell (by simp) _
set_option maxRecDepth 100000 in
set_option maxHeartbeats 4000000 in
theorem fcompile3_no (s : ByteArray) (b0 b1 b2 : Bool) (w : World) (er pl : Int) (hE : er ≠ 0)
    (hcall : ∀ W, Below w.heap.size w W → Calls Tryz.prog 34 #[.string s] W fun e w' => e = .returned (.tuple #[.agg #[.slice none 0 0, .int .i64 0, .int .i64 0], .int .i64 er, .int .i64 pl]) ∧ Below W.heap.size W w') :
    Calls Tryz.prog 18 #[.string s, .agg #[.bool b0, .bool b1, .bool b2]] w fun e w' => e = .returned (.tuple #[.pointer none, .int .i64 er, .int .i64 pl]) ∧ Below w.heap.size w w' := by
  have hb0 : Below w.heap.size w (w.alloc (.cells #[.bool b0, .bool b1, .bool b2] 32)) := by (repeat (first | with_reducible refine below_drew ?_ | with_reducible refine below_drawn ?_ _ | with_reducible refine below_longer ?_ _ | (with_reducible refine Below.alloc ?_ ?_ _; rotate_left; (first | omega | ((repeat (first | rw [World.size_up] | rw [World.size_dr] | rw [World.size_drN])) <;> omega))))); (with_reducible exact Below.refl _ _)
  have HC := V (hcall _ hb0)
  have HB0 := V hb0
  have he' : (er == 0) = false := by simpa using hE
  clear hcall hb0
  go_enter Tryz.func18, Tryz.ntmps18
  go_wp2_with fail
  refine (U HC).mono ?_
  rintro e w1 ⟨rfl, hb1⟩
  have hb2 := (U HB0).trans (below_less hb1 (U HB0).size)
  have HB2 := V hb2
  clear hb1 hb2 HC
  go_wp2_with fail
  go_ret3
  exact ⟨rfl, (U HB2).alloc (U HB2).size _⟩

theorem comp3_no (s : ByteArray) (w : World) (hV : VocOk w) (hE : ErrsOk w) (er pl : Int) (h : 2000 < s.size ∧ er = 1 ∧ pl = 0 ∨ s.size ≤ 2000 ∧ (endS s).err = er ∧ (endS s).place = pl ∧ er ≠ 0) :
    Calls Tryz.prog 34 #[.string s] w fun e w' => e = .returned (.tuple #[.agg #[.slice none 0 0, .int .i64 0, .int .i64 0], .int .i64 er, .int .i64 pl]) ∧ Below w.heap.size w w' := by
  rcases h with ⟨h1, rfl, rfl⟩ | ⟨h1, rfl, rfl, h2⟩
  · exact comp_long s w h1
  · refine (comp_any s w h1 hV hE).mono ?_
    rintro e w' ⟨hcase, hb⟩
    rcases hcase with ⟨_, rfl⟩ | ⟨h3, _⟩
    · exact ⟨rfl, hb⟩
    · exact absurd h3 h2

/-- What lies at package level. -/
def Env3 (w : World) : Prop := VocOk w ∧ ErrsOk w ∧ Lib.TabIs Tryz.prog w "internal/strconv.uint64pow10" .u64 Lib.pow10Tab
theorem Env3.below {w w' : World} (h : Env3 w) (hb : Below w.heap.size w w') : Env3 w' := ⟨h.1.below hb, h.2.1.below hb, Lib.tabBelow_of_tabIs h.2.2 w' hb⟩
end Go.Proofs.YtmeiikjpaepogaaGreatDoor
namespace Go.Proofs.YtmeiikjpaepogaaGreatDoor
open Go Go.RowKit Go.ChangeShapes Go.WideShapes Go.ChangeAt Go.Deep

theorem pow_datum : Rows.laid_internal_strconv_uint64pow10 (H := Unit) = Lib.tabData .u64 Lib.pow10Tab := by kernel_rfl
theorem Tryz.gPow : (Rows.compilesRow.laid[2]?).bind (fun x => Tryz.prog.globalNamed x.1) = some 3 := by kernel_rfl
theorem Tryz.tPow : (Tryz.prog.globals[3]?).map (·.type) = some 293 := by kernel_rfl
theorem Tryz.cells85 : Tryz.prog.cellsOf 85 = 1 := by kernel_rfl
theorem Tryz.cells293 : Tryz.prog.cellsOf 293 = 20 := by kernel_rfl
theorem tab_of_laid {W : World} (h : laidMetH Tryz.prog Rows.compilesRow.laid W) : Lib.TabIs Tryz.prog W "internal/strconv.uint64pow10" .u64 Lib.pow10Tab := by
  rw [MakeChecks.laidMetH_plain _ _ _ (by kernel_rfl)] at h
  obtain ⟨ps, ⟨_, _, _, _, _, _, _, _, _, _, ⟨_, _, _, _, _, _, _, _, _, _, ⟨g2, t2, c2, f2, p2, q2, hg2, ht2, hv2, hd2, _, _⟩, _⟩, _⟩, _⟩ := h
  obtain rfl := Option.some.inj (hg2.symm.trans Tryz.gPow)
  obtain rfl := Option.some.inj (ht2.symm.trans Tryz.tPow)
  have hd2' := hd2
  rw [pow_datum] at hd2'
  have e := Lib.cells_of_tab Tryz.underlying293 Tryz.underlying85 Tryz.cells85 Tryz.cells293 hd2'
  unfold Lib.TabIs
  rw [← e]
  exact hv2
theorem env3_of_laid {W : World} (h : laidMetH Tryz.prog Rows.compilesRow.laid W) : Env3 W := ⟨(env_of_laid h).1, (env_of_laid h).2, tab_of_laid h⟩
end Go.Proofs.YtmeiikjpaepogaaGreatDoor
namespace Go.Proofs.YtmeiikjpaepogaaGreatDoor
open Go Go.RowKit

set_option maxRecDepth 100000 in
set_option maxHeartbeats 4000000 in
theorem hasShape_any (n : Nat) (en ce : Int) (w : World) : Calls Tryz.prog 56 #[.int .i64 n, .int .i64 en, .int .i64 ce] w fun e w' => e = .returned (.bool (shapeS n en ce)) ∧ w' = w := by
  cases hs : shapeS n en ce
  · unfold shapeS at hs
    have h' := of_decide_eq_false hs
    by_cases c1 : (n : Int) < 1
    · clear hs h'
      go_enter Tryz.func56, Tryz.ntmps56
      go_wp2_with fail
      go_ret
      exact ⟨rfl, rfl⟩
    by_cases c2 : (5000 : Int) < n
    · clear hs h'
      go_enter Tryz.func56, Tryz.ntmps56
      go_wp2_with fail
      go_ret
      exact ⟨rfl, rfl⟩
    by_cases c3 : en < 0
    · clear hs h'
      go_enter Tryz.func56, Tryz.ntmps56
      go_wp2_with fail
      go_ret
      exact ⟨rfl, rfl⟩
    by_cases c4 : (n : Int) ≤ en
    · clear hs h'
      go_enter Tryz.func56, Tryz.ntmps56
      go_wp2_with fail
      go_ret
      exact ⟨rfl, rfl⟩
    by_cases c5 : ce < 0
    · clear hs h'
      go_enter Tryz.func56, Tryz.ntmps56
      go_wp2_with fail
      go_ret
      exact ⟨rfl, rfl⟩
    · have c6 : 1000 < ce := by omega
      have c7 : decide (ce ≤ 1000) = false := by simp; omega
      clear hs h'
      go_enter Tryz.func56, Tryz.ntmps56
      go_wp2_with fail
      go_ret
      exact ⟨rfl, rfl⟩
  · unfold shapeS at hs
    have h' := of_decide_eq_true hs
    have c1 : (1 : Int) ≤ n := by omega
    have c2 : (n : Int) ≤ 5000 := by omega
    have c3 : 0 ≤ en := by omega
    have c4 : en < n := by omega
    have c5 : 0 ≤ ce := by omega
    have c6 : ce ≤ 1000 := by omega
    have c7 : decide (ce ≤ 1000) = true := by simp; omega
    clear hs h'
    go_enter Tryz.func56, Tryz.ntmps56
    go_wp2_with fail
    go_ret
    exact ⟨rfl, rfl⟩

set_option maxRecDepth 100000 in
theorem isOperator_any (op : Int) (w : World) : Calls Tryz.prog 88 #[.int .i64 op] w fun e w' => e = .returned (.bool (opS op)) ∧ w' = w := by
  by_cases c1 : op < 0
  · have : opS op = false := by unfold opS; simp; omega
    rw [this]
    have c2 : decide (op ≤ 59) = true := by simp; omega
    go_enter Tryz.func88, Tryz.ntmps88
    go_wp2_with fail
    go_ret
    exact ⟨rfl, rfl⟩
  by_cases c2 : op ≤ 32
  · have : opS op = true := by unfold opS; simp; omega
    rw [this]
    go_enter Tryz.func88, Tryz.ntmps88
    go_wp2_with fail
    go_ret
    exact ⟨rfl, rfl⟩
  by_cases c3 : op < 40
  · have : opS op = false := by unfold opS; simp; omega
    rw [this]
    go_enter Tryz.func88, Tryz.ntmps88
    go_wp2_with fail
    go_ret
    exact ⟨rfl, rfl⟩
  by_cases c4 : op ≤ 59
  · have : opS op = true := by unfold opS; simp; omega
    rw [this]
    have c5 : decide (op ≤ 59) = true := by simp; omega
    go_enter Tryz.func88, Tryz.ntmps88
    go_wp2_with fail
    go_ret
    exact ⟨rfl, rfl⟩
  · have : opS op = false := by unfold opS; simp; omega
    rw [this]
    have c5 : decide (op ≤ 59) = false := by simp; omega
    go_enter Tryz.func88, Tryz.ntmps88
    go_wp2_with fail
    go_ret
    exact ⟨rfl, rfl⟩

set_option maxRecDepth 100000 in
theorem namesIns_any (op : Int) (w : World) : Calls Tryz.prog 89 #[.int .i64 op] w fun e w' => e = .returned (.bool (namesS op)) ∧ w' = w := by
  have fin : ∀ (b : Bool), namesS op = b → (Calls Tryz.prog 89 #[.int .i64 op] w fun e w' => e = .returned (.bool b) ∧ w' = w) → Calls Tryz.prog 89 #[.int .i64 op] w fun e w' => e = .returned (.bool (namesS op)) ∧ w' = w := fun b h k => by rw [h]; exact k
  by_cases c : op = 1 ∨ op = 2 ∨ op = 3 ∨ op = 7
  · refine fin true (by unfold namesS; simp; omega) ?_
    rcases c with rfl | rfl | rfl | rfl
    all_goals
      go_enter Tryz.func89, Tryz.ntmps89
      go_wp2_with fail
      go_ret
      exact ⟨rfl, rfl⟩
  · refine fin false (by unfold namesS; simp; omega) ?_
    have m1 : (op == 1) = false := by simpa using (fun e => c (Or.inl e) : ¬ op = 1)
    have m2 : (op == 2) = false := by simpa using (fun e => c (Or.inr (Or.inl e)) : ¬ op = 2)
    have m3 : (op == 3) = false := by simpa using (fun e => c (Or.inr (Or.inr (Or.inl e))) : ¬ op = 3)
    have m7 : (op == 7) = false := by simpa using (fun e => c (Or.inr (Or.inr (Or.inr e))) : ¬ op = 7)
    clear fin
    go_enter Tryz.func89, Tryz.ntmps89
    go_wp2_with fail
    go_ret
    exact ⟨rfl, rfl⟩

set_option maxRecDepth 100000 in
theorem goesOn_any (op : Int) (w : World) : Calls Tryz.prog 90 #[.int .i64 op] w fun e w' => e = .returned (.bool (!decide (op = 1 ∨ op = 4 ∨ op = 5))) ∧ w' = w := by
  by_cases c : op = 1 ∨ op = 4 ∨ op = 5
  · rw [decide_eq_true c]
    rcases c with rfl | rfl | rfl
    all_goals
      go_enter Tryz.func90, Tryz.ntmps90
      go_wp2_with fail
      go_ret
      exact ⟨rfl, rfl⟩
  · rw [decide_eq_false c]
    have m1 : (op == 1) = false := by simpa using (fun e => c (Or.inl e) : ¬ op = 1)
    have m4 : (op == 4) = false := by simpa using (fun e => c (Or.inr (Or.inl e)) : ¬ op = 4)
    have m5 : (op == 5) = false := by simpa using (fun e => c (Or.inr (Or.inr e)) : ¬ op = 5)
    have r1 : (op != 1) = true := by rw [bne, m1]; rfl
    have r4 : (op != 4) = true := by rw [bne, m4]; rfl
    have r5 : (op != 5) = true := by rw [bne, m5]; rfl
    clear c
    go_enter Tryz.func90, Tryz.ntmps90
    go_wp2_with fail
    go_ret
    exact ⟨rfl, rfl⟩
set_option maxRecDepth 100000 in
set_option maxHeartbeats 8000000 in
theorem isSound_any (g off c : Nat) (l : List (Int × Int)) (w : World) (hg : g < w.heap.size) (hcells : ∀ j u, (instrCells l)[j]? = some u → w.cell? ⟨g, off + j, none⟩ = some u) (hpos : 0 < l.length) (h5 : l.length ≤ 5000) :
    Calls Tryz.prog 57 #[.slice (some ⟨g, off, none⟩) l.length c] w fun e w' => e = .returned (.bool (l.all (soundS l.length) && endsS l)) ∧ Below w.heap.size w w' := by
  have HCE := V hcells
  have h5I : (l.length : Int) ≤ 5000 := by omega
  have hbad : ∀ (k : Nat) (x : Int × Int), l[k]? = some x → soundS l.length x = false → (l.all (soundS l.length) && endsS l) = false := fun k x hx h => by
    have : l.all (soundS l.length) = false := by
      rw [List.all_eq_false]
      exact ⟨x, List.mem_of_getElem? hx, by rw [h]; simp⟩
    rw [this]
    rfl
  have HBAD := V hbad
  have hall0 : (∀ j x, j < l.length → l[j]? = some x → soundS l.length x = true) → (l.all (soundS l.length) && endsS l) = endsS l := fun h => by
    have : l.all (soundS l.length) = true := by
      rw [List.all_eq_true]
      intro x hx
      obtain ⟨j, hj, e⟩ := List.getElem_of_mem hx
      exact h j x hj (by rw [List.getElem?_eq_getElem hj, e])
    rw [this]
    rfl
  have HAL := V hall0
  clear hcells hbad hall0
  generalize (l.all (soundS l.length) && endsS l) = res at *
  go_enter Tryz.func57, Tryz.ntmps57
  go_wp2_with fail
  go_loopw [7] (fun i wr => ∃ k : Nat, i = .int .i64 k ∧ k ≤ l.length ∧ (∀ j x, j < k → l[j]? = some x → soundS l.length x = true) ∧ Below w.heap.size w wr) (fun i _ => l.length - (intOf i).toNat)
  case atStart => exact ⟨0, rfl, Nat.zero_le _, fun j x hj => absurd hj (Nat.not_lt_zero _), Below.refl _ _⟩
  case round =>
    obtain ⟨k, rfl, hk, hall, hbr⟩ := hrel
    have HALL := V hall
    have HBR := V hbr
    have hgr : g < wr.heap.size := by have := hbr.size; omega
    by_cases hlt : k < l.length
    · obtain ⟨x, hx⟩ : ∃ x, l[k]? = some x := ⟨_, List.getElem?_eq_getElem hlt⟩
      have hc0 := in_cell (U HCE) hx
      have hcr1 : wr.cell? ⟨g, off + k * 2, none⟩ = some (.int .i64 x.1) := by rw [hbr.cell (by simpa using hg)]; exact hc0.1
      have hcr2 : wr.cell? ⟨g, off + k * 2 + 1, none⟩ = some (.int .i64 x.2) := by rw [hbr.cell (by simpa using hg)]; exact hc0.2
      have hltI : (k : Int) < l.length := by omega
      have HIO := V (fun W => isOperator_any x.1 W)
      have HNI := V (fun W => namesIns_any x.1 W)
      have hbN : Below w.heap.size w (wr.alloc (.cells #[.int .i64 x.1, .int .i64 x.2] 65)) := hbr.trans ((below_box wr _).mono hbr.size)
      have HBN := V hbN
      have HX := V hx
      have hsnd : soundS l.length x = (opS x.1 && (!namesS x.1 || decide (0 ≤ x.2 ∧ x.2 < l.length))) := rfl
      generalize hsx : soundS l.length x = sx at hsnd
      have HSX := V hsx
      clear hx hc0 hall hbr hbN hsx
      generalize x.1 = xo at *
      generalize x.2 = xa at *
      generalize hop : opS xo = ob at HIO hsnd
      generalize hnn : namesS xo = nb at HNI hsnd
      clear hop hnn
      go_wp2_with fail
      refine (U HIO _).mono ?_
      rintro e w1 ⟨rfl, hw1⟩
      obtain rfl := hw1.symm
      clear hw1 HIO
      cases ob
      · have HR := V (U HBAD k x (U HX) (by rw [U HSX, hsnd]; rfl))
        clear hsnd
        go_wp2_with fail
        go_ret
        rw [U HR]
        exact ⟨rfl, U HBN⟩
      · go_wp2_with fail
        refine (U HNI _).mono ?_
        rintro e w1 ⟨rfl, hw1⟩
        obtain rfl := hw1.symm
        clear hw1 HNI
        cases nb
        · have hgood : sx = true := by rw [hsnd]; rfl
          clear hsnd
          go_wp2_with fail
          go_roundw
          case rel =>
            refine ⟨k + 1, by go_num, by omega, ?_, U HBN⟩
            intro j y hj hy
            rcases Nat.lt_or_ge j k with h1 | h1
            · exact U HALL j y h1 hy
            · obtain rfl : j = k := by omega
              rw [U HX] at hy
              obtain rfl := Option.some.inj hy
              rw [U HSX]
              exact hgood
          case measure => simp [intOf]; omega
        · by_cases hneg : xa < 0
          · have HR := V (U HBAD k x (U HX) (by rw [U HSX, hsnd]; simp; omega))
            clear hsnd
            go_wp2_with fail
            go_ret
            rw [U HR]
            exact ⟨rfl, U HBN⟩
          by_cases hbig : (l.length : Int) ≤ xa
          · have HR := V (U HBAD k x (U HX) (by rw [U HSX, hsnd]; simp; omega))
            clear hsnd
            go_wp2_with fail
            go_ret
            rw [U HR]
            exact ⟨rfl, U HBN⟩
          · have hgood : sx = true := by rw [hsnd]; simp; omega
            clear hsnd
            go_wp2_with fail
            go_roundw
            case rel =>
              refine ⟨k + 1, by go_num, by omega, ?_, U HBN⟩
              intro j y hj hy
              rcases Nat.lt_or_ge j k with h1 | h1
              · exact U HALL j y h1 hy
              · obtain rfl : j = k := by omega
                rw [U HX] at hy
                obtain rfl := Option.some.inj hy
                rw [U HSX]
                exact hgood
            case measure => simp [intOf]; omega
    · have hkn : k = l.length := by omega
      subst hkn
      obtain ⟨x, hx⟩ : ∃ x, l[l.length - 1]? = some x := ⟨_, List.getElem?_eq_getElem (by omega)⟩
      have hlast : l.getLast? = some x := by rw [List.getLast?_eq_getElem?]; exact hx
      have hc0 := in_cell (U HCE) hx
      have hcw : wr.cell? ⟨g, off + (l.length - 1) * 2, none⟩ = some (.int .i64 x.1) := by
        rw [hbr.cell (by simpa using hg)]
        exact hc0.1
      have hsub : (l.length : Int) - 1 = ((l.length - 1 : Nat) : Int) := by omega
      have hln : (((l.length - 1 : Nat)) : Int) < l.length := by omega
      have hends : endsS l = decide (x.1 = 1 ∨ x.1 = 4 ∨ x.1 = 5) := by unfold endsS; rw [hlast]
      have HE := V hends
      have HGO := V (goesOn_any x.1 wr)
      clear hx hlast hc0 hall hbr hlt hends
      generalize decide (x.1 = 1 ∨ x.1 = 4 ∨ x.1 = 5) = eb at *
      go_wp2_with fail
      refine (U HGO).mono ?_
      rintro e w1 ⟨rfl, hw1⟩
      obtain rfl := hw1.symm
      clear hw1 HGO
      go_wp2_with fail
      go_ret
      rw [U HAL (U HALL), U HE]
      refine ⟨?_, U HBR⟩
      cases eb <;> rfl

set_option maxRecDepth 100000 in
set_option maxHeartbeats 2000000 in
theorem clone4_any (g off c : Nat) (l : List (Int × Int)) (w : World) (hg : g < w.heap.size) (hcells : ∀ j u, (instrCells l)[j]? = some u → w.cell? ⟨g, off + j, none⟩ = some u) (hpos : 0 < l.length) (hl : l.length ≤ 50000) :
    Calls Tryz.prog 37 #[.slice (some ⟨g, off, none⟩) l.length c] w fun e w' => ∃ v, e = .returned v ∧ w'.ownsRow w.heap.size 65 2 v l.length (instrCells l) ∧ Below w.heap.size w w' := by
  obtain ⟨iI, hiI, hzI0, hzI1, hzI2⟩ := info_parts Tryz.infoInstr
  have hE : (w.alloc (.cells #[] 65)).ownsRow w.heap.size 65 2 (.slice (some ⟨w.heap.size, 0, none⟩) 0 0) 0 [] := ⟨rfl, Or.inr ⟨w.heap.size, 0, #[], rfl, Nat.le_refl _, Blk.new w _ _, Nat.le_refl _, by unfold maxLen; omega, rfl, rfl⟩⟩
  have HE := V hE
  have hnews : ∀ j u, (instrCells l)[j]? = some u → (w.alloc (.cells #[] 65)).cell? ((⟨g, off, none⟩ : Addr).add j) = some u := fun j u hj => by
    rw [addr_off, (below_box w (.cells #[] 65)).cell (by simpa using hg)]
    exact hcells j u hj
  have HN := V hnews
  have HL : Hid ((instrCells l).length = l.length * 2) := instrCells_length l
  have qn : ∀ W : World, (binOp .eql 33 (.slice (some ⟨g, off, none⟩) l.length c) (.slice none 0 0)).run Tryz.prog W = .ok (.bool false) W := fun W => Lib.run_eql_slice_nil W _ _ _ _ _ _ _ Tryz.underlying33
  clear hE hnews hcells
  go_enter Tryz.func37, Tryz.ntmps37
  go_wp2_with (at_builtin; refine wpList_append_lies _ rfl (.tmp 5) (.tmp 6) 33 rfl w.heap.size 65 iI _ 2 16 Tryz.underlying33 hiI hzI0 hzI1 hzI2 rfl (by decide) (.slice (some ⟨w.heap.size, 0, none⟩) 0 0) 0 [] (by simp [Act.eval]) (U HE) ⟨g, off, none⟩ l.length c (instrCells l) (by simp [Act.eval]) (U HL) (U HN) (instr_oneCell l) hpos (by unfold maxLen; omega) (by omega) (by simp) _ rfl ?_; intro g2 cap2 w5 hown hgrow hat hlt1; have HOW := V hown; have HG := V hgrow; clear hown hgrow hat)
  go_ret
  have ho := U HOW
  rw [Nat.zero_add, List.nil_append] at ho
  refine ⟨_, rfl, ho, ((Below.refl _ _).alloc (Nat.le_refl _) _).grown (U HG) (by simp) (fun k hk => by simp [Value.ownBlock] at hk; omega)⟩
theorem results_row_tmp1 {P : Program} {fn : Func} {p u : Tmp} {ty : TypeId} (h : fn.results = #[.cell p ty, .tmp u]) (tmps : Array Value) (w : World) (g : Nat) (t : TypeId) (cs : Array Value) (fr : Nat × Nat) (d : TypeDesc)
    (hp : tmps.getD p undef = .pointer (some ⟨g, 0, none⟩)) (hg : w.heap[g]? = some (.cells cs t fr))
    (hu : P.underlying ty = some d) (hd : (match d with | .struct _ | .array _ _ => true | _ => false) = true) (hi : (P.info? ty).map (·.size) = some cs.size) :
    (results fn tmps).run P w = .ok (.tuple #[.agg cs, tmps.getD u undef]) w := by
  have hp' : tmps[p]?.getD undef = .pointer (some ⟨g, 0, none⟩) := by simpa using hp
  simp only [results, h]
  simp [hp', asAddr, run_loadVar_row w g t ty cs fr d hg hu hd hi]
/-- What code.Load answers. -/
def CLoad (w : World) (l : List (Int × Int)) (en ce : Int) (e : Ending) (w' : World) : Prop :=
  (loadS l en ce = false ∧ e = .returned (.tuple #[.agg #[.slice none 0 0, .int .i64 0, .int .i64 0], .int .i64 5]) ∨
   loadS l en ce = true ∧ ∃ g cap, e = .returned (.tuple #[.agg #[.slice (some ⟨g, 0, none⟩) l.length cap, .int .i64 en, .int .i64 ce], .int .i64 0]) ∧ w'.ownsRow w.heap.size 65 2 (.slice (some ⟨g, 0, none⟩) l.length cap) l.length (instrCells l)) ∧ Below w.heap.size w w'

set_option maxRecDepth 100000 in
set_option maxHeartbeats 8000000 in
theorem cload_any (ao : Option Addr) (c : Nat) (l : List (Int × Int)) (en ce : Int) (w : World) (hin : InL w ao l) :
    Calls Tryz.prog 38 #[.slice ao l.length c, .int .i64 en, .int .i64 ce] w (CLoad w l en ce) := by
  have hb0 : Below w.heap.size w (w.alloc (.cells #[.slice none 0 0, .int .i64 0, .int .i64 0] 73)) := by (repeat (first | with_reducible refine below_drew ?_ | with_reducible refine below_drawn ?_ _ | with_reducible refine below_longer ?_ _ | (with_reducible refine Below.alloc ?_ ?_ _; rotate_left; (first | omega | ((repeat (first | rw [World.size_up] | rw [World.size_dr] | rw [World.size_drN])) <;> omega))))); (with_reducible exact Below.refl _ _)
  have hR := Blk.new w #[.slice none 0 0, .int .i64 0, .int .i64 0] 73
  have HB0 := V hb0
  have HR := V hR
  have HSH := V (fun W => hasShape_any l.length en ce W)
  cases hs : shapeS l.length en ce
  · rw [hs] at HSH
    have hno : loadS l en ce = false := by unfold loadS; rw [hs]; rfl
    have HNO := V hno
    clear hno
    clear hb0 hR hs hin
    go_enter Tryz.func38, Tryz.ntmps38
    go_wp2_with fail
    generalize w.alloc (.cells #[.slice none 0 0, .int .i64 0, .int .i64 0] 73) = W0 at *
    refine (U HSH _).mono ?_
    rintro e w1 ⟨rfl, hw1⟩
    obtain rfl := hw1.symm
    clear hw1 HSH
    have hc := (U HR).cell
    have hf := (U HR).free
    have hl := (U HR).lt
    go_wp2_with fail
    refine bodyPost_ret (results_row_tmp1 (P := Tryz.prog) rfl _ _ w.heap.size 73 _ (0, 0) _ rfl (triple_set (U HR) rfl) Tryz.underlying73 rfl Tryz.sizeProgram) rfl ?_
    exact ⟨Or.inl ⟨U HNO, rfl⟩, (((U HB0).setCell (Nat.le_refl _) _).setCell (Nat.le_refl _) _).setCell (Nat.le_refl _) _⟩
  · rw [hs] at HSH
    have hs' := hs
    unfold shapeS at hs'
    have hsd := of_decide_eq_true hs'
    rcases hin with h0 | ⟨g, off, rfl, hg, hcells⟩
    · rw [h0] at hsd
      simp at hsd
    have hpos : 0 < l.length := by omega
    have h5 : l.length ≤ 5000 := by omega
    have hg0 : g < (w.alloc (.cells #[.slice none 0 0, .int .i64 0, .int .i64 0] 73)).heap.size := by simp; omega
    have hcr : ∀ W, Below w.heap.size w W → ∀ j u, (instrCells l)[j]? = some u → W.cell? ⟨g, off + j, none⟩ = some u := fun W hW j u hj => by
      rw [hW.cell (by simpa using hg)]
      exact hcells j u hj
    have HSO := V (isSound_any g off c l _ hg0 (hcr _ hb0) hpos h5)
    have HCL : Hid (∀ W, Below w.heap.size w W → Calls Tryz.prog 37 #[.slice (some ⟨g, off, none⟩) l.length c] W fun e w' => ∃ v, e = .returned v ∧ w'.ownsRow W.heap.size 65 2 v l.length (instrCells l) ∧ Below W.heap.size W w') := fun W hW => clone4_any g off c l W (by have := hW.size; omega) (hcr W hW) hpos (by omega)
    have hld : loadS l en ce = (l.all (soundS l.length) && endsS l) := by unfold loadS; rw [hs]; simp
    have HLD := V hld
    clear hb0 hR hs hs' hsd hcells hcr hg0 hld
    generalize (l.all (soundS l.length) && endsS l) = ok at *
    go_enter Tryz.func38, Tryz.ntmps38
    go_wp2_with fail
    generalize w.alloc (.cells #[.slice none 0 0, .int .i64 0, .int .i64 0] 73) = W0 at *
    refine (U HSH _).mono ?_
    rintro e w1 ⟨rfl, hw1⟩
    obtain rfl := hw1.symm
    clear hw1 HSH
    go_wp2_with fail
    refine (U HSO).mono ?_
    rintro e w2 ⟨rfl, hb2⟩
    have hbw2 : Below w.heap.size w w2 := (U HB0).trans (hb2.mono (U HB0).size)
    have hr2 := (U HR).below hb2 (U HR).lt
    have hc := hr2.cell
    have hf := hr2.free
    have hl := hr2.lt
    have HB2 := V hbw2
    have HR2 := V hr2
    clear hb2 hbw2 hr2 HSO
    cases ok
    · go_wp2_with fail
      refine bodyPost_ret (results_row_tmp1 (P := Tryz.prog) rfl _ _ w.heap.size 73 _ (0, 0) _ rfl (triple_set (U HR2) rfl) Tryz.underlying73 rfl Tryz.sizeProgram) rfl ?_
      exact ⟨Or.inl ⟨U HLD, rfl⟩, (((U HB2).setCell (Nat.le_refl _) _).setCell (Nat.le_refl _) _).setCell (Nat.le_refl _) _⟩
    · clear hc hf
      go_wp2_with fail
      refine (U HCL w2 (U HB2)).mono ?_
      rintro e w3 ⟨v, rfl, ho, hb3⟩
      obtain ⟨g3, cap3, rfl, _, _⟩ := ho.form hpos
      have hbw3 : Below w.heap.size w w3 := (U HB2).trans (hb3.mono (U HB2).size)
      have hr3 := (U HR2).below hb3 (U HR2).lt
      have hc := hr3.cell
      have hf := hr3.free
      have hl3 := hr3.lt
      have HB3 := V hbw3
      have HR3 := V hr3
      have HO := V ho
      clear hb3 hbw3 hr3 ho HCL
      go_wp2_with fail
      refine bodyPost_ret (results_row_tmp1 (P := Tryz.prog) rfl _ _ w.heap.size 73 _ (0, 0) _ rfl (triple_set (U HR3) rfl) Tryz.underlying73 rfl Tryz.sizeProgram) rfl ?_
      have hn : (Value.slice (some ⟨g3, 0, none⟩) l.length cap3).ownBlock ≠ some w.heap.size := fun e => row_not_blk (U HR3) (U HO) (by decide) e
      refine ⟨Or.inr ⟨U HLD, g3, cap3, rfl, ?_⟩, (((U HB3).setCell (Nat.le_refl _) _).setCell (Nat.le_refl _) _).setCell (Nat.le_refl _) _⟩
      exact ownsRow_base (ownsRow_far (ownsRow_far (ownsRow_far (U HO) hn _) hn _) hn _) (U HB2).size

/-- What the program's Load answers. -/
def FLoad (w : World) (l : List (Int × Int)) (en ce : Int) (e : Ending) (w' : World) : Prop :=
  (loadS l en ce = false ∧ e = .returned (.tuple #[.pointer none, .int .i64 5]) ∨ loadS l en ce = true ∧ ∃ c g cap, e = .returned (.tuple #[.pointer (some ⟨c, 0, none⟩), .int .i64 0]) ∧ Blk w' c #[.slice (some ⟨g, 0, none⟩) l.length cap, .int .i64 en, .int .i64 ce] 78 ∧ w.heap.size ≤ c ∧ w'.ownsRow w.heap.size 65 2 (.slice (some ⟨g, 0, none⟩) l.length cap) l.length (instrCells l)) ∧ Below w.heap.size w w'

set_option maxRecDepth 100000 in
set_option maxHeartbeats 8000000 in
theorem fload_any (ao : Option Addr) (c : Nat) (l : List (Int × Int)) (en ce : Int) (w : World) (hin : InL w ao l) :
    Calls Tryz.prog 20 #[.slice ao l.length c, .int .i64 en, .int .i64 ce] w (FLoad w l en ce) := by
  have HC := V (cload_any ao c l en ce w hin)
  clear hin
  go_enter Tryz.func20, Tryz.ntmps20
  go_wp2_with fail
  refine (U HC).mono ?_
  rintro e w1 ⟨hcase, hb1⟩
  have HB1 := V hb1
  rcases hcase with ⟨hno, rfl⟩ | ⟨hyes, g, cap, rfl, ho⟩
  · have HNO := V hno
    clear hno hb1 HC
    go_wp2_with fail
    go_ret2
    exact ⟨Or.inl ⟨U HNO, rfl⟩, (U HB1).alloc (U HB1).size _⟩
  · have HY := V hyes
    have HO := V ho
    clear hyes hb1 ho HC
    go_wp2_with fail
    go_ret2
    refine ⟨Or.inr ⟨U HY, _, g, cap, rfl, blk_two w1 _ _ _, by have := (U HB1).size; omega, ownsRow_alloc (ownsRow_alloc (U HO) _) _⟩, ?_⟩
    exact ((U HB1).alloc (U HB1).size _).alloc (by have := (U HB1).size; simp; omega) _
end Go.Proofs.YtmeiikjpaepogaaGreatDoor
