/- The program's compiler: Compile. -/
import Derived.Test.YtmeiikjpaepogaaGreatDoorG30
import Derived.Test.YtmeiikjpaepogaaGreatDoorG17
import Derived.Test.YtmeiikjpaepogaaGreatDoorG02
namespace Go.Proofs.YtmeiikjpaepogaaGreatDoor
open Go Go.RowKit

theorem Tryz.sizeProgram : (Tryz.prog.info? 73).map (fun i => i.size) = some 3 := by kernel_rfl
theorem Tryz.name79 : (Tryz.f79.name == "runtime.NumGoroutine") = false := by kernel_rfl
theorem Tryz.body79 : Tryz.f79.body.isNone = false := by kernel_rfl
theorem results_row_tmp2 {P : Program} {fn : Func} {p u v : Tmp} {ty : TypeId} (h : fn.results = #[.cell p ty, .tmp u, .tmp v]) (tmps : Array Value) (w : World) (g : Nat) (t : TypeId) (cs : Array Value) (fr : Nat × Nat) (d : TypeDesc)
    (hp : tmps.getD p undef = .pointer (some ⟨g, 0, none⟩)) (hg : w.heap[g]? = some (.cells cs t fr))
    (hu : P.underlying ty = some d) (hd : (match d with | .struct _ | .array _ _ => true | _ => false) = true) (hi : (P.info? ty).map (·.size) = some cs.size) :
    (results fn tmps).run P w = .ok (.tuple #[.agg cs, tmps.getD u undef, tmps.getD v undef]) w := by
  have hp' : tmps[p]?.getD undef = .pointer (some ⟨g, 0, none⟩) := by simpa using hp
  simp only [results, h]
  simp [hp', asAddr, run_loadVar_row w g t ty cs fr d hg hu hd hi]
theorem triple_set {w : World} {b : Nat} {cs : Array Value} {T : TypeId} {x0 x1 x2 y0 y1 y2 : Value} (h : Blk w b cs T) (hcs : cs = #[x0, x1, x2]) :
    Blk (((w.setCell ⟨b, 0, none⟩ y0).setCell ⟨b, 1, none⟩ y1).setCell ⟨b, 2, none⟩ y2) b #[y0, y1, y2] T := by
  subst hcs
  have h5 := ((h.set 0 y0).set 1 y1).set 2 y2
  simpa only [List.setIfInBounds_toArray, List.set_cons_succ, List.set_cons_zero] using h5

theorem AtIs.int {w : World} {x : CX} {p : Nat} (h : AtIs w x p) : YtmeiikjpaepogaaGreatDoor.cellInt w x.b 1 = p := by
  obtain ⟨r, d, m, hx, mp, s0, c, vo, h⟩ := h
  have := h.cell 1
  simp at this
  simp [YtmeiikjpaepogaaGreatDoor.cellInt, this, intOf]

/-- The loop's relation. -/
def CompRel (B : Nat) (x : CX) (w : World) (s : ByteArray) (st : RS) (wr : World) : Prop :=
  ∃ m : Nat, CpE B wr x st ∧ Inv st m ∧ m ≤ st.place0 ∧ st.err = 0 ∧ NmOk st ∧ st.s = s ∧ loopS (fuelS st) st = finS s ∧ Below B w wr

theorem comp_next {B : Nat} {x : CX} {w wr w3 : World} {s : ByteArray} {st : RS} (h : CompRel B x w s st wr) (hne : st.token.toList.isEmpty = false) (he : (itemS st).err = 0) (h3 : CpE B w3 x (stepS (itemS st))) (hb : Below B wr w3) :
    CompRel B x w s (stepS (itemS st)) w3 ∧ s.size - (YtmeiikjpaepogaaGreatDoor.cellInt w3 x.b 1).toNat < s.size - (YtmeiikjpaepogaaGreatDoor.cellInt wr x.b 1).toNat := by
  obtain ⟨m, h1, hi, hm, h0, hn, hss, hl, hbw⟩ := h
  obtain ⟨k1, k2, k3, k4⟩ := round_inv hi hm hne
  refine ⟨⟨m + 1, h3, k1, k2, he, nm_step (nm_item hi hn), by rw [k4, hss], by rw [← loop_round hi hm hne h0 he]; exact hl, hbw.trans hb⟩, ?_⟩
  rw [h3.atIs.int, h1.atIs.int]
  have h5 := k1.place
  have h6 := k1.next
  rw [k4, hss] at h6
  simp only [Int.toNat_natCast]
  omega
theorem comp_fail {B : Nat} {x : CX} {w wr : World} {s : ByteArray} {st : RS} (h : CompRel B x w s st wr) (hne : st.token.toList.isEmpty = false) (he : (itemS st).err ≠ 0) : endS s = itemS st := by
  obtain ⟨m, h1, hi, hm, h0, hn, hss, hl, hbw⟩ := h
  have e1 : finS s = itemS st := by rw [← hl, loop_end hne h0 he]
  unfold endS
  rw [e1, if_neg (fun e => he e.1)]
theorem comp_open {B : Nat} {x : CX} {w wr : World} {s : ByteArray} {st : RS} (h : CompRel B x w s st wr) (hne : st.token.toList.isEmpty = true) (ho : 0 ≤ st.start ∨ st.opens ≠ []) : (endS s).err = 4 ∧ (endS s).place = (st.place0 : Int) := by
  obtain ⟨m, h1, hi, hm, h0, hn, hss, hl, hbw⟩ := h
  have e1 : finS s = st := by rw [← hl]; exact loop_stop _ (Or.inl hne)
  unfold endS
  rw [e1, if_pos ⟨h0, ho⟩]
  unfold failS
  rw [if_pos h0]
  exact ⟨rfl, rfl⟩
theorem comp_done {B : Nat} {x : CX} {w wr : World} {s : ByteArray} {st : RS} (h : CompRel B x w s st wr) (hne : st.token.toList.isEmpty = true) (ho : ¬ (0 ≤ st.start ∨ st.opens ≠ [])) : endS s = st ∧ st.start < 0 ∧ st.opens = [] := by
  obtain ⟨m, h1, hi, hm, h0, hn, hss, hl, hbw⟩ := h
  have e1 : finS s = st := by rw [← hl]; exact loop_stop _ (Or.inl hne)
  unfold endS
  rw [e1, if_neg (fun e => ho e.2)]
  refine ⟨rfl, by omega, ?_⟩
  rcases Classical.em (st.opens = []) with e | e
  · exact e
  · exact absurd (Or.inr e) ho

theorem full_pos {st : RS} : 0 < (fullS st).length := by
  unfold fullS
  rw [List.length_append]
  exact Nat.succ_pos _
theorem full_done {st : RS} : st.c0 ++ (st.c1 ++ [(5, 0)]).map (shiftS st.c0.length) = fullS st := by
  unfold fullS
  simp [shiftS]
theorem results_row3 {P : Program} {fn : Func} {p : Tmp} {ty : TypeId} (h : fn.results = #[.cell p ty]) (tmps : Array Value) (w : World) (g : Nat) (t : TypeId) (cs : Array Value) (fr : Nat × Nat) (d : TypeDesc)
    (hp : tmps.getD p undef = .pointer (some ⟨g, 0, none⟩)) (hg : w.heap[g]? = some (.cells cs t fr))
    (hu : P.underlying ty = some d) (hd : (match d with | .struct _ | .array _ _ => true | _ => false) = true) (hi : (P.info? ty).map (·.size) = some cs.size) :
    (results fn tmps).run P w = .ok (.agg cs) w := results_cell_row h tmps w g t cs fr d hp hg hu hd hi

set_option maxRecDepth 100000 in
set_option maxHeartbeats 8000000 in
theorem cprogram_any (B : Nat) (x : CX) (st : RS) (wc : World) (h : CpE B wc x { st with c1 := st.c1 ++ [(5, 0)] }) :
    Calls Tryz.prog 52 #[.pointer (some ⟨x.b, 0, none⟩)] wc fun e w' => ∃ g cap, e = .returned (.agg #[.slice (some ⟨g, 0, none⟩) (fullS st).length cap, .int .i64 st.c0.length, .int .i64 st.cells]) ∧ w'.ownsRow wc.heap.size 65 2 (.slice (some ⟨g, 0, none⟩) (fullS st).length cap) (fullS st).length (instrCells (fullS st)) ∧ Below wc.heap.size wc w' := by
  obtain ⟨s5, vd5, vm5, vo5, fw5, fo5, hcp5⟩ := h
  have hsm := hcp5.small
  obtain ⟨ad5, kd5, hvd5⟩ := own_shape hcp5.od
  subst hvd5
  have HJ : Hid (∀ W : World, Below wc.heap.size wc W → Calls Tryz.prog 79 #[.pointer (some ⟨x.d, 0, none⟩), .pointer (some ⟨x.m, 0, none⟩)] W fun e w' => ∃ g cap, e = .returned (.slice (some ⟨g, 0, none⟩) (fullS st).length cap) ∧ w'.ownsRow W.heap.size 65 2 (.slice (some ⟨g, 0, none⟩) (fullS st).length cap) (fullS st).length (instrCells (fullS st)) ∧ Below W.heap.size W w') := by
    intro W hW
    have hcW := hcp5.below hW
    refine (join_any B x.d x.m _ _ st.c0 (st.c1 ++ [(5, 0)]) W hcW.dp hcW.mn hcW.od hcW.om hsm.1 hsm.2.1).mono ?_
    rintro e w' ⟨v, rfl, k1, k2⟩
    rw [full_done] at k1
    have el : st.c0.length + (st.c1 ++ [(5, 0)]).length = (fullS st).length := by unfold fullS; simp <;> omega
    rw [el] at k1
    obtain ⟨g, cap, rfl, _, _⟩ := k1.form full_pos
    exact ⟨g, cap, rfl, k1, k2⟩
  have hb0 : Below wc.heap.size wc (wc.alloc (.cells #[.slice none 0 0, .int .i64 0, .int .i64 0] 73)) := by (repeat (first | with_reducible refine below_drew ?_ | with_reducible refine below_drawn ?_ _ | with_reducible refine below_longer ?_ _ | (with_reducible refine Below.alloc ?_ ?_ _; rotate_left; (first | omega | ((try simp only [World.size_up]) <;> (try simp only [World.size_dr]) <;> (try simp only [World.size_drN]) <;> (try simp only [World.size_up]) <;> (try simp only [World.size_dr]) <;> (try simp only [World.size_up]) <;> omega))))); (with_reducible exact Below.refl _ _)
  have hR := Blk.new wc #[.slice none 0 0, .int .i64 0, .int .i64 0] 73
  have hS : ∀ W : World, Below wc.heap.size wc W → W.cell? ⟨x.b, 2, none⟩ = some (.pointer (some ⟨x.d, 0, none⟩)) ∧ W.cell? ⟨x.b, 3, none⟩ = some (.pointer (some ⟨x.m, 0, none⟩)) ∧ W.cell? ⟨x.b, 7, none⟩ = some (.int .i64 st.cells) ∧ W.cell? ⟨x.d, 0, none⟩ = some (.slice ad5 st.c0.length kd5) := by
    intro W hW
    have h1 := (hcp5.below hW).blk.cell
    have h2 := (hcp5.below hW).dp.cell
    unfold cpArr at h1
    exact ⟨h1 2, h1 3, h1 7, h2 0⟩
  have HS := hide hS
  have HB0 := hide hb0
  have HR := hide hR
  have hlI : (st.c0.length : Int) ≤ 4000 := by have := hsm.1; simp at this; omega
  clear hcp5 hb0 hR hS hsm
  generalize hfl : fullS st = fl at *
  have HFL := hide hfl
  generalize st.c0.length = cl at *
  generalize st.cells = ce at *
  clear hfl
  go_enter Tryz.func52, Tryz.ntmps52
  go_wp2_with fail
  generalize wc.alloc (.cells #[.slice none 0 0, .int .i64 0, .int .i64 0] 73) = W0 at *
  have HS0 := hide (unhide HS W0.drew (below_drew (unhide HB0)))
  have HJ0 := hide (unhide HJ W0.drew (below_drew (unhide HB0)))
  clear HJ
  go_region_held_law (fun w' => w'.cell? ⟨x.b, 2, none⟩ = some (.pointer (some ⟨x.d, 0, none⟩)) ∧ w'.cell? ⟨x.b, 3, none⟩ = some (.pointer (some ⟨x.m, 0, none⟩)) ∧ w'.cell? ⟨x.b, 7, none⟩ = some (.int .i64 ce) ∧ w'.cell? ⟨x.d, 0, none⟩ = some (.slice ad5 cl kd5)) (first | exact unhide HS5 _ _ _ | exact unhide HS4 | exact unhide HS0) ((refine step_call rfl 79 #[.tmp 6, .tmp 10] #[96, 96] rfl Tryz.func79 Tryz.name79 Tryz.body79 #[.pointer (some ⟨x.d, 0, none⟩), .pointer (some ⟨x.m, 0, none⟩)] (by first | rfl | (simp [Act.eval]; done) | (simp [Act.eval, Act.put]; done)) (by exact unhide HJ0) ?_; rintro e w4 ⟨g, cap, rfl, ho4, hb4⟩; have hbw := (below_drew (unhide HB0)).trans (hb4.mono (by have := (unhide HB0).size; exact this)); have HS4 := hide (unhide HS w4 hbw); have HS5 := hide (fun y0 y1 y2 => unhide HS (((w4.setCell ⟨wc.heap.size, 0, none⟩ y0).setCell ⟨wc.heap.size, 1, none⟩ y1).setCell ⟨wc.heap.size, 2, none⟩ y2) (((hbw.setCell (Nat.le_refl _) y0).setCell (Nat.le_refl _) y1).setCell (Nat.le_refl _) y2)); have hr4 := ((unhide HR).below (below_drew (Below.refl _ _)) (unhide HR).lt).below hb4 (unhide HR).lt; have hcr := hr4.cell; have hfr := hr4.free; have hrl := hr4.lt; have HR4 := hide hr4; have HO4 := hide ho4; have HBW := hide hbw; clear ho4 hb4 hbw hr4; refine ⟨_, rfl, ?_⟩))
  all_goals
    go_wp2_with fail
    refine bodyPost_ret (results_row3 (P := Tryz.prog) rfl _ _ wc.heap.size 73 _ (0, 0) _ rfl (triple_set (unhide HR4) rfl) Tryz.underlying73 rfl Tryz.sizeProgram) rfl ?_
    have hn : (Value.slice (some ⟨g, 0, none⟩) fl.length cap).ownBlock ≠ some wc.heap.size := fun e => by have h2 := (ownsRow_lt (unhide HO4) e).2; have h4 := (unhide HR).lt; have h3 : W0.drew.heap.size = W0.heap.size := rfl; rw [h3] at h2; omega
    refine ⟨g, cap, rfl, ?_, (((unhide HBW).setCell (Nat.le_refl _) _).setCell (Nat.le_refl _) _).setCell (Nat.le_refl _) _⟩
    exact ownsRow_base (ownsRow_far (ownsRow_far (ownsRow_far (unhide HO4) hn _) hn _) hn _) (unhide HB0).size

/-- What Compile answers. -/
def CompOut (w : World) (s : ByteArray) (e : Ending) (w' : World) : Prop :=
  (((endS s).err ≠ 0 ∧ e = .returned (.tuple #[.agg #[.slice none 0 0, .int .i64 0, .int .i64 0], .int .i64 (endS s).err, .int .i64 (endS s).place])) ∨
   ((endS s).err = 0 ∧ ∃ v, e = .returned (.tuple #[.agg #[v, .int .i64 (endS s).c0.length, .int .i64 (endS s).cells], .int .i64 0, .int .i64 0]) ∧ w'.ownsRow w.heap.size 65 2 v (fullS (endS s)).length (instrCells (fullS (endS s))))) ∧ Below w.heap.size w w'
set_option maxRecDepth 100000 in
set_option maxHeartbeats 8000000 in
theorem comp_long (s : ByteArray) (w : World) (hs : 2000 < s.size) :
    Calls Tryz.prog 34 #[.string s] w fun e w' => e = .returned (.tuple #[.agg #[.slice none 0 0, .int .i64 0, .int .i64 0], .int .i64 1, .int .i64 0]) ∧ Below w.heap.size w w' := by
  have h' : (2000 : Int) < s.size := by omega
  go_enter Tryz.func34, Tryz.ntmps34
  go_wp2_with fail
  refine bodyPost_ret (results_row_tmp2 (P := Tryz.prog) rfl _ _ w.heap.size 73 _ (0, 0) _ rfl (Blk.new w _ _) Tryz.underlying73 rfl Tryz.sizeProgram) rfl ?_
  refine ⟨rfl, ?_⟩
  exact (Below.refl _ _).alloc (Nat.le_refl _) _

set_option maxRecDepth 100000 in
set_option maxHeartbeats 8000000 in
theorem comp_any (s : ByteArray) (w : World) (hs : s.size ≤ 2000) (hV : VocOk w) (hE : ErrsOk w) :
    Calls Tryz.prog 34 #[.string s] w (CompOut w s) := by
  have h' : (s.size : Int) ≤ 2000 := by omega
  have h12 : decide ((2000 : Int) < (s.size : Int)) = false := by simp; omega
  have hbA : Below w.heap.size w (w.alloc (.cells #[.slice none 0 0, .int .i64 0, .int .i64 0] 73)) := by (repeat (first | with_reducible refine below_drew ?_ | with_reducible refine below_drawn ?_ _ | with_reducible refine below_longer ?_ _ | (with_reducible refine Below.alloc ?_ ?_ _; rotate_left; (first | omega | ((try simp only [World.size_up]) <;> (try simp only [World.size_dr]) <;> (try simp only [World.size_drN]) <;> (try simp only [World.size_up]) <;> (try simp only [World.size_dr]) <;> (try simp only [World.size_up]) <;> omega))))); (with_reducible exact Below.refl _ _)
  have HNEW := hide (newCompiler_any s (w.alloc (.cells #[.slice none 0 0, .int .i64 0, .int .i64 0] 73)) hs)
  have HRB := hide (Blk.new w #[.slice none 0 0, .int .i64 0, .int .i64 0] 73)
  have HBA := hide hbA
  have HV := hide (hV.below hbA)
  have HE := hide (hE.below hbA)
  have h6 : 6 ≤ (w.alloc (.cells #[.slice none 0 0, .int .i64 0, .int .i64 0] 73)).heap.size := (hV.below hbA).2
  have H6 := hide h6
  have hsz : (w.alloc (.cells #[.slice none 0 0, .int .i64 0, .int .i64 0] 73)).heap.size = w.heap.size + 1 := by simp
  have HSZ := hide hsz
  clear hbA hV hE h6 hsz
  go_enter Tryz.func34, Tryz.ntmps34
  go_wp2_with fail
  generalize w.alloc (.cells #[.slice none 0 0, .int .i64 0, .int .i64 0] 73) = W0 at *
  refine (unhide HNEW).mono ?_
  rintro e w1 ⟨x, rfl, h1, hb1⟩
  have HN1 := hide (cnext_any W0.heap.size x (startS s) w1 h1 (start_inv s hs).next)
  have HB1 := hide hb1
  clear h1 hb1 HNEW
  go_wp2_with fail
  refine (unhide HN1).mono ?_
  rintro e w2 ⟨rfl, h2, hb2⟩
  have hrel0 : CompRel W0.heap.size x W0 s (stepS (startS s)) w2 := ⟨0, h2, (stepS_inv (start_inv s hs)).1, Nat.zero_le _, rfl, nm_step (nm_start s), rfl, rfl, (unhide HB1).trans hb2⟩
  have HREL0 := hide hrel0
  clear h2 hb2 HN1 HB1 hrel0
  generalize stepS (startS s) = st0 at *
  go_wp2_with fail
  go_loopw [6] (fun tk wr => ∃ st, tk = .string st.token ∧ CompRel W0.heap.size x W0 s st wr) (fun _ wr => s.size - (YtmeiikjpaepogaaGreatDoor.cellInt wr x.b 1).toNat)
  case atStart => exact ⟨st0, rfl, unhide HREL0⟩
  case round =>
    clear HREL0
    obtain ⟨st, rfl, hrel⟩ := hrel
    have HREL := hide hrel
    obtain ⟨m, h1, hi, hm, h0, hn, hss, hl, hbw⟩ := hrel
    have h3000 : m < 3000 := by have := hi.place; have := hi.next; have := hi.size; omega
    have hrb : Blk wr w.heap.size #[.slice none 0 0, .int .i64 0, .int .i64 0] 73 := (unhide HRB).below hbw (by have := unhide HSZ; omega)
    have HRW := hide hrb
    cases hne : st.token.toList.isEmpty
    · have HT := hide (ctake_any W0.heap.size x st wr h1 m hi h3000 hn h0 (unhide H6) ((unhide HV).low (unhide H6) hbw) ((unhide HE).low (unhide H6) hbw))
      have hnx := (itemS_inv hi).next
      have HNX : Hid (∀ w2, CpE W0.heap.size w2 x (itemS st) → Calls Tryz.prog 48 #[.pointer (some ⟨x.b, 0, none⟩)] w2 fun e w' => e = .returned (.string (stepS (itemS st)).token) ∧ CpE W0.heap.size w' x (stepS (itemS st)) ∧ Below W0.heap.size w2 w') := fun w2 h2 => cnext_any W0.heap.size x (itemS st) w2 h2 hnx
      have HNE := hide hne
      have HBW := hide hbw
      clear h1 hi hm h0 hn hss hl hbw hnx hrb
      go_wp2_with fail
      refine (unhide HT).mono ?_
      rintro e w2 ⟨rfl, k1, k2, k3⟩
      clear HT
      by_cases he : (itemS st).err = 0
      · have HC := hide (k1 he)
        have HEQ := hide he
        have HK := hide k3
        clear k1 k2 k3
        rw [he]
        clear he
        go_wp2_with fail
        refine (unhide HNX w2 (unhide HC)).mono ?_
        rintro e w3 ⟨rfl, k4, k5⟩
        have HK5 := hide (comp_next (unhide HREL) (unhide HNE) (unhide HEQ) k4 ((unhide HK).trans k5))
        clear k4 k5
        go_wp2_with fail
        go_roundw
        case rel => exact ⟨_, rfl, (unhide HK5).1⟩
        case measure => exact (unhide HK5).2
      · obtain ⟨p, hp, hat⟩ := k2 he
        have HEND := hide (comp_fail (unhide HREL) (unhide HNE) he)
        have HP := hide hp
        have HEQ := hide he
        obtain ⟨ar, ad, am, ahx, amp, as0, ac, avo, hatb⟩ := hat
        have hrb2 : Blk w2 w.heap.size #[.slice none 0 0, .int .i64 0, .int .i64 0] 73 := (unhide HRW).below k3 (by have := unhide HSZ; omega)
        have hca := hatb.cell
        have hcr := hrb2.cell
        have hfr := hrb2.free
        have hne2 : x.b ≠ w.heap.size := fun e => by rw [e] at hatb; exact absurd (Cr.bl hatb hrb2) (by decide)
        have HRB2 := hide hrb2
        have HBB := hide ((unhide HBW).trans k3)
        have he' : ((itemS st).err == 0) = false := by simpa using he
        clear k1 k2 k3 hp hrb2 hatb he HNX
        generalize herr : (itemS st).err = er at *
        have HERR := hide herr
        clear herr
        go_wp2_with fail
        go_region_law (fail)
        all_goals
          go_wp2_with fail
          refine bodyPost_ret (results_row_tmp2 (P := Tryz.prog) rfl _ _ w.heap.size 73 _ (0, 0) _ rfl (triple_set (unhide HRB2) rfl) Tryz.underlying73 rfl Tryz.sizeProgram) rfl ?_
          refine ⟨Or.inl ⟨by rw [unhide HEND, unhide HERR]; exact unhide HEQ, ?_⟩, ?_⟩
          · rw [unhide HEND, unhide HP, unhide HERR]
            rfl
          · have hb := (unhide HBA).trans (below_less (unhide HBB) (by have := unhide HSZ; omega))
            exact below_drew (((hb.setCell (Nat.le_refl _) _).setCell (Nat.le_refl _) _).setCell (Nat.le_refl _) _)
    · by_cases ho : 0 ≤ st.start ∨ st.opens ≠ []
      · have HO := hide (comp_open (unhide HREL) hne ho)
        obtain ⟨s0, vd, vm, vo, fw, fo, hcp⟩ := h1
        obtain ⟨ao, co, hvo⟩ := own_shape hcp.oo
        subst hvo
        have hL := hcp.openLen
        have hl0 : 0 < (fw ++ fo).length := by
          rcases ho with e | e
          · obtain ⟨f, e, _⟩ := hcp.things.word e; rw [e]; simp
          · have := List.length_pos_iff.2 e
            have h1 := hcp.things.len
            simp; omega
        have hc := hcp.blk.cell
        unfold cpArr at hc
        have hcr := hrb.cell
        have hfr := hrb.free
        have hne2 : x.b ≠ w.heap.size := fun e => by have hb := hcp.blk; rw [e] at hb; exact absurd (Cr.bl hb hrb) (by decide)
        have HBB := hide hbw
        clear hcp hi hm h0 hn hss hl hbw hrb ho
        generalize (fw ++ fo).length = L at *
        have hlI : (0 : Int) < L := by omega
        go_wp2_with fail
        go_region_law (fail)
        all_goals
          go_wp2_with fail
          refine bodyPost_ret (results_row_tmp2 (P := Tryz.prog) rfl _ _ w.heap.size 73 _ (0, 0) _ rfl (triple_set (unhide HRW) rfl) Tryz.underlying73 rfl Tryz.sizeProgram) rfl ?_
          obtain ⟨e1, e2⟩ := unhide HO
          refine ⟨Or.inl ⟨by rw [e1]; decide, ?_⟩, ?_⟩
          · rw [e1, e2]
            rfl
          · have hb := (unhide HBA).trans (below_less (unhide HBB) (by have := unhide HSZ; omega))
            exact below_drew (((hb.setCell (Nat.le_refl _) _).setCell (Nat.le_refl _) _).setCell (Nat.le_refl _) _)
      · obtain ⟨hend, hst, hop⟩ := comp_done (unhide HREL) hne ho
        have HEND := hide hend
        have HH := hide h1
        have hlens := hi.lens
        unfold lens at hlens
        have h0' : st.err = 0 := h0
        have HE0 := hide h0'
        obtain ⟨fw, fo, hF⟩ := h1.f
        have e0 : hereX x st = x.m := by unfold hereX; rw [if_neg (by omega)]
        have eh : hereS st = st.c1.length := by unfold hereS; rw [if_neg (by omega)]
        have ep : putS st 5 0 = { st with c1 := st.c1 ++ [(5, 0)] } := by unfold putS; rw [if_neg (by omega)]
        have HADD := hide (addW W0.heap.size x st wr fw fo hF 5 0 (by rw [eh]; omega))
        rw [e0] at HADD
        obtain ⟨s0, vd, vm, ao, co, hr⟩ := h1.bare hst hop
        have hc := hr.blk.cell
        unfold crArr at hc
        have hxl := hr.blk.lt
        have hxa : x.b < wr.heap.size + 1 := by omega
        have hxb : x.b ≤ wr.heap.size := by omega
        have hxc : x.b ≤ wr.heap.size + 1 := by omega
        have hxd : x.b < wr.heap.size + 1 + 1 := by omega
        have hwl := hrb.lt
        have HBB := hide hbw
        have HST := hide (And.intro hst hop)
        have HEP := hide ep
        clear h1 hi hm h0 h0' hn hss hl hbw hrb ho hF hr hend e0 eh ep hst hop
        go_wp2_with fail
        go_cut [] from 8 to 67 (fun wc => CpE W0.heap.size wc x { st with c1 := st.c1 ++ [(5, 0)] } ∧ Below W0.heap.size wr wc)
        case first =>
          go_region_law (first
            | (refine step_call rfl 51 #[.const (.int .i64 5)] #[3] rfl Tryz.func51 Tryz.name51 Tryz.body51 #[.int .i64 5] (by first | (simp [Act.eval]; done) | (simp [Act.eval, Act.put]; done) | rfl) (plainI_any 5 _) ?_; rintro e w1 ⟨rfl, rfl⟩; refine ⟨_, rfl, ?_⟩)
            | (refine step_call rfl 50 #[.tmp 45, .tmp 47] #[96, 33] rfl Tryz.func50 Tryz.name50 Tryz.body50 #[.pointer (some ⟨x.m, 0, none⟩), .slice (some ⟨wr.heap.size + 1, 0, none⟩) 1 1] (by first | (simp [Act.eval]; done) | (simp [Act.eval, Act.put]; done) | rfl) (unhide HADD _ (wr.heap.size + 1) (by (repeat (first | with_reducible refine below_drew ?_ | with_reducible refine below_drawn ?_ _ | with_reducible refine below_longer ?_ _ | (with_reducible refine Below.alloc ?_ ?_ _; rotate_left; (first | omega | ((try simp only [World.size_up]) <;> (try simp only [World.size_dr]) <;> (try simp only [World.size_drN]) <;> (try simp only [World.size_up]) <;> (try simp only [World.size_dr]) <;> (try simp only [World.size_up]) <;> omega))))); (with_reducible exact Below.refl _ _)) (by (repeat (first | with_reducible refine Blk.drew ?_ | with_reducible refine Blk.drewN ?_ _ | (with_reducible refine blk_newAt _ _ ?_; (first | omega | ((try simp only [World.size_up]) <;> (try simp only [World.size_dr]) <;> (try simp only [World.size_drN]) <;> (try simp only [World.size_up]) <;> (try simp only [World.size_dr]) <;> (try simp only [World.size_up]) <;> omega))) | with_reducible refine Blk.alloc ?_ _)); (first | done | with_reducible assumption))) ?_; rintro e w1 ⟨rfl, h2, h1⟩; refine ⟨_, rfl, ?_⟩; have H1 := hide h1; clear h1 h2))
          all_goals
            go_wp2_with fail
            go_meet
            obtain ⟨k1, _, k2, k3⟩ := unhide H1
            rw [unhide HEP] at k1
            exact ⟨k1.e, k3⟩
        case rest =>
          obtain ⟨h5, hb5⟩ := hcut
          have HPR := hide (cprogram_any W0.heap.size x st wc h5)
          have hrb5 : Blk wc w.heap.size #[.slice none 0 0, .int .i64 0, .int .i64 0] 73 := (unhide HRW).below hb5 (by have := unhide HSZ; omega)
          have HRB5 := hide hrb5
          have HB5 := hide ((unhide HBB).trans hb5)
          have hrl5 := hrb5.lt
          clear h5 hrb5 hb5 hc hxa hxb hxc hxd HADD
          generalize hfl : fullS st = fl at *
          have HFL := hide hfl
          clear hfl
          generalize hcl : st.c0.length = cl at *
          have HCL := hide hcl
          clear hcl
          generalize hce : st.cells = ce at *
          have HCE := hide hce
          clear hce
          go_wp2_with fail
          refine (unhide HPR).mono ?_
          rintro e w6 ⟨gj, capj, rfl, h7, h8⟩
          have hrb7 := (unhide HRB5).below h8 hrl5
          have hcr7 := hrb7.cell
          have hfr7 := hrb7.free
          have hrl7 := hrb7.lt
          have HRB7 := hide hrb7
          have H7 := hide (And.intro h7 h8)
          clear h7 h8 hrb7 HPR
          go_wp2_with fail
          refine bodyPost_ret (results_row_tmp2 (P := Tryz.prog) rfl _ _ w.heap.size 73 _ (0, 0) _ rfl (triple_set (unhide HRB7) rfl) Tryz.underlying73 rfl Tryz.sizeProgram) rfl ?_
          obtain ⟨h7, h8⟩ := unhide H7
          have hsz := unhide HSZ
          have hbW := (unhide HBA).trans (below_less (unhide HB5) (by omega))
          have hb9 : Below w.heap.size w w6 := hbW.trans (below_less h8 hbW.size)
          refine ⟨Or.inr ⟨by rw [unhide HEND]; exact unhide HE0, .slice (some ⟨gj, 0, none⟩) fl.length capj, ?_, ?_⟩, ?_⟩
          · rw [unhide HEND, unhide HCL, unhide HCE]
            rfl
          · rw [unhide HEND, unhide HFL]
            have := ownsRow_base h7 hbW.size
            exact ownsRow_far (ownsRow_far (ownsRow_far this (fun e => row_not_blk (unhide HRB7) h7 (by decide) e) _) (fun e => row_not_blk (unhide HRB7) h7 (by decide) e) _) (fun e => row_not_blk (unhide HRB7) h7 (by decide) e) _
          · exact ((hb9.setCell (Nat.le_refl _) _).setCell (Nat.le_refl _) _).setCell (Nat.le_refl _) _

end Go.Proofs.YtmeiikjpaepogaaGreatDoor

/- The program's machine in memory. -/
namespace Go.Proofs.YtmeiikjpaepogaaGreatDoor
open Go Go.RowKit

def byteCells (s : ByteArray) : List Value := s.toList.map (fun c => Value.int .u8 c.toNat)
/-- The program's machine: the reference's data, and where its parts lie. -/
def pmArr (tb : Nat) (vl : Value) (m : MS) (st : Int) (vS vA vC vE vO : Value) : Array Value :=
  #[.pointer (some ⟨tb, 0, none⟩), .int .i64 m.ls, .int .i64 m.la, .int .i64 m.lc, .int .i64 m.lo, vl, .int .i64 m.pc, .int .i64 st, .bool m.halted, vS, vA, vC, vE, vO]
def pmRows (m : MS) : List RowSpec :=
  [⟨2, 1, m.stack.length, intCells m.stack⟩, ⟨2, 1, m.side.length, intCells m.side⟩, ⟨3, 1, m.calls.length, intCells m.calls⟩, ⟨2, 1, m.cells.length, intCells m.cells⟩, ⟨5, 1, m.out.size, byteCells m.out⟩]
/-- What holds of the data. -/
structure MOk (m : MS) : Prop where
  lims : (1 ≤ m.ls ∧ m.ls ≤ 1000) ∧ (1 ≤ m.la ∧ m.la ≤ 1000) ∧ (1 ≤ m.lc ∧ m.lc ≤ 1000) ∧ (1 ≤ m.lo ∧ m.lo ≤ 1000)
  stack : (m.stack.length : Int) ≤ m.ls
  side : (m.side.length : Int) ≤ m.la
  calls : (m.calls.length : Int) ≤ m.lc
  cells : m.cells.length ≤ 1000
  out : (m.out.size : Int) ≤ m.lo
  ints : (∀ x ∈ m.stack, inI x) ∧ (∀ x ∈ m.side, inI x) ∧ (∀ x ∈ m.cells, inI x)
structure Pm (B : Nat) (w : World) (b tb : Nat) (vl : Value) (m : MS) (st : Int) (vS vA vC vE vO : Value) : Prop where
  blk : Blk w b (pmArr tb vl m st vS vA vC vE vO) 122
  base : B ≤ b
  owned : Owned B w [b] [vS, vA, vC, vE, vO] (pmRows m)
def PmE (B : Nat) (w : World) (b tb : Nat) (vl : Value) (m : MS) (st : Int) : Prop := ∃ vS vA vC vE vO, Pm B w b tb vl m st vS vA vC vE vO

section
variable {B : Nat} {w w' w1 : World} {b tb : Nat} {vl : Value} {m : MS} {st : Int} {vS vA vC vE vO : Value}
theorem Pm.oS (h : Pm B w b tb vl m st vS vA vC vE vO) : w.ownsRow B 2 1 vS m.stack.length (intCells m.stack) := h.owned.own 0 vS _ rfl rfl
theorem Pm.oA (h : Pm B w b tb vl m st vS vA vC vE vO) : w.ownsRow B 2 1 vA m.side.length (intCells m.side) := h.owned.own 1 vA _ rfl rfl
theorem Pm.oC (h : Pm B w b tb vl m st vS vA vC vE vO) : w.ownsRow B 3 1 vC m.calls.length (intCells m.calls) := h.owned.own 2 vC _ rfl rfl
theorem Pm.oE (h : Pm B w b tb vl m st vS vA vC vE vO) : w.ownsRow B 2 1 vE m.cells.length (intCells m.cells) := h.owned.own 3 vE _ rfl rfl
theorem Pm.oO (h : Pm B w b tb vl m st vS vA vC vE vO) : w.ownsRow B 5 1 vO m.out.size (byteCells m.out) := h.owned.own 4 vO _ rfl rfl
theorem Pm.size (h : Pm B w b tb vl m st vS vA vC vE vO) : B ≤ w.heap.size := by have := h.base; have := h.blk.lt; omega
theorem Pm.off (h : Pm B w b tb vl m st vS vA vC vE vO) (i : Nat) (v : Value) (hv : [vS, vA, vC, vE, vO][i]? = some v) : some b ≠ v.ownBlock := fun e => h.owned.off i v b hv (by simp) e.symm
theorem Pm.below (h : Pm B w b tb vl m st vS vA vC vE vO) (hb : Below w.heap.size w w') : Pm B w' b tb vl m st vS vA vC vE vO := ⟨h.blk.below hb h.blk.lt, h.base, h.owned.below_all hb⟩
theorem PmE.below (h : PmE B w b tb vl m st) (hb : Below w.heap.size w w') : PmE B w' b tb vl m st := by
  obtain ⟨_, _, _, _, _, h⟩ := h
  exact ⟨_, _, _, _, _, h.below hb⟩
theorem PmE.size (h : PmE B w b tb vl m st) : B ≤ w.heap.size := by
  obtain ⟨_, _, _, _, _, h⟩ := h
  exact h.size
theorem PmE.lt (h : PmE B w b tb vl m st) : b < w.heap.size := by
  obtain ⟨_, _, _, _, _, h⟩ := h
  exact h.blk.lt
/-- Boxes of what an operator took, and of an instruction, do not turn. -/
def KeepB (w w' : World) : Prop := ∀ (k : Nat) (cs : Array Value) (T : TypeId), Blk w k cs T → (T = 171 ∨ T = 65) → Blk w' k cs T
theorem KeepB.refl (w : World) : KeepB w w := fun _ _ _ h _ => h
theorem KeepB.trans {a b c : World} (h : KeepB a b) (k : KeepB b c) : KeepB a c := fun i cs T hb ht => k i cs T (h i cs T hb ht) ht
theorem KeepB.ofBelow {w w' : World} (h : Below w.heap.size w w') : KeepB w w' := fun _ _ _ hb _ => hb.below h hb.lt
theorem blk_type {w : World} {k : Nat} {cs cs' : Array Value} {T T' : TypeId} (h : Blk w k cs T) (h' : Blk w k cs' T') : T = T' := by
  unfold Blk at h h'
  rw [h] at h'
  simp at h'
  exact h'.2
theorem rows_type {m : MS} {i : Nat} {s : RowSpec} (h : (pmRows m)[i]? = some s) : s.e = 2 ∨ s.e = 3 ∨ s.e = 5 := by
  match i, h with
  | 0, h => simp [pmRows] at h; subst h; exact Or.inl rfl
  | 1, h => simp [pmRows] at h; subst h; exact Or.inl rfl
  | 2, h => simp [pmRows] at h; subst h; exact Or.inr (Or.inl rfl)
  | 3, h => simp [pmRows] at h; subst h; exact Or.inl rfl
  | 4, h => simp [pmRows] at h; subst h; exact Or.inr (Or.inr rfl)
  | i + 5, h => simp [pmRows] at h
theorem Pm.keeps (h : Pm B w b tb vl m st vS vA vC vE vO) {F : Nat → Prop} (hs : Still w w' F) (hF : ∀ k, F k → k = b ∨ ∃ (i : Nat) (v : Value), [vS, vA, vC, vE, vO][i]? = some v ∧ v.ownBlock = some k) : KeepB w w' := by
  intro k cs T hb ht
  refine hb.still hs (fun e => ?_)
  rcases hF k e with rfl | ⟨i, v, hv, hk⟩
  · have := blk_type h.blk hb
    subst this
    rcases ht with e | e <;> exact absurd e (by decide)
  · have hl := h.owned.len
    have hi : i < (pmRows m).length := by rw [← hl]; exact (List.getElem?_eq_some_iff.1 hv).1
    have hr := rows_type (List.getElem?_eq_getElem hi)
    refine row_not_blk hb (h.owned.own i v _ hv (List.getElem?_eq_getElem hi)) (fun e => ?_) hk
    rcases ht with e1 | e1 <;> rcases hr with e2 | e2 | e2 <;> rw [e1, e2] at e <;> exact absurd e (by decide)
/-- A plain field is written. -/
theorem Pm.field (h : Pm B w b tb vl m st vS vA vC vE vO) (c : Nat) (u : Value) (m' : MS) (st' : Int) (ha : (pmArr tb vl m st vS vA vC vE vO).setIfInBounds c u = pmArr tb vl m' st' vS vA vC vE vO) (hr : pmRows m' = pmRows m) :
    Pm B (w.setCell ⟨b, c, none⟩ u) b tb vl m' st' vS vA vC vE vO ∧ KeepB w (w.setCell ⟨b, c, none⟩ u) ∧ Below B w (w.setCell ⟨b, c, none⟩ u) := by
  refine ⟨⟨?_, h.base, ?_⟩, h.keeps (F := fun k => k = b) (Still.set (F := fun k => k = b) (Still.refl w _) (Or.inl rfl) _ _) (fun k e => Or.inl e), (Below.refl B w).setCell h.base _⟩
  · rw [← ha]; exact h.blk.set c u
  · rw [hr]; exact h.owned.set (by simp) c u
/-- One of the lists has grown, or was cut, or is another. -/
theorem Pm.grow (h : Pm B w b tb vl m st vS vA vC vE vO) (i c : Nat) (v v' : Value) (s' : RowSpec) (m' : MS) (uS uA uC uE uO : Value)
    (hv : [vS, vA, vC, vE, vO][i]? = some v) (hw1 : w.grownBy w1 v.ownBlock) (hown : w1.ownsRow B s'.e s'.size v' s'.n s'.xs) (hat : v'.ownBlock = v.ownBlock ∨ ∃ g, v'.ownBlock = some g ∧ w.heap.size ≤ g)
    (ha : (pmArr tb vl m st vS vA vC vE vO).setIfInBounds c v' = pmArr tb vl m' st uS uA uC uE uO) (hvs : [vS, vA, vC, vE, vO].set i v' = [uS, uA, uC, uE, uO]) (hr : (pmRows m).set i s' = pmRows m') :
    Pm B (w1.setCell ⟨b, c, none⟩ v') b tb vl m' st uS uA uC uE uO ∧ KeepB w (w1.setCell ⟨b, c, none⟩ v') ∧ Below B w (w1.setCell ⟨b, c, none⟩ v') := by
  have hlt := h.blk.lt
  have hst : Still w (w1.setCell ⟨b, c, none⟩ v') (fun k => k = b ∨ v.ownBlock = some k) := Still.set (F := fun k => k = b ∨ v.ownBlock = some k) (Still.grown (F := fun k => k = b ∨ v.ownBlock = some k) (Still.refl w _) hw1 (fun k hk => Or.inl (Or.inr hk))) (Or.inl (Or.inl rfl)) _ _
  refine ⟨⟨?_, h.base, ?_⟩, h.keeps hst (fun k e => by rcases e with e | e; exact Or.inl e; exact Or.inr ⟨i, v, hv, e⟩), ?_⟩
  · rw [← ha]; exact (h.blk.grown hw1 (h.off i v hv)).set c v'
  · rw [← hvs, ← hr]; exact (h.owned.grow i v v' s' hv (by simp; exact hlt) hw1 hown hat).set (b := b) (by simp) c v'
  · refine ((Below.refl B w).grown hw1 h.size ?_).setCell h.base _
    intro k hk
    have hs := h.owned.len
    have hi : i < (pmRows m).length := by rw [← hs]; exact (List.getElem?_eq_some_iff.1 hv).1
    exact (ownsRow_lt (h.owned.own i v _ hv (List.getElem?_eq_getElem hi)) hk).2
end

end Go.Proofs.YtmeiikjpaepogaaGreatDoor

