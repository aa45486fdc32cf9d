/- The program's compiler: Compile. -/
import Derived.Test.YtbcjfiaacenhgaaGreatDoorG42
import Derived.Test.YtbcjfiaacenhgaaGreatDoorG28
namespace Go.Proofs.YtbcjfiaacenhgaaGreatDoor
open Go Go.RowKit

theorem Tryz.sizeProgram : (Tryz.prog.info? 77).map (fun i => i.size) = some 2 := by kernel_rfl
theorem Tryz.name49 : (Tryz.f49.name == "runtime.NumGoroutine") = false := by kernel_rfl
theorem Tryz.body49 : Tryz.f49.body.isNone = false := by kernel_rfl
theorem results_row_tmp2 {P : Program} {fn : Func} {p u v : Tmp} {ty : TypeId} (h : fn.results = #[.cell p ty, .tmp u, .tmp v]) (tmps : Array Value) (w : World) (g : Nat) (t : TypeId) (cs : Array Value) (fr : Nat × Nat) (d : TypeDesc)
    (hp : tmps.getD p undef = .pointer (some ⟨g, 0, none⟩)) (hg : w.heap[g]? = some (.cells cs t fr))
    (hu : P.underlying ty = some d) (hd : (match d with | .struct _ | .array _ _ => true | _ => false) = true) (hi : (P.info? ty).map (·.size) = some cs.size) :
    (results fn tmps).run P w = .ok (.tuple #[.agg cs, tmps.getD u undef, tmps.getD v undef]) w := by
  have hp' : tmps[p]?.getD undef = .pointer (some ⟨g, 0, none⟩) := by simpa using hp
  simp only [results, h]
  simp [hp', asAddr, run_loadVar_row w g t ty cs fr d hg hu hd hi]
theorem two_set {w : World} {b : Nat} {cs : Array Value} {T : TypeId} {x0 x1 y0 y1 : Value} (h : Blk w b cs T) (hcs : cs = #[x0, x1]) :
    Blk ((w.setCell ⟨b, 0, none⟩ y0).setCell ⟨b, 1, none⟩ y1) b #[y0, y1] T := by
  subst hcs
  have h5 := (h.set 0 y0).set 1 y1
  simpa only [List.setIfInBounds_toArray, List.set_cons_succ, List.set_cons_zero] using h5

theorem AtIs.int {w : World} {x : CX} {p : Nat} (h : AtIs w x p) : YtbcjfiaacenhgaaGreatDoor.cellInt w x.b 1 = p := by
  obtain ⟨r, d, m, hx, mp, s0, c, vo, h⟩ := h
  have := h.cell 1
  simp at this
  simp [YtbcjfiaacenhgaaGreatDoor.cellInt, this, intOf]

/-- The loop's relation. -/
def CompRel (B : Nat) (x : CX) (w : World) (s : ByteArray) (st : RS) (wr : World) : Prop :=
  ∃ m : Nat, CpE B wr x st ∧ Inv st m ∧ m ≤ st.place0 ∧ st.err = 0 ∧ NmOk st ∧ st.s = s ∧ loopS (fuelS st) st = finS s ∧ Below B w wr

theorem comp_next {B : Nat} {x : CX} {w wr w3 : World} {s : ByteArray} {st : RS} (h : CompRel B x w s st wr) (hne : st.token.toList.isEmpty = false) (he : (itemS st).err = 0) (h3 : CpE B w3 x (stepS (itemS st))) (hb : Below B wr w3) :
    CompRel B x w s (stepS (itemS st)) w3 ∧ s.size - (YtbcjfiaacenhgaaGreatDoor.cellInt w3 x.b 1).toNat < s.size - (YtbcjfiaacenhgaaGreatDoor.cellInt wr x.b 1).toNat := by
  obtain ⟨m, h1, hi, hm, h0, hn, hss, hl, hbw⟩ := h
  obtain ⟨k1, k2, k3, k4⟩ := round_inv hi hm hne
  refine ⟨⟨m + 1, h3, k1, k2, he, nm_step (nm_item hi hn), by rw [k4, hss], by rw [← loop_round hi hm hne h0 he]; exact hl, hbw.trans hb⟩, ?_⟩
  rw [h3.atIs.int, h1.atIs.int]
  have h5 := k1.place
  have h6 := k1.next
  rw [k4, hss] at h6
  simp only [Int.toNat_natCast]
  omega
theorem comp_fail {B : Nat} {x : CX} {w wr : World} {s : ByteArray} {st : RS} (h : CompRel B x w s st wr) (hne : st.token.toList.isEmpty = false) (he : (itemS st).err ≠ 0) : endS s = itemS st := by
  obtain ⟨m, h1, hi, hm, h0, hn, hss, hl, hbw⟩ := h
  have e1 : finS s = itemS st := by rw [← hl, loop_end hne h0 he]
  unfold endS
  rw [e1, if_neg (fun e => he e.1)]
theorem comp_open {B : Nat} {x : CX} {w wr : World} {s : ByteArray} {st : RS} (h : CompRel B x w s st wr) (hne : st.token.toList.isEmpty = true) (ho : 0 ≤ st.start ∨ st.opens ≠ []) : (endS s).err = 4 ∧ (endS s).place = (st.place0 : Int) := by
  obtain ⟨m, h1, hi, hm, h0, hn, hss, hl, hbw⟩ := h
  have e1 : finS s = st := by rw [← hl]; exact loop_stop _ (Or.inl hne)
  unfold endS
  rw [e1, if_pos ⟨h0, ho⟩]
  unfold failS
  rw [if_pos h0]
  exact ⟨rfl, rfl⟩
theorem comp_done {B : Nat} {x : CX} {w wr : World} {s : ByteArray} {st : RS} (h : CompRel B x w s st wr) (hne : st.token.toList.isEmpty = true) (ho : ¬ (0 ≤ st.start ∨ st.opens ≠ [])) : endS s = st ∧ st.start < 0 ∧ st.opens = [] := by
  obtain ⟨m, h1, hi, hm, h0, hn, hss, hl, hbw⟩ := h
  have e1 : finS s = st := by rw [← hl]; exact loop_stop _ (Or.inl hne)
  unfold endS
  rw [e1, if_neg (fun e => ho e.2)]
  refine ⟨rfl, by omega, ?_⟩
  rcases Classical.em (st.opens = []) with e | e
  · exact e
  · exact absurd (Or.inr e) ho

/-- What Compile answers. -/
def CompOut (w : World) (s : ByteArray) (e : Ending) (w' : World) : Prop :=
  (((endS s).err ≠ 0 ∧ e = .returned (.tuple #[.agg #[.slice none 0 0, .int .i64 0], .int .i64 (endS s).err, .int .i64 (endS s).place])) ∨
   ((endS s).err = 0 ∧ ∃ v, e = .returned (.tuple #[.agg #[v, .int .i64 (endS s).c0.length], .int .i64 0, .int .i64 0]) ∧ w'.ownsRow w.heap.size 34 2 v (fullS (endS s)).length (instrCells (fullS (endS s))))) ∧ Below w.heap.size w w'
theorem full_pos {st : RS} : 0 < (fullS st).length := by
  unfold fullS
  rw [List.length_append]
  exact Nat.succ_pos _
theorem full_done {st : RS} : st.c0 ++ (st.c1 ++ [(5, 0)]).map (shiftS st.c0.length) = fullS st := by
  unfold fullS
  simp [shiftS]

set_option maxRecDepth 100000 in
set_option maxHeartbeats 8000000 in
theorem comp_long (s : ByteArray) (w : World) (hs : 2000 < s.size) :
    Calls Tryz.prog 26 #[.string s] w fun e w' => e = .returned (.tuple #[.agg #[.slice none 0 0, .int .i64 0], .int .i64 1, .int .i64 0]) ∧ Below w.heap.size w w' := by
  have h' : (2000 : Int) < s.size := by omega
  go_enter Tryz.func26, Tryz.ntmps26
  go_wp2_with fail
  refine bodyPost_ret (results_row_tmp2 (P := Tryz.prog) rfl _ _ w.heap.size 77 _ (0, 0) _ rfl (Blk.new w _ _) Tryz.underlying77 rfl Tryz.sizeProgram) rfl ?_
  refine ⟨rfl, ?_⟩
  exact (Below.refl _ _).alloc (Nat.le_refl _) _

set_option maxRecDepth 100000 in
set_option maxHeartbeats 8000000 in
theorem comp_any (s : ByteArray) (w : World) (hs : s.size ≤ 2000) (hV : VocOk w) (hE : ErrsOk w) :
    Calls Tryz.prog 26 #[.string s] w (CompOut w s) := by
  have h' : (s.size : Int) ≤ 2000 := by omega
  have h12 : decide ((2000 : Int) < (s.size : Int)) = false := by simp; omega
  have hbA : Below w.heap.size w (w.alloc (.cells #[.slice none 0 0, .int .i64 0] 77)) := by (repeat (first | with_reducible refine below_drew ?_ | with_reducible refine below_drawn ?_ _ | with_reducible refine below_longer ?_ _ | (with_reducible refine Below.alloc ?_ ?_ _; rotate_left; (first | omega | ((try simp only [World.size_up]) <;> (try simp only [World.size_dr]) <;> (try simp only [World.size_drN]) <;> (try simp only [World.size_up]) <;> (try simp only [World.size_dr]) <;> (try simp only [World.size_up]) <;> omega))))); (with_reducible exact Below.refl _ _)
  have HNEW := hide (newCompiler_any s (w.alloc (.cells #[.slice none 0 0, .int .i64 0] 77)) hs)
  have HRB := hide (Blk.new w #[.slice none 0 0, .int .i64 0] 77)
  have HBA := hide hbA
  have HV := hide (hV.below hbA)
  have HE := hide (hE.below hbA)
  have h6 : 6 ≤ (w.alloc (.cells #[.slice none 0 0, .int .i64 0] 77)).heap.size := (hV.below hbA).2
  have H6 := hide h6
  have hsz : (w.alloc (.cells #[.slice none 0 0, .int .i64 0] 77)).heap.size = w.heap.size + 1 := by simp
  have HSZ := hide hsz
  clear hbA hV hE h6 hsz
  go_enter Tryz.func26, Tryz.ntmps26
  go_wp2_with fail
  generalize w.alloc (.cells #[.slice none 0 0, .int .i64 0] 77) = W0 at *
  refine (unhide HNEW).mono ?_
  rintro e w1 ⟨x, rfl, h1, hb1⟩
  have HN1 := hide (cnext_any W0.heap.size x (startS s) w1 h1 (start_inv s hs).next)
  have HB1 := hide hb1
  clear h1 hb1 HNEW
  go_wp2_with fail
  refine (unhide HN1).mono ?_
  rintro e w2 ⟨rfl, h2, hb2⟩
  have hrel0 : CompRel W0.heap.size x W0 s (stepS (startS s)) w2 := ⟨0, h2, (stepS_inv (start_inv s hs)).1, Nat.zero_le _, rfl, nm_step (nm_start s), rfl, rfl, (unhide HB1).trans hb2⟩
  have HREL0 := hide hrel0
  clear h2 hb2 HN1 HB1 hrel0
  generalize stepS (startS s) = st0 at *
  go_wp2_with fail
  go_loopw [6] (fun tk wr => ∃ st, tk = .string st.token ∧ CompRel W0.heap.size x W0 s st wr) (fun _ wr => s.size - (YtbcjfiaacenhgaaGreatDoor.cellInt wr x.b 1).toNat)
  case atStart => exact ⟨st0, rfl, unhide HREL0⟩
  case round =>
    clear HREL0
    obtain ⟨st, rfl, hrel⟩ := hrel
    have HREL := hide hrel
    obtain ⟨m, h1, hi, hm, h0, hn, hss, hl, hbw⟩ := hrel
    have h3000 : m < 3000 := by have := hi.place; have := hi.next; have := hi.size; omega
    have hrb : Blk wr w.heap.size #[.slice none 0 0, .int .i64 0] 77 := (unhide HRB).below hbw (by have := unhide HSZ; omega)
    have HRW := hide hrb
    cases hne : st.token.toList.isEmpty
    · have HT := hide (ctake_any W0.heap.size x st wr h1 m hi h3000 hn h0 (unhide H6) ((unhide HV).low (unhide H6) hbw) ((unhide HE).low (unhide H6) hbw))
      have hnx := (itemS_inv hi).next
      have HNX : Hid (∀ w2, CpE W0.heap.size w2 x (itemS st) → Calls Tryz.prog 45 #[.pointer (some ⟨x.b, 0, none⟩)] w2 fun e w' => e = .returned (.string (stepS (itemS st)).token) ∧ CpE W0.heap.size w' x (stepS (itemS st)) ∧ Below W0.heap.size w2 w') := fun w2 h2 => cnext_any W0.heap.size x (itemS st) w2 h2 hnx
      have HNE := hide hne
      have HBW := hide hbw
      clear h1 hi hm h0 hn hss hl hbw hnx hrb
      go_wp2_with fail
      refine (unhide HT).mono ?_
      rintro e w2 ⟨rfl, k1, k2, k3⟩
      clear HT
      by_cases he : (itemS st).err = 0
      · have HC := hide (k1 he)
        have HEQ := hide he
        have HK := hide k3
        clear k1 k2 k3
        rw [he]
        clear he
        go_wp2_with fail
        refine (unhide HNX w2 (unhide HC)).mono ?_
        rintro e w3 ⟨rfl, k4, k5⟩
        have HK5 := hide (comp_next (unhide HREL) (unhide HNE) (unhide HEQ) k4 ((unhide HK).trans k5))
        clear k4 k5
        go_wp2_with fail
        go_roundw
        case rel => exact ⟨_, rfl, (unhide HK5).1⟩
        case measure => exact (unhide HK5).2
      · obtain ⟨p, hp, hat⟩ := k2 he
        have HEND := hide (comp_fail (unhide HREL) (unhide HNE) he)
        have HP := hide hp
        have HEQ := hide he
        obtain ⟨ar, ad, am, ahx, amp, as0, ac, avo, hatb⟩ := hat
        have hrb2 : Blk w2 w.heap.size #[.slice none 0 0, .int .i64 0] 77 := (unhide HRW).below k3 (by have := unhide HSZ; omega)
        have hca := hatb.cell
        have hcr := hrb2.cell
        have hfr := hrb2.free
        have hne2 : x.b ≠ w.heap.size := fun e => by rw [e] at hatb; exact absurd (Cr.bl hatb hrb2) (by decide)
        have HRB2 := hide hrb2
        have HBB := hide ((unhide HBW).trans k3)
        have he' : ((itemS st).err == 0) = false := by simpa using he
        clear k1 k2 k3 hp hrb2 hatb he HNX
        generalize herr : (itemS st).err = er at *
        have HERR := hide herr
        clear herr
        go_wp2_with fail
        go_region_law (fail)
        all_goals
          go_wp2_with fail
          refine bodyPost_ret (results_row_tmp2 (P := Tryz.prog) rfl _ _ w.heap.size 77 _ (0, 0) _ rfl (two_set (unhide HRB2) rfl) Tryz.underlying77 rfl Tryz.sizeProgram) rfl ?_
          refine ⟨Or.inl ⟨by rw [unhide HEND, unhide HERR]; exact unhide HEQ, ?_⟩, ?_⟩
          · rw [unhide HEND, unhide HP, unhide HERR]
            rfl
          · have hb := (unhide HBA).trans (below_less (unhide HBB) (by have := unhide HSZ; omega))
            exact below_drew ((hb.setCell (Nat.le_refl _) _).setCell (Nat.le_refl _) _)
    · by_cases ho : 0 ≤ st.start ∨ st.opens ≠ []
      · have HO := hide (comp_open (unhide HREL) hne ho)
        obtain ⟨s0, vd, vm, vo, fw, fo, hcp⟩ := h1
        obtain ⟨ao, co, hvo⟩ := own_shape hcp.oo
        subst hvo
        have hL := hcp.openLen
        have hl0 : 0 < (fw ++ fo).length := by
          rcases ho with e | e
          · obtain ⟨f, e, _⟩ := hcp.things.word e; rw [e]; simp
          · have := List.length_pos_iff.2 e
            have h1 := hcp.things.len
            simp; omega
        have hc := hcp.blk.cell
        unfold cpArr at hc
        have hcr := hrb.cell
        have hfr := hrb.free
        have hne2 : x.b ≠ w.heap.size := fun e => by have hb := hcp.blk; rw [e] at hb; exact absurd (Cr.bl hb hrb) (by decide)
        have HBB := hide hbw
        clear hcp hi hm h0 hn hss hl hbw hrb ho
        generalize (fw ++ fo).length = L at *
        have hlI : (0 : Int) < L := by omega
        go_wp2_with fail
        go_region_law (fail)
        all_goals
          go_wp2_with fail
          refine bodyPost_ret (results_row_tmp2 (P := Tryz.prog) rfl _ _ w.heap.size 77 _ (0, 0) _ rfl (two_set (unhide HRW) rfl) Tryz.underlying77 rfl Tryz.sizeProgram) rfl ?_
          obtain ⟨e1, e2⟩ := unhide HO
          refine ⟨Or.inl ⟨by rw [e1]; decide, ?_⟩, ?_⟩
          · rw [e1, e2]
            rfl
          · have hb := (unhide HBA).trans (below_less (unhide HBB) (by have := unhide HSZ; omega))
            exact below_drew ((hb.setCell (Nat.le_refl _) _).setCell (Nat.le_refl _) _)
      · obtain ⟨hend, hst, hop⟩ := comp_done (unhide HREL) hne ho
        have HEND := hide hend
        have HH := hide h1
        have hlens := hi.lens
        unfold lens at hlens
        have h0' : st.err = 0 := h0
        have HE0 := hide h0'
        obtain ⟨fw, fo, hF⟩ := h1.f
        have e0 : hereX x st = x.m := by unfold hereX; rw [if_neg (by omega)]
        have eh : hereS st = st.c1.length := by unfold hereS; rw [if_neg (by omega)]
        have ep : putS st 5 0 = { st with c1 := st.c1 ++ [(5, 0)] } := by unfold putS; rw [if_neg (by omega)]
        have HADD := hide (addW W0.heap.size x st wr fw fo hF 5 0 (by rw [eh]; omega))
        rw [e0] at HADD
        obtain ⟨s0, vd, vm, ao, co, hr⟩ := h1.bare hst hop
        have hc := hr.blk.cell
        unfold crArr at hc
        have hxl := hr.blk.lt
        have hxa : x.b < wr.heap.size + 1 := by omega
        have hxb : x.b ≤ wr.heap.size := by omega
        have hxc : x.b ≤ wr.heap.size + 1 := by omega
        have hxd : x.b < wr.heap.size + 1 + 1 := by omega
        have hwl := hrb.lt
        have HBB := hide hbw
        have HST := hide (And.intro hst hop)
        have HEP := hide ep
        clear h1 hi hm h0 h0' hn hss hl hbw hrb ho hF hr hend e0 eh ep hst hop
        go_wp2_with fail
        go_cut [] from 8 to 67 (fun wc => CpE W0.heap.size wc x { st with c1 := st.c1 ++ [(5, 0)] } ∧ Below W0.heap.size wr wc)
        case first =>
          go_region_law (first
            | (refine step_call rfl 48 #[.const (.int .i64 5)] #[3] rfl Tryz.func48 Tryz.name48 Tryz.body48 #[.int .i64 5] (by first | (simp [Act.eval]; done) | (simp [Act.eval, Act.put]; done) | rfl) (plainI_any 5 _) ?_; rintro e w1 ⟨rfl, rfl⟩; refine ⟨_, rfl, ?_⟩)
            | (refine step_call rfl 47 #[.tmp 45, .tmp 47] #[110, 30] rfl Tryz.func47 Tryz.name47 Tryz.body47 #[.pointer (some ⟨x.m, 0, none⟩), .slice (some ⟨wr.heap.size + 1, 0, none⟩) 1 1] (by first | (simp [Act.eval]; done) | (simp [Act.eval, Act.put]; done) | rfl) (unhide HADD _ (wr.heap.size + 1) (by (repeat (first | with_reducible refine below_drew ?_ | with_reducible refine below_drawn ?_ _ | with_reducible refine below_longer ?_ _ | (with_reducible refine Below.alloc ?_ ?_ _; rotate_left; (first | omega | ((try simp only [World.size_up]) <;> (try simp only [World.size_dr]) <;> (try simp only [World.size_drN]) <;> (try simp only [World.size_up]) <;> (try simp only [World.size_dr]) <;> (try simp only [World.size_up]) <;> omega))))); (with_reducible exact Below.refl _ _)) (by (repeat (first | with_reducible refine Blk.drew ?_ | with_reducible refine Blk.drewN ?_ _ | (with_reducible refine blk_newAt _ _ ?_; (first | omega | ((try simp only [World.size_up]) <;> (try simp only [World.size_dr]) <;> (try simp only [World.size_drN]) <;> (try simp only [World.size_up]) <;> (try simp only [World.size_dr]) <;> (try simp only [World.size_up]) <;> omega))) | with_reducible refine Blk.alloc ?_ _)); (first | done | with_reducible assumption))) ?_; rintro e w1 ⟨rfl, h2, h1⟩; refine ⟨_, rfl, ?_⟩; have H1 := hide h1; clear h1 h2))
          all_goals
            go_wp2_with fail
            go_meet
            obtain ⟨k1, _, k2, k3⟩ := unhide H1
            rw [unhide HEP] at k1
            exact ⟨k1.e, k3⟩
        case rest =>
          obtain ⟨h5, hb5⟩ := hcut
          obtain ⟨s5, vd5, vm5, vo5, fw5, fo5, hcp5⟩ := h5
          have hrb5 : Blk wc w.heap.size #[.slice none 0 0, .int .i64 0] 77 := (unhide HRW).below hb5 (by have := unhide HSZ; omega)
          have hsm := hcp5.small
          obtain ⟨ad5, kd5, hvd5⟩ := own_shape hcp5.od
          subst hvd5
          have HJ : Hid (∀ W : World, Below wc.heap.size wc W → Calls Tryz.prog 49 #[.pointer (some ⟨x.d, 0, none⟩), .pointer (some ⟨x.m, 0, none⟩)] W fun e w' => ∃ g cap, e = .returned (.slice (some ⟨g, 0, none⟩) (fullS st).length cap) ∧ w'.ownsRow wc.heap.size 34 2 (.slice (some ⟨g, 0, none⟩) (fullS st).length cap) (fullS st).length (instrCells (fullS st)) ∧ Below wc.heap.size wc w') := by
            intro W hW
            have hcW := hcp5.below hW
            refine (join_any W0.heap.size x.d x.m _ _ st.c0 (st.c1 ++ [(5, 0)]) W hcW.dp hcW.mn hcW.od hcW.om hsm.1 hsm.2.1).mono ?_
            rintro e w' ⟨v, rfl, k1, k2⟩
            rw [full_done] at k1
            have el : st.c0.length + (st.c1 ++ [(5, 0)]).length = (fullS st).length := by unfold fullS; simp <;> omega
            rw [el] at k1
            obtain ⟨g, cap, rfl, _, _⟩ := k1.form full_pos
            exact ⟨g, cap, rfl, ownsRow_base k1 hW.size, hW.trans (below_less k2 hW.size)⟩
          have hc5 := hcp5.blk.cell
          unfold cpArr at hc5
          have hd5 := hcp5.dp.cell
          have hcr5 := hrb5.cell
          have hfr5 := hrb5.free
          have hxl5 := hcp5.blk.lt
          have hdl5 := hcp5.dp.lt
          have hrl5 := hrb5.lt
          have hne2 : x.b ≠ w.heap.size := fun e => by have hb := hcp5.blk; rw [e] at hb; exact absurd (Cr.bl hb hrb5) (by decide)
          have hne3 : x.d ≠ w.heap.size := fun e => by have hb := hcp5.dp; rw [e] at hb; exact absurd (Cr.bl hb hrb5) (by decide)
          have HCP5 := hide hcp5
          have HRB5 := hide hrb5
          have HB5 := hide ((unhide HBB).trans hb5)
          have hlI : (st.c0.length : Int) ≤ 4000 := by have := hsm.1; simp at this; omega
          clear hcp5 hrb5 hb5 hc hxa hxb hxc hxd hsm HADD
          generalize hereX x { st with c1 := st.c1 ++ [(5, 0)] } = hx5 at *
          generalize hfl : fullS st = fl at *
          have HFL := hide hfl
          clear hfl
          go_wp2_with fail
          go_region_law (refine step_call rfl 49 #[.tmp 52, .tmp 56] #[110, 110] rfl Tryz.func49 Tryz.name49 Tryz.body49 #[.pointer (some ⟨x.d, 0, none⟩), .pointer (some ⟨x.m, 0, none⟩)] (by first | (simp [Act.eval]; done) | (simp [Act.eval, Act.put]; done) | rfl) (unhide HJ _ (by (repeat (first | with_reducible refine below_drew ?_ | with_reducible refine below_drawn ?_ _ | with_reducible refine below_longer ?_ _ | (with_reducible refine Below.alloc ?_ ?_ _; rotate_left; (first | omega | ((try simp only [World.size_up]) <;> (try simp only [World.size_dr]) <;> (try simp only [World.size_drN]) <;> (try simp only [World.size_up]) <;> (try simp only [World.size_dr]) <;> (try simp only [World.size_up]) <;> omega))))); (with_reducible exact Below.refl _ _))) ?_; rintro e w6 ⟨gj, capj, rfl, h7, h8⟩; refine ⟨_, rfl, ?_⟩; have hc7 := ((unhide HCP5).blk.below h8 hxl5).cell; unfold cpArr at hc7; have hd7 := ((unhide HCP5).dp.below h8 hdl5).cell; have hrb7 := (unhide HRB5).below h8 hrl5; have hcr7 := hrb7.cell; have hfr7 := hrb7.free; have HRB7 := hide hrb7; have H7 := hide (And.intro h7 h8); clear h7 h8 hrb7)
          all_goals
            go_wp2_with fail
            refine bodyPost_ret (results_row_tmp2 (P := Tryz.prog) rfl _ _ w.heap.size 77 _ (0, 0) _ rfl (two_set (unhide HRB7) rfl) Tryz.underlying77 rfl Tryz.sizeProgram) rfl ?_
            obtain ⟨h7, h8⟩ := unhide H7
            have hsz := unhide HSZ
            have hbW := (unhide HBA).trans (below_less (unhide HB5) (by omega))
            have hb9 : Below w.heap.size w w6 := hbW.trans (below_less h8 hbW.size)
            refine ⟨Or.inr ⟨by rw [unhide HEND]; exact unhide HE0, .slice (some ⟨gj, 0, none⟩) fl.length capj, ?_, ?_⟩, ?_⟩
            · rw [unhide HEND]
              rfl
            · rw [unhide HEND, unhide HFL]
              have := ownsRow_base h7 hbW.size
              exact ownsRow_far (ownsRow_far this (fun e => row_not_blk (unhide HRB7) h7 (by decide) e) _) (fun e => row_not_blk (unhide HRB7) h7 (by decide) e) _
            · exact (hb9.setCell (Nat.le_refl _) _).setCell (Nat.le_refl _) _

end Go.Proofs.YtbcjfiaacenhgaaGreatDoor

/- The program's calls List and Run (the code of stage 1: Run answers nothing yet). -/
namespace Go.Proofs.YtbcjfiaacenhgaaGreatDoor
open Go Go.RowKit

/-- The program's code in memory. -/
def CodeR1 (w : World) (c : Nat) (l : List (Int × Int)) (en : Int) : Prop :=
  ∃ g cap, Blk w c #[.slice (some ⟨g, 0, none⟩) l.length cap, .int .i64 en] 81 ∧ w.ownsRow 0 34 2 (.slice (some ⟨g, 0, none⟩) l.length cap) l.length (instrCells l)
theorem CodeR1.law {w w' : World} {c : Nat} {l : List (Int × Int)} {en : Int} (h : CodeR1 w c l en) (hl : LawStill w w') : CodeR1 w' c l en := by
  obtain ⟨g, cap, h1, h2⟩ := h
  exact ⟨g, cap, hl.blk h1, hl.row h2⟩

set_option maxRecDepth 100000 in
set_option maxHeartbeats 2000000 in
theorem clone_any (g cap : Nat) (l : List (Int × Int)) (w : World) (ho : w.ownsRow 0 34 2 (.slice (some ⟨g, 0, none⟩) l.length cap) l.length (instrCells l)) (hpos : 0 < l.length) (hl : l.length ≤ 50000) :
    Calls Tryz.prog 37 #[.slice (some ⟨g, 0, none⟩) l.length cap] w fun e w' => ∃ v, e = .returned v ∧ w'.ownsRow w.heap.size 34 2 v l.length (instrCells l) ∧ Below w.heap.size w w' := by
  obtain ⟨iI, hiI, hzI0, hzI1, hzI2⟩ := info_parts Tryz.infoInstr
  have hgl := (ownsRow_lt ho (k := g) rfl).1
  have hE : (w.alloc (.cells #[] 34)).ownsRow w.heap.size 34 2 (.slice (some ⟨w.heap.size, 0, none⟩) 0 0) 0 [] := ⟨rfl, Or.inr ⟨w.heap.size, 0, #[], rfl, Nat.le_refl _, Blk.new w _ _, Nat.le_refl _, by unfold maxLen; omega, rfl, rfl⟩⟩
  have HE := hide hE
  have HN := hide (own_news (ownsRow_alloc ho (.cells #[] 34)))
  have HL : Hid ((instrCells l).length = l.length * 2) := ho.1
  have qn : ∀ W : World, (binOp .eql 30 (.slice (some ⟨g, 0, none⟩) l.length cap) (.slice none 0 0)).run Tryz.prog W = .ok (.bool false) W := fun W => Lib.run_eql_slice_nil W _ _ _ _ _ _ _ Tryz.underlying30
  clear hE ho
  go_enter Tryz.func37, Tryz.ntmps37
  go_wp2_with (at_builtin; refine wpList_append_lies _ rfl (.tmp 5) (.tmp 6) 30 rfl w.heap.size 34 iI _ 2 16 Tryz.underlying30 hiI hzI0 hzI1 hzI2 rfl (by decide) (.slice (some ⟨w.heap.size, 0, none⟩) 0 0) 0 [] (by simp [Act.eval]) (unhide HE) ⟨g, 0, none⟩ l.length cap (instrCells l) (by simp [Act.eval]) (unhide HL) (unhide HN) (instr_oneCell l) hpos (by unfold maxLen; omega) (by omega) (by simp) _ rfl ?_; intro g2 cap2 w5 hown hgrow hat hlt1; have HOW := hide hown; have HG := hide hgrow; clear hown hgrow hat)
  go_ret
  have ho := unhide HOW
  rw [Nat.zero_add, List.nil_append] at ho
  refine ⟨_, rfl, ho, ((Below.refl _ _).alloc (Nat.le_refl _) _).grown (unhide HG) (by simp) (fun k hk => by simp [Value.ownBlock] at hk; omega)⟩

theorem Tryz.name37 : (Tryz.f37.name == "runtime.NumGoroutine") = false := by kernel_rfl
theorem Tryz.body37 : Tryz.f37.body.isNone = false := by kernel_rfl

set_option maxRecDepth 100000 in
set_option maxHeartbeats 2000000 in
theorem list_any (w : World) (c : Nat) (l : List (Int × Int)) (en : Int) (h : CodeR1 w c l en) (hpos : 0 < l.length) (hl : l.length ≤ 50000) :
    Calls Tryz.prog 21 #[.pointer (some ⟨c, 0, none⟩)] w fun e w' => ∃ v, e = .returned (.tuple #[v, .int .i64 en]) ∧ w'.ownsRow w.heap.size 34 2 v l.length (instrCells l) ∧ Below w.heap.size w w' := by
  obtain ⟨g, cap, hb, ho⟩ := h
  have HC : Hid (∀ n, Calls Tryz.prog 37 #[.slice (some ⟨g, 0, none⟩) l.length cap] (w.drewN n) fun e w' => ∃ v, e = .returned v ∧ w'.ownsRow w.heap.size 34 2 v l.length (instrCells l) ∧ Below w.heap.size (w.drewN n) w') := fun n => clone_any g cap l (w.drewN n) ho hpos hl
  have hc := hb.cell
  have HB := hide hb
  have hcl := hb.lt
  clear hb ho
  go_enter Tryz.func21, Tryz.ntmps21
  go_wp2_with fail
  go_region_law (refine step_call rfl 37 #[.tmp 9] #[30] rfl Tryz.func37 Tryz.name37 Tryz.body37 #[.slice (some ⟨g, 0, none⟩) l.length cap] (by first | (simp [Act.eval]; done) | (simp [Act.eval, Act.put]; done) | rfl) (unhide HC 1) ?_; rintro e w1 ⟨v, rfl, ho1, hb1⟩; have hc1 := ((unhide HB).drewN 1).below hb1 hcl; have hcc := hc1.cell; have HO1 := hide ho1; have HB1 := hide (below_drewN hb1); clear ho1 hb1 hc1; refine ⟨_, rfl, ?_⟩)
  all_goals
    go_wp2_with fail
    go_ret2
    exact ⟨v, rfl, unhide HO1, unhide HB1⟩

set_option maxRecDepth 100000 in
set_option maxHeartbeats 2000000 in
theorem runR1_any (w : World) (c : Nat) (l1 l2 l3 l4 fuel : Int) :
    Calls Tryz.prog 23 #[.pointer (some ⟨c, 0, none⟩), .agg #[.int .i64 l1, .int .i64 l2, .int .i64 l3, .int .i64 l4], .int .i64 fuel] w fun e w' => e = .returned (outV 0 (.slice none 0 0) (.slice none 0 0) ⟨#[]⟩ 0) ∧ Below w.heap.size w w' := by
  unfold outV
  go_enter Tryz.func23, Tryz.ntmps23
  go_wp2_with fail
  refine bodyPost_ret (results_cell_row (P := Tryz.prog) rfl _ _ (w.heap.size + 1) 73 _ (0, 0) _ rfl (blk_two w _ _ _) Tryz.underlying73 rfl Tryz.sizeOutcome) rfl ?_
  exact ⟨rfl, ((Below.refl _ _).alloc (Nat.le_refl _) _).alloc (by simp) _⟩

end Go.Proofs.YtbcjfiaacenhgaaGreatDoor

