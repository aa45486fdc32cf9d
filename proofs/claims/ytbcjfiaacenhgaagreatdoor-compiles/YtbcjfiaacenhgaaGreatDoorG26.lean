/- The reference's Machine: foreign blocks that are kept; a program that lies below; one step as a plain function. -/
import Derived.Test.YtbcjfiaacenhgaaGreatDoorG25
import Derived.Deep.CutRange
namespace Go.Proofs.YtbcjfiaacenhgaaGreatDoor
open Go Go.RowKit

def partsRun (arg : Int) : List Int → MS → MS × Int
  | [], m => (m, 0)
  | op :: r, m => if refusedS m op = 0 then partsRun arg r (doS m op arg) else (m, refusedS m op)
def stepM (l : List (Int × Int)) (m : MS) : MS × Int :=
  match l[m.pc.toNat]? with
  | some x => partsRun x.2 (partsS x.1) { m with pc := m.pc + 1 }
  | none => (m, 0)

theorem ite_ks {c : Prop} [Decidable c] {a b a' b' : MS} {k : List (Nat × Array Value × TypeId)} (ha : a = { a' with ks := k }) (hb : b = { b' with ks := k }) : (if c then a else b) = { (if c then a' else b') with ks := k } := by
  split <;> assumption
theorem doS_ks (m : MS) (k : List (Nat × Array Value × TypeId)) (op arg : Int) : doS { m with ks := k } op arg = { doS m op arg with ks := k } := by
  unfold doS
  repeat' (first | apply ite_ks | rfl)
theorem doS_keeps (m : MS) (op arg : Int) : (doS m op arg).ks = m.ks := by
  have h : (doS { m with ks := m.ks } op arg).ks = m.ks := by rw [doS_ks]
  exact h
theorem partsRun_ks (arg : Int) (ps : List Int) (m : MS) (k : List (Nat × Array Value × TypeId)) : partsRun arg ps { m with ks := k } = ({ (partsRun arg ps m).1 with ks := k }, (partsRun arg ps m).2) := by
  induction ps generalizing m with
  | nil => rfl
  | cons op r ih =>
    have hr : refusedS { m with ks := k } op = refusedS m op := rfl
    unfold partsRun
    rw [hr, doS_ks, ih]
    split <;> rfl
theorem parts_range (op : Int) : ∀ x ∈ partsS op, 0 ≤ x ∧ x ≤ 32 := by
  unfold partsS
  split
  · rename_i y hy
    have hm := List.mem_of_find?_eq_some hy
    have : ∀ y ∈ partsTab, ∀ x ∈ y.2, 0 ≤ x ∧ x ≤ 32 := by
      unfold partsTab
      simp
    exact this y hm
  · split
    · intro x hx
      simp at hx
      omega
    · simp
theorem parts_length (op : Int) : (partsS op).length ≤ 3 := by
  unfold partsS
  split
  · rename_i y hy
    have hm := List.mem_of_find?_eq_some hy
    have : ∀ y ∈ partsTab, y.2.length ≤ 3 := by
      unfold partsTab
      simp
    exact this y hm
  · split <;> simp
theorem parts_some (op : Int) (h : 0 ≤ op ∧ op ≤ 32 ∨ 40 ≤ op ∧ op ≤ 59) : 1 ≤ (partsS op).length := by
  unfold partsS
  split
  · rename_i y hy
    have hm := List.mem_of_find?_eq_some hy
    have : ∀ y ∈ partsTab, 1 ≤ y.2.length := by
      unfold partsTab
      simp
    exact this y hm
  · rename_i hn
    rcases h with h | h
    · rw [if_pos h]; simp
    · exfalso
      have h1 : op = 40 ∨ op = 41 ∨ op = 42 ∨ op = 43 ∨ op = 44 ∨ op = 45 ∨ op = 46 ∨ op = 47 ∨ op = 48 ∨ op = 49 ∨ op = 50 ∨ op = 51 ∨ op = 52 ∨ op = 53 ∨ op = 54 ∨ op = 55 ∨ op = 56 ∨ op = 57 ∨ op = 58 ∨ op = 59 := by omega
      rcases h1 with rfl | rfl | rfl | rfl | rfl | rfl | rfl | rfl | rfl | rfl | rfl | rfl | rfl | rfl | rfl | rfl | rfl | rfl | rfl | rfl <;> simp [partsTab] at hn

/-- One foreign block more is kept. -/
theorem McE.tag {B : Nat} {w w' : World} {b : Nat} {m : MS} (h : McE B w b m) (hb : Below w.heap.size w w') {q : Nat} {cs : Array Value} {T : TypeId} (hq : Blk w' q cs T) (hn : w.heap.size ≤ q) : McE B w' b { m with ks := (q, cs, T) :: m.ks } := by
  obtain ⟨_, _, _, _, h⟩ := h
  have hlt := h.blk.lt
  refine ⟨_, _, _, _, ⟨h.blk.below hb h.blk.lt, h.base, ?_, h.lims, h.small, h.ints, ?_, ?_⟩⟩
  · refine (h.owned.more (bs' := b :: q :: m.ks.map (fun x => x.1)) ?_).below_all hb
    intro c hc
    simp only [List.mem_cons] at hc ⊢
    rcases hc with hc | hc | hc
    · exact Or.inl (Or.inl hc)
    · exact Or.inr (by omega)
    · exact Or.inl (Or.inr hc)
  · intro x hx
    rcases List.mem_cons.1 hx with rfl | hx
    · exact hq
    · exact (h.kept x hx).below hb (h.kept x hx).lt
  · intro x hx
    rcases List.mem_cons.1 hx with rfl | hx
    · simp only; omega
    · exact h.kne x hx
/-- Two fewer. -/
theorem McE.untag {B : Nat} {w : World} {b : Nat} {m : MS} {x y : Nat × Array Value × TypeId} {k : List (Nat × Array Value × TypeId)} (h : McE B w b { m with ks := x :: y :: k }) : McE B w b { m with ks := k } := by
  obtain ⟨_, _, _, _, h⟩ := h
  refine ⟨_, _, _, _, ⟨h.blk, h.base, ?_, h.lims, h.small, h.ints, ?_, ?_⟩⟩
  · refine h.owned.more ?_
    intro c hc
    simp only [List.mem_cons, List.map_cons] at hc ⊢
    rcases hc with hc | hc
    · exact Or.inl (Or.inl hc)
    · exact Or.inl (Or.inr (Or.inr (Or.inr hc)))
  · exact fun z hz => h.kept z (List.mem_cons_of_mem _ (List.mem_cons_of_mem _ hz))
  · exact fun z hz => h.kne z (List.mem_cons_of_mem _ (List.mem_cons_of_mem _ hz))

/-- A program in memory, below B. -/
def Cd (B : Nat) (w : World) (p : Nat) (l : List (Int × Int)) (en ce : Int) : Prop :=
  ∃ g cap vH, Blk w p #[.slice (some ⟨g, 0, none⟩) l.length cap, .int .i64 en, .int .i64 ce, vH] 71 ∧ p < B ∧ g < B ∧ w.ownsRow 0 34 2 (.slice (some ⟨g, 0, none⟩) l.length cap) l.length (instrCells l)
theorem Cd.below {B : Nat} {w w' : World} {p : Nat} {l : List (Int × Int)} {en ce : Int} (h : Cd B w p l en ce) (hb : Below B w w') : Cd B w' p l en ce := by
  obtain ⟨g, cap, vH, h1, h2, h3, h4⟩ := h
  refine ⟨g, cap, vH, h1.below hb h2, h2, h3, ownsRow_of_block h4 ?_⟩
  intro k hk _
  simp [Value.ownBlock] at hk
  exact hb.block k (by omega)

theorem step_fin {B : Nat} {w : World} {b : Nat} {m mk : MS} {x y : Nat × Array Value × TypeId} {arg e : Int} {ps : List Int} (hr : partsRun arg ps { m with ks := x :: y :: m.ks } = (mk, e)) (h : McE B w b mk) : McE B w b (partsRun arg ps m).1 ∧ e = (partsRun arg ps m).2 := by
  have e1 := partsRun_ks arg ps m (x :: y :: m.ks)
  have e2 : (partsRun arg ps m).1.ks = m.ks := by
    have := partsRun_ks arg ps m m.ks
    have h3 : ({ m with ks := m.ks } : MS) = m := rfl
    rw [h3] at this
    have := congrArg (fun z : MS × Int => z.1.ks) this
    simpa using this
  rw [hr] at e1
  simp only [Prod.mk.injEq] at e1
  obtain ⟨rfl, rfl⟩ := e1
  refine ⟨?_, rfl⟩
  have h4 := h.untag
  generalize partsRun arg ps m = z at *
  obtain ⟨z1, z2⟩ := z
  simp only at h4 e2 ⊢
  rw [← e2] at h4
  exact h4

theorem Tryz.name62 : (Tryz.f62.name == "runtime.NumGoroutine") = false := by kernel_rfl
theorem Tryz.body62 : Tryz.f62.body.isNone = false := by kernel_rfl

set_option maxRecDepth 100000 in
set_option maxHeartbeats 2000000 in
theorem step_m (B b : Nat) (m : MS) (l : List (Int × Int)) (en ce : Int) (w : World) (h : McE B w b m) (hcd : Cd B w m.p l en ce) (hok : CodeOk l) (hpc : 0 ≤ m.pc ∧ m.pc < l.length) :
    Calls Tryz.prog 41 #[.pointer (some ⟨b, 0, none⟩)] w fun e w' => e = .returned (.int .i64 (stepM l m).2) ∧ McE B w' b (stepM l m).1 ∧ Below B w w' := by
  obtain ⟨k0, hk0⟩ : ∃ k0 : Nat, m.pc = k0 := ⟨m.pc.toNat, by omega⟩
  have hlt : k0 < l.length := by omega
  obtain ⟨x, hx⟩ : ∃ x, l[k0]? = some x := ⟨_, List.getElem?_eq_getElem hlt⟩
  have hxok := hok.ins x (List.mem_of_getElem? hx)
  have hsm := hok.small
  have hst : stepM l m = partsRun x.2 (partsS x.1) { m with pc := m.pc + 1 } := by
    unfold stepM
    rw [hk0, Int.toNat_natCast, hx]
  rw [hst]
  have HS := hide hst
  have harg := hide hxok.2.1
  have hps := parts_some x.1 hxok.1
  have hpl := parts_length x.1
  have hpr := hide (parts_range x.1)
  clear hxok hst hok
  obtain ⟨v5, v6, v7, v8, h⟩ := h
  obtain ⟨g, cap, vH, hP, hpB, hgB, hrow⟩ := hcd
  have hx1 := own_cell hrow (k0 * 2) (by omega)
  have hx2 := own_cell hrow (k0 * 2 + 1) (by omega)
  rw [(instrCells_at _ _ _ hx).1] at hx1
  rw [(instrCells_at _ _ _ hx).2] at hx2
  have hpcell := hP.cell
  have hc := h.blk.cell
  have hf := h.blk.free
  unfold mcArr at hc
  rw [hk0] at hc
  have hltI : (k0 : Int) < l.length := by omega
  have hk5 : (k0 : Int) ≤ 5000 := by omega
  have hl5 : (l.length : Int) ≤ 5000 := by omega
  have hbl := h.blk.lt
  have hpl' := hP.lt
  have hgl' := (ownsRow_lt hrow (k := g) rfl).1
  have hwx : IntKind.i64.wrap ((k0 : Int) + 1) = (k0 : Int) + 1 := by rw [IntKind.wrap_i64]; omega
  have HPC := hide hpc
  have HXL := hide hx
  have HH := hide h
  have HK0 := hide hk0
  clear hpc hx h hk0 hrow hP
  go_enter Tryz.func41, Tryz.ntmps41
  go_wp2_with fail
  go_region
  go_wp2_with fail
  have h := unhide HH
  have hk0 := unhide HK0
  have hf1 : McE B (w.setCell ⟨b, 10, none⟩ (.int .i64 ((k0 : Int) + 1))) b { m with pc := m.pc + 1 } :=
    ⟨_, _, _, _, h.field 10 _ _ (by simp [mcArr, hk0]) rfl h.lims h.small h.ints⟩
  have hsz1 : (w.setCell ⟨b, 10, none⟩ (.int .i64 ((k0 : Int) + 1))).heap.size = w.heap.size := by simp [World.setCell]
  have hN1 := Blk.new (w.setCell ⟨b, 10, none⟩ (.int .i64 ((k0 : Int) + 1))) #[.int .i64 x.1, .int .i64 x.2] 34
  rw [hsz1] at hN1
  have ht1 := hf1.tag (w' := ((w.setCell ⟨b, 10, none⟩ (.int .i64 ((k0 : Int) + 1))).alloc (.cells #[.int .i64 x.1, .int .i64 x.2] 34)).drew) ((Below.refl _ _).alloc (Nat.le_refl _) _).drew hN1.drew (by omega)
  have hb1 : Below B w ((w.setCell ⟨b, 10, none⟩ (.int .i64 ((k0 : Int) + 1))).alloc (.cells #[.int .i64 x.1, .int .i64 x.2] 34)).drew := (((Below.refl B w).setCell h.base _).alloc (by have := h.base; omega) _).drew
  have hBw : B ≤ ((w.setCell ⟨b, 10, none⟩ (.int .i64 ((k0 : Int) + 1))).alloc (.cells #[.int .i64 x.1, .int .i64 x.2] 34)).drew.heap.size := by have := h.base; show B ≤ (World.alloc _ _).heap.size; simp; omega
  clear hc hf hpcell hx1 hx2 hN1 hf1 h hk0
  generalize ((w.setCell ⟨b, 10, none⟩ (.int .i64 ((k0 : Int) + 1))).alloc (.cells #[.int .i64 x.1, .int .i64 x.2] 34)).drew = W1 at ht1 hb1 hBw ⊢
  refine (parts_any x.1 W1).mono ?_
  rintro e w2 ⟨v, rfl, hrow, hb2⟩
  have hrow2 := hrow.2
  rcases hrow2 with ⟨_, h0⟩ | ⟨gp, cp, cur, rfl, hgp, hcur, hncp, hcpm, hcs, htake⟩
  · omega
  have ht2 := ht1.tag hb2 (q := gp) (cs := cur) (T := 3) hcur hgp
  have hb12 : Below B w w2 := hb1.trans ⟨hb2.os, hb2.tape, hb2.output, hb2.size, fun k hk => hb2.block k (by omega)⟩
  have hcc : ∀ (k : Nat) (op : Int), (partsS x.1)[k]? = some op → cur[k]? = some (Value.int .i64 op) := by
    intro k op hop
    have hk : k < (partsS x.1).length := (List.getElem?_eq_some_iff.1 hop).1
    have h1 : (cur.toList.take ((partsS x.1).length * 1))[k]? = some (.int .i64 op) := by rw [htake, List.getElem?_map, hop]; rfl
    rw [List.getElem?_take_of_lt (by omega)] at h1
    simpa using h1
  have HCC := hide hcc
  have HPL : Hid ((partsS x.1).length ≤ 3) := hpl
  generalize hps0 : partsS x.1 = ps at *
  have HPS := hide hps0
  have hplI : (ps.length : Int) ≤ 3 := by omega
  clear hb1 hb2 hBw ht1 hrow htake hcs hcpm hncp hcur hcc hgp HPC HXL HH HK0 HS hps0
  go_wp2_with fail
  go_loopw [5] (fun i wr => ∃ (k : Nat) (mk : MS), i = .int .i64 k ∧ k ≤ ps.length ∧ McE B wr b mk ∧ mk.ks = (gp, cur, 3) :: (w.heap.size, #[.int .i64 x.1, .int .i64 x.2], 34) :: m.ks ∧ partsRun x.2 (ps.drop k) mk = partsRun x.2 ps { m with pc := m.pc + 1, ks := (gp, cur, 3) :: (w.heap.size, #[.int .i64 x.1, .int .i64 x.2], 34) :: m.ks } ∧ Below B w wr) (fun i _ => ps.length - (intOf i).toNat)
  case atStart => exact ⟨0, _, rfl, Nat.zero_le _, ht2, rfl, rfl, hb12⟩
  case round =>
    clear ht2 hb12
    obtain ⟨k, mk, rfl, hk, ⟨u5, u6, u7, u8, hm⟩, hks, hrun, hbel⟩ := hrel
    by_cases hlt2 : k < ps.length
    · obtain ⟨op, hop⟩ : ∃ op, ps[k]? = some op := ⟨_, List.getElem?_eq_getElem hlt2⟩
      have hkept := hm.kept
      rw [hks] at hkept
      have hq1 : Blk wr gp cur 3 := hkept (gp, cur, 3) (List.mem_cons_self ..)
      have hcell := hq1.cell k
      rw [unhide HCC k op hop] at hcell
      have hq2 : Blk wr w.heap.size #[.int .i64 x.1, .int .i64 x.2] 34 := hkept (w.heap.size, #[.int .i64 x.1, .int .i64 x.2], 34) (List.mem_cons_of_mem _ (List.mem_cons_self ..))
      have hcell2 := hq2.cell
      have hq1l := hq1.lt
      have hBr : B ≤ wr.heap.size := by have := hm.base; have := hm.blk.lt; omega
      have hdrop : ps.drop k = op :: ps.drop (k + 1) := by
        obtain ⟨hlt', rfl⟩ := List.getElem?_eq_some_iff.1 hop
        exact List.drop_eq_getElem_cons hlt'
      rw [hdrop] at hrun
      have hoprange := unhide hpr op (List.mem_of_getElem? hop)
      have hltI2 : (k : Int) < ps.length := by omega
      have HR := hide (refused_any B b mk op wr ⟨_, _, _, _, hm⟩)
      have HRUN := hide hrun
      have HM := hide hm
      have HKS := hide hks
      clear hrun hkept hq1 hks hm hop
      go_wp2_with fail
      refine (unhide HR).mono ?_
      rintro e w3 ⟨rfl, hb3⟩
      have hm3 := McE.below ⟨_, _, _, _, unhide HM⟩ hb3
      have hq3 := hq2.below hb3 hq2.lt
      by_cases hz : refusedS mk op = 0
      · have HD : Hid (∀ n, Calls Tryz.prog 62 #[.pointer (some ⟨b, 0, none⟩), .int .i64 op, .int .i64 x.2] (w3.drewN n) fun e w' => e = .returned (.tuple #[]) ∧ McE B w' b (doS mk op x.2) ∧ Below B (w3.drewN n) w') := fun n => do_any B b mk op x.2 (w3.drewN n) (by obtain ⟨_, _, _, _, h3⟩ := hm3; exact ⟨_, _, _, _, h3.drewN n⟩) (unhide harg) hoprange hz
        have hcell3 := hq3.cell
        have hp3 : w3.cell? ⟨gp, k, none⟩ = some (.int .i64 op) := by
          have : gp < wr.heap.size := hq1l
          rw [hb3.cell (by simpa using this)]; exact hcell
        go_wp2_with fail
        go_region_law (refine step_call rfl 62 #[.tmp 45, .tmp 49, .tmp 51] #[97, 3, 2] rfl Tryz.func62 Tryz.name62 Tryz.body62 #[.pointer (some ⟨b, 0, none⟩), .int .i64 op, .int .i64 x.2] (by first | (simp [Act.eval]; done) | (simp [Act.eval, Act.put]; done) | rfl) (unhide HD _) ?_; rintro e w4 ⟨rfl, hm4, hb4⟩; refine ⟨_, rfl, ?_⟩; have HM4 := hide hm4; have HB4 := hide (below_drewN hb4); clear hm4 hb4)
        all_goals
          go_wp2_with fail
          go_roundw
          case rel =>
            refine ⟨k + 1, doS mk op x.2, by go_num, by omega, unhide HM4, by rw [doS_keeps]; exact unhide HKS, ?_, (hbel.trans (hb3.mono hBr)).trans (unhide HB4)⟩
            have hr := unhide HRUN
            rw [partsRun, if_pos hz] at hr
            exact hr
          case measure => simp [intOf]; omega
      · have hz' : (refusedS mk op == 0) = false := by simpa using hz
        go_wp2_with fail
        go_ret
        have hr := unhide HRUN
        rw [partsRun, if_neg hz] at hr
        obtain ⟨h1, h2⟩ := step_fin (m := { m with pc := m.pc + 1 }) hr.symm hm3
        rw [← unhide HPS] at h1 h2
        exact ⟨ret_int h2, h1, hbel.trans (hb3.mono hBr)⟩
    · have hkn : k = ps.length := by omega
      subst hkn
      go_wp2_with fail
      go_ret
      rw [List.drop_length, partsRun] at hrun
      obtain ⟨h1, h2⟩ := step_fin (m := { m with pc := m.pc + 1 }) hrun.symm ⟨_, _, _, _, hm⟩
      rw [← unhide HPS] at h1 h2
      exact ⟨ret_int h2, h1, hbel⟩

end Go.Proofs.YtbcjfiaacenhgaaGreatDoor

/- A run of code that may be run stays within it; the whole run as a plain function; how many cells a text has. -/
namespace Go.Proofs.YtbcjfiaacenhgaaGreatDoor
open Go Go.RowKit

structure RunOk (l : List (Int × Int)) (m : MS) : Prop where
  pc : 0 ≤ m.pc ∧ m.pc < l.length
  calls : ∀ c ∈ m.calls, 0 ≤ c ∧ c < l.length

theorem ite_pred {c : Prop} [Decidable c] {p : MS → Prop} {a b : MS} (ha : p a) (hb : p b) : p (if c then a else b) := by split <;> assumption
theorem doS_pc (m : MS) (op arg : Int) (h : op ≠ 1 ∧ op ≠ 2 ∧ op ≠ 3 ∧ op ≠ 4 ∧ op ≠ 5 ∧ op ≠ 7) : (doS m op arg).pc = m.pc ∧ (doS m op arg).calls = m.calls := by
  obtain ⟨h1, h2, h3, h4, h5, h7⟩ := h
  unfold doS
  simp only [if_neg h1, if_neg h2, if_neg h3, if_neg h4, if_neg h5, if_neg h7]
  repeat' (first | refine ite_pred (p := fun z => z.pc = m.pc ∧ z.calls = m.calls) ?_ ?_ | exact ⟨rfl, rfl⟩)
theorem doS_p (m : MS) (op arg : Int) : (doS m op arg).p = m.p := by
  unfold doS
  repeat' (first | refine ite_pred (p := fun z => z.p = m.p) ?_ ?_ | rfl)
theorem partsRun_p (arg : Int) (ps : List Int) (m : MS) : (partsRun arg ps m).1.p = m.p := by
  induction ps generalizing m with
  | nil => rfl
  | cons op r ih =>
    unfold partsRun
    split
    · rw [ih, doS_p]
    · rfl
theorem stepM_p (l : List (Int × Int)) (m : MS) : (stepM l m).1.p = m.p := by
  unfold stepM
  split
  · rw [partsRun_p]
  · rfl
theorem partsRun_pc (arg : Int) (ps : List Int) (m : MS) (h : ∀ op ∈ ps, op ≠ 1 ∧ op ≠ 2 ∧ op ≠ 3 ∧ op ≠ 4 ∧ op ≠ 5 ∧ op ≠ 7) : (partsRun arg ps m).1.pc = m.pc ∧ (partsRun arg ps m).1.calls = m.calls := by
  induction ps generalizing m with
  | nil => exact ⟨rfl, rfl⟩
  | cons op r ih =>
    unfold partsRun
    split
    · have h1 := ih (doS m op arg) (fun o ho => h o (List.mem_cons_of_mem _ ho))
      have h2 := doS_pc m op arg (h op (List.mem_cons_self ..))
      exact ⟨h1.1.trans h2.1, h1.2.trans h2.2⟩
    · exact ⟨rfl, rfl⟩
theorem parts_super (op : Int) (h : 40 ≤ op) : ∀ x ∈ partsS op, x ≠ 1 ∧ x ≠ 2 ∧ x ≠ 3 ∧ x ≠ 4 ∧ x ≠ 5 ∧ x ≠ 7 := by
  unfold partsS
  split
  · rename_i y hy
    have hm := List.mem_of_find?_eq_some hy
    have : ∀ y ∈ partsTab, ∀ x ∈ y.2, x ≠ 1 ∧ x ≠ 2 ∧ x ≠ 3 ∧ x ≠ 4 ∧ x ≠ 5 ∧ x ≠ 7 := by
      unfold partsTab
      simp
    exact this y hm
  · rw [if_neg (by omega)]; simp
theorem parts_plain (op : Int) (h : 0 ≤ op ∧ op ≤ 32) : partsS op = [op] := by
  unfold partsS
  split
  · rename_i y hy
    have hm := List.mem_of_find?_eq_some hy
    have hp := List.find?_some hy
    have : ∀ y ∈ partsTab, 40 ≤ y.1 := by
      unfold partsTab
      simp
    have := this y hm
    simp at hp
    omega
  · rw [if_pos h]

theorem topL_mem (l : List Int) (h : 0 < l.length) : topL l ∈ l := by
  have := form1 l (by omega)
  rw [this, topL_app]
  simp
theorem dropLast_mem {l : List Int} {x : Int} (h : x ∈ l.dropLast) : x ∈ l := List.dropLast_subset l h

theorem stepM_ok (l : List (Int × Int)) (m : MS) (hl : CodeOk l) (h : RunOk l m) (he : (stepM l m).2 = 0) : (stepM l m).1.halted = true ∨ RunOk l (stepM l m).1 := by
  obtain ⟨k0, hk0⟩ : ∃ k0 : Nat, m.pc = k0 := ⟨m.pc.toNat, by have := h.pc; omega⟩
  have hlt : k0 < l.length := by have := h.pc; omega
  obtain ⟨x, hx⟩ : ∃ x, l[k0]? = some x := ⟨_, List.getElem?_eq_getElem hlt⟩
  have hxok := hl.ins x (List.mem_of_getElem? hx)
  have hst : stepM l m = partsRun x.2 (partsS x.1) { m with pc := m.pc + 1 } := by
    unfold stepM
    rw [hk0, Int.toNat_natCast, hx]
  rw [hst] at he ⊢
  have hnext : x.1 ≠ 1 → x.1 ≠ 4 → x.1 ≠ 5 → m.pc + 1 < l.length := by
    intro h1 h4 h5
    obtain ⟨y, hy, hyo⟩ := hl.last
    have hne : k0 ≠ l.length - 1 := by
      rintro rfl
      rw [List.getLast?_eq_getElem?] at hy
      rw [hx] at hy
      obtain rfl := Option.some.inj hy
      omega
    omega
  rcases hxok.1 with hp | hs
  · rw [parts_plain x.1 hp] at he ⊢
    unfold partsRun at he ⊢
    by_cases hz : refusedS { m with pc := m.pc + 1 } x.1 = 0
    · rw [if_pos hz] at he ⊢
      unfold partsRun at he ⊢
      simp only
      have hcalls := h.calls
      have hpc := h.pc
      obtain ⟨z1, z2, z3, z4, z5, z6, z7, z8, z9, z10⟩ := refused_zero _ _ hz
      have hnames : x.1 = 1 ∨ x.1 = 2 ∨ x.1 = 3 ∨ x.1 = 7 → 0 ≤ x.2 ∧ x.2 < l.length := by
        intro e
        refine hxok.2.2 ?_
        unfold namesS
        rcases e with e | e | e | e <;> simp [e]
      by_cases o1 : x.1 = 1
      · right
        have e : doS { m with pc := m.pc + 1 } x.1 x.2 = { m with pc := x.2 } := by rw [o1]; rfl
        rw [e]
        exact ⟨hnames (Or.inl o1), hcalls⟩
      by_cases o2 : x.1 = 2
      · right
        have hn := hnext (by omega) (by omega) (by omega)
        have hr := hnames (Or.inr (Or.inl o2))
        rw [o2]
        show RunOk l (if topL m.stack = 0 then { m with stack := m.stack.dropLast, pc := x.2 } else { m with stack := m.stack.dropLast, pc := m.pc + 1 })
        split
        · exact ⟨hr, hcalls⟩
        · exact ⟨⟨by simp; omega, hn⟩, hcalls⟩
      by_cases o3 : x.1 = 3
      · right
        have hn := hnext (by omega) (by omega) (by omega)
        have e : doS { m with pc := m.pc + 1 } x.1 x.2 = { m with calls := m.calls ++ [m.pc + 1], pc := x.2 } := by rw [o3]; rfl
        rw [e]
        refine ⟨hnames (Or.inr (Or.inr (Or.inl o3))), ?_⟩
        intro c hc
        simp only [List.mem_append, List.mem_singleton] at hc
        rcases hc with hc | rfl
        · exact hcalls c hc
        · omega
      by_cases o4 : x.1 = 4
      · right
        have e : doS { m with pc := m.pc + 1 } x.1 x.2 = { m with calls := m.calls.dropLast, pc := topL m.calls } := by rw [o4]; rfl
        rw [e]
        refine ⟨hcalls _ (topL_mem _ (z6 o4)), fun c hc => hcalls c (dropLast_mem hc)⟩
      by_cases o5 : x.1 = 5
      · left
        rw [o5]; rfl
      by_cases o7 : x.1 = 7
      · right
        have hn := hnext (by omega) (by omega) (by omega)
        have hr := hnames (Or.inr (Or.inr (Or.inr o7)))
        rw [o7]
        show RunOk l (if wrap64 (topL m.side + 1) = topL m.side.dropLast then { m with side := m.side.dropLast.dropLast, pc := m.pc + 1 } else { m with side := m.side.dropLast.dropLast ++ [topL m.side.dropLast, wrap64 (topL m.side + 1)], pc := x.2 })
        split
        · exact ⟨⟨by simp; omega, hn⟩, hcalls⟩
        · exact ⟨hr, hcalls⟩
      · right
        have hd := doS_pc { m with pc := m.pc + 1 } x.1 x.2 ⟨o1, o2, o3, o4, o5, o7⟩
        have hn := hnext o1 o4 o5
        refine ⟨?_, ?_⟩
        · rw [hd.1]; simp only; omega
        · rw [hd.2]; exact hcalls
    · rw [if_neg hz] at he
      exact absurd he hz
  · right
    have hd := partsRun_pc x.2 (partsS x.1) { m with pc := m.pc + 1 } (parts_super x.1 hs.1)
    have hn := hnext (by omega) (by omega) (by omega)
    have hpc := h.pc
    refine ⟨?_, ?_⟩
    · rw [hd.1]; simp only; omega
    · rw [hd.2]; exact h.calls

/-- A run: the machine behind it, the error, the steps. -/
def runM (l : List (Int × Int)) : Nat → Int → MS → MS × Int × Int
  | 0, s, m => if m.halted then (m, 0, s) else (m, 15, s)
  | f + 1, s, m => if m.halted then (m, 0, s) else if (stepM l m).2 = 0 then runM l f (s + 1) (stepM l m).1 else ((stepM l m).1, (stepM l m).2, s + 1)

def cellsOk (st : RS) : Prop := 2 * st.cells ≤ st.place0
theorem put_cells (st : RS) (op arg : Int) : (putS st op arg).cells = st.cells := by unfold putS; split <;> rfl
theorem tell_cells (st : RS) (n : Nat) : (tellS st n).cells = st.cells := by unfold tellS; split <;> rfl
theorem fail_cells (st : RS) (e : Int) : (failS st e).cells = st.cells := by unfold failS; split <;> rfl
theorem newName_cells (st : RS) : (newNameS st).cells = st.cells := by
  unfold newNameS
  split
  · rw [fail_cells]; rfl
  · rfl
theorem close_cells (st : RS) (l : List (ByteArray × Int × Int)) (x : ByteArray × Int × Int) : (closeS st l x).cells = st.cells := by
  unfold closeS
  simp only
  split
  · show (tellS _ _).cells = _
    rw [tell_cells, put_cells]
  · split
    · rw [tell_cells]
    · split
      · rw [put_cells]
      · split
        · show (putS _ _ _).cells = _
          rw [put_cells]
        · split
          · rw [tell_cells, put_cells]
          · split
            · rw [put_cells]
            · rw [fail_cells]
theorem control_cells (st : RS) : (controlS st).cells = st.cells := by
  unfold controlS
  simp only
  split
  · show (putS _ _ _).cells = _
    rw [put_cells]
  · split
    · rfl
    · split
      · show (putS _ _ _).cells = _
        rw [put_cells]
      · split
        · rw [fail_cells]
        · rw [close_cells]
theorem element_cells (st : RS) : (elementS st).cells = st.cells := by
  unfold elementS
  split
  · rw [put_cells]
  · split
    · rw [put_cells]
    · split
      · split
        · rw [put_cells]
        · rfl
      · split
        · rw [put_cells]
        · rw [fail_cells]
theorem define_cells (st : RS) : (defineS st).cells = st.cells ∨ (defineS st).cells = st.cells + 1 ∧ (st.token.toList == [118, 97, 114, 105, 97, 98, 108, 101]) = true := by
  unfold defineS
  split
  · split
    · left; rw [fail_cells]
    · left
      show (putS _ _ _).cells = _
      rw [put_cells]
  · split
    · left; rw [fail_cells]
    · split
      · left; rw [newName_cells]
      · split
        · left
          show (newNameS st).cells = _
          rw [newName_cells]
        · split
          · right
            refine ⟨?_, by assumption⟩
            show (newNameS st).cells + 1 = _
            rw [newName_cells]
          · left
            show (constant3 (newNameS st)).cells = _
            unfold constant3
            split
            · exact newName_cells st
            · rw [fail_cells]; exact newName_cells st
theorem item_cells {st : RS} {m : Nat} (h : Inv st m) (hc : cellsOk st) : 2 * (itemS st).cells ≤ st.next := by
  have hp := h.place
  unfold cellsOk at hc
  unfold itemS
  split
  · rcases define_cells st with e | ⟨e, ht⟩
    · rw [e]; omega
    · have hsz : st.token.size = 8 := by
        have e1 : st.token.toList = [118, 97, 114, 105, 97, 98, 108, 101] := by simpa using ht
        have := bytes_len st.token
        rw [e1] at this
        simpa using this.symm
      rw [h.token, ByteArray.size_extract] at hsz
      have := h.next
      rw [e]; omega
  · split
    · rw [control_cells]; omega
    · rw [element_cells]; omega
theorem loop_cells (f : Nat) : ∀ {st : RS} {m : Nat}, Inv st m → m ≤ st.place0 → cellsOk st → 2 * (loopS f st).cells ≤ 2000 := by
  induction f with
  | zero =>
    intro st m h hm hc
    have h1 := h.place
    have h2 := h.next
    have h3 := h.size
    unfold cellsOk at hc
    unfold loopS
    omega
  | succ f ih =>
    intro st m h hm hc
    have h1 := h.place
    have h2 := h.next
    have h3 := h.size
    unfold loopS
    split
    · unfold cellsOk at hc
      omega
    · rename_i hno
      have hne : st.token.toList.isEmpty = false := by
        cases e : st.token.toList.isEmpty
        · rfl
        · exact absurd (Or.inl e) hno
      have hi := item_cells h hc
      have hr := round_inv h hm hne
      have ha := adv_item h
      unfold roundS
      split
      · refine ih hr.1 hr.2.1 ?_
        unfold cellsOk
        have hs := (stepS_inv (itemS_inv h)).2
        have hn := ha.2
        show 2 * (itemS st).cells ≤ _
        omega
      · rename_i he
        rw [loop_stop _ (Or.inr he)]
        omega
theorem end_cells (s : ByteArray) (hs : s.size ≤ 2000) : (endS s).cells ≤ 1000 := by
  have h0 := stepS_inv (start_inv s hs)
  have k := loop_cells (fuelS (stepS (startS s))) h0.1 (Nat.zero_le _) (by unfold cellsOk; show (0 : Int) ≤ _; omega)
  unfold endS
  split
  · rw [fail_cells]; show (loopS _ _).cells ≤ _; omega
  · show (loopS _ _).cells ≤ _; omega

end Go.Proofs.YtbcjfiaacenhgaaGreatDoor

