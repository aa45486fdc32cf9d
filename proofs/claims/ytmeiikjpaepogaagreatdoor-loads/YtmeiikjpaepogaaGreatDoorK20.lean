/- The reference's Machine: foreign blocks that are kept; a program that lies below; one step as a plain function. -/
import Derived.Test.YtmeiikjpaepogaaGreatDoorK18
import Derived.Test.YtmeiikjpaepogaaGreatDoorK19
import Derived.Deep.CutRange
namespace Go.Proofs.YtmeiikjpaepogaaGreatDoor
open Go Go.RowKit

def partsRun (arg : Int) : List Int → MS → MS × Int
  | [], m => (m, 0)
  | op :: r, m => if refusedS m op = 0 then partsRun arg r (doS m op arg) else (m, refusedS m op)
def stepM (l : List (Int × Int)) (m : MS) : MS × Int :=
  match l[m.pc.toNat]? with
  | some x => partsRun x.2 (partsS x.1) { m with pc := m.pc + 1 }
  | none => (m, 0)

theorem ite_ks {c : Prop} [Decidable c] {a b a' b' : MS} {k : List (Nat × Array Value × TypeId)} (ha : a = { a' with ks := k }) (hb : b = { b' with ks := k }) : (if c then a else b) = { (if c then a' else b') with ks := k } := by
  split <;> assumption
theorem doS_ks (m : MS) (k : List (Nat × Array Value × TypeId)) (op arg : Int) : doS { m with ks := k } op arg = { doS m op arg with ks := k } := by
  unfold doS
  repeat' (first | apply ite_ks | rfl)
theorem doS_keeps (m : MS) (op arg : Int) : (doS m op arg).ks = m.ks := by
  have h : (doS { m with ks := m.ks } op arg).ks = m.ks := by rw [doS_ks]
  exact h
theorem partsRun_ks (arg : Int) (ps : List Int) (m : MS) (k : List (Nat × Array Value × TypeId)) : partsRun arg ps { m with ks := k } = ({ (partsRun arg ps m).1 with ks := k }, (partsRun arg ps m).2) := by
  induction ps generalizing m with
  | nil => rfl
  | cons op r ih =>
    have hr : refusedS { m with ks := k } op = refusedS m op := rfl
    unfold partsRun
    rw [hr, doS_ks, ih]
    split <;> rfl
theorem parts_range (op : Int) : ∀ x ∈ partsS op, 0 ≤ x ∧ x ≤ 32 := by
  unfold partsS
  split
  · rename_i y hy
    have hm := List.mem_of_find?_eq_some hy
    have : ∀ y ∈ partsTab, ∀ x ∈ y.2, 0 ≤ x ∧ x ≤ 32 := by
      unfold partsTab
      simp
    exact this y hm
  · split
    · intro x hx
      simp at hx
      omega
    · simp
theorem parts_length (op : Int) : (partsS op).length ≤ 3 := by
  unfold partsS
  split
  · rename_i y hy
    have hm := List.mem_of_find?_eq_some hy
    have : ∀ y ∈ partsTab, y.2.length ≤ 3 := by
      unfold partsTab
      simp
    exact this y hm
  · split <;> simp
theorem parts_some (op : Int) (h : 0 ≤ op ∧ op ≤ 32 ∨ 40 ≤ op ∧ op ≤ 59) : 1 ≤ (partsS op).length := by
  unfold partsS
  split
  · rename_i y hy
    have hm := List.mem_of_find?_eq_some hy
    have : ∀ y ∈ partsTab, 1 ≤ y.2.length := by
      unfold partsTab
      simp
    exact this y hm
  · rename_i hn
    rcases h with h | h
    · rw [if_pos h]; simp
    · exfalso
      have h1 : op = 40 ∨ op = 41 ∨ op = 42 ∨ op = 43 ∨ op = 44 ∨ op = 45 ∨ op = 46 ∨ op = 47 ∨ op = 48 ∨ op = 49 ∨ op = 50 ∨ op = 51 ∨ op = 52 ∨ op = 53 ∨ op = 54 ∨ op = 55 ∨ op = 56 ∨ op = 57 ∨ op = 58 ∨ op = 59 := by omega
      rcases h1 with rfl | rfl | rfl | rfl | rfl | rfl | rfl | rfl | rfl | rfl | rfl | rfl | rfl | rfl | rfl | rfl | rfl | rfl | rfl | rfl <;> simp [partsTab] at hn

/-- One foreign block more is kept. -/
theorem McE.tag {B : Nat} {w w' : World} {b : Nat} {m : MS} (h : McE B w b m) (hb : Below w.heap.size w w') {q : Nat} {cs : Array Value} {T : TypeId} (hq : Blk w' q cs T) (hn : w.heap.size ≤ q) : McE B w' b { m with ks := (q, cs, T) :: m.ks } := by
  obtain ⟨_, _, _, _, h⟩ := h
  have hlt := h.blk.lt
  refine ⟨_, _, _, _, ⟨h.blk.below hb h.blk.lt, h.base, ?_, h.lims, h.small, h.ints, ?_, ?_⟩⟩
  · refine (h.owned.more (bs' := b :: q :: m.ks.map (fun x => x.1)) ?_).below_all hb
    intro c hc
    simp only [List.mem_cons] at hc ⊢
    rcases hc with hc | hc | hc
    · exact Or.inl (Or.inl hc)
    · exact Or.inr (by omega)
    · exact Or.inl (Or.inr hc)
  · intro x hx
    rcases List.mem_cons.1 hx with rfl | hx
    · exact hq
    · exact (h.kept x hx).below hb (h.kept x hx).lt
  · intro x hx
    rcases List.mem_cons.1 hx with rfl | hx
    · simp only; omega
    · exact h.kne x hx
/-- Two fewer. -/
theorem McE.untag {B : Nat} {w : World} {b : Nat} {m : MS} {x y : Nat × Array Value × TypeId} {k : List (Nat × Array Value × TypeId)} (h : McE B w b { m with ks := x :: y :: k }) : McE B w b { m with ks := k } := by
  obtain ⟨_, _, _, _, h⟩ := h
  refine ⟨_, _, _, _, ⟨h.blk, h.base, ?_, h.lims, h.small, h.ints, ?_, ?_⟩⟩
  · refine h.owned.more ?_
    intro c hc
    simp only [List.mem_cons, List.map_cons] at hc ⊢
    rcases hc with hc | hc
    · exact Or.inl (Or.inl hc)
    · exact Or.inl (Or.inr (Or.inr (Or.inr hc)))
  · exact fun z hz => h.kept z (List.mem_cons_of_mem _ (List.mem_cons_of_mem _ hz))
  · exact fun z hz => h.kne z (List.mem_cons_of_mem _ (List.mem_cons_of_mem _ hz))

/-- A program in memory, below B. -/
def Cd (B : Nat) (w : World) (p : Nat) (l : List (Int × Int)) (en ce : Int) : Prop :=
  ∃ g cap vH, Blk w p #[.slice (some ⟨g, 0, none⟩) l.length cap, .int .i64 en, .int .i64 ce, vH] 137 ∧ p < B ∧ g < B ∧ w.ownsRow 0 65 2 (.slice (some ⟨g, 0, none⟩) l.length cap) l.length (instrCells l)
theorem Cd.below {B : Nat} {w w' : World} {p : Nat} {l : List (Int × Int)} {en ce : Int} (h : Cd B w p l en ce) (hb : Below B w w') : Cd B w' p l en ce := by
  obtain ⟨g, cap, vH, h1, h2, h3, h4⟩ := h
  refine ⟨g, cap, vH, h1.below hb h2, h2, h3, ownsRow_of_block h4 ?_⟩
  intro k hk _
  simp [Value.ownBlock] at hk
  exact hb.block k (by omega)

theorem step_fin {B : Nat} {w : World} {b : Nat} {m mk : MS} {x y : Nat × Array Value × TypeId} {arg e : Int} {ps : List Int} (hr : partsRun arg ps { m with ks := x :: y :: m.ks } = (mk, e)) (h : McE B w b mk) : McE B w b (partsRun arg ps m).1 ∧ e = (partsRun arg ps m).2 := by
  have e1 := partsRun_ks arg ps m (x :: y :: m.ks)
  have e2 : (partsRun arg ps m).1.ks = m.ks := by
    have := partsRun_ks arg ps m m.ks
    have h3 : ({ m with ks := m.ks } : MS) = m := rfl
    rw [h3] at this
    have := congrArg (fun z : MS × Int => z.1.ks) this
    simpa using this
  rw [hr] at e1
  simp only [Prod.mk.injEq] at e1
  obtain ⟨rfl, rfl⟩ := e1
  refine ⟨?_, rfl⟩
  have h4 := h.untag
  generalize partsRun arg ps m = z at *
  obtain ⟨z1, z2⟩ := z
  simp only at h4 e2 ⊢
  rw [← e2] at h4
  exact h4

theorem Tryz.name184 : (Tryz.f184.name == "runtime.NumGoroutine") = false := by kernel_rfl
theorem Tryz.body184 : Tryz.f184.body.isNone = false := by kernel_rfl

set_option maxRecDepth 100000 in
set_option maxHeartbeats 2000000 in
theorem step_m (B b : Nat) (m : MS) (l : List (Int × Int)) (en ce : Int) (w : World) (h : McE B w b m) (hcd : Cd B w m.p l en ce) (hok : CodeOk l) (hpc : 0 ≤ m.pc ∧ m.pc < l.length) :
    Calls Tryz.prog 138 #[.pointer (some ⟨b, 0, none⟩)] w fun e w' => e = .returned (.int .i64 (stepM l m).2) ∧ McE B w' b (stepM l m).1 ∧ Below B w w' := by
  obtain ⟨k0, hk0⟩ : ∃ k0 : Nat, m.pc = k0 := ⟨m.pc.toNat, by omega⟩
  have hlt : k0 < l.length := by omega
  obtain ⟨x, hx⟩ : ∃ x, l[k0]? = some x := ⟨_, List.getElem?_eq_getElem hlt⟩
  have hxok := hok.ins x (List.mem_of_getElem? hx)
  have hsm := hok.small
  have hst : stepM l m = partsRun x.2 (partsS x.1) { m with pc := m.pc + 1 } := by
    unfold stepM
    rw [hk0, Int.toNat_natCast, hx]
  rw [hst]
  have HS := V hst
  have harg := V hxok.2.1
  have hps := parts_some x.1 hxok.1
  have hpl := parts_length x.1
  have hpr := V (parts_range x.1)
  clear hxok hst hok
  obtain ⟨v5, v6, v7, v8, h⟩ := h
  obtain ⟨g, cap, vH, hP, hpB, hgB, hrow⟩ := hcd
  have hx1 := own_cell hrow (k0 * 2) (by omega)
  have hx2 := own_cell hrow (k0 * 2 + 1) (by omega)
  rw [(instrCells_at _ _ _ hx).1] at hx1
  rw [(instrCells_at _ _ _ hx).2] at hx2
  have hpcell := hP.cell
  have hc := h.blk.cell
  have hf := h.blk.free
  unfold mcArr at hc
  rw [hk0] at hc
  have hltI : (k0 : Int) < l.length := by omega
  have hk5 : (k0 : Int) ≤ 5000 := by omega
  have hl5 : (l.length : Int) ≤ 5000 := by omega
  have hbl := h.blk.lt
  have hpl' := hP.lt
  have hgl' := (ownsRow_lt hrow (k := g) rfl).1
  have hwx : IntKind.i64.wrap ((k0 : Int) + 1) = (k0 : Int) + 1 := by rw [IntKind.wrap_i64]; omega
  have HPC := V hpc
  have HXL := V hx
  have HH := V h
  have HK0 := V hk0
  clear hpc hx h hk0 hrow hP
  go_enter Tryz.func138, Tryz.ntmps138
  go_wp2_with fail
  go_region
  go_wp2_with fail
  have h := U HH
  have hk0 := U HK0
  have hf1 : McE B (w.setCell ⟨b, 10, none⟩ (.int .i64 ((k0 : Int) + 1))) b { m with pc := m.pc + 1 } :=
    ⟨_, _, _, _, h.field 10 _ _ (by simp [mcArr, hk0]) rfl h.lims h.small h.ints⟩
  have hsz1 : (w.setCell ⟨b, 10, none⟩ (.int .i64 ((k0 : Int) + 1))).heap.size = w.heap.size := by simp [World.setCell]
  have hN1 := Blk.new (w.setCell ⟨b, 10, none⟩ (.int .i64 ((k0 : Int) + 1))) #[.int .i64 x.1, .int .i64 x.2] 65
  rw [hsz1] at hN1
  have ht1 := hf1.tag (w' := ((w.setCell ⟨b, 10, none⟩ (.int .i64 ((k0 : Int) + 1))).alloc (.cells #[.int .i64 x.1, .int .i64 x.2] 65)).drew) ((Below.refl _ _).alloc (Nat.le_refl _) _).drew hN1.drew (by omega)
  have hb1 : Below B w ((w.setCell ⟨b, 10, none⟩ (.int .i64 ((k0 : Int) + 1))).alloc (.cells #[.int .i64 x.1, .int .i64 x.2] 65)).drew := (((Below.refl B w).setCell h.base _).alloc (by have := h.base; omega) _).drew
  have hBw : B ≤ ((w.setCell ⟨b, 10, none⟩ (.int .i64 ((k0 : Int) + 1))).alloc (.cells #[.int .i64 x.1, .int .i64 x.2] 65)).drew.heap.size := by have := h.base; show B ≤ (World.alloc _ _).heap.size; simp; omega
  clear hc hf hpcell hx1 hx2 hN1 hf1 h hk0
  generalize ((w.setCell ⟨b, 10, none⟩ (.int .i64 ((k0 : Int) + 1))).alloc (.cells #[.int .i64 x.1, .int .i64 x.2] 65)).drew = W1 at ht1 hb1 hBw ⊢
  refine (parts_any x.1 W1).mono ?_
  rintro e w2 ⟨v, rfl, hrow, hb2⟩
  have hrow2 := hrow.2
  rcases hrow2 with ⟨_, h0⟩ | ⟨gp, cp, cur, rfl, hgp, hcur, hncp, hcpm, hcs, htake⟩
  · omega
  have ht2 := ht1.tag hb2 (q := gp) (cs := cur) (T := 3) hcur hgp
  have hb12 : Below B w w2 := hb1.trans ⟨hb2.os, hb2.tape, hb2.output, hb2.size, fun k hk => hb2.block k (by omega)⟩
  have hcc : ∀ (k : Nat) (op : Int), (partsS x.1)[k]? = some op → cur[k]? = some (Value.int .i64 op) := by
    intro k op hop
    have hk : k < (partsS x.1).length := (List.getElem?_eq_some_iff.1 hop).1
    have h1 : (cur.toList.take ((partsS x.1).length * 1))[k]? = some (.int .i64 op) := by rw [htake, List.getElem?_map, hop]; rfl
    rw [List.getElem?_take_of_lt (by omega)] at h1
    simpa using h1
  have HCC := V hcc
  have HPL : Hid ((partsS x.1).length ≤ 3) := hpl
  generalize hps0 : partsS x.1 = ps at *
  have HPS := V hps0
  have hplI : (ps.length : Int) ≤ 3 := by omega
  clear hb1 hb2 hBw ht1 hrow htake hcs hcpm hncp hcur hcc hgp HPC HXL HH HK0 HS hps0
  go_wp2_with fail
  go_loopw [5] (fun i wr => ∃ (k : Nat) (mk : MS), i = .int .i64 k ∧ k ≤ ps.length ∧ McE B wr b mk ∧ mk.ks = (gp, cur, 3) :: (w.heap.size, #[.int .i64 x.1, .int .i64 x.2], 65) :: m.ks ∧ partsRun x.2 (ps.drop k) mk = partsRun x.2 ps { m with pc := m.pc + 1, ks := (gp, cur, 3) :: (w.heap.size, #[.int .i64 x.1, .int .i64 x.2], 65) :: m.ks } ∧ Below B w wr) (fun i _ => ps.length - (intOf i).toNat)
  case atStart => exact ⟨0, _, rfl, Nat.zero_le _, ht2, rfl, rfl, hb12⟩
  case round =>
    clear ht2 hb12
    obtain ⟨k, mk, rfl, hk, ⟨u5, u6, u7, u8, hm⟩, hks, hrun, hbel⟩ := hrel
    by_cases hlt2 : k < ps.length
    · obtain ⟨op, hop⟩ : ∃ op, ps[k]? = some op := ⟨_, List.getElem?_eq_getElem hlt2⟩
      have hkept := hm.kept
      rw [hks] at hkept
      have hq1 : Blk wr gp cur 3 := hkept (gp, cur, 3) (List.mem_cons_self ..)
      have hcell := hq1.cell k
      rw [U HCC k op hop] at hcell
      have hq2 : Blk wr w.heap.size #[.int .i64 x.1, .int .i64 x.2] 65 := hkept (w.heap.size, #[.int .i64 x.1, .int .i64 x.2], 65) (List.mem_cons_of_mem _ (List.mem_cons_self ..))
      have hcell2 := hq2.cell
      have hq1l := hq1.lt
      have hBr : B ≤ wr.heap.size := by have := hm.base; have := hm.blk.lt; omega
      have hdrop : ps.drop k = op :: ps.drop (k + 1) := by
        obtain ⟨hlt', rfl⟩ := List.getElem?_eq_some_iff.1 hop
        exact List.drop_eq_getElem_cons hlt'
      rw [hdrop] at hrun
      have hoprange := U hpr op (List.mem_of_getElem? hop)
      have hltI2 : (k : Int) < ps.length := by omega
      have HR := V (refused_any B b mk op wr ⟨_, _, _, _, hm⟩)
      have HRUN := V hrun
      have HM := V hm
      have HKS := V hks
      clear hrun hkept hq1 hks hm hop
      go_wp2_with fail
      refine (U HR).mono ?_
      rintro e w3 ⟨rfl, hb3⟩
      have hm3 := McE.below ⟨_, _, _, _, U HM⟩ hb3
      have hq3 := hq2.below hb3 hq2.lt
      by_cases hz : refusedS mk op = 0
      · have HD : Hid (∀ n, Calls Tryz.prog 184 #[.pointer (some ⟨b, 0, none⟩), .int .i64 op, .int .i64 x.2] (w3.drewN n) fun e w' => e = .returned (.tuple #[]) ∧ McE B w' b (doS mk op x.2) ∧ Below B (w3.drewN n) w') := fun n => do_any B b mk op x.2 (w3.drewN n) (by obtain ⟨_, _, _, _, h3⟩ := hm3; exact ⟨_, _, _, _, h3.drewN n⟩) (U harg) hoprange hz
        have hcell3 := hq3.cell
        have hp3 : w3.cell? ⟨gp, k, none⟩ = some (.int .i64 op) := by
          have : gp < wr.heap.size := hq1l
          rw [hb3.cell (by simpa using this)]; exact hcell
        go_wp2_with fail
        go_region_law (refine step_call rfl 184 #[.tmp 45, .tmp 49, .tmp 51] #[185, 3, 2] rfl Tryz.func184 Tryz.name184 Tryz.body184 #[.pointer (some ⟨b, 0, none⟩), .int .i64 op, .int .i64 x.2] (by first | (simp [Act.eval]; done) | (simp [Act.eval, Act.put]; done) | rfl) (U HD _) ?_; rintro e w4 ⟨rfl, hm4, hb4⟩; refine ⟨_, rfl, ?_⟩; have HM4 := V hm4; have HB4 := V (below_drewN hb4); clear hm4 hb4)
        all_goals
          go_wp2_with fail
          go_roundw
          case rel =>
            refine ⟨k + 1, doS mk op x.2, by go_num, by omega, U HM4, by rw [doS_keeps]; exact U HKS, ?_, (hbel.trans (hb3.mono hBr)).trans (U HB4)⟩
            have hr := U HRUN
            rw [partsRun, if_pos hz] at hr
            exact hr
          case measure => simp [intOf]; omega
      · have hz' : (refusedS mk op == 0) = false := by simpa using hz
        go_wp2_with fail
        go_ret
        have hr := U HRUN
        rw [partsRun, if_neg hz] at hr
        obtain ⟨h1, h2⟩ := step_fin (m := { m with pc := m.pc + 1 }) hr.symm hm3
        rw [← U HPS] at h1 h2
        exact ⟨ret_int h2, h1, hbel.trans (hb3.mono hBr)⟩
    · have hkn : k = ps.length := by omega
      subst hkn
      go_wp2_with fail
      go_ret
      rw [List.drop_length, partsRun] at hrun
      obtain ⟨h1, h2⟩ := step_fin (m := { m with pc := m.pc + 1 }) hrun.symm ⟨_, _, _, _, hm⟩
      rw [← U HPS] at h1 h2
      exact ⟨ret_int h2, h1, hbel⟩
end Go.Proofs.YtmeiikjpaepogaaGreatDoor
