/- The statements' world: ran. -/
import Derived.Test.YtbcjfiaacenhgaaGreatDoorG44
namespace Go.Proofs.YtbcjfiaacenhgaaGreatDoor
open Go Go.RowKit

theorem Tryz.name23 : (Tryz.f23.name == "runtime.NumGoroutine") = false := by kernel_rfl
theorem Tryz.body23 : Tryz.f23.body.isNone = false := by kernel_rfl
theorem Tryz.name24 : (Tryz.f24.name == "runtime.NumGoroutine") = false := by kernel_rfl
theorem Tryz.body24 : Tryz.f24.body.isNone = false := by kernel_rfl

/-- The reference's Run: some outcome. -/
theorem run_some (p : Nat) (ls la lc lo fuel : Int) (l : List (Int × Int)) (en ce : Int) (w : World) (hcd : Cd w.heap.size w p l en ce) (hok : CodeOk l) (hen : 0 ≤ en ∧ en < l.length) (hce : 0 ≤ ce ∧ ce ≤ 1000) (hfu : fuel ≤ 1000000000) :
    Calls Tryz.prog 24 #[.pointer (some ⟨p, 0, none⟩), .agg #[.int .i64 ls, .int .i64 la, .int .i64 lc, .int .i64 lo], .int .i64 fuel] w fun e w' => ∃ er vS vC out st lS lC, e = .returned (outV er vS vC out st) ∧ OutIs w' w.heap.size vS vC lS lC ∧ Below w.heap.size w w' := by
  by_cases hl : limsOk ls la lc lo
  · refine (run_ref p ls la lc lo fuel l en ce w hcd hok hen hce hl hfu _ rfl).mono ?_
    rintro e w' ⟨vS, vC, rfl, h0, h1, hb⟩
    by_cases he : (runM l fuel.toNat 0 (startM p ls la lc lo en ce)).2.1 = 0
    · obtain ⟨a, b, ka, kb⟩ := h0 he
      exact ⟨_, _, _, _, _, _, _, rfl, ⟨a, b, by omega, by omega⟩, hb⟩
    · obtain ⟨rfl, rfl⟩ := h1 he
      exact ⟨_, _, _, _, _, [], [], rfl, ⟨World.ownsRow_nil _ _ _ _, World.ownsRow_nil _ _ _ _, by simp⟩, hb⟩
  · refine (run_limit p ls la lc lo fuel w hl).mono ?_
    rintro e w' ⟨rfl, hb⟩
    exact ⟨_, _, _, _, _, [], [], rfl, ⟨World.ownsRow_nil _ _ _ _, World.ownsRow_nil _ _ _ _, by simp⟩, hb⟩

theorem OutIs.far {w : World} {b : Nat} {vS vC : Value} {ls lc : List Int} (h : OutIs w b vS vC ls lc) {x : Nat} (hx : x < b) (i : Nat) (u : Value) : OutIs (w.setCell ⟨x, i, none⟩ u) b vS vC ls lc :=
  ⟨ownsRow_far h.s (fun e => by have := (ownsRow_lt h.s e).2; simp at this; omega) u, ownsRow_far h.c (fun e => by have := (ownsRow_lt h.c e).2; simp at this; omega) u, h.small⟩
theorem OutIs.base {w : World} {b b' : Nat} {vS vC : Value} {ls lc : List Int} (h : OutIs w b vS vC ls lc) (hb : b' ≤ b) : OutIs w b' vS vC ls lc := ⟨ownsRow_base h.s hb, ownsRow_base h.c hb, h.small⟩
/-- An outcome in a block of its own. -/
structure OutAt (w : World) (b : Nat) (v : Value) (er : Int) (vS vC : Value) (out : ByteArray) (st : Int) (ls lc : List Int) (x : Nat) : Prop where
  ptr : v = .pointer (some ⟨x, 0, none⟩)
  blk : Blk w x #[.int .i64 er, vS, vC, .string out, .int .i64 st] 73
  lists : OutIs w b vS vC ls lc
  base : b ≤ x
theorem OutAt.below {w w' : World} {b : Nat} {v : Value} {er : Int} {vS vC : Value} {out : ByteArray} {st : Int} {ls lc : List Int} {x : Nat} (h : OutAt w b v er vS vC out st ls lc x) (hb : Below w.heap.size w w') : OutAt w' b v er vS vC out st ls lc x := ⟨h.ptr, h.blk.below hb h.blk.lt, h.lists.below hb, h.base⟩
/-- The call first, then the block. -/
theorem out_after {W w1 : World} {er : Int} {vS vC : Value} {out : ByteArray} {st : Int} {ls lc : List Int} (ho : OutIs w1 W.drew.heap.size vS vC ls lc) (hb' : Below W.drew.heap.size W.drew w1) :
    OutAt (w1.alloc (.cells #[.int .i64 er, vS, vC, .string out, .int .i64 st] 73)) W.heap.size (.pointer (some ⟨w1.heap.size, 0, none⟩)) er vS vC out st ls lc w1.heap.size ∧
    Below W.heap.size W (w1.alloc (.cells #[.int .i64 er, vS, vC, .string out, .int .i64 st] 73)) := by
  have hb : Below W.heap.size W w1 := ((Below.refl W.heap.size W).drew).trans hb'
  have hb2 : Below w1.heap.size w1 (w1.alloc (.cells #[.int .i64 er, vS, vC, .string out, .int .i64 st] 73)) := (Below.refl _ _).alloc (Nat.le_refl _) _
  exact ⟨⟨rfl, Blk.new w1 _ _, ho.below hb2, hb.size⟩, hb.trans (hb2.mono hb.size)⟩
/-- The block first, then the call. -/
theorem out_ahead {W w1 : World} {er : Int} {vS vC : Value} {out : ByteArray} {st : Int} {ls lc : List Int} (ho : OutIs w1 (W.heap.size + 1) vS vC ls lc) (hb : Below (W.heap.size + 1) (W.alloc (.cells #[.int .i64 0, .slice none 0 0, .slice none 0 0, .string ⟨#[]⟩, .int .i64 0] 73)).drew w1) :
    OutAt (((((w1.setCell ⟨W.heap.size, 0, none⟩ (.int .i64 er)).setCell ⟨W.heap.size, 1, none⟩ vS).setCell ⟨W.heap.size, 2, none⟩ vC).setCell ⟨W.heap.size, 3, none⟩ (.string out)).setCell ⟨W.heap.size, 4, none⟩ (.int .i64 st)) W.heap.size (.pointer (some ⟨W.heap.size, 0, none⟩)) er vS vC out st ls lc W.heap.size ∧
    Below W.heap.size W (((((w1.setCell ⟨W.heap.size, 0, none⟩ (.int .i64 er)).setCell ⟨W.heap.size, 1, none⟩ vS).setCell ⟨W.heap.size, 2, none⟩ vC).setCell ⟨W.heap.size, 3, none⟩ (.string out)).setCell ⟨W.heap.size, 4, none⟩ (.int .i64 st)) := by
  have hR := (Blk.new W #[.int .i64 0, .slice none 0 0, .slice none 0 0, .string ⟨#[]⟩, .int .i64 0] 73).drew.below hb (by omega)
  have hb1 : Below W.heap.size W w1 := (((Below.refl _ _).alloc (Nat.le_refl _) _).drew).trans (hb.mono (by omega))
  have hx : W.heap.size < W.heap.size + 1 := by omega
  refine ⟨⟨rfl, out_set hR rfl, (((((ho.far hx _ _).far hx _ _).far hx _ _).far hx _ _).far hx _ _).base (by omega), Nat.le_refl _⟩, ?_⟩
  exact ((((hb1.setCell (Nat.le_refl _) _).setCell (Nat.le_refl _) _).setCell (Nat.le_refl _) _).setCell (Nat.le_refl _) _).setCell (Nat.le_refl _) _

set_option maxRecDepth 100000 in
set_option maxHeartbeats 4000000 in
theorem ran_any (P : Prg) (B bw : Nat) (ps hs : List Nat) (vp vh : Value) (q : Nat) (w : World) (henv : P.Env w) (hP : PlayerIs P w q) (h : Lw B w bw ps hs vp vh) (hh : HoldsOk w hs) (hlen : hs.length + 8 ≤ 17592186044416)
    (kind n : Int) (s : ByteArray) (b0 b1 b2 : Bool) (vl : Value) (en ce l1 l2 l3 l4 fu : Int) :
    Calls Tryz.prog 12 #[.pointer (some ⟨bw, 0, none⟩), .pointer (some ⟨q, 0, none⟩), opV kind n s b0 b1 b2 vl en ce l1 l2 l3 l4 fu] w fun e w' => (∃ r, e = .returned (.bool r)) ∧ ∃ hs' vh', Lw B w' bw ps hs' vp vh' ∧ HoldsOk w' hs' ∧ hs'.length = hs.length + 8 ∧ LawStill w w' ∧ Below B w w' := by
  obtain ⟨c, p, l, en0, ce0, hq, hcode, hcd, hok, hen, hce⟩ := hP
  have hBw : B ≤ w.heap.size := by have := h.base; have := h.blk.lt; omega
  have hql := hq.lt
  unfold opV
  -- the outcome of the program's run, in whatever world that only is longer
  have HR1 : Hid (∀ W, Below w.heap.size w W → Calls Tryz.prog 23 #[.pointer (some ⟨c, 0, none⟩), .agg #[.int .i64 l1, .int .i64 l2, .int .i64 l3, .int .i64 l4], .int .i64 (fu.tmod 3000)] W fun e w' => ∃ er vS vC out st ls lc, e = .returned (outV er vS vC out st) ∧ OutIs w' W.heap.size vS vC ls lc ∧ (ls.length ≤ 1000 ∧ lc.length ≤ 1000 ∧ ∀ j, vS.ownBlock = some j → vC.ownBlock ≠ some j) ∧ Below W.heap.size W w') := fun W hW => P.run W c l en0 ce0 l1 l2 l3 l4 _ (P.env henv hW) (P.law hcode (LawStill.ofBelow hW)) hok hen hce ⟨by have := Int.tmod_lt_of_pos (-fu) (show (0:Int) < 3000 by omega); rw [Int.neg_tmod] at this; omega, Int.tmod_lt_of_pos fu (by omega)⟩
  have HR2 : Hid (∀ W, Below w.heap.size w W → Calls Tryz.prog 24 #[.pointer (some ⟨p, 0, none⟩), .agg #[.int .i64 l1, .int .i64 l2, .int .i64 l3, .int .i64 l4], .int .i64 (fu.tmod 3000)] W fun e w' => ∃ er vS vC out st lS lC, e = .returned (outV er vS vC out st) ∧ OutIs w' W.heap.size vS vC lS lC ∧ Below W.heap.size W w') := fun W hW => run_some p l1 l2 l3 l4 _ l en0 ce0 W (hcd.law (LawStill.ofBelow hW)) hok hen hce (by have := Int.tmod_lt_of_pos fu (show (0:Int) < 3000 by omega); omega)
  have hc := hq.cell
  have HQ := hide hq
  have HL := hide h
  have HH := hide hh
  clear hq hcode hcd hok hen hce henv h hh
  generalize hft : fu.tmod 3000 = ft at HR1 HR2
  have hftI : IntKind.i64.wrap ft = ft := by
    rw [IntKind.wrap_i64]
    have h1 := Int.tmod_lt_of_pos (-fu) (show (0:Int) < 3000 by omega)
    rw [Int.neg_tmod] at h1
    have h2 := Int.tmod_lt_of_pos fu (show (0:Int) < 3000 by omega)
    omega
  unfold outV at HR1 HR2
  go_enter Tryz.func12, Tryz.ntmps12
  go_wp2_with fail
  have hOp := Blk.new w (opC kind n s b0 b1 b2 vl en ce l1 l2 l3 l4 fu) 32
  have hb0 : Below w.heap.size w (w.alloc (.cells (opC kind n s b0 b1 b2 vl en ce l1 l2 l3 l4 fu) 32)) := (Below.refl _ _).alloc (Nat.le_refl _) _
  have hs0 : (w.alloc (.cells (opC kind n s b0 b1 b2 vl en ce l1 l2 l3 l4 fu) 32)).heap.size = w.heap.size + 1 := by simp
  unfold opC at hOp hb0 hs0
  generalize w.alloc (.cells #[.int .i64 kind, .int .i64 n, .string s, .bool b0, .bool b1, .bool b2, vl, .int .i64 en, .int .i64 ce, .int .i64 l1, .int .i64 l2, .int .i64 l3, .int .i64 l4, .int .i64 fu] 32) = W0 at hOp hb0 hs0 ⊢
  have HOP := hide hOp
  have HB0 := hide hb0
  have hcO := hOp.cell
  have hcQ := ((unhide HQ).below hb0 hql).cell
  have hqW : q < W0.heap.size := by omega
  have hoW : w.heap.size < W0.heap.size := by omega
  have HS0 := hide hs0
  have hBW0 : w.heap.size ≤ W0.heap.size := by omega
  clear hOp hb0 hc hft hs0
  generalize (Value.agg #[.int .i64 kind, .int .i64 n, .string s, .bool b0, .bool b1, .bool b2, vl, .int .i64 en, .int .i64 ce, .int .i64 l1, .int .i64 l2, .int .i64 l3, .int .i64 l4, .int .i64 fu]) = vop
  go_cut [8] from 14 to 49 (fun s8 wc => ∃ (er : Int) (a1 : Option Addr) (k1 : Nat) (a2 : Option Addr) (k2 : Nat) (out : ByteArray) (st : Int) (ls lc : List Int) (x : Nat), OutAt wc W0.heap.size s8 er (.slice a1 ls.length k1) (.slice a2 lc.length k2) out st ls lc x ∧ (ls.length ≤ 1000 ∧ lc.length ≤ 1000 ∧ ∀ j, (Value.slice a1 ls.length k1).ownBlock = some j → (Value.slice a2 lc.length k2).ownBlock ≠ some j) ∧ Below W0.heap.size W0 wc)
  case first =>
    go_region_law (first
      | (refine step_call rfl 23 #[.tmp 17, .tmp 19, .tmp 20] #[47, 27, 3] rfl Tryz.func23 Tryz.name23 Tryz.body23 #[.pointer (some ⟨c, 0, none⟩), .agg #[.int .i64 l1, .int .i64 l2, .int .i64 l3, .int .i64 l4], .int .i64 ft] (by first | (simp [Act.eval]; done) | (simp [Act.eval, Act.put]; done) | rfl) (unhide HR1 W0.drew (unhide HB0).drew) ?_; rintro e w1 ⟨er, vS, vC, out, st, ls, lc, rfl, ho1, hsm1, hb1⟩; obtain ⟨a1, k1, rfl⟩ := own_shape ho1.s; obtain ⟨a2, k2, rfl⟩ := own_shape ho1.c; have HSM := hide hsm1; clear hsm1; have HRES := hide (out_after (W := W0) (er := er) (out := out) (st := st) ho1 hb1); clear ho1 hb1; refine ⟨_, rfl, ?_⟩)
      | (refine step_call rfl 23 #[.tmp 17, .tmp 19, .tmp 20] #[47, 27, 3] rfl Tryz.func23 Tryz.name23 Tryz.body23 #[.pointer (some ⟨c, 0, none⟩), .agg #[.int .i64 l1, .int .i64 l2, .int .i64 l3, .int .i64 l4], .int .i64 ft] (by first | (simp [Act.eval]; done) | (simp [Act.eval, Act.put]; done) | rfl) (unhide HR1 (W0.alloc (.cells #[.int .i64 0, .slice none 0 0, .slice none 0 0, .string ⟨#[]⟩, .int .i64 0] 73)).drew ((unhide HB0).alloc hBW0 _).drew) ?_; rintro e w1 ⟨er, vS, vC, out, st, ls, lc, rfl, ho1, hsm1, hb1⟩; obtain ⟨a1, k1, rfl⟩ := own_shape ho1.s; obtain ⟨a2, k2, rfl⟩ := own_shape ho1.c; have hsz : (W0.alloc (.cells #[.int .i64 0, .slice none 0 0, .slice none 0 0, .string ⟨#[]⟩, .int .i64 0] 73)).drew.heap.size = W0.heap.size + 1 := by simp [World.drew]
         rw [hsz] at ho1 hb1; have HSM := hide hsm1; clear hsm1; have hR := (Blk.new W0 #[.int .i64 0, .slice none 0 0, .slice none 0 0, .string ⟨#[]⟩, .int .i64 0] 73).drew.below hb1 (by omega); have hcR := hR.cell; have hfR := hR.free; have HRES := hide (out_ahead (W := W0) (er := er) (out := out) (st := st) ho1 hb1); clear ho1 hb1 hR; refine ⟨_, rfl, ?_⟩))
    all_goals
      go_wp2_with fail
      go_meet
      exact ⟨er, a1, k1, a2, k2, out, st, ls, lc, _, (unhide HRES).1, unhide HSM, (unhide HRES).2⟩
  case rest =>
    obtain ⟨er, a1, k1, a2, k2, out, st, ls, lc, x, ho, hsm, hbc⟩ := hcut
    obtain rfl := ho.ptr
    have hcO2 := ((unhide HOP).below hbc hoW).cell
    have hcQ2 := (((unhide HQ).below (unhide HB0) hql).below hbc hqW).cell
    have hqC : q < wc.heap.size := by have := hbc.size; omega
    have hoC : w.heap.size < wc.heap.size := by have := hbc.size; omega
    have HBC : Hid (Below w.heap.size w wc) := (unhide HB0).trans (hbc.mono hBW0)
    have HBC0 := hide hbc
    have HSM := hide hsm
    clear hsm
    have HO := hide ho
    have hwC : w.heap.size ≤ wc.heap.size := by omega
    clear hcO hcQ ho hbc
    obtain ⟨wb, rfl⟩ : ∃ wb : World, wb = wc := ⟨_, rfl⟩
    go_wp2_with fail
    go_cut [9] from 14 to 49 (fun s9 wd => ∃ (er : Int) (a1 : Option Addr) (k1 : Nat) (a2 : Option Addr) (k2 : Nat) (out : ByteArray) (st : Int) (ls lc : List Int) (x : Nat), OutAt wd wb.heap.size s9 er (.slice a1 ls.length k1) (.slice a2 lc.length k2) out st ls lc x ∧ Below wb.heap.size wb wd)
    case first =>
      go_region_law (first
        | (refine step_call rfl 24 #[.tmp 25, .tmp 27, .tmp 28] #[51, 27, 3] rfl Tryz.func24 Tryz.name24 Tryz.body24 #[.pointer (some ⟨p, 0, none⟩), .agg #[.int .i64 l1, .int .i64 l2, .int .i64 l3, .int .i64 l4], .int .i64 ft] (by first | (simp [Act.eval]; done) | (simp [Act.eval, Act.put]; done) | rfl) (unhide HR2 wb.drew (unhide HBC).drew) ?_; rintro e w1 ⟨er', vS', vC', out', st', ls', lc', rfl, ho1, hb1⟩; obtain ⟨a1', k1', rfl⟩ := own_shape ho1.s; obtain ⟨a2', k2', rfl⟩ := own_shape ho1.c; have HRES := hide (out_after (W := wb) (er := er') (out := out') (st := st') ho1 hb1); clear ho1 hb1; refine ⟨_, rfl, ?_⟩)
        | (refine step_call rfl 24 #[.tmp 25, .tmp 27, .tmp 28] #[51, 27, 3] rfl Tryz.func24 Tryz.name24 Tryz.body24 #[.pointer (some ⟨p, 0, none⟩), .agg #[.int .i64 l1, .int .i64 l2, .int .i64 l3, .int .i64 l4], .int .i64 ft] (by first | (simp [Act.eval]; done) | (simp [Act.eval, Act.put]; done) | rfl) (unhide HR2 (wb.alloc (.cells #[.int .i64 0, .slice none 0 0, .slice none 0 0, .string ⟨#[]⟩, .int .i64 0] 73)).drew ((unhide HBC).alloc hwC _).drew) ?_; rintro e w1 ⟨er', vS', vC', out', st', ls', lc', rfl, ho1, hb1⟩; obtain ⟨a1', k1', rfl⟩ := own_shape ho1.s; obtain ⟨a2', k2', rfl⟩ := own_shape ho1.c; have hsz : (wb.alloc (.cells #[.int .i64 0, .slice none 0 0, .slice none 0 0, .string ⟨#[]⟩, .int .i64 0] 73)).drew.heap.size = wb.heap.size + 1 := by simp [World.drew]
           rw [hsz] at ho1 hb1; have hR := (Blk.new wb #[.int .i64 0, .slice none 0 0, .slice none 0 0, .string ⟨#[]⟩, .int .i64 0] 73).drew.below hb1 (by omega); have hcR := hR.cell; have hfR := hR.free; have HRES := hide (out_ahead (W := wb) (er := er') (out := out') (st := st') ho1 hb1); clear ho1 hb1 hR; refine ⟨_, rfl, ?_⟩))
      all_goals
        go_wp2_with fail
        go_meet
        exact ⟨er', a1', k1', a2', k2', out', st', ls', lc', _, (unhide HRES).1, (unhide HRES).2⟩
    case rest =>
      obtain ⟨er', a1', k1', a2', k2', out', st', ls', lc', x', ho', hbd⟩ := hcut
      obtain rfl := ho'.ptr
      have ho := (unhide HO).below hbd
      have hqd := (((unhide HQ).below (unhide HB0) hql).below (unhide HBC0) hqW).below hbd hqC
      have hod := ((unhide HOP).below (unhide HBC0) hoW).below hbd hoC
      have hbwd : Below w.heap.size w wc := (unhide HBC).trans (hbd.mono hwC)
      have HRP := hide (right_plain q _ _ l1 l2 l3 l4 ft er er' ls ls' lc lc' out out' st st' _ _ _ _ _ _ wc hqd ho.lists ho'.lists)
      unfold outV at HRP
      have hcx := ho.blk.cell
      have hcx' := ho'.blk.cell
      have hcq := hqd.cell
      have hco := hod.cell
      have HX := hide ho
      have HBD := hide hbwd
      generalize sameS er er' ls ls' lc lc' out out' = sm at HRP
      clear ho ho' hqd hod hbwd hbd hcO2 hcQ2
      go_wp2_with fail
      refine (unhide HRP).mono ?_
      rintro e w3 ⟨rfl, hb3⟩
      generalize (sm && st == st') = res
      -- the first list is kept
      have hx3 := (unhide HX).below hb3
      have hbw3 : Below w.heap.size w w3 := (unhide HBD).trans (hb3.mono (unhide HBD).size)
      have hl3 := (unhide HL).below hbw3
      have hblk := Blk.new w3 #[.slice none 0 0, .slice a1 ls.length k1, .int .i64 0] 65
      have hbA : Below w3.heap.size w3 (w3.alloc (.cells #[.slice none 0 0, .slice a1 ls.length k1, .int .i64 0] 65)) := (Below.refl _ _).alloc (Nat.le_refl _) _
      have hx4 := hx3.below hbA
      have hrs := ownsRow_base hx4.lists.s (Nat.zero_le _)
      have hbw4 : Below w.heap.size w (w3.alloc (.cells #[.slice none 0 0, .slice a1 ls.length k1, .int .i64 0] 65)) := hbw3.trans (hbA.mono hbw3.size)
      have HK := hide (keep_any B bw ps hs vp vh w3.heap.size 0 (.slice none 0 0) (.slice a1 ls.length k1) [] ls _ (hl3.alloc _) hblk (World.ownsRow_nil _ _ _ _) hrs (by simp) (by have := (unhide HSM).1; omega) (by omega))
      have HL4 := hide (hl3.alloc (.cells #[.slice none 0 0, .slice a1 ls.length k1, .int .i64 0] 65))
      have HX4 := hide hx4
      have HBLK := hide hblk
      have HBW4 := hide hbw4
      have HRS := hide hrs
      have hxl := hx3.blk.lt
      have hcx3 := hx3.blk.cell
      have hw3 : w.heap.size ≤ w3.heap.size := hbw3.size
      clear hb3 hx3 hbw3 hl3 hblk hbA hx4 hrs hbw4 HRP hcx hcx' hcq hco
      go_wp2_with fail
      refine (unhide HK).mono ?_
      rintro e w5 ⟨rfl, gl, qg, vig, vng, vh5, hkp⟩
      have hvS : ∀ j, (Value.slice a1 ls.length k1).ownBlock = some j → w.heap.size ≤ j := fun j hj => by have := (ownsRow_lt (unhide HX4).lists.s hj).2; omega
      have hvC : ∀ j, (Value.slice a2 lc.length k2).ownBlock = some j → w.heap.size ≤ j := fun j hj => by have := (ownsRow_lt (unhide HX4).lists.c hj).2; omega
      have hnil : ∀ j, (Value.slice none 0 0).ownBlock = some j → w.heap.size ≤ j := fun j hj => by simp [Value.ownBlock] at hj
      obtain ⟨hlaw5, hbB5⟩ := hkp.law (w := w) (unhide HL4) (LawStill.ofBelow (unhide HBW4)) ((unhide HBW4).mono hBw) hBw hw3 hnil hvS
      have hh5 := hkp.holds (unhide HL4) ((unhide HH).free (LawStill.ofBelow (unhide HBW4)) hw3 hnil hvS) (unhide HBLK) (World.ownsRow_nil _ _ _ _) (unhide HRS)
      have hrc4 := (unhide HX4).lists.c
      have hrc5 : w5.ownsRow 0 2 1 (.slice a2 lc.length k2) lc.length (intCells lc) := by
        refine ownsRow_base (ownsRow_still hrc4 hkp.still ?_) (Nat.zero_le _)
        rintro j hj (e | e | e | e)
        · exact (unhide HL4).notrow hrc4 (by decide) (by decide) (by decide) hj e
        · exact row_not_blk (unhide HBLK) hrc4 (by decide) (by rw [hj, e])
        · simp [Value.ownBlock] at e
        · exact (unhide HSM).2.2 j e hj
      have hbx5 : Blk w5 x #[.int .i64 er, .slice a1 ls.length k1, .slice a2 lc.length k2, .string out, .int .i64 st] 73 := by
        refine (unhide HX4).blk.still hkp.still ?_
        rintro (e | e | e | e)
        · exact (unhide HL4).notfoot (unhide HX4).blk (by decide) (by decide) (by decide) e
        · omega
        · simp [Value.ownBlock] at e
        · exact row_not_blk (unhide HX4).blk (unhide HX4).lists.s (by decide) e
      have hl5 := hkp.lw
      have hlen5 : (hs ++ gl).length = hs.length + 4 := by simp [hkp.len]
      have hsz4 : w3.heap.size + 1 ≤ w5.heap.size := by have := hkp.still.size; simpa using this
      have hlt4 : ∀ j, (Value.slice a2 lc.length k2).ownBlock = some j → j < w3.heap.size + 1 := fun j hj => by have := (ownsRow_lt hrc4 hj).1; simpa using this
      have hblk5 := Blk.new w5 #[.slice none 0 0, .slice a2 lc.length k2, .int .i64 0] 65
      have hbA5 : Below w5.heap.size w5 (w5.alloc (.cells #[.slice none 0 0, .slice a2 lc.length k2, .int .i64 0] 65)) := (Below.refl _ _).alloc (Nat.le_refl _) _
      have hrc6 := ownsRow_alloc hrc5 (.cells #[.slice none 0 0, .slice a2 lc.length k2, .int .i64 0] 65)
      have hlaw6 : LawStill w (w5.alloc (.cells #[.slice none 0 0, .slice a2 lc.length k2, .int .i64 0] 65)) := hlaw5.trans (LawStill.ofBelow hbA5)
      have HK2 := hide (keep_any B bw ps (hs ++ gl) vp vh5 w5.heap.size 0 (.slice none 0 0) (.slice a2 lc.length k2) [] lc _ (hl5.alloc _) hblk5 (World.ownsRow_nil _ _ _ _) hrc6 (by simp) (by have := (unhide HSM).2.1; omega) (by omega))
      have hfree : HoldsFree (w5.alloc (.cells #[.slice none 0 0, .slice a2 lc.length k2, .int .i64 0] 65)) (hs ++ gl) w5.heap.size (.slice none 0 0) (.slice a2 lc.length k2) := by
        intro y hy
        rcases List.mem_append.1 hy with hy | hy
        · obtain ⟨mk, vi', vn', ni, nn, h1⟩ := unhide HH y hy
          have hlt := h1.blk.lt
          refine ⟨by omega, mk, vi', vn', ni, nn, hlaw6.hold h1, ?_⟩
          rintro j (e | e)
          · simp [Value.ownBlock] at e
          · have := hvC j e
            exact ⟨fun e2 => by have := (ownsRow_lt h1.is e2).1; omega, fun e2 => by have := (ownsRow_lt h1.ns e2).1; omega⟩
        · obtain ⟨vi', vn', ni', nn', h1, _, _, h4, h5, _⟩ := hkp.all y hy
          have hlt := h1.blk.lt
          refine ⟨by omega, _, vi', vn', ni', nn', h1.alloc _, ?_⟩
          rintro j (e | e)
          · simp [Value.ownBlock] at e
          · have := hlt4 j e
            refine ⟨fun e2 => ?_, fun e2 => ?_⟩
            · exact rows_apart hrc5 h1.is (by decide) e e2
            · rcases h5 j e2 with e3 | e3
              · exact (unhide HSM).2.2 j e3 e
              · simp at e3; omega
      have HL6 := hide (hl5.alloc (.cells #[.slice none 0 0, .slice a2 lc.length k2, .int .i64 0] 65))
      have HF6 := hide hfree
      have HBLK6 := hide hblk5
      have HRC6 := hide hrc6
      have HLAW6 := hide hlaw6
      have hBB6 : Below B w (w5.alloc (.cells #[.slice none 0 0, .slice a2 lc.length k2, .int .i64 0] 65)) := hbB5.trans (hbA5.mono (by omega))
      have HBB6 := hide hBB6
      have hcx5 := hbx5.cell
      have hxl5 := hbx5.lt
      have HLEN := hide hlen5
      have HVC := hide hvC
      have HNIL := hide hnil
      clear hkp hlaw5 hbB5 hh5 hrc4 hrc5 hbx5 hl5 hblk5 hbA5 hrc6 hlaw6 hfree hBB6 hcx3 HK hlen5 hvS hvC hnil hlt4
      go_wp2_with fail
      refine (unhide HK2).mono ?_
      rintro e w7 ⟨rfl, gl2, qg2, vig2, vng2, vh7, hkp2⟩
      have HKP2 := hide hkp2
      clear hkp2
      go_wp2_with fail
      go_ret
      obtain ⟨o1, o2⟩ := (unhide HKP2).law (w := w) (unhide HL6) (unhide HLAW6) (unhide HBB6) hBw (by omega) (unhide HNIL) (unhide HVC)
      have o3 := (unhide HKP2).holds (unhide HL6) (unhide HF6) (unhide HBLK6) (World.ownsRow_nil _ _ _ _) (unhide HRC6)
      exact ⟨⟨_, rfl⟩, hs ++ gl ++ gl2, vh7, (unhide HKP2).lw, o3, by rw [List.length_append, unhide HLEN, (unhide HKP2).len], o1, o2⟩

end Go.Proofs.YtbcjfiaacenhgaaGreatDoor

