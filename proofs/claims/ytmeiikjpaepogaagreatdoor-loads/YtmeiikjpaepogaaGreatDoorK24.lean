/- The statements' example; Compiles, given the program's contracts. -/
import Derived.Test.YtmeiikjpaepogaaGreatDoorK23
import Derived.Deep.CutRange
namespace Go.Proofs.YtmeiikjpaepogaaGreatDoor
open Go Go.RowKit

def exText : ByteArray := ⟨#[58, 32, 102, 32, 100, 117, 112, 32, 105, 102, 32, 49, 32, 45, 32, 114, 101, 99, 117, 114, 115, 101, 32, 116, 104, 101, 110, 32, 59, 32, 51, 32, 102, 32, 46, 32, 49, 32, 50, 32, 43, 32, 46, 32, 51, 32, 48, 32, 100, 111, 32, 105, 32, 46, 32, 108, 111, 111, 112]⟩

def exOp (b : Nat) : Nat → Array Value
  | 0 => opC 1 0 exText false false false (.slice none 0 0) 0 0 0 0 0 0 0
  | 1 => opC 1 0 ⟨#[49, 32, 101, 108, 115, 101]⟩ false false false (.slice none 0 0) 0 0 0 0 0 0 0
  | 2 => opC 3 0 ⟨#[]⟩ false false false (.slice none 0 0) 0 0 0 0 0 0 0
  | 3 => opC 4 0 ⟨#[]⟩ false false false (.slice none 0 0) 0 0 10 10 10 100 100
  | 4 => opC 1 0 exText true true true (.slice none 0 0) 0 0 0 0 0 0 0
  | 5 => opC 4 1 ⟨#[]⟩ false false false (.slice none 0 0) 0 0 10 10 10 100 100
  | 6 => opC 1 0 exText false false true (.slice none 0 0) 0 0 0 0 0 0 0
  | 7 => opC 3 2 ⟨#[]⟩ false false false (.slice none 0 0) 0 0 0 0 0 0 0
  | _ => opC 2 0 ⟨#[]⟩ false false false (.slice (some ⟨b, 0, none⟩) 1 1) 0 0 0 0 0 0 0
theorem exOp_ok (b k : Nat) : OpOk (exOp b k) := by
  unfold exOp
  split
  all_goals exact ⟨_, _, _, _, _, _, _, _, _, _, _, _, _, _, _, _, rfl, by unfold inI; omega⟩

theorem Tryz.infoOp : (Tryz.prog.info? 63).map (fun i => (i.zero, i.size, i.bytes)) = some (some (.agg #[.int .i64 0, .int .i64 0, .string ⟨#[]⟩, .bool false, .bool false, .bool false, .slice none 0 0, .int .i64 0, .int .i64 0, .int .i64 0, .int .i64 0, .int .i64 0, .int .i64 0, .int .i64 0]), 14, 120) := by kernel_rfl
theorem flat14 (xs : List (Array Value)) (h : ∀ cs ∈ xs, cs.size = 14) : ∀ (k : Nat) (cs : Array Value), xs[k]? = some cs → ∀ i, i < 14 → (xs.flatMap Array.toList)[k * 14 + i]? = cs[i]? := by
  induction xs with
  | nil => intro k cs hk; simp at hk
  | cons x xs ih =>
    intro k cs hk i hi
    have hx : x.toList.length = 14 := by have := h x (List.mem_cons_self ..); simpa using this
    rw [List.flatMap_cons]
    cases k with
    | zero =>
      simp at hk
      subst hk
      rw [List.getElem?_append_left (by omega)]
      simp
    | succ k =>
      simp at hk
      rw [List.getElem?_append_right (by omega)]
      have e : (k + 1) * 14 + i - x.toList.length = k * 14 + i := by omega
      rw [e]
      exact ih (fun cs hcs => h cs (List.mem_cons_of_mem _ hcs)) k cs hk i hi
theorem OpOk.size {cs : Array Value} (h : OpOk cs) : cs.size = 14 := by
  obtain ⟨_, _, _, _, _, _, _, _, _, _, _, _, _, _, _, _, rfl, _⟩ := h
  rfl
theorem script_of_row {w : World} {B : Nat} {v : Value} {xs : List (Array Value)} (h : w.ownsRow B 63 14 v xs.length (xs.flatMap Array.toList)) (hx : ∀ cs ∈ xs, OpOk cs) : ScriptIs w v xs.length := by
  obtain ⟨ao, cap, hv⟩ := own_shape h
  subst hv
  refine ⟨ao, cap, rfl, fun k hk => ?_⟩
  obtain ⟨g, cap', hv, _, hg⟩ := h.form (by omega)
  simp only [Value.slice.injEq, true_and] at hv
  obtain ⟨rfl, rfl⟩ := hv
  obtain ⟨cs, hcs⟩ : ∃ cs, xs[k]? = some cs := ⟨_, List.getElem?_eq_getElem hk⟩
  refine ⟨g, 0, cs, rfl, hg, hx cs (List.mem_of_getElem? hcs), fun i hi => ?_⟩
  have := own_cell h (k * 14 + i) (by omega)
  rw [flat14 xs (fun cs hcs => (hx cs hcs).size) k cs hcs i hi] at this
  rw [Nat.zero_add]
  exact this
/-- What a run comes to: the error, the output, the steps, the stack, the cells. -/
def outS (p : Nat) (l : List (Int × Int)) (en ce ls la lc lo fuel : Int) (x : Int × ByteArray × Int × List Int × List Int) : Prop :=
  (¬ limsOk ls la lc lo → x = (6, ⟨#[]⟩, 0, [], [])) ∧
  (limsOk ls la lc lo → (runM l fuel.toNat 0 (startM p ls la lc lo en ce)).2.1 = 0 → x = ((runM l fuel.toNat 0 (startM p ls la lc lo en ce)).2.1, (runM l fuel.toNat 0 (startM p ls la lc lo en ce)).1.out, (runM l fuel.toNat 0 (startM p ls la lc lo en ce)).2.2, (runM l fuel.toNat 0 (startM p ls la lc lo en ce)).1.stack, (runM l fuel.toNat 0 (startM p ls la lc lo en ce)).1.cells)) ∧
  (limsOk ls la lc lo → (runM l fuel.toNat 0 (startM p ls la lc lo en ce)).2.1 ≠ 0 → x = ((runM l fuel.toNat 0 (startM p ls la lc lo en ce)).2.1, (runM l fuel.toNat 0 (startM p ls la lc lo en ce)).1.out, (runM l fuel.toNat 0 (startM p ls la lc lo en ce)).2.2, [], []))
theorem outS_one {p : Nat} {l : List (Int × Int)} {en ce ls la lc lo fuel : Int} {x y : Int × ByteArray × Int × List Int × List Int} (h : outS p l en ce ls la lc lo fuel x) (k : outS p l en ce ls la lc lo fuel y) : x = y := by
  by_cases hl : limsOk ls la lc lo
  · by_cases he : (runM l fuel.toNat 0 (startM p ls la lc lo en ce)).2.1 = 0
    · rw [h.2.1 hl he, k.2.1 hl he]
    · rw [h.2.2 hl he, k.2.2 hl he]
  · rw [h.1 hl, k.1 hl]
/-- The reference's Run. -/
theorem run_out (p : Nat) (ls la lc lo fuel : Int) (l : List (Int × Int)) (en ce : Int) (w : World) (hcd : Cd w.heap.size w p l en ce) (hok : CodeOk l) (hen : 0 ≤ en ∧ en < l.length) (hce : 0 ≤ ce ∧ ce ≤ 1000) (hfu : fuel ≤ 1000000000) :
    Calls Tryz.prog 70 #[.pointer (some ⟨p, 0, none⟩), .agg #[.int .i64 ls, .int .i64 la, .int .i64 lc, .int .i64 lo], .int .i64 fuel] w fun e w' => ∃ er vS vC out st lS lC, e = .returned (outV er vS vC out st) ∧ OutIs w' w.heap.size vS vC lS lC ∧ Below w.heap.size w w' ∧ outS p l en ce ls la lc lo fuel (er, out, st, lS, lC) := by
  by_cases hl : limsOk ls la lc lo
  · refine (run_ref p ls la lc lo fuel l en ce w hcd hok hen hce hl hfu _ rfl).mono ?_
    rintro e w' ⟨vS, vC, rfl, h0, h1, hb⟩
    by_cases he : (runM l fuel.toNat 0 (startM p ls la lc lo en ce)).2.1 = 0
    · obtain ⟨a, b, ka, kb⟩ := h0 he
      exact ⟨_, _, _, _, _, _, _, rfl, ⟨a, b, by omega, by omega⟩, hb, fun hn => absurd hl hn, fun _ _ => rfl, fun _ hn => absurd he hn⟩
    · obtain ⟨rfl, rfl⟩ := h1 he
      exact ⟨_, _, _, _, _, [], [], rfl, ⟨World.ownsRow_nil _ _ _ _, World.ownsRow_nil _ _ _ _, by simp⟩, hb, fun hn => absurd hl hn, fun _ h0 => absurd h0 he, fun _ _ => rfl⟩
  · refine (run_limit p ls la lc lo fuel w hl).mono ?_
    rintro e w' ⟨rfl, hb⟩
    exact ⟨_, _, _, _, _, [], [], rfl, ⟨World.ownsRow_nil _ _ _ _, World.ownsRow_nil _ _ _ _, by simp⟩, hb, fun _ => rfl, fun hy => absurd hy hl, fun hy => absurd hy hl⟩
/-- The program runs code as the reference does. -/
def RunsAs (P : Prg) : Prop := ∀ (w : World) (c p : Nat) (l : List (Int × Int)) (en ce l1 l2 l3 l4 fuel : Int), P.Env w → P.CodeIs w c l en ce → CodeOk l → 0 ≤ en ∧ en < l.length → 0 ≤ ce ∧ ce ≤ 1000 → -3000 < fuel ∧ fuel < 3000 →
    Calls Tryz.prog 23 #[.pointer (some ⟨c, 0, none⟩), .agg #[.int .i64 l1, .int .i64 l2, .int .i64 l3, .int .i64 l4], .int .i64 fuel] w fun e w' => ∃ er vS vC out st ls lc, e = .returned (outV er vS vC out st) ∧ OutIs w' w.heap.size vS vC ls lc ∧ (ls.length ≤ 1000 ∧ lc.length ≤ 1000 ∧ ∀ j, vS.ownBlock = some j → vC.ownBlock ≠ some j) ∧ Below w.heap.size w w' ∧ outS p l en ce l1 l2 l3 l4 fuel (er, out, st, ls, lc)
theorem same_self (er : Int) (ls lc : List Int) (out : ByteArray) : sameS er er ls ls lc lc out out = true := by simp [sameS]

set_option maxRecDepth 100000 in
set_option maxHeartbeats 4000000 in
theorem ranS_any (P : Prg) (hRA : RunsAs P) (B bw : Nat) (ps hs : List Nat) (vp vh : Value) (q : Nat) (w : World) (henv : P.Env w) (hP : PlayerIs P w q) (h : Lw B w bw ps hs vp vh) (hh : HoldsOk w hs) (hlen : hs.length + 8 ≤ 17592186044416)
    (kind n : Int) (s : ByteArray) (b0 b1 b2 : Bool) (vl : Value) (en ce l1 l2 l3 l4 fu : Int) :
    Calls Tryz.prog 45 #[.pointer (some ⟨bw, 0, none⟩), .pointer (some ⟨q, 0, none⟩), opV kind n s b0 b1 b2 vl en ce l1 l2 l3 l4 fu] w fun e w' => e = .returned (.bool true) ∧ ∃ hs' vh', Lw B w' bw ps hs' vp vh' ∧ HoldsOk w' hs' ∧ hs'.length = hs.length + 8 ∧ LawStill w w' ∧ Below B w w' := by
  obtain ⟨c, p, l, en0, ce0, hq, hcode, hcd, hok, hen, hce⟩ := hP
  have hBw : B ≤ w.heap.size := by have := h.base; have := h.blk.lt; omega
  have hql := hq.lt
  unfold opV
  -- the outcome of the program's run, in whatever world that only is longer
  have HR1 : Hid (∀ W, Below w.heap.size w W → Calls Tryz.prog 23 #[.pointer (some ⟨c, 0, none⟩), .agg #[.int .i64 l1, .int .i64 l2, .int .i64 l3, .int .i64 l4], .int .i64 (fu.tmod 3000)] W fun e w' => ∃ er vS vC out st ls lc, e = .returned (outV er vS vC out st) ∧ OutIs w' W.heap.size vS vC ls lc ∧ (ls.length ≤ 1000 ∧ lc.length ≤ 1000 ∧ ∀ j, vS.ownBlock = some j → vC.ownBlock ≠ some j) ∧ Below W.heap.size W w' ∧ outS p l en0 ce0 l1 l2 l3 l4 (fu.tmod 3000) (er, out, st, ls, lc)) := fun W hW => hRA W c p l en0 ce0 l1 l2 l3 l4 _ (P.env henv hW) (P.law hcode (LawStill.ofBelow hW)) hok hen hce ⟨by have := Int.tmod_lt_of_pos (-fu) (show (0:Int) < 3000 by omega); rw [Int.neg_tmod] at this; omega, Int.tmod_lt_of_pos fu (by omega)⟩
  have HR2 : Hid (∀ W, Below w.heap.size w W → Calls Tryz.prog 70 #[.pointer (some ⟨p, 0, none⟩), .agg #[.int .i64 l1, .int .i64 l2, .int .i64 l3, .int .i64 l4], .int .i64 (fu.tmod 3000)] W fun e w' => ∃ er vS vC out st lS lC, e = .returned (outV er vS vC out st) ∧ OutIs w' W.heap.size vS vC lS lC ∧ Below W.heap.size W w' ∧ outS p l en0 ce0 l1 l2 l3 l4 (fu.tmod 3000) (er, out, st, lS, lC)) := fun W hW => run_out p l1 l2 l3 l4 _ l en0 ce0 W (hcd.law (LawStill.ofBelow hW)) hok hen hce (by have := Int.tmod_lt_of_pos fu (show (0:Int) < 3000 by omega); omega)
  have hc := hq.cell
  have HQ := V hq
  have HL := V h
  have HH := V hh
  clear hq hcode hcd hok hen hce henv h hh
  generalize hos : outS p l en0 ce0 l1 l2 l3 l4 (fu.tmod 3000) = OS at HR1 HR2
  have hone : ∀ x y, OS x → OS y → x = y := by rw [← hos]; exact fun x y h k => outS_one h k
  have HONE := V hone
  clear hos hone
  generalize hft : fu.tmod 3000 = ft at HR1 HR2
  have hftI : IntKind.i64.wrap ft = ft := by
    rw [IntKind.wrap_i64]
    have h1 := Int.tmod_lt_of_pos (-fu) (show (0:Int) < 3000 by omega)
    rw [Int.neg_tmod] at h1
    have h2 := Int.tmod_lt_of_pos fu (show (0:Int) < 3000 by omega)
    omega
  unfold outV at HR1 HR2
  go_enter Tryz.func45, Tryz.ntmps45
  go_wp2_with fail
  have hOp := Blk.new w (opC kind n s b0 b1 b2 vl en ce l1 l2 l3 l4 fu) 63
  have hb0 : Below w.heap.size w (w.alloc (.cells (opC kind n s b0 b1 b2 vl en ce l1 l2 l3 l4 fu) 63)) := (Below.refl _ _).alloc (Nat.le_refl _) _
  have hs0 : (w.alloc (.cells (opC kind n s b0 b1 b2 vl en ce l1 l2 l3 l4 fu) 63)).heap.size = w.heap.size + 1 := by simp
  unfold opC at hOp hb0 hs0
  generalize w.alloc (.cells #[.int .i64 kind, .int .i64 n, .string s, .bool b0, .bool b1, .bool b2, vl, .int .i64 en, .int .i64 ce, .int .i64 l1, .int .i64 l2, .int .i64 l3, .int .i64 l4, .int .i64 fu] 63) = W0 at hOp hb0 hs0 ⊢
  have HOP := V hOp
  have HB0 := V hb0
  have hcO := hOp.cell
  have hcQ := ((U HQ).below hb0 hql).cell
  have hqW : q < W0.heap.size := by omega
  have hoW : w.heap.size < W0.heap.size := by omega
  have HS0 := V hs0
  have hBW0 : w.heap.size ≤ W0.heap.size := by omega
  clear hOp hb0 hc hft hs0
  generalize (Value.agg #[.int .i64 kind, .int .i64 n, .string s, .bool b0, .bool b1, .bool b2, vl, .int .i64 en, .int .i64 ce, .int .i64 l1, .int .i64 l2, .int .i64 l3, .int .i64 l4, .int .i64 fu]) = vop
  go_cut [8] from 14 to 49 (fun s8 wc => ∃ (er : Int) (a1 : Option Addr) (k1 : Nat) (a2 : Option Addr) (k2 : Nat) (out : ByteArray) (st : Int) (ls lc : List Int) (x : Nat), OutAt wc W0.heap.size s8 er (.slice a1 ls.length k1) (.slice a2 lc.length k2) out st ls lc x ∧ (ls.length ≤ 1000 ∧ lc.length ≤ 1000 ∧ ∀ j, (Value.slice a1 ls.length k1).ownBlock = some j → (Value.slice a2 lc.length k2).ownBlock ≠ some j) ∧ Below W0.heap.size W0 wc ∧ OS (er, out, st, ls, lc))
  case first =>
    go_region_law (first
      | (refine step_call rfl 23 #[.tmp 17, .tmp 19, .tmp 20] #[27, 39, 3] rfl Tryz.func23 Tryz.name23 Tryz.body23 #[.pointer (some ⟨c, 0, none⟩), .agg #[.int .i64 l1, .int .i64 l2, .int .i64 l3, .int .i64 l4], .int .i64 ft] (by first | (simp [Act.eval]; done) | (simp [Act.eval, Act.put]; done) | rfl) (U HR1 W0.drew (U HB0).drew) ?_; rintro e w1 ⟨er, vS, vC, out, st, ls, lc, rfl, ho1, hsm1, hb1, hos1⟩; have HOS := V hos1; clear hos1; obtain ⟨a1, k1, rfl⟩ := own_shape ho1.s; obtain ⟨a2, k2, rfl⟩ := own_shape ho1.c; have HSM := V hsm1; clear hsm1; have HRES := V (out_after (W := W0) (er := er) (out := out) (st := st) ho1 hb1); clear ho1 hb1; refine ⟨_, rfl, ?_⟩)
      | (refine step_call rfl 23 #[.tmp 17, .tmp 19, .tmp 20] #[27, 39, 3] rfl Tryz.func23 Tryz.name23 Tryz.body23 #[.pointer (some ⟨c, 0, none⟩), .agg #[.int .i64 l1, .int .i64 l2, .int .i64 l3, .int .i64 l4], .int .i64 ft] (by first | (simp [Act.eval]; done) | (simp [Act.eval, Act.put]; done) | rfl) (U HR1 (W0.alloc (.cells #[.int .i64 0, .slice none 0 0, .slice none 0 0, .string ⟨#[]⟩, .int .i64 0] 44)).drew ((U HB0).alloc hBW0 _).drew) ?_; rintro e w1 ⟨er, vS, vC, out, st, ls, lc, rfl, ho1, hsm1, hb1, hos1⟩; have HOS := V hos1; clear hos1; obtain ⟨a1, k1, rfl⟩ := own_shape ho1.s; obtain ⟨a2, k2, rfl⟩ := own_shape ho1.c; have hsz : (W0.alloc (.cells #[.int .i64 0, .slice none 0 0, .slice none 0 0, .string ⟨#[]⟩, .int .i64 0] 44)).drew.heap.size = W0.heap.size + 1 := by simp [World.drew]
         rw [hsz] at ho1 hb1; have HSM := V hsm1; clear hsm1; have hR := (Blk.new W0 #[.int .i64 0, .slice none 0 0, .slice none 0 0, .string ⟨#[]⟩, .int .i64 0] 44).drew.below hb1 (by omega); have hcR := hR.cell; have hfR := hR.free; have HRES := V (out_ahead (W := W0) (er := er) (out := out) (st := st) ho1 hb1); clear ho1 hb1 hR; refine ⟨_, rfl, ?_⟩))
    all_goals
      go_wp2_with fail
      go_meet
      exact ⟨er, a1, k1, a2, k2, out, st, ls, lc, _, (U HRES).1, U HSM, (U HRES).2, U HOS⟩
  case rest =>
    obtain ⟨er, a1, k1, a2, k2, out, st, ls, lc, x, ho, hsm, hbc, hos⟩ := hcut
    have HOS := V hos
    clear hos
    obtain rfl := ho.ptr
    have hcO2 := ((U HOP).below hbc hoW).cell
    have hcQ2 := (((U HQ).below (U HB0) hql).below hbc hqW).cell
    have hqC : q < wc.heap.size := by have := hbc.size; omega
    have hoC : w.heap.size < wc.heap.size := by have := hbc.size; omega
    have HBC : Hid (Below w.heap.size w wc) := (U HB0).trans (hbc.mono hBW0)
    have HBC0 := V hbc
    have HSM := V hsm
    clear hsm
    have HO := V ho
    have hwC : w.heap.size ≤ wc.heap.size := by omega
    clear hcO hcQ ho hbc
    obtain ⟨wb, rfl⟩ : ∃ wb : World, wb = wc := ⟨_, rfl⟩
    go_wp2_with fail
    go_cut [9] from 14 to 49 (fun s9 wd => ∃ (er : Int) (a1 : Option Addr) (k1 : Nat) (a2 : Option Addr) (k2 : Nat) (out : ByteArray) (st : Int) (ls lc : List Int) (x : Nat), OutAt wd wb.heap.size s9 er (.slice a1 ls.length k1) (.slice a2 lc.length k2) out st ls lc x ∧ Below wb.heap.size wb wd ∧ OS (er, out, st, ls, lc))
    case first =>
      go_region_law (first
        | (refine step_call rfl 70 #[.tmp 25, .tmp 27, .tmp 28] #[123, 39, 3] rfl Tryz.func70 Tryz.name70 Tryz.body70 #[.pointer (some ⟨p, 0, none⟩), .agg #[.int .i64 l1, .int .i64 l2, .int .i64 l3, .int .i64 l4], .int .i64 ft] (by first | (simp [Act.eval]; done) | (simp [Act.eval, Act.put]; done) | rfl) (U HR2 wb.drew (U HBC).drew) ?_; rintro e w1 ⟨er', vS', vC', out', st', ls', lc', rfl, ho1, hb1, hos1⟩; have HOS2 := V hos1; clear hos1; obtain ⟨a1', k1', rfl⟩ := own_shape ho1.s; obtain ⟨a2', k2', rfl⟩ := own_shape ho1.c; have HRES := V (out_after (W := wb) (er := er') (out := out') (st := st') ho1 hb1); clear ho1 hb1; refine ⟨_, rfl, ?_⟩)
        | (refine step_call rfl 70 #[.tmp 25, .tmp 27, .tmp 28] #[123, 39, 3] rfl Tryz.func70 Tryz.name70 Tryz.body70 #[.pointer (some ⟨p, 0, none⟩), .agg #[.int .i64 l1, .int .i64 l2, .int .i64 l3, .int .i64 l4], .int .i64 ft] (by first | (simp [Act.eval]; done) | (simp [Act.eval, Act.put]; done) | rfl) (U HR2 (wb.alloc (.cells #[.int .i64 0, .slice none 0 0, .slice none 0 0, .string ⟨#[]⟩, .int .i64 0] 44)).drew ((U HBC).alloc hwC _).drew) ?_; rintro e w1 ⟨er', vS', vC', out', st', ls', lc', rfl, ho1, hb1, hos1⟩; have HOS2 := V hos1; clear hos1; obtain ⟨a1', k1', rfl⟩ := own_shape ho1.s; obtain ⟨a2', k2', rfl⟩ := own_shape ho1.c; have hsz : (wb.alloc (.cells #[.int .i64 0, .slice none 0 0, .slice none 0 0, .string ⟨#[]⟩, .int .i64 0] 44)).drew.heap.size = wb.heap.size + 1 := by simp [World.drew]
           rw [hsz] at ho1 hb1; have hR := (Blk.new wb #[.int .i64 0, .slice none 0 0, .slice none 0 0, .string ⟨#[]⟩, .int .i64 0] 44).drew.below hb1 (by omega); have hcR := hR.cell; have hfR := hR.free; have HRES := V (out_ahead (W := wb) (er := er') (out := out') (st := st') ho1 hb1); clear ho1 hb1 hR; refine ⟨_, rfl, ?_⟩))
      all_goals
        go_wp2_with fail
        go_meet
        exact ⟨er', a1', k1', a2', k2', out', st', ls', lc', _, (U HRES).1, (U HRES).2, U HOS2⟩
    case rest =>
      obtain ⟨er', a1', k1', a2', k2', out', st', ls', lc', x', ho', hbd, hos⟩ := hcut
      have heq := U HONE _ _ (U HOS) hos
      simp only [Prod.mk.injEq] at heq
      obtain ⟨rfl, rfl, rfl, rfl, rfl⟩ := heq
      clear hos
      obtain rfl := ho'.ptr
      have ho := (U HO).below hbd
      have hqd := (((U HQ).below (U HB0) hql).below (U HBC0) hqW).below hbd hqC
      have hod := ((U HOP).below (U HBC0) hoW).below hbd hoC
      have hbwd : Below w.heap.size w wc := (U HBC).trans (hbd.mono hwC)
      have HRP := V (right_plain q _ _ l1 l2 l3 l4 ft er er ls ls lc lc out out st st _ _ _ _ _ _ wc hqd ho.lists ho'.lists)
      unfold outV at HRP
      have hcx := ho.blk.cell
      have hcx' := ho'.blk.cell
      have hcq := hqd.cell
      have hco := hod.cell
      have HX := V ho
      have HBD := V hbwd
      rw [same_self] at HRP
      clear ho ho' hqd hod hbwd hbd hcO2 hcQ2
      go_wp2_with fail
      refine (U HRP).mono ?_
      rintro e w3 ⟨rfl, hb3⟩
      have hst : (true && st == st) = true := by simp
      rw [hst]
      clear hst
      -- the first list is kept
      have hx3 := (U HX).below hb3
      have hbw3 : Below w.heap.size w w3 := (U HBD).trans (hb3.mono (U HBD).size)
      have hl3 := (U HL).below hbw3
      have hblk := Blk.new w3 #[.slice none 0 0, .slice a1 ls.length k1, .int .i64 0] 134
      have hbA : Below w3.heap.size w3 (w3.alloc (.cells #[.slice none 0 0, .slice a1 ls.length k1, .int .i64 0] 134)) := (Below.refl _ _).alloc (Nat.le_refl _) _
      have hx4 := hx3.below hbA
      have hrs := ownsRow_base hx4.lists.s (Nat.zero_le _)
      have hbw4 : Below w.heap.size w (w3.alloc (.cells #[.slice none 0 0, .slice a1 ls.length k1, .int .i64 0] 134)) := hbw3.trans (hbA.mono hbw3.size)
      have HK := V (keep_any B bw ps hs vp vh w3.heap.size 0 (.slice none 0 0) (.slice a1 ls.length k1) [] ls _ (hl3.alloc _) hblk (World.ownsRow_nil _ _ _ _) hrs (by simp) (by have := (U HSM).1; omega) (by omega))
      have HL4 := V (hl3.alloc (.cells #[.slice none 0 0, .slice a1 ls.length k1, .int .i64 0] 134))
      have HX4 := V hx4
      have HBLK := V hblk
      have HBW4 := V hbw4
      have HRS := V hrs
      have hxl := hx3.blk.lt
      have hcx3 := hx3.blk.cell
      have hw3 : w.heap.size ≤ w3.heap.size := hbw3.size
      clear hb3 hx3 hbw3 hl3 hblk hbA hx4 hrs hbw4 HRP hcx hcx' hcq hco
      go_wp2_with fail
      refine (U HK).mono ?_
      rintro e w5 ⟨rfl, gl, qg, vig, vng, vh5, hkp⟩
      have hvS : ∀ j, (Value.slice a1 ls.length k1).ownBlock = some j → w.heap.size ≤ j := fun j hj => by have := (ownsRow_lt (U HX4).lists.s hj).2; omega
      have hvC : ∀ j, (Value.slice a2 lc.length k2).ownBlock = some j → w.heap.size ≤ j := fun j hj => by have := (ownsRow_lt (U HX4).lists.c hj).2; omega
      have hnil : ∀ j, (Value.slice none 0 0).ownBlock = some j → w.heap.size ≤ j := fun j hj => by simp [Value.ownBlock] at hj
      obtain ⟨hlaw5, hbB5⟩ := hkp.law (w := w) (U HL4) (LawStill.ofBelow (U HBW4)) ((U HBW4).mono hBw) hBw hw3 hnil hvS
      have hh5 := hkp.holds (U HL4) ((U HH).free (LawStill.ofBelow (U HBW4)) hw3 hnil hvS) (U HBLK) (World.ownsRow_nil _ _ _ _) (U HRS)
      have hrc4 := (U HX4).lists.c
      have hrc5 : w5.ownsRow 0 2 1 (.slice a2 lc.length k2) lc.length (intCells lc) := by
        refine ownsRow_base (ownsRow_still hrc4 hkp.still ?_) (Nat.zero_le _)
        rintro j hj (e | e | e | e)
        · exact (U HL4).notrow hrc4 (by decide) (by decide) (by decide) hj e
        · exact row_not_blk (U HBLK) hrc4 (by decide) (by rw [hj, e])
        · simp [Value.ownBlock] at e
        · exact (U HSM).2.2 j e hj
      have hbx5 : Blk w5 x #[.int .i64 er, .slice a1 ls.length k1, .slice a2 lc.length k2, .string out, .int .i64 st] 44 := by
        refine (U HX4).blk.still hkp.still ?_
        rintro (e | e | e | e)
        · exact (U HL4).notfoot (U HX4).blk (by decide) (by decide) (by decide) e
        · omega
        · simp [Value.ownBlock] at e
        · exact row_not_blk (U HX4).blk (U HX4).lists.s (by decide) e
      have hl5 := hkp.lw
      have hlen5 : (hs ++ gl).length = hs.length + 4 := by simp [hkp.len]
      have hsz4 : w3.heap.size + 1 ≤ w5.heap.size := by have := hkp.still.size; simpa using this
      have hlt4 : ∀ j, (Value.slice a2 lc.length k2).ownBlock = some j → j < w3.heap.size + 1 := fun j hj => by have := (ownsRow_lt hrc4 hj).1; simpa using this
      have hblk5 := Blk.new w5 #[.slice none 0 0, .slice a2 lc.length k2, .int .i64 0] 134
      have hbA5 : Below w5.heap.size w5 (w5.alloc (.cells #[.slice none 0 0, .slice a2 lc.length k2, .int .i64 0] 134)) := (Below.refl _ _).alloc (Nat.le_refl _) _
      have hrc6 := ownsRow_alloc hrc5 (.cells #[.slice none 0 0, .slice a2 lc.length k2, .int .i64 0] 134)
      have hlaw6 : LawStill w (w5.alloc (.cells #[.slice none 0 0, .slice a2 lc.length k2, .int .i64 0] 134)) := hlaw5.trans (LawStill.ofBelow hbA5)
      have HK2 := V (keep_any B bw ps (hs ++ gl) vp vh5 w5.heap.size 0 (.slice none 0 0) (.slice a2 lc.length k2) [] lc _ (hl5.alloc _) hblk5 (World.ownsRow_nil _ _ _ _) hrc6 (by simp) (by have := (U HSM).2.1; omega) (by omega))
      have hfree : HoldsFree (w5.alloc (.cells #[.slice none 0 0, .slice a2 lc.length k2, .int .i64 0] 134)) (hs ++ gl) w5.heap.size (.slice none 0 0) (.slice a2 lc.length k2) := by
        intro y hy
        rcases List.mem_append.1 hy with hy | hy
        · obtain ⟨mk, vi', vn', ni, nn, h1⟩ := U HH y hy
          have hlt := h1.blk.lt
          refine ⟨by omega, mk, vi', vn', ni, nn, hlaw6.hold h1, ?_⟩
          rintro j (e | e)
          · simp [Value.ownBlock] at e
          · have := hvC j e
            exact ⟨fun e2 => by have := (ownsRow_lt h1.is e2).1; omega, fun e2 => by have := (ownsRow_lt h1.ns e2).1; omega⟩
        · obtain ⟨vi', vn', ni', nn', h1, _, _, h4, h5, _⟩ := hkp.all y hy
          have hlt := h1.blk.lt
          refine ⟨by omega, _, vi', vn', ni', nn', h1.alloc _, ?_⟩
          rintro j (e | e)
          · simp [Value.ownBlock] at e
          · have := hlt4 j e
            refine ⟨fun e2 => ?_, fun e2 => ?_⟩
            · exact rows_apart hrc5 h1.is (by decide) e e2
            · rcases h5 j e2 with e3 | e3
              · exact (U HSM).2.2 j e3 e
              · simp at e3; omega
      have HL6 := V (hl5.alloc (.cells #[.slice none 0 0, .slice a2 lc.length k2, .int .i64 0] 134))
      have HF6 := V hfree
      have HBLK6 := V hblk5
      have HRC6 := V hrc6
      have HLAW6 := V hlaw6
      have hBB6 : Below B w (w5.alloc (.cells #[.slice none 0 0, .slice a2 lc.length k2, .int .i64 0] 134)) := hbB5.trans (hbA5.mono (by omega))
      have HBB6 := V hBB6
      have hcx5 := hbx5.cell
      have hxl5 := hbx5.lt
      have HLEN := V hlen5
      have HVC := V hvC
      have HNIL := V hnil
      clear hkp hlaw5 hbB5 hh5 hrc4 hrc5 hbx5 hl5 hblk5 hbA5 hrc6 hlaw6 hfree hBB6 hcx3 HK hlen5 hvS hvC hnil hlt4
      go_wp2_with fail
      refine (U HK2).mono ?_
      rintro e w7 ⟨rfl, gl2, qg2, vig2, vng2, vh7, hkp2⟩
      have HKP2 := V hkp2
      clear hkp2
      go_wp2_with fail
      go_ret
      obtain ⟨o1, o2⟩ := (U HKP2).law (w := w) (U HL6) (U HLAW6) (U HBB6) hBw (by omega) (U HNIL) (U HVC)
      have o3 := (U HKP2).holds (U HL6) (U HF6) (U HBLK6) (World.ownsRow_nil _ _ _ _) (U HRC6)
      exact ⟨rfl, hs ++ gl ++ gl2, vh7, (U HKP2).lw, o3, by rw [List.length_append, U HLEN, (U HKP2).len], o1, o2⟩
set_option maxRecDepth 100000 in
set_option maxHeartbeats 4000000 in
theorem lstepS_any (P : Prg) (hRA : RunsAs P) (B bw : Nat) (ps hs : List Nat) (vp vh : Value) (w : World) (henv : P.Env w) (h : Lw B w bw ps hs vp vh) (hh : HoldsOk w hs) (hp : PlayersOk P w ps) (hlen : hs.length + 8 ≤ 17592186044416)
    (kind n : Int) (s : ByteArray) (ao : Option Addr) (m c : Nat) (en ce l1 l2 l3 l4 fu : Int) (hn : inI n)
    (hld : kind = 2 → Calls Tryz.prog 42 #[.pointer (some ⟨bw, 0, none⟩), opV kind n s false false false (.slice ao m c) en ce l1 l2 l3 l4 fu] (w.alloc (.cells (opC kind n s false false false (.slice ao m c) en ce l1 l2 l3 l4 fu) 63)) (fun e w' => e = .returned (.bool true) ∧ StepPost P B (w.alloc (.cells (opC kind n s false false false (.slice ao m c) en ce l1 l2 l3 l4 fu) 63)) bw hs w')) :
    Calls Tryz.prog 32 #[.pointer (some ⟨bw, 0, none⟩), opV kind n s false false false (.slice ao m c) en ce l1 l2 l3 l4 fu] w fun e w' => e = .returned (.bool true) ∧ StepPost P B w bw hs w' := by
  have hBw : B ≤ w.heap.size := by have := h.base; have := h.blk.lt; omega
  have hb0 : Below w.heap.size w (w.alloc (.cells (opC kind n s false false false (.slice ao m c) en ce l1 l2 l3 l4 fu) 63)) := (Below.refl _ _).alloc (Nat.le_refl _) _
  have hOp := Blk.new w (opC kind n s false false false (.slice ao m c) en ce l1 l2 l3 l4 fu) 63
  have hlaw0 := LawStill.ofBelow hb0
  have henv0 := P.env henv hb0
  have hl0 := h.below hb0
  have hh0 := hh.law hlaw0
  have hp0 := hp.law hlaw0
  have hfew := h.few
  have hO := hOp.cell
  have hbl := h.blk.lt
  unfold opC at *
  unfold opV
  by_cases hk1 : kind = 1
  · subst hk1
    have HC := V (compiled_any P B bw ps hs vp vh _ henv0 hl0 hh0 hp0 1 n s (.slice ao m c) en ce l1 l2 l3 l4 fu)
    unfold opV at HC
    have HB0 := V hb0
    clear hOp hb0 hlaw0 henv0 hl0 hh0 hp0 h hh hp henv
    go_enter Tryz.func32, Tryz.ntmps32
    go_wp2_with fail
    refine (U HC).mono ?_
    rintro e w1 ⟨rfl, hpost⟩
    have HPO := V hpost
    clear hpost HC
    go_wp2_with fail
    go_ret
    exact ⟨rfl, (U HPO).ahead (U HB0) hBw⟩
  by_cases hk2 : kind = 2
  · subst hk2
    have HC := V (hld rfl)
    unfold opV at HC
    have HB0 := V hb0
    clear hOp hb0 hlaw0 henv0 hl0 hh0 hp0 h hh hp henv hld
    go_enter Tryz.func32, Tryz.ntmps32
    go_wp2_with fail
    refine (U HC).mono ?_
    rintro e w1 ⟨rfl, hpost⟩
    have HPO := V hpost
    clear hpost HC
    go_wp2_with fail
    go_ret
    exact ⟨rfl, (U HPO).ahead (U HB0) hBw⟩
  · clear hld
    have hk1' : (kind == 1) = false := by simpa using hk1
    have hk2' : (kind == 2) = false := by simpa using hk2
    by_cases hk34 : kind ≠ 3 ∧ kind ≠ 4
    · have hk3' : ¬ kind = 3 := hk34.1
      have hk4' : ¬ kind = 4 := hk34.2
      have hk1'' : ¬ kind = 1 := hk1
      have hk2'' : ¬ kind = 2 := hk2
      have HFIN : Hid (StepPost P B w bw hs (w.alloc (.cells #[.int .i64 kind, .int .i64 n, .string s, .bool false, .bool false, .bool false, .slice ao m c, .int .i64 en, .int .i64 ce, .int .i64 l1, .int .i64 l2, .int .i64 l3, .int .i64 l4, .int .i64 fu] 63))) := ⟨ps, hs, vp, vh, hl0, hp0, hh0, by omega, hlaw0, hb0.mono hBw⟩
      clear hOp hb0 hlaw0 henv0 hl0 hh0 hp0 h hh hp henv hk1 hk2 hk34
      go_enter Tryz.func32, Tryz.ntmps32
      go_wp2_with fail
      go_ret
      exact ⟨rfl, U HFIN⟩
    · by_cases hps : ps.length = 0
      · have HFIN : Hid (StepPost P B w bw hs (w.alloc (.cells #[.int .i64 kind, .int .i64 n, .string s, .bool false, .bool false, .bool false, .slice ao m c, .int .i64 en, .int .i64 ce, .int .i64 l1, .int .i64 l2, .int .i64 l3, .int .i64 l4, .int .i64 fu] 63))) := ⟨ps, hs, vp, vh, hl0, hp0, hh0, by omega, hlaw0, hb0.mono hBw⟩
        obtain ⟨ap, cp, hvp⟩ := own_shape h.op
        subst hvp
        have hc := h.blk.cell
        rw [hps] at hc
        have hk : kind = 3 ∨ kind = 4 := by omega
        clear hOp hb0 hlaw0 henv0 hl0 hh0 hp0 h hh hp henv hk1 hk2 hk34 hk1' hk2' hO
        rcases hk with rfl | rfl
        all_goals
          go_enter Tryz.func32, Tryz.ntmps32
          go_wp2_with fail
          go_ret
          exact ⟨rfl, U HFIN⟩
      · obtain ⟨gp, cp, hvp, _, hgl⟩ := h.op.form (by omega)
        subst hvp
        have hnp : (1 : Int) ≤ ps.length := by omega
        obtain ⟨kq, hkq⟩ : ∃ kq : Nat, pickS n ps.length = kq := ⟨(pickS n ps.length).toNat, by have := (pickS_range n ps.length hnp).1; omega⟩
        have hkl : kq < ps.length := by have := (pickS_range n ps.length hnp).2; omega
        obtain ⟨q, hq⟩ : ∃ q, ps[kq]? = some q := ⟨_, List.getElem?_eq_getElem hkl⟩
        have hcell := own_cell h.op kq (by omega)
        rw [ptrs_at ps kq q hq] at hcell
        have hPl := hp0 q (List.mem_of_getElem? hq)
        unfold inI at hn
        have HPK : Hid (∀ W : World, Calls Tryz.prog 43 #[.int .i64 n, .int .i64 ps.length] W fun e w' => e = .returned (.int .i64 kq) ∧ w' = W) := fun W => by
          have := pick_any n ps.length W hn.1 hn.2 hnp (by omega)
          rw [hkq] at this
          exact this
        have hc := h.blk.cell
        have hpI : (ps.length : Int) ≤ 6 := by omega
        have hklI : (kq : Int) < ps.length := by omega
        have hbD : ∀ k, Below w.heap.size w ((w.alloc (.cells #[.int .i64 kind, .int .i64 n, .string s, .bool false, .bool false, .bool false, .slice ao m c, .int .i64 en, .int .i64 ce, .int .i64 l1, .int .i64 l2, .int .i64 l3, .int .i64 l4, .int .i64 fu] 63)).drewN k) := fun k => below_drawn hb0 k
        have HBD := V hbD
        have hk : kind = 3 ∨ kind = 4 := by omega
        have hps' : ¬ ((ps.length : Int) = 0) := by omega
        clear hk1 hk2 hk34 hk1' hk2' hkq
        rcases hk with rfl | rfl
        · have HLI : Hid (∀ k, Calls Tryz.prog 44 #[.pointer (some ⟨bw, 0, none⟩), .pointer (some ⟨q, 0, none⟩)] ((w.alloc (.cells #[.int .i64 3, .int .i64 n, .string s, .bool false, .bool false, .bool false, .slice ao m c, .int .i64 en, .int .i64 ce, .int .i64 l1, .int .i64 l2, .int .i64 l3, .int .i64 l4, .int .i64 fu] 63)).drewN k) fun e w' => e = .returned (.bool true) ∧ StepPost P B w bw hs w') := fun k => by
            refine (listed_any P B bw ps hs _ vh q _ (P.env henv (hbD k)) ((hp.law (LawStill.ofBelow (hbD k))) q (List.mem_of_getElem? hq)) (h.below (hbD k)) (hh.law (LawStill.ofBelow (hbD k))) (by omega)).mono ?_
            rintro e w' ⟨rfl, hs', vh', a1, a2, a3, a4, a5⟩
            exact ⟨rfl, ps, hs', _, vh', a1, (hp.law (LawStill.ofBelow (hbD k))).law a4, a2, by omega, (LawStill.ofBelow (hbD k)).trans a4, ((hbD k).mono hBw).trans a5⟩
          clear hOp hb0 hlaw0 henv0 hl0 hh0 hp0 h hh hp henv hPl hq hbD
          go_enter Tryz.func32, Tryz.ntmps32
          go_wp2_with fail
          go_quiet ((go_at_call 43; exact Calls.quiet_of_same (U HPK _)))
          go_wp2_with fail
          refine (U HLI _).mono ?_
          rintro e w1 ⟨rfl, hpost⟩
          have HPO := V hpost
          clear hpost
          go_wp2_with fail
          go_ret
          exact ⟨rfl, U HPO⟩
        · have HRA : Hid (∀ k, Calls Tryz.prog 45 #[.pointer (some ⟨bw, 0, none⟩), .pointer (some ⟨q, 0, none⟩), .agg #[.int .i64 4, .int .i64 n, .string s, .bool false, .bool false, .bool false, .slice ao m c, .int .i64 en, .int .i64 ce, .int .i64 l1, .int .i64 l2, .int .i64 l3, .int .i64 l4, .int .i64 fu]] ((w.alloc (.cells #[.int .i64 4, .int .i64 n, .string s, .bool false, .bool false, .bool false, .slice ao m c, .int .i64 en, .int .i64 ce, .int .i64 l1, .int .i64 l2, .int .i64 l3, .int .i64 l4, .int .i64 fu] 63)).drewN k) fun e w' => e = .returned (.bool true) ∧ StepPost P B w bw hs w') := fun k => by
            refine (ranS_any P hRA B bw ps hs _ vh q _ (P.env henv (hbD k)) ((hp.law (LawStill.ofBelow (hbD k))) q (List.mem_of_getElem? hq)) (h.below (hbD k)) (hh.law (LawStill.ofBelow (hbD k))) (by omega) 4 n s false false false (.slice ao m c) en ce l1 l2 l3 l4 fu).mono ?_
            rintro e w' ⟨hr, hs', vh', a1, a2, a3, a4, a5⟩
            exact ⟨hr, ps, hs', _, vh', a1, (hp.law (LawStill.ofBelow (hbD k))).law a4, a2, by omega, (LawStill.ofBelow (hbD k)).trans a4, ((hbD k).mono hBw).trans a5⟩
          clear hOp hb0 hlaw0 henv0 hl0 hh0 hp0 h hh hp henv hPl hq hbD
          go_enter Tryz.func32, Tryz.ntmps32
          go_wp2_with fail
          go_quiet ((go_at_call 43; exact Calls.quiet_of_same (U HPK _)))
          go_wp2_with fail
          refine (U HRA _).mono ?_
          rintro e w1 ⟨rfl, hpost⟩
          have HPO := V hpost
          clear hpost
          go_wp2_with fail
          go_ret
          exact ⟨rfl, U HPO⟩
end Go.Proofs.YtmeiikjpaepogaaGreatDoor
