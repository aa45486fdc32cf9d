/- The statements' world: its lists; keep. -/
import Derived.Test.YtbcjfiaacenhgaaGreatDoorG05
import Derived.Test.YtbcjfiaacenhgaaGreatDoorG09
import Derived.Test.YtbcjfiaacenhgaaGreatDoorG08
namespace Go.Proofs.YtbcjfiaacenhgaaGreatDoor
open Go Go.RowKit

def ptrs (l : List Nat) : List Value := l.map fun q => .pointer (some ⟨q, 0, none⟩)
/-- The statements' world at block bw: its players, its holds. -/
structure Lw (B : Nat) (w : World) (bw : Nat) (ps hs : List Nat) (vp vh : Value) : Prop where
  blk : Blk w bw #[vp, vh] 39
  base : B ≤ bw
  owned : Owned B w [bw] [vp, vh] [⟨42, 1, ps.length, ptrs ps⟩, ⟨46, 1, hs.length, ptrs hs⟩]
  few : ps.length ≤ 6

section
variable {B : Nat} {w w1 w' : World} {bw : Nat} {ps hs : List Nat} {vp vh : Value}
theorem Lw.op (h : Lw B w bw ps hs vp vh) : w.ownsRow B 42 1 vp ps.length (ptrs ps) := h.owned.own 0 vp _ rfl rfl
theorem Lw.oh (h : Lw B w bw ps hs vp vh) : w.ownsRow B 46 1 vh hs.length (ptrs hs) := h.owned.own 1 vh _ rfl rfl
theorem Lw.ne (h : Lw B w bw ps hs vp vh) (i : Nat) (v : Value) (hv : [vp, vh][i]? = some v) : some bw ≠ v.ownBlock := fun e => h.owned.off i v bw hv (by simp) e.symm
theorem Lw.alloc (h : Lw B w bw ps hs vp vh) (o : Obj) : Lw B (w.alloc o) bw ps hs vp vh := ⟨h.blk.alloc o, h.base, h.owned.alloc o, h.few⟩
theorem Lw.drew (h : Lw B w bw ps hs vp vh) : Lw B w.drew bw ps hs vp vh := ⟨h.blk, h.base, h.owned.drew, h.few⟩
theorem Lw.drewN (h : Lw B w bw ps hs vp vh) (n : Nat) : Lw B (w.drewN n) bw ps hs vp vh := ⟨h.blk, h.base, h.owned.drewN n, h.few⟩
theorem Lw.still {F : Nat → Prop} (h : Lw B w bw ps hs vp vh) (hs' : Still w w' F) (hF : ∀ k, foot bw [vp, vh] k → ¬ F k) : Lw B w' bw ps hs vp vh :=
  ⟨h.blk.still hs' (hF bw (Or.inl rfl)), h.base, h.owned.to (fun i v k hv hk hlt => hs'.block k hlt (hF k (Or.inr ⟨i, v, hv, hk⟩))), h.few⟩
theorem Lw.below (h : Lw B w bw ps hs vp vh) (hb : Below w.heap.size w w') : Lw B w' bw ps hs vp vh :=
  ⟨h.blk.below hb h.blk.lt, h.base, h.owned.below_all hb, h.few⟩
theorem Lw.footlt (h : Lw B w bw ps hs vp vh) {k : Nat} (hk : foot bw [vp, vh] k) : B ≤ k ∧ k < w.heap.size := h.owned.foot h.base h.blk.lt hk
/-- A block of another type is not the lists'. -/
theorem Lw.notfoot (h : Lw B w bw ps hs vp vh) {q : Nat} {cs : Array Value} {T : TypeId} (hq : Blk w q cs T) (h1 : 39 ≠ T) (h2 : 42 ≠ T) (h3 : 46 ≠ T) : ¬ foot bw [vp, vh] q := by
  rintro (rfl | ⟨i, v, hv, hk⟩)
  · have := h.blk
    unfold Blk at this hq
    rw [hq] at this
    simp at this
    exact h1 this.2.symm
  · match i, (List.getElem?_eq_some_iff.1 hv).1 with
    | 0, _ => simp at hv; subst hv; exact row_not_blk hq h.op h2 hk
    | 1, _ => simp at hv; subst hv; exact row_not_blk hq h.oh h3 hk
theorem Lw.notrow (h : Lw B w bw ps hs vp vh) {b : Nat} {e : TypeId} {size n : Nat} {v : Value} {xs : List Value} (hv : w.ownsRow b e size v n xs) (h1 : e ≠ 39) (h2 : e ≠ 42) (h3 : e ≠ 46) {k : Nat} (hk : v.ownBlock = some k) : ¬ foot bw [vp, vh] k := by
  rintro (rfl | ⟨i, u, hu, hk2⟩)
  · exact row_not_blk h.blk hv h1 hk
  · match i, (List.getElem?_eq_some_iff.1 hu).1 with
    | 0, _ => simp at hu; subst hu; exact rows_apart hv h.op h2 hk hk2
    | 1, _ => simp at hu; subst hu; exact rows_apart hv h.oh h3 hk hk2
theorem Lw.growH (h : Lw B w bw ps hs vp vh) {q g cap H : Nat} (hw1 : w.grownBy w1 vh.ownBlock) (hown : w1.ownsRow B 46 1 (.slice (some ⟨g, 0, none⟩) (hs.length + 1) cap) (hs.length + 1) (ptrs hs ++ [.pointer (some ⟨q, 0, none⟩)]))
    (hat : vh.ownBlock = some g ∨ g = H) (hH : w.heap.size ≤ H) : Lw B (w1.setCell ⟨bw, 1, none⟩ (.slice (some ⟨g, 0, none⟩) (hs.length + 1) cap)) bw ps (hs ++ [q]) vp (.slice (some ⟨g, 0, none⟩) (hs.length + 1) cap) := by
  have hlt := h.blk.lt
  refine ⟨?_, h.base, ?_, h.few⟩
  · have := (h.blk.grown hw1 (h.ne 1 vh rfl)).set 1 (.slice (some ⟨g, 0, none⟩) (hs.length + 1) cap)
    simpa only [List.setIfInBounds_toArray, List.set_cons_succ, List.set_cons_zero] using this
  · have := (h.owned.grow 1 vh (.slice (some ⟨g, 0, none⟩) (hs.length + 1) cap) ⟨46, 1, hs.length + 1, ptrs hs ++ [.pointer (some ⟨q, 0, none⟩)]⟩ rfl (by simpa using hlt) hw1 hown (lies_at hat hH)).set (b := bw) (by simp) 1 (.slice (some ⟨g, 0, none⟩) (hs.length + 1) cap)
    simpa [ptrs] using this
theorem Lw.growP (h : Lw B w bw ps hs vp vh) {q g cap H : Nat} (hw1 : w.grownBy w1 vp.ownBlock) (hown : w1.ownsRow B 42 1 (.slice (some ⟨g, 0, none⟩) (ps.length + 1) cap) (ps.length + 1) (ptrs ps ++ [.pointer (some ⟨q, 0, none⟩)]))
    (hat : vp.ownBlock = some g ∨ g = H) (hH : w.heap.size ≤ H) (hfew : ps.length < 6) : Lw B (w1.setCell ⟨bw, 0, none⟩ (.slice (some ⟨g, 0, none⟩) (ps.length + 1) cap)) bw (ps ++ [q]) hs (.slice (some ⟨g, 0, none⟩) (ps.length + 1) cap) vh := by
  have hlt := h.blk.lt
  refine ⟨?_, h.base, ?_, by simp; omega⟩
  · have := (h.blk.grown hw1 (h.ne 0 vp rfl)).set 0 (.slice (some ⟨g, 0, none⟩) (ps.length + 1) cap)
    simpa only [List.setIfInBounds_toArray, List.set_cons_succ, List.set_cons_zero] using this
  · have := (h.owned.grow 0 vp (.slice (some ⟨g, 0, none⟩) (ps.length + 1) cap) ⟨42, 1, ps.length + 1, ptrs ps ++ [.pointer (some ⟨q, 0, none⟩)]⟩ rfl (by simpa using hlt) hw1 hown (lies_at hat hH)).set (b := bw) (by simp) 0 (.slice (some ⟨g, 0, none⟩) (ps.length + 1) cap)
    simpa [ptrs] using this
/-- A hold does not turn where only the lists do. -/
theorem Lw.hold {F : Nat → Prop} {q : Nat} {mk : Int} {vi vn : Value} {ni nn : Nat} (h : Lw B w bw ps hs vp vh) (hq : HoldIs w q mk vi vn ni nn) (hs' : Still w w' F) (hF : ∀ k, k < w.heap.size → F k → foot bw [vp, vh] k) : HoldIs w' q mk vi vn ni nn :=
  hq.still hs' (fun e => h.notfoot hq.blk (by decide) (by decide) (by decide) (hF _ hq.blk.lt e)) (fun k hk e => h.notrow hq.is (by decide) (by decide) (by decide) hk (hF k (ownsRow_lt hq.is hk).1 e)) (fun k hk e => h.notrow hq.ns (by decide) (by decide) (by decide) hk (hF k (ownsRow_lt hq.ns hk).1 e))
end

theorem Tryz.infoHoldP : (Tryz.prog.info? 46).map (fun i => (i.zero, i.size, i.bytes)) = some (some (.pointer none), 1, 8) := by kernel_rfl
theorem Tryz.infoPlayerP : (Tryz.prog.info? 42).map (fun i => (i.zero, i.size, i.bytes)) = some (some (.pointer none), 1, 8) := by kernel_rfl

/-- While keep goes on: what it has kept so far, the last of it. -/
structure Kp (B : Nat) (w : World) (wr : World) (bw : Nat) (ps hs : List Nat) (vp vh : Value) (q : Nat) (vi vn : Value) (ni nn : Nat) (mk : Int) (k : Nat) (gl : List Nat) (qg : Nat) (vig vng vhk : Value) : Prop where
  lw : Lw B wr bw ps (hs ++ gl) vp vhk
  len : gl.length = k + 1
  cur : HoldIs wr qg mk vig vng (ni + k) (nn + k)
  all : ∀ x ∈ gl, ∃ vi' vn' ni' nn', HoldIs wr x mk vi' vn' ni' nn' ∧ ni' ≤ ni + k ∧ nn' ≤ nn + k ∧ (∀ j, vi'.ownBlock = some j → vi.ownBlock = some j ∨ w.heap.size ≤ j) ∧ (∀ j, vn'.ownBlock = some j → vn.ownBlock = some j ∨ w.heap.size ≤ j) ∧ (x = q ∨ w.heap.size ≤ x)
  rowi : ∀ j, vig.ownBlock = some j → vi.ownBlock = some j ∨ w.heap.size ≤ j
  rown : ∀ j, vng.ownBlock = some j → vn.ownBlock = some j ∨ w.heap.size ≤ j
  lists : ∀ j, foot bw [vp, vhk] j → foot bw [vp, vh] j ∨ w.heap.size ≤ j
  still : Still w wr (fun j => foot bw [vp, vh] j ∨ j = q ∨ vi.ownBlock = some j ∨ vn.ownBlock = some j)

/-- One more is kept. -/
theorem Kp.next {B : Nat} {w wr w3 w4 : World} {bw : Nat} {ps hs : List Nat} {vp vh : Value} {q : Nat} {vi vn : Value} {ni nn : Nat} {mk : Int} {k : Nat} {gl : List Nat} {qg : Nat} {vig vng vhk : Value} (h : Kp B w wr bw ps hs vp vh q vi vn ni nn mk k gl qg vig vng vhk)
    {q2 : Nat} {vi2 vn2 : Value} (hcur : HoldIs w3 q2 mk vi2 vn2 (ni + k + 1) (nn + k + 1)) (hq2 : wr.heap.size ≤ q2) (hri : ∀ j, vi2.ownBlock = some j → vig.ownBlock = some j ∨ wr.heap.size ≤ j) (hrn : ∀ j, vn2.ownBlock = some j → vng.ownBlock = some j ∨ wr.heap.size ≤ j)
    (hs3 : Still wr w3 (fun j => vig.ownBlock = some j ∨ vng.ownBlock = some j)) (hpre : ∀ q' vi' vn' ni' nn', HoldIs wr q' mk vi' vn' ni' nn' → ni' ≤ ni + k → nn' ≤ nn + k → HoldIs w3 q' mk vi' vn' ni' nn')
    {g cap H : Nat} (hw4 : (w3.alloc (.cells #[.pointer (some ⟨q2, 0, none⟩)] 46)).grownBy w4 vhk.ownBlock) (hown : w4.ownsRow B 46 1 (.slice (some ⟨g, 0, none⟩) ((hs ++ gl).length + 1) cap) ((hs ++ gl).length + 1) (ptrs (hs ++ gl) ++ [.pointer (some ⟨q2, 0, none⟩)]))
    (hat : vhk.ownBlock = some g ∨ g = H) (hH : (w3.alloc (.cells #[.pointer (some ⟨q2, 0, none⟩)] 46)).heap.size = H) :
    Kp B w (w4.setCell ⟨bw, 1, none⟩ (.slice (some ⟨g, 0, none⟩) ((hs ++ gl).length + 1) cap)) bw ps hs vp vh q vi vn ni nn mk (k + 1) (gl ++ [q2]) q2 vi2 vn2 (.slice (some ⟨g, 0, none⟩) ((hs ++ gl).length + 1) cap) := by
  have hl3 := h.lw.still hs3 (fun j hj e => by
    rcases e with e | e
    · exact h.lw.notrow h.cur.is (by decide) (by decide) (by decide) e hj
    · exact h.lw.notrow h.cur.ns (by decide) (by decide) (by decide) e hj)
  have hs5 : Still w3 (w4.setCell ⟨bw, 1, none⟩ (.slice (some ⟨g, 0, none⟩) ((hs ++ gl).length + 1) cap)) (foot bw [vp, vhk]) :=
    Still.set (F := foot bw [vp, vhk]) (Still.grown (F := foot bw [vp, vhk]) (Still.alloc (Still.refl w3 _) _) hw4 (fun j hj => Or.inl (Or.inr ⟨1, vhk, rfl, hj⟩))) (Or.inl (Or.inl rfl)) _ _
  have hsz1 := h.still.size
  have hsz3 := hs3.size
  have hold5 : ∀ {x : Nat} {a b : Value} {n m : Nat}, HoldIs w3 x mk a b n m → HoldIs (w4.setCell ⟨bw, 1, none⟩ (.slice (some ⟨g, 0, none⟩) ((hs ++ gl).length + 1) cap)) x mk a b n m := fun hx => hl3.hold hx hs5 (fun _ _ e => e)
  refine ⟨?_, by simp [h.len], hold5 hcur, ?_, ?_, ?_, ?_, ?_⟩
  · have := (hl3.alloc (.cells #[.pointer (some ⟨q2, 0, none⟩)] 46)).growH hw4 hown hat (by omega)
    rw [List.append_assoc] at this
    exact this
  · intro x hx
    simp only [List.mem_append, List.mem_singleton] at hx
    rcases hx with hx | rfl
    · obtain ⟨vi', vn', ni', nn', h1, h2, h3, h4⟩ := h.all x hx
      exact ⟨vi', vn', ni', nn', hold5 (hpre _ _ _ _ _ h1 h2 h3), by omega, by omega, h4⟩
    · refine ⟨vi2, vn2, _, _, hold5 hcur, by omega, by omega, ?_, ?_, Or.inr (by omega)⟩
      · intro j hj
        rcases hri j hj with e | e
        · exact h.rowi j e
        · exact Or.inr (by omega)
      · intro j hj
        rcases hrn j hj with e | e
        · exact h.rown j e
        · exact Or.inr (by omega)
  · intro j hj
    rcases hri j hj with e | e
    · exact h.rowi j e
    · exact Or.inr (by omega)
  · intro j hj
    rcases hrn j hj with e | e
    · exact h.rown j e
    · exact Or.inr (by omega)
  · rintro j (rfl | ⟨i, v, hv, hk⟩)
    · exact Or.inl (Or.inl rfl)
    · match i, (List.getElem?_eq_some_iff.1 hv).1 with
      | 0, _ => simp at hv; subst hv; exact Or.inl (Or.inr ⟨0, vp, rfl, hk⟩)
      | 1, _ =>
        simp at hv; subst hv
        simp only [Value.ownBlock, Option.some.injEq] at hk
        rcases hat with e | e
        · exact h.lists j (Or.inr ⟨1, vhk, rfl, by rw [e, hk]⟩)
        · refine Or.inr ?_
          rw [← hk, e, ← hH]
          simp
          omega
  · refine (h.still.trans hs3 ?_).trans hs5 ?_
    · intro j hj e
      rcases e with e | e
      · rcases h.rowi j e with e2 | e2
        · exact Or.inr (Or.inr (Or.inl e2))
        · omega
      · rcases h.rown j e with e2 | e2
        · exact Or.inr (Or.inr (Or.inr e2))
        · omega
    · intro j hj e
      rcases h.lists j e with e2 | e2
      · exact Or.inl e2
      · omega

/-- The first one. -/
theorem Kp.first {B : Nat} {w w2 w4 : World} {bw : Nat} {ps hs : List Nat} {vp vh : Value} {q : Nat} {vi vn : Value} {ni nn : Nat} {mk : Int} (hl : Lw B w2 bw ps hs vp vh) (hcur : HoldIs w2 q mk vi vn ni nn)
    (hs2 : Still w w2 (fun j => j = q ∨ vi.ownBlock = some j ∨ vn.ownBlock = some j))
    {g cap H : Nat} (hw4 : (w2.alloc (.cells #[.pointer (some ⟨q, 0, none⟩)] 46)).grownBy w4 vh.ownBlock) (hown : w4.ownsRow B 46 1 (.slice (some ⟨g, 0, none⟩) (hs.length + 1) cap) (hs.length + 1) (ptrs hs ++ [.pointer (some ⟨q, 0, none⟩)]))
    (hat : vh.ownBlock = some g ∨ g = H) (hH : (w2.alloc (.cells #[.pointer (some ⟨q, 0, none⟩)] 46)).heap.size = H) :
    Kp B w (w4.setCell ⟨bw, 1, none⟩ (.slice (some ⟨g, 0, none⟩) (hs.length + 1) cap)) bw ps hs vp vh q vi vn ni nn mk 0 [q] q vi vn (.slice (some ⟨g, 0, none⟩) (hs.length + 1) cap) := by
  have hs5 : Still w2 (w4.setCell ⟨bw, 1, none⟩ (.slice (some ⟨g, 0, none⟩) (hs.length + 1) cap)) (foot bw [vp, vh]) :=
    Still.set (F := foot bw [vp, vh]) (Still.grown (F := foot bw [vp, vh]) (Still.alloc (Still.refl w2 _) _) hw4 (fun j hj => Or.inl (Or.inr ⟨1, vh, rfl, hj⟩))) (Or.inl (Or.inl rfl)) _ _
  have hsz := hs2.size
  have hc5 := hl.hold hcur hs5 (fun _ _ e => e)
  refine ⟨?_, rfl, hc5, ?_, fun j hj => Or.inl hj, fun j hj => Or.inl hj, ?_, ?_⟩
  · exact (hl.alloc (.cells #[.pointer (some ⟨q, 0, none⟩)] 46)).growH hw4 hown hat (by omega)
  · intro x hx
    simp only [List.mem_singleton] at hx
    subst hx
    exact ⟨vi, vn, _, _, hc5, Nat.le_refl _, Nat.le_refl _, fun j hj => Or.inl hj, fun j hj => Or.inl hj, Or.inl rfl⟩
  · rintro j (rfl | ⟨i, v, hv, hk⟩)
    · exact Or.inl (Or.inl rfl)
    · match i, (List.getElem?_eq_some_iff.1 hv).1 with
      | 0, _ => simp at hv; subst hv; exact Or.inl (Or.inr ⟨0, vp, rfl, hk⟩)
      | 1, _ =>
        simp at hv; subst hv
        simp only [Value.ownBlock, Option.some.injEq] at hk
        rcases hat with e | e
        · exact Or.inl (Or.inr ⟨1, vh, rfl, by rw [e, hk]⟩)
        · refine Or.inr ?_
          rw [← hk, e, ← hH]
          simp
          omega
  · exact (hs2.mono (G := fun j => foot bw [vp, vh] j ∨ j = q ∨ vi.ownBlock = some j ∨ vn.ownBlock = some j) (fun j _ e => Or.inr e)).trans hs5 (fun j _ e => Or.inl e)

set_option maxRecDepth 100000 in
set_option maxHeartbeats 2000000 in
theorem keep_any (B bw : Nat) (ps hs : List Nat) (vp vh : Value) (q : Nat) (mk0 : Int) (vi vn : Value) (li : List (Int × Int)) (ln : List Int) (w : World) (h : Lw B w bw ps hs vp vh) (hblk : Blk w q #[vi, vn, .int .i64 mk0] 65)
    (hi : w.ownsRow 0 34 2 vi li.length (instrCells li)) (hn : w.ownsRow 0 2 1 vn ln.length (intCells ln)) (hli : li.length ≤ 4398046511104) (hln : ln.length ≤ 4398046511104) (hhs : hs.length + 4 ≤ 17592186044416) :
    Calls Tryz.prog 20 #[.pointer (some ⟨bw, 0, none⟩), .pointer (some ⟨q, 0, none⟩)] w fun e w' => e = .returned (.tuple #[]) ∧ ∃ gl qg vig vng vh', Kp B w w' bw ps hs vp vh q vi vn li.length ln.length (hs.length + 1) 3 gl qg vig vng vh' := by
  obtain ⟨iH, hiH, hzH0, hzH1, hzH2⟩ := info_parts Tryz.infoHoldP
  obtain ⟨ah, ch, hvh⟩ := own_shape h.oh
  subst hvh
  have hc := h.blk.cell
  have hbl := h.blk.lt
  have hqc := hblk.cell
  have hqf := hblk.free
  have hql := hblk.lt
  have hnf := h.notfoot hblk (by decide) (by decide) (by decide)
  have hqb : bw ≠ q := fun e => hnf (Or.inl e.symm)
  have hhI : (hs.length : Int) + 4 ≤ 17592186044416 := by omega
  -- behind the mark
  have hblk1 := hblk.set 2 (.int .i64 ((hs.length : Int) + 1))
  simp only [List.setIfInBounds_toArray, List.set_cons_succ, List.set_cons_zero] at hblk1
  have hqi := row_not_blk hblk hi (by decide)
  have hqn := row_not_blk hblk hn (by decide)
  have hi1 := ownsRow_far hi hqi (.int .i64 ((hs.length : Int) + 1)) (a := ⟨q, 2, none⟩)
  have hn1 := ownsRow_far hn hqn (.int .i64 ((hs.length : Int) + 1)) (a := ⟨q, 2, none⟩)
  have HM := hide (marks_any q (hs.length + 1) vi vn li ln _ hblk1 hi1 hn1 (by omega) (by omega) (by omega))
  have hs1 : Still w (w.setCell ⟨q, 2, none⟩ (.int .i64 ((hs.length : Int) + 1))) (fun j => j = q) := Still.set (F := fun j => j = q) (Still.refl w _) (Or.inl rfl) _ _
  have hl1 := h.still hs1 (fun k hk e => hnf (by rw [← e]; exact hk))
  have HS1 := hide hs1
  have HL1 := hide hl1
  have HI1 := hide hi1
  have HN1 := hide hn1
  have HL := hide h
  clear hi1 hn1 hblk1 hs1 hl1 h
  go_enter Tryz.func20, Tryz.ntmps20
  go_wp2_with fail
  refine (unhide HM).mono ?_
  rintro e w2 ⟨rfl, hh2, hs2⟩
  have hl2 := (unhide HL1).still hs2 (fun k hk e => by
    rcases e with e | e
    · exact (unhide HL1).notrow (unhide HI1) (by decide) (by decide) (by decide) e hk
    · exact (unhide HL1).notrow (unhide HN1) (by decide) (by decide) (by decide) e hk)
  have hl2c := hl2.blk.cell
  have hl2f := hl2.blk.free
  have hB2 : B ≤ w2.heap.size := by have := hl2.base; have := hl2.blk.lt; omega
  have HW := hide (ownsRow_alloc hl2.oh (.cells #[.pointer (some ⟨q, 0, none⟩)] 46))
  have hBs : B ≤ (w2.alloc (.cells #[.pointer (some ⟨q, 0, none⟩)] 46)).heap.size := by simp; omega
  have HBs := hide hBs
  have HL2 := hide hl2
  have HH2 := hide hh2
  have HS2 := hide hs2
  have hb2l := hl2.blk.lt
  have HBA := hide (hl2.blk.alloc (.cells #[.pointer (some ⟨q, 0, none⟩)] 46))
  have hne2 := hl2.ne 1 _ rfl
  clear hBs hh2 hs2 hl2 HM hc hqc hqf
  go_wp2_with (at_builtin; refine wpList_append_lies _ rfl (.tmp 21) (.tmp 23) 37 rfl B 46 iH _ 1 8 Tryz.underlying37 hiH hzH0 hzH1 hzH2 rfl (by decide) (.slice ah hs.length ch) hs.length (ptrs hs) (by simp [Act.eval]) (unhide HW) ⟨w2.heap.size, 0, none⟩ 1 1 [.pointer (some ⟨q, 0, none⟩)] (by simp [Act.eval]) rfl (World.news_of_block (Blk.new w2 _ _)) (by simp [Value.oneCell']) (by omega) (by unfold maxLen; omega) (by omega) (unhide HBs) _ rfl ?_; intro g cap w5 hown hgrow hat hlt1; have hb5 := (unhide HBA).grown hgrow hne2; have hc5 := hb5.cell; have hf5 := hb5.free; have HO := hide hown; have HG := hide hgrow; have HA := hide hat; clear hown hgrow hat hb5 hl2c hl2f)
  have hst2 : Still w w2 (fun j => j = q ∨ vi.ownBlock = some j ∨ vn.ownBlock = some j) := ((unhide HS1).mono (fun j _ e => Or.inl e)).trans (unhide HS2) (fun j _ e => Or.inr e)
  have hk0 := Kp.first (unhide HL2) (unhide HH2) hst2 (unhide HG) (unhide HO) (unhide HA) rfl
  clear hc5 hf5 hst2 HW HBs HL2 HH2 HS2 HBA hne2 hb2l HO HG HA HS1 HL1 HI1 HN1 HL
  generalize w5.setCell ⟨bw, 1, none⟩ (.slice (some ⟨g, 0, none⟩) (hs.length + 1) cap) = w6 at hk0 ⊢
  generalize Value.slice (some ⟨g, 0, none⟩) (hs.length + 1) cap = vh6 at hk0 ⊢
  generalize hmkE : (hs.length : Int) + 1 = mk at hk0 ⊢
  generalize hniE : li.length = ni at *
  generalize hnnE : ln.length = nn at *
  have HE1 := hide hniE
  have HE2 := hide hnnE
  have HE3 := hide hmkE
  clear hniE hnnE hmkE hi hn hblk
  go_wp2_with fail
  go_loopw [4, 5] (fun gv n wr => ∃ (k : Nat) (gl : List Nat) (qg : Nat) (vig vng vhk : Value), n = .int .i64 k ∧ k ≤ 3 ∧ gv = .pointer (some ⟨qg, 0, none⟩) ∧ Kp B w wr bw ps hs vp (.slice ah hs.length ch) q vi vn ni nn mk k gl qg vig vng vhk) (fun _ n _ => 3 - (intOf n).toNat)
  case atStart => exact ⟨0, [q], q, _, _, _, rfl, by omega, rfl, hk0⟩
  case round =>
    clear hk0
    obtain ⟨k, gl, qg, vig, vng, vhk, rfl, hk3, rfl, hkp⟩ := hrel
    by_cases hlt : k < 3
    · have hltI : (k : Int) < 3 := by omega
      have HLG := hide (longer_any qg mk vig vng (ni + k) (nn + k) wr hkp.cur (by omega) (by omega))
      have HKP := hide hkp
      have hlen := hkp.len
      clear hkp
      go_wp2_with fail
      refine (unhide HLG).mono ?_
      rintro e w3 ⟨q2, vi2, vn2, rfl, hq2, hcur, hri, hrn, hs3, hpre⟩
      have hl3 := (unhide HKP).lw.still hs3 (fun j hj e => by
        rcases e with e | e
        · exact (unhide HKP).lw.notrow (unhide HKP).cur.is (by decide) (by decide) (by decide) e hj
        · exact (unhide HKP).lw.notrow (unhide HKP).cur.ns (by decide) (by decide) (by decide) e hj)
      obtain ⟨ak, ck, hvk⟩ := own_shape hl3.oh
      subst hvk
      have hc3 := hl3.blk.cell
      have hf3 := hl3.blk.free
      have hb3l := hl3.blk.lt
      have hB3 : B ≤ w3.heap.size := by have := hl3.base; omega
      have HW := hide (ownsRow_alloc hl3.oh (.cells #[.pointer (some ⟨q2, 0, none⟩)] 46))
      have hBs : B ≤ (w3.alloc (.cells #[.pointer (some ⟨q2, 0, none⟩)] 46)).heap.size := by simp; omega
      have HBs := hide hBs
      have HBA := hide (hl3.blk.alloc (.cells #[.pointer (some ⟨q2, 0, none⟩)] 46))
      have hne3 := hl3.ne 1 _ rfl
      have HC := hide hcur
      have HRI := hide hri
      have HRN := hide hrn
      have HS3 := hide hs3
      have HPRE := hide hpre
      have hll : (hs ++ gl).length + 1 ≤ 17592186044416 := by simp [hlen]; omega
      clear hBs hcur hri hrn hs3 hpre hl3 HLG
      generalize hHL : hs ++ gl = hl at *
      have HHL := hide hHL
      clear hHL
      go_wp2_with (at_builtin; refine wpList_append_lies _ rfl (.tmp 38) (.tmp 40) 37 rfl B 46 iH _ 1 8 Tryz.underlying37 hiH hzH0 hzH1 hzH2 rfl (by decide) (.slice ak hl.length ck) hl.length (ptrs hl) (by simp [Act.eval]) (unhide HW) ⟨w3.heap.size, 0, none⟩ 1 1 [.pointer (some ⟨q2, 0, none⟩)] (by simp [Act.eval]) rfl (World.news_of_block (Blk.new w3 _ _)) (by simp [Value.oneCell']) (by omega) (by unfold maxLen; omega) (by omega) (unhide HBs) _ rfl ?_; intro g cap w5 hown hgrow hat hlt1; have hb5 := (unhide HBA).grown hgrow hne3; have hc5 := hb5.cell; have hf5 := hb5.free; have HO := hide hown; have HG := hide hgrow; have HA := hide hat; clear hown hgrow hat hb5 hc3 hf3)
      go_roundw
      case rel =>
        obtain rfl := (unhide HHL).symm
        exact ⟨k + 1, gl ++ [q2], q2, _, _, _, by go_num, by omega, rfl, (unhide HKP).next (unhide HC) hq2 (unhide HRI) (unhide HRN) (unhide HS3) (unhide HPRE) (unhide HG) (unhide HO) (unhide HA) rfl⟩
      case measure => simp [intOf]; omega
    · have hkn : k = 3 := by omega
      subst hkn
      go_wp2_with fail
      go_end0
      rw [unhide HE1, unhide HE2, unhide HE3]
      exact ⟨rfl, gl, qg, vig, vng, vhk, hkp⟩

end Go.Proofs.YtbcjfiaacenhgaaGreatDoor

/- The reference's Reader: define, variable and constant. -/
namespace Go.Proofs.YtbcjfiaacenhgaaGreatDoor
open Go Go.RowKit

def variableS (st : RS) (t : ByteArray) : RS := { st with names := st.names ++ [(t, 0, st.cells)], cells := st.cells + 1 }

set_option maxRecDepth 100000 in
set_option maxHeartbeats 1000000 in
theorem define_variable (B b : Nat) (st : RS) (w : World) (h : RdE B w b st) (hnx : st.next ≤ st.s.size) (ht : st.token = ⟨#[118, 97, 114, 105, 97, 98, 108, 101]⟩) (hst : st.start < 0) (hop : st.opens = []) (hok : (newNameS st).err = 0) (hh : (newNameS st).names.length < 4000) (hce : 0 ≤ (newNameS st).cells ∧ (newNameS st).cells ≤ 4000) :
    Calls Tryz.prog 29 #[.pointer (some ⟨b, 0, none⟩)] w fun e w' => e = .returned (.tuple #[]) ∧ RdE B w' b (variableS (newNameS st) (stepS st).token) ∧ Below B w w' := by
  obtain ⟨i0, hi, hz0, hz1, hz2⟩ := info_parts Tryz.infoName
  have HN := hide (newName_any B b st w h hnx)
  have hok' : ((newNameS st).err != 0) = false := by simpa using hok
  clear hok
  generalize newNameS st = st1 at HN hok' hh hce ⊢
  generalize (stepS st).token = tk at HN ⊢
  obtain ⟨hc0, hc4⟩ := hce
  obtain ⟨v4, v5, v6, v7, v11, h⟩ := h
  obtain ⟨a7, k7, rfl⟩ := own_shape h.o7
  have hc := h.blk.cell
  have hf := h.blk.free
  unfold rdArr at hc
  rw [hop, ht] at hc
  go_enter Tryz.func29, Tryz.ntmps29
  go_wp2_with fail
  refine (unhide HN).mono ?_
  rintro e w1 ⟨rfl, ⟨v4, v5, v6, v7, v11, h1⟩, hb1⟩
  clear HN hc hf h
  have hlt := h1.blk.lt
  have hc := h1.blk.cell
  have hf := h1.blk.free
  unfold rdArr at hc
  have HB := hide h1.blk
  unfold rdArr at HB
  have hne := h1.ne 2 v6 rfl
  have HW := hide (ownsRow_alloc h1.o6 (.cells #[.string tk, .int .i64 0, .int .i64 st1.cells] 121))
  have hBs : B ≤ (w1.alloc (.cells #[.string tk, .int .i64 0, .int .i64 st1.cells] 121)).drew.heap.size := by
    have := h1.base
    show B ≤ (w1.alloc _).heap.size
    simp; omega
  have HBs := hide hBs
  clear hBs
  go_wp2_with fail
  go_region_law (refine step_append_lies _ rfl (.tmp 107) (.tmp 115) 84 rfl B 121 i0 _ 3 32 Tryz.underlying84 hi hz0 hz1 hz2 rfl (by decide) v6 st1.names.length (nameCells st1.names) (by simp [Act.eval]) (unhide HW) ⟨w1.heap.size, 0, none⟩ 1 1 [.string tk, .int .i64 0, .int .i64 st1.cells] (by simp [Act.eval]) rfl (World.news_of_block (Blk.new w1 _ _)) (oneCells3 _ _ _) (by omega) (by unfold maxLen; omega) (by omega) (unhide HBs) _ rfl ?_; intro g cap w2 hown hgrow hat hlt1; have hb1 := ((unhide HB).alloc _).drew.grown hgrow hne; have hc1 := hb1.cell; have hf1 := hb1.free; have HO := hide hown; have HG := hide hgrow; have HA := hide hat; clear hown hgrow hat hb1)
  all_goals
    go_wp2
    go_end0
    refine ⟨rfl, ⟨_, _, _, _, _, (h1.grow6 (x := (tk, 0, st1.cells)) hh (grownBy_alloc (unhide HG)) (unhide HO) (unhide HA) (by simp)).celled (st1.cells + 1)⟩, ?_⟩
    exact hb1.trans (((below_grown_alloc (by have := h1.base; omega) (fun k hk => (ownsRow_lt h1.o6 hk).2) (unhide HG)).setCell h1.base _).setCell h1.base _)

end Go.Proofs.YtbcjfiaacenhgaaGreatDoor

