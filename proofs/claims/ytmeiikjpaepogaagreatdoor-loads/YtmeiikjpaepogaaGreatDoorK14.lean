/- The statements' world: its lists; keep. -/
import Derived.Test.YtmeiikjpaepogaaGreatDoorK04
import Derived.Test.YtmeiikjpaepogaaGreatDoorK08
import Derived.Test.YtmeiikjpaepogaaGreatDoorK13
namespace Go.Proofs.YtmeiikjpaepogaaGreatDoor
open Go Go.RowKit

def ptrs (l : List Nat) : List Value := l.map fun q => .pointer (some ⟨q, 0, none⟩)
/-- The statements' world at block bw: its players, its holds. -/
structure Lw (B : Nat) (w : World) (bw : Nat) (ps hs : List Nat) (vp vh : Value) : Prop where
  blk : Blk w bw #[vp, vh] 70
  base : B ≤ bw
  owned : Owned B w [bw] [vp, vh] [⟨87, 1, ps.length, ptrs ps⟩, ⟨90, 1, hs.length, ptrs hs⟩]
  few : ps.length ≤ 6

section
variable {B : Nat} {w w1 w' : World} {bw : Nat} {ps hs : List Nat} {vp vh : Value}
theorem Lw.op (h : Lw B w bw ps hs vp vh) : w.ownsRow B 87 1 vp ps.length (ptrs ps) := h.owned.own 0 vp _ rfl rfl
theorem Lw.oh (h : Lw B w bw ps hs vp vh) : w.ownsRow B 90 1 vh hs.length (ptrs hs) := h.owned.own 1 vh _ rfl rfl
theorem Lw.ne (h : Lw B w bw ps hs vp vh) (i : Nat) (v : Value) (hv : [vp, vh][i]? = some v) : some bw ≠ v.ownBlock := fun e => h.owned.off i v bw hv (by simp) e.symm
theorem Lw.alloc (h : Lw B w bw ps hs vp vh) (o : Obj) : Lw B (w.alloc o) bw ps hs vp vh := ⟨h.blk.alloc o, h.base, h.owned.alloc o, h.few⟩
theorem Lw.drew (h : Lw B w bw ps hs vp vh) : Lw B w.drew bw ps hs vp vh := ⟨h.blk, h.base, h.owned.drew, h.few⟩
theorem Lw.drewN (h : Lw B w bw ps hs vp vh) (n : Nat) : Lw B (w.drewN n) bw ps hs vp vh := ⟨h.blk, h.base, h.owned.drewN n, h.few⟩
theorem Lw.still {F : Nat → Prop} (h : Lw B w bw ps hs vp vh) (hs' : Still w w' F) (hF : ∀ k, foot bw [vp, vh] k → ¬ F k) : Lw B w' bw ps hs vp vh :=
  ⟨h.blk.still hs' (hF bw (Or.inl rfl)), h.base, h.owned.to (fun i v k hv hk hlt => hs'.block k hlt (hF k (Or.inr ⟨i, v, hv, hk⟩))), h.few⟩
theorem Lw.below (h : Lw B w bw ps hs vp vh) (hb : Below w.heap.size w w') : Lw B w' bw ps hs vp vh :=
  ⟨h.blk.below hb h.blk.lt, h.base, h.owned.below_all hb, h.few⟩
theorem Lw.footlt (h : Lw B w bw ps hs vp vh) {k : Nat} (hk : foot bw [vp, vh] k) : B ≤ k ∧ k < w.heap.size := h.owned.foot h.base h.blk.lt hk
/-- A block of another type is not the lists'. -/
theorem Lw.notfoot (h : Lw B w bw ps hs vp vh) {q : Nat} {cs : Array Value} {T : TypeId} (hq : Blk w q cs T) (h1 : 70 ≠ T) (h2 : 87 ≠ T) (h3 : 90 ≠ T) : ¬ foot bw [vp, vh] q := by
  rintro (rfl | ⟨i, v, hv, hk⟩)
  · have := h.blk
    unfold Blk at this hq
    rw [hq] at this
    simp at this
    exact h1 this.2.symm
  · match i, (List.getElem?_eq_some_iff.1 hv).1 with
    | 0, _ => simp at hv; subst hv; exact row_not_blk hq h.op h2 hk
    | 1, _ => simp at hv; subst hv; exact row_not_blk hq h.oh h3 hk
theorem Lw.notrow (h : Lw B w bw ps hs vp vh) {b : Nat} {e : TypeId} {size n : Nat} {v : Value} {xs : List Value} (hv : w.ownsRow b e size v n xs) (h1 : e ≠ 70) (h2 : e ≠ 87) (h3 : e ≠ 90) {k : Nat} (hk : v.ownBlock = some k) : ¬ foot bw [vp, vh] k := by
  rintro (rfl | ⟨i, u, hu, hk2⟩)
  · exact row_not_blk h.blk hv h1 hk
  · match i, (List.getElem?_eq_some_iff.1 hu).1 with
    | 0, _ => simp at hu; subst hu; exact rows_apart hv h.op h2 hk hk2
    | 1, _ => simp at hu; subst hu; exact rows_apart hv h.oh h3 hk hk2
theorem Lw.growH (h : Lw B w bw ps hs vp vh) {q g cap H : Nat} (hw1 : w.grownBy w1 vh.ownBlock) (hown : w1.ownsRow B 90 1 (.slice (some ⟨g, 0, none⟩) (hs.length + 1) cap) (hs.length + 1) (ptrs hs ++ [.pointer (some ⟨q, 0, none⟩)]))
    (hat : vh.ownBlock = some g ∨ g = H) (hH : w.heap.size ≤ H) : Lw B (w1.setCell ⟨bw, 1, none⟩ (.slice (some ⟨g, 0, none⟩) (hs.length + 1) cap)) bw ps (hs ++ [q]) vp (.slice (some ⟨g, 0, none⟩) (hs.length + 1) cap) := by
  have hlt := h.blk.lt
  refine ⟨?_, h.base, ?_, h.few⟩
  · have := (h.blk.grown hw1 (h.ne 1 vh rfl)).set 1 (.slice (some ⟨g, 0, none⟩) (hs.length + 1) cap)
    simpa only [List.setIfInBounds_toArray, List.set_cons_succ, List.set_cons_zero] using this
  · have := (h.owned.grow 1 vh (.slice (some ⟨g, 0, none⟩) (hs.length + 1) cap) ⟨90, 1, hs.length + 1, ptrs hs ++ [.pointer (some ⟨q, 0, none⟩)]⟩ rfl (by simpa using hlt) hw1 hown (lies_at hat hH)).set (b := bw) (by simp) 1 (.slice (some ⟨g, 0, none⟩) (hs.length + 1) cap)
    simpa [ptrs] using this
theorem Lw.growP (h : Lw B w bw ps hs vp vh) {q g cap H : Nat} (hw1 : w.grownBy w1 vp.ownBlock) (hown : w1.ownsRow B 87 1 (.slice (some ⟨g, 0, none⟩) (ps.length + 1) cap) (ps.length + 1) (ptrs ps ++ [.pointer (some ⟨q, 0, none⟩)]))
    (hat : vp.ownBlock = some g ∨ g = H) (hH : w.heap.size ≤ H) (hfew : ps.length < 6) : Lw B (w1.setCell ⟨bw, 0, none⟩ (.slice (some ⟨g, 0, none⟩) (ps.length + 1) cap)) bw (ps ++ [q]) hs (.slice (some ⟨g, 0, none⟩) (ps.length + 1) cap) vh := by
  have hlt := h.blk.lt
  refine ⟨?_, h.base, ?_, by simp; omega⟩
  · have := (h.blk.grown hw1 (h.ne 0 vp rfl)).set 0 (.slice (some ⟨g, 0, none⟩) (ps.length + 1) cap)
    simpa only [List.setIfInBounds_toArray, List.set_cons_succ, List.set_cons_zero] using this
  · have := (h.owned.grow 0 vp (.slice (some ⟨g, 0, none⟩) (ps.length + 1) cap) ⟨87, 1, ps.length + 1, ptrs ps ++ [.pointer (some ⟨q, 0, none⟩)]⟩ rfl (by simpa using hlt) hw1 hown (lies_at hat hH)).set (b := bw) (by simp) 0 (.slice (some ⟨g, 0, none⟩) (ps.length + 1) cap)
    simpa [ptrs] using this
/-- A hold does not turn where only the lists do. -/
theorem Lw.hold {F : Nat → Prop} {q : Nat} {mk : Int} {vi vn : Value} {ni nn : Nat} (h : Lw B w bw ps hs vp vh) (hq : HoldIs w q mk vi vn ni nn) (hs' : Still w w' F) (hF : ∀ k, k < w.heap.size → F k → foot bw [vp, vh] k) : HoldIs w' q mk vi vn ni nn :=
  hq.still hs' (fun e => h.notfoot hq.blk (by decide) (by decide) (by decide) (hF _ hq.blk.lt e)) (fun k hk e => h.notrow hq.is (by decide) (by decide) (by decide) hk (hF k (ownsRow_lt hq.is hk).1 e)) (fun k hk e => h.notrow hq.ns (by decide) (by decide) (by decide) hk (hF k (ownsRow_lt hq.ns hk).1 e))
end

theorem Tryz.infoHoldP : (Tryz.prog.info? 90).map (fun i => (i.zero, i.size, i.bytes)) = some (some (.pointer none), 1, 8) := by kernel_rfl
theorem Tryz.infoPlayerP : (Tryz.prog.info? 87).map (fun i => (i.zero, i.size, i.bytes)) = some (some (.pointer none), 1, 8) := by kernel_rfl

/-- While keep goes on: what it has kept so far, the last of it. -/
structure Kp (B : Nat) (w : World) (wr : World) (bw : Nat) (ps hs : List Nat) (vp vh : Value) (q : Nat) (vi vn : Value) (ni nn : Nat) (mk : Int) (k : Nat) (gl : List Nat) (qg : Nat) (vig vng vhk : Value) : Prop where
  lw : Lw B wr bw ps (hs ++ gl) vp vhk
  len : gl.length = k + 1
  cur : HoldIs wr qg mk vig vng (ni + k) (nn + k)
  all : ∀ x ∈ gl, ∃ vi' vn' ni' nn', HoldIs wr x mk vi' vn' ni' nn' ∧ ni' ≤ ni + k ∧ nn' ≤ nn + k ∧ (∀ j, vi'.ownBlock = some j → vi.ownBlock = some j ∨ w.heap.size ≤ j) ∧ (∀ j, vn'.ownBlock = some j → vn.ownBlock = some j ∨ w.heap.size ≤ j) ∧ (x = q ∨ w.heap.size ≤ x)
  rowi : ∀ j, vig.ownBlock = some j → vi.ownBlock = some j ∨ w.heap.size ≤ j
  rown : ∀ j, vng.ownBlock = some j → vn.ownBlock = some j ∨ w.heap.size ≤ j
  lists : ∀ j, foot bw [vp, vhk] j → foot bw [vp, vh] j ∨ w.heap.size ≤ j
  still : Still w wr (fun j => foot bw [vp, vh] j ∨ j = q ∨ vi.ownBlock = some j ∨ vn.ownBlock = some j)

/-- One more is kept. -/
theorem Kp.next {B : Nat} {w wr w3 w4 : World} {bw : Nat} {ps hs : List Nat} {vp vh : Value} {q : Nat} {vi vn : Value} {ni nn : Nat} {mk : Int} {k : Nat} {gl : List Nat} {qg : Nat} {vig vng vhk : Value} (h : Kp B w wr bw ps hs vp vh q vi vn ni nn mk k gl qg vig vng vhk)
    {q2 : Nat} {vi2 vn2 : Value} (hcur : HoldIs w3 q2 mk vi2 vn2 (ni + k + 1) (nn + k + 1)) (hq2 : wr.heap.size ≤ q2) (hri : ∀ j, vi2.ownBlock = some j → vig.ownBlock = some j ∨ wr.heap.size ≤ j) (hrn : ∀ j, vn2.ownBlock = some j → vng.ownBlock = some j ∨ wr.heap.size ≤ j)
    (hs3 : Still wr w3 (fun j => vig.ownBlock = some j ∨ vng.ownBlock = some j)) (hpre : ∀ q' vi' vn' ni' nn', HoldIs wr q' mk vi' vn' ni' nn' → ni' ≤ ni + k → nn' ≤ nn + k → HoldIs w3 q' mk vi' vn' ni' nn')
    {g cap H : Nat} (hw4 : (w3.alloc (.cells #[.pointer (some ⟨q2, 0, none⟩)] 90)).grownBy w4 vhk.ownBlock) (hown : w4.ownsRow B 90 1 (.slice (some ⟨g, 0, none⟩) ((hs ++ gl).length + 1) cap) ((hs ++ gl).length + 1) (ptrs (hs ++ gl) ++ [.pointer (some ⟨q2, 0, none⟩)]))
    (hat : vhk.ownBlock = some g ∨ g = H) (hH : (w3.alloc (.cells #[.pointer (some ⟨q2, 0, none⟩)] 90)).heap.size = H) :
    Kp B w (w4.setCell ⟨bw, 1, none⟩ (.slice (some ⟨g, 0, none⟩) ((hs ++ gl).length + 1) cap)) bw ps hs vp vh q vi vn ni nn mk (k + 1) (gl ++ [q2]) q2 vi2 vn2 (.slice (some ⟨g, 0, none⟩) ((hs ++ gl).length + 1) cap) := by
  have hl3 := h.lw.still hs3 (fun j hj e => by
    rcases e with e | e
    · exact h.lw.notrow h.cur.is (by decide) (by decide) (by decide) e hj
    · exact h.lw.notrow h.cur.ns (by decide) (by decide) (by decide) e hj)
  have hs5 : Still w3 (w4.setCell ⟨bw, 1, none⟩ (.slice (some ⟨g, 0, none⟩) ((hs ++ gl).length + 1) cap)) (foot bw [vp, vhk]) :=
    Still.set (F := foot bw [vp, vhk]) (Still.grown (F := foot bw [vp, vhk]) (Still.alloc (Still.refl w3 _) _) hw4 (fun j hj => Or.inl (Or.inr ⟨1, vhk, rfl, hj⟩))) (Or.inl (Or.inl rfl)) _ _
  have hsz1 := h.still.size
  have hsz3 := hs3.size
  have hold5 : ∀ {x : Nat} {a b : Value} {n m : Nat}, HoldIs w3 x mk a b n m → HoldIs (w4.setCell ⟨bw, 1, none⟩ (.slice (some ⟨g, 0, none⟩) ((hs ++ gl).length + 1) cap)) x mk a b n m := fun hx => hl3.hold hx hs5 (fun _ _ e => e)
  refine ⟨?_, by simp [h.len], hold5 hcur, ?_, ?_, ?_, ?_, ?_⟩
  · have := (hl3.alloc (.cells #[.pointer (some ⟨q2, 0, none⟩)] 90)).growH hw4 hown hat (by omega)
    rw [List.append_assoc] at this
    exact this
  · intro x hx
    simp only [List.mem_append, List.mem_singleton] at hx
    rcases hx with hx | rfl
    · obtain ⟨vi', vn', ni', nn', h1, h2, h3, h4⟩ := h.all x hx
      exact ⟨vi', vn', ni', nn', hold5 (hpre _ _ _ _ _ h1 h2 h3), by omega, by omega, h4⟩
    · refine ⟨vi2, vn2, _, _, hold5 hcur, by omega, by omega, ?_, ?_, Or.inr (by omega)⟩
      · intro j hj
        rcases hri j hj with e | e
        · exact h.rowi j e
        · exact Or.inr (by omega)
      · intro j hj
        rcases hrn j hj with e | e
        · exact h.rown j e
        · exact Or.inr (by omega)
  · intro j hj
    rcases hri j hj with e | e
    · exact h.rowi j e
    · exact Or.inr (by omega)
  · intro j hj
    rcases hrn j hj with e | e
    · exact h.rown j e
    · exact Or.inr (by omega)
  · rintro j (rfl | ⟨i, v, hv, hk⟩)
    · exact Or.inl (Or.inl rfl)
    · match i, (List.getElem?_eq_some_iff.1 hv).1 with
      | 0, _ => simp at hv; subst hv; exact Or.inl (Or.inr ⟨0, vp, rfl, hk⟩)
      | 1, _ =>
        simp at hv; subst hv
        simp only [Value.ownBlock, Option.some.injEq] at hk
        rcases hat with e | e
        · exact h.lists j (Or.inr ⟨1, vhk, rfl, by rw [e, hk]⟩)
        · refine Or.inr ?_
          rw [← hk, e, ← hH]
          simp
          omega
  · refine (h.still.trans hs3 ?_).trans hs5 ?_
    · intro j hj e
      rcases e with e | e
      · rcases h.rowi j e with e2 | e2
        · exact Or.inr (Or.inr (Or.inl e2))
        · omega
      · rcases h.rown j e with e2 | e2
        · exact Or.inr (Or.inr (Or.inr e2))
        · omega
    · intro j hj e
      rcases h.lists j e with e2 | e2
      · exact Or.inl e2
      · omega

/-- The first one. -/
theorem Kp.first {B : Nat} {w w2 w4 : World} {bw : Nat} {ps hs : List Nat} {vp vh : Value} {q : Nat} {vi vn : Value} {ni nn : Nat} {mk : Int} (hl : Lw B w2 bw ps hs vp vh) (hcur : HoldIs w2 q mk vi vn ni nn)
    (hs2 : Still w w2 (fun j => j = q ∨ vi.ownBlock = some j ∨ vn.ownBlock = some j))
    {g cap H : Nat} (hw4 : (w2.alloc (.cells #[.pointer (some ⟨q, 0, none⟩)] 90)).grownBy w4 vh.ownBlock) (hown : w4.ownsRow B 90 1 (.slice (some ⟨g, 0, none⟩) (hs.length + 1) cap) (hs.length + 1) (ptrs hs ++ [.pointer (some ⟨q, 0, none⟩)]))
    (hat : vh.ownBlock = some g ∨ g = H) (hH : (w2.alloc (.cells #[.pointer (some ⟨q, 0, none⟩)] 90)).heap.size = H) :
    Kp B w (w4.setCell ⟨bw, 1, none⟩ (.slice (some ⟨g, 0, none⟩) (hs.length + 1) cap)) bw ps hs vp vh q vi vn ni nn mk 0 [q] q vi vn (.slice (some ⟨g, 0, none⟩) (hs.length + 1) cap) := by
  have hs5 : Still w2 (w4.setCell ⟨bw, 1, none⟩ (.slice (some ⟨g, 0, none⟩) (hs.length + 1) cap)) (foot bw [vp, vh]) :=
    Still.set (F := foot bw [vp, vh]) (Still.grown (F := foot bw [vp, vh]) (Still.alloc (Still.refl w2 _) _) hw4 (fun j hj => Or.inl (Or.inr ⟨1, vh, rfl, hj⟩))) (Or.inl (Or.inl rfl)) _ _
  have hsz := hs2.size
  have hc5 := hl.hold hcur hs5 (fun _ _ e => e)
  refine ⟨?_, rfl, hc5, ?_, fun j hj => Or.inl hj, fun j hj => Or.inl hj, ?_, ?_⟩
  · exact (hl.alloc (.cells #[.pointer (some ⟨q, 0, none⟩)] 90)).growH hw4 hown hat (by omega)
  · intro x hx
    simp only [List.mem_singleton] at hx
    subst hx
    exact ⟨vi, vn, _, _, hc5, Nat.le_refl _, Nat.le_refl _, fun j hj => Or.inl hj, fun j hj => Or.inl hj, Or.inl rfl⟩
  · rintro j (rfl | ⟨i, v, hv, hk⟩)
    · exact Or.inl (Or.inl rfl)
    · match i, (List.getElem?_eq_some_iff.1 hv).1 with
      | 0, _ => simp at hv; subst hv; exact Or.inl (Or.inr ⟨0, vp, rfl, hk⟩)
      | 1, _ =>
        simp at hv; subst hv
        simp only [Value.ownBlock, Option.some.injEq] at hk
        rcases hat with e | e
        · exact Or.inl (Or.inr ⟨1, vh, rfl, by rw [e, hk]⟩)
        · refine Or.inr ?_
          rw [← hk, e, ← hH]
          simp
          omega
  · exact (hs2.mono (G := fun j => foot bw [vp, vh] j ∨ j = q ∨ vi.ownBlock = some j ∨ vn.ownBlock = some j) (fun j _ e => Or.inr e)).trans hs5 (fun j _ e => Or.inl e)

set_option maxRecDepth 100000 in
set_option maxHeartbeats 2000000 in
theorem keep_any (B bw : Nat) (ps hs : List Nat) (vp vh : Value) (q : Nat) (mk0 : Int) (vi vn : Value) (li : List (Int × Int)) (ln : List Int) (w : World) (h : Lw B w bw ps hs vp vh) (hblk : Blk w q #[vi, vn, .int .i64 mk0] 134)
    (hi : w.ownsRow 0 65 2 vi li.length (instrCells li)) (hn : w.ownsRow 0 2 1 vn ln.length (intCells ln)) (hli : li.length ≤ 4398046511104) (hln : ln.length ≤ 4398046511104) (hhs : hs.length + 4 ≤ 17592186044416) :
    Calls Tryz.prog 68 #[.pointer (some ⟨bw, 0, none⟩), .pointer (some ⟨q, 0, none⟩)] w fun e w' => e = .returned (.tuple #[]) ∧ ∃ gl qg vig vng vh', Kp B w w' bw ps hs vp vh q vi vn li.length ln.length (hs.length + 1) 3 gl qg vig vng vh' := by
  obtain ⟨iH, hiH, hzH0, hzH1, hzH2⟩ := info_parts Tryz.infoHoldP
  obtain ⟨ah, ch, hvh⟩ := own_shape h.oh
  subst hvh
  have hc := h.blk.cell
  have hbl := h.blk.lt
  have hqc := hblk.cell
  have hqf := hblk.free
  have hql := hblk.lt
  have hnf := h.notfoot hblk (by decide) (by decide) (by decide)
  have hqb : bw ≠ q := fun e => hnf (Or.inl e.symm)
  have hhI : (hs.length : Int) + 4 ≤ 17592186044416 := by omega
  -- behind the mark
  have hblk1 := hblk.set 2 (.int .i64 ((hs.length : Int) + 1))
  simp only [List.setIfInBounds_toArray, List.set_cons_succ, List.set_cons_zero] at hblk1
  have hqi := row_not_blk hblk hi (by decide)
  have hqn := row_not_blk hblk hn (by decide)
  have hi1 := ownsRow_far hi hqi (.int .i64 ((hs.length : Int) + 1)) (a := ⟨q, 2, none⟩)
  have hn1 := ownsRow_far hn hqn (.int .i64 ((hs.length : Int) + 1)) (a := ⟨q, 2, none⟩)
  have HM := V (marks_any q (hs.length + 1) vi vn li ln _ hblk1 hi1 hn1 (by omega) (by omega) (by omega))
  have hs1 : Still w (w.setCell ⟨q, 2, none⟩ (.int .i64 ((hs.length : Int) + 1))) (fun j => j = q) := Still.set (F := fun j => j = q) (Still.refl w _) (Or.inl rfl) _ _
  have hl1 := h.still hs1 (fun k hk e => hnf (by rw [← e]; exact hk))
  have HS1 := V hs1
  have HL1 := V hl1
  have HI1 := V hi1
  have HN1 := V hn1
  have HL := V h
  clear hi1 hn1 hblk1 hs1 hl1 h
  go_enter Tryz.func68, Tryz.ntmps68
  go_wp2_with fail
  refine (U HM).mono ?_
  rintro e w2 ⟨rfl, hh2, hs2⟩
  have hl2 := (U HL1).still hs2 (fun k hk e => by
    rcases e with e | e
    · exact (U HL1).notrow (U HI1) (by decide) (by decide) (by decide) e hk
    · exact (U HL1).notrow (U HN1) (by decide) (by decide) (by decide) e hk)
  have hl2c := hl2.blk.cell
  have hl2f := hl2.blk.free
  have hB2 : B ≤ w2.heap.size := by have := hl2.base; have := hl2.blk.lt; omega
  have HW := V (ownsRow_alloc hl2.oh (.cells #[.pointer (some ⟨q, 0, none⟩)] 90))
  have hBs : B ≤ (w2.alloc (.cells #[.pointer (some ⟨q, 0, none⟩)] 90)).heap.size := by simp; omega
  have HBs := V hBs
  have HL2 := V hl2
  have HH2 := V hh2
  have HS2 := V hs2
  have hb2l := hl2.blk.lt
  have HBA := V (hl2.blk.alloc (.cells #[.pointer (some ⟨q, 0, none⟩)] 90))
  have hne2 := hl2.ne 1 _ rfl
  clear hBs hh2 hs2 hl2 HM hc hqc hqf
  go_wp2_with (at_builtin; refine wpList_append_lies _ rfl (.tmp 21) (.tmp 23) 68 rfl B 90 iH _ 1 8 Tryz.underlying68 hiH hzH0 hzH1 hzH2 rfl (by decide) (.slice ah hs.length ch) hs.length (ptrs hs) (by simp [Act.eval]) (U HW) ⟨w2.heap.size, 0, none⟩ 1 1 [.pointer (some ⟨q, 0, none⟩)] (by simp [Act.eval]) rfl (World.news_of_block (Blk.new w2 _ _)) (by simp [Value.oneCell']) (by omega) (by unfold maxLen; omega) (by omega) (U HBs) _ rfl ?_; intro g cap w5 hown hgrow hat hlt1; have hb5 := (U HBA).grown hgrow hne2; have hc5 := hb5.cell; have hf5 := hb5.free; have HO := V hown; have HG := V hgrow; have HA := V hat; clear hown hgrow hat hb5 hl2c hl2f)
  have hst2 : Still w w2 (fun j => j = q ∨ vi.ownBlock = some j ∨ vn.ownBlock = some j) := ((U HS1).mono (fun j _ e => Or.inl e)).trans (U HS2) (fun j _ e => Or.inr e)
  have hk0 := Kp.first (U HL2) (U HH2) hst2 (U HG) (U HO) (U HA) rfl
  clear hc5 hf5 hst2 HW HBs HL2 HH2 HS2 HBA hne2 hb2l HO HG HA HS1 HL1 HI1 HN1 HL
  generalize w5.setCell ⟨bw, 1, none⟩ (.slice (some ⟨g, 0, none⟩) (hs.length + 1) cap) = w6 at hk0 ⊢
  generalize Value.slice (some ⟨g, 0, none⟩) (hs.length + 1) cap = vh6 at hk0 ⊢
  generalize hmkE : (hs.length : Int) + 1 = mk at hk0 ⊢
  generalize hniE : li.length = ni at *
  generalize hnnE : ln.length = nn at *
  have HE1 := V hniE
  have HE2 := V hnnE
  have HE3 := V hmkE
  clear hniE hnnE hmkE hi hn hblk
  go_wp2_with fail
  go_loopw [4, 5] (fun gv n wr => ∃ (k : Nat) (gl : List Nat) (qg : Nat) (vig vng vhk : Value), n = .int .i64 k ∧ k ≤ 3 ∧ gv = .pointer (some ⟨qg, 0, none⟩) ∧ Kp B w wr bw ps hs vp (.slice ah hs.length ch) q vi vn ni nn mk k gl qg vig vng vhk) (fun _ n _ => 3 - (intOf n).toNat)
  case atStart => exact ⟨0, [q], q, _, _, _, rfl, by omega, rfl, hk0⟩
  case round =>
    clear hk0
    obtain ⟨k, gl, qg, vig, vng, vhk, rfl, hk3, rfl, hkp⟩ := hrel
    by_cases hlt : k < 3
    · have hltI : (k : Int) < 3 := by omega
      have HLG := V (longer_any qg mk vig vng (ni + k) (nn + k) wr hkp.cur (by omega) (by omega))
      have HKP := V hkp
      have hlen := hkp.len
      clear hkp
      go_wp2_with fail
      refine (U HLG).mono ?_
      rintro e w3 ⟨q2, vi2, vn2, rfl, hq2, hcur, hri, hrn, hs3, hpre⟩
      have hl3 := (U HKP).lw.still hs3 (fun j hj e => by
        rcases e with e | e
        · exact (U HKP).lw.notrow (U HKP).cur.is (by decide) (by decide) (by decide) e hj
        · exact (U HKP).lw.notrow (U HKP).cur.ns (by decide) (by decide) (by decide) e hj)
      obtain ⟨ak, ck, hvk⟩ := own_shape hl3.oh
      subst hvk
      have hc3 := hl3.blk.cell
      have hf3 := hl3.blk.free
      have hb3l := hl3.blk.lt
      have hB3 : B ≤ w3.heap.size := by have := hl3.base; omega
      have HW := V (ownsRow_alloc hl3.oh (.cells #[.pointer (some ⟨q2, 0, none⟩)] 90))
      have hBs : B ≤ (w3.alloc (.cells #[.pointer (some ⟨q2, 0, none⟩)] 90)).heap.size := by simp; omega
      have HBs := V hBs
      have HBA := V (hl3.blk.alloc (.cells #[.pointer (some ⟨q2, 0, none⟩)] 90))
      have hne3 := hl3.ne 1 _ rfl
      have HC := V hcur
      have HRI := V hri
      have HRN := V hrn
      have HS3 := V hs3
      have HPRE := V hpre
      have hll : (hs ++ gl).length + 1 ≤ 17592186044416 := by simp [hlen]; omega
      clear hBs hcur hri hrn hs3 hpre hl3 HLG
      generalize hHL : hs ++ gl = hl at *
      have HHL := V hHL
      clear hHL
      go_wp2_with (at_builtin; refine wpList_append_lies _ rfl (.tmp 38) (.tmp 40) 68 rfl B 90 iH _ 1 8 Tryz.underlying68 hiH hzH0 hzH1 hzH2 rfl (by decide) (.slice ak hl.length ck) hl.length (ptrs hl) (by simp [Act.eval]) (U HW) ⟨w3.heap.size, 0, none⟩ 1 1 [.pointer (some ⟨q2, 0, none⟩)] (by simp [Act.eval]) rfl (World.news_of_block (Blk.new w3 _ _)) (by simp [Value.oneCell']) (by omega) (by unfold maxLen; omega) (by omega) (U HBs) _ rfl ?_; intro g cap w5 hown hgrow hat hlt1; have hb5 := (U HBA).grown hgrow hne3; have hc5 := hb5.cell; have hf5 := hb5.free; have HO := V hown; have HG := V hgrow; have HA := V hat; clear hown hgrow hat hb5 hc3 hf3)
      go_roundw
      case rel =>
        obtain rfl := (U HHL).symm
        exact ⟨k + 1, gl ++ [q2], q2, _, _, _, by go_num, by omega, rfl, (U HKP).next (U HC) hq2 (U HRI) (U HRN) (U HS3) (U HPRE) (U HG) (U HO) (U HA) rfl⟩
      case measure => simp [intOf]; omega
    · have hkn : k = 3 := by omega
      subst hkn
      go_wp2_with fail
      go_end0
      rw [U HE1, U HE2, U HE3]
      exact ⟨rfl, gl, qg, vig, vng, vhk, hkp⟩
/-- Only blocks of the lists' types have turned. -/
structure LawStill (w w' : World) : Prop where
  os : w'.os = w.os
  tape : w'.tape = w.tape
  output : w'.output = w.output
  size : w.heap.size ≤ w'.heap.size
  block : ∀ (k : Nat) (cs : Array Value) (T : TypeId), Blk w k cs T → T ≠ 70 → T ≠ 87 → T ≠ 90 → Blk w' k cs T
theorem LawStill.refl (w : World) : LawStill w w := ⟨rfl, rfl, rfl, Nat.le_refl _, fun _ _ _ h _ _ _ => h⟩
theorem LawStill.trans {a b c : World} (h : LawStill a b) (k : LawStill b c) : LawStill a c :=
  ⟨k.os.trans h.os, k.tape.trans h.tape, k.output.trans h.output, Nat.le_trans h.size k.size, fun i cs T hb h1 h2 h3 => k.block i cs T (h.block i cs T hb h1 h2 h3) h1 h2 h3⟩
theorem LawStill.ofBelow {w w' : World} (h : Below w.heap.size w w') : LawStill w w' :=
  ⟨h.os, h.tape, h.output, h.size, fun _ _ _ hb _ _ _ => hb.below h hb.lt⟩
theorem LawStill.blk {w w' : World} {k : Nat} {cs : Array Value} {T : TypeId} (h : LawStill w w') (hb : Blk w k cs T) (h1 : T ≠ 70 := by decide) (h2 : T ≠ 87 := by decide) (h3 : T ≠ 90 := by decide) : Blk w' k cs T := h.block k cs T hb h1 h2 h3
theorem LawStill.row {w w' : World} {base : Nat} {e : TypeId} {size : Nat} {v : Value} {n : Nat} {xs : List Value} (h : LawStill w w') (ho : w.ownsRow base e size v n xs) (h1 : e ≠ 70 := by decide) (h2 : e ≠ 87 := by decide) (h3 : e ≠ 90 := by decide) : w'.ownsRow base e size v n xs := by
  refine ⟨ho.1, ?_⟩
  rcases ho.2 with h0 | ⟨g, cap, cur, hv, hg, hc, hr⟩
  · exact Or.inl h0
  · exact Or.inr ⟨g, cap, cur, hv, hg, h.block g cur e hc h1 h2 h3, hr⟩
theorem LawStill.hold {w w' : World} {q : Nat} {mk : Int} {vi vn : Value} {ni nn : Nat} (h : LawStill w w') (hq : HoldIs w q mk vi vn ni nn) : HoldIs w' q mk vi vn ni nn :=
  ⟨h.blk hq.blk, h.row hq.is, h.row hq.ns, hq.bd, hq.small⟩
/-- Where only the lists turn, and what is new. -/
theorem Lw.law {B : Nat} {w w' : World} {bw : Nat} {ps hs : List Nat} {vp vh : Value} (h : Lw B w bw ps hs vp vh) {F : Nat → Prop} (hs' : Still w w' F) (hF : ∀ k, k < w.heap.size → F k → foot bw [vp, vh] k) : LawStill w w' :=
  ⟨hs'.os, hs'.tape, hs'.output, hs'.size, fun k _ _ hb h1 h2 h3 => hb.still hs' (fun e => h.notfoot hb h1.symm h2.symm h3.symm (hF k hb.lt e))⟩

def HoldsOk (w : World) (hs : List Nat) : Prop := ∀ q ∈ hs, ∃ mk vi vn ni nn, HoldIs w q mk vi vn ni nn
theorem HoldsOk.law {w w' : World} {hs : List Nat} (h : HoldsOk w hs) (hl : LawStill w w') : HoldsOk w' hs := fun q hq => by
  obtain ⟨mk, vi, vn, ni, nn, h1⟩ := h q hq
  exact ⟨mk, vi, vn, ni, nn, hl.hold h1⟩

theorem ptrs_at (l : List Nat) (k q : Nat) (h : l[k]? = some q) : (ptrs l)[k]? = some (.pointer (some ⟨q, 0, none⟩)) := by
  unfold ptrs; rw [List.getElem?_map, h]; rfl

set_option maxRecDepth 100000 in
set_option maxHeartbeats 2000000 in
theorem looks_any (B bw : Nat) (ps hs : List Nat) (vp vh : Value) (w : World) (h : Lw B w bw ps hs vp vh) (hh : HoldsOk w hs) (hlen : hs.length ≤ 17592186044416) :
    Calls Tryz.prog 33 #[.pointer (some ⟨bw, 0, none⟩)] w fun e w' => e = .returned (.bool true) ∧ w' = w := by
  obtain ⟨ah, ch, hvh⟩ := own_shape h.oh
  subst hvh
  have hc := h.blk.cell
  have HL := V h
  have HH := V hh
  have hlI : (hs.length : Int) ≤ 17592186044416 := by omega
  clear h hh
  go_enter Tryz.func33, Tryz.ntmps33
  go_wp2_with fail
  go_loop [3] (fun i => ∃ k : Nat, k ≤ hs.length ∧ i = .int .i64 k) (fun i => hs.length - (intOf i).toNat)
  case atStart => exact ⟨0, Nat.zero_le _, rfl⟩
  case round =>
    obtain ⟨k, hk, rfl⟩ := hrel
    by_cases hlt : k < hs.length
    · obtain ⟨q, hq⟩ : ∃ q, hs[k]? = some q := ⟨_, List.getElem?_eq_getElem hlt⟩
      obtain ⟨g, cap, hv, _, hgl⟩ := (U HL).oh.form (by omega)
      simp only [Value.slice.injEq, true_and] at hv
      obtain ⟨rfl, rfl⟩ := hv
      have hcell := own_cell (U HL).oh k (by omega)
      rw [ptrs_at hs k q hq] at hcell
      obtain ⟨mk, vi, vn, ni, nn, hhold⟩ := U HH q (List.mem_of_getElem? hq)
      have HM := V (marked_any q mk vi vn ni nn w hhold)
      have hltI : (k : Int) < hs.length := by omega
      clear hhold hq
      go_wp2_with fail
      refine (U HM).mono ?_
      rintro e w2 ⟨rfl, hw⟩
      obtain rfl := hw.symm
      clear hw
      go_wp2_with fail
      go_round
      case rel => exact ⟨k + 1, by omega, by go_num⟩
      case measure => simp [intOf]; omega
    · have hkn : k = hs.length := by omega
      subst hkn
      go_wp2_with fail
      go_ret
      exact ⟨rfl, rfl⟩

set_option maxRecDepth 100000 in
set_option maxHeartbeats 2000000 in
theorem add_any (B bw : Nat) (ps hs : List Nat) (vp vh : Value) (q : Nat) (w : World) (h : Lw B w bw ps hs vp vh) :
    Calls Tryz.prog 66 #[.pointer (some ⟨bw, 0, none⟩), .pointer (some ⟨q, 0, none⟩)] w fun e w' => e = .returned (.tuple #[]) ∧ ∃ ps' vp', (ps' = ps ∨ ps' = ps ++ [q]) ∧ Lw B w' bw ps' hs vp' vh ∧ LawStill w w' ∧ Below B w w' := by
  obtain ⟨iP, hiP, hzP0, hzP1, hzP2⟩ := info_parts Tryz.infoPlayerP
  obtain ⟨ap, cp, hvp⟩ := own_shape h.op
  subst hvp
  have hc := h.blk.cell
  have hf := h.blk.free
  have hbl := h.blk.lt
  have hfew := h.few
  have hfI : (ps.length : Int) ≤ 6 := by omega
  have hBw : B ≤ w.heap.size := by have := h.base; omega
  by_cases hlt : ps.length < 6
  · have hltI : (ps.length : Int) < 6 := by omega
    have HW := V (ownsRow_alloc h.op (.cells #[.pointer (some ⟨q, 0, none⟩)] 87))
    have hBs : B ≤ (w.alloc (.cells #[.pointer (some ⟨q, 0, none⟩)] 87)).heap.size := by simp; omega
    have HBs := V hBs
    have HBA := V (h.blk.alloc (.cells #[.pointer (some ⟨q, 0, none⟩)] 87))
    have hne := h.ne 0 _ rfl
    have HL := V h
    clear hBs h
    go_enter Tryz.func66, Tryz.ntmps66
    go_wp2_with (at_builtin; refine wpList_append_lies _ rfl (.tmp 14) (.tmp 16) 67 rfl B 87 iP _ 1 8 Tryz.underlying67 hiP hzP0 hzP1 hzP2 rfl (by decide) (.slice ap ps.length cp) ps.length (ptrs ps) (by simp [Act.eval]) (U HW) ⟨w.heap.size, 0, none⟩ 1 1 [.pointer (some ⟨q, 0, none⟩)] (by simp [Act.eval]) rfl (World.news_of_block (Blk.new w _ _)) (by simp [Value.oneCell']) (by omega) (by unfold maxLen; omega) (by omega) (U HBs) _ rfl ?_; intro g cap w5 hown hgrow hat hlt1; have hb5 := (U HBA).grown hgrow hne; have hc5 := hb5.cell; have hf5 := hb5.free; have HO := V hown; have HG := V hgrow; have HA := V hat; clear hown hgrow hat hb5 hc hf)
    go_end0
    have hs5 : Still w (w5.setCell ⟨bw, 0, none⟩ (.slice (some ⟨g, 0, none⟩) (ps.length + 1) cap)) (foot bw [.slice ap ps.length cp, vh]) :=
      Still.set (F := foot bw [.slice ap ps.length cp, vh]) (Still.grown (F := foot bw [.slice ap ps.length cp, vh]) (Still.alloc (Still.refl w _) _) (U HG) (fun j hj => Or.inl (Or.inr ⟨0, _, rfl, hj⟩))) (Or.inl (Or.inl rfl)) _ _
    exact ⟨rfl, ps ++ [q], _, Or.inr rfl, ((U HL).alloc (.cells #[.pointer (some ⟨q, 0, none⟩)] 87)).growP (U HG) (U HO) (U HA) (by omega) hlt, (U HL).law hs5 (fun _ _ e => e), hs5.below (fun k hk => ((U HL).footlt hk).1) hBw⟩
  · have hge : ps.length = 6 := by omega
    have HL := V h
    rw [hge] at hc
    clear h
    go_enter Tryz.func66, Tryz.ntmps66
    go_wp2_with fail
    go_end0
    exact ⟨rfl, ps, _, Or.inl rfl, U HL, LawStill.refl w, Below.refl _ _⟩

set_option maxRecDepth 100000 in
set_option maxHeartbeats 2000000 in
theorem sameNums_any (va vb : Value) (la lb : List Int) (ba bb : Nat) (w : World) (ha : w.ownsRow ba 2 1 va la.length (intCells la)) (hb : w.ownsRow bb 2 1 vb lb.length (intCells lb)) (hla : la.length ≤ 17592186044416) (hlb : lb.length ≤ 17592186044416) :
    Calls Tryz.prog 185 #[va, vb] w fun e w' => e = .returned (.bool (decide (la = lb))) ∧ ∃ n, w' = w.drewN n := by
  obtain ⟨aa, ca, hva⟩ := own_shape ha
  obtain ⟨ab, cb, hvb⟩ := own_shape hb
  subst hva hvb
  have hlaI : (la.length : Int) ≤ 17592186044416 := by omega
  have hlbI : (lb.length : Int) ≤ 17592186044416 := by omega
  by_cases hll : la.length = lb.length
  · have HA := V ha
    have HB := V hb
    have hllI : (la.length : Int) = lb.length := by omega
    clear ha hb
    go_enter Tryz.func185, Tryz.ntmps185
    go_wp2_with fail
    go_loopw [5] (fun i wr => ∃ (k n : Nat), i = .int .i64 k ∧ k ≤ la.length ∧ la.take k = lb.take k ∧ wr = w.drewN n) (fun i _ => la.length - (intOf i).toNat)
    case atStart => exact ⟨0, 0, rfl, Nat.zero_le _, rfl, rfl⟩
    case round =>
      obtain ⟨k, n, rfl, hk, heq, rfl⟩ := hrel
      have HEQ := V heq
      clear heq
      by_cases hlt : k < la.length
      · obtain ⟨g, cap, hv, _, _⟩ := (U HA).form (by omega)
        simp only [Value.slice.injEq, true_and] at hv
        obtain ⟨rfl, rfl⟩ := hv
        obtain ⟨g2, cap2, hv, _, _⟩ := (U HB).form (by omega)
        simp only [Value.slice.injEq, true_and] at hv
        obtain ⟨rfl, rfl⟩ := hv
        obtain ⟨x, hx⟩ : ∃ x, la[k]? = some x := ⟨_, List.getElem?_eq_getElem hlt⟩
        obtain ⟨y, hy⟩ : ∃ y, lb[k]? = some y := ⟨_, List.getElem?_eq_getElem (by omega)⟩
        have hc1 := own_cell (U HA) k (by omega)
        have hc2 := own_cell (U HB) k (by omega)
        have e1 : (intCells la)[k]? = some (.int .i64 x) := by unfold intCells; rw [List.getElem?_map, hx]; rfl
        have e2 : (intCells lb)[k]? = some (.int .i64 y) := by unfold intCells; rw [List.getElem?_map, hy]; rfl
        rw [e1] at hc1
        rw [e2] at hc2
        have hltI : (k : Int) < la.length := by omega
        have hltJ : (k : Int) < lb.length := by omega
        have HX := V hx
        have HY := V hy
        clear hx hy e1 e2
        by_cases hxy : x = y
        · subst hxy
          go_wp2_with fail
          go_region
          go_wp2_with fail
          go_roundw
          case rel =>
            refine ⟨k + 1, n + 1, by go_num, by omega, ?_, rfl⟩
            rw [take_one la k x (U HX), take_one lb k x (U HY), U HEQ]
          case measure => simp [intOf]; omega
        · have hxy' : (x == y) = false := by simpa using hxy
          go_wp2_with fail
          go_region
          go_wp2_with fail
          go_ret
          refine ⟨ret_bool ?_, n + 1, rfl⟩
          have : la ≠ lb := by
            rintro rfl
            have h1 := U HX
            rw [U HY] at h1
            exact hxy (Option.some.inj h1).symm
          simp [this]
      · have hkn : k = la.length := by omega
        subst hkn
        go_wp2_with fail
        go_ret
        refine ⟨ret_bool ?_, _, rfl⟩
        have h1 := U HEQ
        rw [List.take_of_length_le (Nat.le_refl _), hll, List.take_of_length_le (Nat.le_refl _)] at h1
        simp [h1]
  · have hll' : (((la.length : Int) == (lb.length : Int))) = false := by
      simp
      omega
    have hne : la ≠ lb := fun e => hll (by rw [e])
    go_enter Tryz.func185, Tryz.ntmps185
    go_wp2_with fail
    go_ret
    refine ⟨ret_bool ?_, 0, rfl⟩
    simp [hne]
end Go.Proofs.YtmeiikjpaepogaaGreatDoor
