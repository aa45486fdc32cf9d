/- The statements' world: loaded. -/
import Derived.Test.YtmeiikjpaepogaaGreatDoorL01
import Derived.Test.YtmeiikjpaepogaaGreatDoorK45
import Derived.Test.YtmeiikjpaepogaaGreatDoorK23
namespace Go.Proofs.YtmeiikjpaepogaaGreatDoor
open Go Go.RowKit

theorem Tryz.name20 : (Tryz.f20.name == "runtime.NumGoroutine") = false := by kernel_rfl
theorem Tryz.body20 : Tryz.f20.body.isNone = false := by kernel_rfl
/-- The list with eight places more. -/
def more8 (l : List (Int × Int)) : List (Int × Int) := l ++ List.replicate 8 ((0 : Int), (0 : Int))
theorem more8_len (l : List (Int × Int)) : (more8 l).length = l.length + 8 := by simp [more8]
theorem more8_in (l : List (Int × Int)) {k : Nat} (h : k < l.length) : (more8 l)[k]? = l[k]? := by unfold more8; rw [List.getElem?_append_left h]
theorem more8_out (l : List (Int × Int)) {k : Nat} (h : l.length ≤ k) (h8 : k < l.length + 8) : (more8 l)[k]? = some (0, 0) := by
  unfold more8
  rw [List.getElem?_append_right h, List.getElem?_replicate, if_pos (by omega)]
theorem row_more8 {w : World} {g N : Nat} {l : List (Int × Int)} (hN : N = l.length + 8) (hll : l.length ≤ 8796093021960) (h : Blk w g (instrCells (more8 l)).toArray 65) : w.ownsRow 0 65 2 (.slice (some ⟨g, 0, none⟩) N N) N (instrCells (more8 l)) := by
  have e := more8_len l
  have e2 := instrCells_length (more8 l)
  subst hN
  refine ⟨by rw [e2, e], Or.inr ⟨g, l.length + 8, (instrCells (more8 l)).toArray, rfl, Nat.zero_le _, h, Nat.le_refl _, by unfold maxLen; omega, by simp [e2, e], ?_⟩⟩
  rw [List.take_of_length_le (by rw [e2, e]; exact Nat.le_refl _)]
theorem in_more8 {w : World} {g : Nat} {l : List (Int × Int)} (h : Blk w g (instrCells (more8 l)).toArray 65) : InL w (some ⟨g, 0, none⟩) l := by
  refine Or.inr ⟨g, 0, rfl, h.lt, fun j u hj => ?_⟩
  rw [Nat.zero_add, h.cell]
  have : (instrCells (more8 l))[j]? = some u := by
    unfold more8
    rw [instr_app, List.getElem?_append_left (List.getElem?_eq_some_iff.1 hj).1]
    exact hj
  simpa using this
/-- What a step that loads has made, ahead of the looking. -/
structure Loaded (w : World) (l : List (Int × Int)) (en ce : Int) (W : World) (vc vp : Value) (er : Int) : Prop where
  no : loadS l en ce = false → vc = .pointer none ∧ vp = .pointer none ∧ er = 5
  yes : loadS l en ce = true → er = 0 ∧ ∃ c g cap p g' cap' vH, vc = .pointer (some ⟨c, 0, none⟩) ∧ vp = .pointer (some ⟨p, 0, none⟩) ∧
    Blk W c #[.slice (some ⟨g, 0, none⟩) l.length cap, .int .i64 en, .int .i64 ce] 78 ∧ W.ownsRow (w.heap.size + 2) 65 2 (.slice (some ⟨g, 0, none⟩) l.length cap) l.length (instrCells l) ∧
    Blk W p #[.slice (some ⟨g', 0, none⟩) l.length cap', .int .i64 en, .int .i64 ce, vH] 137 ∧ W.ownsRow (w.heap.size + 2) 65 2 (.slice (some ⟨g', 0, none⟩) l.length cap') l.length (instrCells l)
theorem Loaded.longer {w : World} {l : List (Int × Int)} {en ce : Int} {W W' : World} {vc vp : Value} {er : Int} (h : Loaded w l en ce W vc vp er) (hb : Below W.heap.size W W') : Loaded w l en ce W' vc vp er := by
  refine ⟨h.no, fun hy => ?_⟩
  obtain ⟨h0, c, g, cap, p, g', cap', vH, h1, h2, h3, h4, h5, h6⟩ := h.yes hy
  exact ⟨h0, c, g, cap, p, g', cap', vH, h1, h2, h3.below hb h3.lt, (LawStill.ofBelow hb).row h4, h5.below hb h5.lt, (LawStill.ofBelow hb).row h6⟩
/-- keep leaves what was loaded. -/
theorem Loaded.kept {B : Nat} {w W w' : World} {bw : Nat} {ps hs : List Nat} {vpp vh : Value} {q : Nat} {N : Nat} {mk : Int} {k : Nat} {gl : List Nat} {qg : Nat} {vig vng vhk : Value} {nn ni : Nat} {l : List (Int × Int)} {en ce : Int} {vc vp : Value} {er : Int} (h : Loaded w l en ce W vc vp er)
    (hk : Kp B W w' bw ps hs vpp vh q (.slice (some ⟨w.heap.size + 1, 0, none⟩) N N) (.slice none 0 0) ni nn mk k gl qg vig vng vhk) (hl : Lw B W bw ps hs vpp vh) {cq : Array Value} (hq : Blk W q cq 134) {xs : List Value} {n8 : Nat} (hrow : W.ownsRow 0 65 2 (.slice (some ⟨w.heap.size + 1, 0, none⟩) N N) n8 xs) : Loaded w l en ce w' vc vp er := by
  refine ⟨h.no, fun hy => ?_⟩
  obtain ⟨h0, c, g, cap, p, g', cap', vH, h1, h2, h3, h4, h5, h6⟩ := h.yes hy
  have hblk : ∀ {x : Nat} {cs : Array Value} {T : TypeId}, Blk W x cs T → 70 ≠ T → 87 ≠ T → 90 ≠ T → 134 ≠ T → 65 ≠ T → Blk w' x cs T := fun hb t1 t2 t3 t4 t5 => by
    refine hb.still hk.still ?_
    rintro (e | e | e | e)
    · exact hl.notfoot hb t1 t2 t3 e
    · subst e
      exact t4 (blk_type hq hb)
    · exact row_not_blk hb hrow (fun e2 => t5 e2) e
    · simp [Value.ownBlock] at e
  have hrw : ∀ {y : Nat} {cap : Nat}, W.ownsRow (w.heap.size + 2) 65 2 (.slice (some ⟨y, 0, none⟩) l.length cap) l.length (instrCells l) → w'.ownsRow (w.heap.size + 2) 65 2 (.slice (some ⟨y, 0, none⟩) l.length cap) l.length (instrCells l) := fun hr => by
    refine ownsRow_still hr hk.still ?_
    rintro j hj (e | e | e | e)
    · exact hl.notrow hr (by decide) (by decide) (by decide) hj e
    · exact row_not_blk hq hr (by decide) (by rw [hj, e])
    · have := (ownsRow_lt hr hj).2
      simp [Value.ownBlock] at e
      omega
    · simp [Value.ownBlock] at e
  exact ⟨h0, c, g, cap, p, g', cap', vH, h1, h2, hblk h3 (by decide) (by decide) (by decide) (by decide) (by decide), hrw h4, hblk h5 (by decide) (by decide) (by decide) (by decide) (by decide), hrw h6⟩
theorem Loaded.player {w : World} {l : List (Int × Int)} {en ce : Int} {W : World} {c p : Nat} {er : Int} (h : Loaded w l en ce W (.pointer (some ⟨c, 0, none⟩)) (.pointer (some ⟨p, 0, none⟩)) er) (hy : loadS l en ce = true) (hi : ∀ x ∈ l, inI x.2) {q : Nat} (hq : Blk W q #[.pointer (some ⟨c, 0, none⟩), .pointer (some ⟨p, 0, none⟩), .bool false, .bool false] 129) : PlayerIs prg3 W q := by
  obtain ⟨h0, c', g, cap, p', g', cap', vH, h1, h2, h3, h4, h5, h6⟩ := h.yes hy
  simp only [Value.pointer.injEq, Option.some.injEq, Addr.mk.injEq, and_true] at h1 h2
  subst h1 h2
  obtain ⟨k1, k2, k3⟩ := load_code hy hi
  exact ⟨c, p, l, en, ce, hq, ⟨g, cap, h3, ownsRow_base h4 (Nat.zero_le _)⟩, ⟨g', cap', vH, h5, h5.lt, (ownsRow_lt h6 (k := g') rfl).1, ownsRow_base h6 (Nat.zero_le _)⟩, k1, k2, k3⟩

set_option maxRecDepth 100000 in
set_option maxHeartbeats 2000000 in
theorem keepL_any (B bw : Nat) (ps hs : List Nat) (vp vh : Value) (q : Nat) (mk0 : Int) (vi vn : Value) (li : List (Int × Int)) (ln : List Int) (w : World) (h : Lw B w bw ps hs vp vh) (hblk : Blk w q #[vi, vn, .int .i64 mk0] 134)
    (hi : w.ownsRow 0 65 2 vi li.length (instrCells li)) (hn : w.ownsRow 0 2 1 vn ln.length (intCells ln)) (hli : li.length ≤ 8796093022000) (hln : ln.length ≤ 4398046511104) (hhs : hs.length + 4 ≤ 17592186044416) :
    Calls Tryz.prog 68 #[.pointer (some ⟨bw, 0, none⟩), .pointer (some ⟨q, 0, none⟩)] w fun e w' => e = .returned (.tuple #[]) ∧ ∃ gl qg vig vng vh', Kp B w w' bw ps hs vp vh q vi vn li.length ln.length (hs.length + 1) 3 gl qg vig vng vh' := by
  obtain ⟨iH, hiH, hzH0, hzH1, hzH2⟩ := info_parts Tryz.infoHoldP
  obtain ⟨ah, ch, hvh⟩ := own_shape h.oh
  subst hvh
  have hc := h.blk.cell
  have hbl := h.blk.lt
  have hqc := hblk.cell
  have hqf := hblk.free
  have hql := hblk.lt
  have hnf := h.notfoot hblk (by decide) (by decide) (by decide)
  have hqb : bw ≠ q := fun e => hnf (Or.inl e.symm)
  have hhI : (hs.length : Int) + 4 ≤ 17592186044416 := by omega
  -- behind the mark
  have hblk1 := hblk.set 2 (.int .i64 ((hs.length : Int) + 1))
  simp only [List.setIfInBounds_toArray, List.set_cons_succ, List.set_cons_zero] at hblk1
  have hqi := row_not_blk hblk hi (by decide)
  have hqn := row_not_blk hblk hn (by decide)
  have hi1 := ownsRow_far hi hqi (.int .i64 ((hs.length : Int) + 1)) (a := ⟨q, 2, none⟩)
  have hn1 := ownsRow_far hn hqn (.int .i64 ((hs.length : Int) + 1)) (a := ⟨q, 2, none⟩)
  have HM := V (marks_any q (hs.length + 1) vi vn li ln _ hblk1 hi1 hn1 (by omega) (by omega) (by omega))
  have hs1 : Still w (w.setCell ⟨q, 2, none⟩ (.int .i64 ((hs.length : Int) + 1))) (fun j => j = q) := Still.set (F := fun j => j = q) (Still.refl w _) (Or.inl rfl) _ _
  have hl1 := h.still hs1 (fun k hk e => hnf (by rw [← e]; exact hk))
  have HS1 := V hs1
  have HL1 := V hl1
  have HI1 := V hi1
  have HN1 := V hn1
  have HL := V h
  clear hi1 hn1 hblk1 hs1 hl1 h
  go_enter Tryz.func68, Tryz.ntmps68
  go_wp2_with fail
  refine (U HM).mono ?_
  rintro e w2 ⟨rfl, hh2, hs2⟩
  have hl2 := (U HL1).still hs2 (fun k hk e => by
    rcases e with e | e
    · exact (U HL1).notrow (U HI1) (by decide) (by decide) (by decide) e hk
    · exact (U HL1).notrow (U HN1) (by decide) (by decide) (by decide) e hk)
  have hl2c := hl2.blk.cell
  have hl2f := hl2.blk.free
  have hB2 : B ≤ w2.heap.size := by have := hl2.base; have := hl2.blk.lt; omega
  have HW := V (ownsRow_alloc hl2.oh (.cells #[.pointer (some ⟨q, 0, none⟩)] 90))
  have hBs : B ≤ (w2.alloc (.cells #[.pointer (some ⟨q, 0, none⟩)] 90)).heap.size := by simp; omega
  have HBs := V hBs
  have HL2 := V hl2
  have HH2 := V hh2
  have HS2 := V hs2
  have hb2l := hl2.blk.lt
  have HBA := V (hl2.blk.alloc (.cells #[.pointer (some ⟨q, 0, none⟩)] 90))
  have hne2 := hl2.ne 1 _ rfl
  clear hBs hh2 hs2 hl2 HM hc hqc hqf
  go_wp2_with (at_builtin; refine wpList_append_lies _ rfl (.tmp 21) (.tmp 23) 68 rfl B 90 iH _ 1 8 Tryz.underlying68 hiH hzH0 hzH1 hzH2 rfl (by decide) (.slice ah hs.length ch) hs.length (ptrs hs) (by simp [Act.eval]) (U HW) ⟨w2.heap.size, 0, none⟩ 1 1 [.pointer (some ⟨q, 0, none⟩)] (by simp [Act.eval]) rfl (World.news_of_block (Blk.new w2 _ _)) (by simp [Value.oneCell']) (by omega) (by unfold maxLen; omega) (by omega) (U HBs) _ rfl ?_; intro g cap w5 hown hgrow hat hlt1; have hb5 := (U HBA).grown hgrow hne2; have hc5 := hb5.cell; have hf5 := hb5.free; have HO := V hown; have HG := V hgrow; have HA := V hat; clear hown hgrow hat hb5 hl2c hl2f)
  have hst2 : Still w w2 (fun j => j = q ∨ vi.ownBlock = some j ∨ vn.ownBlock = some j) := ((U HS1).mono (fun j _ e => Or.inl e)).trans (U HS2) (fun j _ e => Or.inr e)
  have hk0 := Kp.first (U HL2) (U HH2) hst2 (U HG) (U HO) (U HA) rfl
  clear hc5 hf5 hst2 HW HBs HL2 HH2 HS2 HBA hne2 hb2l HO HG HA HS1 HL1 HI1 HN1 HL
  generalize w5.setCell ⟨bw, 1, none⟩ (.slice (some ⟨g, 0, none⟩) (hs.length + 1) cap) = w6 at hk0 ⊢
  generalize Value.slice (some ⟨g, 0, none⟩) (hs.length + 1) cap = vh6 at hk0 ⊢
  generalize hmkE : (hs.length : Int) + 1 = mk at hk0 ⊢
  generalize hniE : li.length = ni at *
  generalize hnnE : ln.length = nn at *
  have HE1 := V hniE
  have HE2 := V hnnE
  have HE3 := V hmkE
  clear hniE hnnE hmkE hi hn hblk
  go_wp2_with fail
  go_loopw [4, 5] (fun gv n wr => ∃ (k : Nat) (gl : List Nat) (qg : Nat) (vig vng vhk : Value), n = .int .i64 k ∧ k ≤ 3 ∧ gv = .pointer (some ⟨qg, 0, none⟩) ∧ Kp B w wr bw ps hs vp (.slice ah hs.length ch) q vi vn ni nn mk k gl qg vig vng vhk) (fun _ n _ => 3 - (intOf n).toNat)
  case atStart => exact ⟨0, [q], q, _, _, _, rfl, by omega, rfl, hk0⟩
  case round =>
    clear hk0
    obtain ⟨k, gl, qg, vig, vng, vhk, rfl, hk3, rfl, hkp⟩ := hrel
    by_cases hlt : k < 3
    · have hltI : (k : Int) < 3 := by omega
      have HLG := V (longer_any qg mk vig vng (ni + k) (nn + k) wr hkp.cur (by omega) (by omega))
      have HKP := V hkp
      have hlen := hkp.len
      clear hkp
      go_wp2_with fail
      refine (U HLG).mono ?_
      rintro e w3 ⟨q2, vi2, vn2, rfl, hq2, hcur, hri, hrn, hs3, hpre⟩
      have hl3 := (U HKP).lw.still hs3 (fun j hj e => by
        rcases e with e | e
        · exact (U HKP).lw.notrow (U HKP).cur.is (by decide) (by decide) (by decide) e hj
        · exact (U HKP).lw.notrow (U HKP).cur.ns (by decide) (by decide) (by decide) e hj)
      obtain ⟨ak, ck, hvk⟩ := own_shape hl3.oh
      subst hvk
      have hc3 := hl3.blk.cell
      have hf3 := hl3.blk.free
      have hb3l := hl3.blk.lt
      have hB3 : B ≤ w3.heap.size := by have := hl3.base; omega
      have HW := V (ownsRow_alloc hl3.oh (.cells #[.pointer (some ⟨q2, 0, none⟩)] 90))
      have hBs : B ≤ (w3.alloc (.cells #[.pointer (some ⟨q2, 0, none⟩)] 90)).heap.size := by simp; omega
      have HBs := V hBs
      have HBA := V (hl3.blk.alloc (.cells #[.pointer (some ⟨q2, 0, none⟩)] 90))
      have hne3 := hl3.ne 1 _ rfl
      have HC := V hcur
      have HRI := V hri
      have HRN := V hrn
      have HS3 := V hs3
      have HPRE := V hpre
      have hll : (hs ++ gl).length + 1 ≤ 17592186044416 := by simp [hlen]; omega
      clear hBs hcur hri hrn hs3 hpre hl3 HLG
      generalize hHL : hs ++ gl = hl at *
      have HHL := V hHL
      clear hHL
      go_wp2_with (at_builtin; refine wpList_append_lies _ rfl (.tmp 38) (.tmp 40) 68 rfl B 90 iH _ 1 8 Tryz.underlying68 hiH hzH0 hzH1 hzH2 rfl (by decide) (.slice ak hl.length ck) hl.length (ptrs hl) (by simp [Act.eval]) (U HW) ⟨w3.heap.size, 0, none⟩ 1 1 [.pointer (some ⟨q2, 0, none⟩)] (by simp [Act.eval]) rfl (World.news_of_block (Blk.new w3 _ _)) (by simp [Value.oneCell']) (by omega) (by unfold maxLen; omega) (by omega) (U HBs) _ rfl ?_; intro g cap w5 hown hgrow hat hlt1; have hb5 := (U HBA).grown hgrow hne3; have hc5 := hb5.cell; have hf5 := hb5.free; have HO := V hown; have HG := V hgrow; have HA := V hat; clear hown hgrow hat hb5 hc3 hf3)
      go_roundw
      case rel =>
        obtain rfl := (U HHL).symm
        exact ⟨k + 1, gl ++ [q2], q2, _, _, _, by go_num, by omega, rfl, (U HKP).next (U HC) hq2 (U HRI) (U HRN) (U HS3) (U HPRE) (U HG) (U HO) (U HA) rfl⟩
      case measure => simp [intOf]; omega
    · have hkn : k = 3 := by omega
      subst hkn
      go_wp2_with fail
      go_end0
      rw [U HE1, U HE2, U HE3]
      exact ⟨rfl, gl, qg, vig, vng, vhk, hkp⟩
end Go.Proofs.YtmeiikjpaepogaaGreatDoor
