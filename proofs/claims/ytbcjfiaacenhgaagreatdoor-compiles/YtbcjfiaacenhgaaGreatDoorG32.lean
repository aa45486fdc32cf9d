/- The program's compiler: push; aim. -/
import Derived.Test.YtbcjfiaacenhgaaGreatDoorG31
namespace Go.Proofs.YtbcjfiaacenhgaaGreatDoor
open Go Go.RowKit

theorem Tryz.infoThing : (Tryz.prog.info? 169).map (fun i => (i.zero, i.size, i.bytes)) = some (some (.agg #[.nilFunc]), 1, 8) := by kernel_rfl

section
variable {B : Nat} {w w' w1 : World} {x : CX} {st : RS} {s0 : Int} {vd vm vo : Value} {fw fo : List Value}
theorem Cp.lts (h : Cp B w x st s0 vd vm vo fw fo) : ∀ b ∈ [x.b, x.r, x.d, x.m, x.mp], b < w.heap.size := by
  intro b hb
  simp at hb
  rcases hb with rfl | rfl | rfl | rfl | rfl
  · exact h.blk.lt
  · exact h.rdr.lt
  · exact h.dp.lt
  · exact h.mn.lt
  · exact h.names.lt
/-- One function value more is on the stack of what is open. -/
theorem Cp.growO (h : Cp B w x st s0 vd vm vo fw fo) {f : Value} {g cap : Nat} (hg : w.grownBy w1 vo.ownBlock) (hown : w1.ownsRow B 169 1 (.slice (some ⟨g, 0, none⟩) ((fw ++ fo).length + 1) cap) ((fw ++ fo).length + 1) ((fw ++ fo) ++ [f])) (hat : vo.ownBlock = some g ∨ g = w.heap.size)
    (o : ByteArray × Int × Int) (ho : ThingOk w x.b f o) (hlen : st.opens.length < 4000) :
    Cp B (w1.setCell ⟨x.b, 8, none⟩ (.slice (some ⟨g, 0, none⟩) ((fw ++ fo).length + 1) cap)) x (openS st o) s0 vd vm (.slice (some ⟨g, 0, none⟩) ((fw ++ fo).length + 1) cap) fw (fo ++ [f]) ∧ BoxStill w (w1.setCell ⟨x.b, 8, none⟩ (.slice (some ⟨g, 0, none⟩) ((fw ++ fo).length + 1) cap)) ∧ Below B w (w1.setCell ⟨x.b, 8, none⟩ (.slice (some ⟨g, 0, none⟩) ((fw ++ fo).length + 1) cap)) := by
  have hst : Still w (w1.setCell ⟨x.b, 8, none⟩ (.slice (some ⟨g, 0, none⟩) ((fw ++ fo).length + 1) cap)) (fun k => k = x.b ∨ vo.ownBlock = some k) :=
    Still.set (F := fun k => k = x.b ∨ vo.ownBlock = some k) (Still.grown (F := fun k => k = x.b ∨ vo.ownBlock = some k) (Still.refl w _) hg (fun k hk => Or.inl (Or.inr hk))) (Or.inl (Or.inl rfl)) _ _
  have hbx : BoxStill w (w1.setCell ⟨x.b, 8, none⟩ (.slice (some ⟨g, 0, none⟩) ((fw ++ fo).length + 1) cap)) := h.boxes hst (fun k _ e => by rcases e with e | e; exact Or.inl e; exact Or.inr (Or.inr (Or.inr (Or.inr (Or.inr (Or.inr (Or.inr e)))))))
  have off : ∀ k ∈ [x.b, x.r, x.d, x.m, x.mp], ¬ vo.ownBlock = some k := fun k hk e => h.owned.off 2 vo k rfl hk e
  refine ⟨⟨?_, ?_, ?_, ?_, h.dm, h.base, ?_, ?_, h.start, ?_, ?_⟩, hbx, ?_⟩
  · have := (h.blk.grown hg (fun e => off x.b (by simp) e.symm)).set 8 (.slice (some ⟨g, 0, none⟩) ((fw ++ fo).length + 1) cap)
    unfold cpArr at this
    simp only [List.setIfInBounds_toArray, List.set_cons_succ, List.set_cons_zero] at this
    exact this
  · exact h.rdr.still hst (fun e => by rcases e with e | e; exact h.br e.symm; exact off x.r (by simp) e)
  · exact h.dp.still hst (fun e => by rcases e with e | e; exact h.bd e.symm; exact off x.d (by simp) e)
  · exact h.mn.still hst (fun e => by rcases e with e | e; exact h.bm e.symm; exact off x.m (by simp) e)
  · have := (h.owned.grow 2 vo (.slice (some ⟨g, 0, none⟩) ((fw ++ fo).length + 1) cap) ⟨169, 1, (fw ++ fo).length + 1, (fw ++ fo) ++ [f]⟩ rfl h.lts hg hown (lies_at hat (Nat.le_refl _))).set (b := x.b) (by simp) 8 (.slice (some ⟨g, 0, none⟩) ((fw ++ fo).length + 1) cap)
    have e : cpRows (openS st o) (fw ++ (fo ++ [f])) = (cpRows st (fw ++ fo)).set 2 ⟨169, 1, (fw ++ fo).length + 1, (fw ++ fo) ++ [f]⟩ := by
      unfold cpRows openS
      rw [← List.append_assoc]
      simp
      omega
    rw [e]
    exact this
  · exact h.names.to (hst.block _ h.names.lt (fun e => by rcases e with e | e; exact h.mne.1 e; exact off x.mp (by simp) e))
  · have ht := h.things.box hbx
    refine ⟨ht.word, ht.none, by simp [openS, ht.len], ?_⟩
    intro i f' o' h1 h2
    unfold openS at h2
    simp only at h2
    rcases Nat.lt_or_ge i fo.length with hi | hi
    · rw [List.getElem?_append_left hi] at h1
      rw [List.getElem?_append_left (by rw [← h.things.len]; exact hi)] at h2
      exact ht.each i f' o' h1 h2
    · have hi2 : i = fo.length := by
        have := (List.getElem?_eq_some_iff.1 h1).1
        simp at this
        omega
      subst hi2
      rw [List.getElem?_append_right (Nat.le_refl _), Nat.sub_self] at h1
      rw [h.things.len, List.getElem?_append_right (Nat.le_refl _), Nat.sub_self] at h2
      simp at h1 h2
      subst h1 h2
      exact ho.box hbx
  · have := h.small; simp [openS]; omega
  · exact hst.below (fun k hk => by rcases hk with rfl | hk; exact h.base.1; exact (ownsRow_lt h.oo hk).2) h.size
end

set_option maxRecDepth 100000 in
set_option maxHeartbeats 1000000 in
theorem cpush_any (B : Nat) (x : CX) (st : RS) (w : World) (h : CpE B w x st) (q : Nat) (f : Value) (hf1 : f.oneCell' = true) (o : ByteArray × Int × Int) (ho : ThingOk w x.b f o) (hq : Blk w q #[f] 169) (hlen : st.opens.length < 3990) :
    Calls Tryz.prog 89 #[.pointer (some ⟨x.b, 0, none⟩), .slice (some ⟨q, 0, none⟩) 1 1] w fun e w' => e = .returned (.tuple #[]) ∧ CpE B w' x (openS st o) ∧ BoxStill w w' ∧ Below B w w' := by
  obtain ⟨iT, hiT, hzT0, hzT1, hzT2⟩ := info_parts Tryz.infoThing
  obtain ⟨s0, vd, vm, vo, fw, fo, h⟩ := h
  obtain ⟨ao, co, hvo⟩ := own_shape h.oo
  subst hvo
  have hne := h.offb 2 _ rfl x.b (by simp)
  have hc := h.blk.cell
  have hf := h.blk.free
  unfold cpArr at hc
  have hfl : (fw ++ fo).length ≤ 3991 := by
    have h1 := h.things.len
    have h2 : fw.length ≤ 1 := by
      by_cases hs : 0 ≤ st.start
      · obtain ⟨f, e, _⟩ := h.things.word hs; rw [e]; simp
      · rw [h.things.none (by omega)]; simp
    simp; omega
  have HO := hide h.oo
  have HB := hide h.blk
  unfold cpArr at HB
  have HS := hide h.size
  have HH := hide h
  have HQ := hide hq
  clear h hq
  generalize hL : (fw ++ fo).length = L at *
  have HL := hide hL
  clear hL
  go_enter Tryz.func89, Tryz.ntmps89
  go_wp2_with (at_builtin; refine wpList_append_lies _ rfl (.tmp 8) (.tmp 9) 112 rfl B 169 iT _ 1 8 Tryz.underlying112 hiT hzT0 hzT1 hzT2 rfl (by decide) (.slice ao L co) L (fw ++ fo) (by simp [Act.eval]) (unhide HO) ⟨q, 0, none⟩ 1 1 [f] (by simp [Act.eval]) rfl (World.news_of_block (unhide HQ)) (by simpa using hf1) (by omega) (by unfold maxLen; omega) (by omega) (unhide HS) _ rfl ?_; intro g cap w5 hown hgrow hat hlt1; have hb5 := (unhide HB).grown hgrow hne; have hc5 := hb5.cell; have hf5 := hb5.free; have HOW := hide hown; have HG := hide hgrow; have HA := hide hat; clear hown hgrow hat hb5 hc hf)
  go_end0
  obtain rfl := (unhide HL).symm
  obtain ⟨k1, k2, k3⟩ := (unhide HH).growO (unhide HG) (unhide HOW) (unhide HA) o ho (by omega)
  exact ⟨rfl, ⟨_, _, _, _, _, _, k1⟩, k2, k3⟩

section
variable {B : Nat} {w : World} {x : CX} {st : RS} {s0 : Int} {vd vm vo : Value} {fw fo : List Value}
theorem Cp.tellD {g k : Nat} (h : Cp B w x st s0 (.slice (some ⟨g, 0, none⟩) st.c0.length k) vm vo fw fo) (n : Nat) (a : Int) :
    Cp B (w.setCell ⟨g, n * 2 + 1, none⟩ (.int .i64 a)) x { st with c0 := setArg st.c0 n a } s0 (.slice (some ⟨g, 0, none⟩) st.c0.length k) vm vo fw fo ∧ BoxStill w (w.setCell ⟨g, n * 2 + 1, none⟩ (.int .i64 a)) ∧ Below B w (w.setCell ⟨g, n * 2 + 1, none⟩ (.int .i64 a)) := by
  have hst : Still w (w.setCell ⟨g, n * 2 + 1, none⟩ (.int .i64 a)) (fun j => j = g) := Still.set (F := fun j => j = g) (Still.refl w _) (Or.inl rfl) _ _
  have off : ∀ j ∈ [x.b, x.r, x.d, x.m, x.mp], j ≠ g := fun j hj e => h.owned.off 0 _ j rfl hj (by rw [e]; rfl)
  have hbx := h.boxes hst (fun j _ e => by rw [e]; exact Or.inr (Or.inr (Or.inr (Or.inr (Or.inr (Or.inl rfl))))))
  refine ⟨⟨h.blk.still hst (off x.b (by simp)), h.rdr.still hst (off x.r (by simp)), h.dp.still hst (off x.d (by simp)), h.mn.still hst (off x.m (by simp)), h.dm, h.base, ?_, h.names.to (hst.block _ h.names.lt (off x.mp (by simp))), h.start, ?_, ?_⟩, hbx, ?_⟩
  · have := h.owned.write 0 g st.c0.length k _ rfl rfl (n * 2 + 1) (.int .i64 a)
    simpa [cpRows, setArg_length, setArg_cells] using this
  · have ht := h.things.box hbx
    exact ⟨ht.word, ht.none, ht.len, ht.each⟩
  · have := h.small; simpa [setArg_length] using this
  · exact (Below.refl B w).setCell (ownsRow_lt h.od (k := g) rfl).2 _
theorem Cp.tellM {g k : Nat} (h : Cp B w x st s0 vd (.slice (some ⟨g, 0, none⟩) st.c1.length k) vo fw fo) (n : Nat) (a : Int) :
    Cp B (w.setCell ⟨g, n * 2 + 1, none⟩ (.int .i64 a)) x { st with c1 := setArg st.c1 n a } s0 vd (.slice (some ⟨g, 0, none⟩) st.c1.length k) vo fw fo ∧ BoxStill w (w.setCell ⟨g, n * 2 + 1, none⟩ (.int .i64 a)) ∧ Below B w (w.setCell ⟨g, n * 2 + 1, none⟩ (.int .i64 a)) := by
  have hst : Still w (w.setCell ⟨g, n * 2 + 1, none⟩ (.int .i64 a)) (fun j => j = g) := Still.set (F := fun j => j = g) (Still.refl w _) (Or.inl rfl) _ _
  have off : ∀ j ∈ [x.b, x.r, x.d, x.m, x.mp], j ≠ g := fun j hj e => h.owned.off 1 _ j rfl hj (by rw [e]; rfl)
  have hbx := h.boxes hst (fun j _ e => by rw [e]; exact Or.inr (Or.inr (Or.inr (Or.inr (Or.inr (Or.inr (Or.inl rfl)))))))
  refine ⟨⟨h.blk.still hst (off x.b (by simp)), h.rdr.still hst (off x.r (by simp)), h.dp.still hst (off x.d (by simp)), h.mn.still hst (off x.m (by simp)), h.dm, h.base, ?_, h.names.to (hst.block _ h.names.lt (off x.mp (by simp))), h.start, ?_, ?_⟩, hbx, ?_⟩
  · have := h.owned.write 1 g st.c1.length k _ rfl rfl (n * 2 + 1) (.int .i64 a)
    simpa [cpRows, setArg_length, setArg_cells] using this
  · have ht := h.things.box hbx
    exact ⟨ht.word, ht.none, ht.len, ht.each⟩
  · have := h.small; simpa [setArg_length] using this
  · exact (Below.refl B w).setCell (ownsRow_lt h.om (k := g) rfl).2 _
end

theorem Tryz.name70 : (Tryz.f70.name == "runtime.NumGoroutine") = false := by kernel_rfl
theorem Tryz.body70 : Tryz.f70.body.isNone = false := by kernel_rfl

set_option maxRecDepth 100000 in
set_option maxHeartbeats 1000000 in
/-- An instruction of a part is told to go to what comes next. -/
theorem aim_raw (d g k n j : Nat) (y : Int) (w : World) (h : Blk w d #[.slice (some ⟨g, 0, none⟩) n k] 119) (hj : j < n) (hn : n ≤ 100000) (hcell : w.cell? ⟨g, j * 2 + 1, none⟩ = some (.int .i64 y)) (hfr : w.frozen? ⟨g, j * 2 + 1, none⟩ = false) :
    Calls Tryz.prog 91 #[.pointer (some ⟨d, 0, none⟩), .int .i64 j] w fun e w' => e = .returned (.tuple #[]) ∧ ∃ m, w' = (w.setCell ⟨g, j * 2 + 1, none⟩ (.int .i64 n)).drewN m := by
  have HN : Hid (∀ m, Calls Tryz.prog 70 #[.pointer (some ⟨d, 0, none⟩)] (w.drewN m) fun e w' => e = .returned (.int .i64 n) ∧ w' = w.drewN m) := fun m => partNext_any d n _ k (w.drewN m) h hn
  have hc := h.cell
  have hjI : (j : Int) < n := by omega
  have hnI : (n : Int) ≤ 100000 := by omega
  clear h
  go_enter Tryz.func91, Tryz.ntmps91
  go_wp2_with fail
  go_region_law (refine step_call rfl 70 #[.tmp 9] #[110] rfl Tryz.func70 Tryz.name70 Tryz.body70 #[.pointer (some ⟨d, 0, none⟩)] (by first | (simp [Act.eval]; done) | (simp [Act.eval, Act.put]; done) | rfl) (unhide HN 1) ?_; rintro e w1 ⟨rfl, rfl⟩; refine ⟨_, rfl, ?_⟩)
  all_goals
    go_wp2_with fail
    go_end0
    exact ⟨rfl, 1, rfl⟩

/-- An instruction, where elements go now, is told to go to what comes next. -/
theorem aimHere_any (B : Nat) (x : CX) (st : RS) (w : World) (h : CpE B w x st) (n : Nat) (hn : n < hereS st) :
    Calls Tryz.prog 91 #[.pointer (some ⟨hereX x st, 0, none⟩), .int .i64 n] w fun e w' => e = .returned (.tuple #[]) ∧ CpE B w' x (tellS st n) ∧ BoxStill w w' ∧ Below B w w' := by
  obtain ⟨s0, vd, vm, vo, fw, fo, h⟩ := h
  unfold hereX tellS
  unfold hereS at hn
  have hsm := h.small
  by_cases hs : 0 ≤ st.start
  · simp only [if_pos hs] at hn ⊢
    obtain ⟨g, k, hv, _, _⟩ := h.od.form (by omega)
    subst hv
    obtain ⟨y, hy⟩ : ∃ y, st.c0[n]? = some y := ⟨_, List.getElem?_eq_getElem hn⟩
    have hcell := own_cell h.od (n * 2 + 1) (by omega)
    rw [(instrCells_at _ _ _ hy).2] at hcell
    refine (aim_raw x.d g k st.c0.length n y.2 w h.dp hn (by omega) hcell (own_free h.od _)).mono ?_
    rintro e w' ⟨rfl, m, rfl⟩
    obtain ⟨k1, k2, k3⟩ := h.tellD n st.c0.length
    exact ⟨rfl, ⟨_, _, _, _, _, _, k1.drewN m⟩, k2.trans (fun _ _ _ hb _ => hb.drewN m), below_drawn k3 m⟩
  · simp only [if_neg hs] at hn ⊢
    obtain ⟨g, k, hv, _, _⟩ := h.om.form (by omega)
    subst hv
    obtain ⟨y, hy⟩ : ∃ y, st.c1[n]? = some y := ⟨_, List.getElem?_eq_getElem hn⟩
    have hcell := own_cell h.om (n * 2 + 1) (by omega)
    rw [(instrCells_at _ _ _ hy).2] at hcell
    refine (aim_raw x.m g k st.c1.length n y.2 w h.mn hn (by omega) hcell (own_free h.om _)).mono ?_
    rintro e w' ⟨rfl, m, rfl⟩
    obtain ⟨k1, k2, k3⟩ := h.tellM n st.c1.length
    exact ⟨rfl, ⟨_, _, _, _, _, _, k1.drewN m⟩, k2.trans (fun _ _ _ hb _ => hb.drewN m), below_drawn k3 m⟩

end Go.Proofs.YtbcjfiaacenhgaaGreatDoor

