/- The reference's Reader: newName. -/
import Derived.Test.YtmeiikjpaepogaaGreatDoorG04
import Derived.Test.YtmeiikjpaepogaaGreatDoorG05
namespace Go.Proofs.YtmeiikjpaepogaaGreatDoor
open Go Go.RowKit

def failS (st : RS) (e : Int) : RS := if st.err = 0 then { st with err := e, place := st.place0 } else st

theorem Rd.fail {B : Nat} {w : World} {b : Nat} {st : RS} {v4 v5 v6 v7 v11 : Value} (h : Rd B w b st v4 v5 v6 v7 v11) (e : Int) :
    Rd B (if st.err = 0 then (w.setCell ⟨b, 12, none⟩ (.int .i64 e)).setCell ⟨b, 13, none⟩ (.int .i64 st.place0) else w) b (failS st e) v4 v5 v6 v7 v11 := by
  unfold failS
  by_cases he : st.err = 0
  · rw [if_pos he, if_pos he]
    have h1 : Rd B (w.setCell ⟨b, 12, none⟩ (.int .i64 e)) b { st with err := e } v4 v5 v6 v7 v11 := h.set 12 _ _ (by simp [rdArr]) rfl ⟨rfl, rfl, rfl, rfl, rfl, rfl⟩
    exact h1.set 13 _ _ (by simp [rdArr]) rfl ⟨rfl, rfl, rfl, rfl, rfl, rfl⟩
  · rw [if_neg he, if_neg he]; exact h

theorem fail_rd (B b : Nat) (st : RS) (v4 v5 v6 v7 v11 : Value) (e0 : Int) (w : World) (h : Rd B w b st v4 v5 v6 v7 v11) :
    Calls Tryz.prog 130 #[.pointer (some ⟨b, 0, none⟩), .int .i64 e0] w fun e w' => e = .returned (.tuple #[]) ∧ Rd B w' b (failS st e0) v4 v5 v6 v7 v11 ∧ Below B w w' := by
  refine (fail_any B b st v4 v5 v6 v7 v11 e0 w h).mono ?_
  rintro e w' ⟨rfl, rfl⟩
  refine ⟨rfl, h.fail e0, ?_⟩
  split
  · exact ((Below.refl B w).setCell h.base _).setCell h.base _
  · exact Below.refl _ _

theorem Rd.below_all {B : Nat} {w w' : World} {b : Nat} {st : RS} {v4 v5 v6 v7 v11 : Value} (h : Rd B w b st v4 v5 v6 v7 v11) (hb : Below w.heap.size w w') : Rd B w' b st v4 v5 v6 v7 v11 :=
  ⟨h.blk.below hb h.blk.lt, h.base, h.owned.below_all hb, h.small⟩

/-- A token that may be no name. -/
def badName (st : RS) : Bool := st.token.toList.isEmpty || (numS st.token).isSome || decide (0 ≤ plainS st.token) || structS st.token || decide (0 ≤ findS st.names st.token)
def newNameS (st : RS) : RS := if badName (stepS st) then failS (stepS st) 3 else stepS st

theorem stepS_token_size (st : RS) : (stepS st).token.size ≤ st.s.size := by
  simp only [stepS, ByteArray.size_extract]
  omega

theorem bad_ways (st : RS) :
    (badName st = true ∧ (st.token.toList.isEmpty = true ∨ (st.token.toList.isEmpty = false ∧ (numS st.token).isSome = true) ∨ (st.token.toList.isEmpty = false ∧ (numS st.token).isSome = false ∧ 0 ≤ plainS st.token) ∨
      (st.token.toList.isEmpty = false ∧ (numS st.token).isSome = false ∧ plainS st.token < 0 ∧ structS st.token = true) ∨ (st.token.toList.isEmpty = false ∧ (numS st.token).isSome = false ∧ plainS st.token < 0 ∧ structS st.token = false ∧ 0 ≤ findS st.names st.token))) ∨
    (badName st = false ∧ st.token.toList.isEmpty = false ∧ (numS st.token).isSome = false ∧ plainS st.token < 0 ∧ structS st.token = false ∧ findS st.names st.token < 0) := by
  unfold badName
  cases st.token.toList.isEmpty <;> cases (numS st.token).isSome <;> cases structS st.token <;> by_cases hp : 0 ≤ plainS st.token <;> by_cases hf : 0 ≤ findS st.names st.token <;> simp_all <;> omega

set_option maxHeartbeats 1000000 in
theorem newName_any (B b : Nat) (st : RS) (w : World) (h : RdE B w b st) (hnx : st.next ≤ st.s.size) :
    Calls Tryz.prog 173 #[.pointer (some ⟨b, 0, none⟩)] w fun e w' => e = .returned (.string (stepS st).token) ∧ RdE B w' b (newNameS st) ∧ Below B w w' := by
  have HS := hide (step_any B b st w h hnx)
  go_enter Tryz.func173, Tryz.ntmps173
  go_wp2_with fail
  refine (unhide HS).mono ?_
  rintro e w1 ⟨rfl, ⟨v4, v5, v6, v7, v11, h1⟩, hb1⟩
  have hsz : (stepS st).token.size ≤ 2000 := Nat.le_trans (stepS_token_size st) h1.small.2.2.2.2.2
  generalize hst : stepS st = st1 at h1 hsz ⊢
  have HST := hide hst
  clear hst HS h
  have hc := h1.blk.cell
  have hf := h1.blk.free
  unfold rdArr at hc
  go_wp2_with fail
  refine (number_any st1.token w1 hsz).mono ?_
  rintro e w2 ⟨rfl, hw⟩
  obtain rfl := hw.symm
  clear hw
  go_wp2_with fail
  refine (plain_any st1.token w1).mono ?_
  rintro e w2 ⟨rfl, hb2⟩
  have h2 := h1.below_all hb2
  have hb3 := hb1.trans (hb2.mono (Nat.le_trans h1.base (Nat.le_of_lt h1.blk.lt)))
  clear hc hf h1 hb1 hb2
  have hc := h2.blk.cell
  have hf := h2.blk.free
  unfold rdArr at hc
  go_wp2_with fail
  refine (structure_any st1.token w2).mono ?_
  rintro e w3 ⟨rfl, hw⟩
  obtain rfl := hw.symm
  clear hw
  go_wp2_with fail
  refine (find_any B b st1 v4 v5 v6 v7 v11 w2 st1.token h2).mono ?_
  rintro e w3 ⟨rfl, hw⟩
  obtain rfl := hw.symm
  clear hw
  have HF := hide (fail_rd B b st1 v4 v5 v6 v7 v11 3 w2 h2)
  rcases bad_ways st1 with ⟨hbad, hw⟩ | ⟨hbad, e1, e2, e3, e4, e5⟩
  · have HB := hide hbad
    clear hbad
    rcases hw with e1 | ⟨e1, e2⟩ | ⟨e1, e2, e3⟩ | ⟨e1, e2, e3, e4⟩ | ⟨e1, e2, e3, e4, e5⟩
    all_goals
      go_wp2_with (go_at_call 130; refine (unhide HF).mono ?_; rintro e w3 ⟨rfl, h3, hb4⟩; have hc3 := h3.blk.cell; unfold rdArr at hc3)
      go_ret
      have e : newNameS st = failS st1 3 := by unfold newNameS; rw [unhide HST, unhide HB]; rfl
      rw [e]
      exact ⟨ret_string (by rw [unhide HST]; unfold failS; split <;> rfl), ⟨_, _, _, _, _, h3⟩, hb3.trans hb4⟩
  · have HB := hide hbad
    clear hbad
    go_wp2_with fail
    go_ret
    have e : newNameS st = st1 := by unfold newNameS; rw [unhide HST, unhide HB]; rfl
    rw [e]
    exact ⟨ret_string (by rw [unhide HST]), ⟨_, _, _, _, _, h2⟩, hb3⟩

end Go.Proofs.YtmeiikjpaepogaaGreatDoor

/- The reference's Reader: its lists grow; define. -/
namespace Go.Proofs.YtmeiikjpaepogaaGreatDoor
open Go Go.RowKit

theorem grownBy_alloc' {w w1 : World} {o : Obj} {row : Option Nat} (h : (w.alloc o).grownBy w1 row) : w.grownBy w1 row := by
  refine ⟨h.os, h.tape, h.output, Nat.le_trans ?_ h.size, fun k hk hr => ?_⟩
  · simp
  · rw [h.block k (by simp; omega) hr]
    exact Below.heap_alloc _ _ _ hk

theorem Rd.grow {B : Nat} {w w1 : World} {b : Nat} {st : RS} {v4 v5 v6 v7 v11 : Value} (h : Rd B w b st v4 v5 v6 v7 v11) (i c : Nat) (v v' : Value) (s' : RowSpec) (st' : RS) (u4 u5 u6 u7 u11 : Value)
    (hv : [v4, v5, v6, v7, v11][i]? = some v) (hw1 : w.grownBy w1 v.ownBlock) (hown : w1.ownsRow B s'.e s'.size v' s'.n s'.xs) (hat : v'.ownBlock = v.ownBlock ∨ ∃ g, v'.ownBlock = some g ∧ w.heap.size ≤ g)
    (ha : (rdArr st v4 v5 v6 v7 v11).setIfInBounds c v' = rdArr st' u4 u5 u6 u7 u11) (hvs : [v4, v5, v6, v7, v11].set i v' = [u4, u5, u6, u7, u11]) (hr : (rdRows st).set i s' = rdRows st')
    (hs : st'.c0.length ≤ 4000 ∧ st'.c1.length ≤ 4000 ∧ st'.names.length ≤ 4000 ∧ st'.opens.length ≤ 4000 ∧ st'.heads.length ≤ 4000 ∧ st'.s.size ≤ 2000) :
    Rd B (w1.setCell ⟨b, c, none⟩ v') b st' u4 u5 u6 u7 u11 := by
  have hlt := h.blk.lt
  refine ⟨?_, h.base, ?_, hs⟩
  · rw [← ha]; exact (h.blk.grown hw1 (h.ne i v hv)).set c v'
  · rw [← hvs, ← hr]; exact (h.owned.grow i v v' s' hv (by simp; exact hlt) hw1 hown hat).set (b := b) (by simp) c v'

theorem Rd.grow6 {B : Nat} {w w1 : World} {b : Nat} {st : RS} {v4 v5 v6 v7 v11 : Value} (h : Rd B w b st v4 v5 v6 v7 v11) {x : ByteArray × Int × Int} {g cap H : Nat} (hlen : st.names.length < 4000) (hw1 : w.grownBy w1 v6.ownBlock)
    (hown : w1.ownsRow B 223 3 (.slice (some ⟨g, 0, none⟩) (st.names.length + 1) cap) (st.names.length + 1) (nameCells st.names ++ [.string x.1, .int .i64 x.2.1, .int .i64 x.2.2])) (hat : v6.ownBlock = some g ∨ g = H) (hH : w.heap.size ≤ H) :
    Rd B (w1.setCell ⟨b, 6, none⟩ (.slice (some ⟨g, 0, none⟩) (st.names.length + 1) cap)) b { st with names := st.names ++ [x] } v4 v5 (.slice (some ⟨g, 0, none⟩) (st.names.length + 1) cap) v7 v11 :=
  h.grow 2 6 v6 _ ⟨223, 3, st.names.length + 1, _⟩ _ _ _ _ _ _ rfl hw1 hown (lies_at hat hH) (by simp [rdArr]) rfl (by simp [rdRows, nameCells]) (by have := h.small; simp; omega)

theorem Rd.grow7 {B : Nat} {w w1 : World} {b : Nat} {st : RS} {v4 v5 v6 v7 v11 : Value} (h : Rd B w b st v4 v5 v6 v7 v11) {x : ByteArray × Int × Int} {g cap H : Nat} (hlen : st.opens.length < 4000) (hw1 : w.grownBy w1 v7.ownBlock)
    (hown : w1.ownsRow B 225 3 (.slice (some ⟨g, 0, none⟩) (st.opens.length + 1) cap) (st.opens.length + 1) (nameCells st.opens ++ [.string x.1, .int .i64 x.2.1, .int .i64 x.2.2])) (hat : v7.ownBlock = some g ∨ g = H) (hH : w.heap.size ≤ H) :
    Rd B (w1.setCell ⟨b, 7, none⟩ (.slice (some ⟨g, 0, none⟩) (st.opens.length + 1) cap)) b { st with opens := st.opens ++ [x] } v4 v5 v6 (.slice (some ⟨g, 0, none⟩) (st.opens.length + 1) cap) v11 :=
  h.grow 3 7 v7 _ ⟨225, 3, st.opens.length + 1, _⟩ _ _ _ _ _ _ rfl hw1 hown (lies_at hat hH) (by simp [rdArr]) rfl (by simp [rdRows, nameCells]) (by have := h.small; simp; omega)

theorem Rd.grow11 {B : Nat} {w w1 : World} {b : Nat} {st : RS} {v4 v5 v6 v7 v11 : Value} (h : Rd B w b st v4 v5 v6 v7 v11) {x : Int} {g cap H : Nat} (hlen : st.heads.length < 4000) (hw1 : w.grownBy w1 v11.ownBlock)
    (hown : w1.ownsRow B 3 1 (.slice (some ⟨g, 0, none⟩) (st.heads.length + 1) cap) (st.heads.length + 1) (st.heads.map (Value.int .i64) ++ [.int .i64 x])) (hat : v11.ownBlock = some g ∨ g = H) (hH : w.heap.size ≤ H) :
    Rd B (w1.setCell ⟨b, 11, none⟩ (.slice (some ⟨g, 0, none⟩) (st.heads.length + 1) cap)) b { st with heads := st.heads ++ [x] } v4 v5 v6 v7 (.slice (some ⟨g, 0, none⟩) (st.heads.length + 1) cap) :=
  h.grow 4 11 v11 _ ⟨3, 1, st.heads.length + 1, _⟩ _ _ _ _ _ _ rfl hw1 hown (lies_at hat hH) (by simp [rdArr]) rfl (by simp [rdRows]) (by have := h.small; simp; omega)

theorem Tryz.infoName : (Tryz.prog.info? 223).map (fun i => (i.zero, i.size, i.bytes)) = some (some (.agg #[.string ⟨#[]⟩, .int .i64 0, .int .i64 0]), 3, 32) := by kernel_rfl
theorem Tryz.infoOpen : (Tryz.prog.info? 225).map (fun i => (i.zero, i.size, i.bytes)) = some (some (.agg #[.string ⟨#[]⟩, .int .i64 0, .int .i64 0]), 3, 32) := by kernel_rfl
theorem Tryz.infoInt : (Tryz.prog.info? 3).map (fun i => (i.zero, i.size, i.bytes)) = some (some (.int .i64 0), 1, 8) := by kernel_rfl

theorem oneCells3 (s : ByteArray) (a b : Int) : ∀ u ∈ [Value.string s, Value.int .i64 a, Value.int .i64 b], u.oneCell' = true := by
  intro u hu
  simp at hu
  rcases hu with rfl | rfl | rfl <;> rfl
theorem oneCells1 (a : Int) : ∀ u ∈ [Value.int .i64 a], u.oneCell' = true := by
  intro u hu
  simp at hu
  subst hu; rfl

end Go.Proofs.YtmeiikjpaepogaaGreatDoor

/- The reference's Reader: define, the way of a semicolon. -/
namespace Go.Proofs.YtmeiikjpaepogaaGreatDoor
open Go Go.RowKit

set_option maxRecDepth 100000 in
set_option maxHeartbeats 1000000 in
theorem define_semi_no (B b : Nat) (st : RS) (w : World) (h : RdE B w b st) (ht : (st.token.toList == [59]) = true) (hno : st.start < 0 ∨ st.opens ≠ []) :
    Calls Tryz.prog 127 #[.pointer (some ⟨b, 0, none⟩)] w fun e w' => e = .returned (.tuple #[]) ∧ RdE B w' b (failS st 4) ∧ Below B w w' := by
  obtain ⟨v4, v5, v6, v7, v11, h⟩ := h
  have HF := hide (fail_rd B b st v4 v5 v6 v7 v11 4 w h)
  obtain ⟨a7, k7, rfl⟩ := own_shape h.o7
  have hc := h.blk.cell
  have hf := h.blk.free
  unfold rdArr at hc
  have hs : (st.opens.length : Int) ≤ 4000 := by have := h.small; omega
  by_cases hst : st.start < 0
  · go_enter Tryz.func127, Tryz.ntmps127
    go_wp2_with (go_at_call 130; refine (unhide HF).mono ?_; rintro e w3 ⟨rfl, h3, hb4⟩)
    refine bodyPost_ret (results_none rfl _ _ _) rfl ?_
    exact ⟨rfl, ⟨_, _, _, _, _, h3⟩, hb4⟩
  · have hst' : 0 ≤ st.start := by omega
    have hl : (0 : Int) < st.opens.length := by
      rcases hno with e | e
      · omega
      · have := List.length_pos_iff.2 e; omega
    go_enter Tryz.func127, Tryz.ntmps127
    go_wp2_with (go_at_call 130; refine (unhide HF).mono ?_; rintro e w3 ⟨rfl, h3, hb4⟩)
    refine bodyPost_ret (results_none rfl _ _ _) rfl ?_
    exact ⟨rfl, ⟨_, _, _, _, _, h3⟩, hb4⟩

def semiS (st : RS) : RS := { putS st 4 0 with names := (putS st 4 0).names ++ [((putS st 4 0).name, 3, (putS st 4 0).start)], start := -1 }

theorem Rd.start {B : Nat} {w : World} {b : Nat} {st : RS} {v4 v5 v6 v7 v11 : Value} (h : Rd B w b st v4 v5 v6 v7 v11) (k : Int) : Rd B (w.setCell ⟨b, 8, none⟩ (.int .i64 k)) b { st with start := k } v4 v5 v6 v7 v11 :=
  h.set 8 _ _ (by simp [rdArr]) rfl ⟨rfl, rfl, rfl, rfl, rfl, rfl⟩

set_option maxRecDepth 100000 in
set_option maxHeartbeats 1000000 in
theorem define_semi (B b : Nat) (st : RS) (w : World) (h : RdE B w b st) (ht : (st.token.toList == [59]) = true) (hst : 0 ≤ st.start) (hop : st.opens = []) (hlen : st.c0.length < 4000 ∧ st.c1.length < 4000) (hnm : st.names.length < 4000) :
    Calls Tryz.prog 127 #[.pointer (some ⟨b, 0, none⟩)] w fun e w' => e = .returned (.tuple #[]) ∧ RdE B w' b (semiS st) ∧ Below B w w' := by
  obtain ⟨i0, hi, hz0, hz1, hz2⟩ := info_parts Tryz.infoName
  have HP := hide (put_any B b st 4 0 w h hlen)
  have hnm1 : (putS st 4 0).names.length < 4000 := by unfold putS; split <;> exact hnm
  unfold semiS
  generalize putS st 4 0 = st1 at HP hnm1 ⊢
  obtain ⟨v4, v5, v6, v7, v11, h⟩ := h
  obtain ⟨a7, k7, rfl⟩ := own_shape h.o7
  have hc := h.blk.cell
  have hf := h.blk.free
  unfold rdArr at hc
  rw [hop] at hc
  go_enter Tryz.func127, Tryz.ntmps127
  go_wp2_with fail
  refine (unhide HP).mono ?_
  rintro e w1 ⟨rfl, ⟨v4, v5, v6, v7, v11, h1⟩, hb1⟩
  clear HP hc hf h
  have hlt := h1.blk.lt
  have hc := h1.blk.cell
  have hf := h1.blk.free
  unfold rdArr at hc
  have HB := hide h1.blk
  unfold rdArr at HB
  have hne := h1.ne 2 v6 rfl
  have HW := hide (ownsRow_alloc h1.o6 (.cells #[.string st1.name, .int .i64 3, .int .i64 st1.start] 223))
  have hBs : B ≤ (w1.alloc (.cells #[.string st1.name, .int .i64 3, .int .i64 st1.start] 223)).drew.heap.size := by
    have := h1.base
    show B ≤ (w1.alloc _).heap.size
    simp; omega
  have HBs := hide hBs
  clear hBs
  go_wp2_with fail
  go_region_law (refine step_append_lies _ rfl (.tmp 36) (.tmp 47) 175 rfl B 223 i0 _ 3 32 Tryz.underlying175 hi hz0 hz1 hz2 rfl (by decide) v6 st1.names.length (nameCells st1.names) (by simp [Act.eval]) (unhide HW) ⟨w1.heap.size, 0, none⟩ 1 1 [.string st1.name, .int .i64 3, .int .i64 st1.start] (by simp [Act.eval]) rfl (World.news_of_block (Blk.new w1 _ _)) (oneCells3 _ _ _) (by omega) (by unfold maxLen; omega) (by omega) (unhide HBs) _ rfl ?_; intro g cap w2 hown hgrow hat hlt1; have hb1 := ((unhide HB).alloc _).drew.grown hgrow hne; have hc1 := hb1.cell; have hf1 := hb1.free; have HO := hide hown; have HG := hide hgrow; have HA := hide hat; clear hown hgrow hat hb1)
  all_goals
    go_wp2
    refine bodyPost_ret (results_none rfl _ _ _) rfl ?_
    refine ⟨rfl, ⟨_, _, _, _, _, (h1.grow6 (x := (st1.name, 3, st1.start)) hnm1 (grownBy_alloc (unhide HG)) (unhide HO) (unhide HA) (by simp)).start (-1)⟩, ?_⟩
    exact hb1.trans (((below_grown_alloc (by have := h1.base; omega) (fun k hk => (ownsRow_lt h1.o6 hk).2) (unhide HG)).setCell h1.base _).setCell h1.base _)

end Go.Proofs.YtmeiikjpaepogaaGreatDoor

/- The reference's Reader: define, the other ways. -/
namespace Go.Proofs.YtmeiikjpaepogaaGreatDoor
open Go Go.RowKit

set_option maxRecDepth 100000 in
set_option maxHeartbeats 1000000 in
theorem define_nest (B b : Nat) (st : RS) (w : World) (h : RdE B w b st) (ht : (st.token.toList == [59]) = false) (hno : 0 ≤ st.start ∨ st.opens ≠ []) :
    Calls Tryz.prog 127 #[.pointer (some ⟨b, 0, none⟩)] w fun e w' => e = .returned (.tuple #[]) ∧ RdE B w' b (failS st 4) ∧ Below B w w' := by
  obtain ⟨v4, v5, v6, v7, v11, h⟩ := h
  have HF := hide (fail_rd B b st v4 v5 v6 v7 v11 4 w h)
  obtain ⟨a7, k7, rfl⟩ := own_shape h.o7
  have hc := h.blk.cell
  have hf := h.blk.free
  unfold rdArr at hc
  have hs : (st.opens.length : Int) ≤ 4000 := by have := h.small; omega
  by_cases hst : 0 ≤ st.start
  · go_enter Tryz.func127, Tryz.ntmps127
    go_wp2_with (go_at_call 130; refine (unhide HF).mono ?_; rintro e w3 ⟨rfl, h3, hb4⟩)
    refine bodyPost_ret (results_none rfl _ _ _) rfl ?_
    exact ⟨rfl, ⟨_, _, _, _, _, h3⟩, hb4⟩
  · have hst' : st.start < 0 := by omega
    have hl : (0 : Int) < st.opens.length := by
      rcases hno with e | e
      · omega
      · have := List.length_pos_iff.2 e; omega
    go_enter Tryz.func127, Tryz.ntmps127
    go_wp2_with (go_at_call 130; refine (unhide HF).mono ?_; rintro e w3 ⟨rfl, h3, hb4⟩)
    refine bodyPost_ret (results_none rfl _ _ _) rfl ?_
    exact ⟨rfl, ⟨_, _, _, _, _, h3⟩, hb4⟩

set_option maxRecDepth 100000 in
set_option maxHeartbeats 1000000 in
theorem define_bad (B b : Nat) (st : RS) (w : World) (h : RdE B w b st) (hnx : st.next ≤ st.s.size) (ht : (st.token.toList == [59]) = false) (hst : st.start < 0) (hop : st.opens = []) (hbad : (newNameS st).err ≠ 0) :
    Calls Tryz.prog 127 #[.pointer (some ⟨b, 0, none⟩)] w fun e w' => e = .returned (.tuple #[]) ∧ RdE B w' b (newNameS st) ∧ Below B w w' := by
  have HN := hide (newName_any B b st w h hnx)
  have hbad' : ((newNameS st).err != 0) = true := by simpa using hbad
  clear hbad
  generalize newNameS st = st1 at HN hbad' ⊢
  obtain ⟨v4, v5, v6, v7, v11, h⟩ := h
  obtain ⟨a7, k7, rfl⟩ := own_shape h.o7
  have hc := h.blk.cell
  have hf := h.blk.free
  unfold rdArr at hc
  rw [hop] at hc
  go_enter Tryz.func127, Tryz.ntmps127
  go_wp2_with fail
  refine (unhide HN).mono ?_
  rintro e w1 ⟨rfl, ⟨v4, v5, v6, v7, v11, h1⟩, hb1⟩
  clear HN hc hf h
  have hc := h1.blk.cell
  have hf := h1.blk.free
  unfold rdArr at hc
  go_wp2_with fail
  refine bodyPost_ret (results_none rfl _ _ _) rfl ?_
  exact ⟨rfl, ⟨_, _, _, _, _, h1⟩, hb1⟩

theorem Rd.named {B : Nat} {w : World} {b : Nat} {st : RS} {v4 v5 v6 v7 v11 : Value} (h : Rd B w b st v4 v5 v6 v7 v11) (k : ByteArray) : Rd B (w.setCell ⟨b, 9, none⟩ (.string k)) b { st with name := k } v4 v5 v6 v7 v11 :=
  h.set 9 _ _ (by simp [rdArr]) rfl ⟨rfl, rfl, rfl, rfl, rfl, rfl⟩
theorem Rd.celled {B : Nat} {w : World} {b : Nat} {st : RS} {v4 v5 v6 v7 v11 : Value} (h : Rd B w b st v4 v5 v6 v7 v11) (k : Int) : Rd B (w.setCell ⟨b, 10, none⟩ (.int .i64 k)) b { st with cells := k } v4 v5 v6 v7 v11 :=
  h.set 10 _ _ (by simp [rdArr]) rfl ⟨rfl, rfl, rfl, rfl, rfl, rfl⟩

def colonS (st : RS) (t : ByteArray) : RS := { st with name := t, start := st.c0.length, heads := st.heads ++ [(st.c0.length : Int)] }

set_option maxRecDepth 100000 in
set_option maxHeartbeats 1000000 in
theorem define_colon (B b : Nat) (st : RS) (w : World) (h : RdE B w b st) (hnx : st.next ≤ st.s.size) (ht : st.token = ⟨#[58]⟩) (hst : st.start < 0) (hop : st.opens = []) (hok : (newNameS st).err = 0) (hh : (newNameS st).heads.length < 4000) :
    Calls Tryz.prog 127 #[.pointer (some ⟨b, 0, none⟩)] w fun e w' => e = .returned (.tuple #[]) ∧ RdE B w' b (colonS (newNameS st) (stepS st).token) ∧ Below B w w' := by
  obtain ⟨i0, hi, hz0, hz1, hz2⟩ := info_parts Tryz.infoInt
  have HN := hide (newName_any B b st w h hnx)
  have hok' : ((newNameS st).err != 0) = false := by simpa using hok
  clear hok
  generalize newNameS st = st1 at HN hok' hh ⊢
  generalize (stepS st).token = tk at HN ⊢
  obtain ⟨v4, v5, v6, v7, v11, h⟩ := h
  obtain ⟨a7, k7, rfl⟩ := own_shape h.o7
  have hc := h.blk.cell
  have hf := h.blk.free
  unfold rdArr at hc
  rw [hop, ht] at hc
  go_enter Tryz.func127, Tryz.ntmps127
  go_wp2_with fail
  refine (unhide HN).mono ?_
  rintro e w1 ⟨rfl, ⟨v4, v5, v6, v7, v11, h1⟩, hb1⟩
  clear HN hc hf h
  obtain ⟨a4, k4, rfl⟩ := own_shape h1.o4
  have hlt := h1.blk.lt
  have hc := h1.blk.cell
  have hf := h1.blk.free
  unfold rdArr at hc
  go_wp2_with fail
  have h2 := (h1.named tk).start st1.c0.length
  have hb2 := (hb1.setCell h1.base (p := ⟨b, 9, none⟩) (.string tk)).setCell h1.base (p := ⟨b, 8, none⟩) (.int .i64 st1.c0.length)
  generalize hw2 : ((w1.setCell ⟨b, 9, none⟩ (.string tk)).setCell ⟨b, 8, none⟩ (.int .i64 st1.c0.length)) = w2 at h2 hb2 ⊢
  clear hw2 hc hf hb1 h1 hlt
  have hlt := h2.blk.lt
  have hc := h2.blk.cell
  have hf := h2.blk.free
  unfold rdArr at hc
  have HB := hide h2.blk
  unfold rdArr at HB
  have hne := h2.ne 4 v11 rfl
  have HW := hide (ownsRow_alloc h2.o11 (.cells #[.int .i64 st1.c0.length] 3))
  have hBs : B ≤ (w2.alloc (.cells #[.int .i64 st1.c0.length] 3)).drew.heap.size := by
    have := h2.base
    show B ≤ (w2.alloc _).heap.size
    simp; omega
  have HBs := hide hBs
  clear hBs
  go_region_law (refine step_append_lies _ rfl (.tmp 92) (.tmp 97) 115 rfl B 3 i0 _ 1 8 Tryz.underlying115 hi hz0 hz1 hz2 rfl (by decide) v11 st1.heads.length (st1.heads.map (Value.int .i64)) (by simp [Act.eval]) (unhide HW) ⟨w2.heap.size, 0, none⟩ 1 1 [.int .i64 st1.c0.length] (by simp [Act.eval]) rfl (World.news_of_block (Blk.new w2 _ _)) (oneCells1 _) (by omega) (by unfold maxLen; omega) (by omega) (unhide HBs) _ rfl ?_; intro g cap w3 hown hgrow hat hlt1; have hb1 := ((unhide HB).alloc _).drew.grown hgrow hne; have hc1 := hb1.cell; have hf1 := hb1.free; have HO := hide hown; have HG := hide hgrow; have HA := hide hat; clear hown hgrow hat hb1)
  all_goals
    go_wp2
    go_end0
    refine ⟨rfl, ⟨_, _, _, _, _, h2.grow11 (x := (st1.c0.length : Int)) hh (grownBy_alloc (unhide HG)) (unhide HO) (unhide HA) (by simp)⟩, ?_⟩
    exact hb2.trans ((below_grown_alloc (by have := h2.base; omega) (fun k hk => (ownsRow_lt h2.o11 hk).2) (unhide HG)).setCell h2.base _)

end Go.Proofs.YtmeiikjpaepogaaGreatDoor

/- The reference's Reader: define, constant. -/
namespace Go.Proofs.YtmeiikjpaepogaaGreatDoor
open Go Go.RowKit

def constant3 (st : RS) : RS := if (numS (stepS st).token).isSome then stepS st else failS (stepS st) 3
def constantS (st : RS) (t : ByteArray) : RS := { constant3 st with names := (constant3 st).names ++ [(t, 0, numV (stepS st).token)] }

theorem below_grown_alloc' {B : Nat} {w w1 : World} {o : Obj} {row : Option Nat} (hB : B ≤ w.heap.size) (hr : ∀ k, row = some k → B ≤ k) (hg : (w.alloc o).grownBy w1 row) : Below B w w1 :=
  ((Below.refl B w).alloc hB o).grown hg (by have := Below.size ((Below.refl B w).alloc hB o); exact Nat.le_trans hB this) hr

set_option maxRecDepth 100000 in
set_option maxHeartbeats 1000000 in
theorem define_constant (B b : Nat) (st : RS) (w : World) (h : RdE B w b st) (hnx : st.next ≤ st.s.size) (ht : st.token = ⟨#[99, 111, 110, 115, 116, 97, 110, 116]⟩) (hst : st.start < 0) (hop : st.opens = []) (hok : (newNameS st).err = 0) (hnx1 : (newNameS st).next ≤ (newNameS st).s.size) (hh : (constant3 (newNameS st)).names.length < 4000) :
    Calls Tryz.prog 127 #[.pointer (some ⟨b, 0, none⟩)] w fun e w' => e = .returned (.tuple #[]) ∧ RdE B w' b (constantS (newNameS st) (stepS st).token) ∧ Below B w w' := by
  obtain ⟨i0, hi, hz0, hz1, hz2⟩ := info_parts Tryz.infoName
  have HN := hide (newName_any B b st w h hnx)
  have hok' : ((newNameS st).err != 0) = false := by simpa using hok
  clear hok
  have HS : Hid (∀ (w1 : World) (v4 v5 v6 v7 v11 : Value), Rd B w1 b (newNameS st) v4 v5 v6 v7 v11 → Calls Tryz.prog 125 #[.pointer (some ⟨b, 0, none⟩)] w1 fun e w' => e = .returned (.tuple #[]) ∧ Rd B w' b (stepS (newNameS st)) v4 v5 v6 v7 v11 ∧ Below B w1 w') := fun w1 v4 v5 v6 v7 v11 h1 => step_rd B b _ v4 v5 v6 v7 v11 w1 h1 hnx1
  have hsz0 : (stepS (newNameS st)).token.size ≤ (newNameS st).s.size := stepS_token_size _
  have hs2 : (stepS (newNameS st)).s = (newNameS st).s := rfl
  unfold constantS constant3
  unfold constant3 at hh
  generalize stepS (newNameS st) = st2 at HS hh hsz0 hs2 ⊢
  generalize newNameS st = st1 at HN hok' HS hsz0 hs2 ⊢
  generalize (stepS st).token = tk at HN ⊢
  clear hnx1
  obtain ⟨v4, v5, v6, v7, v11, h⟩ := h
  obtain ⟨a7, k7, rfl⟩ := own_shape h.o7
  have hc := h.blk.cell
  have hf := h.blk.free
  unfold rdArr at hc
  rw [hop, ht] at hc
  cases hn : (numS st2.token).isSome
  all_goals
    rw [hn] at hh
    simp only [Bool.false_eq_true, if_false, if_true] at hh ⊢
    go_enter Tryz.func127, Tryz.ntmps127
    go_wp2_with fail
    refine (unhide HN).mono ?_
    rintro e w1 ⟨rfl, ⟨v4, v5, v6, v7, v11, h1⟩, hb1⟩
    clear HN hc hf h
    have hc := h1.blk.cell
    have hf := h1.blk.free
    unfold rdArr at hc
    go_wp2_with fail
    refine (unhide HS w1 v4 v5 v6 v7 v11 h1).mono ?_
    rintro e w2 ⟨rfl, h2, hb2⟩
    have hb3 := hb1.trans hb2
    have hsz : st2.token.size ≤ 2000 := Nat.le_trans hsz0 (by rw [← hs2]; exact h2.small.2.2.2.2.2)
    clear HS hc hf h1 hb1 hb2 hs2
    have hc := h2.blk.cell
    have hf := h2.blk.free
    unfold rdArr at hc
    go_wp2_with fail
    refine (number_any st2.token w2 hsz).mono ?_
    rintro e w3 ⟨rfl, hw⟩
    obtain rfl := hw.symm
    clear hw
    generalize hnv : numV st2.token = nv
    have HNV := hide hnv
    clear hnv
  · have HF := hide (fail_rd B b st2 v4 v5 v6 v7 v11 3 w2 h2)
    go_wp2_with fail
    refine (unhide HF).mono ?_
    rintro e w4 ⟨rfl, h4, hb4⟩
    have hbw := hb3.trans hb4
    clear HF hc hf
    have hlt := h4.blk.lt
    have HB := hide h4.blk
    unfold rdArr at HB
    have hne := h4.ne 2 v6 rfl
    have HW := hide (ownsRow_alloc h4.o6 (.cells #[.string tk, .int .i64 0, .int .i64 nv] 223))
    have hBs : B ≤ (w4.alloc (.cells #[.string tk, .int .i64 0, .int .i64 nv] 223)).heap.size := by
      have := h4.base
      simp; omega
    have HBs := hide hBs
    clear hBs
    have hc4 := h4.blk.cell
    have hf4 := h4.blk.free
    unfold rdArr at hc4
    go_wp2_with (at_builtin; refine wpList_append_lies _ rfl (.tmp 146) (.tmp 151) 175 rfl B 223 i0 _ 3 32 Tryz.underlying175 hi hz0 hz1 hz2 rfl (by decide) v6 (failS st2 3).names.length (nameCells (failS st2 3).names) (by simp [Act.eval]) (unhide HW) ⟨w4.heap.size, 0, none⟩ 1 1 [.string tk, .int .i64 0, .int .i64 nv] (by simp [Act.eval]) rfl (World.news_of_block (Blk.new w4 _ _)) (oneCells3 _ _ _) (by omega) (by unfold maxLen; omega) (by omega) (unhide HBs) _ rfl ?_; intro g cap w5 hown hgrow hat hlt1; have hb5 := ((unhide HB).alloc _).grown hgrow hne; have hc5 := hb5.cell; have hf5 := hb5.free; have HO := hide hown; have HG := hide hgrow; have HA := hide hat; clear hown hgrow hat hb5)
    go_end0
    rw [unhide HNV]
    refine ⟨rfl, ⟨_, _, _, _, _, h4.grow6 (x := (tk, 0, nv)) hh (grownBy_alloc' (unhide HG)) (unhide HO) (unhide HA) (by simp)⟩, ?_⟩
    exact hbw.trans ((below_grown_alloc' (by have := h4.base; omega) (fun k hk => (ownsRow_lt h4.o6 hk).2) (unhide HG)).setCell h4.base _)
  · have h4 := h2
    have hbw := hb3
    clear hc hf h2 hb3
    have hlt := h4.blk.lt
    have HB := hide h4.blk
    unfold rdArr at HB
    have hne := h4.ne 2 v6 rfl
    have HW := hide (ownsRow_alloc h4.o6 (.cells #[.string tk, .int .i64 0, .int .i64 nv] 223))
    have hBs : B ≤ (w2.alloc (.cells #[.string tk, .int .i64 0, .int .i64 nv] 223)).heap.size := by
      have := h4.base
      simp; omega
    have HBs := hide hBs
    clear hBs
    have hc4 := h4.blk.cell
    have hf4 := h4.blk.free
    unfold rdArr at hc4
    go_wp2_with (at_builtin; refine wpList_append_lies _ rfl (.tmp 146) (.tmp 151) 175 rfl B 223 i0 _ 3 32 Tryz.underlying175 hi hz0 hz1 hz2 rfl (by decide) v6 st2.names.length (nameCells st2.names) (by simp [Act.eval]) (unhide HW) ⟨w2.heap.size, 0, none⟩ 1 1 [.string tk, .int .i64 0, .int .i64 nv] (by simp [Act.eval]) rfl (World.news_of_block (Blk.new w2 _ _)) (oneCells3 _ _ _) (by omega) (by unfold maxLen; omega) (by omega) (unhide HBs) _ rfl ?_; intro g cap w5 hown hgrow hat hlt1; have hb5 := ((unhide HB).alloc _).grown hgrow hne; have hc5 := hb5.cell; have hf5 := hb5.free; have HO := hide hown; have HG := hide hgrow; have HA := hide hat; clear hown hgrow hat hb5)
    go_end0
    rw [unhide HNV]
    refine ⟨rfl, ⟨_, _, _, _, _, h4.grow6 (x := (tk, 0, nv)) hh (grownBy_alloc' (unhide HG)) (unhide HO) (unhide HA) (by simp)⟩, ?_⟩
    exact hbw.trans ((below_grown_alloc' (by have := h4.base; omega) (fun k hk => (ownsRow_lt h4.o6 hk).2) (unhide HG)).setCell h4.base _)

end Go.Proofs.YtmeiikjpaepogaaGreatDoor

