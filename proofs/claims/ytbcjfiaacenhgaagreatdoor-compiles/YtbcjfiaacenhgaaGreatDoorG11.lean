/- The reference's Reader: control: if, do. -/
import Derived.Test.YtbcjfiaacenhgaaGreatDoorG10
import Derived.Test.YtbcjfiaacenhgaaGreatDoorG08
namespace Go.Proofs.YtbcjfiaacenhgaaGreatDoor
open Go Go.RowKit

theorem last_any (B b : Nat) (st : RS) (v4 v5 v6 v7 v11 : Value) (w : World) (h : Rd B w b st v4 v5 v6 v7 v11) :
    Calls Tryz.prog 53 #[.pointer (some ⟨b, 0, none⟩)] w fun e w' => e = .returned (.string (lastS st)) ∧ ∃ n, w' = w.drewN n := by
  unfold lastS
  rcases List.eq_nil_or_concat st.opens with e | ⟨l, x, e⟩
  · rw [e]; exact last_none B b st v4 v5 v6 v7 v11 w h e
  · rw [List.concat_eq_append] at e
    rw [e]
    simp only [List.getLast?_concat]
    exact last_some B b st v4 v5 v6 v7 v11 w h l x e

def openS (st : RS) (x : ByteArray × Int × Int) : RS := { st with opens := st.opens ++ [x] }

set_option maxRecDepth 100000 in
set_option maxHeartbeats 1000000 in
theorem control_if (B b : Nat) (st : RS) (w : World) (h : RdE B w b st) (ht : st.token = ⟨#[105, 102]⟩) (hlen : st.c0.length < 4000 ∧ st.c1.length < 4000) (hop : (putS st 2 0).opens.length < 4000) :
    Calls Tryz.prog 30 #[.pointer (some ⟨b, 0, none⟩)] w fun e w' => e = .returned (.tuple #[]) ∧ RdE B w' b (openS (putS st 2 0) (⟨#[105, 102]⟩, 0, hereS st)) ∧ Below B w w' := by
  obtain ⟨i0, hi, hz0, hz1, hz2⟩ := info_parts Tryz.infoOpen
  obtain ⟨v4, v5, v6, v7, v11, h⟩ := h
  have HL := hide (last_any B b st v4 v5 v6 v7 v11 w h)
  have HP : Hid (∀ n, Calls Tryz.prog 50 #[.pointer (some ⟨b, 0, none⟩), .int .i64 2, .int .i64 0] (w.drewN n) fun e w' => e = .returned (.int .i64 (hereS st)) ∧ RdE B w' b (putS st 2 0) ∧ Below B (w.drewN n) w') := fun n => put_any B b st 2 0 (w.drewN n) ⟨_, _, _, _, _, h.drewN n⟩ hlen
  generalize putS st 2 0 = st1 at HP hop ⊢
  generalize hereS st = hr at HP ⊢
  generalize lastS st = ls at HL
  have hc := h.blk.cell
  have hf := h.blk.free
  unfold rdArr at hc
  rw [ht] at hc
  go_enter Tryz.func30, Tryz.ntmps30
  go_wp2_with fail
  refine (unhide HL).mono ?_
  rintro e w1 ⟨rfl, n, rfl⟩
  go_wp2_with fail
  refine (unhide HP n).mono ?_
  rintro e w1 ⟨rfl, ⟨v4, v5, v6, v7, v11, h1⟩, hb1⟩
  clear HL HP hc hf h
  have hlt := h1.blk.lt
  have HB := hide h1.blk
  unfold rdArr at HB
  have hne := h1.ne 3 v7 rfl
  have HW := hide (ownsRow_alloc h1.o7 (.cells #[.string ⟨#[105, 102]⟩, .int .i64 0, .int .i64 hr] 125))
  have hBs : B ≤ (w1.alloc (.cells #[.string ⟨#[105, 102]⟩, .int .i64 0, .int .i64 hr] 125)).heap.size := by
    have := h1.base
    simp; omega
  have HBs := hide hBs
  clear hBs
  have hc := h1.blk.cell
  have hf := h1.blk.free
  unfold rdArr at hc
  go_wp2_with (at_builtin; refine wpList_append_lies _ rfl (.tmp 27) (.tmp 30) 85 rfl B 125 i0 _ 3 32 Tryz.underlying85 hi hz0 hz1 hz2 rfl (by decide) v7 st1.opens.length (nameCells st1.opens) (by simp [Act.eval]) (unhide HW) ⟨w1.heap.size, 0, none⟩ 1 1 [.string ⟨#[105, 102]⟩, .int .i64 0, .int .i64 hr] (by simp [Act.eval]) rfl (World.news_of_block (Blk.new w1 _ _)) (oneCells3 _ _ _) (by omega) (by unfold maxLen; omega) (by omega) (unhide HBs) _ rfl ?_; intro g cap w5 hown hgrow hat hlt1; have hb5 := ((unhide HB).alloc _).grown hgrow hne; have hc5 := hb5.cell; have hf5 := hb5.free; have HO := hide hown; have HG := hide hgrow; have HA := hide hat; clear hown hgrow hat hb5)
  refine bodyPost_ret (results_none rfl _ _ _) rfl ?_
  refine ⟨rfl, ⟨_, _, _, _, _, h1.grow7 (x := (⟨#[105, 102]⟩, 0, (hr : Int))) hop (grownBy_alloc' (unhide HG)) (unhide HO) (unhide HA) (by simp)⟩, ?_⟩
  exact (below_drawn (Below.refl B w) n).trans (hb1.trans ((below_grown_alloc' (by have := h1.base; omega) (fun k hk => (ownsRow_lt h1.o7 hk).2) (unhide HG)).setCell h1.base _))

end Go.Proofs.YtbcjfiaacenhgaaGreatDoor

