/- The reference's Machine: move, Emit and Dot. -/
import Derived.Test.YtbcjfiaacenhgaaGreatDoorG21
namespace Go.Proofs.YtbcjfiaacenhgaaGreatDoor
open Go Go.RowKit

theorem Tryz.name74 : (Tryz.f74.name == "runtime.NumGoroutine") = false := by kernel_rfl
theorem Tryz.body74 : Tryz.f74.body.isNone = false := by kernel_rfl
theorem conv_drew (W : World) (c : Int) : (convert 165 9 (.slice (some ⟨W.heap.size, 0, none⟩) 1 1)).run Tryz.prog (W.alloc (.cells #[.int .u8 c] 5)).drew = .ok (.string (strOfNums [c])) (W.alloc (.cells #[.int .u8 c] 5)).drew := by
  refine run_convert_bytes_arg _ 165 5 Tryz.underlying165 Tryz.underlying5 W.heap.size 0 1 1 [c] rfl ?_ 9 Tryz.underlying9
  intro i hi
  have : i = 0 := by omega
  subst this
  rw [(Blk.new W _ _).drew.cell]
  rfl
theorem McE.put {B : Nat} {w : World} {b : Nat} {m : MS} (h : McE B w b m) (s : ByteArray) (hs : (s.size : Int) ≤ m.lo) : McE B (w.setCell ⟨b, 9, none⟩ (.string s)) b { m with out := s } := by
  obtain ⟨_, _, _, _, h⟩ := h
  exact ⟨_, _, _, _, h.field 9 (.string s) _ (by simp [mcArr]) rfl h.lims (by have := h.small; have := h.lims; simp only; omega) h.ints⟩
theorem McE.drew {B : Nat} {w : World} {b : Nat} {m : MS} (h : McE B w b m) : McE B w.drew b m := by
  obtain ⟨_, _, _, _, h⟩ := h
  exact ⟨_, _, _, _, h.drew⟩
theorem McE.below {B : Nat} {w w' : World} {b : Nat} {m : MS} (h : McE B w b m) (hb : Below w.heap.size w w') : McE B w' b m := by
  obtain ⟨_, _, _, _, h⟩ := h
  exact ⟨_, _, _, _, ⟨h.blk.below hb h.blk.lt, h.base, h.owned.below_all hb, h.lims, h.small, h.ints, fun x hx => (h.kept x hx).below hb (h.kept x hx).lt, h.kne⟩⟩
theorem McE.alloc {B : Nat} {w : World} {b : Nat} {m : MS} (h : McE B w b m) (o : Obj) : McE B (w.alloc o) b m := by
  obtain ⟨_, _, _, _, h⟩ := h
  exact ⟨_, _, _, _, h.alloc o⟩

set_option maxRecDepth 100000 in
set_option maxHeartbeats 1000000 in
theorem move_emit (B b : Nat) (m : MS) (l : List Int) (x : Int) (w : World) (h : McE B w b m) (he : m.stack = l ++ [x]) (ho : (m.out.size : Int) + 1 ≤ m.lo) :
    Calls Tryz.prog 78 #[.pointer (some ⟨b, 0, none⟩), .int .i64 31] w fun e w' => e = .returned (.tuple #[]) ∧ McE B w' b { m with stack := l, out := m.out ++ strOfNums [x % 256] } ∧ Below B w w' := by
  have HP := hide (mpop_any B b m w h l x he)
  have xi : inI x := h.ints.1 x (by rw [he]; simp)
  unfold inI at xi
  obtain ⟨xi1, xi2⟩ := xi
  obtain ⟨v5, v6, v7, v8, hm⟩ := id h
  obtain ⟨a5, k5, rfl⟩ := own_shape hm.o5
  have hs : (m.stack.length : Int) ≤ 1000 := by have := hm.small; omega
  have hc := hm.blk.cell
  unfold mcArr at hc
  have hcv := conv_one
  have hcv2 := conv_drew
  have hsz : ¬ 9223372036854775807 < m.out.size + (strOfNums [x % 256]).size := by have := h.small; rw [strOfNums_size]; simp; omega
  go_enter Tryz.func78, Tryz.ntmps78
  go_wp2_with fail
  refine (unhide HP).mono ?_
  rintro e w2 ⟨rfl, h2, hb3⟩
  clear HP hc hm
  have hbs : B ≤ w2.heap.size := by obtain ⟨_, _, _, _, hm⟩ := id h2; have := hm.base; have := hm.blk.lt; omega
  obtain ⟨v5, v6, v7, v8, hm⟩ := id h2
  have hlt := hm.blk.lt
  have hc := hm.blk.cell
  have hf := hm.blk.free
  unfold mcArr at hc
  have s5 : m.out.size ≤ 1000 := by have := h.small; omega
  go_wp2_with fail
  go_region
  go_wp2_with fail
  go_end0
  refine ⟨rfl, ((h2.put (m.out ++ strOfNums [x % 256]) (by rw [ByteArray.size_append, strOfNums_size]; simp; omega)).alloc _).drew, ?_⟩
  exact (((hb3.setCell (p := ⟨b, 9, none⟩) h2.base _).alloc (by simpa using hbs) _)).drew

set_option maxRecDepth 100000 in
set_option maxHeartbeats 1000000 in
theorem move_dot (B b : Nat) (m : MS) (l : List Int) (x : Int) (w : World) (h : McE B w b m) (he : m.stack = l ++ [x]) (ho : (m.out.size : Int) + (digitsS x).length + 1 ≤ m.lo) :
    Calls Tryz.prog 78 #[.pointer (some ⟨b, 0, none⟩), .int .i64 32] w fun e w' => e = .returned (.tuple #[]) ∧ McE B w' b { m with stack := l, out := m.out ++ ⟨(digitsS x).toArray⟩ ++ ⟨#[32]⟩ } ∧ Below B w w' := by
  have HP := hide (mpop_any B b m w h l x he)
  have xi : inI x := h.ints.1 x (by rw [he]; simp)
  unfold inI at xi
  obtain ⟨xi1, xi2⟩ := xi
  obtain ⟨v5, v6, v7, v8, hm⟩ := id h
  obtain ⟨a5, k5, rfl⟩ := own_shape hm.o5
  have hs : (m.stack.length : Int) ≤ 1000 := by have := hm.small; omega
  have hc := hm.blk.cell
  unfold mcArr at hc
  go_enter Tryz.func78, Tryz.ntmps78
  go_wp2_with fail
  refine (unhide HP).mono ?_
  rintro e w2 ⟨rfl, h2, hb3⟩
  clear HP hc hm
  have hbs : B ≤ w2.heap.size := by obtain ⟨_, _, _, _, hm⟩ := id h2; have := hm.base; have := hm.blk.lt; omega
  obtain ⟨v5, v6, v7, v8, hm⟩ := id h2
  have hlt := hm.blk.lt
  have hc := hm.blk.cell
  have hf := hm.blk.free
  unfold mcArr at hc
  have s5 : m.out.size ≤ 1000 := by have := h.small; omega
  have HD := hide (fun n => digits_any x (w2.drewN n) ⟨xi1, xi2⟩)
  have HM := hide hm.blk
  unfold mcArr at HM
  have hlo : m.lo ≤ 1000 := by have := hm.lims; simp only at this; omega
  have hsz1 : ¬ 9223372036854775807 < m.out.size + (⟨(digitsS x).toArray⟩ : ByteArray).size := by
    have : (⟨(digitsS x).toArray⟩ : ByteArray).size = (digitsS x).length := by simp [ByteArray.size]
    rw [this]; omega
  have hsz2 : ¬ 9223372036854775807 < (m.out ++ (⟨(digitsS x).toArray⟩ : ByteArray)).size + (⟨#[32]⟩ : ByteArray).size := by
    have e1 : (⟨(digitsS x).toArray⟩ : ByteArray).size = (digitsS x).length := by simp [ByteArray.size]
    have e2 : (⟨#[32]⟩ : ByteArray).size = 1 := rfl
    rw [ByteArray.size_append, e1, e2]; omega
  have hsz3 : ¬ 9223372036854775807 < m.out.size + (digitsS x).length := by omega
  have hsz4 : ¬ 9223372036854775807 < m.out.size + (digitsS x).length + 1 := by omega
  go_wp2_with fail
  go_region_law (refine step_call rfl 74 #[.tmp 223] #[2] rfl Tryz.func74 Tryz.name74 Tryz.body74 #[.int .i64 x] (by first | (simp [Act.eval]; done) | (simp [Act.eval, Act.put]; done) | rfl) (unhide HD _) ?_; rintro e w3 ⟨rfl, hb4⟩; have hb5 := (unhide HM).below (below_drewN hb4) hlt; have hc3 := hb5.cell; have hf3 := hb5.free; clear hb5; refine ⟨_, rfl, ?_⟩)
  all_goals
    go_wp2
    go_end0
    refine ⟨rfl, (h2.below (below_drewN hb4)).put _ ?_, (hb3.trans ((below_drewN hb4).mono hbs)).setCell (p := ⟨b, 9, none⟩) h2.base _⟩
    have e1 : (⟨(digitsS x).toArray⟩ : ByteArray).size = (digitsS x).length := by simp [ByteArray.size]
    have e2 : (⟨#[32]⟩ : ByteArray).size = 1 := rfl
    rw [ByteArray.size_append, ByteArray.size_append, e1, e2]
    simp only
    omega

end Go.Proofs.YtbcjfiaacenhgaaGreatDoor

