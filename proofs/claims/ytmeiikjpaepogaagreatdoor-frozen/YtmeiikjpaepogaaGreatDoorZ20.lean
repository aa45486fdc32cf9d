/- The program's machine: deeds: numbers, jumps, what goes aside. -/
import Derived.Test.YtmeiikjpaepogaaGreatDoorZ19
import Derived.Test.YtmeiikjpaepogaaGreatDoorZ02
namespace Go.Proofs.YtmeiikjpaepogaaGreatDoor
open Go Go.RowKit

/-- What a deed leaves. -/
def DeedPost (B : Nat) (w : World) (b tb : Nat) (vl : Value) (st : Int) (m : MS) (er : Int) (e : Ending) (w' : World) : Prop := e = .returned (.int .i64 er) ∧ PmE B w' b tb vl m st ∧ KeepB w w' ∧ Below B w w'
theorem size_up' (w : World) (o : Obj) : (w.alloc o).heap.size = w.heap.size + 1 := by simp
theorem numsAt_box (w : World) (o : Obj) (x : Int) (T : TypeId) : NumsAt ((w.alloc o).alloc (.cells #[.int .i64 x] T)) (w.heap.size + 1) [x] := by
  have := NumsAt.new (w.alloc o) x T
  rw [size_up'] at this
  exact this
theorem numsAt_box2 (w : World) (o : Obj) (x y : Int) (T : TypeId) : NumsAt ((w.alloc o).alloc (.cells #[.int .i64 x, .int .i64 y] T)) (w.heap.size + 1) [x, y] := by
  have := NumsAt.two (w.alloc o) x y T
  rw [size_up'] at this
  exact this
theorem below_box (w : World) (o : Obj) : Below w.heap.size w (w.alloc o) := (Below.refl _ _).alloc (Nat.le_refl _) _
theorem below_box2 (w : World) (o o' : Obj) : Below w.heap.size w ((w.alloc o).alloc o') := below_more (below_box w o) _
theorem DeedPost.boxed {B : Nat} {w W : World} {b tb : Nat} {vl : Value} {st : Int} {m : MS} (o : Obj) (h : PmE B W b tb vl m st) (hk : KeepB w W) (hb : Below B w W) : DeedPost B w b tb vl st m 0 (.returned (.int .i64 0)) (W.alloc o) :=
  ⟨rfl, h.below (below_box W o), hk.trans (KeepB.ofBelow (below_box W o)), hb.trans ((below_box W o).mono h.size)⟩
theorem PmPost.deed {B : Nat} {w w0 w' : World} {b tb : Nat} {vl : Value} {st : Int} {m : MS} (hb : Below w.heap.size w w0) (hB : B ≤ w.heap.size) (h : PmE B w' b tb vl m st ∧ KeepB w0 w' ∧ Below B w0 w') : DeedPost B w b tb vl st m 0 (.returned (.int .i64 0)) w' :=
  ⟨rfl, h.1, (KeepB.ofBelow hb).trans h.2.1, (hb.mono hB).trans h.2.2⟩

set_option maxRecDepth 100000 in
set_option maxHeartbeats 2000000 in
theorem deed_lit (B b tb : Nat) (vl : Value) (m : MS) (st : Int) (w : World) (h : PmE B w b tb vl m st) (arg x0 x1 x2 : Int) (hs : m.stack.length ≤ 1000) :
    Calls Tryz.prog 91 #[.pointer (some ⟨b, 0, none⟩), .int .i64 arg, .agg #[.int .i64 x0, .int .i64 x1, .int .i64 x2]] w (DeedPost B w b tb vl st { m with stack := m.stack ++ [arg] } 0) := by
  have hb := below_box2 w (.cells #[.int .i64 x0, .int .i64 x1, .int .i64 x2] 171) (.cells #[.int .i64 arg] 2)
  have HP := V (pmPush_any B b tb vl m st _ (h.below hb) (w.heap.size + 1) 1 1 [arg] rfl (numsAt_box _ _ _ _) (by omega))
  have HB := V hb
  have hB := h.size
  clear h hb
  go_enter Tryz.func91, Tryz.ntmps91
  go_wp2_with fail
  refine (U HP).mono ?_
  rintro e w1 ⟨rfl, h1⟩
  have H1 := V h1
  clear h1 HP
  go_wp2_with fail
  go_ret
  exact PmPost.deed (U HB) hB (U H1)

set_option maxRecDepth 100000 in
set_option maxHeartbeats 2000000 in
theorem deed_jump (B b tb : Nat) (vl : Value) (m : MS) (st : Int) (w : World) (h : PmE B w b tb vl m st) (arg x0 x1 x2 : Int) :
    Calls Tryz.prog 92 #[.pointer (some ⟨b, 0, none⟩), .int .i64 arg, .agg #[.int .i64 x0, .int .i64 x1, .int .i64 x2]] w (DeedPost B w b tb vl st { m with pc := arg } 0) := by
  have hb := below_box w (.cells #[.int .i64 x0, .int .i64 x1, .int .i64 x2] 171)
  have hB := h.size
  have hlt := h.lt
  obtain ⟨vS, vA, vC, vE, vO, h0⟩ := h
  have h1 := h0.below hb
  have H0 := V h0
  have hc := h1.blk.cell
  have hf := h1.blk.free
  unfold pmArr at hc
  have HB := V hb
  have hne : b ≠ w.heap.size := by omega
  clear h0 h1 hb
  go_enter Tryz.func92, Tryz.ntmps92
  go_wp2_with fail
  go_ret
  obtain ⟨k1, k2, k3⟩ := (U H0).field 6 (.int .i64 arg) { m with pc := arg } st (by simp [pmArr]) rfl
  exact DeedPost.boxed _ ⟨_, _, _, _, _, k1⟩ k2 k3

set_option maxRecDepth 100000 in
set_option maxHeartbeats 2000000 in
theorem deed_jumpz (B b tb : Nat) (vl : Value) (m : MS) (st : Int) (w : World) (h : PmE B w b tb vl m st) (arg x0 x1 x2 : Int) :
    Calls Tryz.prog 93 #[.pointer (some ⟨b, 0, none⟩), .int .i64 arg, .agg #[.int .i64 x0, .int .i64 x1, .int .i64 x2]] w (DeedPost B w b tb vl st (if x0 = 0 then { m with pc := arg } else m) 0) := by
  have hb := below_box w (.cells #[.int .i64 x0, .int .i64 x1, .int .i64 x2] 171)
  have hB := h.size
  have hlt := h.lt
  have HE := V (h.below hb)
  obtain ⟨vS, vA, vC, vE, vO, h0⟩ := h
  have h1 := h0.below hb
  have H0 := V h0
  have hc := h1.blk.cell
  have hf := h1.blk.free
  unfold pmArr at hc
  have HB := V hb
  have hne : b ≠ w.heap.size := by omega
  clear h0 h1 hb
  by_cases hz : x0 = 0
  · rw [if_pos hz]
    subst hz
    go_enter Tryz.func93, Tryz.ntmps93
    go_wp2_with fail
    go_ret
    obtain ⟨k1, k2, k3⟩ := (U H0).field 6 (.int .i64 arg) { m with pc := arg } st (by simp [pmArr]) rfl
    exact DeedPost.boxed _ ⟨_, _, _, _, _, k1⟩ k2 k3
  · rw [if_neg hz]
    have hz' : (x0 == 0) = false := by simpa using hz
    go_enter Tryz.func93, Tryz.ntmps93
    go_wp2_with fail
    go_ret
    exact PmPost.deed (U HB) hB ⟨U HE, KeepB.refl _, Below.refl _ _⟩

set_option maxRecDepth 100000 in
set_option maxHeartbeats 2000000 in
theorem deed_halt (B b tb : Nat) (vl : Value) (m : MS) (st : Int) (w : World) (h : PmE B w b tb vl m st) (arg x0 x1 x2 : Int) :
    Calls Tryz.prog 96 #[.pointer (some ⟨b, 0, none⟩), .int .i64 arg, .agg #[.int .i64 x0, .int .i64 x1, .int .i64 x2]] w (DeedPost B w b tb vl st { m with halted := true } 0) := by
  have hb := below_box w (.cells #[.int .i64 x0, .int .i64 x1, .int .i64 x2] 171)
  have hB := h.size
  have hlt := h.lt
  obtain ⟨vS, vA, vC, vE, vO, h0⟩ := h
  have h1 := h0.below hb
  have H0 := V h0
  have hc := h1.blk.cell
  have hf := h1.blk.free
  unfold pmArr at hc
  have HB := V hb
  have hne : b ≠ w.heap.size := by omega
  clear h0 h1 hb
  go_enter Tryz.func96, Tryz.ntmps96
  go_wp2_with fail
  go_ret
  obtain ⟨k1, k2, k3⟩ := (U H0).field 8 (.bool true) { m with halted := true } st (by simp [pmArr]) rfl
  exact DeedPost.boxed _ ⟨_, _, _, _, _, k1⟩ k2 k3

set_option maxRecDepth 100000 in
set_option maxHeartbeats 2000000 in
theorem deed_begin (B b tb : Nat) (vl : Value) (m : MS) (st : Int) (w : World) (h : PmE B w b tb vl m st) (arg x0 x1 x2 : Int) (hs : m.side.length ≤ 1000) :
    Calls Tryz.prog 97 #[.pointer (some ⟨b, 0, none⟩), .int .i64 arg, .agg #[.int .i64 x0, .int .i64 x1, .int .i64 x2]] w (DeedPost B w b tb vl st { m with side := m.side ++ [x0, x1] } 0) := by
  have hb := below_box2 w (.cells #[.int .i64 x0, .int .i64 x1, .int .i64 x2] 171) (.cells #[.int .i64 x0, .int .i64 x1] 2)
  have HP := V (pmAside_any B b tb vl m st _ (h.below hb) (w.heap.size + 1) 2 2 [x0, x1] rfl (numsAt_box2 _ _ _ _ _) (by omega))
  have HB := V hb
  have hB := h.size
  clear h hb
  go_enter Tryz.func97, Tryz.ntmps97
  go_wp2_with fail
  refine (U HP).mono ?_
  rintro e w1 ⟨rfl, h1⟩
  have H1 := V h1
  clear h1 HP
  go_wp2_with fail
  go_ret
  exact PmPost.deed (U HB) hB (U H1)

set_option maxRecDepth 100000 in
set_option maxHeartbeats 2000000 in
theorem deed_lay (B b tb : Nat) (vl : Value) (m : MS) (st : Int) (w : World) (h : PmE B w b tb vl m st) (arg x0 x1 x2 : Int) (hs : m.side.length ≤ 1000) :
    Calls Tryz.prog 117 #[.pointer (some ⟨b, 0, none⟩), .int .i64 arg, .agg #[.int .i64 x0, .int .i64 x1, .int .i64 x2]] w (DeedPost B w b tb vl st { m with side := m.side ++ [x0] } 0) := by
  have hb := below_box2 w (.cells #[.int .i64 x0, .int .i64 x1, .int .i64 x2] 171) (.cells #[.int .i64 x0] 2)
  have HP := V (pmAside_any B b tb vl m st _ (h.below hb) (w.heap.size + 1) 1 1 [x0] rfl (numsAt_box _ _ _ _) (by omega))
  have HB := V hb
  have hB := h.size
  clear h hb
  go_enter Tryz.func117, Tryz.ntmps117
  go_wp2_with fail
  refine (U HP).mono ?_
  rintro e w1 ⟨rfl, h1⟩
  have H1 := V h1
  clear h1 HP
  go_wp2_with fail
  go_ret
  exact PmPost.deed (U HB) hB (U H1)

set_option maxRecDepth 100000 in
set_option maxHeartbeats 2000000 in
theorem deed_look (B b tb : Nat) (vl : Value) (m : MS) (st : Int) (w : World) (h : PmE B w b tb vl m st) (arg x0 x1 x2 : Int) (l : List Int) (y : Int) (he : m.side = l ++ [y]) (hs : m.stack.length ≤ 1000 ∧ m.side.length ≤ 1000) :
    Calls Tryz.prog 99 #[.pointer (some ⟨b, 0, none⟩), .int .i64 arg, .agg #[.int .i64 x0, .int .i64 x1, .int .i64 x2]] w (DeedPost B w b tb vl st { m with stack := m.stack ++ [y] } 0) := by
  have hb := below_box w (.cells #[.int .i64 x0, .int .i64 x1, .int .i64 x2] 171)
  have HT := V (pmTop_any B b tb vl m st _ (h.below hb) l y he hs.2)
  have HP : Hid (∀ w1, Below w.heap.size w w1 → Calls Tryz.prog 158 #[.pointer (some ⟨b, 0, none⟩), .slice (some ⟨w1.heap.size, 0, none⟩) 1 1] (w1.alloc (.cells #[.int .i64 y] 2)) (PmPost B (w1.alloc (.cells #[.int .i64 y] 2)) b tb vl { m with stack := m.stack ++ [y] } st (.tuple #[]))) := fun w1 hw => pmPush_any B b tb vl m st _ (h.below (below_more hw _)) _ 1 1 [y] rfl (NumsAt.new _ _ _) (by omega)
  have HB := V hb
  have hB := h.size
  clear h hb
  go_enter Tryz.func99, Tryz.ntmps99
  go_wp2_with fail
  refine (U HT).mono ?_
  rintro e w1 ⟨rfl, hb1⟩
  have hb2 : Below w.heap.size w w1 := (U HB).trans (hb1.mono (by simp))
  have HB2 := V hb2
  have HP1 := V (U HP w1 hb2)
  clear hb1 hb2 HP HT
  go_wp2_with fail
  refine (U HP1).mono ?_
  rintro e w2 ⟨rfl, h1⟩
  have H1 := V h1
  clear h1 HP1
  go_wp2_with fail
  go_ret
  exact PmPost.deed (below_more (U HB2) _) hB (U H1)

set_option maxRecDepth 100000 in
set_option maxHeartbeats 2000000 in
theorem deed_back (B b tb : Nat) (vl : Value) (m : MS) (st : Int) (w : World) (h : PmE B w b tb vl m st) (arg x0 x1 x2 : Int) (l : List Int) (y : Int) (he : m.side = l ++ [y]) (hs : m.stack.length ≤ 1000 ∧ m.side.length ≤ 1000) :
    Calls Tryz.prog 118 #[.pointer (some ⟨b, 0, none⟩), .int .i64 arg, .agg #[.int .i64 x0, .int .i64 x1, .int .i64 x2]] w (DeedPost B w b tb vl st { m with stack := m.stack ++ [y], side := l } 0) := by
  have hb := below_box w (.cells #[.int .i64 x0, .int .i64 x1, .int .i64 x2] 171)
  have HT := V (pmTop_any B b tb vl m st _ (h.below hb) l y he hs.2)
  have HP : Hid (∀ w1, Below w.heap.size w w1 → Calls Tryz.prog 158 #[.pointer (some ⟨b, 0, none⟩), .slice (some ⟨w1.heap.size, 0, none⟩) 1 1] (w1.alloc (.cells #[.int .i64 y] 2)) (PmPost B (w1.alloc (.cells #[.int .i64 y] 2)) b tb vl { m with stack := m.stack ++ [y] } st (.tuple #[]))) := fun w1 hw => pmPush_any B b tb vl m st _ (h.below (below_more hw _)) _ 1 1 [y] rfl (NumsAt.new _ _ _) (by omega)
  have HD : Hid (∀ w1, PmE B w1 b tb vl { m with stack := m.stack ++ [y] } st → Calls Tryz.prog 160 #[.pointer (some ⟨b, 0, none⟩), .int .i64 1] w1 (PmPost B w1 b tb vl { m with stack := m.stack ++ [y], side := l } st (.tuple #[]))) := fun w1 h1 => pmDrop_any B b tb vl { m with stack := m.stack ++ [y] } st w1 h1 l [y] he (by simp) hs.2
  have HB := V hb
  have hB := h.size
  clear h hb
  go_enter Tryz.func118, Tryz.ntmps118
  go_wp2_with fail
  refine (U HT).mono ?_
  rintro e w1 ⟨rfl, hb1⟩
  have hb2 : Below w.heap.size w w1 := (U HB).trans (hb1.mono (by simp))
  have HB2 := V hb2
  have HP1 := V (U HP w1 hb2)
  clear hb1 hb2 HP HT
  go_wp2_with fail
  refine (U HP1).mono ?_
  rintro e w2 ⟨rfl, h1, h2, h3⟩
  have HD1 := V (U HD w2 h1)
  have H1 := V (And.intro h2 h3)
  clear h1 h2 h3 HP1 HD
  go_wp2_with fail
  refine (U HD1).mono ?_
  rintro e w3 ⟨rfl, h1, h2, h3⟩
  have H2 := V (And.intro h1 (And.intro h2 h3))
  clear h1 h2 h3 HD1
  go_wp2_with fail
  go_ret
  exact PmPost.deed (below_more (U HB2) _) hB ⟨(U H2).1, (U H1).1.trans (U H2).2.1, (U H1).2.trans (U H2).2.2⟩
/-- A function that gives this number for these, and leaves memory as it is. -/
def Gives (F : FuncId) (args : Array Value) (r : Int) : Prop := ∀ W : World, Calls Tryz.prog F args W (fun e w' => e = .returned (.int .i64 r) ∧ w' = W)

set_option maxRecDepth 100000 in
theorem gives_add (a b : Int) : Gives 101 #[.int .i64 a, .int .i64 b] (twoS 9 a b) := by
  intro W
  go_enter Tryz.func101, Tryz.ntmps101
  go_wp2
  go_ret
  exact ⟨rfl, rfl⟩
set_option maxRecDepth 100000 in
theorem gives_sub (a b : Int) : Gives 102 #[.int .i64 a, .int .i64 b] (twoS 10 a b) := by
  intro W
  go_enter Tryz.func102, Tryz.ntmps102
  go_wp2
  go_ret
  exact ⟨rfl, rfl⟩
set_option maxRecDepth 100000 in
theorem gives_mul (a b : Int) : Gives 103 #[.int .i64 a, .int .i64 b] (twoS 11 a b) := by
  intro W
  go_enter Tryz.func103, Tryz.ntmps103
  go_wp2
  go_ret
  exact ⟨rfl, rfl⟩
set_option maxRecDepth 100000 in
theorem gives_and (a b : Int) : Gives 107 #[.int .i64 a, .int .i64 b] (twoS 14 a b) := by
  intro W
  go_enter Tryz.func107, Tryz.ntmps107
  go_wp2
  go_ret
  exact ⟨rfl, rfl⟩
set_option maxRecDepth 100000 in
theorem gives_or (a b : Int) : Gives 108 #[.int .i64 a, .int .i64 b] (twoS 15 a b) := by
  intro W
  go_enter Tryz.func108, Tryz.ntmps108
  go_wp2
  go_ret
  exact ⟨rfl, rfl⟩
set_option maxRecDepth 100000 in
theorem gives_xor (a b : Int) : Gives 109 #[.int .i64 a, .int .i64 b] (twoS 16 a b) := by
  intro W
  go_enter Tryz.func109, Tryz.ntmps109
  go_wp2
  go_ret
  exact ⟨rfl, rfl⟩
set_option maxRecDepth 100000 in
theorem gives_negate (a : Int) : Gives 112 #[.int .i64 a] (wrap64 (-a)) := by
  intro W
  go_enter Tryz.func112, Tryz.ntmps112
  go_wp2
  go_ret
  exact ⟨rfl, rfl⟩
set_option maxRecDepth 100000 in
theorem flag_any (c : Bool) : Gives 114 #[.bool c] (truthS c) := by
  intro W
  cases c
  all_goals
    go_enter Tryz.func114, Tryz.ntmps114
    go_wp2
    go_ret
    exact ⟨rfl, rfl⟩
set_option maxRecDepth 100000 in
theorem gives_equal (a b : Int) : Gives 113 #[.int .i64 a, .int .i64 b] (twoS 19 a b) := by
  intro W
  go_enter Tryz.func113, Tryz.ntmps113
  go_wp2_with (go_at_call 114; refine (flag_any _ _).mono ?_; rintro e w1 ⟨rfl, hw⟩; obtain rfl := hw.symm; clear hw)
  all_goals (go_ret; refine ⟨ret_int ?_, rfl⟩; simp_all [twoS, truthS])
set_option maxRecDepth 100000 in
theorem gives_less (a b : Int) : Gives 115 #[.int .i64 a, .int .i64 b] (twoS 20 a b) := by
  intro W
  go_enter Tryz.func115, Tryz.ntmps115
  go_wp2_with (go_at_call 114; refine (flag_any _ _).mono ?_; rintro e w1 ⟨rfl, hw⟩; obtain rfl := hw.symm; clear hw)
  all_goals (go_ret; refine ⟨ret_int ?_, rfl⟩; simp_all [twoS, truthS])
theorem enter_func {F : FuncId} {fn : Func} (hfn : Tryz.prog.funcs[F]? = some fn) (hfa : (fn.name == "runtime.NumGoroutine") = false) (hfb : fn.body.isNone = false) (args : Array Value) (W : World) : (callFunc F args).run Tryz.prog W = .ok (.enter F args) W := by
  have h1 : fn.name ≠ "runtime.NumGoroutine" := by simpa using hfa
  have h2 : fn.body ≠ none := by intro e; rw [e] at hfb; cases hfb
  simp [callFunc, hfn, h1, h2]

set_option maxRecDepth 100000 in
set_option maxHeartbeats 4000000 in
theorem deed_two (B b tb : Nat) (vl : Value) (m : MS) (st : Int) (w : World) (h : PmE B w b tb vl m st) (arg x0 x1 x2 : Int) (hs : m.stack.length ≤ 1000) (fb : Nat) (F : FuncId) (hfb : Blk w fb #[.func (.func F) #[] #[]] 166) {fn : Func} (hfn : Tryz.prog.funcs[F]? = some fn) (hfa : (fn.name == "runtime.NumGoroutine") = false) (hfc : fn.body.isNone = false) (r : Int) (hr : Gives F #[.int .i64 x0, .int .i64 x1] r) :
    Calls Tryz.prog 162 #[.pointer (some ⟨b, 0, none⟩), .int .i64 arg, .agg #[.int .i64 x0, .int .i64 x1, .int .i64 x2], .pointer (some ⟨fb, 0, none⟩)] w (DeedPost B w b tb vl st { m with stack := m.stack ++ [r] } 0) := by
  have HCF : Hid (∀ (args : Array Value) (W : World), (callFunc F args).run Tryz.prog W = .ok (.enter F args) W) := enter_func hfn hfa hfc
  have hb := below_box2 w (.cells #[.int .i64 x0, .int .i64 x1, .int .i64 x2] 171) (.cells #[.int .i64 r] 2)
  have HP := V (pmPush_any B b tb vl m st _ (h.below hb) (w.heap.size + 1) 1 1 [r] rfl (numsAt_box _ _ _ _) (by omega))
  have HB := V hb
  have hB := h.size
  have hcf := hfb.cell
  have hlf := hfb.lt
  have HR := V hr
  clear h hb hfb hr hfn hfa hfc
  go_enter Tryz.func162, Tryz.ntmps162
  go_wp2_with fail
  rw [U HCF]
  refine (U HR _).mono ?_
  rintro e w0 ⟨rfl, rfl⟩
  go_wp2_with fail
  refine (U HP).mono ?_
  rintro e w1 ⟨rfl, h1⟩
  have H1 := V h1
  clear h1 HP
  go_wp2_with fail
  go_ret
  exact PmPost.deed (U HB) hB (U H1)

set_option maxRecDepth 100000 in
set_option maxHeartbeats 4000000 in
theorem deed_one (B b tb : Nat) (vl : Value) (m : MS) (st : Int) (w : World) (h : PmE B w b tb vl m st) (arg x0 x1 x2 : Int) (hs : m.stack.length ≤ 1000) (fb : Nat) (F : FuncId) (hfb : Blk w fb #[.func (.func F) #[] #[]] 168) {fn : Func} (hfn : Tryz.prog.funcs[F]? = some fn) (hfa : (fn.name == "runtime.NumGoroutine") = false) (hfc : fn.body.isNone = false) (r : Int) (hr : Gives F #[.int .i64 x0] r) :
    Calls Tryz.prog 165 #[.pointer (some ⟨b, 0, none⟩), .int .i64 arg, .agg #[.int .i64 x0, .int .i64 x1, .int .i64 x2], .pointer (some ⟨fb, 0, none⟩)] w (DeedPost B w b tb vl st { m with stack := m.stack ++ [r] } 0) := by
  have HCF : Hid (∀ (args : Array Value) (W : World), (callFunc F args).run Tryz.prog W = .ok (.enter F args) W) := enter_func hfn hfa hfc
  have hb := below_box2 w (.cells #[.int .i64 x0, .int .i64 x1, .int .i64 x2] 171) (.cells #[.int .i64 r] 2)
  have HP := V (pmPush_any B b tb vl m st _ (h.below hb) (w.heap.size + 1) 1 1 [r] rfl (numsAt_box _ _ _ _) (by omega))
  have HB := V hb
  have hB := h.size
  have hcf := hfb.cell
  have hlf := hfb.lt
  have HR := V hr
  clear h hb hfb hr hfn hfa hfc
  go_enter Tryz.func165, Tryz.ntmps165
  go_wp2_with fail
  rw [U HCF]
  refine (U HR _).mono ?_
  rintro e w0 ⟨rfl, rfl⟩
  go_wp2_with fail
  refine (U HP).mono ?_
  rintro e w1 ⟨rfl, h1⟩
  have H1 := V h1
  clear h1 HP
  go_wp2_with fail
  go_ret
  exact PmPost.deed (U HB) hB (U H1)
theorem not_any (a : Int) (ha : -9223372036854775808 ≤ a ∧ a ≤ 9223372036854775807) : bits .xor .i64 (-1) a = -1 - a := by
  show IntKind.i64.wrap ((BitVec.ofInt 64 (-1) ^^^ BitVec.ofInt 64 a).toNat : Int) = _
  have h1 : BitVec.ofInt 64 (-1) = BitVec.allOnes 64 := by decide
  rw [h1, BitVec.allOnes_xor, BitVec.toNat_not, BitVec.toNat_ofInt]
  rw [IntKind.wrap_i64]
  omega
set_option maxRecDepth 100000 in
theorem gives_invert (a : Int) (ha : -9223372036854775808 ≤ a ∧ a ≤ 9223372036854775807) : Gives 111 #[.int .i64 a] (-1 - a) := by
  intro W
  go_enter Tryz.func111, Tryz.ntmps111
  go_wp2
  go_ret
  refine ⟨ret_int ?_, rfl⟩
  exact not_any a ha

def upS (a b : Int) : Bool := decide (a.tmod b < 0 ∧ 0 < b ∨ 0 < a.tmod b ∧ b < 0)
set_option maxRecDepth 100000 in
set_option maxHeartbeats 1000000 in
theorem roundsUp_any (a b : Int) (h0 : b ≠ 0) (W : World) : Calls Tryz.prog 164 #[.int .i64 a, .int .i64 b] W (fun e w' => e = .returned (.bool (upS a b)) ∧ w' = W) := by
  have hu : Hid (upS a b = decide (a.tmod b < 0 ∧ 0 < b ∨ 0 < a.tmod b ∧ b < 0)) := rfl
  have hw : (a.tmod b < 0 ∧ b < 0) ∨ (a.tmod b < 0 ∧ 0 < b) ∨ (0 < a.tmod b ∧ b < 0) ∨ (0 < a.tmod b ∧ 0 < b) ∨ a.tmod b = 0 := by omega
  have hb0 : (b == 0) = false := by simpa using h0
  generalize upS a b = u at *
  rcases hw with ⟨f1, f2⟩ | ⟨f1, f2⟩ | ⟨f1, f2⟩ | ⟨f1, f2⟩ | f1
  all_goals
    go_enter Tryz.func164, Tryz.ntmps164
    go_wp2
    go_ret
    refine ⟨congrArg (fun c => Ending.returned (.bool c)) ?_, rfl⟩
    rw [U hu, Bool.eq_iff_iff]
    simp
    first | done | omega

theorem quot_eq (a b : Int) (h0 : b ≠ 0) (ha : -9223372036854775808 ≤ a ∧ a ≤ 9223372036854775807) (hb : -9223372036854775808 ≤ b ∧ b ≤ 9223372036854775807) :
    (upS a b = true → wrap64 (a.tdiv b) = a.tdiv b ∧ wrap64 (a.tdiv b - 1) = divS a b ∧ wrap64 (a.tmod b + b) = modS a b) ∧ (upS a b = false → wrap64 (a.tdiv b) = divS a b ∧ a.tmod b = modS a b) := by
  by_cases h1 : b = -1
  · subst h1
    have e1 : a.tmod (-1) = 0 := by rw [Int.tmod_neg, Int.tmod_one]
    have e2 : a.tdiv (-1) = -a := by rw [Int.tdiv_neg, Int.tdiv_one]
    have e3 : upS a (-1) = false := by unfold upS; rw [e1]; simp
    rw [e3]
    refine ⟨fun h => by simp at h, fun _ => ⟨?_, ?_⟩⟩
    · unfold divS; rw [if_pos rfl, e2]
    · unfold modS; rw [if_pos rfl, e1]
  · obtain ⟨e1, e2, e3, e4, e5, e6⟩ := div_facts a b h0 h1 ha hb
    by_cases hf : a.tmod b < 0 ∧ 0 < b ∨ 0 < a.tmod b ∧ b < 0
    · have hu : upS a b = true := by unfold upS; simpa using hf
      have hdv : divS a b = a.tdiv b - 1 := by unfold divS; rw [if_neg h1, if_pos hf]
      have hmd : modS a b = a.tmod b + b := by unfold modS; rw [if_neg h1, if_pos hf]
      obtain ⟨e7, e8, e9⟩ := e6 hf
      rw [hu, hdv, hmd]
      refine ⟨fun _ => ⟨e1, ?_, ?_⟩, fun h => by simp at h⟩
      · unfold wrap64; omega
      · unfold wrap64; omega
    · have hu : upS a b = false := by unfold upS; simpa using hf
      have hdv : divS a b = a.tdiv b := by unfold divS; rw [if_neg h1, if_neg hf]
      have hmd : modS a b = a.tmod b := by unfold modS; rw [if_neg h1, if_neg hf]
      rw [hu, hdv, hmd]
      exact ⟨fun h => by simp at h, fun _ => ⟨e1, rfl⟩⟩

set_option maxRecDepth 100000 in
set_option maxHeartbeats 1000000 in
theorem gives_quot (a b : Int) (h0 : b ≠ 0) (ha : -9223372036854775808 ≤ a ∧ a ≤ 9223372036854775807) (hb : -9223372036854775808 ≤ b ∧ b ≤ 9223372036854775807) : Gives 105 #[.int .i64 a, .int .i64 b] (divS a b) := by
  intro W
  have HQ := V (quot_eq a b h0 ha hb)
  have HR := V (roundsUp_any a b h0 W)
  have hb0 : (b == 0) = false := by simpa using h0
  clear ha hb
  cases hu : upS a b
  · rw [hu] at HR
    have e1 := ((U HQ).2 hu).1
    have HE := V e1
    clear HQ hu e1
    go_enter Tryz.func105, Tryz.ntmps105
    go_wp2_with fail
    refine (U HR).mono ?_
    rintro e w0 ⟨rfl, rfl⟩
    go_wp2_with fail
    go_ret
    exact ⟨ret_int (U HE), rfl⟩
  · rw [hu] at HR
    obtain ⟨e0, e1, _⟩ := (U HQ).1 hu
    have HE := V e1
    clear HQ hu e1
    go_enter Tryz.func105, Tryz.ntmps105
    go_wp2_with fail
    refine (U HR).mono ?_
    rintro e w0 ⟨rfl, rfl⟩
    go_wp2_with fail
    go_ret
    exact ⟨ret_int (U HE), rfl⟩

set_option maxRecDepth 100000 in
set_option maxHeartbeats 1000000 in
theorem gives_rest (a b : Int) (h0 : b ≠ 0) (ha : -9223372036854775808 ≤ a ∧ a ≤ 9223372036854775807) (hb : -9223372036854775808 ≤ b ∧ b ≤ 9223372036854775807) : Gives 106 #[.int .i64 a, .int .i64 b] (modS a b) := by
  intro W
  have HQ := V (quot_eq a b h0 ha hb)
  have HR := V (roundsUp_any a b h0 W)
  have hb0 : (b == 0) = false := by simpa using h0
  clear ha hb
  cases hu : upS a b
  · rw [hu] at HR
    have e1 := ((U HQ).2 hu).2
    have HE := V e1
    clear HQ hu e1
    go_enter Tryz.func106, Tryz.ntmps106
    go_wp2_with fail
    refine (U HR).mono ?_
    rintro e w0 ⟨rfl, rfl⟩
    go_wp2_with fail
    go_ret
    exact ⟨ret_int (U HE), rfl⟩
  · rw [hu] at HR
    obtain ⟨_, _, e1⟩ := (U HQ).1 hu
    have HE := V e1
    clear HQ hu e1
    go_enter Tryz.func106, Tryz.ntmps106
    go_wp2_with fail
    refine (U HR).mono ?_
    rintro e w0 ⟨rfl, rfl⟩
    go_wp2_with fail
    go_ret
    exact ⟨ret_int (U HE), rfl⟩
theorem DeedPost.no {B : Nat} {w w' : World} {b tb : Nat} {vl : Value} {st : Int} {m : MS} {er : Int} (hb : Below w.heap.size w w') (h : PmE B w b tb vl m st) : DeedPost B w b tb vl st m er (.returned (.int .i64 er)) w' :=
  ⟨rfl, h.below hb, KeepB.ofBelow hb, hb.mono h.size⟩

set_option maxRecDepth 100000 in
set_option maxHeartbeats 4000000 in
theorem deed_call_no (B b tb : Nat) (vl : Value) (m : MS) (st : Int) (w : World) (h : PmE B w b tb vl m st) (arg x0 x1 x2 : Int) (hs : m.calls.length ≤ 1000) (hq : m.lc ≤ m.calls.length) :
    Calls Tryz.prog 94 #[.pointer (some ⟨b, 0, none⟩), .int .i64 arg, .agg #[.int .i64 x0, .int .i64 x1, .int .i64 x2]] w (DeedPost B w b tb vl st m 11) := by
  have hb := below_box w (.cells #[.int .i64 x0, .int .i64 x1, .int .i64 x2] 171)
  have HH := V h
  have hlt := h.lt
  obtain ⟨vS, vA, vC, vE, vO, h1⟩ := h.below hb
  obtain ⟨aC, kC, hvC⟩ := own_shape h1.oC
  subst hvC
  have hc := h1.blk.cell
  unfold pmArr at hc
  have HB := V hb
  have hsI : (m.calls.length : Int) ≤ 1000 := by omega
  clear h h1 hb
  go_enter Tryz.func94, Tryz.ntmps94
  go_wp2_with fail
  go_region
  go_wp2_with fail
  go_ret
  exact DeedPost.no (below_drew' (U HB)) (U HH)

set_option maxRecDepth 100000 in
set_option maxHeartbeats 4000000 in
theorem deed_call (B b tb : Nat) (vl : Value) (m : MS) (st : Int) (w : World) (h : PmE B w b tb vl m st) (arg x0 x1 x2 : Int) (hs : m.calls.length ≤ 1000) (hq : (m.calls.length : Int) < m.lc) :
    Calls Tryz.prog 94 #[.pointer (some ⟨b, 0, none⟩), .int .i64 arg, .agg #[.int .i64 x0, .int .i64 x1, .int .i64 x2]] w (DeedPost B w b tb vl st { m with calls := m.calls ++ [m.pc], pc := arg } 0) := by
  obtain ⟨i0, hi, hz0, hz1, hz2⟩ := info_parts Tryz.infoInt
  have hb := below_box w (.cells #[.int .i64 x0, .int .i64 x1, .int .i64 x2] 171)
  have hB := h.size
  have hlt := h.lt
  obtain ⟨vS, vA, vC, vE, vO, h1⟩ := h.below hb
  obtain ⟨aC, kC, hvC⟩ := own_shape h1.oC
  subst hvC
  have hc := h1.blk.cell
  unfold pmArr at hc
  have H1 := V h1
  have HB := V hb
  have hsI : (m.calls.length : Int) ≤ 1000 := by omega
  clear h h1 hb
  go_enter Tryz.func94, Tryz.ntmps94
  go_wp2_with fail
  go_region
  go_wp2_with fail
  -- the world ahead of the append
  have h2 := (U H1).below (below_drew' (Below.refl _ _))
  have hb2 := below_drew' (U HB)
  generalize (w.alloc (.cells #[.int .i64 x0, .int .i64 x1, .int .i64 x2] 171)).drew = W0 at h2 hb2 ⊢
  have hc2 := h2.blk.cell
  have hf2 := h2.blk.free
  unfold pmArr at hc2
  have hne2 := h2.off 2 _ rfl
  have HBLK := V h2.blk
  unfold pmArr at HBLK
  have hbl := h2.blk.lt
  have hbl1 : b < W0.heap.size + 1 := by omega
  have HW := V (ownsRow_alloc h2.oC (.cells #[.int .i64 m.pc] 3))
  have HS : Hid (B ≤ (W0.alloc (.cells #[.int .i64 m.pc] 3)).drew.heap.size) := by
    have := h2.size
    show B ≤ (W0.alloc _).heap.size
    simp; omega
  have H2 := V h2
  have HB2 := V hb2
  clear h2 hb2 hc H1 HB
  go_cut [] from 7 to 35 (fun wc => PmE B wc b tb vl { m with calls := m.calls ++ [m.pc] } st ∧ KeepB W0 wc ∧ Below B W0 wc)
  case first =>
    go_region_law (refine step_append_lies _ rfl (.tmp 22) (.tmp 27) 115 rfl B 3 i0 _ 1 8 Tryz.underlying115 hi hz0 hz1 hz2 rfl (by decide) (.slice aC m.calls.length kC) m.calls.length (intCells m.calls) (by simp [Act.eval]) (U HW) ⟨W0.heap.size, 0, none⟩ 1 1 [.int .i64 m.pc] (by simp [Act.eval]) rfl (World.news_of_block (Blk.new W0 _ _)) (oneCells1 _) (by omega) (by unfold maxLen; omega) (by omega) (U HS) _ rfl ?_; intro g cap w3 hown hgrow hat hlt1; have hb1 := ((U HBLK).alloc _).drew.grown hgrow hne2; have hc1 := hb1.cell; have hf1 := hb1.free; have HO := V hown; have HG := V hgrow; have HA := V hat; clear hown hgrow hat hb1)
    all_goals
      go_wp2_with fail
      go_meet
      obtain ⟨k1, k2, k3⟩ := (U H2).grow 2 11 _ (.slice (some ⟨g, 0, none⟩) (m.calls.length + 1) cap) ⟨3, 1, m.calls.length + 1, intCells (m.calls ++ [m.pc])⟩ { m with calls := m.calls ++ [m.pc] } vS vA (.slice (some ⟨g, 0, none⟩) (m.calls.length + 1) cap) vE vO rfl (grownBy_alloc (U HG)) (by rw [intCells_app]; exact U HO) (lies_at (U HA) (by simp)) (by simp [pmArr]) rfl (by simp [pmRows])
      exact ⟨⟨_, _, _, _, _, k1⟩, k2, k3⟩
  case rest =>
    obtain ⟨⟨uS, uA, uC, uE, uO, h3⟩, hk3, hb3⟩ := hcut
    have hc3 := h3.blk.cell
    have hf3 := h3.blk.free
    unfold pmArr at hc3
    have H3 := V (And.intro h3 (And.intro hk3 hb3))
    clear h3 hk3 hb3 hc2 hf2
    go_wp2_with fail
    go_ret
    obtain ⟨h3, hk3, hb3⟩ := U H3
    obtain ⟨k1, k2, k3⟩ := h3.field 6 (.int .i64 arg) { m with calls := m.calls ++ [m.pc], pc := arg } st (by simp [pmArr]) rfl
    exact PmPost.deed (U HB2) hB ⟨⟨_, _, _, _, _, k1⟩, hk3.trans k2, hb3.trans k3⟩

set_option maxRecDepth 100000 in
set_option maxHeartbeats 4000000 in
theorem deed_ret_no (B b tb : Nat) (vl : Value) (m : MS) (st : Int) (w : World) (h : PmE B w b tb vl m st) (arg x0 x1 x2 : Int) (hq : m.calls = []) :
    Calls Tryz.prog 95 #[.pointer (some ⟨b, 0, none⟩), .int .i64 arg, .agg #[.int .i64 x0, .int .i64 x1, .int .i64 x2]] w (DeedPost B w b tb vl st m 11) := by
  have hb := below_box w (.cells #[.int .i64 x0, .int .i64 x1, .int .i64 x2] 171)
  have HH := V h
  have hlt := h.lt
  obtain ⟨vS, vA, vC, vE, vO, h1⟩ := h.below hb
  obtain ⟨aC, kC, hvC⟩ := own_shape h1.oC
  rw [hq, List.length_nil] at hvC
  subst hvC
  have hc := h1.blk.cell
  unfold pmArr at hc
  have HB := V hb
  clear h h1 hb
  go_enter Tryz.func95, Tryz.ntmps95
  go_wp2_with fail
  go_ret
  exact DeedPost.no (U HB) (U HH)

set_option maxRecDepth 100000 in
set_option maxHeartbeats 4000000 in
theorem deed_ret (B b tb : Nat) (vl : Value) (m : MS) (st : Int) (w : World) (h : PmE B w b tb vl m st) (arg x0 x1 x2 : Int) (l : List Int) (y : Int) (he : m.calls = l ++ [y]) (hs : m.calls.length ≤ 1000) :
    Calls Tryz.prog 95 #[.pointer (some ⟨b, 0, none⟩), .int .i64 arg, .agg #[.int .i64 x0, .int .i64 x1, .int .i64 x2]] w (DeedPost B w b tb vl st { m with calls := l, pc := y } 0) := by
  have hlt := h.lt
  obtain ⟨vS, vA, vC, vE, vO, h0⟩ := h
  have hn : m.calls.length = l.length + 1 := by rw [he]; simp
  obtain ⟨g, k, hv, hg, hgl⟩ := h0.oC.form (by omega)
  subst hv
  have ho := h0.oC
  rw [hn] at ho
  have hx := own_cell ho l.length (by omega)
  rw [he, intCells_last] at hx
  have hsI : (l.length : Int) ≤ 1000 := by omega
  have hk : (l.length : Int) + 1 ≤ k := by have := (own_cap ho).1; omega
  have hb1 := h0.blk
  unfold pmArr at hb1
  rw [hn] at hb1
  have hc := hb1.cell
  have hf := hb1.free
  obtain ⟨k1, k2, k3⟩ := h0.field 6 (.int .i64 y) { m with pc := y } st (by simp [pmArr]) rfl
  have hown := own_cut k1.oC l.length (by show l.length ≤ m.calls.length; omega)
  have hcal : intCells ({ m with pc := y } : MS).calls = intCells (l ++ [y]) := by rw [he]
  rw [hcal, intCells_take] at hown
  obtain ⟨n1, n2, n3⟩ := k1.grow 2 11 _ (.slice (some ⟨g, 0, none⟩) l.length k) ⟨3, 1, l.length, intCells l⟩ { m with calls := l, pc := y } vS vA (.slice (some ⟨g, 0, none⟩) l.length k) vE vO rfl (World.grownBy.refl _ _) hown (Or.inl rfl) (by simp [pmArr]) rfl (by simp [pmRows])
  have HK := V (And.intro (⟨_, _, _, _, _, n1⟩ : PmE B _ b tb vl { m with calls := l, pc := y } st) (And.intro (k2.trans n2) (k3.trans n3)))
  have hgb : g ≠ b := fun e => h0.off 2 _ rfl (by simp [Value.ownBlock, e])
  have hbg : b ≠ g := fun e => hgb e.symm
  have hne : b ≠ w.heap.size := by omega
  clear h0 k1 k2 k3 n1 n2 n3 hown hb1 ho hcal
  go_enter Tryz.func95, Tryz.ntmps95
  go_wp2_with fail
  go_ret
  exact DeedPost.boxed _ (U HK).1 (U HK).2.1 (U HK).2.2

set_option maxRecDepth 100000 in
set_option maxHeartbeats 4000000 in
theorem deed_store_no (B b tb : Nat) (vl : Value) (m : MS) (st : Int) (w : World) (h : PmE B w b tb vl m st) (arg x0 x1 x2 : Int) (hs : m.cells.length ≤ 1000) (hq : x1 < 0 ∨ (m.cells.length : Int) ≤ x1) :
    Calls Tryz.prog 119 #[.pointer (some ⟨b, 0, none⟩), .int .i64 arg, .agg #[.int .i64 x0, .int .i64 x1, .int .i64 x2]] w (DeedPost B w b tb vl st m 12) := by
  have hb := below_drew' (below_box w (.cells #[.int .i64 x0, .int .i64 x1, .int .i64 x2] 171))
  have HC := V (pmHas_any B b tb vl m st _ (h.below hb) x1 hs)
  have e : (decide (0 ≤ x1) && decide (x1 < (m.cells.length : Int))) = false := by
    rcases hq with hq | hq
    · simp; omega
    · simp; omega
  rw [e] at HC
  have HH := V h
  have HB := V hb
  clear h hb e
  go_enter Tryz.func119, Tryz.ntmps119
  go_wp2_with fail
  go_region
  go_wp2_with fail
  refine (U HC).mono ?_
  rintro e w1 ⟨rfl, rfl⟩
  go_wp2_with fail
  go_ret
  exact DeedPost.no (U HB) (U HH)

set_option maxRecDepth 100000 in
set_option maxHeartbeats 4000000 in
theorem deed_fetch_no (B b tb : Nat) (vl : Value) (m : MS) (st : Int) (w : World) (h : PmE B w b tb vl m st) (arg x0 x1 x2 : Int) (hs : m.cells.length ≤ 1000) (hq : x0 < 0 ∨ (m.cells.length : Int) ≤ x0) :
    Calls Tryz.prog 120 #[.pointer (some ⟨b, 0, none⟩), .int .i64 arg, .agg #[.int .i64 x0, .int .i64 x1, .int .i64 x2]] w (DeedPost B w b tb vl st m 12) := by
  have hb := below_box w (.cells #[.int .i64 x0, .int .i64 x1, .int .i64 x2] 171)
  have HC := V (pmHas_any B b tb vl m st _ (h.below hb) x0 hs)
  have e : (decide (0 ≤ x0) && decide (x0 < (m.cells.length : Int))) = false := by
    rcases hq with hq | hq
    · simp; omega
    · simp; omega
  rw [e] at HC
  have HH := V h
  have HB := V hb
  clear h hb e
  go_enter Tryz.func120, Tryz.ntmps120
  go_wp2_with fail
  refine (U HC).mono ?_
  rintro e w1 ⟨rfl, rfl⟩
  go_wp2_with fail
  go_ret
  exact DeedPost.no (U HB) (U HH)

set_option maxRecDepth 100000 in
set_option maxHeartbeats 4000000 in
theorem deed_fetch (B b tb : Nat) (vl : Value) (m : MS) (st : Int) (w : World) (h : PmE B w b tb vl m st) (arg : Int) (k : Nat) (x1 x2 y : Int) (hs : m.cells.length ≤ 1000 ∧ m.stack.length ≤ 1000) (hq : m.cells[k]? = some y) :
    Calls Tryz.prog 120 #[.pointer (some ⟨b, 0, none⟩), .int .i64 arg, .agg #[.int .i64 k, .int .i64 x1, .int .i64 x2]] w (DeedPost B w b tb vl st { m with stack := m.stack ++ [y] } 0) := by
  have hkl := (List.getElem?_eq_some_iff.1 hq).1
  have hb := below_box w (.cells #[.int .i64 k, .int .i64 x1, .int .i64 x2] 171)
  have HC := V (pmHas_any B b tb vl m st _ (h.below hb) k hs.1)
  have e : (decide (0 ≤ (k : Int)) && decide ((k : Int) < (m.cells.length : Int))) = true := by simp; omega
  rw [e] at HC
  have HP : Hid (Calls Tryz.prog 158 #[.pointer (some ⟨b, 0, none⟩), .slice (some ⟨w.heap.size + 1, 0, none⟩) 1 1] ((w.alloc (.cells #[.int .i64 k, .int .i64 x1, .int .i64 x2] 171)).alloc (.cells #[.int .i64 y] 2)) (PmPost B ((w.alloc (.cells #[.int .i64 k, .int .i64 x1, .int .i64 x2] 171)).alloc (.cells #[.int .i64 y] 2)) b tb vl { m with stack := m.stack ++ [y] } st (.tuple #[]))) := pmPush_any B b tb vl m st _ (h.below (below_box2 _ _ _)) _ 1 1 [y] rfl (numsAt_box _ _ _ _) (by omega)
  have hB := h.size
  have HB := V (below_box2 w (.cells #[.int .i64 k, .int .i64 x1, .int .i64 x2] 171) (.cells #[.int .i64 y] 2))
  obtain ⟨vS, vA, vC, vE, vO, h0⟩ := h
  obtain ⟨g, c, hv, hg, hgl⟩ := h0.oE.form (by omega)
  subst hv
  have hc := h0.blk.cell
  unfold pmArr at hc
  have hbl := h0.blk.lt
  have hx := own_cell h0.oE k (by omega)
  have hx2 : (intCells m.cells)[k]? = some (.int .i64 y) := by simp [intCells, hq]
  rw [hx2] at hx
  have hkI : (k : Int) < m.cells.length := by omega
  have hsI : (m.cells.length : Int) ≤ 1000 := by omega
  clear h0 hb e hx2 hq
  go_enter Tryz.func120, Tryz.ntmps120
  go_wp2_with fail
  refine (U HC).mono ?_
  rintro e w1 ⟨rfl, rfl⟩
  go_wp2_with fail
  refine (U HP).mono ?_
  rintro e w2 ⟨rfl, h1⟩
  have H1 := V h1
  clear h1 HP HC
  go_wp2_with fail
  go_ret
  exact PmPost.deed (U HB) hB (U H1)
set_option maxRecDepth 100000 in
set_option maxHeartbeats 4000000 in
theorem deed_div_no (B b tb : Nat) (vl : Value) (m : MS) (st : Int) (w : World) (h : PmE B w b tb vl m st) (arg x0 x2 : Int) (gb : Nat) :
    Calls Tryz.prog 163 #[.pointer (some ⟨b, 0, none⟩), .int .i64 arg, .agg #[.int .i64 x0, .int .i64 0, .int .i64 x2], .pointer (some ⟨gb, 0, none⟩)] w (DeedPost B w b tb vl st m 13) := by
  have hb := below_box w (.cells #[.int .i64 x0, .int .i64 0, .int .i64 x2] 171)
  have HB := V hb
  have HH := V h
  clear h hb
  go_enter Tryz.func163, Tryz.ntmps163
  go_wp2_with fail
  go_ret
  exact DeedPost.no (U HB) (U HH)

set_option maxRecDepth 100000 in
set_option maxHeartbeats 4000000 in
theorem deed_div (B b tb : Nat) (vl : Value) (m : MS) (st : Int) (w : World) (h : PmE B w b tb vl m st) (arg x0 x1 x2 : Int) (hs : m.stack.length ≤ 1000) (gb fb : Nat) (F : FuncId) (hgb : Blk w gb #[.func (.func 162) #[] #[.pointer (some ⟨fb, 0, none⟩)]] 108) (hfb : Blk w fb #[.func (.func F) #[] #[]] 166) {fn : Func} (hfn : Tryz.prog.funcs[F]? = some fn) (hfa : (fn.name == "runtime.NumGoroutine") = false) (hfc : fn.body.isNone = false) (r : Int) (h0 : x1 ≠ 0) (hr : Gives F #[.int .i64 x0, .int .i64 x1] r) :
    Calls Tryz.prog 163 #[.pointer (some ⟨b, 0, none⟩), .int .i64 arg, .agg #[.int .i64 x0, .int .i64 x1, .int .i64 x2], .pointer (some ⟨gb, 0, none⟩)] w (DeedPost B w b tb vl st { m with stack := m.stack ++ [r] } 0) := by
  have hb := below_box w (.cells #[.int .i64 x0, .int .i64 x1, .int .i64 x2] 171)
  have hB := h.size
  have hx0 : (x1 == 0) = false := by simpa using h0
  have HP := V (deed_two B b tb vl m st _ (h.below hb) arg x0 x1 x2 hs fb F (hfb.below hb hfb.lt) hfn hfa hfc r hr)
  have HB := V hb
  have hcg := hgb.cell
  have hlg := hgb.lt
  clear h hb hfb hr hfn hfa hfc hgb
  go_enter Tryz.func163, Tryz.ntmps163
  go_wp2_with fail
  refine (U HP).mono ?_
  rintro e w1 ⟨rfl, h1⟩
  have H1 := V h1
  clear h1 HP
  go_wp2_with fail
  go_ret
  exact PmPost.deed (U HB) hB (U H1)
end Go.Proofs.YtmeiikjpaepogaaGreatDoor
