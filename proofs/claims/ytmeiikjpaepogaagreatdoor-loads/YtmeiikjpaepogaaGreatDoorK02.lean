/- Only blocks of a given kind have turned. -/
import Derived.Test.YtmeiikjpaepogaaGreatDoorK01
import Derived.Test.YtmeiikjpaepogaaGreatDoorRows
namespace Go.Proofs.YtmeiikjpaepogaaGreatDoor
open Go Go.RowKit

structure Still (w w' : World) (F : Nat → Prop) : Prop where
  os : w'.os = w.os
  tape : w'.tape = w.tape
  output : w'.output = w.output
  size : w.heap.size ≤ w'.heap.size
  block : ∀ k, k < w.heap.size → ¬ F k → w'.heap[k]? = w.heap[k]?

theorem Still.refl (w : World) (F : Nat → Prop) : Still w w F := ⟨rfl, rfl, rfl, Nat.le_refl _, fun _ _ _ => rfl⟩
theorem Still.trans {w w1 w2 : World} {F G : Nat → Prop} (h : Still w w1 F) (k : Still w1 w2 G) (hg : ∀ i, i < w.heap.size → G i → F i) : Still w w2 F :=
  ⟨k.os.trans h.os, k.tape.trans h.tape, k.output.trans h.output, Nat.le_trans h.size k.size, fun i hi hf => by
    rw [k.block i (by have := h.size; omega) (fun e => hf (hg i hi e)), h.block i hi hf]⟩
theorem Still.mono {w w' : World} {F G : Nat → Prop} (h : Still w w' F) (hg : ∀ i, i < w.heap.size → F i → G i) : Still w w' G :=
  ⟨h.os, h.tape, h.output, h.size, fun i hi hf => h.block i hi (fun e => hf (hg i hi e))⟩
theorem Still.alloc {w w' : World} {F : Nat → Prop} (h : Still w w' F) (o : Obj) : Still w (w'.alloc o) F :=
  ⟨h.os, h.tape, h.output, by have := h.size; simp; omega, fun k hk hf => by rw [Below.heap_alloc _ _ _ (by have := h.size; omega)]; exact h.block k hk hf⟩
theorem Still.drew {w w' : World} {F : Nat → Prop} (h : Still w w' F) : Still w w'.drew F := ⟨h.os, h.tape, h.output, h.size, h.block⟩
theorem Still.drewN {w w' : World} {F : Nat → Prop} (h : Still w w' F) (n : Nat) : Still w (w'.drewN n) F := ⟨h.os, h.tape, h.output, h.size, h.block⟩
theorem Still.set {w w' : World} {F : Nat → Prop} (h : Still w w' F) {b : Nat} (hb : F b ∨ w.heap.size ≤ b) (c : Nat) (u : Value) : Still w (w'.setCell ⟨b, c, none⟩ u) F :=
  ⟨h.os, h.tape, h.output, by have := h.size; simpa [World.setCell] using this, fun k hk hf => by
    rw [Below.heap_setCell _ _ _ _ (fun e => ?_)]
    · exact h.block k hk hf
    · simp at e
      subst e
      rcases hb with hb | hb
      · exact hf hb
      · omega⟩
theorem Still.grown {w w' w'' : World} {F : Nat → Prop} {row : Option Nat} (h : Still w w' F) (hg : w'.grownBy w'' row) (hr : ∀ k, row = some k → F k ∨ w.heap.size ≤ k) : Still w w'' F :=
  ⟨hg.os.trans h.os, hg.tape.trans h.tape, hg.output.trans h.output, Nat.le_trans h.size hg.size, fun k hk hf => by
    rw [hg.block k (by have := h.size; omega) (fun e => ?_)]
    · exact h.block k hk hf
    · rcases hr k e.symm with h1 | h1
      · exact hf h1
      · omega⟩
theorem Still.ofBelow {w w' : World} {B : Nat} (h : Below B w w') : Still w w' (fun k => B ≤ k) :=
  ⟨h.os, h.tape, h.output, h.size, fun k _ hf => h.block k (by omega)⟩
theorem Still.below {w w' : World} {F : Nat → Prop} {B : Nat} (h : Still w w' F) (hB : ∀ k, F k → B ≤ k) (hs : B ≤ w.heap.size) : Below B w w' :=
  ⟨h.os, h.tape, h.output, h.size, fun k hk => h.block k (by omega) (fun e => by have := hB k e; omega)⟩
theorem Blk.still {w w' : World} {F : Nat → Prop} {b : Nat} {cs : Array Value} {T : TypeId} (h : Blk w b cs T) (hs : Still w w' F) (hF : ¬ F b) : Blk w' b cs T := by
  have := hs.block b h.lt hF
  unfold Blk at *
  rw [this]; exact h
theorem ownsRow_still {w w' : World} {F : Nat → Prop} {base : Nat} {e : TypeId} {size : Nat} {v : Value} {n : Nat} {xs : List Value} (h : w.ownsRow base e size v n xs) (hs : Still w w' F) (hF : ∀ k, v.ownBlock = some k → ¬ F k) : w'.ownsRow base e size v n xs :=
  ownsRow_of_block h (fun k hk hlt => hs.block k hlt (hF k hk))
/-- Rows of different types lie apart. -/
theorem rows_apart {w : World} {b1 b2 : Nat} {e1 e2 : TypeId} {s1 s2 : Nat} {v1 v2 : Value} {n1 n2 : Nat} {x1 x2 : List Value} (h1 : w.ownsRow b1 e1 s1 v1 n1 x1) (h2 : w.ownsRow b2 e2 s2 v2 n2 x2) (he : e1 ≠ e2) {k : Nat} (hk : v1.ownBlock = some k) : v2.ownBlock ≠ some k := by
  intro hk2
  rcases h1.2 with ⟨rfl, _⟩ | ⟨g, cap, cur, rfl, _, hg, _⟩
  · simp [Value.ownBlock] at hk
  · rcases h2.2 with ⟨rfl, _⟩ | ⟨g2, cap2, cur2, rfl, _, hg2, _⟩
    · simp [Value.ownBlock] at hk2
    · simp [Value.ownBlock] at hk hk2
      subst hk hk2
      rw [hg] at hg2
      simp at hg2
      exact he hg2.2
theorem row_not_blk {w : World} {b : Nat} {cs : Array Value} {T : TypeId} {b1 : Nat} {e1 : TypeId} {s1 : Nat} {v1 : Value} {n1 : Nat} {x1 : List Value} (h : Blk w b cs T) (h1 : w.ownsRow b1 e1 s1 v1 n1 x1) (he : e1 ≠ T) : v1.ownBlock ≠ some b := by
  intro hk
  rcases h1.2 with ⟨rfl, _⟩ | ⟨g, cap, cur, rfl, _, hg, _⟩
  · simp [Value.ownBlock] at hk
  · simp [Value.ownBlock] at hk
    subst hk
    unfold Blk at h
    rw [hg] at h
    simp at h
    exact he h.2
/-- What owns a row still owns it, where in its place a longer one has come. -/
theorem own_prefix {w w' : World} {base b2 : Nat} {e : TypeId} {size : Nat} {g n n' cap cap' : Nat} {xs ys : List Value} (hsz : 0 < size) (h : w.ownsRow base e size (.slice (some ⟨g, 0, none⟩) n' cap') n' xs)
    (h1 : w.ownsRow b2 e size (.slice (some ⟨g, 0, none⟩) n cap) n ys) {zs : List Value} {m : Nat} (h2 : w'.ownsRow b2 e size (.slice (some ⟨g, 0, none⟩) m cap) m zs) (hm : n' ≤ m) (hp : zs.take (n' * size) = xs) :
    w'.ownsRow base e size (.slice (some ⟨g, 0, none⟩) n' cap') n' xs := by
  rcases h.2 with ⟨h0, _⟩ | ⟨g1, c1, cur1, e1, hb1, hg1, hn1, hm1, hc1, ht1⟩
  · simp at h0
  rcases h1.2 with ⟨h0, _⟩ | ⟨g2, c2, cur2, e2, hb2, hg2, hn2, hm2, hc2, ht2⟩
  · simp at h0
  rcases h2.2 with ⟨h0, _⟩ | ⟨g3, c3, cur3, e3, hb3, hg3, hn3, hm3, hc3, ht3⟩
  · simp at h0
  simp only [Value.slice.injEq, Option.some.injEq, Addr.mk.injEq, and_true, true_and] at e1 e2 e3
  obtain ⟨rfl, rfl⟩ := e1
  obtain ⟨rfl, rfl⟩ := e2
  obtain ⟨rfl, rfl⟩ := e3
  rw [hg1] at hg2
  simp at hg2
  subst hg2
  have hcc : cap' = cap := by
    rw [hc1] at hc2
    exact Nat.eq_of_mul_eq_mul_right hsz hc2
  subst hcc
  refine ⟨h.1, Or.inr ⟨g, cap', cur3, rfl, hb1, hg3, hn1, hm1, hc3, ?_⟩⟩
  rw [← hp, ← ht3, List.take_take]
  congr 1
  have := Nat.mul_le_mul_right size hm
  omega
/-- The Reader as data. -/
structure RS where
  s : ByteArray
  next : Nat
  place0 : Nat
  token : ByteArray
  c0 : List (Int × Int)
  c1 : List (Int × Int)
  names : List (ByteArray × Int × Int)
  opens : List (ByteArray × Int × Int)
  start : Int
  name : ByteArray
  cells : Int
  heads : List Int
  err : Int
  place : Int

def instrCells (l : List (Int × Int)) : List Value := l.flatMap fun x => [.int .i64 x.1, .int .i64 x.2]
def nameCells (l : List (ByteArray × Int × Int)) : List Value := l.flatMap fun x => [.string x.1, .int .i64 x.2.1, .int .i64 x.2.2]

def rdArr (st : RS) (v4 v5 v6 v7 v11 : Value) : Array Value :=
  #[.string st.s, .int .i64 st.next, .int .i64 st.place0, .string st.token, v4, v5, v6, v7, .int .i64 st.start, .string st.name, .int .i64 st.cells, v11, .int .i64 st.err, .int .i64 st.place]

def rdRows (st : RS) : List RowSpec :=
  [⟨65, 2, st.c0.length, instrCells st.c0⟩, ⟨65, 2, st.c1.length, instrCells st.c1⟩, ⟨223, 3, st.names.length, nameCells st.names⟩, ⟨225, 3, st.opens.length, nameCells st.opens⟩, ⟨3, 1, st.heads.length, st.heads.map (Value.int .i64)⟩]

structure Rd (B : Nat) (w : World) (b : Nat) (st : RS) (v4 v5 v6 v7 v11 : Value) : Prop where
  blk : Blk w b (rdArr st v4 v5 v6 v7 v11) 178
  base : B ≤ b
  owned : Owned B w [b] [v4, v5, v6, v7, v11] (rdRows st)
  small : st.c0.length ≤ 4000 ∧ st.c1.length ≤ 4000 ∧ st.names.length ≤ 4000 ∧ st.opens.length ≤ 4000 ∧ st.heads.length ≤ 4000 ∧ st.s.size ≤ 2000

section
variable {B : Nat} {w : World} {b : Nat} {st : RS} {v4 v5 v6 v7 v11 : Value}
theorem Rd.o4 (h : Rd B w b st v4 v5 v6 v7 v11) : w.ownsRow B 65 2 v4 st.c0.length (instrCells st.c0) := h.owned.own 0 v4 _ rfl rfl
theorem Rd.o5 (h : Rd B w b st v4 v5 v6 v7 v11) : w.ownsRow B 65 2 v5 st.c1.length (instrCells st.c1) := h.owned.own 1 v5 _ rfl rfl
theorem Rd.o6 (h : Rd B w b st v4 v5 v6 v7 v11) : w.ownsRow B 223 3 v6 st.names.length (nameCells st.names) := h.owned.own 2 v6 _ rfl rfl
theorem Rd.o7 (h : Rd B w b st v4 v5 v6 v7 v11) : w.ownsRow B 225 3 v7 st.opens.length (nameCells st.opens) := h.owned.own 3 v7 _ rfl rfl
theorem Rd.o11 (h : Rd B w b st v4 v5 v6 v7 v11) : w.ownsRow B 3 1 v11 st.heads.length (st.heads.map (Value.int .i64)) := h.owned.own 4 v11 _ rfl rfl
theorem Rd.ne (h : Rd B w b st v4 v5 v6 v7 v11) (i : Nat) (v : Value) (hv : [v4, v5, v6, v7, v11][i]? = some v) : some b ≠ v.ownBlock := fun e => h.owned.off i v b hv (by simp) e.symm
theorem Rd.drewN (h : Rd B w b st v4 v5 v6 v7 v11) (n : Nat) : Rd B (w.drewN n) b st v4 v5 v6 v7 v11 := ⟨h.blk, h.base, h.owned.drewN n, h.small⟩
theorem Rd.drew (h : Rd B w b st v4 v5 v6 v7 v11) : Rd B w.drew b st v4 v5 v6 v7 v11 := ⟨h.blk, h.base, h.owned.drew, h.small⟩
theorem Rd.alloc (h : Rd B w b st v4 v5 v6 v7 v11) (o : Obj) : Rd B (w.alloc o) b st v4 v5 v6 v7 v11 := ⟨h.blk.alloc o, h.base, h.owned.alloc o, h.small⟩
/-- A cell of the Reader's own is written. -/
theorem Rd.set (h : Rd B w b st v4 v5 v6 v7 v11) (i : Nat) (v : Value) (st' : RS) (ha : (rdArr st v4 v5 v6 v7 v11).setIfInBounds i v = rdArr st' v4 v5 v6 v7 v11) (hr : rdRows st' = rdRows st) (hs : st'.c0 = st.c0 ∧ st'.c1 = st.c1 ∧ st'.names = st.names ∧ st'.opens = st.opens ∧ st'.heads = st.heads ∧ st'.s = st.s) : Rd B (w.setCell ⟨b, i, none⟩ v) b st' v4 v5 v6 v7 v11 := by
  obtain ⟨h1, h2, h3, h4, h5, h6⟩ := hs
  refine ⟨?_, h.base, ?_, by rw [h1, h2, h3, h4, h5, h6]; exact h.small⟩
  · rw [← ha]; exact h.blk.set i v
  · rw [hr]; exact h.owned.set (by simp) i v
end

set_option maxHeartbeats 400000 in
theorem fail_any (B b : Nat) (st : RS) (v4 v5 v6 v7 v11 : Value) (e0 : Int) (w : World) (h : Rd B w b st v4 v5 v6 v7 v11) :
    Calls Tryz.prog 130 #[.pointer (some ⟨b, 0, none⟩), .int .i64 e0] w fun e w' => e = .returned (.tuple #[]) ∧
      w' = if st.err = 0 then (w.setCell ⟨b, 12, none⟩ (.int .i64 e0)).setCell ⟨b, 13, none⟩ (.int .i64 st.place0) else w := by
  have hb := h.blk
  unfold rdArr at hb
  have hc := hb.cell
  have hf := hb.free
  clear hb
  by_cases he : st.err = 0
  · go_enter Tryz.func130, Tryz.ntmps130
    go_wp2
    go_end0
    exact ⟨rfl, rfl⟩
  · go_enter Tryz.func130, Tryz.ntmps130
    go_wp2
    go_end0
    exact ⟨rfl, rfl⟩
def partS (st : RS) : Int := if 0 ≤ st.start then 0 else 1

set_option maxHeartbeats 400000 in
theorem part_any (B b : Nat) (st : RS) (v4 v5 v6 v7 v11 : Value) (w : World) (h : Rd B w b st v4 v5 v6 v7 v11) :
    Calls Tryz.prog 181 #[.pointer (some ⟨b, 0, none⟩)] w fun e w' => e = .returned (.int .i64 (partS st)) ∧ w' = w := by
  have hb := h.blk
  unfold rdArr at hb
  have hc := hb.cell
  have hf := hb.free
  clear hb
  unfold partS
  by_cases he : 0 ≤ st.start
  · rw [if_pos he]
    go_enter Tryz.func181, Tryz.ntmps181
    go_wp2
    go_ret
    exact ⟨rfl, rfl⟩
  · rw [if_neg he]
    go_enter Tryz.func181, Tryz.ntmps181
    go_wp2
    go_ret
    exact ⟨rfl, rfl⟩

def hereS (st : RS) : Nat := if 0 ≤ st.start then st.c0.length else st.c1.length

set_option maxHeartbeats 400000 in
theorem here_any (B b : Nat) (st : RS) (v4 v5 v6 v7 v11 : Value) (w : World) (h : Rd B w b st v4 v5 v6 v7 v11) :
    Calls Tryz.prog 176 #[.pointer (some ⟨b, 0, none⟩)] w fun e w' => e = .returned (.int .i64 (hereS st)) ∧ ∃ n, w' = w.drewN n := by
  obtain ⟨a4, k4, rfl⟩ := own_shape h.o4
  obtain ⟨a5, k5, rfl⟩ := own_shape h.o5
  have hb := h.blk
  unfold rdArr at hb
  have hc := hb.cell
  have hf := hb.free
  clear hb
  unfold hereS
  by_cases he : 0 ≤ st.start
  · rw [if_pos he]
    have hp : ∀ n, Calls Tryz.prog 181 #[.pointer (some ⟨b, 0, none⟩)] (w.drewN n) fun e w' => e = .returned (.int .i64 0) ∧ w' = (w.drewN n) := by
      intro n
      have := part_any B b st _ _ _ _ _ _ (h.drewN n)
      rw [partS, if_pos he] at this
      exact this
    go_enter Tryz.func176, Tryz.ntmps176
    go_wp2_with fail
    go_quiet ((go_at_call 181; exact Calls.quiet_of_same (hp _)))
    go_wp2
    go_ret
    exact ⟨rfl, _, rfl⟩
  · rw [if_neg he]
    have hp : ∀ n, Calls Tryz.prog 181 #[.pointer (some ⟨b, 0, none⟩)] (w.drewN n) fun e w' => e = .returned (.int .i64 1) ∧ w' = (w.drewN n) := by
      intro n
      have := part_any B b st _ _ _ _ _ _ (h.drewN n)
      rw [partS, if_neg he] at this
      exact this
    go_enter Tryz.func176, Tryz.ntmps176
    go_wp2_with fail
    go_quiet ((go_at_call 181; exact Calls.quiet_of_same (hp _)))
    go_wp2
    go_ret
    exact ⟨rfl, _, rfl⟩

theorem nameCells_length (l : List (ByteArray × Int × Int)) : (nameCells l).length = l.length * 3 := by
  induction l with
  | nil => rfl
  | cons x l ih => simp only [nameCells, List.flatMap_cons] at *; simp [ih]; omega
theorem nameCells_at (l : List (ByteArray × Int × Int)) (i : Nat) (x : ByteArray × Int × Int) (h : l[i]? = some x) :
    (nameCells l)[i * 3]? = some (.string x.1) ∧ (nameCells l)[i * 3 + 1]? = some (.int .i64 x.2.1) ∧ (nameCells l)[i * 3 + 2]? = some (.int .i64 x.2.2) := by
  induction l generalizing i with
  | nil => simp at h
  | cons y l ih =>
    cases i with
    | zero => simp at h; subst h; simp [nameCells]
    | succ i =>
      simp only [List.getElem?_cons_succ] at h
      have := ih i h
      simp only [nameCells, List.flatMap_cons] at *
      have e1 : (i + 1) * 3 = i * 3 + 3 := by omega
      rw [e1]
      exact this
theorem instrCells_length (l : List (Int × Int)) : (instrCells l).length = l.length * 2 := by
  induction l with
  | nil => rfl
  | cons x l ih => simp only [instrCells, List.flatMap_cons] at *; simp [ih]; omega
theorem instrCells_at (l : List (Int × Int)) (i : Nat) (x : Int × Int) (h : l[i]? = some x) :
    (instrCells l)[i * 2]? = some (.int .i64 x.1) ∧ (instrCells l)[i * 2 + 1]? = some (.int .i64 x.2) := by
  induction l generalizing i with
  | nil => simp at h
  | cons y l ih =>
    cases i with
    | zero => simp at h; subst h; simp [instrCells]
    | succ i =>
      simp only [List.getElem?_cons_succ] at h
      have := ih i h
      simp only [instrCells, List.flatMap_cons] at *
      have e1 : (i + 1) * 2 = i * 2 + 2 := by omega
      rw [e1]
      exact this

def lastS (st : RS) : ByteArray := match st.opens.getLast? with | none => ⟨#[]⟩ | some o => o.1

set_option maxHeartbeats 400000 in
theorem last_none (B b : Nat) (st : RS) (v4 v5 v6 v7 v11 : Value) (w : World) (h : Rd B w b st v4 v5 v6 v7 v11) (he : st.opens = []) :
    Calls Tryz.prog 175 #[.pointer (some ⟨b, 0, none⟩)] w fun e w' => e = .returned (.string ⟨#[]⟩) ∧ ∃ n, w' = w.drewN n := by
  obtain ⟨a7, k7, rfl⟩ := own_shape h.o7
  have hb := h.blk
  unfold rdArr at hb
  rw [he] at hb
  have hc := hb.cell
  have hf := hb.free
  clear hb
  go_enter Tryz.func175, Tryz.ntmps175
  go_wp2
  go_ret
  exact ⟨rfl, 0, rfl⟩

set_option maxHeartbeats 400000 in
theorem last_some (B b : Nat) (st : RS) (v4 v5 v6 v7 v11 : Value) (w : World) (h : Rd B w b st v4 v5 v6 v7 v11) (l : List (ByteArray × Int × Int)) (x : ByteArray × Int × Int) (he : st.opens = l ++ [x]) :
    Calls Tryz.prog 175 #[.pointer (some ⟨b, 0, none⟩)] w fun e w' => e = .returned (.string x.1) ∧ ∃ n, w' = w.drewN n := by
  have hn : st.opens.length = l.length + 1 := by rw [he]; simp
  obtain ⟨g, k7, rfl, hg, hgl⟩ := h.o7.form (by omega)
  have hb := h.blk
  unfold rdArr at hb
  have ho := h.o7
  rw [hn] at hb ho
  have hx := own_cell ho (l.length * 3) (by omega)
  rw [he, (nameCells_at (l ++ [x]) l.length x (by simp)).1] at hx
  have hs : (l.length : Int) ≤ 4000 := by have := h.small; omega
  have hc := hb.cell
  have hf := hb.free
  clear hb ho
  go_enter Tryz.func175, Tryz.ntmps175
  go_wp2_with fail
  go_quiet (fail)
  go_wp2
  go_ret
  exact ⟨rfl, _, rfl⟩
theorem Tryz.infoInstr : (Tryz.prog.info? 65).map (fun i => (i.zero, i.size, i.bytes)) = some (some (.agg #[.int .i64 0, .int .i64 0]), 2, 16) := by kernel_rfl

theorem oneCells2 (a b : Int) : ∀ u ∈ [Value.int .i64 a, Value.int .i64 b], u.oneCell' = true := by
  intro u hu
  simp at hu
  rcases hu with rfl | rfl <;> rfl

theorem below_grown_alloc {B : Nat} {w w1 : World} {o : Obj} {row : Option Nat} (hB : B ≤ w.heap.size) (hr : ∀ k, row = some k → B ≤ k) (hg : (w.alloc o).drew.grownBy w1 row) : Below B w w1 :=
  (((Below.refl B w).alloc hB o).drew).grown hg (by have := Below.size ((Below.refl B w).alloc hB o); exact Nat.le_trans hB this) hr

/-- Behind an append to the definitions' code. -/
theorem Rd.grow4 {B : Nat} {w w1 : World} {b : Nat} {st : RS} {v4 v5 v6 v7 v11 : Value} (h : Rd B w b st v4 v5 v6 v7 v11) {o : Obj} {op arg : Int} {g cap H : Nat} (hlen : st.c0.length < 4000)
    (hown : w1.ownsRow B 65 2 (.slice (some ⟨g, 0, none⟩) (st.c0.length + 1) cap) (st.c0.length + 1) (instrCells st.c0 ++ [.int .i64 op, .int .i64 arg]))
    (hgrow : (w.alloc o).drew.grownBy w1 v4.ownBlock) (hat : v4.ownBlock = some g ∨ g = H) (hH : H = w.heap.size + 1) :
    Rd B (w1.setCell ⟨b, 4, none⟩ (.slice (some ⟨g, 0, none⟩) (st.c0.length + 1) cap)) b { st with c0 := st.c0 ++ [(op, arg)] } (.slice (some ⟨g, 0, none⟩) (st.c0.length + 1) cap) v5 v6 v7 v11 := by
  have hw1 := grownBy_alloc hgrow
  have hlt := h.blk.lt
  refine ⟨?_, h.base, ?_, by have := h.small; simp; omega⟩
  · have := (h.blk.grown hw1 (h.ne 0 v4 rfl)).set 4 (.slice (some ⟨g, 0, none⟩) (st.c0.length + 1) cap)
    simpa [rdArr] using this
  · have := (h.owned.grow 0 v4 (.slice (some ⟨g, 0, none⟩) (st.c0.length + 1) cap) ⟨65, 2, st.c0.length + 1, instrCells st.c0 ++ [.int .i64 op, .int .i64 arg]⟩ rfl (by simp; exact hlt) hw1 hown ?_).set (b := b) (by simp) 4 (.slice (some ⟨g, 0, none⟩) (st.c0.length + 1) cap)
    · simpa [rdRows, instrCells] using this
    · rcases hat with e | e
      · exact Or.inl e.symm
      · exact Or.inr ⟨g, rfl, by omega⟩
theorem Rd.grow5 {B : Nat} {w w1 : World} {b : Nat} {st : RS} {v4 v5 v6 v7 v11 : Value} (h : Rd B w b st v4 v5 v6 v7 v11) {o : Obj} {op arg : Int} {g cap H : Nat} (hlen : st.c1.length < 4000)
    (hown : w1.ownsRow B 65 2 (.slice (some ⟨g, 0, none⟩) (st.c1.length + 1) cap) (st.c1.length + 1) (instrCells st.c1 ++ [.int .i64 op, .int .i64 arg]))
    (hgrow : (w.alloc o).drew.grownBy w1 v5.ownBlock) (hat : v5.ownBlock = some g ∨ g = H) (hH : H = w.heap.size + 1) :
    Rd B (w1.setCell ⟨b, 5, none⟩ (.slice (some ⟨g, 0, none⟩) (st.c1.length + 1) cap)) b { st with c1 := st.c1 ++ [(op, arg)] } v4 (.slice (some ⟨g, 0, none⟩) (st.c1.length + 1) cap) v6 v7 v11 := by
  have hw1 := grownBy_alloc hgrow
  have hlt := h.blk.lt
  refine ⟨?_, h.base, ?_, by have := h.small; simp; omega⟩
  · have := (h.blk.grown hw1 (h.ne 1 v5 rfl)).set 5 (.slice (some ⟨g, 0, none⟩) (st.c1.length + 1) cap)
    simpa [rdArr] using this
  · have := (h.owned.grow 1 v5 (.slice (some ⟨g, 0, none⟩) (st.c1.length + 1) cap) ⟨65, 2, st.c1.length + 1, instrCells st.c1 ++ [.int .i64 op, .int .i64 arg]⟩ rfl (by simp; exact hlt) hw1 hown ?_).set (b := b) (by simp) 5 (.slice (some ⟨g, 0, none⟩) (st.c1.length + 1) cap)
    · simpa [rdRows, instrCells] using this
    · rcases hat with e | e
      · exact Or.inl e.symm
      · exact Or.inr ⟨g, rfl, by omega⟩

set_option maxHeartbeats 400000 in
theorem put_def (B b : Nat) (st : RS) (v4 v5 v6 v7 v11 : Value) (op arg : Int) (w : World) (h : Rd B w b st v4 v5 v6 v7 v11) (hst : 0 ≤ st.start) (hlen : st.c0.length < 4000) :
    Calls Tryz.prog 172 #[.pointer (some ⟨b, 0, none⟩), .int .i64 op, .int .i64 arg] w fun e w' => e = .returned (.int .i64 st.c0.length) ∧ ∃ v4', Rd B w' b { st with c0 := st.c0 ++ [(op, arg)] } v4' v5 v6 v7 v11 ∧ Moved w b [v4, v5, v6, v7, v11] w' [v4', v5, v6, v7, v11] := by
  obtain ⟨i0, hi, hz0, hz1, hz2⟩ := info_parts Tryz.infoInstr
  have hp := part_any B b st v4 v5 v6 v7 v11 w h
  rw [partS, if_pos hst] at hp
  have HP := V hp
  clear hp
  have hb := h.blk
  have hlt := hb.lt
  unfold rdArr at hb
  have hc := hb.cell
  have hf := hb.free
  have HB := V hb
  clear hb
  have hne := h.ne 0 v4 rfl
  have hW : ((w.alloc (.cells #[.int .i64 op, .int .i64 arg] 65)).drew).ownsRow B 65 2 v4 st.c0.length (instrCells st.c0) := ownsRow_alloc h.o4 _
  have HW := V hW
  have hBs : B ≤ ((w.alloc (.cells #[.int .i64 op, .int .i64 arg] 65)).drew).heap.size := by
    have h1 := h.base
    have h2 := Below.size ((Below.refl B w).alloc (by omega) (.cells #[.int .i64 op, .int .i64 arg] 65))
    have h3 : w.drew.heap.size = w.heap.size := rfl
    show B ≤ (w.alloc _).heap.size
    omega
  have HBs := V hBs
  clear hBs
  clear hW
  go_enter Tryz.func172, Tryz.ntmps172
  go_wp2_with (go_at_call 181; refine (U HP).mono ?_; rintro e w1 ⟨rfl, hw⟩; obtain rfl := hw.symm; clear hw)
  go_region_law (refine step_append_lies _ rfl (.tmp 17) (.tmp 21) 33 rfl B 65 i0 _ 2 16 Tryz.underlying33 hi hz0 hz1 hz2 rfl (by decide) v4 st.c0.length (instrCells st.c0) (by simp [Act.eval]) (U HW) ⟨w.heap.size, 0, none⟩ 1 1 [.int .i64 op, .int .i64 arg] (by simp [Act.eval]) rfl (World.news_of_block (Blk.new w _ _)) (oneCells2 op arg) (by omega) (by unfold maxLen; omega) (by omega) (U HBs) _ rfl ?_; intro g cap w1 hown hgrow hat hlt1; have hb1 := ((U HB).alloc _).drew.grown hgrow hne; have hc1 := hb1.cell; have hf1 := hb1.free; have HO := V hown; have HG := V hgrow; have HA := V hat; clear hown hgrow hat hb1)
  all_goals
    go_wp2
    go_ret
    refine ⟨ret_int (by omega), _, h.grow4 hlen (U HO) (U HG) (U HA) (by simp), ?_⟩
    exact (moved_grow 0 v4 _ rfl (grownBy_alloc (U HG)) (lies_at (U HA) (by simp))).trans (moved_set _ _ _ _ _)

set_option maxHeartbeats 400000 in
theorem put_main (B b : Nat) (st : RS) (v4 v5 v6 v7 v11 : Value) (op arg : Int) (w : World) (h : Rd B w b st v4 v5 v6 v7 v11) (hst : ¬ 0 ≤ st.start) (hlen : st.c1.length < 4000) :
    Calls Tryz.prog 172 #[.pointer (some ⟨b, 0, none⟩), .int .i64 op, .int .i64 arg] w fun e w' => e = .returned (.int .i64 st.c1.length) ∧ ∃ v5', Rd B w' b { st with c1 := st.c1 ++ [(op, arg)] } v4 v5' v6 v7 v11 ∧ Moved w b [v4, v5, v6, v7, v11] w' [v4, v5', v6, v7, v11] := by
  obtain ⟨i0, hi, hz0, hz1, hz2⟩ := info_parts Tryz.infoInstr
  have hp := part_any B b st v4 v5 v6 v7 v11 w h
  rw [partS, if_neg hst] at hp
  have HP := V hp
  clear hp
  have hb := h.blk
  have hlt := hb.lt
  unfold rdArr at hb
  have hc := hb.cell
  have hf := hb.free
  have HB := V hb
  clear hb
  have hne := h.ne 1 v5 rfl
  have hW : ((w.alloc (.cells #[.int .i64 op, .int .i64 arg] 65)).drew).ownsRow B 65 2 v5 st.c1.length (instrCells st.c1) := ownsRow_alloc h.o5 _
  have HW := V hW
  have hBs : B ≤ ((w.alloc (.cells #[.int .i64 op, .int .i64 arg] 65)).drew).heap.size := by
    have h1 := h.base
    have h2 := Below.size ((Below.refl B w).alloc (by omega) (.cells #[.int .i64 op, .int .i64 arg] 65))
    have h3 : w.drew.heap.size = w.heap.size := rfl
    show B ≤ (w.alloc _).heap.size
    omega
  have HBs := V hBs
  clear hBs
  clear hW
  go_enter Tryz.func172, Tryz.ntmps172
  go_wp2_with (go_at_call 181; refine (U HP).mono ?_; rintro e w1 ⟨rfl, hw⟩; obtain rfl := hw.symm; clear hw)
  go_region_law (refine step_append_lies _ rfl (.tmp 17) (.tmp 21) 33 rfl B 65 i0 _ 2 16 Tryz.underlying33 hi hz0 hz1 hz2 rfl (by decide) v5 st.c1.length (instrCells st.c1) (by simp [Act.eval]) (U HW) ⟨w.heap.size, 0, none⟩ 1 1 [.int .i64 op, .int .i64 arg] (by simp [Act.eval]) rfl (World.news_of_block (Blk.new w _ _)) (oneCells2 op arg) (by omega) (by unfold maxLen; omega) (by omega) (U HBs) _ rfl ?_; intro g cap w1 hown hgrow hat hlt1; have hb1 := ((U HB).alloc _).drew.grown hgrow hne; have hc1 := hb1.cell; have hf1 := hb1.free; have HO := V hown; have HG := V hgrow; have HA := V hat; clear hown hgrow hat hb1)
  all_goals
    go_wp2
    go_ret
    refine ⟨ret_int (by omega), _, h.grow5 hlen (U HO) (U HG) (U HA) (by simp), ?_⟩
    exact (moved_grow 1 v5 _ rfl (grownBy_alloc (U HG)) (lies_at (U HA) (by simp))).trans (moved_set _ _ _ _ _)


def RdE (B : Nat) (w : World) (b : Nat) (st : RS) : Prop := ∃ v4 v5 v6 v7 v11, Rd B w b st v4 v5 v6 v7 v11

def putS (st : RS) (op arg : Int) : RS := if 0 ≤ st.start then { st with c0 := st.c0 ++ [(op, arg)] } else { st with c1 := st.c1 ++ [(op, arg)] }

theorem Rd.below {B : Nat} {w w' : World} {b : Nat} {st : RS} {v4 v5 v6 v7 v11 : Value} {vs' : List Value} (h : Rd B w b st v4 v5 v6 v7 v11) (m : Moved w b [v4, v5, v6, v7, v11] w' vs') : Below B w w' :=
  m.below (fun _ hk => (h.owned.foot h.base h.blk.lt hk).1) (by have := h.base; have := h.blk.lt; omega)

theorem put_rd (B b : Nat) (st : RS) (v4 v5 v6 v7 v11 : Value) (op arg : Int) (w : World) (h : Rd B w b st v4 v5 v6 v7 v11) (hlen : st.c0.length < 4000 ∧ st.c1.length < 4000) :
    Calls Tryz.prog 172 #[.pointer (some ⟨b, 0, none⟩), .int .i64 op, .int .i64 arg] w fun e w' => e = .returned (.int .i64 (hereS st)) ∧ ∃ u4 u5 u6 u7 u11, Rd B w' b (putS st op arg) u4 u5 u6 u7 u11 ∧ Moved w b [v4, v5, v6, v7, v11] w' [u4, u5, u6, u7, u11] := by
  unfold hereS putS
  by_cases hst : 0 ≤ st.start
  · rw [if_pos hst, if_pos hst]
    refine (put_def B b st v4 v5 v6 v7 v11 op arg w h hst hlen.1).mono ?_
    rintro e w' ⟨rfl, v, hr, hb⟩
    exact ⟨rfl, _, _, _, _, _, hr, hb⟩
  · rw [if_neg hst, if_neg hst]
    refine (put_main B b st v4 v5 v6 v7 v11 op arg w h hst hlen.2).mono ?_
    rintro e w' ⟨rfl, v, hr, hb⟩
    exact ⟨rfl, _, _, _, _, _, hr, hb⟩

theorem put_any (B b : Nat) (st : RS) (op arg : Int) (w : World) (h : RdE B w b st) (hlen : st.c0.length < 4000 ∧ st.c1.length < 4000) :
    Calls Tryz.prog 172 #[.pointer (some ⟨b, 0, none⟩), .int .i64 op, .int .i64 arg] w fun e w' => e = .returned (.int .i64 (hereS st)) ∧ RdE B w' b (putS st op arg) ∧ Below B w w' := by
  obtain ⟨v4, v5, v6, v7, v11, h⟩ := h
  refine (put_rd B b st v4 v5 v6 v7 v11 op arg w h hlen).mono ?_
  rintro e w' ⟨rfl, u4, u5, u6, u7, u11, hr, hm⟩
  exact ⟨rfl, ⟨_, _, _, _, _, hr⟩, h.below hm⟩
end Go.Proofs.YtmeiikjpaepogaaGreatDoor
namespace Go.Proofs.YtmeiikjpaepogaaGreatDoor
open Go.RowKit


def pickS (c n : Int) : Int := if c < 0 then (-(c + 1)) % n else c % n

set_option maxHeartbeats 400000 in
theorem pick_any (c n : Int) (w : World) (hc1 : -9223372036854775808 ≤ c) (hc2 : c ≤ 9223372036854775807) (hn1 : 1 ≤ n) (hn2 : n ≤ 9223372036854775807) :
    Calls Tryz.prog 43 #[.int .i64 c, .int .i64 n] w fun e w' => e = .returned (.int .i64 (pickS c n)) ∧ w' = w := by
  by_cases h : c < 0
  · go_enter Tryz.func43, Tryz.ntmps43
    go_wp2
    go_ret
    refine ⟨ret_int ?_, rfl⟩
    unfold pickS
    rw [if_pos h, ← Int.neg_tmod, Int.tmod_eq_emod_of_nonneg (by omega)]
  · go_enter Tryz.func43, Tryz.ntmps43
    go_wp2
    go_ret
    refine ⟨ret_int ?_, rfl⟩
    unfold pickS
    rw [if_neg (by omega)]

def namesS (op : Int) : Bool := op == 1 || op == 2 || op == 3 || op == 7

set_option maxHeartbeats 400000 in
theorem names_any (op : Int) (w : World) :
    Calls Tryz.prog 132 #[.int .i64 op] w fun e w' => e = .returned (.bool (namesS op)) ∧ w' = w := by
  go_enter Tryz.func132, Tryz.ntmps132
  go_wp2
  all_goals (go_ret; refine ⟨ret_bool ?_, rfl⟩; simp_all [namesS])

set_option maxHeartbeats 400000 in
theorem truth_any (b : Bool) (w : World) :
    Calls Tryz.prog 232 #[.bool b] w fun e w' => e = .returned (.int .i64 (if b then -1 else 0)) ∧ w' = w := by
  go_enter Tryz.func232, Tryz.ntmps232
  cases b
  all_goals (go_wp2; go_ret; exact ⟨rfl, rfl⟩)

theorem ret_two {k : IntKind} {a b a' b' : Int} (h : a = a') (h' : b = b') : Ending.returned (.tuple #[.int k a, .int k b]) = .returned (.tuple #[.int k a', .int k b']) := by rw [h, h']

def needsS (op : Int) : Int × Int :=
  if op = 0 ∨ op = 8 ∨ op = 28 ∨ op = 27 then (0, 1)
  else if op = 2 ∨ op = 22 ∨ op = 26 ∨ op = 31 ∨ op = 32 then (1, -1)
  else if op = 17 ∨ op = 18 ∨ op = 30 then (1, 0)
  else if op = 21 then (1, 1)
  else if op = 6 ∨ op = 29 then (2, -2)
  else if op = 9 ∨ op = 10 ∨ op = 11 ∨ op = 12 ∨ op = 13 ∨ op = 14 ∨ op = 15 ∨ op = 16 ∨ op = 19 ∨ op = 20 then (2, -1)
  else if op = 23 then (2, 0)
  else if op = 24 then (2, 1)
  else if op = 25 then (3, 0)
  else (0, 0)

set_option maxHeartbeats 1000000 in
theorem needs_any (op : Int) (w : World) :
    Calls Tryz.prog 209 #[.int .i64 op] w fun e w' => e = .returned (.tuple #[.int .i64 (needsS op).1, .int .i64 (needsS op).2]) ∧ w' = w := by
  go_enter Tryz.func209, Tryz.ntmps209
  go_wp2
  all_goals (go_ret2; refine ⟨ret_two ?_ ?_, rfl⟩ <;> simp_all [needsS])
end Go.Proofs.YtmeiikjpaepogaaGreatDoor
namespace Go.Proofs.YtmeiikjpaepogaaGreatDoor
open Go Go.RowKit

def findS (l : List (ByteArray × Int × Int)) (s : ByteArray) : Int := match l.findIdx? (fun x => x.1 == s) with | some k => k | none => -1

theorem findIdx_at (l : List (ByteArray × Int × Int)) (s : ByteArray) (k : Nat) (x : ByteArray × Int × Int) (hx : l[k]? = some x) (he : (x.1 == s) = true) (hn : ∀ j x, j < k → l[j]? = some x → (x.1 == s) = false) : l.findIdx? (fun x => x.1 == s) = some k := by
  obtain ⟨hlt, hx'⟩ := List.getElem?_eq_some_iff.1 hx
  rw [List.findIdx?_eq_some_iff_getElem]
  refine ⟨hlt, by rw [hx']; exact he, ?_⟩
  intro j hj
  rw [hn j l[j] hj (List.getElem?_eq_getElem (by omega))]
  simp
theorem findIdx_none (l : List (ByteArray × Int × Int)) (s : ByteArray) (k : Nat) (hk : k ≤ l.length) (hk2 : ¬ k < l.length) (hn : ∀ j x, j < k → l[j]? = some x → (x.1 == s) = false) : l.findIdx? (fun x => x.1 == s) = none := by
  rw [List.findIdx?_eq_none_iff]
  intro x hx
  obtain ⟨j, hj, rfl⟩ := List.getElem_of_mem hx
  exact hn j _ (by omega) (List.getElem?_eq_getElem hj)

set_option maxHeartbeats 400000 in
theorem find_any (B b : Nat) (st : RS) (v4 v5 v6 v7 v11 : Value) (w : World) (s : ByteArray) (h : Rd B w b st v4 v5 v6 v7 v11) :
    Calls Tryz.prog 180 #[.pointer (some ⟨b, 0, none⟩), .string s] w fun e w' => e = .returned (.int .i64 (findS st.names s)) ∧ w' = w := by
  obtain ⟨a6, k6, rfl⟩ := own_shape h.o6
  have hb := h.blk
  unfold rdArr at hb
  have hc := hb.cell
  have hf := hb.free
  clear hb
  have hs : (st.names.length : Int) ≤ 4000 := by have := h.small; omega
  go_enter Tryz.func180, Tryz.ntmps180
  go_wp2
  go_loop [5] (fun i => ∃ k : Nat, k ≤ st.names.length ∧ i = .int .i64 k ∧ ∀ j x, j < k → st.names[j]? = some x → (x.1 == s) = false) (fun i => st.names.length - (intOf i).toNat)
  case atStart => exact ⟨0, by omega, rfl, fun j x hj => by omega⟩
  case round =>
    obtain ⟨k, hk, rfl, hno⟩ := hrel
    have HN : Hid (∀ j x, j < k → st.names[j]? = some x → (x.1 == s) = false) := hno
    clear hno
    by_cases hlt : k < st.names.length
    · obtain ⟨g, cap, hv, hg, hgl⟩ := h.o6.form (by omega)
      simp only [Value.slice.injEq, true_and] at hv
      obtain ⟨rfl, rfl⟩ := hv
      obtain ⟨x, hx⟩ : ∃ x, st.names[k]? = some x := ⟨_, List.getElem?_eq_getElem hlt⟩
      have hcell := own_cell h.o6 (k * 3) (by omega)
      rw [(nameCells_at _ _ _ hx).1] at hcell
      have HX : Hid (st.names[k]? = some x) := hx
      clear hx
      go_wp2
      · go_ret
        refine ⟨ret_int ?_, rfl⟩
        rw [findS, findIdx_at st.names s k x HX.out (by rw [beq_toListBytes]; assumption) HN.out]
      · refine ⟨⟨k + 1, by omega, by go_num, ?_⟩, by simp [intOf]; omega⟩
        intro j y hj hy
        by_cases e : j = k
        · subst e
          have e2 := HX.out
          rw [hy] at e2
          obtain rfl := Option.some.inj e2
          rw [beq_toListBytes]; assumption
        · exact HN.out j y (by omega) hy
    · go_wp2
      go_ret
      refine ⟨ret_int ?_, rfl⟩
      rw [findS, findIdx_none st.names s k hk (by omega) HN.out]
end Go.Proofs.YtmeiikjpaepogaaGreatDoor
