/- Own laws on blocks of memory, over any program: what a block holds that is known whole, behind stores, draws, new blocks, calls. -/
import Derived.WalkKit
import Derived.WalkSpells
import Derived.WalkLawsBesides
import Derived.Deep.QuietTactic
import Derived.BigQuiet
import Derived.Deep.RegionHeldLaw
import Derived.Deep.RegionLaw
import Derived.Deep.DeepFit
import Derived.Deep.DeepMust
import Derived.Deep.AppendLies
namespace Go.Proofs.YtmeiikjpaepogaaGreatDoor
open Go Go.RowKit

theorem V {p : Prop} (h : p) : Hid p := h
theorem U {p : Prop} (h : Hid p) : p := h
theorem ret_int {k : IntKind} {a b : Int} (h : a = b) : Ending.returned (.int k a) = .returned (.int k b) := by rw [h]
theorem ret_bool {a b : Bool} (h : a = b) : Ending.returned (.bool a) = .returned (.bool b) := by rw [h]
theorem ret_string {a b : ByteArray} (h : a = b) : Ending.returned (.string a) = .returned (.string b) := by rw [h]

/-- A block that is known whole. -/
def Blk (w : World) (b : Nat) (cs : Array Value) (T : TypeId) : Prop := w.heap[b]? = some (.cells cs T (0, 0))

theorem Blk.cell {w : World} {b : Nat} {cs : Array Value} {T : TypeId} (h : Blk w b cs T) (i : Nat) : w.cell? ⟨b, i, none⟩ = cs[i]? := by
  unfold Blk at h; simp [World.cell?, h]
theorem Blk.free {w : World} {b : Nat} {cs : Array Value} {T : TypeId} (h : Blk w b cs T) (i : Nat) : w.frozen? ⟨b, i, none⟩ = false := by
  unfold Blk at h; simp [World.frozen?, h]
theorem Blk.lt {w : World} {b : Nat} {cs : Array Value} {T : TypeId} (h : Blk w b cs T) : b < w.heap.size := lt_of_block h
theorem Blk.set {w : World} {b : Nat} {cs : Array Value} {T : TypeId} (h : Blk w b cs T) (i : Nat) (v : Value) : Blk (w.setCell ⟨b, i, none⟩ v) b (cs.setIfInBounds i v) T := by
  have hlt := h.lt
  unfold Blk at h ⊢
  have h' : w.heap[b] = .cells cs T (0, 0) := by simpa [Array.getElem?_eq_getElem hlt] using h
  show (w.heap.modify b _)[b]? = _
  rw [Array.getElem?_eq_getElem (by simpa using hlt), Array.getElem_modify_self, h']
  rfl
theorem Blk.far {w : World} {b : Nat} {cs : Array Value} {T : TypeId} (h : Blk w b cs T) {a : Addr} (ha : b ≠ a.block) (v : Value) : Blk (w.setCell a v) b cs T := by
  unfold Blk at h ⊢; rw [Below.heap_setCell _ _ _ _ ha]; exact h
theorem Blk.drew {w : World} {b : Nat} {cs : Array Value} {T : TypeId} (h : Blk w b cs T) : Blk w.drew b cs T := h
theorem Blk.drewN {w : World} {b : Nat} {cs : Array Value} {T : TypeId} (h : Blk w b cs T) (n : Nat) : Blk (w.drewN n) b cs T := h
theorem Blk.alloc {w : World} {b : Nat} {cs : Array Value} {T : TypeId} (h : Blk w b cs T) (o : Obj) : Blk (w.alloc o) b cs T := by
  have hlt := h.lt
  unfold Blk at h ⊢; rw [Below.heap_alloc _ _ _ hlt]; exact h
theorem Blk.new (w : World) (cs : Array Value) (T : TypeId) : Blk (w.alloc (.cells cs T)) w.heap.size cs T := by
  unfold Blk; show (w.heap.push _)[w.heap.size]? = _; simp
theorem Blk.grown {w w' : World} {b : Nat} {cs : Array Value} {T : TypeId} {row : Option Nat} (h : Blk w b cs T) (hg : w.grownBy w' row) (hr : some b ≠ row) : Blk w' b cs T := by
  have hlt := h.lt
  unfold Blk at h ⊢; rw [hg.block _ hlt hr]; exact h
theorem Blk.below {B : Nat} {w w' : World} {b : Nat} {cs : Array Value} {T : TypeId} (h : Blk w b cs T) (hb : Below B w w') (hlt : b < B) : Blk w' b cs T := by
  unfold Blk at h ⊢; rw [hb.block _ hlt]; exact h

/-- Below B nothing has turned: the frame of every call here. -/
theorem below_drawn {B : Nat} {a w : World} (h : Below B a w) (n : Nat) : Below B a (w.drewN n) := ⟨h.os, h.tape, h.output, h.size, h.block⟩

theorem ownsRow_far {w : World} {base : Nat} {e : TypeId} {size : Nat} {v : Value} {n : Nat} {xs : List Value} (h : w.ownsRow base e size v n xs) {a : Addr} (ha : v.ownBlock ≠ some a.block) (u : Value) : (w.setCell a u).ownsRow base e size v n xs := ownsRow_setCell_other h ha u
theorem ownsRow_of_block {w w' : World} {base : Nat} {e : TypeId} {size : Nat} {v : Value} {n : Nat} {xs : List Value} (h : w.ownsRow base e size v n xs) (hb : ∀ k, v.ownBlock = some k → k < w.heap.size → w'.heap[k]? = w.heap[k]?) : w'.ownsRow base e size v n xs := by
  obtain ⟨h1, h2⟩ := h
  refine ⟨h1, ?_⟩
  rcases h2 with h2 | ⟨g, cap, cur, hv, hg, hh, r⟩
  · exact Or.inl h2
  · refine Or.inr ⟨g, cap, cur, hv, hg, ?_, r⟩
    rw [hb g (by rw [hv]; rfl) (lt_of_block hh)]; exact hh
theorem ownsRow_grown {w w' : World} {row : Option Nat} {base : Nat} {e : TypeId} {size : Nat} {v : Value} {n : Nat} {xs : List Value} (h : w.ownsRow base e size v n xs) (hg : w.grownBy w' row) (hne : ∀ k, v.ownBlock = some k → some k ≠ row) : w'.ownsRow base e size v n xs :=
  ownsRow_of_block h (fun k hk hlt => hg.block k hlt (hne k hk))
theorem ownsRow_alloc {w : World} {base : Nat} {e : TypeId} {size : Nat} {v : Value} {n : Nat} {xs : List Value} (h : w.ownsRow base e size v n xs) (o : Obj) : (w.alloc o).ownsRow base e size v n xs :=
  ownsRow_of_block h (fun _ _ hlt => Below.heap_alloc _ _ _ hlt)
theorem ownsRow_lt {w : World} {base : Nat} {e : TypeId} {size : Nat} {v : Value} {n : Nat} {xs : List Value} (h : w.ownsRow base e size v n xs) {k : Nat} (hk : v.ownBlock = some k) : k < w.heap.size ∧ base ≤ k := by
  rcases h.2 with ⟨h2, _⟩ | ⟨g, cap, cur, hv, hg, hh, r⟩
  · subst h2; simp [Value.ownBlock] at hk
  · subst hv; simp [Value.ownBlock] at hk; subst hk; exact ⟨lt_of_block hh, hg⟩
/-- What a slice holds: its element's type and cells, how many, all cells. -/
structure RowSpec where
  e : TypeId
  size : Nat
  n : Nat
  xs : List Value

/-- The slices vs hold ss, in rows from block B on, no two in one block, none in one of the blocks bs. -/
structure Owned (B : Nat) (w : World) (bs : List Nat) (vs : List Value) (ss : List RowSpec) : Prop where
  own : ∀ (i : Nat) (v : Value) (s : RowSpec), vs[i]? = some v → ss[i]? = some s → w.ownsRow B s.e s.size v s.n s.xs
  apart : ∀ (i j : Nat) (v v' : Value) (k : Nat), vs[i]? = some v → vs[j]? = some v' → v.ownBlock = some k → v'.ownBlock = some k → i = j
  off : ∀ (i : Nat) (v : Value) (b : Nat), vs[i]? = some v → b ∈ bs → v.ownBlock ≠ some b
  len : vs.length = ss.length

theorem Owned.to {B : Nat} {w w' : World} {bs : List Nat} {vs : List Value} {ss : List RowSpec} (h : Owned B w bs vs ss)
    (hk : ∀ (i : Nat) (v : Value) (k : Nat), vs[i]? = some v → v.ownBlock = some k → k < w.heap.size → w'.heap[k]? = w.heap[k]?) : Owned B w' bs vs ss :=
  ⟨fun i v s hv hs => ownsRow_of_block (h.own i v s hv hs) (fun k e hlt => hk i v k hv e hlt), h.apart, h.off, h.len⟩
theorem Owned.drew {B : Nat} {w : World} {bs : List Nat} {vs : List Value} {ss : List RowSpec} (h : Owned B w bs vs ss) : Owned B w.drew bs vs ss := h.to (fun _ _ _ _ _ _ => rfl)
theorem Owned.drewN {B : Nat} {w : World} {bs : List Nat} {vs : List Value} {ss : List RowSpec} (h : Owned B w bs vs ss) (n : Nat) : Owned B (w.drewN n) bs vs ss := h.to (fun _ _ _ _ _ _ => rfl)
theorem Owned.alloc {B : Nat} {w : World} {bs : List Nat} {vs : List Value} {ss : List RowSpec} (h : Owned B w bs vs ss) (o : Obj) : Owned B (w.alloc o) bs vs ss := h.to (fun _ _ _ _ _ hlt => Below.heap_alloc _ _ _ hlt)
theorem Owned.set {B : Nat} {w : World} {bs : List Nat} {vs : List Value} {ss : List RowSpec} (h : Owned B w bs vs ss) {b : Nat} (hb : b ∈ bs) (i : Nat) (u : Value) : Owned B (w.setCell ⟨b, i, none⟩ u) bs vs ss :=
  h.to (fun j v k hv e _ => Below.heap_setCell _ _ _ _ (fun e2 => h.off j v b hv hb (by rw [e, e2])))
theorem Owned.more {B : Nat} {w : World} {bs bs' : List Nat} {vs : List Value} {ss : List RowSpec} (h : Owned B w bs vs ss) (hb : ∀ b ∈ bs', b ∈ bs ∨ w.heap.size ≤ b) : Owned B w bs' vs ss := by
  refine ⟨h.own, h.apart, fun i v b hv hm => ?_, h.len⟩
  rcases hb b hm with h1 | h1
  · exact h.off i v b hv h1
  · intro e
    obtain ⟨s, hs⟩ : ∃ s, ss[i]? = some s := by
      have := (List.getElem?_eq_some_iff.1 hv).1
      exact ⟨_, List.getElem?_eq_getElem (by rw [← h.len]; exact this)⟩
    have := (ownsRow_lt (h.own i v s hv hs) e).1
    omega
theorem Owned.below {B B' : Nat} {w w' : World} {bs : List Nat} {vs : List Value} {ss : List RowSpec} (h : Owned B w bs vs ss) (hb : Below B' w w') (hB : ∀ (i : Nat) (v : Value) (k : Nat), vs[i]? = some v → v.ownBlock = some k → k < B') : Owned B w' bs vs ss :=
  h.to (fun i v k hv e _ => hb.block k (hB i v k hv e))
theorem Owned.below_all {B : Nat} {w w' : World} {bs : List Nat} {vs : List Value} {ss : List RowSpec} (h : Owned B w bs vs ss) (hb : Below w.heap.size w w') : Owned B w' bs vs ss :=
  h.to (fun _ _ k _ _ hlt => hb.block k hlt)

/-- Slice i is appended to (or anew): behind it all are owned. -/
theorem Owned.grow {B : Nat} {w w1 : World} {bs : List Nat} {vs : List Value} {ss : List RowSpec} (h : Owned B w bs vs ss) (i : Nat) (v v' : Value) (s' : RowSpec) (hv : vs[i]? = some v)
    (hbs : ∀ b ∈ bs, b < w.heap.size) (hg : w.grownBy w1 v.ownBlock) (hown : w1.ownsRow B s'.e s'.size v' s'.n s'.xs) (hat : v'.ownBlock = v.ownBlock ∨ ∃ g, v'.ownBlock = some g ∧ w.heap.size ≤ g) :
    Owned B w1 bs (vs.set i v') (ss.set i s') := by
  have hlt : i < vs.length := (List.getElem?_eq_some_iff.1 hv).1
  have old : ∀ (j : Nat) (u : Value) (k : Nat), vs[j]? = some u → u.ownBlock = some k → k < w.heap.size := by
    intro j u k hu e
    have hj := (List.getElem?_eq_some_iff.1 hu).1
    exact (ownsRow_lt (h.own j u _ hu (List.getElem?_eq_getElem (by rw [← h.len]; exact hj))) e).1
  have cases : ∀ (j : Nat) (u : Value), (vs.set i v')[j]? = some u → (j = i ∧ u = v') ∨ (j ≠ i ∧ vs[j]? = some u) := by
    intro j u hu
    by_cases e : i = j
    · subst e
      rw [List.getElem?_set_self hlt] at hu
      exact Or.inl ⟨rfl, (Option.some.inj hu).symm⟩
    · rw [List.getElem?_set_ne e] at hu
      exact Or.inr ⟨fun e' => e e'.symm, hu⟩
  refine ⟨?_, ?_, ?_, by simp [h.len]⟩
  · intro j u s hu hs
    rcases cases j u hu with ⟨rfl, rfl⟩ | ⟨hj, hu'⟩
    · rw [List.getElem?_set_self (by rw [← h.len]; exact hlt)] at hs
      obtain rfl := Option.some.inj hs
      exact hown
    · rw [List.getElem?_set_ne (fun e => hj e.symm)] at hs
      exact ownsRow_grown (h.own j u s hu' hs) hg (fun k hk e => hj (h.apart j i u v k hu' hv hk e.symm))
  · intro j l u u' k hu hu' e e'
    rcases cases j u hu with ⟨rfl, rfl⟩ | ⟨hj, hj'⟩ <;> rcases cases l u' hu' with ⟨rfl, rfl⟩ | ⟨hl, hl'⟩
    · rfl
    · exfalso
      rcases hat with ha | ⟨g, ha, hge⟩
      · exact hl (h.apart _ _ _ _ k hl' hv e' (by rw [← ha]; exact e))
      · have := old _ _ _ hl' e'; rw [ha] at e; simp at e; omega
    · exfalso
      rcases hat with ha | ⟨g, ha, hge⟩
      · exact hj (h.apart _ _ _ _ k hj' hv e (by rw [← ha]; exact e'))
      · have := old _ _ _ hj' e; rw [ha] at e'; simp at e'; omega
    · exact h.apart _ _ _ _ k hj' hl' e e'
  · intro j u b hu hb e
    rcases cases j u hu with ⟨rfl, rfl⟩ | ⟨hj, hj'⟩
    · rcases hat with ha | ⟨g, ha, hge⟩
      · exact h.off _ _ b hv hb (by rw [← ha]; exact e)
      · have := hbs b hb; rw [ha] at e; simp at e; omega
    · exact h.off _ _ b hj' hb e

/-- A cell of slice i is written. -/
theorem Owned.write {B : Nat} {w : World} {bs : List Nat} {vs : List Value} {ss : List RowSpec} (h : Owned B w bs vs ss) (i : Nat) (g n cap : Nat) (s : RowSpec) (hv : vs[i]? = some (.slice (some ⟨g, 0, none⟩) n cap)) (hs : ss[i]? = some s)
    (j : Nat) (u : Value) :
    Owned B (w.setCell ⟨g, j, none⟩ u) bs vs (ss.set i { s with xs := s.xs.set j u }) := by
  refine ⟨?_, h.apart, h.off, by simp [h.len]⟩
  intro l x t hx ht
  by_cases e : i = l
  · subst e
    rw [List.getElem?_set_self (List.getElem?_eq_some_iff.1 hs).1] at ht
    obtain rfl := Option.some.inj ht
    rw [hv] at hx
    obtain rfl := Option.some.inj hx
    obtain ⟨h1, h2⟩ := h.own i _ s hv hs
    refine ⟨by simpa using h1, ?_⟩
    rcases h2 with ⟨h2, _⟩ | ⟨g', cap', cur, hv', hg, hh, hn, hm, hz, ht⟩
    · cases h2
    · simp only [Value.slice.injEq, Option.some.injEq, Addr.mk.injEq, and_true] at hv'
      obtain ⟨rfl, rfl, rfl⟩ := hv'
      refine Or.inr ⟨g, cap, cur.setIfInBounds j u, rfl, hg, ?_, hn, hm, by simpa using hz, ?_⟩
      · exact Blk.set hh j u
      · show List.take _ _ = s.xs.set j u
        rw [← ht]
        simp [List.take_set]
  · rw [List.getElem?_set_ne e] at ht
    refine ownsRow_far (h.own l x t hx ht) ?_ u
    intro e2
    exact e (h.apart i l _ x g hv hx rfl e2)

theorem own_shape {w : World} {base : Nat} {e : TypeId} {size : Nat} {v : Value} {n : Nat} {xs : List Value} (h : w.ownsRow base e size v n xs) : ∃ ao cap, v = .slice ao n cap := by
  rcases h.2 with ⟨h2, h0⟩ | ⟨g, cap, cur, hv, _⟩
  · exact ⟨none, 0, by rw [h2, h0]⟩
  · exact ⟨_, _, hv⟩

/-- An element's cell. -/
theorem own_cell {w : World} {base : Nat} {e : TypeId} {size : Nat} {n g cap : Nat} {xs : List Value} (h : w.ownsRow base e size (.slice (some ⟨g, 0, none⟩) n cap) n xs) (j : Nat) (hj : j < n * size) : w.cell? ⟨g, j, none⟩ = xs[j]? := by
  rcases h.2 with ⟨h2, _⟩ | ⟨g', cap', cur, hv, hg, hh, hn, hm, hs, ht⟩
  · cases h2
  · simp only [Value.slice.injEq, Option.some.injEq, Addr.mk.injEq, and_true, true_and] at hv
    obtain ⟨rfl, rfl⟩ := hv
    rw [← ht]
    simp [World.cell?, hh, hj]
theorem own_free {w : World} {base : Nat} {e : TypeId} {size : Nat} {n g cap : Nat} {xs : List Value} (h : w.ownsRow base e size (.slice (some ⟨g, 0, none⟩) n cap) n xs) (j : Nat) : w.frozen? ⟨g, j, none⟩ = false := by
  rcases h.2 with ⟨h2, _⟩ | ⟨g', cap', cur, hv, hg, hh, hn, hm, hs, ht⟩
  · cases h2
  · simp only [Value.slice.injEq, Option.some.injEq, Addr.mk.injEq, and_true, true_and] at hv
    obtain ⟨rfl, rfl⟩ := hv
    simp [World.frozen?, hh]
theorem own_cap {w : World} {base : Nat} {e : TypeId} {size : Nat} {n g cap : Nat} {xs : List Value} (h : w.ownsRow base e size (.slice (some ⟨g, 0, none⟩) n cap) n xs) : n ≤ cap ∧ cap ≤ maxLen := by
  rcases h.2 with ⟨h2, _⟩ | ⟨g', cap', cur, hv, hg, hh, hn, hm, hs, ht⟩
  · cases h2
  · simp only [Value.slice.injEq, Option.some.injEq, Addr.mk.injEq, and_true, true_and] at hv
    obtain ⟨rfl, rfl⟩ := hv
    exact ⟨hn, hm⟩
/-- A slice is cut at its end. -/
theorem own_cut {w : World} {base : Nat} {e : TypeId} {size : Nat} {n g cap : Nat} {xs : List Value} (h : w.ownsRow base e size (.slice (some ⟨g, 0, none⟩) n cap) n xs) (m : Nat) (hm : m ≤ n) : w.ownsRow base e size (.slice (some ⟨g, 0, none⟩) m cap) m (xs.take (m * size)) := by
  obtain ⟨h1, h2⟩ := h
  have hle : m * size ≤ n * size := Nat.mul_le_mul_right _ hm
  refine ⟨by rw [List.length_take, h1]; omega, ?_⟩
  rcases h2 with ⟨h2, _⟩ | ⟨g', cap', cur, hv, hg, hh, hn, hmx, hs, ht⟩
  · cases h2
  · simp only [Value.slice.injEq, Option.some.injEq, Addr.mk.injEq, and_true, true_and] at hv
    obtain ⟨rfl, rfl⟩ := hv
    refine Or.inr ⟨g, cap, cur, rfl, hg, hh, by omega, hmx, hs, ?_⟩
    rw [← ht, List.take_take]; congr 1; omega

theorem grownBy_alloc {w w1 : World} {o : Obj} {row : Option Nat} (h : (w.alloc o).drew.grownBy w1 row) : w.grownBy w1 row := by
  refine ⟨h.os, h.tape, h.output, Nat.le_trans ?_ h.size, fun k hk hr => ?_⟩
  · show w.heap.size ≤ (w.alloc o).heap.size; simp
  · rw [h.block k (by show k < (w.alloc o).heap.size; simp; omega) hr]
    exact Below.heap_alloc _ _ _ hk
theorem step_call {P : Program} {ops : Array Oper} {o : Oper} {a : Act} {w : World} {K : Act → World → Prop} {Q : Exit → Act → World → Prop} {E : Prop} (hgd : o.guard = none) (f : FuncId) (args : Array Operand) (tys : Array TypeId)
    (ho : o.op = .call { callee := .value (.func f), args := args, argTypes := tys }) {fn : Func} (hf : P.funcs[f]? = some fn) (hn : (fn.name == "runtime.NumGoroutine") = false) (hb : fn.body.isNone = false) (vals : Array Value) (hvals : args.map a.eval = vals) {R : Ending → World → Prop} (hc : Calls P f vals w R)
    (h : ∀ e w', R e w' → ∃ v, e = .returned v ∧ K (a.put o.dst v) w') :
    if Region.wanted o (yielded ops a.tmps) = true then Oper.wp P o a w K Q else E := by
  have hw : Region.wanted o (yielded ops a.tmps) = true := by simp [Region.wanted, hgd]
  rw [if_pos hw]
  subst hvals
  have hrun : (callFunc f (args.map a.eval)).run P w = .ok (.enter f (args.map a.eval)) w := by
    have h1 : fn.name ≠ "runtime.NumGoroutine" := by simpa using hn
    have h2 : fn.body ≠ none := by intro e; rw [e] at hb; cases hb
    simp [callFunc, hf, h1, h2]
  have he : execOp a.eval o = callFunc f (args.map a.eval) := by
    cases o with
    | mk dst op type pos after guard =>
      simp only at ho
      subst ho
      rw [execOp_call_go]
      simp
  unfold Oper.wp
  rw [he, hrun]
  show Calls P f (args.map a.eval) w _
  refine hc.mono ?_
  intro e w' hr
  obtain ⟨v, rfl, hk⟩ := h e w' hr
  exact hk

theorem drawn_drawn (w : World) (a b : Nat) : (w.drewN a).drewN b = w.drewN (a + b) := by simp [World.drewN, Nat.add_assoc]

/-- The blocks of a struct at b and of its slices. -/
def foot (b : Nat) (vs : List Value) (k : Nat) : Prop := k = b ∨ ∃ (i : Nat) (v : Value), vs[i]? = some v ∧ v.ownBlock = some k

/-- Only blocks of that footprint have turned; the footprint has grown by new blocks alone. -/
structure Moved (w : World) (b : Nat) (vs : List Value) (w' : World) (vs' : List Value) : Prop where
  os : w'.os = w.os
  tape : w'.tape = w.tape
  output : w'.output = w.output
  size : w.heap.size ≤ w'.heap.size
  keep : ∀ k, k < w.heap.size → ¬ foot b vs k → w'.heap[k]? = w.heap[k]?
  grew : ∀ k, foot b vs' k → foot b vs k ∨ w.heap.size ≤ k

theorem Moved.refl (w : World) (b : Nat) (vs : List Value) : Moved w b vs w vs := ⟨rfl, rfl, rfl, Nat.le_refl _, fun _ _ _ => rfl, fun _ h => Or.inl h⟩
theorem Moved.trans {w w' w'' : World} {b : Nat} {vs vs' vs'' : List Value} (h : Moved w b vs w' vs') (k : Moved w' b vs' w'' vs'') : Moved w b vs w'' vs'' := by
  refine ⟨k.os.trans h.os, k.tape.trans h.tape, k.output.trans h.output, Nat.le_trans h.size k.size, ?_, ?_⟩
  · intro i hi hf
    rw [k.keep i (by have := h.size; omega) (fun e => by rcases h.grew i e with e1 | e1; exact hf e1; omega), h.keep i hi hf]
  · intro i hf
    rcases k.grew i hf with e | e
    · exact h.grew i e
    · exact Or.inr (by have := h.size; omega)
theorem Moved.below {w w' : World} {b : Nat} {vs vs' : List Value} {B : Nat} (h : Moved w b vs w' vs') (hB : ∀ k, foot b vs k → B ≤ k) (hs : B ≤ w.heap.size) : Below B w w' :=
  ⟨h.os, h.tape, h.output, h.size, fun k hk => h.keep k (by omega) (fun e => by have := hB k e; omega)⟩
theorem moved_drawn (w : World) (b : Nat) (vs : List Value) (n : Nat) : Moved w b vs (w.drewN n) vs := ⟨rfl, rfl, rfl, Nat.le_refl _, fun _ _ _ => rfl, fun _ h => Or.inl h⟩
theorem moved_drew (w : World) (b : Nat) (vs : List Value) : Moved w b vs w.drew vs := ⟨rfl, rfl, rfl, Nat.le_refl _, fun _ _ _ => rfl, fun _ h => Or.inl h⟩
theorem moved_alloc (w : World) (b : Nat) (vs : List Value) (o : Obj) : Moved w b vs (w.alloc o) vs := ⟨rfl, rfl, rfl, by simp, fun _ hk _ => Below.heap_alloc _ _ _ hk, fun _ h => Or.inl h⟩
theorem moved_set (w : World) (b : Nat) (vs : List Value) (c : Nat) (u : Value) : Moved w b vs (w.setCell ⟨b, c, none⟩ u) vs :=
  ⟨rfl, rfl, rfl, by simp [World.setCell], fun k _ hf => Below.heap_setCell _ _ _ _ (fun e => hf (Or.inl e)), fun _ h => Or.inl h⟩
theorem moved_write (w : World) (b : Nat) (vs : List Value) (i g n cap j : Nat) (hv : vs[i]? = some (.slice (some ⟨g, 0, none⟩) n cap)) (u : Value) : Moved w b vs (w.setCell ⟨g, j, none⟩ u) vs :=
  ⟨rfl, rfl, rfl, by simp [World.setCell], fun k _ hf => Below.heap_setCell _ _ _ _ (fun e => hf (Or.inr ⟨i, _, hv, by rw [e]; rfl⟩)), fun _ h => Or.inl h⟩
theorem moved_grow {w w1 : World} {b : Nat} {vs : List Value} (i : Nat) (v v' : Value) (hv : vs[i]? = some v) (hg : w.grownBy w1 v.ownBlock) (hat : v'.ownBlock = v.ownBlock ∨ ∃ g, v'.ownBlock = some g ∧ w.heap.size ≤ g) : Moved w b vs w1 (vs.set i v') := by
  refine ⟨hg.os, hg.tape, hg.output, hg.size, fun k hk hf => hg.block k hk (fun e => hf (Or.inr ⟨i, v, hv, e.symm⟩)), ?_⟩
  rintro k (rfl | ⟨j, x, hx, hk⟩)
  · exact Or.inl (Or.inl rfl)
  · by_cases e : i = j
    · subst e
      rw [List.getElem?_set_self (List.getElem?_eq_some_iff.1 hv).1] at hx
      obtain rfl := Option.some.inj hx
      rcases hat with ha | ⟨g, ha, hge⟩
      · exact Or.inl (Or.inr ⟨i, v, hv, by rw [← ha]; exact hk⟩)
      · rw [ha] at hk; obtain rfl := Option.some.inj hk; exact Or.inr hge
    · rw [List.getElem?_set_ne e] at hx
      exact Or.inl (Or.inr ⟨j, x, hx, hk⟩)

theorem lies_at {v : Value} {g H n cap : Nat} (hat : v.ownBlock = some g ∨ g = H) {k : Nat} (hH : k ≤ H) : (Value.slice (some ⟨g, 0, none⟩) n cap).ownBlock = v.ownBlock ∨ ∃ g', (Value.slice (some ⟨g, 0, none⟩) n cap).ownBlock = some g' ∧ k ≤ g' := by
  rcases hat with e | e
  · exact Or.inl e.symm
  · exact Or.inr ⟨g, rfl, by omega⟩

/-- What is owned lies below the heap's end and from B on. -/
theorem Owned.foot {B : Nat} {w : World} {b : Nat} {vs : List Value} {ss : List RowSpec} (h : Owned B w [b] vs ss) (hb : B ≤ b) (hlt : b < w.heap.size) {k : Nat} (hk : foot b vs k) : B ≤ k ∧ k < w.heap.size := by
  rcases hk with rfl | ⟨i, v, hv, e⟩
  · exact ⟨hb, hlt⟩
  · have hi := (List.getElem?_eq_some_iff.1 hv).1
    have := ownsRow_lt (h.own i v _ hv (List.getElem?_eq_getElem (by rw [← h.len]; exact hi))) e
    exact ⟨this.2, this.1⟩
/-- append(nil, s...) where s is empty. -/
theorem step_append_zero {P : Program} {w : World} {ops : Array Oper} {o : Oper} {a : Act} {K : Act → World → Prop} {Q : Exit → Act → World → Prop} {E : Prop} (hgd : o.guard = none) (s x : Operand) (t : TypeId)
    (ho : o.op = .call { callee := .builtin .append, args := #[s, x], argTypes := #[t, t] })
    (e : TypeId) (i : TypeInfo) (z : Value) (size bytes : Nat) (ht : P.underlying t = some (.slice e)) (hi : P.info? e = some i) (hz : i.zero = some z)
    (hsize : i.size = size) (hby : i.bytes = bytes) (hzs : z.cells.size = size) (hsz : 0 < size)
    (hs : a.eval s = .slice none 0 0) (ao : Option Addr) (c : Nat) (hx : a.eval x = .slice ao 0 c) (hnone : ao = none → c = 0)
    (h : ∀ w', w.grownBy w' none → K (a.put o.dst (.slice none 0 0)) w') :
    if Region.wanted o (yielded ops a.tmps) = true then Oper.wp P o a w K Q else E := by
  have hw : Region.wanted o (yielded ops a.tmps) = true := by simp [Region.wanted, hgd]
  rw [if_pos hw]
  cases ao with
  | none =>
    obtain rfl := hnone rfl
    have hrun := run_append_owned_none (P := P) (w := w) w.heap.size t o.type e i size ht hi (.slice none 0 0) 0 [] (World.ownsRow_nil w _ e size)
    unfold Oper.wp execOp
    simp only [ho, resolve, invoke, builtin, Sem.run_bind, Sem.run_pure, Result.andThen_ok, List.map_toArray, List.map_cons, List.map_nil, hs, hx, hrun]
    exact h w (World.grownBy.refl _ _)
  | some ad =>
    obtain ⟨v', w', hr, _, h3, h4⟩ := run_append_own (P := P) w w.heap.size t o.type e i z size bytes ht hi hz hsize hby hzs hsz (.slice none 0 0) 0 [] (World.ownsRow_nil w _ e size) ad 0 c [] (by simp) (by simp) (by simp) (by unfold maxLen; omega) (by omega) (Nat.le_refl _)
    obtain rfl := h4.2 ⟨rfl, rfl⟩
    unfold Oper.wp execOp
    simp only [ho, resolve, invoke, builtin, Sem.run_bind, Sem.run_pure, Result.andThen_ok, List.map_toArray, List.map_cons, List.map_nil, hs, hx, hr]
    exact h w' h3

/-- Some of the slices, more struct blocks that are apart. -/
theorem Owned.sub {B : Nat} {w : World} {bs bs' : List Nat} {vs vs' : List Value} {ss ss' : List RowSpec} (h : Owned B w bs vs ss) (f : Nat → Nat) (hf : ∀ i j, f i = f j → i = j) (hlen : vs'.length = ss'.length)
    (hv : ∀ (i : Nat) (v : Value), vs'[i]? = some v → vs[f i]? = some v) (hs : ∀ (i : Nat) (s : RowSpec), ss'[i]? = some s → ss[f i]? = some s) (hb : ∀ b ∈ bs', b ∈ bs ∨ w.heap.size ≤ b) : Owned B w bs' vs' ss' :=
  Owned.more ⟨fun i v s h1 h2 => h.own _ v s (hv i v h1) (hs i s h2), fun i j v v' k h1 h2 h3 h4 => hf i j (h.apart _ _ v v' k (hv i v h1) (hv j v' h2) h3 h4), fun i v b h1 h2 => h.off _ v b (hv i v h1) h2, hlen⟩ hb
/-- A nil slice beside. -/
theorem Owned.nil {B : Nat} {w : World} {bs : List Nat} {vs : List Value} {ss : List RowSpec} (h : Owned B w bs vs ss) (e : TypeId) (size : Nat) : Owned B w bs (vs ++ [.slice none 0 0]) (ss ++ [⟨e, size, 0, []⟩]) := by
  have hl := h.len
  have cases : ∀ (i : Nat) (v : Value), (vs ++ [.slice none 0 0])[i]? = some v → (i < vs.length ∧ vs[i]? = some v) ∨ (i = vs.length ∧ v = .slice none 0 0) := by
    intro i v hv
    rcases Nat.lt_or_ge i vs.length with hi | hi
    · rw [List.getElem?_append_left hi] at hv; exact Or.inl ⟨hi, hv⟩
    · rw [List.getElem?_append_right hi] at hv
      have : i - vs.length = 0 := by
        have := (List.getElem?_eq_some_iff.1 hv).1
        simp at this; omega
      rw [this] at hv
      simp at hv
      exact Or.inr ⟨by omega, hv.symm⟩
  refine ⟨?_, ?_, ?_, by simp [hl]⟩
  · intro i v s hv hs
    rcases cases i v hv with ⟨hi, hv'⟩ | ⟨rfl, rfl⟩
    · rw [List.getElem?_append_left (by rw [← hl]; exact hi)] at hs
      exact h.own i v s hv' hs
    · rw [hl, List.getElem?_append_right (Nat.le_refl _)] at hs
      simp at hs
      subst hs
      exact World.ownsRow_nil _ _ _ _
  · intro i j v v' k hv hv' hk hk'
    rcases cases i v hv with ⟨_, hv2⟩ | ⟨_, rfl⟩
    · rcases cases j v' hv' with ⟨_, hv3⟩ | ⟨_, rfl⟩
      · exact h.apart i j v v' k hv2 hv3 hk hk'
      · simp [Value.ownBlock] at hk'
    · simp [Value.ownBlock] at hk
  · intro i v b hv hb hk
    rcases cases i v hv with ⟨_, hv2⟩ | ⟨_, rfl⟩
    · exact h.off i v b hv2 hb hk
    · simp [Value.ownBlock] at hk
section
variable {P : Program} (w : World)
theorem run_append_keep (t ty : TypeId) (base : Nat) (e : TypeId) (i : TypeInfo) (z : Value) (size bytes : Nat) (ht : P.underlying t = some (.slice e)) (hi : P.info? e = some i) (hz : i.zero = some z)
    (hsize : i.size = size) (hby : i.bytes = bytes) (hzs : z.cells.size = size) (hsz : 0 < size)
    (v : Value) (n : Nat) (xs : List Value) (hown : w.ownsRow base e size v n xs)
    (ad : Addr) (m c : Nat) (news : List Value) (hl : news.length = m * size) (hnews : ∀ j u, news[j]? = some u → w.cell? (ad.add j) = some u) (h1 : ∀ u ∈ news, u.oneCell' = true)
    (hm : 0 < m) (h63 : n + m ≤ maxLen) (hbytes : (n + m) * bytes ≤ 140737488355328) (hbase : base ≤ w.heap.size) (H : Nat) (hH : w.heap.size = H) :
    ∃ g cap w', (Builtin.append_ #[t, t] ty #[v, .slice (some ad) m c]).run P w = .ok (.slice (some ⟨g, 0, none⟩) (n + m) cap) w' ∧
      w'.ownsRow base e size (.slice (some ⟨g, 0, none⟩) (n + m) cap) (n + m) (xs ++ news) ∧ w.grownBy w' v.ownBlock ∧
      (v = .slice (some ⟨g, 0, none⟩) n cap ∨ g = H ∧ ∀ k, k < w.heap.size → w'.heap[k]? = w.heap[k]?) ∧ g < w'.heap.size := by
  obtain ⟨g, cap, w', hr, h2, h3, h4, h5⟩ := run_append_lies (P := P) w t ty base e i z size bytes ht hi hz hsize hby hzs hsz v n xs hown ad m c news hl hnews h1 hm h63 hbytes hbase H hH
  refine ⟨g, cap, w', hr, h2, h3, ?_, h5⟩
  rcases hown.2 with ⟨rfl, rfl⟩ | ⟨g0, cap0, cur, rfl, hbg, hg, hnc, hcm, hcs, htake⟩
  · right
    refine ⟨?_, fun k hk => h3.block k hk (by simp [Value.ownBlock])⟩
    rcases h4 with h4 | h4
    · simp [Value.ownBlock] at h4
    · exact h4
  · by_cases hroom : n + m ≤ cap0
    · left
      have hfit : n * i.size + news.length ≤ cur.size := by rw [hl, hcs, hsize, ← Nat.add_mul]; exact Nat.mul_le_mul_right _ hroom
      have hr2 := run_append_room (P := P) w t ty e i ht hi g0 n cap0 cur hg ad m c news (by rw [hsize]; exact hl) hnews h1 hroom hfit
      rw [hr2] at hr
      simp only [Result.ok.injEq, Value.slice.injEq, Option.some.injEq, Addr.mk.injEq, and_true, true_and] at hr
      obtain ⟨⟨rfl, rfl⟩, _⟩ := hr
      rfl
    · right
      have holds : ∀ j u, xs[j]? = some u → w.cell? ((⟨g0, 0, none⟩ : Addr).add j) = some u := hown.cells (g := g0) rfl
      have hr2 := run_append_grow (P := P) w t ty e i z ht hi hz ⟨g0, 0, none⟩ n cap0 xs (by rw [hsize]; exact hown.1) holds ad m c news (by rw [hsize]; exact hl) hnews (by omega) (by simp only [maxLen] at h63; omega) (growslice_fits (by omega) (by rw [hby]; exact hbytes))
      rw [hr2] at hr
      simp only [Result.ok.injEq, Value.slice.injEq, Option.some.injEq, Addr.mk.injEq, and_true, true_and] at hr
      obtain ⟨⟨rfl, _⟩, rfl⟩ := hr
      exact ⟨hH, fun k hk => Below.heap_alloc w.drew _ k hk⟩

theorem wp_append_keep {o : Oper} {a : Act} {K : Act → World → Prop} {Q : Exit → Act → World → Prop} (s x : Operand) (t : TypeId)
    (ho : o.op = .call { callee := .builtin .append, args := #[s, x], argTypes := #[t, t] })
    (base : Nat) (e : TypeId) (i : TypeInfo) (z : Value) (size bytes : Nat) (ht : P.underlying t = some (.slice e)) (hi : P.info? e = some i) (hz : i.zero = some z)
    (hsize : i.size = size) (hby : i.bytes = bytes) (hzs : z.cells.size = size) (hsz : 0 < size)
    (v : Value) (n : Nat) (xs : List Value) (hs : a.eval s = v) (hown : w.ownsRow base e size v n xs)
    (ad : Addr) (m c : Nat) (news : List Value) (hx : a.eval x = .slice (some ad) m c) (hl : news.length = m * size) (hnews : ∀ j u, news[j]? = some u → w.cell? (ad.add j) = some u) (h1 : ∀ u ∈ news, u.oneCell' = true)
    (hm : 0 < m) (h63 : n + m ≤ maxLen) (hbytes : (n + m) * bytes ≤ 140737488355328) (hbase : base ≤ w.heap.size) (H : Nat) (hH : w.heap.size = H)
    (h : ∀ g cap w', w'.ownsRow base e size (.slice (some ⟨g, 0, none⟩) (n + m) cap) (n + m) (xs ++ news) → w.grownBy w' v.ownBlock → (v = .slice (some ⟨g, 0, none⟩) n cap ∨ g = H ∧ ∀ k, k < w.heap.size → w'.heap[k]? = w.heap[k]?) → g < w'.heap.size → K (a.put o.dst (.slice (some ⟨g, 0, none⟩) (n + m) cap)) w') : o.wp P a w K Q := by
  obtain ⟨g, cap, w', hr, h2, h3, h4, h5⟩ := run_append_keep (P := P) w t o.type base e i z size bytes ht hi hz hsize hby hzs hsz v n xs hown ad m c news hl hnews h1 hm h63 hbytes hbase H hH
  unfold Oper.wp execOp
  simp only [ho, resolve, invoke, builtin, Sem.run_bind, Sem.run_pure, Result.andThen_ok, List.map_toArray, List.map_cons, List.map_nil, hs, hx, hr]
  exact h g cap w' h2 h3 h4 h5

theorem wpList_append_keep {ops : Array Oper} {rest : List Oper} {o : Oper} {a : Act} {Q : Exit → Act → World → Prop} (hgd : o.guard = none) (s x : Operand) (t : TypeId)
    (ho : o.op = .call { callee := .builtin .append, args := #[s, x], argTypes := #[t, t] })
    (base : Nat) (e : TypeId) (i : TypeInfo) (z : Value) (size bytes : Nat) (ht : P.underlying t = some (.slice e)) (hi : P.info? e = some i) (hz : i.zero = some z)
    (hsize : i.size = size) (hby : i.bytes = bytes) (hzs : z.cells.size = size) (hsz : 0 < size)
    (v : Value) (n : Nat) (xs : List Value) (hs : a.eval s = v) (hown : w.ownsRow base e size v n xs)
    (ad : Addr) (m c : Nat) (news : List Value) (hx : a.eval x = .slice (some ad) m c) (hl : news.length = m * size) (hnews : ∀ j u, news[j]? = some u → w.cell? (ad.add j) = some u) (h1 : ∀ u ∈ news, u.oneCell' = true)
    (hm : 0 < m) (h63 : n + m ≤ maxLen) (hbytes : (n + m) * bytes ≤ 140737488355328) (hbase : base ≤ w.heap.size) (H : Nat) (hH : w.heap.size = H)
    (h : ∀ g cap w', w'.ownsRow base e size (.slice (some ⟨g, 0, none⟩) (n + m) cap) (n + m) (xs ++ news) → w.grownBy w' v.ownBlock → (v = .slice (some ⟨g, 0, none⟩) n cap ∨ g = H ∧ ∀ k, k < w.heap.size → w'.heap[k]? = w.heap[k]?) → g < w'.heap.size → wpList P ops Q rest (a.put o.dst (.slice (some ⟨g, 0, none⟩) (n + m) cap)) w') : wpList P ops Q (o :: rest) a w :=
  wpList_plain hgd fun _ hK => wp_append_keep w s x t ho base e i z size bytes ht hi hz hsize hby hzs hsz v n xs hs hown ad m c news hx hl hnews h1 hm h63 hbytes hbase H hH fun g cap w' h2 h3 h4 h5 => hK _ _ (h g cap w' h2 h3 h4 h5)
end
end Go.Proofs.YtmeiikjpaepogaaGreatDoor
