/- append: in the old row, where there is room; or in a new block, and then no old block turns. -/
import Derived.Test.YtbcjfiaacenhgaaGreatDoorG01
import Derived.Test.YtbcjfiaacenhgaaGreatDoorRows
namespace Go.Proofs.YtbcjfiaacenhgaaGreatDoor
open Go Go.RowKit

section
variable {P : Program} (w : World)
theorem run_append_keep (t ty : TypeId) (base : Nat) (e : TypeId) (i : TypeInfo) (z : Value) (size bytes : Nat) (ht : P.underlying t = some (.slice e)) (hi : P.info? e = some i) (hz : i.zero = some z)
    (hsize : i.size = size) (hby : i.bytes = bytes) (hzs : z.cells.size = size) (hsz : 0 < size)
    (v : Value) (n : Nat) (xs : List Value) (hown : w.ownsRow base e size v n xs)
    (ad : Addr) (m c : Nat) (news : List Value) (hl : news.length = m * size) (hnews : ∀ j u, news[j]? = some u → w.cell? (ad.add j) = some u) (h1 : ∀ u ∈ news, u.oneCell' = true)
    (hm : 0 < m) (h63 : n + m ≤ maxLen) (hbytes : (n + m) * bytes ≤ 140737488355328) (hbase : base ≤ w.heap.size) (H : Nat) (hH : w.heap.size = H) :
    ∃ g cap w', (Builtin.append_ #[t, t] ty #[v, .slice (some ad) m c]).run P w = .ok (.slice (some ⟨g, 0, none⟩) (n + m) cap) w' ∧
      w'.ownsRow base e size (.slice (some ⟨g, 0, none⟩) (n + m) cap) (n + m) (xs ++ news) ∧ w.grownBy w' v.ownBlock ∧
      (v = .slice (some ⟨g, 0, none⟩) n cap ∨ g = H ∧ ∀ k, k < w.heap.size → w'.heap[k]? = w.heap[k]?) ∧ g < w'.heap.size := by
  obtain ⟨g, cap, w', hr, h2, h3, h4, h5⟩ := run_append_lies (P := P) w t ty base e i z size bytes ht hi hz hsize hby hzs hsz v n xs hown ad m c news hl hnews h1 hm h63 hbytes hbase H hH
  refine ⟨g, cap, w', hr, h2, h3, ?_, h5⟩
  rcases hown.2 with ⟨rfl, rfl⟩ | ⟨g0, cap0, cur, rfl, hbg, hg, hnc, hcm, hcs, htake⟩
  · right
    refine ⟨?_, fun k hk => h3.block k hk (by simp [Value.ownBlock])⟩
    rcases h4 with h4 | h4
    · simp [Value.ownBlock] at h4
    · exact h4
  · by_cases hroom : n + m ≤ cap0
    · left
      have hfit : n * i.size + news.length ≤ cur.size := by rw [hl, hcs, hsize, ← Nat.add_mul]; exact Nat.mul_le_mul_right _ hroom
      have hr2 := run_append_room (P := P) w t ty e i ht hi g0 n cap0 cur hg ad m c news (by rw [hsize]; exact hl) hnews h1 hroom hfit
      rw [hr2] at hr
      simp only [Result.ok.injEq, Value.slice.injEq, Option.some.injEq, Addr.mk.injEq, and_true, true_and] at hr
      obtain ⟨⟨rfl, rfl⟩, _⟩ := hr
      rfl
    · right
      have holds : ∀ j u, xs[j]? = some u → w.cell? ((⟨g0, 0, none⟩ : Addr).add j) = some u := hown.cells (g := g0) rfl
      have hr2 := run_append_grow (P := P) w t ty e i z ht hi hz ⟨g0, 0, none⟩ n cap0 xs (by rw [hsize]; exact hown.1) holds ad m c news (by rw [hsize]; exact hl) hnews (by omega) (by simp only [maxLen] at h63; omega) (growslice_fits (by omega) (by rw [hby]; exact hbytes))
      rw [hr2] at hr
      simp only [Result.ok.injEq, Value.slice.injEq, Option.some.injEq, Addr.mk.injEq, and_true, true_and] at hr
      obtain ⟨⟨rfl, _⟩, rfl⟩ := hr
      exact ⟨hH, fun k hk => Below.heap_alloc w.drew _ k hk⟩

theorem wp_append_keep {o : Oper} {a : Act} {K : Act → World → Prop} {Q : Exit → Act → World → Prop} (s x : Operand) (t : TypeId)
    (ho : o.op = .call { callee := .builtin .append, args := #[s, x], argTypes := #[t, t] })
    (base : Nat) (e : TypeId) (i : TypeInfo) (z : Value) (size bytes : Nat) (ht : P.underlying t = some (.slice e)) (hi : P.info? e = some i) (hz : i.zero = some z)
    (hsize : i.size = size) (hby : i.bytes = bytes) (hzs : z.cells.size = size) (hsz : 0 < size)
    (v : Value) (n : Nat) (xs : List Value) (hs : a.eval s = v) (hown : w.ownsRow base e size v n xs)
    (ad : Addr) (m c : Nat) (news : List Value) (hx : a.eval x = .slice (some ad) m c) (hl : news.length = m * size) (hnews : ∀ j u, news[j]? = some u → w.cell? (ad.add j) = some u) (h1 : ∀ u ∈ news, u.oneCell' = true)
    (hm : 0 < m) (h63 : n + m ≤ maxLen) (hbytes : (n + m) * bytes ≤ 140737488355328) (hbase : base ≤ w.heap.size) (H : Nat) (hH : w.heap.size = H)
    (h : ∀ g cap w', w'.ownsRow base e size (.slice (some ⟨g, 0, none⟩) (n + m) cap) (n + m) (xs ++ news) → w.grownBy w' v.ownBlock → (v = .slice (some ⟨g, 0, none⟩) n cap ∨ g = H ∧ ∀ k, k < w.heap.size → w'.heap[k]? = w.heap[k]?) → g < w'.heap.size → K (a.put o.dst (.slice (some ⟨g, 0, none⟩) (n + m) cap)) w') : o.wp P a w K Q := by
  obtain ⟨g, cap, w', hr, h2, h3, h4, h5⟩ := run_append_keep (P := P) w t o.type base e i z size bytes ht hi hz hsize hby hzs hsz v n xs hown ad m c news hl hnews h1 hm h63 hbytes hbase H hH
  unfold Oper.wp execOp
  simp only [ho, resolve, invoke, builtin, Sem.run_bind, Sem.run_pure, Result.andThen_ok, List.map_toArray, List.map_cons, List.map_nil, hs, hx, hr]
  exact h g cap w' h2 h3 h4 h5

theorem wpList_append_keep {ops : Array Oper} {rest : List Oper} {o : Oper} {a : Act} {Q : Exit → Act → World → Prop} (hgd : o.guard = none) (s x : Operand) (t : TypeId)
    (ho : o.op = .call { callee := .builtin .append, args := #[s, x], argTypes := #[t, t] })
    (base : Nat) (e : TypeId) (i : TypeInfo) (z : Value) (size bytes : Nat) (ht : P.underlying t = some (.slice e)) (hi : P.info? e = some i) (hz : i.zero = some z)
    (hsize : i.size = size) (hby : i.bytes = bytes) (hzs : z.cells.size = size) (hsz : 0 < size)
    (v : Value) (n : Nat) (xs : List Value) (hs : a.eval s = v) (hown : w.ownsRow base e size v n xs)
    (ad : Addr) (m c : Nat) (news : List Value) (hx : a.eval x = .slice (some ad) m c) (hl : news.length = m * size) (hnews : ∀ j u, news[j]? = some u → w.cell? (ad.add j) = some u) (h1 : ∀ u ∈ news, u.oneCell' = true)
    (hm : 0 < m) (h63 : n + m ≤ maxLen) (hbytes : (n + m) * bytes ≤ 140737488355328) (hbase : base ≤ w.heap.size) (H : Nat) (hH : w.heap.size = H)
    (h : ∀ g cap w', w'.ownsRow base e size (.slice (some ⟨g, 0, none⟩) (n + m) cap) (n + m) (xs ++ news) → w.grownBy w' v.ownBlock → (v = .slice (some ⟨g, 0, none⟩) n cap ∨ g = H ∧ ∀ k, k < w.heap.size → w'.heap[k]? = w.heap[k]?) → g < w'.heap.size → wpList P ops Q rest (a.put o.dst (.slice (some ⟨g, 0, none⟩) (n + m) cap)) w') : wpList P ops Q (o :: rest) a w :=
  wpList_plain hgd fun _ hK => wp_append_keep w s x t ho base e i z size bytes ht hi hz hsize hby hzs hsz v n xs hs hown ad m c news hx hl hnews h1 hm h63 hbytes hbase H hH fun g cap w' h2 h3 h4 h5 => hK _ _ (h g cap w' h2 h3 h4 h5)
end

end Go.Proofs.YtbcjfiaacenhgaaGreatDoor

/- Only blocks of a given kind have turned. -/
namespace Go.Proofs.YtbcjfiaacenhgaaGreatDoor
open Go Go.RowKit

structure Still (w w' : World) (F : Nat → Prop) : Prop where
  os : w'.os = w.os
  tape : w'.tape = w.tape
  output : w'.output = w.output
  size : w.heap.size ≤ w'.heap.size
  block : ∀ k, k < w.heap.size → ¬ F k → w'.heap[k]? = w.heap[k]?

theorem Still.refl (w : World) (F : Nat → Prop) : Still w w F := ⟨rfl, rfl, rfl, Nat.le_refl _, fun _ _ _ => rfl⟩
theorem Still.trans {w w1 w2 : World} {F G : Nat → Prop} (h : Still w w1 F) (k : Still w1 w2 G) (hg : ∀ i, i < w.heap.size → G i → F i) : Still w w2 F :=
  ⟨k.os.trans h.os, k.tape.trans h.tape, k.output.trans h.output, Nat.le_trans h.size k.size, fun i hi hf => by
    rw [k.block i (by have := h.size; omega) (fun e => hf (hg i hi e)), h.block i hi hf]⟩
theorem Still.mono {w w' : World} {F G : Nat → Prop} (h : Still w w' F) (hg : ∀ i, i < w.heap.size → F i → G i) : Still w w' G :=
  ⟨h.os, h.tape, h.output, h.size, fun i hi hf => h.block i hi (fun e => hf (hg i hi e))⟩
theorem Still.alloc {w w' : World} {F : Nat → Prop} (h : Still w w' F) (o : Obj) : Still w (w'.alloc o) F :=
  ⟨h.os, h.tape, h.output, by have := h.size; simp; omega, fun k hk hf => by rw [Below.heap_alloc _ _ _ (by have := h.size; omega)]; exact h.block k hk hf⟩
theorem Still.drew {w w' : World} {F : Nat → Prop} (h : Still w w' F) : Still w w'.drew F := ⟨h.os, h.tape, h.output, h.size, h.block⟩
theorem Still.drewN {w w' : World} {F : Nat → Prop} (h : Still w w' F) (n : Nat) : Still w (w'.drewN n) F := ⟨h.os, h.tape, h.output, h.size, h.block⟩
theorem Still.set {w w' : World} {F : Nat → Prop} (h : Still w w' F) {b : Nat} (hb : F b ∨ w.heap.size ≤ b) (c : Nat) (u : Value) : Still w (w'.setCell ⟨b, c, none⟩ u) F :=
  ⟨h.os, h.tape, h.output, by have := h.size; simpa [World.setCell] using this, fun k hk hf => by
    rw [Below.heap_setCell _ _ _ _ (fun e => ?_)]
    · exact h.block k hk hf
    · simp at e
      subst e
      rcases hb with hb | hb
      · exact hf hb
      · omega⟩
theorem Still.grown {w w' w'' : World} {F : Nat → Prop} {row : Option Nat} (h : Still w w' F) (hg : w'.grownBy w'' row) (hr : ∀ k, row = some k → F k ∨ w.heap.size ≤ k) : Still w w'' F :=
  ⟨hg.os.trans h.os, hg.tape.trans h.tape, hg.output.trans h.output, Nat.le_trans h.size hg.size, fun k hk hf => by
    rw [hg.block k (by have := h.size; omega) (fun e => ?_)]
    · exact h.block k hk hf
    · rcases hr k e.symm with h1 | h1
      · exact hf h1
      · omega⟩
theorem Still.ofBelow {w w' : World} {B : Nat} (h : Below B w w') : Still w w' (fun k => B ≤ k) :=
  ⟨h.os, h.tape, h.output, h.size, fun k _ hf => h.block k (by omega)⟩
theorem Still.below {w w' : World} {F : Nat → Prop} {B : Nat} (h : Still w w' F) (hB : ∀ k, F k → B ≤ k) (hs : B ≤ w.heap.size) : Below B w w' :=
  ⟨h.os, h.tape, h.output, h.size, fun k hk => h.block k (by omega) (fun e => by have := hB k e; omega)⟩
theorem Blk.still {w w' : World} {F : Nat → Prop} {b : Nat} {cs : Array Value} {T : TypeId} (h : Blk w b cs T) (hs : Still w w' F) (hF : ¬ F b) : Blk w' b cs T := by
  have := hs.block b h.lt hF
  unfold Blk at *
  rw [this]; exact h
theorem ownsRow_still {w w' : World} {F : Nat → Prop} {base : Nat} {e : TypeId} {size : Nat} {v : Value} {n : Nat} {xs : List Value} (h : w.ownsRow base e size v n xs) (hs : Still w w' F) (hF : ∀ k, v.ownBlock = some k → ¬ F k) : w'.ownsRow base e size v n xs :=
  ownsRow_of_block h (fun k hk hlt => hs.block k hlt (hF k hk))
/-- Rows of different types lie apart. -/
theorem rows_apart {w : World} {b1 b2 : Nat} {e1 e2 : TypeId} {s1 s2 : Nat} {v1 v2 : Value} {n1 n2 : Nat} {x1 x2 : List Value} (h1 : w.ownsRow b1 e1 s1 v1 n1 x1) (h2 : w.ownsRow b2 e2 s2 v2 n2 x2) (he : e1 ≠ e2) {k : Nat} (hk : v1.ownBlock = some k) : v2.ownBlock ≠ some k := by
  intro hk2
  rcases h1.2 with ⟨rfl, _⟩ | ⟨g, cap, cur, rfl, _, hg, _⟩
  · simp [Value.ownBlock] at hk
  · rcases h2.2 with ⟨rfl, _⟩ | ⟨g2, cap2, cur2, rfl, _, hg2, _⟩
    · simp [Value.ownBlock] at hk2
    · simp [Value.ownBlock] at hk hk2
      subst hk hk2
      rw [hg] at hg2
      simp at hg2
      exact he hg2.2
theorem row_not_blk {w : World} {b : Nat} {cs : Array Value} {T : TypeId} {b1 : Nat} {e1 : TypeId} {s1 : Nat} {v1 : Value} {n1 : Nat} {x1 : List Value} (h : Blk w b cs T) (h1 : w.ownsRow b1 e1 s1 v1 n1 x1) (he : e1 ≠ T) : v1.ownBlock ≠ some b := by
  intro hk
  rcases h1.2 with ⟨rfl, _⟩ | ⟨g, cap, cur, rfl, _, hg, _⟩
  · simp [Value.ownBlock] at hk
  · simp [Value.ownBlock] at hk
    subst hk
    unfold Blk at h
    rw [hg] at h
    simp at h
    exact he h.2
/-- What owns a row still owns it, where in its place a longer one has come. -/
theorem own_prefix {w w' : World} {base b2 : Nat} {e : TypeId} {size : Nat} {g n n' cap cap' : Nat} {xs ys : List Value} (hsz : 0 < size) (h : w.ownsRow base e size (.slice (some ⟨g, 0, none⟩) n' cap') n' xs)
    (h1 : w.ownsRow b2 e size (.slice (some ⟨g, 0, none⟩) n cap) n ys) {zs : List Value} {m : Nat} (h2 : w'.ownsRow b2 e size (.slice (some ⟨g, 0, none⟩) m cap) m zs) (hm : n' ≤ m) (hp : zs.take (n' * size) = xs) :
    w'.ownsRow base e size (.slice (some ⟨g, 0, none⟩) n' cap') n' xs := by
  rcases h.2 with ⟨h0, _⟩ | ⟨g1, c1, cur1, e1, hb1, hg1, hn1, hm1, hc1, ht1⟩
  · simp at h0
  rcases h1.2 with ⟨h0, _⟩ | ⟨g2, c2, cur2, e2, hb2, hg2, hn2, hm2, hc2, ht2⟩
  · simp at h0
  rcases h2.2 with ⟨h0, _⟩ | ⟨g3, c3, cur3, e3, hb3, hg3, hn3, hm3, hc3, ht3⟩
  · simp at h0
  simp only [Value.slice.injEq, Option.some.injEq, Addr.mk.injEq, and_true, true_and] at e1 e2 e3
  obtain ⟨rfl, rfl⟩ := e1
  obtain ⟨rfl, rfl⟩ := e2
  obtain ⟨rfl, rfl⟩ := e3
  rw [hg1] at hg2
  simp at hg2
  subst hg2
  have hcc : cap' = cap := by
    rw [hc1] at hc2
    exact Nat.eq_of_mul_eq_mul_right hsz hc2
  subst hcc
  refine ⟨h.1, Or.inr ⟨g, cap', cur3, rfl, hb1, hg3, hn1, hm1, hc3, ?_⟩⟩
  rw [← hp, ← ht3, List.take_take]
  congr 1
  have := Nat.mul_le_mul_right size hm
  omega

end Go.Proofs.YtbcjfiaacenhgaaGreatDoor

/- The reference's Reader in memory, and its small methods. -/
namespace Go.Proofs.YtbcjfiaacenhgaaGreatDoor
open Go Go.RowKit

/-- The Reader as data. -/
structure RS where
  s : ByteArray
  next : Nat
  place0 : Nat
  token : ByteArray
  c0 : List (Int × Int)
  c1 : List (Int × Int)
  names : List (ByteArray × Int × Int)
  opens : List (ByteArray × Int × Int)
  start : Int
  name : ByteArray
  cells : Int
  heads : List Int
  err : Int
  place : Int

def instrCells (l : List (Int × Int)) : List Value := l.flatMap fun x => [.int .i64 x.1, .int .i64 x.2]
def nameCells (l : List (ByteArray × Int × Int)) : List Value := l.flatMap fun x => [.string x.1, .int .i64 x.2.1, .int .i64 x.2.2]

def rdArr (st : RS) (v4 v5 v6 v7 v11 : Value) : Array Value :=
  #[.string st.s, .int .i64 st.next, .int .i64 st.place0, .string st.token, v4, v5, v6, v7, .int .i64 st.start, .string st.name, .int .i64 st.cells, v11, .int .i64 st.err, .int .i64 st.place]

def rdRows (st : RS) : List RowSpec :=
  [⟨34, 2, st.c0.length, instrCells st.c0⟩, ⟨34, 2, st.c1.length, instrCells st.c1⟩, ⟨121, 3, st.names.length, nameCells st.names⟩, ⟨125, 3, st.opens.length, nameCells st.opens⟩, ⟨3, 1, st.heads.length, st.heads.map (Value.int .i64)⟩]

structure Rd (B : Nat) (w : World) (b : Nat) (st : RS) (v4 v5 v6 v7 v11 : Value) : Prop where
  blk : Blk w b (rdArr st v4 v5 v6 v7 v11) 87
  base : B ≤ b
  owned : Owned B w [b] [v4, v5, v6, v7, v11] (rdRows st)
  small : st.c0.length ≤ 4000 ∧ st.c1.length ≤ 4000 ∧ st.names.length ≤ 4000 ∧ st.opens.length ≤ 4000 ∧ st.heads.length ≤ 4000 ∧ st.s.size ≤ 2000

section
variable {B : Nat} {w : World} {b : Nat} {st : RS} {v4 v5 v6 v7 v11 : Value}
theorem Rd.o4 (h : Rd B w b st v4 v5 v6 v7 v11) : w.ownsRow B 34 2 v4 st.c0.length (instrCells st.c0) := h.owned.own 0 v4 _ rfl rfl
theorem Rd.o5 (h : Rd B w b st v4 v5 v6 v7 v11) : w.ownsRow B 34 2 v5 st.c1.length (instrCells st.c1) := h.owned.own 1 v5 _ rfl rfl
theorem Rd.o6 (h : Rd B w b st v4 v5 v6 v7 v11) : w.ownsRow B 121 3 v6 st.names.length (nameCells st.names) := h.owned.own 2 v6 _ rfl rfl
theorem Rd.o7 (h : Rd B w b st v4 v5 v6 v7 v11) : w.ownsRow B 125 3 v7 st.opens.length (nameCells st.opens) := h.owned.own 3 v7 _ rfl rfl
theorem Rd.o11 (h : Rd B w b st v4 v5 v6 v7 v11) : w.ownsRow B 3 1 v11 st.heads.length (st.heads.map (Value.int .i64)) := h.owned.own 4 v11 _ rfl rfl
theorem Rd.ne (h : Rd B w b st v4 v5 v6 v7 v11) (i : Nat) (v : Value) (hv : [v4, v5, v6, v7, v11][i]? = some v) : some b ≠ v.ownBlock := fun e => h.owned.off i v b hv (by simp) e.symm
theorem Rd.drewN (h : Rd B w b st v4 v5 v6 v7 v11) (n : Nat) : Rd B (w.drewN n) b st v4 v5 v6 v7 v11 := ⟨h.blk, h.base, h.owned.drewN n, h.small⟩
theorem Rd.drew (h : Rd B w b st v4 v5 v6 v7 v11) : Rd B w.drew b st v4 v5 v6 v7 v11 := ⟨h.blk, h.base, h.owned.drew, h.small⟩
theorem Rd.alloc (h : Rd B w b st v4 v5 v6 v7 v11) (o : Obj) : Rd B (w.alloc o) b st v4 v5 v6 v7 v11 := ⟨h.blk.alloc o, h.base, h.owned.alloc o, h.small⟩
/-- A cell of the Reader's own is written. -/
theorem Rd.set (h : Rd B w b st v4 v5 v6 v7 v11) (i : Nat) (v : Value) (st' : RS) (ha : (rdArr st v4 v5 v6 v7 v11).setIfInBounds i v = rdArr st' v4 v5 v6 v7 v11) (hr : rdRows st' = rdRows st) (hs : st'.c0 = st.c0 ∧ st'.c1 = st.c1 ∧ st'.names = st.names ∧ st'.opens = st.opens ∧ st'.heads = st.heads ∧ st'.s = st.s) : Rd B (w.setCell ⟨b, i, none⟩ v) b st' v4 v5 v6 v7 v11 := by
  obtain ⟨h1, h2, h3, h4, h5, h6⟩ := hs
  refine ⟨?_, h.base, ?_, by rw [h1, h2, h3, h4, h5, h6]; exact h.small⟩
  · rw [← ha]; exact h.blk.set i v
  · rw [hr]; exact h.owned.set (by simp) i v
end

set_option maxHeartbeats 400000 in
theorem fail_any (B b : Nat) (st : RS) (v4 v5 v6 v7 v11 : Value) (e0 : Int) (w : World) (h : Rd B w b st v4 v5 v6 v7 v11) :
    Calls Tryz.prog 32 #[.pointer (some ⟨b, 0, none⟩), .int .i64 e0] w fun e w' => e = .returned (.tuple #[]) ∧
      w' = if st.err = 0 then (w.setCell ⟨b, 12, none⟩ (.int .i64 e0)).setCell ⟨b, 13, none⟩ (.int .i64 st.place0) else w := by
  have hb := h.blk
  unfold rdArr at hb
  have hc := hb.cell
  have hf := hb.free
  clear hb
  by_cases he : st.err = 0
  · go_enter Tryz.func32, Tryz.ntmps32
    go_wp2
    go_end0
    exact ⟨rfl, rfl⟩
  · go_enter Tryz.func32, Tryz.ntmps32
    go_wp2
    go_end0
    exact ⟨rfl, rfl⟩

end Go.Proofs.YtbcjfiaacenhgaaGreatDoor

/- The reference's Reader: part, here, last, find. -/
namespace Go.Proofs.YtbcjfiaacenhgaaGreatDoor
open Go Go.RowKit

def partS (st : RS) : Int := if 0 ≤ st.start then 0 else 1

set_option maxHeartbeats 400000 in
theorem part_any (B b : Nat) (st : RS) (v4 v5 v6 v7 v11 : Value) (w : World) (h : Rd B w b st v4 v5 v6 v7 v11) :
    Calls Tryz.prog 59 #[.pointer (some ⟨b, 0, none⟩)] w fun e w' => e = .returned (.int .i64 (partS st)) ∧ w' = w := by
  have hb := h.blk
  unfold rdArr at hb
  have hc := hb.cell
  have hf := hb.free
  clear hb
  unfold partS
  by_cases he : 0 ≤ st.start
  · rw [if_pos he]
    go_enter Tryz.func59, Tryz.ntmps59
    go_wp2
    go_ret
    exact ⟨rfl, rfl⟩
  · rw [if_neg he]
    go_enter Tryz.func59, Tryz.ntmps59
    go_wp2
    go_ret
    exact ⟨rfl, rfl⟩

def hereS (st : RS) : Nat := if 0 ≤ st.start then st.c0.length else st.c1.length

set_option maxHeartbeats 400000 in
theorem here_any (B b : Nat) (st : RS) (v4 v5 v6 v7 v11 : Value) (w : World) (h : Rd B w b st v4 v5 v6 v7 v11) :
    Calls Tryz.prog 54 #[.pointer (some ⟨b, 0, none⟩)] w fun e w' => e = .returned (.int .i64 (hereS st)) ∧ ∃ n, w' = w.drewN n := by
  obtain ⟨a4, k4, rfl⟩ := own_shape h.o4
  obtain ⟨a5, k5, rfl⟩ := own_shape h.o5
  have hb := h.blk
  unfold rdArr at hb
  have hc := hb.cell
  have hf := hb.free
  clear hb
  unfold hereS
  by_cases he : 0 ≤ st.start
  · rw [if_pos he]
    have hp : ∀ n, Calls Tryz.prog 59 #[.pointer (some ⟨b, 0, none⟩)] (w.drewN n) fun e w' => e = .returned (.int .i64 0) ∧ w' = (w.drewN n) := by
      intro n
      have := part_any B b st _ _ _ _ _ _ (h.drewN n)
      rw [partS, if_pos he] at this
      exact this
    go_enter Tryz.func54, Tryz.ntmps54
    go_wp2_with fail
    go_quiet ((go_at_call 59; exact Calls.quiet_of_same (hp _)))
    go_wp2
    go_ret
    exact ⟨rfl, _, rfl⟩
  · rw [if_neg he]
    have hp : ∀ n, Calls Tryz.prog 59 #[.pointer (some ⟨b, 0, none⟩)] (w.drewN n) fun e w' => e = .returned (.int .i64 1) ∧ w' = (w.drewN n) := by
      intro n
      have := part_any B b st _ _ _ _ _ _ (h.drewN n)
      rw [partS, if_neg he] at this
      exact this
    go_enter Tryz.func54, Tryz.ntmps54
    go_wp2_with fail
    go_quiet ((go_at_call 59; exact Calls.quiet_of_same (hp _)))
    go_wp2
    go_ret
    exact ⟨rfl, _, rfl⟩

theorem nameCells_length (l : List (ByteArray × Int × Int)) : (nameCells l).length = l.length * 3 := by
  induction l with
  | nil => rfl
  | cons x l ih => simp only [nameCells, List.flatMap_cons] at *; simp [ih]; omega
theorem nameCells_at (l : List (ByteArray × Int × Int)) (i : Nat) (x : ByteArray × Int × Int) (h : l[i]? = some x) :
    (nameCells l)[i * 3]? = some (.string x.1) ∧ (nameCells l)[i * 3 + 1]? = some (.int .i64 x.2.1) ∧ (nameCells l)[i * 3 + 2]? = some (.int .i64 x.2.2) := by
  induction l generalizing i with
  | nil => simp at h
  | cons y l ih =>
    cases i with
    | zero => simp at h; subst h; simp [nameCells]
    | succ i =>
      simp only [List.getElem?_cons_succ] at h
      have := ih i h
      simp only [nameCells, List.flatMap_cons] at *
      have e1 : (i + 1) * 3 = i * 3 + 3 := by omega
      rw [e1]
      exact this
theorem instrCells_length (l : List (Int × Int)) : (instrCells l).length = l.length * 2 := by
  induction l with
  | nil => rfl
  | cons x l ih => simp only [instrCells, List.flatMap_cons] at *; simp [ih]; omega
theorem instrCells_at (l : List (Int × Int)) (i : Nat) (x : Int × Int) (h : l[i]? = some x) :
    (instrCells l)[i * 2]? = some (.int .i64 x.1) ∧ (instrCells l)[i * 2 + 1]? = some (.int .i64 x.2) := by
  induction l generalizing i with
  | nil => simp at h
  | cons y l ih =>
    cases i with
    | zero => simp at h; subst h; simp [instrCells]
    | succ i =>
      simp only [List.getElem?_cons_succ] at h
      have := ih i h
      simp only [instrCells, List.flatMap_cons] at *
      have e1 : (i + 1) * 2 = i * 2 + 2 := by omega
      rw [e1]
      exact this

def lastS (st : RS) : ByteArray := match st.opens.getLast? with | none => ⟨#[]⟩ | some o => o.1

set_option maxHeartbeats 400000 in
theorem last_none (B b : Nat) (st : RS) (v4 v5 v6 v7 v11 : Value) (w : World) (h : Rd B w b st v4 v5 v6 v7 v11) (he : st.opens = []) :
    Calls Tryz.prog 53 #[.pointer (some ⟨b, 0, none⟩)] w fun e w' => e = .returned (.string ⟨#[]⟩) ∧ ∃ n, w' = w.drewN n := by
  obtain ⟨a7, k7, rfl⟩ := own_shape h.o7
  have hb := h.blk
  unfold rdArr at hb
  rw [he] at hb
  have hc := hb.cell
  have hf := hb.free
  clear hb
  go_enter Tryz.func53, Tryz.ntmps53
  go_wp2
  go_ret
  exact ⟨rfl, 0, rfl⟩

set_option maxHeartbeats 400000 in
theorem last_some (B b : Nat) (st : RS) (v4 v5 v6 v7 v11 : Value) (w : World) (h : Rd B w b st v4 v5 v6 v7 v11) (l : List (ByteArray × Int × Int)) (x : ByteArray × Int × Int) (he : st.opens = l ++ [x]) :
    Calls Tryz.prog 53 #[.pointer (some ⟨b, 0, none⟩)] w fun e w' => e = .returned (.string x.1) ∧ ∃ n, w' = w.drewN n := by
  have hn : st.opens.length = l.length + 1 := by rw [he]; simp
  obtain ⟨g, k7, rfl, hg, hgl⟩ := h.o7.form (by omega)
  have hb := h.blk
  unfold rdArr at hb
  have ho := h.o7
  rw [hn] at hb ho
  have hx := own_cell ho (l.length * 3) (by omega)
  rw [he, (nameCells_at (l ++ [x]) l.length x (by simp)).1] at hx
  have hs : (l.length : Int) ≤ 4000 := by have := h.small; omega
  have hc := hb.cell
  have hf := hb.free
  clear hb ho
  go_enter Tryz.func53, Tryz.ntmps53
  go_wp2_with fail
  go_quiet (fail)
  go_wp2
  go_ret
  exact ⟨rfl, _, rfl⟩

end Go.Proofs.YtbcjfiaacenhgaaGreatDoor

