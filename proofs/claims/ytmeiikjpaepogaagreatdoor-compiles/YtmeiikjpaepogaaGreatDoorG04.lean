/- The reference's Machine in memory; refused, its first four grounds. -/
import Derived.Test.YtmeiikjpaepogaaGreatDoorG03
import Derived.Test.YtmeiikjpaepogaaGreatDoorG02
namespace Go.Proofs.YtmeiikjpaepogaaGreatDoor
open Go Go.RowKit

/-- The Machine as data. -/
structure MS where
  p : Nat
  ls : Int
  la : Int
  lc : Int
  lo : Int
  stack : List Int
  side : List Int
  calls : List Int
  cells : List Int
  out : ByteArray
  pc : Int
  halted : Bool
  ks : List (Nat × Array Value × TypeId)

def mcArr (m : MS) (v5 v6 v7 v8 : Value) : Array Value :=
  #[.pointer (some ⟨m.p, 0, none⟩), .int .i64 m.ls, .int .i64 m.la, .int .i64 m.lc, .int .i64 m.lo, v5, v6, v7, v8, .string m.out, .int .i64 m.pc, .bool m.halted]
def intCells (l : List Int) : List Value := l.map (Value.int .i64)
def mcRows (m : MS) : List RowSpec :=
  [⟨2, 1, m.stack.length, intCells m.stack⟩, ⟨2, 1, m.side.length, intCells m.side⟩, ⟨3, 1, m.calls.length, intCells m.calls⟩, ⟨2, 1, m.cells.length, intCells m.cells⟩]

def inI (x : Int) : Prop := -9223372036854775808 ≤ x ∧ x ≤ 9223372036854775807

structure Mc (B : Nat) (w : World) (b : Nat) (m : MS) (v5 v6 v7 v8 : Value) : Prop where
  blk : Blk w b (mcArr m v5 v6 v7 v8) 189
  base : B ≤ b
  owned : Owned B w (b :: m.ks.map (fun x => x.1)) [v5, v6, v7, v8] (mcRows m)
  lims : (1 ≤ m.ls ∧ m.ls ≤ 1000) ∧ (1 ≤ m.la ∧ m.la ≤ 1000) ∧ (1 ≤ m.lc ∧ m.lc ≤ 1000) ∧ (1 ≤ m.lo ∧ m.lo ≤ 1000)
  small : m.stack.length ≤ 1000 ∧ m.side.length ≤ 1000 ∧ m.calls.length ≤ 1000 ∧ m.cells.length ≤ 1000 ∧ m.out.size ≤ 1000 ∧ (m.out.size : Int) ≤ m.lo
  ints : (∀ x ∈ m.stack, inI x) ∧ (∀ x ∈ m.side, inI x) ∧ (∀ x ∈ m.cells, inI x)
  kept : ∀ x ∈ m.ks, Blk w x.1 x.2.1 x.2.2
  kne : ∀ x ∈ m.ks, b ≠ x.1

section
variable {B : Nat} {w : World} {b : Nat} {m : MS} {v5 v6 v7 v8 : Value}
theorem Mc.o5 (h : Mc B w b m v5 v6 v7 v8) : w.ownsRow B 2 1 v5 m.stack.length (intCells m.stack) := h.owned.own 0 v5 _ rfl rfl
theorem Mc.o6 (h : Mc B w b m v5 v6 v7 v8) : w.ownsRow B 2 1 v6 m.side.length (intCells m.side) := h.owned.own 1 v6 _ rfl rfl
theorem Mc.o7 (h : Mc B w b m v5 v6 v7 v8) : w.ownsRow B 3 1 v7 m.calls.length (intCells m.calls) := h.owned.own 2 v7 _ rfl rfl
theorem Mc.o8 (h : Mc B w b m v5 v6 v7 v8) : w.ownsRow B 2 1 v8 m.cells.length (intCells m.cells) := h.owned.own 3 v8 _ rfl rfl
theorem Mc.drewN (h : Mc B w b m v5 v6 v7 v8) (n : Nat) : Mc B (w.drewN n) b m v5 v6 v7 v8 := ⟨h.blk, h.base, h.owned.drewN n, h.lims, h.small, h.ints, h.kept, h.kne⟩
end

theorem needs_bd (op : Int) : 0 ≤ (needsS op).1 ∧ (needsS op).1 ≤ 3 ∧ -2 ≤ (needsS op).2 ∧ (needsS op).2 ≤ 1 := by
  unfold needsS
  repeat' split
  all_goals simp
theorem aside_bd (op : Int) : 0 ≤ (asideS op).1 ∧ (asideS op).1 ≤ 2 ∧ -1 ≤ (asideS op).2 ∧ (asideS op).2 ≤ 2 := by
  unfold asideS
  repeat' split
  all_goals simp

set_option maxRecDepth 100000 in
set_option maxHeartbeats 1000000 in
theorem refused_under (B b : Nat) (m : MS) (v5 v6 v7 v8 : Value) (op : Int) (w : World) (h : Mc B w b m v5 v6 v7 v8) (hu : (m.stack.length : Int) < (needsS op).1) :
    Calls Tryz.prog 183 #[.pointer (some ⟨b, 0, none⟩), .int .i64 op] w fun e w' => e = .returned (.int .i64 7) ∧ ∃ n, w' = w.drewN n := by
  obtain ⟨a5, k5, hv5⟩ := own_shape h.o5
  subst hv5
  have hc := h.blk.cell
  unfold mcArr at hc
  have HN := hide (needs_any op w)
  have HA := hide (aside_any op w)
  generalize (needsS op).1 = nd at HN hu
  generalize (needsS op).2 = mr at HN
  generalize (asideS op).1 = sa at HA
  generalize (asideS op).2 = up at HA
  go_enter Tryz.func183, Tryz.ntmps183
  go_wp2_with fail
  refine (unhide HN).mono ?_
  rintro e w2 ⟨rfl, hw⟩
  obtain rfl := hw.symm
  clear hw
  go_wp2_with fail
  refine (unhide HA).mono ?_
  rintro e w2 ⟨rfl, hw⟩
  obtain rfl := hw.symm
  clear hw
  go_wp2_with fail
  go_ret
  exact ⟨rfl, 0, rfl⟩

end Go.Proofs.YtmeiikjpaepogaaGreatDoor

/- The statements' holds: marks. -/
namespace Go.Proofs.YtmeiikjpaepogaaGreatDoor
open Go Go.RowKit

theorem own_set {w : World} {base : Nat} {e : TypeId} {size : Nat} {g n cap : Nat} {xs : List Value} (h : w.ownsRow base e size (.slice (some ⟨g, 0, none⟩) n cap) n xs) (j : Nat) (u : Value) : (w.setCell ⟨g, j, none⟩ u).ownsRow base e size (.slice (some ⟨g, 0, none⟩) n cap) n (xs.set j u) := by
  have ho : Owned base w [] [.slice (some ⟨g, 0, none⟩) n cap] [⟨e, size, n, xs⟩] := by
    refine ⟨?_, ?_, fun _ _ _ _ hb => by simp at hb, rfl⟩
    · intro i v s hv hs
      match i, (List.getElem?_eq_some_iff.1 hv).1 with
      | 0, _ => simp at hv hs; subst hv hs; exact h
    · intro i j v v' k hv hv' _ _
      have h1 := (List.getElem?_eq_some_iff.1 hv).1
      have h2 := (List.getElem?_eq_some_iff.1 hv').1
      simp at h1 h2
      omega
  have h2 := ho.write 0 g n cap _ rfl rfl j u
  exact h2.own 0 _ _ rfl rfl

theorem instr_set (a r : List (Int × Int)) (x y : Int × Int) (k : Nat) (hk : a.length = k) : ((instrCells (a ++ x :: r)).set (k * 2) (.int .i64 y.1)).set (k * 2 + 1) (.int .i64 y.2) = instrCells (a ++ y :: r) := by
  subst hk
  induction a with
  | nil => simp [instrCells]
  | cons z a ih =>
    have e1 : (z :: a).length * 2 = a.length * 2 + 2 := by simp; omega
    rw [e1]
    simp only [instrCells, List.cons_append, List.flatMap_cons, List.nil_append] at ih ⊢
    have e2 : a.length * 2 + 2 + 1 = (a.length * 2 + 1) + 2 := by omega
    rw [e2]
    simp only [List.set_cons_succ]
    rw [ih]
theorem drop_cons_of {α : Type} (l : List α) (k : Nat) (h : k < l.length) : ∃ x, l.drop k = x :: l.drop (k + 1) := ⟨_, List.drop_eq_getElem_cons h⟩
theorem markI_length (k : Nat) (mk : Int) : (markI k mk).length = k := by simp [markI]
theorem mark_next (l : List (Int × Int)) (k : Nat) (mk : Int) (h : k < l.length) :
    ((instrCells (markI k mk ++ l.drop k)).set (k * 2) (.int .i64 (-1))).set (k * 2 + 1) (.int .i64 (-mk)) = instrCells (markI (k + 1) mk ++ l.drop (k + 1)) := by
  obtain ⟨x, hx⟩ := drop_cons_of l k h
  rw [hx, instr_set (markI k mk) _ x (-1, -mk) k (markI_length k mk)]
  have e : markI (k + 1) mk = markI k mk ++ [(-1, -mk)] := by unfold markI; rw [List.replicate_succ']
  rw [e, List.append_assoc]
  rfl
theorem markN_next (l : List Int) (k : Nat) (mk : Int) (h : k < l.length) : (markN k mk ++ intCells (l.drop k)).set k (.int .i64 (-mk)) = markN (k + 1) mk ++ intCells (l.drop (k + 1)) := by
  obtain ⟨x, hx⟩ := drop_cons_of l k h
  have e : markN (k + 1) mk = markN k mk ++ [.int .i64 (-mk)] := by unfold markN; rw [List.replicate_succ']
  have hl : (markN k mk).length = k := by simp [markN]
  rw [hx, e, List.append_assoc]
  unfold intCells
  rw [List.map_cons, List.set_append_right _ _ (by omega), hl, Nat.sub_self]
  rfl

set_option maxRecDepth 100000 in
set_option maxHeartbeats 2000000 in
theorem marks_any (q : Nat) (mk : Int) (vi vn : Value) (li : List (Int × Int)) (ln : List Int) (w : World) (hblk : Blk w q #[vi, vn, .int .i64 mk] 134)
    (hi : w.ownsRow 0 65 2 vi li.length (instrCells li)) (hn : w.ownsRow 0 2 1 vn ln.length (intCells ln)) (hmk : 0 ≤ mk ∧ mk ≤ 1152921504606846976) (hli : li.length ≤ 17592186044416) (hln : ln.length ≤ 17592186044416) :
    Calls Tryz.prog 133 #[.pointer (some ⟨q, 0, none⟩)] w fun e w' => e = .returned (.tuple #[]) ∧ HoldIs w' q mk vi vn li.length ln.length ∧ Still w w' (fun k => vi.ownBlock = some k ∨ vn.ownBlock = some k) := by
  have hqi := row_not_blk hblk hi (by decide)
  have hqn := row_not_blk hblk hn (by decide)
  have hap : ∀ k, vi.ownBlock = some k → vn.ownBlock ≠ some k := fun k hk => rows_apart hi hn (by decide) hk
  have hc0 := hblk.cell
  have hw : IntKind.i64.wrap (-mk) = -mk := by rw [IntKind.wrap_i64]; omega
  have hliI : (li.length : Int) ≤ 17592186044416 := by omega
  have hlnI : (ln.length : Int) ≤ 17592186044416 := by omega
  obtain ⟨ai, ci, hvi⟩ := own_shape hi
  obtain ⟨an, cn, hvn⟩ := own_shape hn
  subst hvi hvn
  have HBLK := hide hblk
  have HI := hide hi
  have HN := hide hn
  have HAP := hide hap
  clear hi hn hblk hli hln hap
  go_enter Tryz.func133, Tryz.ntmps133
  go_wp2_with fail
  go_loopw [3] (fun i wr => ∃ k : Nat, i = .int .i64 k ∧ k ≤ li.length ∧ Blk wr q #[.slice ai li.length ci, .slice an ln.length cn, .int .i64 mk] 134 ∧ wr.ownsRow 0 65 2 (.slice ai li.length ci) li.length (instrCells (markI k mk ++ li.drop k)) ∧ wr.ownsRow 0 2 1 (.slice an ln.length cn) ln.length (intCells ln) ∧ Still w wr (fun k => (Value.slice ai li.length ci).ownBlock = some k ∨ (Value.slice an ln.length cn).ownBlock = some k)) (fun i _ => li.length - (intOf i).toNat)
  case atStart => exact ⟨0, rfl, Nat.zero_le _, unhide HBLK, unhide HI, unhide HN, Still.refl _ _⟩
  case round =>
    obtain ⟨k, rfl, hk, hb, hi, hn, hs⟩ := hrel
    have hc := hb.cell
    have HB := hide hb
    have HI2 := hide hi
    have HN2 := hide hn
    have HS := hide hs
    clear hc0
    by_cases hlt : k < li.length
    · obtain ⟨g, cap, hv, _, hgl⟩ := hi.form (by omega)
      simp only [Value.slice.injEq, true_and] at hv
      obtain ⟨rfl, rfl⟩ := hv
      have hc1 := own_cell hi (k * 2) (by omega)
      have hc2 := own_cell hi (k * 2 + 1) (by omega)
      have hf1 := own_free hi (k * 2)
      have hf2 := own_free hi (k * 2 + 1)
      obtain ⟨x, hx⟩ := drop_cons_of li k hlt
      have hx' : (markI k mk ++ li.drop k)[k]? = some x := by
        rw [hx, List.getElem?_append_right (by rw [markI_length]; exact Nat.le_refl _), markI_length, Nat.sub_self]; rfl
      rw [(instrCells_at _ _ _ hx').1] at hc1
      rw [(instrCells_at _ _ _ hx').2] at hc2
      have hltI : (k : Int) < li.length := by omega
      have hgq : g ≠ q := fun e => hqi (by rw [← e]; rfl)
      have hqg : q ≠ g := fun e => hgq e.symm
      clear hb hi hn hs hx hx'
      go_wp2_with fail
      go_roundw
      case rel =>
        refine ⟨k + 1, by go_num, by omega, ((unhide HB).far hqg _).far hqg _, ?_, ?_, ?_⟩
        · rw [← mark_next li k mk hlt]
          exact own_set (own_set (unhide HI2) _ _) _ _
        · have h2 : (Value.slice an ln.length cn).ownBlock ≠ some g := unhide HAP g rfl
          exact ownsRow_far (ownsRow_far (unhide HN2) h2 _) h2 _
        · exact ((unhide HS).set (Or.inl (Or.inl rfl)) _ _).set (Or.inl (Or.inl rfl)) _ _
      case measure => simp [intOf]; omega
    · have hkn : k = li.length := by omega
      subst hkn
      rw [List.drop_length, List.append_nil] at HI2
      clear hb hi hn hs
      obtain ⟨wo, rfl⟩ : ∃ wo : World, wo = wr := ⟨_, rfl⟩
      go_wp2_with fail
      go_loopw [4] (fun i wr => ∃ k : Nat, i = .int .i64 k ∧ k ≤ ln.length ∧ Blk wr q #[.slice ai li.length ci, .slice an ln.length cn, .int .i64 mk] 134 ∧ wr.ownsRow 0 65 2 (.slice ai li.length ci) li.length (instrCells (markI li.length mk)) ∧ wr.ownsRow 0 2 1 (.slice an ln.length cn) ln.length (markN k mk ++ intCells (ln.drop k)) ∧ Still w wr (fun k => (Value.slice ai li.length ci).ownBlock = some k ∨ (Value.slice an ln.length cn).ownBlock = some k)) (fun i _ => ln.length - (intOf i).toNat)
      case atStart => exact ⟨0, rfl, Nat.zero_le _, unhide HB, unhide HI2, unhide HN2, unhide HS⟩
      case round =>
        obtain ⟨k, rfl, hk, hb, hi, hn, hs⟩ := hrel
        clear hc
        have hc := hb.cell
        clear HB HI2 HN2 HS
        have HB := hide hb
        have HI2 := hide hi
        have HN2 := hide hn
        have HS := hide hs
        by_cases hlt2 : k < ln.length
        · obtain ⟨g, cap, hv, _, hgl⟩ := hn.form (by omega)
          simp only [Value.slice.injEq, true_and] at hv
          obtain ⟨rfl, rfl⟩ := hv
          have hc1 := own_cell hn k (by omega)
          have hf1 := own_free hn k
          obtain ⟨x, hx⟩ := drop_cons_of ln k hlt2
          have hx' : (markN k mk ++ intCells (ln.drop k))[k]? = some (.int .i64 x) := by
            rw [hx, List.getElem?_append_right (by simp [markN])]; simp [markN, intCells]
          rw [hx'] at hc1
          have hltI : (k : Int) < ln.length := by omega
          have hgq : g ≠ q := fun e => hqn (by rw [← e]; rfl)
          have hqg : q ≠ g := fun e => hgq e.symm
          clear hb hi hn hs hx hx'
          go_wp2_with fail
          go_roundw
          case rel =>
            refine ⟨k + 1, by go_num, by omega, (unhide HB).far hqg _, ?_, ?_, ?_⟩
            · have h2 : (Value.slice ai li.length ci).ownBlock ≠ some g := fun e => unhide HAP g e rfl
              exact ownsRow_far (unhide HI2) h2 _
            · rw [← markN_next ln k mk hlt2]
              exact own_set (unhide HN2) _ _
            · exact (unhide HS).set (Or.inl (Or.inr rfl)) _ _
          case measure => simp [intOf]; omega
        · have hkn : k = ln.length := by omega
          subst hkn
          rw [List.drop_length] at HN2
          have HN3 := unhide HN2
          rw [show intCells [] = [] from rfl, List.append_nil] at HN3
          clear hb hi hn hs
          go_wp2_with fail
          go_end0
          exact ⟨rfl, ⟨unhide HB, unhide HI2, HN3, hmk, by omega⟩, unhide HS⟩

end Go.Proofs.YtmeiikjpaepogaaGreatDoor

/- The reference's Machine: refused: over, low, high. -/
namespace Go.Proofs.YtmeiikjpaepogaaGreatDoor
open Go Go.RowKit

set_option maxRecDepth 100000 in
set_option maxHeartbeats 1000000 in
theorem refused_over (B b : Nat) (m : MS) (v5 v6 v7 v8 : Value) (op : Int) (w : World) (h : Mc B w b m v5 v6 v7 v8) (hu : (needsS op).1 ≤ m.stack.length) (hm : 0 < (needsS op).2) (ho : m.ls < m.stack.length + (needsS op).2) :
    Calls Tryz.prog 183 #[.pointer (some ⟨b, 0, none⟩), .int .i64 op] w fun e w' => e = .returned (.int .i64 8) ∧ ∃ n, w' = w.drewN n := by
  obtain ⟨a5, k5, hv5⟩ := own_shape h.o5
  obtain ⟨a6, k6, hv6⟩ := own_shape h.o6
  subst hv5
  subst hv6
  have hc := h.blk.cell
  unfold mcArr at hc
  have hl := h.lims
  have hsm := h.small
  have s1 : (m.stack.length : Int) ≤ 1000 := by omega
  have s2 : (m.side.length : Int) ≤ 1000 := by omega
  have l1 : m.ls ≤ 1000 := by omega
  have l2 : m.la ≤ 1000 := by omega
  have b1 := needs_bd op
  have b2 := aside_bd op
  have HN := hide (needs_any op w)
  have HA := hide (aside_any op w)
  generalize (needsS op).1 = nd at HN b1 hu
  generalize (needsS op).2 = mr at HN b1 hm ho
  generalize (asideS op).1 = sa at HA b2
  generalize (asideS op).2 = up at HA b2
  obtain ⟨b11, b12, b13, b14⟩ := b1
  obtain ⟨b21, b22, b23, b24⟩ := b2
  clear hl hsm
  have hd : decide (0 < mr) = true := by simpa using hm
  go_enter Tryz.func183, Tryz.ntmps183
  go_wp2_with fail
  refine (unhide HN).mono ?_
  rintro e w2 ⟨rfl, hw⟩
  obtain rfl := hw.symm
  clear hw
  go_wp2_with fail
  refine (unhide HA).mono ?_
  rintro e w2 ⟨rfl, hw⟩
  obtain rfl := hw.symm
  clear hw
  go_wp2_with fail
  go_quiet (fail)
  go_wp2_with fail
  go_ret
  exact ⟨rfl, _, rfl⟩

set_option maxRecDepth 100000 in
set_option maxHeartbeats 1000000 in
theorem refused_low (B b : Nat) (m : MS) (v5 v6 v7 v8 : Value) (op : Int) (w : World) (h : Mc B w b m v5 v6 v7 v8) (hu : (needsS op).1 ≤ m.stack.length) (hf : (needsS op).2 ≤ 0 ∨ 0 < (needsS op).2 ∧ m.stack.length + (needsS op).2 ≤ m.ls) (hlow : (m.side.length : Int) < (asideS op).1) :
    Calls Tryz.prog 183 #[.pointer (some ⟨b, 0, none⟩), .int .i64 op] w fun e w' => e = .returned (.int .i64 9) ∧ ∃ n, w' = w.drewN n := by
  obtain ⟨a5, k5, hv5⟩ := own_shape h.o5
  obtain ⟨a6, k6, hv6⟩ := own_shape h.o6
  subst hv5
  subst hv6
  have hc := h.blk.cell
  unfold mcArr at hc
  have hl := h.lims
  have hsm := h.small
  have s1 : (m.stack.length : Int) ≤ 1000 := by omega
  have s2 : (m.side.length : Int) ≤ 1000 := by omega
  have l1 : m.ls ≤ 1000 := by omega
  have l2 : m.la ≤ 1000 := by omega
  have b1 := needs_bd op
  have b2 := aside_bd op
  have HN := hide (needs_any op w)
  have HA := hide (aside_any op w)
  generalize (needsS op).1 = nd at HN b1 hu
  generalize (needsS op).2 = mr at HN b1 hf
  generalize (asideS op).1 = sa at HA b2 hlow
  generalize (asideS op).2 = up at HA b2
  obtain ⟨b11, b12, b13, b14⟩ := b1
  obtain ⟨b21, b22, b23, b24⟩ := b2
  clear hl hsm
  have hways : (decide (0 < mr) = false) ∨ (decide (0 < mr) = true ∧ (m.stack.length : Int) + mr ≤ m.ls) := by
    rcases hf with e | ⟨e, e'⟩
    · exact Or.inl (by simpa using e)
    · exact Or.inr ⟨by simpa using e, e'⟩
  clear hf
  rcases hways with hd | ⟨hd, hd2⟩
  all_goals
    go_enter Tryz.func183, Tryz.ntmps183
    go_wp2_with fail
    refine (unhide HN).mono ?_
    rintro e w2 ⟨rfl, hw⟩
    obtain rfl := hw.symm
    clear hw
    go_wp2_with fail
    refine (unhide HA).mono ?_
    rintro e w2 ⟨rfl, hw⟩
    obtain rfl := hw.symm
    clear hw
    go_wp2_with fail
    go_quiet (fail)
    go_wp2_with fail
    go_ret
    exact ⟨rfl, _, rfl⟩

set_option maxRecDepth 100000 in
set_option maxHeartbeats 1000000 in
theorem refused_high (B b : Nat) (m : MS) (v5 v6 v7 v8 : Value) (op : Int) (w : World) (h : Mc B w b m v5 v6 v7 v8) (hu : (needsS op).1 ≤ m.stack.length) (hf : (needsS op).2 ≤ 0 ∨ 0 < (needsS op).2 ∧ m.stack.length + (needsS op).2 ≤ m.ls) (hlow : (asideS op).1 ≤ m.side.length) (hup : 0 < (asideS op).2) (hhi : m.la < m.side.length + (asideS op).2) :
    Calls Tryz.prog 183 #[.pointer (some ⟨b, 0, none⟩), .int .i64 op] w fun e w' => e = .returned (.int .i64 10) ∧ ∃ n, w' = w.drewN n := by
  obtain ⟨a5, k5, hv5⟩ := own_shape h.o5
  obtain ⟨a6, k6, hv6⟩ := own_shape h.o6
  subst hv5
  subst hv6
  have hc := h.blk.cell
  unfold mcArr at hc
  have hl := h.lims
  have hsm := h.small
  have s1 : (m.stack.length : Int) ≤ 1000 := by omega
  have s2 : (m.side.length : Int) ≤ 1000 := by omega
  have l1 : m.ls ≤ 1000 := by omega
  have l2 : m.la ≤ 1000 := by omega
  have b1 := needs_bd op
  have b2 := aside_bd op
  have HN := hide (needs_any op w)
  have HA := hide (aside_any op w)
  generalize (needsS op).1 = nd at HN b1 hu
  generalize (needsS op).2 = mr at HN b1 hf
  generalize (asideS op).1 = sa at HA b2 hlow
  generalize (asideS op).2 = up at HA b2 hup hhi
  obtain ⟨b11, b12, b13, b14⟩ := b1
  obtain ⟨b21, b22, b23, b24⟩ := b2
  clear hl hsm
  have hd9 : decide (0 < up) = true := by simpa using hup
  have hways : (decide (0 < mr) = false) ∨ (decide (0 < mr) = true ∧ (m.stack.length : Int) + mr ≤ m.ls) := by
    rcases hf with e | ⟨e, e'⟩
    · exact Or.inl (by simpa using e)
    · exact Or.inr ⟨by simpa using e, e'⟩
  clear hf
  rcases hways with hd | ⟨hd, hd2⟩
  all_goals
    go_enter Tryz.func183, Tryz.ntmps183
    go_wp2_with fail
    refine (unhide HN).mono ?_
    rintro e w2 ⟨rfl, hw⟩
    obtain rfl := hw.symm
    clear hw
    go_wp2_with fail
    refine (unhide HA).mono ?_
    rintro e w2 ⟨rfl, hw⟩
    obtain rfl := hw.symm
    clear hw
    go_wp2_with fail
    go_quiet (fail)
    go_wp2_with fail
    go_quiet (fail)
    go_wp2_with fail
    go_ret
    exact ⟨rfl, _, drawn_drawn _ _ _⟩

end Go.Proofs.YtmeiikjpaepogaaGreatDoor

/- The reference's Machine: refused, what is let by and the other grounds. -/
namespace Go.Proofs.YtmeiikjpaepogaaGreatDoor
open Go Go.RowKit

theorem intCells_last (l : List Int) (t : Int) : (intCells (l ++ [t]))[l.length]? = some (.int .i64 t) := by simp [intCells]

set_option maxRecDepth 100000 in
set_option maxHeartbeats 1000000 in
theorem refused_no (B b : Nat) (m : MS) (v5 v6 v7 v8 : Value) (op : Int) (w : World) (h : Mc B w b m v5 v6 v7 v8) (hu : (needsS op).1 ≤ m.stack.length) (hf : (needsS op).2 ≤ 0 ∨ 0 < (needsS op).2 ∧ m.stack.length + (needsS op).2 ≤ m.ls) (hlow : (asideS op).1 ≤ m.side.length) (hg : (asideS op).2 ≤ 0 ∨ 0 < (asideS op).2 ∧ m.side.length + (asideS op).2 ≤ m.la) (q : (op == 3) = false ∧ (op == 4) = false ∧ (op == 29) = false ∧ (op == 30) = false ∧ (op == 12) = false ∧ (op == 13) = false ∧ (op == 31) = false ∧ (op == 32) = false) :
    Calls Tryz.prog 183 #[.pointer (some ⟨b, 0, none⟩), .int .i64 op] w fun e w' => e = .returned (.int .i64 0) ∧ ∃ n, w' = w.drewN n := by
  obtain ⟨a5, k5, hv5⟩ := own_shape h.o5
  obtain ⟨a6, k6, hv6⟩ := own_shape h.o6
  subst hv5
  subst hv6
  have hc := h.blk.cell
  unfold mcArr at hc
  have hl := h.lims
  have hsm := h.small
  have s1 : (m.stack.length : Int) ≤ 1000 := by omega
  have s2 : (m.side.length : Int) ≤ 1000 := by omega
  have l1 : m.ls ≤ 1000 := by omega
  have hout : (m.out.size : Int) ≤ m.lo := by omega
  have lo1 : m.lo ≤ 1000 := by omega
  have l2 : m.la ≤ 1000 := by omega
  have b1 := needs_bd op
  have b2 := aside_bd op
  have HN := hide (needs_any op w)
  have HA := hide (aside_any op w)
  generalize (needsS op).1 = nd at HN b1 hu
  generalize (needsS op).2 = mr at HN b1 hf
  generalize (asideS op).1 = sa at HA b2 hlow
  generalize (asideS op).2 = up at HA b2 hg
  obtain ⟨b11, b12, b13, b14⟩ := b1
  obtain ⟨b21, b22, b23, b24⟩ := b2
  clear hl hsm
  obtain ⟨q1, q2, q3, q4, q5, q6, q7, q8⟩ := q
  have hways : (decide (0 < mr) = false) ∨ (decide (0 < mr) = true ∧ (m.stack.length : Int) + mr ≤ m.ls) := by
    rcases hf with e | ⟨e, e'⟩
    · exact Or.inl (by simpa using e)
    · exact Or.inr ⟨by simpa using e, e'⟩
  have hways2 : (decide (0 < up) = false) ∨ (decide (0 < up) = true ∧ (m.side.length : Int) + up ≤ m.la) := by
    rcases hg with e | ⟨e, e'⟩
    · exact Or.inl (by simpa using e)
    · exact Or.inr ⟨by simpa using e, e'⟩
  have hst : (m.stack.length = 0) ∨ ∃ (l : List Int) (t : Int), m.stack = l ++ [t] := by
    rcases List.eq_nil_or_concat m.stack with e | ⟨l, t, e⟩
    · exact Or.inl (by rw [e]; rfl)
    · exact Or.inr ⟨l, t, by rw [e, List.concat_eq_append]⟩
  clear hf hg
  rcases hst with hst | ⟨l, t, hst⟩
  · have hst' : (m.stack.length : Int) ≤ 0 := by omega
    clear hst
    rcases hways with hd | ⟨hd, hd2⟩ <;> rcases hways2 with hd3 | ⟨hd3, hd4⟩
    all_goals
      go_enter Tryz.func183, Tryz.ntmps183
      go_wp2_with fail
      refine (unhide HN).mono ?_
      rintro e w2 ⟨rfl, hw⟩
      obtain rfl := hw.symm
      clear hw
      go_wp2_with fail
      refine (unhide HA).mono ?_
      rintro e w2 ⟨rfl, hw⟩
      obtain rfl := hw.symm
      clear hw
      go_wp2_with fail
      go_quiet (fail)
      go_wp2_with fail
      go_quiet (fail)
      go_wp2_with fail
      go_quiet (fail)
      go_wp2_with fail
      go_ret
      exact ⟨rfl, _, drawn_drawn _ _ _⟩
  · have hn : m.stack.length = l.length + 1 := by rw [hst]; simp
    obtain ⟨g5, k5', hv5, _, _⟩ := h.o5.form (by omega)
    simp only [Value.slice.injEq, true_and] at hv5
    obtain ⟨rfl, rfl⟩ := hv5
    have hx := own_cell h.o5 l.length (by omega)
    rw [hst, intCells_last] at hx
    rw [hn] at hc hu s1 hways
    have hst' : ((l.length : Int) + 1) ≤ 1000 := by omega
    clear hst hn
    simp only [Int.natCast_add, Int.cast_ofNat_Int] at hu s1 hways
    rcases hways with hd | ⟨hd, hd2⟩ <;> rcases hways2 with hd3 | ⟨hd3, hd4⟩
    all_goals
      go_enter Tryz.func183, Tryz.ntmps183
      go_wp2_with fail
      refine (unhide HN).mono ?_
      rintro e w2 ⟨rfl, hw⟩
      obtain rfl := hw.symm
      clear hw
      go_wp2_with fail
      refine (unhide HA).mono ?_
      rintro e w2 ⟨rfl, hw⟩
      obtain rfl := hw.symm
      clear hw
      go_wp2_with fail
      go_quiet (fail)
      go_wp2_with fail
      go_quiet (fail)
      go_wp2_with fail
      go_quiet (fail)
      go_wp2_with fail
      go_quiet (fail)
      go_wp2_with fail
      go_ret
      exact ⟨rfl, _, drawn_drawn _ _ _⟩

end Go.Proofs.YtmeiikjpaepogaaGreatDoor

/- The reference's Reader: find. -/
namespace Go.Proofs.YtmeiikjpaepogaaGreatDoor
open Go Go.RowKit

def findS (l : List (ByteArray × Int × Int)) (s : ByteArray) : Int := match l.findIdx? (fun x => x.1 == s) with | some k => k | none => -1

theorem findIdx_at (l : List (ByteArray × Int × Int)) (s : ByteArray) (k : Nat) (x : ByteArray × Int × Int) (hx : l[k]? = some x) (he : (x.1 == s) = true) (hn : ∀ j x, j < k → l[j]? = some x → (x.1 == s) = false) : l.findIdx? (fun x => x.1 == s) = some k := by
  obtain ⟨hlt, hx'⟩ := List.getElem?_eq_some_iff.1 hx
  rw [List.findIdx?_eq_some_iff_getElem]
  refine ⟨hlt, by rw [hx']; exact he, ?_⟩
  intro j hj
  rw [hn j l[j] hj (List.getElem?_eq_getElem (by omega))]
  simp
theorem findIdx_none (l : List (ByteArray × Int × Int)) (s : ByteArray) (k : Nat) (hk : k ≤ l.length) (hk2 : ¬ k < l.length) (hn : ∀ j x, j < k → l[j]? = some x → (x.1 == s) = false) : l.findIdx? (fun x => x.1 == s) = none := by
  rw [List.findIdx?_eq_none_iff]
  intro x hx
  obtain ⟨j, hj, rfl⟩ := List.getElem_of_mem hx
  exact hn j _ (by omega) (List.getElem?_eq_getElem hj)

set_option maxHeartbeats 400000 in
theorem find_any (B b : Nat) (st : RS) (v4 v5 v6 v7 v11 : Value) (w : World) (s : ByteArray) (h : Rd B w b st v4 v5 v6 v7 v11) :
    Calls Tryz.prog 180 #[.pointer (some ⟨b, 0, none⟩), .string s] w fun e w' => e = .returned (.int .i64 (findS st.names s)) ∧ w' = w := by
  obtain ⟨a6, k6, rfl⟩ := own_shape h.o6
  have hb := h.blk
  unfold rdArr at hb
  have hc := hb.cell
  have hf := hb.free
  clear hb
  have hs : (st.names.length : Int) ≤ 4000 := by have := h.small; omega
  go_enter Tryz.func180, Tryz.ntmps180
  go_wp2
  go_loop [5] (fun i => ∃ k : Nat, k ≤ st.names.length ∧ i = .int .i64 k ∧ ∀ j x, j < k → st.names[j]? = some x → (x.1 == s) = false) (fun i => st.names.length - (intOf i).toNat)
  case atStart => exact ⟨0, by omega, rfl, fun j x hj => by omega⟩
  case round =>
    obtain ⟨k, hk, rfl, hno⟩ := hrel
    have HN : Hid (∀ j x, j < k → st.names[j]? = some x → (x.1 == s) = false) := hno
    clear hno
    by_cases hlt : k < st.names.length
    · obtain ⟨g, cap, hv, hg, hgl⟩ := h.o6.form (by omega)
      simp only [Value.slice.injEq, true_and] at hv
      obtain ⟨rfl, rfl⟩ := hv
      obtain ⟨x, hx⟩ : ∃ x, st.names[k]? = some x := ⟨_, List.getElem?_eq_getElem hlt⟩
      have hcell := own_cell h.o6 (k * 3) (by omega)
      rw [(nameCells_at _ _ _ hx).1] at hcell
      have HX : Hid (st.names[k]? = some x) := hx
      clear hx
      go_wp2
      · go_ret
        refine ⟨ret_int ?_, rfl⟩
        rw [findS, findIdx_at st.names s k x HX.out (by rw [beq_toListBytes]; assumption) HN.out]
      · refine ⟨⟨k + 1, by omega, by go_num, ?_⟩, by simp [intOf]; omega⟩
        intro j y hj hy
        by_cases e : j = k
        · subst e
          have e2 := HX.out
          rw [hy] at e2
          obtain rfl := Option.some.inj e2
          rw [beq_toListBytes]; assumption
        · exact HN.out j y (by omega) hy
    · go_wp2
      go_ret
      refine ⟨ret_int ?_, rfl⟩
      rw [findS, findIdx_none st.names s k hk (by omega) HN.out]

end Go.Proofs.YtmeiikjpaepogaaGreatDoor

/- The reference's Reader: tell, pop. -/
namespace Go.Proofs.YtmeiikjpaepogaaGreatDoor
open Go Go.RowKit

def setArg (l : List (Int × Int)) (n : Nat) (a : Int) : List (Int × Int) := l.modify n fun x => (x.1, a)

theorem setArg_cells (l : List (Int × Int)) (n : Nat) (a : Int) : instrCells (setArg l n a) = (instrCells l).set (n * 2 + 1) (.int .i64 a) := by
  unfold setArg
  induction l generalizing n with
  | nil => simp [instrCells]
  | cons x l ih =>
    cases n with
    | zero => simp [instrCells]
    | succ n =>
      have := ih n
      simp only [instrCells, List.modify_succ_cons, List.flatMap_cons] at *
      rw [this]
      have e : (n + 1) * 2 + 1 = (n * 2 + 1) + 2 := by omega
      rw [e]
      rfl

theorem setArg_length (l : List (Int × Int)) (n : Nat) (a : Int) : (setArg l n a).length = l.length := by simp [setArg]

theorem Rd.write4 {B : Nat} {w : World} {b : Nat} {st : RS} {v5 v6 v7 v11 : Value} {g m k4 : Nat} (h : Rd B w b st (.slice (some ⟨g, 0, none⟩) m k4) v5 v6 v7 v11) (n : Nat) (a : Int) :
    Rd B (w.setCell ⟨g, n * 2 + 1, none⟩ (.int .i64 a)) b { st with c0 := setArg st.c0 n a } (.slice (some ⟨g, 0, none⟩) m k4) v5 v6 v7 v11 := by
  have hne := h.ne 0 _ rfl
  refine ⟨?_, h.base, ?_, by have := h.small; simpa [setArg_length] using this⟩
  · exact h.blk.far (a := ⟨g, n * 2 + 1, none⟩) (by intro e; exact hne (by simp [Value.ownBlock, e])) _
  · have := h.owned.write 0 g m k4 _ rfl rfl (n * 2 + 1) (.int .i64 a)
    simpa [rdRows, setArg_length, setArg_cells] using this
theorem Rd.write5 {B : Nat} {w : World} {b : Nat} {st : RS} {v4 v6 v7 v11 : Value} {g m k4 : Nat} (h : Rd B w b st v4 (.slice (some ⟨g, 0, none⟩) m k4) v6 v7 v11) (n : Nat) (a : Int) :
    Rd B (w.setCell ⟨g, n * 2 + 1, none⟩ (.int .i64 a)) b { st with c1 := setArg st.c1 n a } v4 (.slice (some ⟨g, 0, none⟩) m k4) v6 v7 v11 := by
  have hne := h.ne 1 _ rfl
  refine ⟨?_, h.base, ?_, by have := h.small; simpa [setArg_length] using this⟩
  · exact h.blk.far (a := ⟨g, n * 2 + 1, none⟩) (by intro e; exact hne (by simp [Value.ownBlock, e])) _
  · have := h.owned.write 1 g m k4 _ rfl rfl (n * 2 + 1) (.int .i64 a)
    simpa [rdRows, setArg_length, setArg_cells] using this

set_option maxHeartbeats 400000 in
theorem tell_def (B b : Nat) (st : RS) (v4 v5 v6 v7 v11 : Value) (n : Nat) (w : World) (h : Rd B w b st v4 v5 v6 v7 v11) (hst : 0 ≤ st.start) (hn : n < st.c0.length) :
    Calls Tryz.prog 178 #[.pointer (some ⟨b, 0, none⟩), .int .i64 n] w fun e w' => e = .returned (.tuple #[]) ∧ Rd B w' b { st with c0 := setArg st.c0 n st.c0.length } v4 v5 v6 v7 v11 ∧ Moved w b [v4, v5, v6, v7, v11] w' [v4, v5, v6, v7, v11] := by
  obtain ⟨g, k4, rfl, hg, hgl⟩ := h.o4.form (by omega)
  have hp : ∀ k, Calls Tryz.prog 181 #[.pointer (some ⟨b, 0, none⟩)] (w.drewN k) fun e w' => e = .returned (.int .i64 0) ∧ w' = w.drewN k := by
    intro k
    have := part_any B b st _ _ _ _ _ _ (h.drewN k)
    rw [partS, if_pos hst] at this
    exact this
  have hh : ∀ k, Calls Tryz.prog 176 #[.pointer (some ⟨b, 0, none⟩)] (w.drewN k) fun e w' => e = .returned (.int .i64 st.c0.length) ∧ ∃ n, w' = w.drewN n := by
    intro k
    have := here_any B b st _ _ _ _ _ _ (h.drewN k)
    rw [hereS, if_pos hst] at this
    exact this.mono (fun e w' ⟨h1, n, h2⟩ => ⟨h1, k + n, by rw [h2]; simp [World.drewN, Nat.add_assoc]⟩)
  have HP := hide hp
  have HH := hide hh
  clear hp hh
  have hb := h.blk
  unfold rdArr at hb
  have hc := hb.cell
  have hf := hb.free
  have hcell := own_cell h.o4 (n * 2 + 1) (by omega)
  obtain ⟨x, hx⟩ : ∃ x, st.c0[n]? = some x := ⟨_, List.getElem?_eq_getElem hn⟩
  rw [(instrCells_at _ _ _ hx).2] at hcell
  have hfree := own_free h.o4 (n * 2 + 1)
  clear hb hx
  have hs : (st.c0.length : Int) ≤ 4000 := by have := h.small; omega
  have hn' : (n : Int) < st.c0.length := by omega
  go_enter Tryz.func178, Tryz.ntmps178
  go_wp2_with fail
  go_region_with (first | (go_at_call 181; refine (unhide HP _).mono ?_; rintro e w1 ⟨rfl, rfl⟩) | (go_at_call 176; refine (unhide HH _).mono ?_; rintro e w1 ⟨rfl, k, rfl⟩))
  all_goals
    go_end0
    exact ⟨rfl, (h.drewN k).write4 n _, (moved_drawn w b _ k).trans (moved_write _ _ _ 0 g _ _ _ rfl _)⟩

set_option maxHeartbeats 400000 in
theorem tell_main (B b : Nat) (st : RS) (v4 v5 v6 v7 v11 : Value) (n : Nat) (w : World) (h : Rd B w b st v4 v5 v6 v7 v11) (hst : ¬ 0 ≤ st.start) (hn : n < st.c1.length) :
    Calls Tryz.prog 178 #[.pointer (some ⟨b, 0, none⟩), .int .i64 n] w fun e w' => e = .returned (.tuple #[]) ∧ Rd B w' b { st with c1 := setArg st.c1 n st.c1.length } v4 v5 v6 v7 v11 ∧ Moved w b [v4, v5, v6, v7, v11] w' [v4, v5, v6, v7, v11] := by
  obtain ⟨g, k4, rfl, hg, hgl⟩ := h.o5.form (by omega)
  have hp : ∀ k, Calls Tryz.prog 181 #[.pointer (some ⟨b, 0, none⟩)] (w.drewN k) fun e w' => e = .returned (.int .i64 1) ∧ w' = w.drewN k := by
    intro k
    have := part_any B b st _ _ _ _ _ _ (h.drewN k)
    rw [partS, if_neg hst] at this
    exact this
  have hh : ∀ k, Calls Tryz.prog 176 #[.pointer (some ⟨b, 0, none⟩)] (w.drewN k) fun e w' => e = .returned (.int .i64 st.c1.length) ∧ ∃ n, w' = w.drewN n := by
    intro k
    have := here_any B b st _ _ _ _ _ _ (h.drewN k)
    rw [hereS, if_neg hst] at this
    exact this.mono (fun e w' ⟨h1, n, h2⟩ => ⟨h1, k + n, by rw [h2]; simp [World.drewN, Nat.add_assoc]⟩)
  have HP := hide hp
  have HH := hide hh
  clear hp hh
  have hb := h.blk
  unfold rdArr at hb
  have hc := hb.cell
  have hf := hb.free
  have hcell := own_cell h.o5 (n * 2 + 1) (by omega)
  obtain ⟨x, hx⟩ : ∃ x, st.c1[n]? = some x := ⟨_, List.getElem?_eq_getElem hn⟩
  rw [(instrCells_at _ _ _ hx).2] at hcell
  have hfree := own_free h.o5 (n * 2 + 1)
  clear hb hx
  have hs : (st.c1.length : Int) ≤ 4000 := by have := h.small; omega
  have hn' : (n : Int) < st.c1.length := by omega
  go_enter Tryz.func178, Tryz.ntmps178
  go_wp2_with fail
  go_region_with (first | (go_at_call 181; refine (unhide HP _).mono ?_; rintro e w1 ⟨rfl, rfl⟩) | (go_at_call 176; refine (unhide HH _).mono ?_; rintro e w1 ⟨rfl, k, rfl⟩))
  all_goals
    go_end0
    exact ⟨rfl, (h.drewN k).write5 n _, (moved_drawn w b _ k).trans (moved_write _ _ _ 1 g _ _ _ rfl _)⟩


def tellS (st : RS) (n : Nat) : RS := if 0 ≤ st.start then { st with c0 := setArg st.c0 n st.c0.length } else { st with c1 := setArg st.c1 n st.c1.length }

theorem tell_rd (B b : Nat) (st : RS) (v4 v5 v6 v7 v11 : Value) (n : Nat) (w : World) (h : Rd B w b st v4 v5 v6 v7 v11) (hn : n < hereS st) :
    Calls Tryz.prog 178 #[.pointer (some ⟨b, 0, none⟩), .int .i64 n] w fun e w' => e = .returned (.tuple #[]) ∧ Rd B w' b (tellS st n) v4 v5 v6 v7 v11 ∧ Moved w b [v4, v5, v6, v7, v11] w' [v4, v5, v6, v7, v11] := by
  unfold hereS at hn
  unfold tellS
  by_cases hst : 0 ≤ st.start
  · rw [if_pos hst] at hn ⊢
    exact tell_def B b st v4 v5 v6 v7 v11 n w h hst hn
  · rw [if_neg hst] at hn ⊢
    exact tell_main B b st v4 v5 v6 v7 v11 n w h hst hn

end Go.Proofs.YtmeiikjpaepogaaGreatDoor

