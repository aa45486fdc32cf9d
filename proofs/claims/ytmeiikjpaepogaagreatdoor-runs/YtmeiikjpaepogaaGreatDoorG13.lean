/- The statements' world: looks, add; what turns where only its lists do. -/
import Derived.Test.YtmeiikjpaepogaaGreatDoorG07
import Derived.Test.YtmeiikjpaepogaaGreatDoorG12
namespace Go.Proofs.YtmeiikjpaepogaaGreatDoor
open Go Go.RowKit

/-- Only blocks of the lists' types have turned. -/
structure LawStill (w w' : World) : Prop where
  os : w'.os = w.os
  tape : w'.tape = w.tape
  output : w'.output = w.output
  size : w.heap.size ≤ w'.heap.size
  block : ∀ (k : Nat) (cs : Array Value) (T : TypeId), Blk w k cs T → T ≠ 70 → T ≠ 87 → T ≠ 90 → Blk w' k cs T
theorem LawStill.refl (w : World) : LawStill w w := ⟨rfl, rfl, rfl, Nat.le_refl _, fun _ _ _ h _ _ _ => h⟩
theorem LawStill.trans {a b c : World} (h : LawStill a b) (k : LawStill b c) : LawStill a c :=
  ⟨k.os.trans h.os, k.tape.trans h.tape, k.output.trans h.output, Nat.le_trans h.size k.size, fun i cs T hb h1 h2 h3 => k.block i cs T (h.block i cs T hb h1 h2 h3) h1 h2 h3⟩
theorem LawStill.ofBelow {w w' : World} (h : Below w.heap.size w w') : LawStill w w' :=
  ⟨h.os, h.tape, h.output, h.size, fun _ _ _ hb _ _ _ => hb.below h hb.lt⟩
theorem LawStill.blk {w w' : World} {k : Nat} {cs : Array Value} {T : TypeId} (h : LawStill w w') (hb : Blk w k cs T) (h1 : T ≠ 70 := by decide) (h2 : T ≠ 87 := by decide) (h3 : T ≠ 90 := by decide) : Blk w' k cs T := h.block k cs T hb h1 h2 h3
theorem LawStill.row {w w' : World} {base : Nat} {e : TypeId} {size : Nat} {v : Value} {n : Nat} {xs : List Value} (h : LawStill w w') (ho : w.ownsRow base e size v n xs) (h1 : e ≠ 70 := by decide) (h2 : e ≠ 87 := by decide) (h3 : e ≠ 90 := by decide) : w'.ownsRow base e size v n xs := by
  refine ⟨ho.1, ?_⟩
  rcases ho.2 with h0 | ⟨g, cap, cur, hv, hg, hc, hr⟩
  · exact Or.inl h0
  · exact Or.inr ⟨g, cap, cur, hv, hg, h.block g cur e hc h1 h2 h3, hr⟩
theorem LawStill.hold {w w' : World} {q : Nat} {mk : Int} {vi vn : Value} {ni nn : Nat} (h : LawStill w w') (hq : HoldIs w q mk vi vn ni nn) : HoldIs w' q mk vi vn ni nn :=
  ⟨h.blk hq.blk, h.row hq.is, h.row hq.ns, hq.bd, hq.small⟩
/-- Where only the lists turn, and what is new. -/
theorem Lw.law {B : Nat} {w w' : World} {bw : Nat} {ps hs : List Nat} {vp vh : Value} (h : Lw B w bw ps hs vp vh) {F : Nat → Prop} (hs' : Still w w' F) (hF : ∀ k, k < w.heap.size → F k → foot bw [vp, vh] k) : LawStill w w' :=
  ⟨hs'.os, hs'.tape, hs'.output, hs'.size, fun k _ _ hb h1 h2 h3 => hb.still hs' (fun e => h.notfoot hb h1.symm h2.symm h3.symm (hF k hb.lt e))⟩

def HoldsOk (w : World) (hs : List Nat) : Prop := ∀ q ∈ hs, ∃ mk vi vn ni nn, HoldIs w q mk vi vn ni nn
theorem HoldsOk.law {w w' : World} {hs : List Nat} (h : HoldsOk w hs) (hl : LawStill w w') : HoldsOk w' hs := fun q hq => by
  obtain ⟨mk, vi, vn, ni, nn, h1⟩ := h q hq
  exact ⟨mk, vi, vn, ni, nn, hl.hold h1⟩

theorem ptrs_at (l : List Nat) (k q : Nat) (h : l[k]? = some q) : (ptrs l)[k]? = some (.pointer (some ⟨q, 0, none⟩)) := by
  unfold ptrs; rw [List.getElem?_map, h]; rfl

set_option maxRecDepth 100000 in
set_option maxHeartbeats 2000000 in
theorem looks_any (B bw : Nat) (ps hs : List Nat) (vp vh : Value) (w : World) (h : Lw B w bw ps hs vp vh) (hh : HoldsOk w hs) (hlen : hs.length ≤ 17592186044416) :
    Calls Tryz.prog 33 #[.pointer (some ⟨bw, 0, none⟩)] w fun e w' => e = .returned (.bool true) ∧ w' = w := by
  obtain ⟨ah, ch, hvh⟩ := own_shape h.oh
  subst hvh
  have hc := h.blk.cell
  have HL := hide h
  have HH := hide hh
  have hlI : (hs.length : Int) ≤ 17592186044416 := by omega
  clear h hh
  go_enter Tryz.func33, Tryz.ntmps33
  go_wp2_with fail
  go_loop [3] (fun i => ∃ k : Nat, k ≤ hs.length ∧ i = .int .i64 k) (fun i => hs.length - (intOf i).toNat)
  case atStart => exact ⟨0, Nat.zero_le _, rfl⟩
  case round =>
    obtain ⟨k, hk, rfl⟩ := hrel
    by_cases hlt : k < hs.length
    · obtain ⟨q, hq⟩ : ∃ q, hs[k]? = some q := ⟨_, List.getElem?_eq_getElem hlt⟩
      obtain ⟨g, cap, hv, _, hgl⟩ := (unhide HL).oh.form (by omega)
      simp only [Value.slice.injEq, true_and] at hv
      obtain ⟨rfl, rfl⟩ := hv
      have hcell := own_cell (unhide HL).oh k (by omega)
      rw [ptrs_at hs k q hq] at hcell
      obtain ⟨mk, vi, vn, ni, nn, hhold⟩ := unhide HH q (List.mem_of_getElem? hq)
      have HM := hide (marked_any q mk vi vn ni nn w hhold)
      have hltI : (k : Int) < hs.length := by omega
      clear hhold hq
      go_wp2_with fail
      refine (unhide HM).mono ?_
      rintro e w2 ⟨rfl, hw⟩
      obtain rfl := hw.symm
      clear hw
      go_wp2_with fail
      go_round
      case rel => exact ⟨k + 1, by omega, by go_num⟩
      case measure => simp [intOf]; omega
    · have hkn : k = hs.length := by omega
      subst hkn
      go_wp2_with fail
      go_ret
      exact ⟨rfl, rfl⟩

set_option maxRecDepth 100000 in
set_option maxHeartbeats 2000000 in
theorem add_any (B bw : Nat) (ps hs : List Nat) (vp vh : Value) (q : Nat) (w : World) (h : Lw B w bw ps hs vp vh) :
    Calls Tryz.prog 66 #[.pointer (some ⟨bw, 0, none⟩), .pointer (some ⟨q, 0, none⟩)] w fun e w' => e = .returned (.tuple #[]) ∧ ∃ ps' vp', (ps' = ps ∨ ps' = ps ++ [q]) ∧ Lw B w' bw ps' hs vp' vh ∧ LawStill w w' ∧ Below B w w' := by
  obtain ⟨iP, hiP, hzP0, hzP1, hzP2⟩ := info_parts Tryz.infoPlayerP
  obtain ⟨ap, cp, hvp⟩ := own_shape h.op
  subst hvp
  have hc := h.blk.cell
  have hf := h.blk.free
  have hbl := h.blk.lt
  have hfew := h.few
  have hfI : (ps.length : Int) ≤ 6 := by omega
  have hBw : B ≤ w.heap.size := by have := h.base; omega
  by_cases hlt : ps.length < 6
  · have hltI : (ps.length : Int) < 6 := by omega
    have HW := hide (ownsRow_alloc h.op (.cells #[.pointer (some ⟨q, 0, none⟩)] 87))
    have hBs : B ≤ (w.alloc (.cells #[.pointer (some ⟨q, 0, none⟩)] 87)).heap.size := by simp; omega
    have HBs := hide hBs
    have HBA := hide (h.blk.alloc (.cells #[.pointer (some ⟨q, 0, none⟩)] 87))
    have hne := h.ne 0 _ rfl
    have HL := hide h
    clear hBs h
    go_enter Tryz.func66, Tryz.ntmps66
    go_wp2_with (at_builtin; refine wpList_append_lies _ rfl (.tmp 14) (.tmp 16) 67 rfl B 87 iP _ 1 8 Tryz.underlying67 hiP hzP0 hzP1 hzP2 rfl (by decide) (.slice ap ps.length cp) ps.length (ptrs ps) (by simp [Act.eval]) (unhide HW) ⟨w.heap.size, 0, none⟩ 1 1 [.pointer (some ⟨q, 0, none⟩)] (by simp [Act.eval]) rfl (World.news_of_block (Blk.new w _ _)) (by simp [Value.oneCell']) (by omega) (by unfold maxLen; omega) (by omega) (unhide HBs) _ rfl ?_; intro g cap w5 hown hgrow hat hlt1; have hb5 := (unhide HBA).grown hgrow hne; have hc5 := hb5.cell; have hf5 := hb5.free; have HO := hide hown; have HG := hide hgrow; have HA := hide hat; clear hown hgrow hat hb5 hc hf)
    go_end0
    have hs5 : Still w (w5.setCell ⟨bw, 0, none⟩ (.slice (some ⟨g, 0, none⟩) (ps.length + 1) cap)) (foot bw [.slice ap ps.length cp, vh]) :=
      Still.set (F := foot bw [.slice ap ps.length cp, vh]) (Still.grown (F := foot bw [.slice ap ps.length cp, vh]) (Still.alloc (Still.refl w _) _) (unhide HG) (fun j hj => Or.inl (Or.inr ⟨0, _, rfl, hj⟩))) (Or.inl (Or.inl rfl)) _ _
    exact ⟨rfl, ps ++ [q], _, Or.inr rfl, ((unhide HL).alloc (.cells #[.pointer (some ⟨q, 0, none⟩)] 87)).growP (unhide HG) (unhide HO) (unhide HA) (by omega) hlt, (unhide HL).law hs5 (fun _ _ e => e), hs5.below (fun k hk => ((unhide HL).footlt hk).1) hBw⟩
  · have hge : ps.length = 6 := by omega
    have HL := hide h
    rw [hge] at hc
    clear h
    go_enter Tryz.func66, Tryz.ntmps66
    go_wp2_with fail
    go_end0
    exact ⟨rfl, ps, _, Or.inl rfl, unhide HL, LawStill.refl w, Below.refl _ _⟩

set_option maxRecDepth 100000 in
set_option maxHeartbeats 2000000 in
theorem sameNums_any (va vb : Value) (la lb : List Int) (ba bb : Nat) (w : World) (ha : w.ownsRow ba 2 1 va la.length (intCells la)) (hb : w.ownsRow bb 2 1 vb lb.length (intCells lb)) (hla : la.length ≤ 17592186044416) (hlb : lb.length ≤ 17592186044416) :
    Calls Tryz.prog 185 #[va, vb] w fun e w' => e = .returned (.bool (decide (la = lb))) ∧ ∃ n, w' = w.drewN n := by
  obtain ⟨aa, ca, hva⟩ := own_shape ha
  obtain ⟨ab, cb, hvb⟩ := own_shape hb
  subst hva hvb
  have hlaI : (la.length : Int) ≤ 17592186044416 := by omega
  have hlbI : (lb.length : Int) ≤ 17592186044416 := by omega
  by_cases hll : la.length = lb.length
  · have HA := hide ha
    have HB := hide hb
    have hllI : (la.length : Int) = lb.length := by omega
    clear ha hb
    go_enter Tryz.func185, Tryz.ntmps185
    go_wp2_with fail
    go_loopw [5] (fun i wr => ∃ (k n : Nat), i = .int .i64 k ∧ k ≤ la.length ∧ la.take k = lb.take k ∧ wr = w.drewN n) (fun i _ => la.length - (intOf i).toNat)
    case atStart => exact ⟨0, 0, rfl, Nat.zero_le _, rfl, rfl⟩
    case round =>
      obtain ⟨k, n, rfl, hk, heq, rfl⟩ := hrel
      have HEQ := hide heq
      clear heq
      by_cases hlt : k < la.length
      · obtain ⟨g, cap, hv, _, _⟩ := (unhide HA).form (by omega)
        simp only [Value.slice.injEq, true_and] at hv
        obtain ⟨rfl, rfl⟩ := hv
        obtain ⟨g2, cap2, hv, _, _⟩ := (unhide HB).form (by omega)
        simp only [Value.slice.injEq, true_and] at hv
        obtain ⟨rfl, rfl⟩ := hv
        obtain ⟨x, hx⟩ : ∃ x, la[k]? = some x := ⟨_, List.getElem?_eq_getElem hlt⟩
        obtain ⟨y, hy⟩ : ∃ y, lb[k]? = some y := ⟨_, List.getElem?_eq_getElem (by omega)⟩
        have hc1 := own_cell (unhide HA) k (by omega)
        have hc2 := own_cell (unhide HB) k (by omega)
        have e1 : (intCells la)[k]? = some (.int .i64 x) := by unfold intCells; rw [List.getElem?_map, hx]; rfl
        have e2 : (intCells lb)[k]? = some (.int .i64 y) := by unfold intCells; rw [List.getElem?_map, hy]; rfl
        rw [e1] at hc1
        rw [e2] at hc2
        have hltI : (k : Int) < la.length := by omega
        have hltJ : (k : Int) < lb.length := by omega
        have HX := hide hx
        have HY := hide hy
        clear hx hy e1 e2
        by_cases hxy : x = y
        · subst hxy
          go_wp2_with fail
          go_region
          go_wp2_with fail
          go_roundw
          case rel =>
            refine ⟨k + 1, n + 1, by go_num, by omega, ?_, rfl⟩
            rw [take_one la k x (unhide HX), take_one lb k x (unhide HY), unhide HEQ]
          case measure => simp [intOf]; omega
        · have hxy' : (x == y) = false := by simpa using hxy
          go_wp2_with fail
          go_region
          go_wp2_with fail
          go_ret
          refine ⟨ret_bool ?_, n + 1, rfl⟩
          have : la ≠ lb := by
            rintro rfl
            have h1 := unhide HX
            rw [unhide HY] at h1
            exact hxy (Option.some.inj h1).symm
          simp [this]
      · have hkn : k = la.length := by omega
        subst hkn
        go_wp2_with fail
        go_ret
        refine ⟨ret_bool ?_, _, rfl⟩
        have h1 := unhide HEQ
        rw [List.take_of_length_le (Nat.le_refl _), hll, List.take_of_length_le (Nat.le_refl _)] at h1
        simp [h1]
  · have hll' : (((la.length : Int) == (lb.length : Int))) = false := by
      simp
      omega
    have hne : la ≠ lb := fun e => hll (by rw [e])
    go_enter Tryz.func185, Tryz.ntmps185
    go_wp2_with fail
    go_ret
    refine ⟨ret_bool ?_, 0, rfl⟩
    simp [hne]

end Go.Proofs.YtmeiikjpaepogaaGreatDoor

/- The reference's Machine: do. -/
namespace Go.Proofs.YtmeiikjpaepogaaGreatDoor
open Go Go.RowKit

theorem McE.small {B : Nat} {w : World} {b : Nat} {m : MS} (h : McE B w b m) : m.stack.length ≤ 1000 ∧ m.side.length ≤ 1000 ∧ m.calls.length ≤ 1000 ∧ m.cells.length ≤ 1000 ∧ m.out.size ≤ 1000 ∧ (m.out.size : Int) ≤ m.lo := by
  obtain ⟨_, _, _, _, h⟩ := h
  exact h.small
theorem McE.ints {B : Nat} {w : World} {b : Nat} {m : MS} (h : McE B w b m) : (∀ x ∈ m.stack, inI x) ∧ (∀ x ∈ m.side, inI x) ∧ (∀ x ∈ m.cells, inI x) := by
  obtain ⟨_, _, _, _, h⟩ := h
  exact h.ints
theorem McE.drewN {B : Nat} {w : World} {b : Nat} {m : MS} (h : McE B w b m) (n : Nat) : McE B (w.drewN n) b m := by
  obtain ⟨_, _, _, _, h⟩ := h
  exact ⟨_, _, _, _, h.drewN n⟩
theorem McE.base {B : Nat} {w : World} {b : Nat} {m : MS} (h : McE B w b m) : B ≤ b := by
  obtain ⟨_, _, _, _, h⟩ := h
  exact h.base
theorem McE.at {B : Nat} {w : World} {b : Nat} {m : MS} (h : McE B w b m) (k : Int) : McE B (w.setCell ⟨b, 10, none⟩ (.int .i64 k)) b { m with pc := k } := by
  obtain ⟨_, _, _, _, h⟩ := h
  exact ⟨_, _, _, _, h.field 10 (.int .i64 k) _ (by simp [mcArr]) rfl h.lims h.small h.ints⟩
theorem McE.halt {B : Nat} {w : World} {b : Nat} {m : MS} (h : McE B w b m) : McE B (w.setCell ⟨b, 11, none⟩ (.bool true)) b { m with halted := true } := by
  obtain ⟨_, _, _, _, h⟩ := h
  exact ⟨_, _, _, _, h.field 11 (.bool true) _ (by simp [mcArr]) rfl h.lims h.small h.ints⟩

theorem below_drewN {B n : Nat} {w w' : World} (h : Below B (w.drewN n) w') : Below B w w' := Below.trans (b := w.drewN n) ⟨rfl, rfl, rfl, Nat.le_refl _, fun _ _ => rfl⟩ h

theorem Tryz.name212 : (Tryz.f212.name == "runtime.NumGoroutine") = false := by kernel_rfl
theorem Tryz.body212 : Tryz.f212.body.isNone = false := by kernel_rfl

set_option maxRecDepth 100000 in
set_option maxHeartbeats 1000000 in
theorem do_lit (B b : Nat) (m : MS) (arg : Int)  (w : World) (h : McE B w b m) (harg : inI arg) (hl : m.stack.length < 1000) :
    Calls Tryz.prog 184 #[.pointer (some ⟨b, 0, none⟩), .int .i64 0, .int .i64 arg] w fun e w' => e = .returned (.tuple #[]) ∧ McE B w' b { m with stack := m.stack ++ [arg] } ∧ Below B w w' := by
  have HP := hide (mpush_any B b m arg w h harg hl)
  go_enter Tryz.func184, Tryz.ntmps184
  go_wp2_with fail
  refine (unhide HP).mono ?_
  rintro e w1 ⟨rfl, h1, hb1⟩
  clear HP
  go_wp2_with fail
  go_end0
  exact ⟨rfl, h1, hb1⟩

set_option maxRecDepth 100000 in
set_option maxHeartbeats 1000000 in
theorem do_jump (B b : Nat) (m : MS) (arg : Int)  (w : World) (h : McE B w b m) (harg : inI arg)  :
    Calls Tryz.prog 184 #[.pointer (some ⟨b, 0, none⟩), .int .i64 1, .int .i64 arg] w fun e w' => e = .returned (.tuple #[]) ∧ McE B w' b { m with pc := arg } ∧ Below B w w' := by
  have h0 := h
  obtain ⟨v5, v6, v7, v8, hm⟩ := h0
  have hc := hm.blk.cell
  have hf := hm.blk.free
  have hlt := hm.blk.lt
  unfold mcArr at hc
  clear hm
  have ha := harg
  unfold inI at ha
  obtain ⟨ha1, ha2⟩ := ha
  go_enter Tryz.func184, Tryz.ntmps184
  go_wp2_with fail
  go_end0
  exact ⟨rfl, h.at arg, (Below.refl B w).setCell h.base _⟩

set_option maxRecDepth 100000 in
set_option maxHeartbeats 1000000 in
theorem do_halt (B b : Nat) (m : MS) (arg : Int)  (w : World) (h : McE B w b m) (harg : inI arg)  :
    Calls Tryz.prog 184 #[.pointer (some ⟨b, 0, none⟩), .int .i64 5, .int .i64 arg] w fun e w' => e = .returned (.tuple #[]) ∧ McE B w' b { m with halted := true } ∧ Below B w w' := by
  have h0 := h
  obtain ⟨v5, v6, v7, v8, hm⟩ := h0
  have hc := hm.blk.cell
  have hf := hm.blk.free
  have hlt := hm.blk.lt
  unfold mcArr at hc
  clear hm
  have ha := harg
  unfold inI at ha
  obtain ⟨ha1, ha2⟩ := ha
  go_enter Tryz.func184, Tryz.ntmps184
  go_wp2_with fail
  go_end0
  exact ⟨rfl, h.halt, (Below.refl B w).setCell h.base _⟩

set_option maxRecDepth 100000 in
set_option maxHeartbeats 1000000 in
theorem do_jumpz_yes (B b : Nat) (m : MS) (arg : Int) (l : List Int) (x : Int) (w : World) (h : McE B w b m) (harg : inI arg) (he : m.stack = l ++ [x]) (hx : (x == 0) = true) :
    Calls Tryz.prog 184 #[.pointer (some ⟨b, 0, none⟩), .int .i64 2, .int .i64 arg] w fun e w' => e = .returned (.tuple #[]) ∧ McE B w' b { m with stack := l, pc := arg } ∧ Below B w w' := by
  have HP := hide (mpop_any B b m w h l x he)
  have hxi : inI x := h.ints.1 x (by rw [he]; simp)
  unfold inI at hxi
  obtain ⟨hx1, hx2⟩ := hxi
  go_enter Tryz.func184, Tryz.ntmps184
  go_wp2_with fail
  refine (unhide HP).mono ?_
  rintro e w1 ⟨rfl, h1, hb1⟩
  clear HP
  obtain ⟨v5, v6, v7, v8, hm⟩ := id h1
  have hc := hm.blk.cell
  have hf := hm.blk.free
  have hlt := hm.blk.lt
  unfold mcArr at hc
  clear hm
  have ha := harg
  unfold inI at ha
  obtain ⟨ha1, ha2⟩ := ha
  go_wp2_with fail
  go_end0
  exact ⟨rfl, h1.at arg, hb1.setCell h1.base _⟩

set_option maxRecDepth 100000 in
set_option maxHeartbeats 1000000 in
theorem do_jumpz_no (B b : Nat) (m : MS) (arg : Int) (l : List Int) (x : Int) (w : World) (h : McE B w b m) (harg : inI arg) (he : m.stack = l ++ [x]) (hx : (x == 0) = false) :
    Calls Tryz.prog 184 #[.pointer (some ⟨b, 0, none⟩), .int .i64 2, .int .i64 arg] w fun e w' => e = .returned (.tuple #[]) ∧ McE B w' b { m with stack := l } ∧ Below B w w' := by
  have HP := hide (mpop_any B b m w h l x he)
  have hxi : inI x := h.ints.1 x (by rw [he]; simp)
  unfold inI at hxi
  obtain ⟨hx1, hx2⟩ := hxi
  go_enter Tryz.func184, Tryz.ntmps184
  go_wp2_with fail
  refine (unhide HP).mono ?_
  rintro e w1 ⟨rfl, h1, hb1⟩
  clear HP
  obtain ⟨v5, v6, v7, v8, hm⟩ := id h1
  have hc := hm.blk.cell
  have hf := hm.blk.free
  have hlt := hm.blk.lt
  unfold mcArr at hc
  clear hm
  have ha := harg
  unfold inI at ha
  obtain ⟨ha1, ha2⟩ := ha
  go_wp2_with fail
  go_end0
  exact ⟨rfl, h1, hb1⟩

set_option maxRecDepth 100000 in
set_option maxHeartbeats 1000000 in
theorem do_call (B b : Nat) (m : MS) (arg : Int)  (w : World) (h : McE B w b m) (harg : inI arg) (hl : m.calls.length < 1000) :
    Calls Tryz.prog 184 #[.pointer (some ⟨b, 0, none⟩), .int .i64 3, .int .i64 arg] w fun e w' => e = .returned (.tuple #[]) ∧ McE B w' b { m with calls := m.calls ++ [m.pc], pc := arg } ∧ Below B w w' := by
  obtain ⟨v5, v6, v7, v8, h⟩ := h
  obtain ⟨i0, hi, hz0, hz1, hz2⟩ := info_parts Tryz.infoInt
  have hlt := h.blk.lt
  have hc := h.blk.cell
  have hf := h.blk.free
  unfold mcArr at hc
  have HB := hide h.blk
  unfold mcArr at HB
  have hne := h.ne 2 v7 rfl
  have ha := harg
  unfold inI at ha
  obtain ⟨ha1, ha2⟩ := ha
  have HW := hide (ownsRow_alloc h.o7 (.cells #[.int .i64 m.pc] 3))
  have hBs : B ≤ (w.alloc (.cells #[.int .i64 m.pc] 3)).drew.heap.size := by
    have := h.base
    show B ≤ (w.alloc _).heap.size
    simp; omega
  have HBs := hide hBs
  clear hBs
  go_enter Tryz.func184, Tryz.ntmps184
  go_wp2_with fail
  go_region_law (refine step_append_lies _ rfl (.tmp 45) (.tmp 50) 115 rfl B 3 i0 _ 1 8 Tryz.underlying115 hi hz0 hz1 hz2 rfl (by decide) v7 m.calls.length (intCells m.calls) (by simp [Act.eval]) (unhide HW) ⟨w.heap.size, 0, none⟩ 1 1 [.int .i64 m.pc] (by simp [Act.eval]) rfl (World.news_of_block (Blk.new w _ _)) (oneCells1 _) (by omega) (by unfold maxLen; omega) (by omega) (unhide HBs) _ rfl ?_; intro g cap w3 hown hgrow hat hlt1; have hb1 := ((unhide HB).alloc _).drew.grown hgrow hne; have hc1 := hb1.cell; have hf1 := hb1.free; have HO := hide hown; have HG := hide hgrow; have HA := hide hat; clear hown hgrow hat hb1)
  all_goals
    go_wp2
    go_end0
    refine ⟨rfl, McE.at ⟨_, _, _, _, h.grow7 hl (grownBy_alloc (unhide HG)) (unhide HO) (unhide HA) (by simp)⟩ arg, ?_⟩
    exact ((below_grown_alloc (by have := h.base; omega) (fun k hk => (ownsRow_lt h.o7 hk).2) (unhide HG)).setCell h.base _).setCell h.base _

set_option maxRecDepth 100000 in
set_option maxHeartbeats 1000000 in
theorem do_index (B b : Nat) (m : MS) (arg : Int) (l : List Int) (x : Int) (w : World) (h : McE B w b m) (harg : inI arg) (he : m.side = l ++ [x]) (hl : m.stack.length < 1000) :
    Calls Tryz.prog 184 #[.pointer (some ⟨b, 0, none⟩), .int .i64 8, .int .i64 arg] w fun e w' => e = .returned (.tuple #[]) ∧ McE B w' b { m with stack := m.stack ++ [x] } ∧ Below B w w' := by
  have _ := harg
  have hxi : inI x := h.ints.2.1 x (by rw [he]; simp)
  have HP := hide (fun n => mpush_any B b m x (w.drewN n) (h.drewN n) hxi hl)
  obtain ⟨v5, v6, v7, v8, hm⟩ := id h
  have hn : m.side.length = l.length + 1 := by rw [he]; simp
  obtain ⟨g, k, rfl, hg, hgl⟩ := hm.o6.form (by omega)
  have hb := hm.blk
  unfold mcArr at hb
  have ho := hm.o6
  rw [hn] at hb ho
  have hx := own_cell ho l.length (by omega)
  rw [he, intCells_last] at hx
  have hs : (l.length : Int) ≤ 1000 := by have := hm.small; omega
  have hwr : IntKind.i64.wrap (l.length : Int) = l.length := by rw [IntKind.wrap_i64]; omega
  have hlt9 : (l.length : Int) < l.length + 1 := by omega
  have hc := hb.cell
  clear hm hb ho
  go_enter Tryz.func184, Tryz.ntmps184
  go_wp2_with fail
  go_region_law (refine step_call rfl 212 #[.tmp 171, .tmp 183] #[185, 2] rfl Tryz.func212 Tryz.name212 Tryz.body212 #[.pointer (some ⟨b, 0, none⟩), .int .i64 x] (by first | (simp [Act.eval]; done) | (simp [Act.eval, Act.put]; done) | rfl) (unhide HP _) ?_; rintro e w1 ⟨rfl, h1, hb1⟩; refine ⟨_, rfl, ?_⟩)
  all_goals
    go_wp2
    go_end0
    exact ⟨rfl, h1, below_drewN hb1⟩

set_option maxRecDepth 100000 in
set_option maxHeartbeats 1000000 in
theorem do_look (B b : Nat) (m : MS) (arg : Int) (l : List Int) (x : Int) (w : World) (h : McE B w b m) (harg : inI arg) (he : m.side = l ++ [x]) (hl : m.stack.length < 1000) :
    Calls Tryz.prog 184 #[.pointer (some ⟨b, 0, none⟩), .int .i64 28, .int .i64 arg] w fun e w' => e = .returned (.tuple #[]) ∧ McE B w' b { m with stack := m.stack ++ [x] } ∧ Below B w w' := by
  have _ := harg
  have hxi : inI x := h.ints.2.1 x (by rw [he]; simp)
  have HP := hide (fun n => mpush_any B b m x (w.drewN n) (h.drewN n) hxi hl)
  obtain ⟨v5, v6, v7, v8, hm⟩ := id h
  have hn : m.side.length = l.length + 1 := by rw [he]; simp
  obtain ⟨g, k, rfl, hg, hgl⟩ := hm.o6.form (by omega)
  have hb := hm.blk
  unfold mcArr at hb
  have ho := hm.o6
  rw [hn] at hb ho
  have hx := own_cell ho l.length (by omega)
  rw [he, intCells_last] at hx
  have hs : (l.length : Int) ≤ 1000 := by have := hm.small; omega
  have hwr : IntKind.i64.wrap (l.length : Int) = l.length := by rw [IntKind.wrap_i64]; omega
  have hlt9 : (l.length : Int) < l.length + 1 := by omega
  have hc := hb.cell
  clear hm hb ho
  go_enter Tryz.func184, Tryz.ntmps184
  go_wp2_with fail
  go_region_law (refine step_call rfl 212 #[.tmp 171, .tmp 183] #[185, 2] rfl Tryz.func212 Tryz.name212 Tryz.body212 #[.pointer (some ⟨b, 0, none⟩), .int .i64 x] (by first | (simp [Act.eval]; done) | (simp [Act.eval, Act.put]; done) | rfl) (unhide HP _) ?_; rintro e w1 ⟨rfl, h1, hb1⟩; refine ⟨_, rfl, ?_⟩)
  all_goals
    go_wp2
    go_end0
    exact ⟨rfl, h1, below_drewN hb1⟩

set_option maxRecDepth 100000 in
set_option maxHeartbeats 1000000 in
theorem do_ret (B b : Nat) (m : MS) (arg : Int) (l : List Int) (x : Int) (w : World) (h : McE B w b m) (harg : inI arg) (he : m.calls = l ++ [x]) :
    Calls Tryz.prog 184 #[.pointer (some ⟨b, 0, none⟩), .int .i64 4, .int .i64 arg] w fun e w' => e = .returned (.tuple #[]) ∧ McE B w' b { m with calls := l, pc := x } ∧ Below B w w' := by
  have _ := harg
  obtain ⟨v5, v6, v7, v8, h⟩ := h
  have hn : m.calls.length = l.length + 1 := by rw [he]; simp
  obtain ⟨g, k, rfl, hg, hgl⟩ := h.o7.form (by omega)
  have hb := h.blk
  have hlt := hb.lt
  unfold mcArr at hb
  have ho := h.o7
  rw [hn] at hb ho
  have hx := own_cell ho l.length (by omega)
  rw [he, intCells_last] at hx
  have hs : (l.length : Int) ≤ 1000 := by have := h.small; omega
  have hk : (l.length : Int) + 1 ≤ k := by have := (own_cap ho).1; omega
  have hwr : IntKind.i64.wrap (l.length : Int) = l.length := by rw [IntKind.wrap_i64]; omega
  have hc := hb.cell
  have hf := hb.free
  clear hb ho
  go_enter Tryz.func184, Tryz.ntmps184
  go_wp2_with fail
  go_region
  go_wp2
  go_region
  go_wp2
  go_end0
  have h2 := h.field 10 (.int .i64 x) { m with pc := x } (by simp [mcArr]) rfl h.lims h.small h.ints
  exact ⟨rfl, ⟨_, _, _, _, ((h2.cut7 l [x] he rfl).drew).drew⟩, ((((Below.refl B w).setCell h.base _).setCell h.base _).drew).drew⟩

set_option maxRecDepth 100000 in
set_option maxHeartbeats 1000000 in
theorem do_invert (B b : Nat) (m : MS) (arg : Int) (l : List Int) (x : Int) (w : World) (h : McE B w b m) (harg : inI arg) (he : m.stack = l ++ [x]) :
    Calls Tryz.prog 184 #[.pointer (some ⟨b, 0, none⟩), .int .i64 17, .int .i64 arg] w fun e w' => e = .returned (.tuple #[]) ∧ McE B w' b { m with stack := l ++ [(-1 - x)] } ∧ Below B w w' := by
  have HP := hide (mpop_any B b m w h l x he)
  have hxi : inI x := h.ints.1 x (by rw [he]; simp)
  unfold inI at hxi
  obtain ⟨hx1, hx2⟩ := hxi
  have hn : m.stack.length = l.length + 1 := by rw [he]; simp
  have hs : l.length < 1000 := by have := h.small; omega
  go_enter Tryz.func184, Tryz.ntmps184
  go_wp2_with fail
  refine (unhide HP).mono ?_
  rintro e w1 ⟨rfl, h1, hb1⟩
  clear HP
  have HP := hide (mpush_any B b _ (-1 - x) w1 h1 (by unfold inI; first | omega | (unfold wrap64; omega)) hs)
  go_wp2_with fail
  refine (unhide HP).mono ?_
  rintro e w2 ⟨rfl, h2, hb2⟩
  go_wp2_with fail
  go_end0
  have _ := harg
  exact ⟨rfl, h2, hb1.trans hb2⟩

set_option maxRecDepth 100000 in
set_option maxHeartbeats 1000000 in
theorem do_negate (B b : Nat) (m : MS) (arg : Int) (l : List Int) (x : Int) (w : World) (h : McE B w b m) (harg : inI arg) (he : m.stack = l ++ [x]) :
    Calls Tryz.prog 184 #[.pointer (some ⟨b, 0, none⟩), .int .i64 18, .int .i64 arg] w fun e w' => e = .returned (.tuple #[]) ∧ McE B w' b { m with stack := l ++ [(wrap64 (-x))] } ∧ Below B w w' := by
  have HP := hide (mpop_any B b m w h l x he)
  have hxi : inI x := h.ints.1 x (by rw [he]; simp)
  unfold inI at hxi
  obtain ⟨hx1, hx2⟩ := hxi
  have hn : m.stack.length = l.length + 1 := by rw [he]; simp
  have hs : l.length < 1000 := by have := h.small; omega
  go_enter Tryz.func184, Tryz.ntmps184
  go_wp2_with fail
  refine (unhide HP).mono ?_
  rintro e w1 ⟨rfl, h1, hb1⟩
  clear HP
  have HP := hide (mpush_any B b _ (wrap64 (-x)) w1 h1 (by unfold inI; first | omega | (unfold wrap64; omega)) hs)
  go_wp2_with fail
  refine (unhide HP).mono ?_
  rintro e w2 ⟨rfl, h2, hb2⟩
  go_wp2_with fail
  go_end0
  have _ := harg
  exact ⟨rfl, h2, hb1.trans hb2⟩

end Go.Proofs.YtmeiikjpaepogaaGreatDoor

