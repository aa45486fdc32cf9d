/- The program's calls at stage 1, as the statements ask of them. -/
import Derived.Test.YtbcjfiaacenhgaaGreatDoorG43
import Derived.Test.YtbcjfiaacenhgaaGreatDoorG28
namespace Go.Proofs.YtbcjfiaacenhgaaGreatDoor
open Go Go.RowKit

set_option maxRecDepth 100000 in
set_option maxHeartbeats 4000000 in
theorem fcompile_no (s : ByteArray) (w : World) (er pl : Int) (hE : er ≠ 0)
    (hcall : ∀ W, Below w.heap.size w W → Calls Tryz.prog 26 #[.string s] W fun e w' => e = .returned (.tuple #[.agg #[.slice none 0 0, .int .i64 0], .int .i64 er, .int .i64 pl]) ∧ Below W.heap.size W w') :
    Calls Tryz.prog 14 #[.string s, .agg #[.bool false, .bool false, .bool false]] w fun e w' => e = .returned (.tuple #[.pointer none, .int .i64 er, .int .i64 pl]) ∧ Below w.heap.size w w' := by
  have hb0 : Below w.heap.size w (w.alloc (.cells #[.bool false, .bool false, .bool false] 29)) := by (repeat (first | with_reducible refine below_drew ?_ | with_reducible refine below_drawn ?_ _ | with_reducible refine below_longer ?_ _ | (with_reducible refine Below.alloc ?_ ?_ _; rotate_left; (first | omega | ((try simp only [World.size_up]) <;> (try simp only [World.size_dr]) <;> (try simp only [World.size_drN]) <;> (try simp only [World.size_up]) <;> (try simp only [World.size_dr]) <;> (try simp only [World.size_up]) <;> omega))))); (with_reducible exact Below.refl _ _)
  have HC := hide (hcall _ hb0)
  have HB0 := hide hb0
  have he' : (er == 0) = false := by simpa using hE
  clear hcall hb0
  go_enter Tryz.func14, Tryz.ntmps14
  go_wp2_with fail
  refine (unhide HC).mono ?_
  rintro e w1 ⟨rfl, hb1⟩
  have hb2 := (unhide HB0).trans (below_less hb1 (unhide HB0).size)
  have HB2 := hide hb2
  clear hb1 hb2 HC
  go_wp2_with fail
  go_ret3
  exact ⟨rfl, (unhide HB2).alloc (unhide HB2).size _⟩

set_option maxRecDepth 100000 in
set_option maxHeartbeats 4000000 in
theorem fcompile_yes (s : ByteArray) (w : World) (hs : s.size ≤ 2000) (hV : VocOk w) (hE : ErrsOk w) (h0 : (endS s).err = 0) :
    Calls Tryz.prog 14 #[.string s, .agg #[.bool false, .bool false, .bool false]] w fun e w' => ∃ c, e = .returned (.tuple #[.pointer (some ⟨c, 0, none⟩), .int .i64 0, .int .i64 0]) ∧ CodeR1 w' c (fullS (endS s)) (endS s).c0.length ∧ Below w.heap.size w w' := by
  have hb0 : Below w.heap.size w (w.alloc (.cells #[.bool false, .bool false, .bool false] 29)) := by (repeat (first | with_reducible refine below_drew ?_ | with_reducible refine below_drawn ?_ _ | with_reducible refine below_longer ?_ _ | (with_reducible refine Below.alloc ?_ ?_ _; rotate_left; (first | omega | ((try simp only [World.size_up]) <;> (try simp only [World.size_dr]) <;> (try simp only [World.size_drN]) <;> (try simp only [World.size_up]) <;> (try simp only [World.size_dr]) <;> (try simp only [World.size_up]) <;> omega))))); (with_reducible exact Below.refl _ _)
  have HC := hide (comp_any s _ hs (hV.below hb0) (hE.below hb0))
  have HB0 := hide hb0
  have H0 := hide h0
  clear hb0 hV hE h0
  go_enter Tryz.func14, Tryz.ntmps14
  go_wp2_with fail
  refine (unhide HC).mono ?_
  rintro e w1 ⟨hcase, hb1⟩
  rcases hcase with ⟨hno, _⟩ | ⟨_, v, rfl, hrow⟩
  · exact absurd (unhide H0) hno
  have hb2 := (unhide HB0).trans (below_less hb1 (unhide HB0).size)
  have HB2 := hide hb2
  have hpos : 0 < (fullS (endS s)).length := full_pos
  obtain ⟨g, cap, hv, _, hgl⟩ := hrow.form hpos
  subst hv
  have HROW := hide hrow
  clear hb1 hb2 HC hrow
  generalize hl : fullS (endS s) = l at *
  generalize hn : (endS s).c0.length = n at *
  have HL := hide hl
  have HN := hide hn
  clear hl hn
  go_wp2_with fail
  go_ret3
  rw [unhide HL, unhide HN]
  refine ⟨_, rfl, ⟨g, cap, ?_, ?_⟩, ?_⟩
  · exact blk_two w1 _ _ _
  · exact ownsRow_alloc (ownsRow_alloc (ownsRow_base (unhide HROW) (Nat.zero_le _)) _) _
  · exact ((unhide HB2).alloc (unhide HB2).size _).alloc (by have := (unhide HB2).size; simp; omega) _

theorem comp_no (s : ByteArray) (w : World) (hV : VocOk w) (hE : ErrsOk w) (er pl : Int) (h : 2000 < s.size ∧ er = 1 ∧ pl = 0 ∨ s.size ≤ 2000 ∧ (endS s).err = er ∧ (endS s).place = pl ∧ er ≠ 0) :
    Calls Tryz.prog 26 #[.string s] w fun e w' => e = .returned (.tuple #[.agg #[.slice none 0 0, .int .i64 0], .int .i64 er, .int .i64 pl]) ∧ Below w.heap.size w w' := by
  rcases h with ⟨h1, rfl, rfl⟩ | ⟨h1, rfl, rfl, h2⟩
  · exact comp_long s w h1
  · refine (comp_any s w h1 hV hE).mono ?_
    rintro e w' ⟨hcase, hb⟩
    rcases hcase with ⟨_, rfl⟩ | ⟨h3, _⟩
    · exact ⟨rfl, hb⟩
    · exact absurd h3 h2

/-- The program, at this commit. -/
def prgR1 : Prg where
  Env := fun w => VocOk w ∧ ErrsOk w
  CodeIs := fun w c l en _ => CodeR1 w c l en
  env := fun h hb => ⟨h.1.below hb, h.2.below hb⟩
  law := fun h hl => h.law hl
  list := fun w c l en _ _ h hok hen => list_any w c l en h (by omega) (by have := hok.small; omega)
  run := fun w c l en ce l1 l2 l3 l4 fuel _ _ _ _ _ _ => by
    refine (runR1_any w c l1 l2 l3 l4 fuel).mono ?_
    rintro e w' ⟨rfl, hb⟩
    exact ⟨_, _, _, _, _, [], [], rfl, ⟨World.ownsRow_nil _ _ _ _, World.ownsRow_nil _ _ _ _, by simp⟩, ⟨by simp, by simp, fun j hj => by simp [Value.ownBlock] at hj⟩, hb⟩
  no := fun w s er pl henv h => by
    refine fcompile_no s w er pl (by rcases h with h | h; rw [h.2.1]; decide; exact h.2.2.2) (fun W hW => comp_no s W (henv.1.below hW) (henv.2.below hW) er pl h)
  yes := fun w s henv hs h0 => fcompile_yes s w hs henv.1 henv.2 h0

end Go.Proofs.YtbcjfiaacenhgaaGreatDoor

/- The statements' world: compiled. -/
namespace Go.Proofs.YtbcjfiaacenhgaaGreatDoor
open Go Go.RowKit

/-- A step of a script as a value. -/
def opV (kind n : Int) (s : ByteArray) (b0 b1 b2 : Bool) (vl : Value) (en ce l1 l2 l3 l4 fu : Int) : Value :=
  .agg #[.int .i64 kind, .int .i64 n, .string s, .bool b0, .bool b1, .bool b2, vl, .int .i64 en, .int .i64 ce, .int .i64 l1, .int .i64 l2, .int .i64 l3, .int .i64 l4, .int .i64 fu]
def opC (kind n : Int) (s : ByteArray) (b0 b1 b2 : Bool) (vl : Value) (en ce l1 l2 l3 l4 fu : Int) : Array Value :=
  #[.int .i64 kind, .int .i64 n, .string s, .bool b0, .bool b1, .bool b2, vl, .int .i64 en, .int .i64 ce, .int .i64 l1, .int .i64 l2, .int .i64 l3, .int .i64 l4, .int .i64 fu]

theorem read_facts (s : ByteArray) (hs : s.size ≤ 2000) : CodeOk (fullS (endS s)) ∧ (0 ≤ ((endS s).c0.length : Int) ∧ ((endS s).c0.length : Int) < (fullS (endS s)).length) ∧ (0 ≤ (endS s).cells ∧ (endS s).cells ≤ 1000) := by
  obtain ⟨g, k, hi, hk⟩ := end_good s hs
  refine ⟨full_ok hi hk g, ⟨by omega, ?_⟩, ⟨?_, end_cells s hs⟩⟩
  · simp [fullS]; omega
  · have := hi.lens
    unfold lens at this
    omega
theorem Cd.ofPg {B : Nat} {w : World} {p : Nat} {l : List (Int × Int)} {en ce : Int} {he : List Int} (h : PgE B w p l en ce he) (hl : 0 < l.length) : Cd w.heap.size w p l en ce := by
  obtain ⟨vL, vH, h⟩ := h
  have ho := h.owned.own 0 vL _ rfl rfl
  obtain ⟨g, cap, rfl, _, hg⟩ := ho.form hl
  exact ⟨g, cap, vH, h.blk, h.blk.lt, hg, ownsRow_base ho (Nat.zero_le _)⟩

set_option maxRecDepth 100000 in
set_option maxHeartbeats 4000000 in
theorem compiled_no (P : Prg) (B bw : Nat) (ps hs : List Nat) (vp vh : Value) (w : World) (henv : P.Env w) (h : Lw B w bw ps hs vp vh) (hh : HoldsOk w hs) (hp : PlayersOk P w ps)
    (kind n : Int) (s : ByteArray) (vl : Value) (en ce l1 l2 l3 l4 fu : Int) (er pl : Int) (hno : 2000 < s.size ∧ er = 1 ∧ pl = 0 ∨ s.size ≤ 2000 ∧ (endS s).err = er ∧ (endS s).place = pl ∧ er ≠ 0) :
    Calls Tryz.prog 8 #[.pointer (some ⟨bw, 0, none⟩), opV kind n s false false false vl en ce l1 l2 l3 l4 fu] w fun e w' => e = .returned (.bool true) ∧ ∃ ps' vp', Lw B w' bw ps' hs vp' vh ∧ PlayersOk P w' ps' ∧ HoldsOk w' hs ∧ LawStill w w' ∧ Below B w w' := by
  have hBw : B ≤ w.heap.size := by have := h.base; have := h.blk.lt; omega
  have hb0 : Below w.heap.size w (w.alloc (.cells (opC kind n s false false false vl en ce l1 l2 l3 l4 fu) 32)) := (Below.refl _ _).alloc (Nat.le_refl _) _
  have hOp := Blk.new w (opC kind n s false false false vl en ce l1 l2 l3 l4 fu) 32
  have HC := hide (P.no _ s er pl (P.env henv hb0) hno)
  have HRD : Hid (∀ W : World, Calls Tryz.prog 15 #[.string s] W fun e w' => e = .returned (.tuple #[.pointer none, .int .i64 er, .int .i64 pl]) ∧ Below W.heap.size W w') := by
    intro W
    rcases hno with ⟨h1, rfl, rfl⟩ | ⟨h1, h2, h3, h4⟩
    · exact (read_long s W h1).mono (fun e w' ⟨a, b⟩ => ⟨a, by rw [b]; exact Below.refl _ _⟩)
    · exact read_no s W h1 er pl h4 ⟨h2, h3⟩
  have HOP := hide hOp
  have HB0 := hide hb0
  have HL := hide h
  have HH := hide hh
  have HP := hide hp
  unfold opC at HC HOP HB0
  unfold opV
  clear hb0 hOp h hh hp henv hno
  go_enter Tryz.func8, Tryz.ntmps8
  go_wp2_with fail
  refine (unhide HC).mono ?_
  rintro e w1 ⟨rfl, hb1⟩
  have hO1 := (unhide HOP).below hb1 (unhide HOP).lt
  have hc1 := hO1.cell
  have HB1 := hide hb1
  clear hb1 HC
  go_wp2_with fail
  refine (unhide HRD w1).mono ?_
  rintro e w2 ⟨rfl, hb2⟩
  have hbw : Below w.heap.size w w2 := ((unhide HB0).trans ((unhide HB1).mono (by simp))).trans (hb2.mono (by have := (unhide HB1).size; simp at this; omega))
  have HBW := hide hbw
  clear hb2 hbw
  go_wp2_with fail
  go_ret
  have hlaw := LawStill.ofBelow (unhide HBW)
  exact ⟨rfl, ps, vp, (unhide HL).below (unhide HBW), (unhide HP).law hlaw, (unhide HH).law hlaw, hlaw, (unhide HBW).mono hBw⟩

set_option maxRecDepth 100000 in
set_option maxHeartbeats 4000000 in
theorem compiled_yes (P : Prg) (B bw : Nat) (ps hs : List Nat) (vp vh : Value) (w : World) (henv : P.Env w) (h : Lw B w bw ps hs vp vh) (hh : HoldsOk w hs) (hp : PlayersOk P w ps)
    (kind n : Int) (s : ByteArray) (vl : Value) (en ce l1 l2 l3 l4 fu : Int) (hs0 : s.size ≤ 2000) (he0 : (endS s).err = 0) :
    Calls Tryz.prog 8 #[.pointer (some ⟨bw, 0, none⟩), opV kind n s false false false vl en ce l1 l2 l3 l4 fu] w fun e w' => e = .returned (.bool true) ∧ ∃ ps' vp', Lw B w' bw ps' hs vp' vh ∧ PlayersOk P w' ps' ∧ HoldsOk w' hs ∧ LawStill w w' ∧ Below B w w' := by
  have hBw : B ≤ w.heap.size := by have := h.base; have := h.blk.lt; omega
  have hb0 : Below w.heap.size w (w.alloc (.cells (opC kind n s false false false vl en ce l1 l2 l3 l4 fu) 32)) := (Below.refl _ _).alloc (Nat.le_refl _) _
  have hOp := Blk.new w (opC kind n s false false false vl en ce l1 l2 l3 l4 fu) 32
  have HC := hide (P.yes _ s (P.env henv hb0) hs0 he0)
  have HRD : Hid (∀ W : World, Calls Tryz.prog 15 #[.string s] W fun e w' => ∃ p, e = .returned (.tuple #[.pointer (some ⟨p, 0, none⟩), .int .i64 0, .int .i64 0]) ∧ PgE W.heap.size w' p (fullS (endS s)) (endS s).c0.length (endS s).cells ((endS s).heads ++ [((endS s).c0.length : Int)]) ∧ Below W.heap.size W w') := fun W => read_yes s W hs0 he0
  have HFA := hide (read_facts s hs0)
  generalize fullS (endS s) = l at HC HRD HFA
  generalize ((endS s).c0.length : Int) = en0 at HC HRD HFA
  generalize (endS s).cells = ce0 at HC HRD HFA
  have HOP := hide hOp
  have HB0 := hide hb0
  have HL := hide h
  have HH := hide hh
  have HP := hide hp
  unfold opC at HC HOP HB0
  unfold opV
  clear hb0 hOp h hh hp henv
  go_enter Tryz.func8, Tryz.ntmps8
  go_wp2_with fail
  refine (unhide HC).mono ?_
  rintro e w1 ⟨c, rfl, hcode, hb1⟩
  have hO1 := (unhide HOP).below hb1 (unhide HOP).lt
  have hc1 := hO1.cell
  have HB1 := hide hb1
  have HCO := hide hcode
  have HO1 := hide hO1
  clear hb1 HC hcode hO1
  go_wp2_with fail
  refine (unhide HRD w1).mono ?_
  rintro e w2 ⟨p, rfl, hpg, hb2⟩
  have hc2 := ((unhide HO1).below hb2 (unhide HO1).lt).cell
  have hl2 := (unhide HO1).lt
  have hbw : Below w.heap.size w w2 := ((unhide HB0).trans ((unhide HB1).mono (by simp))).trans (hb2.mono (by have := (unhide HB1).size; simp at this; omega))
  have hcd2 := Cd.ofPg hpg (by have := (unhide HFA).2.1; omega)
  have hco2 := P.law (unhide HCO) (LawStill.ofBelow hb2)
  have hblk := Blk.new w2 #[.pointer (some ⟨c, 0, none⟩), .pointer (some ⟨p, 0, none⟩), .bool false, .bool false] 57
  have hb3 : Below w2.heap.size w2 (w2.alloc (.cells #[.pointer (some ⟨c, 0, none⟩), .pointer (some ⟨p, 0, none⟩), .bool false, .bool false] 57)) := (Below.refl _ _).alloc (Nat.le_refl _) _
  have hpl : PlayerIs P (w2.alloc (.cells #[.pointer (some ⟨c, 0, none⟩), .pointer (some ⟨p, 0, none⟩), .bool false, .bool false] 57)) w2.heap.size := ⟨c, p, l, en0, ce0, hblk, P.law hco2 (LawStill.ofBelow hb3), hcd2.law (LawStill.ofBelow hb3), (unhide HFA).1, (unhide HFA).2.1, (unhide HFA).2.2⟩
  have HPL := hide hpl
  have hbw3 : Below w.heap.size w (w2.alloc (.cells #[.pointer (some ⟨c, 0, none⟩), .pointer (some ⟨p, 0, none⟩), .bool false, .bool false] 57)) := hbw.trans (hb3.mono hbw.size)
  have HAD := hide (add_any B bw ps hs vp vh w2.heap.size _ ((unhide HL).below hbw3))
  have HBW := hide hbw3
  clear hpg hb2 hbw hcd2 hco2 hblk hb3 hpl hbw3 hc1
  go_wp2_with fail
  refine (unhide HAD).mono ?_
  rintro e w4 ⟨rfl, ps', vp', hps, hl4, hlaw4, hb4⟩
  have HL4 := hide hl4
  have HLAW := hide hlaw4
  have HB4 := hide hb4
  have HPS := hide hps
  clear hl4 hlaw4 hb4 hps
  go_wp2_with fail
  go_ret
  have hlaw : LawStill w w4 := (LawStill.ofBelow (unhide HBW)).trans (unhide HLAW)
  refine ⟨rfl, ps', vp', unhide HL4, ?_, (unhide HH).law hlaw, hlaw, ((unhide HBW).mono hBw).trans (unhide HB4)⟩
  intro x hx
  rcases unhide HPS with e | e
  · rw [e] at hx
    exact ((unhide HP).law hlaw) x hx
  · rw [e] at hx
    rcases List.mem_append.1 hx with hx | hx
    · exact ((unhide HP).law hlaw) x hx
    · simp at hx
      subst hx
      exact (unhide HPL).law (unhide HLAW)

end Go.Proofs.YtbcjfiaacenhgaaGreatDoor

