/- The statements' same and right. -/
import Derived.Test.YtbcjfiaacenhgaaGreatDoorG18
import Derived.Test.YtbcjfiaacenhgaaGreatDoorG27
import Derived.Test.YtbcjfiaacenhgaaGreatDoorG06
namespace Go.Proofs.YtbcjfiaacenhgaaGreatDoor
open Go Go.RowKit

/-- Two outcomes are one, but for steps. -/
def sameS (ea eb : Int) (sa sb ca cb : List Int) (oa ob : ByteArray) : Bool := ea == eb && oa.toList == ob.toList && decide (sa = sb) && decide (ca = cb)

/-- The lists of an outcome. -/
structure OutIs (w : World) (b : Nat) (vS vC : Value) (ls lc : List Int) : Prop where
  s : w.ownsRow b 2 1 vS ls.length (intCells ls)
  c : w.ownsRow b 2 1 vC lc.length (intCells lc)
  small : ls.length ≤ 17592186044416 ∧ lc.length ≤ 17592186044416
theorem OutIs.law {w w' : World} {b : Nat} {vS vC : Value} {ls lc : List Int} (h : OutIs w b vS vC ls lc) (hl : LawStill w w') : OutIs w' b vS vC ls lc := ⟨hl.row h.s, hl.row h.c, h.small⟩
theorem OutIs.below {w w' : World} {b : Nat} {vS vC : Value} {ls lc : List Int} (h : OutIs w b vS vC ls lc) (hl : Below w.heap.size w w') : OutIs w' b vS vC ls lc := h.law (LawStill.ofBelow hl)

set_option maxRecDepth 100000 in
set_option maxHeartbeats 2000000 in
theorem same_any (ea eb : Int) (sa sb ca cb : List Int) (oa ob : ByteArray) (ta tb : Int) (ba bb : Nat) (vSa vCa vSb vCb : Value) (w : World) (ha : OutIs w ba vSa vCa sa ca) (hb : OutIs w bb vSb vCb sb cb) :
    Calls Tryz.prog 42 #[outV ea vSa vCa oa ta, outV eb vSb vCb ob tb] w fun e w' => e = .returned (.bool (sameS ea eb sa sb ca cb oa ob)) ∧ Below w.heap.size w w' := by
  unfold outV
  obtain ⟨a1, k1, hv1⟩ := own_shape ha.s
  obtain ⟨a2, k2, hv2⟩ := own_shape ha.c
  obtain ⟨a3, k3, hv3⟩ := own_shape hb.s
  obtain ⟨a4, k4, hv4⟩ := own_shape hb.c
  subst hv1 hv2 hv3 hv4
  have hbW : Below w.heap.size w ((w.alloc (.cells #[.int .i64 ea, .slice a1 sa.length k1, .slice a2 ca.length k2, .string oa, .int .i64 ta] 73)).alloc (.cells #[.int .i64 eb, .slice a3 sb.length k3, .slice a4 cb.length k4, .string ob, .int .i64 tb] 73)) := ((Below.refl _ _).alloc (Nat.le_refl _) _).alloc (by simp) _
  have ha' := ha.below hbW
  have hb' := hb.below hbW
  have H1 := hide (sameNums_any _ _ sa sb ba bb _ ha'.s hb'.s ha.small.1 hb.small.1)
  have H2 : Hid (∀ n, Calls Tryz.prog 63 #[.slice a2 ca.length k2, .slice a4 cb.length k4] (((w.alloc (.cells #[.int .i64 ea, .slice a1 sa.length k1, .slice a2 ca.length k2, .string oa, .int .i64 ta] 73)).alloc (.cells #[.int .i64 eb, .slice a3 sb.length k3, .slice a4 cb.length k4, .string ob, .int .i64 tb] 73)).drewN n) fun e w' => e = .returned (.bool (decide (ca = cb))) ∧ ∃ m, w' = (((w.alloc (.cells #[.int .i64 ea, .slice a1 sa.length k1, .slice a2 ca.length k2, .string oa, .int .i64 ta] 73)).alloc (.cells #[.int .i64 eb, .slice a3 sb.length k3, .slice a4 cb.length k4, .string ob, .int .i64 tb] 73)).drewN n).drewN m) :=
    fun n => sameNums_any _ _ ca cb ba bb _ ha'.c hb'.c ha.small.2 hb.small.2
  have hu : sameS ea eb sa sb ca cb oa ob = (ea == eb && oa.toList == ob.toList && decide (sa = sb) && decide (ca = cb)) := rfl
  rw [hu]
  generalize decide (sa = sb) = d1 at H1 ⊢
  generalize decide (ca = cb) = d2 at H2 ⊢
  have HB := hide hbW
  clear ha hb ha' hb' hbW hu
  go_enter Tryz.func42, Tryz.ntmps42
  go_wp2_with fail
  refine (unhide H1).mono ?_
  rintro e w1 ⟨rfl, n, rfl⟩
  go_wp2_with fail
  refine (unhide H2 n).mono ?_
  rintro e w1 ⟨rfl, m, rfl⟩
  cases he : (ea == eb)
  · go_wp2_with fail
    go_ret
    exact ⟨ret_bool (by simp [he]), (unhide HB).trans ⟨rfl, rfl, rfl, Nat.le_refl _, fun _ _ => rfl⟩⟩
  · cases ho : (oa.toList == ob.toList)
    · go_wp2_with fail
      go_ret
      exact ⟨ret_bool (by simp [ho]), (unhide HB).trans ⟨rfl, rfl, rfl, Nat.le_refl _, fun _ _ => rfl⟩⟩
    · cases d1 <;> cases d2
      all_goals
        go_wp2_with fail
        go_ret
        exact ⟨ret_bool (by simp [he, ho]), (unhide HB).trans ⟨rfl, rfl, rfl, Nat.le_refl _, fun _ _ => rfl⟩⟩

set_option maxRecDepth 100000 in
set_option maxHeartbeats 2000000 in
theorem right_plain (x : Nat) (vc vpp : Value) (l1 l2 l3 l4 fuel : Int) (ea eb : Int) (sa sb ca cb : List Int) (oa ob : ByteArray) (ta tb : Int) (ba bb : Nat) (vSa vCa vSb vCb : Value) (w : World) (hx : Blk w x #[vc, vpp, .bool false, .bool false] 57) (ha : OutIs w ba vSa vCa sa ca) (hb : OutIs w bb vSb vCb sb cb) :
    Calls Tryz.prog 25 #[.pointer (some ⟨x, 0, none⟩), .agg #[.int .i64 l1, .int .i64 l2, .int .i64 l3, .int .i64 l4], .int .i64 fuel, outV ea vSa vCa oa ta, outV eb vSb vCb ob tb] w fun e w' => e = .returned (.bool (sameS ea eb sa sb ca cb oa ob && ta == tb)) ∧ Below w.heap.size w w' := by
  have hbW : Below w.heap.size w (((w.alloc (.cells #[.int .i64 l1, .int .i64 l2, .int .i64 l3, .int .i64 l4] 27)).alloc (.cells #[.int .i64 ea, vSa, vCa, .string oa, .int .i64 ta] 73)).alloc (.cells #[.int .i64 eb, vSb, vCb, .string ob, .int .i64 tb] 73)) := (((Below.refl _ _).alloc (Nat.le_refl _) _).alloc (by simp) _).alloc (by simp; omega) _
  have HS := hide (same_any ea eb sa sb ca cb oa ob ta tb ba bb vSa vCa vSb vCb _ (ha.below hbW) (hb.below hbW))
  obtain ⟨a1, k1, hv1⟩ := own_shape ha.s
  obtain ⟨a2, k2, hv2⟩ := own_shape ha.c
  obtain ⟨a3, k3, hv3⟩ := own_shape hb.s
  obtain ⟨a4, k4, hv4⟩ := own_shape hb.c
  subst hv1 hv2 hv3 hv4
  unfold outV at *
  generalize sameS ea eb sa sb ca cb oa ob = sm at HS ⊢
  have HX := hide hx
  have HB := hide hbW
  have hs2 : ((w.alloc (.cells #[.int .i64 l1, .int .i64 l2, .int .i64 l3, .int .i64 l4] 27)).alloc (.cells #[.int .i64 ea, .slice a1 sa.length k1, .slice a2 ca.length k2, .string oa, .int .i64 ta] 73)).heap.size = w.heap.size + 2 := by simp
  have hs1 : (w.alloc (.cells #[.int .i64 l1, .int .i64 l2, .int .i64 l3, .int .i64 l4] 27)).heap.size = w.heap.size + 1 := by simp
  have hA := ((Blk.new (w.alloc (.cells #[.int .i64 l1, .int .i64 l2, .int .i64 l3, .int .i64 l4] 27)) #[.int .i64 ea, .slice a1 sa.length k1, .slice a2 ca.length k2, .string oa, .int .i64 ta] 73).alloc (.cells #[.int .i64 eb, .slice a3 sb.length k3, .slice a4 cb.length k4, .string ob, .int .i64 tb] 73))
  have hB := Blk.new ((w.alloc (.cells #[.int .i64 l1, .int .i64 l2, .int .i64 l3, .int .i64 l4] 27)).alloc (.cells #[.int .i64 ea, .slice a1 sa.length k1, .slice a2 ca.length k2, .string oa, .int .i64 ta] 73)) #[.int .i64 eb, .slice a3 sb.length k3, .slice a4 cb.length k4, .string ob, .int .i64 tb] 73
  rw [hs1] at hA
  rw [hs2] at hB
  have HA := hide hA
  have HBB := hide hB
  clear ha hb hx hbW hA hB hs1 hs2
  go_enter Tryz.func25, Tryz.ntmps25
  go_wp2_with fail
  refine (unhide HS).mono ?_
  rintro e w1 ⟨rfl, hb1⟩
  have hx1 := (((((unhide HX).alloc _).alloc _).alloc _).below hb1 (by have := (unhide HX).lt; simp; omega))
  have hA1 := (unhide HA).below hb1 (unhide HA).lt
  have hB1 := (unhide HBB).below hb1 (unhide HBB).lt
  have hcx := hx1.cell
  have hcA := hA1.cell
  have hcB := hB1.cell
  have hbb : Below w.heap.size w w1 := (unhide HB).trans (hb1.mono (by simp; omega))
  have HBW := hide hbb
  clear HS hb1 hx1 hA1 hB1 hbb
  cases sm
  · go_wp2_with fail
    go_ret
    exact ⟨rfl, unhide HBW⟩
  · cases ht : (ta == tb)
    · go_wp2_with fail
      go_ret
      exact ⟨ret_bool (by simp [ht]), unhide HBW⟩
    · go_wp2_with fail
      go_ret
      exact ⟨ret_bool (by simp [ht]), unhide HBW⟩

end Go.Proofs.YtbcjfiaacenhgaaGreatDoor

/- What the statements ask of a program, as contracts; players; listed. -/
namespace Go.Proofs.YtbcjfiaacenhgaaGreatDoor
open Go Go.RowKit

/-- What is asked of the program: a reading of its code in memory, of what lies at package level, and the contracts of its calls. -/
structure Prg where
  Env : World → Prop
  CodeIs : World → Nat → List (Int × Int) → Int → Int → Prop
  env : ∀ {w w' : World}, Env w → Below w.heap.size w w' → Env w'
  law : ∀ {w w' : World} {c : Nat} {l : List (Int × Int)} {en ce : Int}, CodeIs w c l en ce → LawStill w w' → CodeIs w' c l en ce
  list : ∀ (w : World) (c : Nat) (l : List (Int × Int)) (en ce : Int), Env w → CodeIs w c l en ce → CodeOk l → 0 ≤ en ∧ en < l.length →
    Calls Tryz.prog 21 #[.pointer (some ⟨c, 0, none⟩)] w fun e w' => ∃ v, e = .returned (.tuple #[v, .int .i64 en]) ∧ w'.ownsRow w.heap.size 34 2 v l.length (instrCells l) ∧ Below w.heap.size w w'
  run : ∀ (w : World) (c : Nat) (l : List (Int × Int)) (en ce l1 l2 l3 l4 fuel : Int), Env w → CodeIs w c l en ce → CodeOk l → 0 ≤ en ∧ en < l.length → 0 ≤ ce ∧ ce ≤ 1000 → -3000 < fuel ∧ fuel < 3000 →
    Calls Tryz.prog 23 #[.pointer (some ⟨c, 0, none⟩), .agg #[.int .i64 l1, .int .i64 l2, .int .i64 l3, .int .i64 l4], .int .i64 fuel] w fun e w' => ∃ er vS vC out st ls lc, e = .returned (outV er vS vC out st) ∧ OutIs w' w.heap.size vS vC ls lc ∧ (ls.length ≤ 1000 ∧ lc.length ≤ 1000 ∧ ∀ j, vS.ownBlock = some j → vC.ownBlock ≠ some j) ∧ Below w.heap.size w w'
  no : ∀ (w : World) (s : ByteArray) (er pl : Int), Env w → (2000 < s.size ∧ er = 1 ∧ pl = 0 ∨ s.size ≤ 2000 ∧ (endS s).err = er ∧ (endS s).place = pl ∧ er ≠ 0) →
    Calls Tryz.prog 14 #[.string s, .agg #[.bool false, .bool false, .bool false]] w fun e w' => e = .returned (.tuple #[.pointer none, .int .i64 er, .int .i64 pl]) ∧ Below w.heap.size w w'
  yes : ∀ (w : World) (s : ByteArray), Env w → s.size ≤ 2000 → (endS s).err = 0 →
    Calls Tryz.prog 14 #[.string s, .agg #[.bool false, .bool false, .bool false]] w fun e w' => ∃ c, e = .returned (.tuple #[.pointer (some ⟨c, 0, none⟩), .int .i64 0, .int .i64 0]) ∧ CodeIs w' c (fullS (endS s)) (endS s).c0.length (endS s).cells ∧ Below w.heap.size w w'

theorem Cd.law {w w' : World} {p : Nat} {l : List (Int × Int)} {en ce : Int} (h : Cd w.heap.size w p l en ce) (hl : LawStill w w') : Cd w'.heap.size w' p l en ce := by
  obtain ⟨g, cap, vH, h1, h2, h3, h4⟩ := h
  have := hl.size
  exact ⟨g, cap, vH, hl.blk h1, by omega, by omega, hl.row h4⟩

def PlayerIs (P : Prg) (w : World) (q : Nat) : Prop :=
  ∃ c p l en ce, Blk w q #[.pointer (some ⟨c, 0, none⟩), .pointer (some ⟨p, 0, none⟩), .bool false, .bool false] 57 ∧ P.CodeIs w c l en ce ∧ Cd w.heap.size w p l en ce ∧ CodeOk l ∧ (0 ≤ en ∧ en < l.length) ∧ (0 ≤ ce ∧ ce ≤ 1000)
theorem PlayerIs.law {P : Prg} {w w' : World} {q : Nat} (h : PlayerIs P w q) (hl : LawStill w w') : PlayerIs P w' q := by
  obtain ⟨c, p, l, en, ce, h1, h2, h3, h4⟩ := h
  exact ⟨c, p, l, en, ce, hl.blk h1, P.law h2 hl, h3.law hl, h4⟩
def PlayersOk (P : Prg) (w : World) (ps : List Nat) : Prop := ∀ q ∈ ps, PlayerIs P w q
theorem PlayersOk.law {P : Prg} {w w' : World} {ps : List Nat} (h : PlayersOk P w ps) (hl : LawStill w w') : PlayersOk P w' ps := fun q hq => (h q hq).law hl

/-- What keep leaves. -/
theorem Kp.law {B : Nat} {w W w' : World} {bw : Nat} {ps hs : List Nat} {vp vh : Value} {q : Nat} {vi vn : Value} {ni nn : Nat} {mk : Int} {k : Nat} {gl : List Nat} {qg : Nat} {vig vng vhk : Value} (h : Kp B W w' bw ps hs vp vh q vi vn ni nn mk k gl qg vig vng vhk) (hl : Lw B W bw ps hs vp vh) (hW : LawStill w W) (hBW : Below B w W) (hBw : B ≤ w.heap.size)
    (hq : w.heap.size ≤ q) (hvi : ∀ j, vi.ownBlock = some j → w.heap.size ≤ j) (hvn : ∀ j, vn.ownBlock = some j → w.heap.size ≤ j) :
    LawStill w w' ∧ Below B w w' := by
  have hlaw : LawStill w w' := by
    refine ⟨h.still.os.trans hW.os, h.still.tape.trans hW.tape, h.still.output.trans hW.output, Nat.le_trans hW.size h.still.size, ?_⟩
    intro j cs T hb h1 h2 h3
    have hb1 := hW.block j cs T hb h1 h2 h3
    have hlt := hb.lt
    refine hb1.still h.still ?_
    rintro (e | e | e | e)
    · exact hl.notfoot hb1 h1.symm h2.symm h3.symm e
    · omega
    · have := hvi j e; omega
    · have := hvn j e; omega
  refine ⟨hlaw, hBW.trans (h.still.below ?_ (by have := hW.size; omega))⟩
  rintro j (e | e | e | e)
  · exact (hl.footlt e).1
  · omega
  · have := hvi j e; omega
  · have := hvn j e; omega
/-- Holds none of whose lists lies in one of these rows. -/
def HoldsFree (w : World) (hs : List Nat) (q : Nat) (vi vn : Value) : Prop := ∀ x ∈ hs, x ≠ q ∧ ∃ mk vi' vn' ni nn, HoldIs w x mk vi' vn' ni nn ∧ ∀ j, vi.ownBlock = some j ∨ vn.ownBlock = some j → vi'.ownBlock ≠ some j ∧ vn'.ownBlock ≠ some j
theorem HoldsOk.free {w W : World} {hs : List Nat} (h : HoldsOk w hs) (hW : LawStill w W) {q : Nat} {vi vn : Value} (hq : w.heap.size ≤ q) (hvi : ∀ j, vi.ownBlock = some j → w.heap.size ≤ j) (hvn : ∀ j, vn.ownBlock = some j → w.heap.size ≤ j) : HoldsFree W hs q vi vn := by
  intro x hx
  obtain ⟨mk, vi', vn', ni, nn, h1⟩ := h x hx
  have hlt := h1.blk.lt
  refine ⟨by omega, mk, vi', vn', ni, nn, hW.hold h1, ?_⟩
  intro j hj
  have hge : w.heap.size ≤ j := by
    rcases hj with e | e
    · exact hvi j e
    · exact hvn j e
  exact ⟨fun e => by have := (ownsRow_lt h1.is e).1; omega, fun e => by have := (ownsRow_lt h1.ns e).1; omega⟩
theorem Kp.holds {B : Nat} {W w' : World} {bw : Nat} {ps hs : List Nat} {vp vh : Value} {q : Nat} {vi vn : Value} {ni nn : Nat} {mk : Int} {k : Nat} {gl : List Nat} {qg : Nat} {vig vng vhk : Value} (h : Kp B W w' bw ps hs vp vh q vi vn ni nn mk k gl qg vig vng vhk) (hl : Lw B W bw ps hs vp vh) (hf : HoldsFree W hs q vi vn) {cs : Array Value} (hqb : Blk W q cs 65) {n1 n2 : Nat} {xs ys : List Value} (hri : W.ownsRow 0 34 2 vi n1 xs) (hrn : W.ownsRow 0 2 1 vn n2 ys) : HoldsOk w' (hs ++ gl) := by
  intro x hx
  rcases List.mem_append.1 hx with hx | hx
  · obtain ⟨hne, mk', vi', vn', ni', nn', h1, h2⟩ := hf x hx
    refine ⟨mk', vi', vn', ni', nn', h1.still h.still ?_ ?_ ?_⟩
    · rintro (e | e | e | e)
      · exact hl.notfoot h1.blk (by decide) (by decide) (by decide) e
      · exact hne e
      · exact row_not_blk h1.blk hri (by decide) e
      · exact row_not_blk h1.blk hrn (by decide) e
    · rintro j hj (e | e | e | e)
      · exact hl.notrow h1.is (by decide) (by decide) (by decide) hj e
      · exact row_not_blk hqb h1.is (by decide) (by rw [hj, e])
      · exact (h2 j (Or.inl e)).1 hj
      · exact (h2 j (Or.inr e)).1 hj
    · rintro j hj (e | e | e | e)
      · exact hl.notrow h1.ns (by decide) (by decide) (by decide) hj e
      · exact row_not_blk hqb h1.ns (by decide) (by rw [hj, e])
      · exact (h2 j (Or.inl e)).2 hj
      · exact (h2 j (Or.inr e)).2 hj
  · obtain ⟨vi', vn', ni', nn', h1, _⟩ := h.all x hx
    exact ⟨_, _, _, _, _, h1⟩

set_option maxRecDepth 100000 in
set_option maxHeartbeats 4000000 in
theorem listed_any (P : Prg) (B bw : Nat) (ps hs : List Nat) (vp vh : Value) (q : Nat) (w : World) (henv : P.Env w) (hP : PlayerIs P w q) (h : Lw B w bw ps hs vp vh) (hh : HoldsOk w hs) (hlen : hs.length + 4 ≤ 17592186044416) :
    Calls Tryz.prog 11 #[.pointer (some ⟨bw, 0, none⟩), .pointer (some ⟨q, 0, none⟩)] w fun e w' => e = .returned (.bool true) ∧ ∃ hs' vh', Lw B w' bw ps hs' vp vh' ∧ HoldsOk w' hs' ∧ hs'.length = hs.length + 4 ∧ LawStill w w' ∧ Below B w w' := by
  obtain ⟨c, p, l, en, ce, hq, hcode, hcd, hok, hen, hce⟩ := hP
  have hBw : B ≤ w.heap.size := by have := h.base; have := h.blk.lt; omega
  have hc := hq.cell
  have HLS := hide (P.list w c l en ce henv hcode hok hen)
  have hsm := hok.small
  have hpos : 0 < l.length := by have := hen; omega
  obtain ⟨gp, capp, vHp, hPb, hpB, hgB, hProw⟩ := hcd
  have HPb := hide hPb
  have HProw := hide hProw
  have HL := hide h
  have HH := hide hh
  have HQ := hide hq
  clear hcode hok hPb hProw h hh hq
  go_enter Tryz.func11, Tryz.ntmps11
  go_wp2_with fail
  refine (unhide HLS).mono ?_
  rintro e w1 ⟨v, rfl, hv, hb1⟩
  have hq1 := (unhide HQ).below hb1 (unhide HQ).lt
  have hP1 := (unhide HPb).below hb1 hpB
  have hr1 : w1.ownsRow 0 34 2 (.slice (some ⟨gp, 0, none⟩) l.length capp) l.length (instrCells l) := (LawStill.ofBelow hb1).row (unhide HProw)
  obtain ⟨gv, capv, hvf, hgv, hgvl⟩ := hv.form hpos
  subst hvf
  have hc1 := hq1.cell
  have hcp1 := hP1.cell
  have HV := hide hv
  have HR1 := hide hr1
  have HB1 := hide hb1
  have hlI : (l.length : Int) ≤ 5000 := by omega
  clear hc hv hr1 hb1 hq1 hP1 HLS
  go_wp2_with fail
  go_loopw [7, 8] (fun ok i wr => ∃ (k n : Nat), i = .int .i64 k ∧ k ≤ l.length ∧ ok = .bool true ∧ wr = w1.drewN n) (fun _ i _ => l.length - (intOf i).toNat)
  case atStart => exact ⟨0, 0, rfl, Nat.zero_le _, rfl, rfl⟩
  case round =>
    obtain ⟨k, n, rfl, hk, rfl, rfl⟩ := hrel
    by_cases hlt : k < l.length
    · obtain ⟨x, hx⟩ : ∃ x, l[k]? = some x := ⟨_, List.getElem?_eq_getElem hlt⟩
      have ha1 := own_cell (unhide HV) (k * 2) (by omega)
      have ha2 := own_cell (unhide HV) (k * 2 + 1) (by omega)
      have hb1 := own_cell (unhide HR1) (k * 2) (by omega)
      have hb2 := own_cell (unhide HR1) (k * 2 + 1) (by omega)
      rw [(instrCells_at _ _ _ hx).1] at ha1 hb1
      rw [(instrCells_at _ _ _ hx).2] at ha2 hb2
      have hltI : (k : Int) < l.length := by omega
      clear hx
      go_wp2_with fail
      go_region
      go_wp2_with fail
      go_roundw
      case rel => exact ⟨k + 1, n + 1, by go_num, by omega, rfl, rfl⟩
      case measure => simp [intOf]; omega
    · have hkn : k = l.length := by omega
      subst hkn
      -- the hold that is kept
      have hb1 := unhide HB1
      have hl1 := ((unhide HL).below hb1).drewN n
      have hbn : Below w.heap.size w (w1.drewN n) := below_drawn hb1 n
      have hblk := Blk.new (w1.drewN n) #[.slice (some ⟨gv, 0, none⟩) l.length capv, .slice none 0 0, .int .i64 0] 65
      have hsz : (w1.drewN n).heap.size = w1.heap.size := rfl
      have hbA : Below w.heap.size w ((w1.drewN n).alloc (.cells #[.slice (some ⟨gv, 0, none⟩) l.length capv, .slice none 0 0, .int .i64 0] 65)) := hbn.alloc (by have := hb1.size; rw [hsz]; omega) _
      have HK := hide (keep_any B bw ps hs vp vh w1.heap.size 0 _ (.slice none 0 0) l [] _ (hl1.alloc _) hblk (ownsRow_base (ownsRow_alloc (w := w1.drewN n) (unhide HV) _) (Nat.zero_le _)) (World.ownsRow_nil _ _ _ _) (by omega) (by simp) hlen)
      have HLA := hide (hl1.alloc (.cells #[.slice (some ⟨gv, 0, none⟩) l.length capv, .slice none 0 0, .int .i64 0] 65))
      have HBA := hide hbA
      have HBLK := hide hblk
      have HRI := hide (ownsRow_base (ownsRow_alloc (w := w1.drewN n) (unhide HV) (.cells #[.slice (some ⟨gv, 0, none⟩) l.length capv, .slice none 0 0, .int .i64 0] 65)) (Nat.zero_le _))
      have hw1 : w.heap.size ≤ w1.heap.size := hb1.size
      clear hl1 hbn hblk hbA hb1
      go_wp2_with fail
      refine (unhide HK).mono ?_
      rintro e w3 ⟨rfl, gl, qg, vig, vng, vh', hkp⟩
      have HKP := hide hkp
      clear hkp
      go_wp2_with fail
      go_ret
      obtain ⟨o1, o2⟩ := (unhide HKP).law (w := w) (unhide HLA) (LawStill.ofBelow (unhide HBA)) ((unhide HBA).mono hBw) hBw hw1 (fun j hj => by simp [Value.ownBlock] at hj; omega) (fun j hj => by simp [Value.ownBlock] at hj)
      have o3 := (unhide HKP).holds (unhide HLA) ((unhide HH).free (LawStill.ofBelow (unhide HBA)) hw1 (fun j hj => by simp [Value.ownBlock] at hj; omega) (fun j hj => by simp [Value.ownBlock] at hj)) (unhide HBLK) (unhide HRI) (World.ownsRow_nil _ _ _ _)
      exact ⟨rfl, hs ++ gl, vh', (unhide HKP).lw, o3, by simp [(unhide HKP).len], o1, o2⟩

end Go.Proofs.YtbcjfiaacenhgaaGreatDoor

/- The program: small functions of its packages tokens and compiler. -/
namespace Go.Proofs.YtbcjfiaacenhgaaGreatDoor
open Go Go.RowKit

set_option maxHeartbeats 400000 in
theorem isGap_any (c : UInt8) (w : World) :
    Calls Tryz.prog 79 #[.int .u8 c.toNat] w fun e w' => e = .returned (.bool (gapB c)) ∧ w' = w := by
  have h1 : gapB c = (((c.toNat : Int) == 32) || ((c.toNat : Int) == 10)) := by
    unfold gapB
    have e1 : (c == 32) = ((c.toNat : Int) == 32) := by
      rw [Bool.eq_iff_iff]
      simp only [beq_iff_eq]
      constructor
      · rintro rfl; rfl
      · intro h; apply UInt8.toNat_inj.1; have : (32 : UInt8).toNat = 32 := rfl; omega
    have e2 : (c == 10) = ((c.toNat : Int) == 10) := by
      rw [Bool.eq_iff_iff]
      simp only [beq_iff_eq]
      constructor
      · rintro rfl; rfl
      · intro h; apply UInt8.toNat_inj.1; have : (10 : UInt8).toNat = 10 := rfl; omega
    rw [e1, e2]
  rw [h1]
  generalize (c.toNat : Int) = z
  by_cases hz : z = 32
  · subst hz
    go_enter Tryz.func79, Tryz.ntmps79
    go_wp2
    go_ret
    exact ⟨rfl, rfl⟩
  · by_cases hz2 : z = 10
    · subst hz2
      go_enter Tryz.func79, Tryz.ntmps79
      go_wp2
      go_ret
      exact ⟨rfl, rfl⟩
    · go_enter Tryz.func79, Tryz.ntmps79
      go_wp2
      go_ret
      exact ⟨rfl, rfl⟩

theorem Tryz.sizeInstr : (Tryz.prog.info? 34).map (fun i => i.size) = some 2 := by kernel_rfl

set_option maxHeartbeats 400000 in
theorem plainI_any (op : Int) (w : World) :
    Calls Tryz.prog 48 #[.int .i64 op] w fun e w' => e = .returned (.agg #[.int .i64 op, .int .i64 0]) ∧ w' = w.alloc (.cells #[.int .i64 op, .int .i64 0] 34) := by
  go_enter Tryz.func48, Tryz.ntmps48
  go_wp2_with fail
  refine bodyPost_ret (results_cell_row (P := Tryz.prog) rfl _ _ w.heap.size 34 _ (0, 0) _ rfl (Blk.new w _ _) Tryz.underlying34 rfl Tryz.sizeInstr) rfl ?_
  exact ⟨rfl, rfl⟩

set_option maxHeartbeats 400000 in
theorem withI_any (op arg : Int) (w : World) :
    Calls Tryz.prog 69 #[.int .i64 op, .int .i64 arg] w fun e w' => e = .returned (.agg #[.int .i64 op, .int .i64 arg]) ∧ w' = w.alloc (.cells #[.int .i64 op, .int .i64 arg] 34) := by
  go_enter Tryz.func69, Tryz.ntmps69
  go_wp2_with fail
  refine bodyPost_ret (results_cell_row (P := Tryz.prog) rfl _ _ w.heap.size 34 _ (0, 0) _ rfl (Blk.new w _ _) Tryz.underlying34 rfl Tryz.sizeInstr) rfl ?_
  exact ⟨rfl, rfl⟩

set_option maxHeartbeats 400000 in
theorem partNext_any (d n : Nat) (ao : Option Addr) (cap : Nat) (w : World) (h : Blk w d #[.slice ao n cap] 119) (hn : n ≤ 100000) :
    Calls Tryz.prog 70 #[.pointer (some ⟨d, 0, none⟩)] w fun e w' => e = .returned (.int .i64 n) ∧ w' = w := by
  have hc := h.cell
  have hnI : (n : Int) ≤ 100000 := by omega
  have hw : IntKind.i64.wrap (n : Int) = n := by rw [IntKind.wrap_i64]; omega
  go_enter Tryz.func70, Tryz.ntmps70
  go_wp2
  go_ret
  exact ⟨rfl, rfl⟩

set_option maxRecDepth 100000 in
set_option maxHeartbeats 2000000 in
/-- One instruction more. -/
theorem partAdd_any (B d q : Nat) (v : Value) (l : List (Int × Int)) (op arg : Int) (c1 : Nat) (w : World) (h : Blk w d #[v] 119) (ho : w.ownsRow B 34 2 v l.length (instrCells l)) (hq : Blk w q #[.int .i64 op, .int .i64 arg] 34) (hB : B ≤ w.heap.size) (hl : l.length < 50000) :
    Calls Tryz.prog 47 #[.pointer (some ⟨d, 0, none⟩), .slice (some ⟨q, 0, none⟩) 1 c1] w fun e w' => e = .returned (.int .i64 l.length) ∧ ∃ g cap w1, w1.ownsRow B 34 2 (.slice (some ⟨g, 0, none⟩) (l.length + 1) cap) (l.length + 1) (instrCells (l ++ [(op, arg)])) ∧ w.grownBy w1 v.ownBlock ∧ (v.ownBlock = some g ∨ g = w.heap.size) ∧ w' = w1.setCell ⟨d, 0, none⟩ (.slice (some ⟨g, 0, none⟩) (l.length + 1) cap) := by
  obtain ⟨iI, hiI, hzI0, hzI1, hzI2⟩ := info_parts Tryz.infoInstr
  obtain ⟨ao, cap, hv⟩ := own_shape ho
  subst hv
  have HN := hide (partNext_any d l.length ao cap w h (by omega))
  have hc := h.cell
  have hf := h.free
  have hne : some d ≠ (Value.slice ao l.length cap).ownBlock := fun e => row_not_blk h ho (by decide) e.symm
  have HO := hide ho
  have HQ := hide hq
  have HB := hide hB
  have HH := hide h
  clear ho hq hB h
  go_enter Tryz.func47, Tryz.ntmps47
  go_wp2_with fail
  refine (unhide HN).mono ?_
  rintro e w2 ⟨rfl, hw⟩
  obtain rfl := hw.symm
  clear hw HN
  go_wp2_with (at_builtin; refine wpList_append_lies _ rfl (.tmp 12) (.tmp 13) 30 rfl B 34 iI _ 2 16 Tryz.underlying30 hiI hzI0 hzI1 hzI2 rfl (by decide) (.slice ao l.length cap) l.length (instrCells l) (by simp [Act.eval]) (unhide HO) ⟨q, 0, none⟩ 1 c1 [.int .i64 op, .int .i64 arg] (by simp [Act.eval]) rfl (World.news_of_block (unhide HQ)) (by simp [Value.oneCell']) (by omega) (by unfold maxLen; omega) (by omega) (unhide HB) _ rfl ?_; intro g cap2 w5 hown hgrow hat hlt1; have hb5 := (unhide HH).grown hgrow hne; have hc5 := hb5.cell; have hf5 := hb5.free; have HOW := hide hown; have HG := hide hgrow; have HA := hide hat; clear hown hgrow hat hb5 hc hf)
  go_ret
  refine ⟨rfl, g, cap2, w5, ?_, unhide HG, unhide HA, rfl⟩
  have := unhide HOW
  simpa [instrCells] using this

theorem blk_two (w : World) (o : Obj) (cs : Array Value) (T : TypeId) : Blk ((w.alloc o).alloc (.cells cs T)) (w.heap.size + 1) cs T := by
  have h := Blk.new (w.alloc o) cs T
  have e : (w.alloc o).heap.size = w.heap.size + 1 := by simp
  rw [e] at h
  exact h

set_option maxRecDepth 100000 in
set_option maxHeartbeats 400000 in
theorem moved_any (op arg by' : Int) (w : World) :
    Calls Tryz.prog 71 #[.agg #[.int .i64 op, .int .i64 arg], .int .i64 by'] w fun e w' => e = .returned (.agg #[.int .i64 (shiftS by' (op, arg)).1, .int .i64 (shiftS by' (op, arg)).2]) ∧ Below w.heap.size w w' := by
  go_enter Tryz.func71, Tryz.ntmps71
  go_wp2_with fail
  all_goals
    refine bodyPost_ret (results_cell_row (P := Tryz.prog) rfl _ _ (w.heap.size + 1) 34 _ (0, 0) _ rfl (blk_two w _ _ _) Tryz.underlying34 rfl Tryz.sizeInstr) rfl ?_
    refine ⟨?_, ((Below.refl _ _).alloc (Nat.le_refl _) _).alloc (by simp) _⟩
    rw [shiftS_eq]
    simp_all [jumpB]

end Go.Proofs.YtbcjfiaacenhgaaGreatDoor

