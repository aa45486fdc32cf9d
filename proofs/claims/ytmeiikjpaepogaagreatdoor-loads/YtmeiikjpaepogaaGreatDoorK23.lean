/- The statements' same and right. -/
import Derived.Test.YtmeiikjpaepogaaGreatDoorK14
import Derived.Test.YtmeiikjpaepogaaGreatDoorK22
namespace Go.Proofs.YtmeiikjpaepogaaGreatDoor
open Go Go.RowKit

/-- Two outcomes are one, but for steps. -/
def sameS (ea eb : Int) (sa sb ca cb : List Int) (oa ob : ByteArray) : Bool := ea == eb && oa.toList == ob.toList && decide (sa = sb) && decide (ca = cb)

/-- The lists of an outcome. -/
structure OutIs (w : World) (b : Nat) (vS vC : Value) (ls lc : List Int) : Prop where
  s : w.ownsRow b 2 1 vS ls.length (intCells ls)
  c : w.ownsRow b 2 1 vC lc.length (intCells lc)
  small : ls.length ≤ 17592186044416 ∧ lc.length ≤ 17592186044416
theorem OutIs.law {w w' : World} {b : Nat} {vS vC : Value} {ls lc : List Int} (h : OutIs w b vS vC ls lc) (hl : LawStill w w') : OutIs w' b vS vC ls lc := ⟨hl.row h.s, hl.row h.c, h.small⟩
theorem OutIs.below {w w' : World} {b : Nat} {vS vC : Value} {ls lc : List Int} (h : OutIs w b vS vC ls lc) (hl : Below w.heap.size w w') : OutIs w' b vS vC ls lc := h.law (LawStill.ofBelow hl)

set_option maxRecDepth 100000 in
set_option maxHeartbeats 2000000 in
theorem same_any (ea eb : Int) (sa sb ca cb : List Int) (oa ob : ByteArray) (ta tb : Int) (ba bb : Nat) (vSa vCa vSb vCb : Value) (w : World) (ha : OutIs w ba vSa vCa sa ca) (hb : OutIs w bb vSb vCb sb cb) :
    Calls Tryz.prog 139 #[outV ea vSa vCa oa ta, outV eb vSb vCb ob tb] w fun e w' => e = .returned (.bool (sameS ea eb sa sb ca cb oa ob)) ∧ Below w.heap.size w w' := by
  unfold outV
  obtain ⟨a1, k1, hv1⟩ := own_shape ha.s
  obtain ⟨a2, k2, hv2⟩ := own_shape ha.c
  obtain ⟨a3, k3, hv3⟩ := own_shape hb.s
  obtain ⟨a4, k4, hv4⟩ := own_shape hb.c
  subst hv1 hv2 hv3 hv4
  have hbW : Below w.heap.size w ((w.alloc (.cells #[.int .i64 ea, .slice a1 sa.length k1, .slice a2 ca.length k2, .string oa, .int .i64 ta] 44)).alloc (.cells #[.int .i64 eb, .slice a3 sb.length k3, .slice a4 cb.length k4, .string ob, .int .i64 tb] 44)) := ((Below.refl _ _).alloc (Nat.le_refl _) _).alloc (by simp) _
  have ha' := ha.below hbW
  have hb' := hb.below hbW
  have H1 := V (sameNums_any _ _ sa sb ba bb _ ha'.s hb'.s ha.small.1 hb.small.1)
  have H2 : Hid (∀ n, Calls Tryz.prog 185 #[.slice a2 ca.length k2, .slice a4 cb.length k4] (((w.alloc (.cells #[.int .i64 ea, .slice a1 sa.length k1, .slice a2 ca.length k2, .string oa, .int .i64 ta] 44)).alloc (.cells #[.int .i64 eb, .slice a3 sb.length k3, .slice a4 cb.length k4, .string ob, .int .i64 tb] 44)).drewN n) fun e w' => e = .returned (.bool (decide (ca = cb))) ∧ ∃ m, w' = (((w.alloc (.cells #[.int .i64 ea, .slice a1 sa.length k1, .slice a2 ca.length k2, .string oa, .int .i64 ta] 44)).alloc (.cells #[.int .i64 eb, .slice a3 sb.length k3, .slice a4 cb.length k4, .string ob, .int .i64 tb] 44)).drewN n).drewN m) :=
    fun n => sameNums_any _ _ ca cb ba bb _ ha'.c hb'.c ha.small.2 hb.small.2
  have hu : sameS ea eb sa sb ca cb oa ob = (ea == eb && oa.toList == ob.toList && decide (sa = sb) && decide (ca = cb)) := rfl
  rw [hu]
  generalize decide (sa = sb) = d1 at H1 ⊢
  generalize decide (ca = cb) = d2 at H2 ⊢
  have HB := V hbW
  clear ha hb ha' hb' hbW hu
  go_enter Tryz.func139, Tryz.ntmps139
  go_wp2_with fail
  refine (U H1).mono ?_
  rintro e w1 ⟨rfl, n, rfl⟩
  go_wp2_with fail
  refine (U H2 n).mono ?_
  rintro e w1 ⟨rfl, m, rfl⟩
  cases he : (ea == eb)
  · go_wp2_with fail
    go_ret
    exact ⟨ret_bool (by simp [he]), (U HB).trans ⟨rfl, rfl, rfl, Nat.le_refl _, fun _ _ => rfl⟩⟩
  · cases ho : (oa.toList == ob.toList)
    · go_wp2_with fail
      go_ret
      exact ⟨ret_bool (by simp [ho]), (U HB).trans ⟨rfl, rfl, rfl, Nat.le_refl _, fun _ _ => rfl⟩⟩
    · cases d1 <;> cases d2
      all_goals
        go_wp2_with fail
        go_ret
        exact ⟨ret_bool (by simp [he, ho]), (U HB).trans ⟨rfl, rfl, rfl, Nat.le_refl _, fun _ _ => rfl⟩⟩

set_option maxRecDepth 100000 in
set_option maxHeartbeats 2000000 in
theorem right_plain (x : Nat) (vc vpp : Value) (l1 l2 l3 l4 fuel : Int) (ea eb : Int) (sa sb ca cb : List Int) (oa ob : ByteArray) (ta tb : Int) (ba bb : Nat) (vSa vCa vSb vCb : Value) (w : World) (hx : Blk w x #[vc, vpp, .bool false, .bool false] 129) (ha : OutIs w ba vSa vCa sa ca) (hb : OutIs w bb vSb vCb sb cb) :
    Calls Tryz.prog 71 #[.pointer (some ⟨x, 0, none⟩), .agg #[.int .i64 l1, .int .i64 l2, .int .i64 l3, .int .i64 l4], .int .i64 fuel, outV ea vSa vCa oa ta, outV eb vSb vCb ob tb] w fun e w' => e = .returned (.bool (sameS ea eb sa sb ca cb oa ob && ta == tb)) ∧ Below w.heap.size w w' := by
  have hbW : Below w.heap.size w (((w.alloc (.cells #[.int .i64 l1, .int .i64 l2, .int .i64 l3, .int .i64 l4] 39)).alloc (.cells #[.int .i64 ea, vSa, vCa, .string oa, .int .i64 ta] 44)).alloc (.cells #[.int .i64 eb, vSb, vCb, .string ob, .int .i64 tb] 44)) := (((Below.refl _ _).alloc (Nat.le_refl _) _).alloc (by simp) _).alloc (by simp; omega) _
  have HS := V (same_any ea eb sa sb ca cb oa ob ta tb ba bb vSa vCa vSb vCb _ (ha.below hbW) (hb.below hbW))
  obtain ⟨a1, k1, hv1⟩ := own_shape ha.s
  obtain ⟨a2, k2, hv2⟩ := own_shape ha.c
  obtain ⟨a3, k3, hv3⟩ := own_shape hb.s
  obtain ⟨a4, k4, hv4⟩ := own_shape hb.c
  subst hv1 hv2 hv3 hv4
  unfold outV at *
  generalize sameS ea eb sa sb ca cb oa ob = sm at HS ⊢
  have HX := V hx
  have HB := V hbW
  have hs2 : ((w.alloc (.cells #[.int .i64 l1, .int .i64 l2, .int .i64 l3, .int .i64 l4] 39)).alloc (.cells #[.int .i64 ea, .slice a1 sa.length k1, .slice a2 ca.length k2, .string oa, .int .i64 ta] 44)).heap.size = w.heap.size + 2 := by simp
  have hs1 : (w.alloc (.cells #[.int .i64 l1, .int .i64 l2, .int .i64 l3, .int .i64 l4] 39)).heap.size = w.heap.size + 1 := by simp
  have hA := ((Blk.new (w.alloc (.cells #[.int .i64 l1, .int .i64 l2, .int .i64 l3, .int .i64 l4] 39)) #[.int .i64 ea, .slice a1 sa.length k1, .slice a2 ca.length k2, .string oa, .int .i64 ta] 44).alloc (.cells #[.int .i64 eb, .slice a3 sb.length k3, .slice a4 cb.length k4, .string ob, .int .i64 tb] 44))
  have hB := Blk.new ((w.alloc (.cells #[.int .i64 l1, .int .i64 l2, .int .i64 l3, .int .i64 l4] 39)).alloc (.cells #[.int .i64 ea, .slice a1 sa.length k1, .slice a2 ca.length k2, .string oa, .int .i64 ta] 44)) #[.int .i64 eb, .slice a3 sb.length k3, .slice a4 cb.length k4, .string ob, .int .i64 tb] 44
  rw [hs1] at hA
  rw [hs2] at hB
  have HA := V hA
  have HBB := V hB
  clear ha hb hx hbW hA hB hs1 hs2
  go_enter Tryz.func71, Tryz.ntmps71
  go_wp2_with fail
  refine (U HS).mono ?_
  rintro e w1 ⟨rfl, hb1⟩
  have hx1 := (((((U HX).alloc _).alloc _).alloc _).below hb1 (by have := (U HX).lt; simp; omega))
  have hA1 := (U HA).below hb1 (U HA).lt
  have hB1 := (U HBB).below hb1 (U HBB).lt
  have hcx := hx1.cell
  have hcA := hA1.cell
  have hcB := hB1.cell
  have hbb : Below w.heap.size w w1 := (U HB).trans (hb1.mono (by simp; omega))
  have HBW := V hbb
  clear HS hb1 hx1 hA1 hB1 hbb
  cases sm
  · go_wp2_with fail
    go_ret
    exact ⟨rfl, U HBW⟩
  · cases ht : (ta == tb)
    · go_wp2_with fail
      go_ret
      exact ⟨ret_bool (by simp [ht]), U HBW⟩
    · go_wp2_with fail
      go_ret
      exact ⟨ret_bool (by simp [ht]), U HBW⟩
/-- What is asked of the program: a reading of its code in memory, of what lies at package level, and the contracts of its calls. -/
structure Prg where
  Env : World → Prop
  CodeIs : World → Nat → List (Int × Int) → Int → Int → Prop
  env : ∀ {w w' : World}, Env w → Below w.heap.size w w' → Env w'
  law : ∀ {w w' : World} {c : Nat} {l : List (Int × Int)} {en ce : Int}, CodeIs w c l en ce → LawStill w w' → CodeIs w' c l en ce
  list : ∀ (w : World) (c : Nat) (l : List (Int × Int)) (en ce : Int), Env w → CodeIs w c l en ce → CodeOk l → 0 ≤ en ∧ en < l.length →
    Calls Tryz.prog 19 #[.pointer (some ⟨c, 0, none⟩)] w fun e w' => ∃ v, e = .returned (.tuple #[v, .int .i64 en]) ∧ w'.ownsRow w.heap.size 65 2 v l.length (instrCells l) ∧ Below w.heap.size w w'
  run : ∀ (w : World) (c : Nat) (l : List (Int × Int)) (en ce l1 l2 l3 l4 fuel : Int), Env w → CodeIs w c l en ce → CodeOk l → 0 ≤ en ∧ en < l.length → 0 ≤ ce ∧ ce ≤ 1000 → -3000 < fuel ∧ fuel < 3000 →
    Calls Tryz.prog 23 #[.pointer (some ⟨c, 0, none⟩), .agg #[.int .i64 l1, .int .i64 l2, .int .i64 l3, .int .i64 l4], .int .i64 fuel] w fun e w' => ∃ er vS vC out st ls lc, e = .returned (outV er vS vC out st) ∧ OutIs w' w.heap.size vS vC ls lc ∧ (ls.length ≤ 1000 ∧ lc.length ≤ 1000 ∧ ∀ j, vS.ownBlock = some j → vC.ownBlock ≠ some j) ∧ Below w.heap.size w w'
  no : ∀ (w : World) (s : ByteArray) (er pl : Int), Env w → (2000 < s.size ∧ er = 1 ∧ pl = 0 ∨ s.size ≤ 2000 ∧ (endS s).err = er ∧ (endS s).place = pl ∧ er ≠ 0) →
    Calls Tryz.prog 18 #[.string s, .agg #[.bool false, .bool false, .bool false]] w fun e w' => e = .returned (.tuple #[.pointer none, .int .i64 er, .int .i64 pl]) ∧ Below w.heap.size w w'
  yes : ∀ (w : World) (s : ByteArray), Env w → s.size ≤ 2000 → (endS s).err = 0 →
    Calls Tryz.prog 18 #[.string s, .agg #[.bool false, .bool false, .bool false]] w fun e w' => ∃ c, e = .returned (.tuple #[.pointer (some ⟨c, 0, none⟩), .int .i64 0, .int .i64 0]) ∧ CodeIs w' c (fullS (endS s)) (endS s).c0.length (endS s).cells ∧ Below w.heap.size w w'

theorem Cd.law {w w' : World} {p : Nat} {l : List (Int × Int)} {en ce : Int} (h : Cd w.heap.size w p l en ce) (hl : LawStill w w') : Cd w'.heap.size w' p l en ce := by
  obtain ⟨g, cap, vH, h1, h2, h3, h4⟩ := h
  have := hl.size
  exact ⟨g, cap, vH, hl.blk h1, by omega, by omega, hl.row h4⟩

def PlayerIs (P : Prg) (w : World) (q : Nat) : Prop :=
  ∃ c p l en ce, Blk w q #[.pointer (some ⟨c, 0, none⟩), .pointer (some ⟨p, 0, none⟩), .bool false, .bool false] 129 ∧ P.CodeIs w c l en ce ∧ Cd w.heap.size w p l en ce ∧ CodeOk l ∧ (0 ≤ en ∧ en < l.length) ∧ (0 ≤ ce ∧ ce ≤ 1000)
theorem PlayerIs.law {P : Prg} {w w' : World} {q : Nat} (h : PlayerIs P w q) (hl : LawStill w w') : PlayerIs P w' q := by
  obtain ⟨c, p, l, en, ce, h1, h2, h3, h4⟩ := h
  exact ⟨c, p, l, en, ce, hl.blk h1, P.law h2 hl, h3.law hl, h4⟩
def PlayersOk (P : Prg) (w : World) (ps : List Nat) : Prop := ∀ q ∈ ps, PlayerIs P w q
theorem PlayersOk.law {P : Prg} {w w' : World} {ps : List Nat} (h : PlayersOk P w ps) (hl : LawStill w w') : PlayersOk P w' ps := fun q hq => (h q hq).law hl

/-- What keep leaves. -/
theorem Kp.law {B : Nat} {w W w' : World} {bw : Nat} {ps hs : List Nat} {vp vh : Value} {q : Nat} {vi vn : Value} {ni nn : Nat} {mk : Int} {k : Nat} {gl : List Nat} {qg : Nat} {vig vng vhk : Value} (h : Kp B W w' bw ps hs vp vh q vi vn ni nn mk k gl qg vig vng vhk) (hl : Lw B W bw ps hs vp vh) (hW : LawStill w W) (hBW : Below B w W) (hBw : B ≤ w.heap.size)
    (hq : w.heap.size ≤ q) (hvi : ∀ j, vi.ownBlock = some j → w.heap.size ≤ j) (hvn : ∀ j, vn.ownBlock = some j → w.heap.size ≤ j) :
    LawStill w w' ∧ Below B w w' := by
  have hlaw : LawStill w w' := by
    refine ⟨h.still.os.trans hW.os, h.still.tape.trans hW.tape, h.still.output.trans hW.output, Nat.le_trans hW.size h.still.size, ?_⟩
    intro j cs T hb h1 h2 h3
    have hb1 := hW.block j cs T hb h1 h2 h3
    have hlt := hb.lt
    refine hb1.still h.still ?_
    rintro (e | e | e | e)
    · exact hl.notfoot hb1 h1.symm h2.symm h3.symm e
    · omega
    · have := hvi j e; omega
    · have := hvn j e; omega
  refine ⟨hlaw, hBW.trans (h.still.below ?_ (by have := hW.size; omega))⟩
  rintro j (e | e | e | e)
  · exact (hl.footlt e).1
  · omega
  · have := hvi j e; omega
  · have := hvn j e; omega
/-- Holds none of whose lists lies in one of these rows. -/
def HoldsFree (w : World) (hs : List Nat) (q : Nat) (vi vn : Value) : Prop := ∀ x ∈ hs, x ≠ q ∧ ∃ mk vi' vn' ni nn, HoldIs w x mk vi' vn' ni nn ∧ ∀ j, vi.ownBlock = some j ∨ vn.ownBlock = some j → vi'.ownBlock ≠ some j ∧ vn'.ownBlock ≠ some j
theorem HoldsOk.free {w W : World} {hs : List Nat} (h : HoldsOk w hs) (hW : LawStill w W) {q : Nat} {vi vn : Value} (hq : w.heap.size ≤ q) (hvi : ∀ j, vi.ownBlock = some j → w.heap.size ≤ j) (hvn : ∀ j, vn.ownBlock = some j → w.heap.size ≤ j) : HoldsFree W hs q vi vn := by
  intro x hx
  obtain ⟨mk, vi', vn', ni, nn, h1⟩ := h x hx
  have hlt := h1.blk.lt
  refine ⟨by omega, mk, vi', vn', ni, nn, hW.hold h1, ?_⟩
  intro j hj
  have hge : w.heap.size ≤ j := by
    rcases hj with e | e
    · exact hvi j e
    · exact hvn j e
  exact ⟨fun e => by have := (ownsRow_lt h1.is e).1; omega, fun e => by have := (ownsRow_lt h1.ns e).1; omega⟩
theorem Kp.holds {B : Nat} {W w' : World} {bw : Nat} {ps hs : List Nat} {vp vh : Value} {q : Nat} {vi vn : Value} {ni nn : Nat} {mk : Int} {k : Nat} {gl : List Nat} {qg : Nat} {vig vng vhk : Value} (h : Kp B W w' bw ps hs vp vh q vi vn ni nn mk k gl qg vig vng vhk) (hl : Lw B W bw ps hs vp vh) (hf : HoldsFree W hs q vi vn) {cs : Array Value} (hqb : Blk W q cs 134) {n1 n2 : Nat} {xs ys : List Value} (hri : W.ownsRow 0 65 2 vi n1 xs) (hrn : W.ownsRow 0 2 1 vn n2 ys) : HoldsOk w' (hs ++ gl) := by
  intro x hx
  rcases List.mem_append.1 hx with hx | hx
  · obtain ⟨hne, mk', vi', vn', ni', nn', h1, h2⟩ := hf x hx
    refine ⟨mk', vi', vn', ni', nn', h1.still h.still ?_ ?_ ?_⟩
    · rintro (e | e | e | e)
      · exact hl.notfoot h1.blk (by decide) (by decide) (by decide) e
      · exact hne e
      · exact row_not_blk h1.blk hri (by decide) e
      · exact row_not_blk h1.blk hrn (by decide) e
    · rintro j hj (e | e | e | e)
      · exact hl.notrow h1.is (by decide) (by decide) (by decide) hj e
      · exact row_not_blk hqb h1.is (by decide) (by rw [hj, e])
      · exact (h2 j (Or.inl e)).1 hj
      · exact (h2 j (Or.inr e)).1 hj
    · rintro j hj (e | e | e | e)
      · exact hl.notrow h1.ns (by decide) (by decide) (by decide) hj e
      · exact row_not_blk hqb h1.ns (by decide) (by rw [hj, e])
      · exact (h2 j (Or.inl e)).2 hj
      · exact (h2 j (Or.inr e)).2 hj
  · obtain ⟨vi', vn', ni', nn', h1, _⟩ := h.all x hx
    exact ⟨_, _, _, _, _, h1⟩

set_option maxRecDepth 100000 in
set_option maxHeartbeats 4000000 in
theorem listed_any (P : Prg) (B bw : Nat) (ps hs : List Nat) (vp vh : Value) (q : Nat) (w : World) (henv : P.Env w) (hP : PlayerIs P w q) (h : Lw B w bw ps hs vp vh) (hh : HoldsOk w hs) (hlen : hs.length + 4 ≤ 17592186044416) :
    Calls Tryz.prog 44 #[.pointer (some ⟨bw, 0, none⟩), .pointer (some ⟨q, 0, none⟩)] w fun e w' => e = .returned (.bool true) ∧ ∃ hs' vh', Lw B w' bw ps hs' vp vh' ∧ HoldsOk w' hs' ∧ hs'.length = hs.length + 4 ∧ LawStill w w' ∧ Below B w w' := by
  obtain ⟨c, p, l, en, ce, hq, hcode, hcd, hok, hen, hce⟩ := hP
  have hBw : B ≤ w.heap.size := by have := h.base; have := h.blk.lt; omega
  have hc := hq.cell
  have HLS := V (P.list w c l en ce henv hcode hok hen)
  have hsm := hok.small
  have hpos : 0 < l.length := by have := hen; omega
  obtain ⟨gp, capp, vHp, hPb, hpB, hgB, hProw⟩ := hcd
  have HPb := V hPb
  have HProw := V hProw
  have HL := V h
  have HH := V hh
  have HQ := V hq
  clear hcode hok hPb hProw h hh hq
  go_enter Tryz.func44, Tryz.ntmps44
  go_wp2_with fail
  refine (U HLS).mono ?_
  rintro e w1 ⟨v, rfl, hv, hb1⟩
  have hq1 := (U HQ).below hb1 (U HQ).lt
  have hP1 := (U HPb).below hb1 hpB
  have hr1 : w1.ownsRow 0 65 2 (.slice (some ⟨gp, 0, none⟩) l.length capp) l.length (instrCells l) := (LawStill.ofBelow hb1).row (U HProw)
  obtain ⟨gv, capv, hvf, hgv, hgvl⟩ := hv.form hpos
  subst hvf
  have hc1 := hq1.cell
  have hcp1 := hP1.cell
  have HV := V hv
  have HR1 := V hr1
  have HB1 := V hb1
  have hlI : (l.length : Int) ≤ 5000 := by omega
  clear hc hv hr1 hb1 hq1 hP1 HLS
  go_wp2_with fail
  go_loopw [7, 8] (fun ok i wr => ∃ (k n : Nat), i = .int .i64 k ∧ k ≤ l.length ∧ ok = .bool true ∧ wr = w1.drewN n) (fun _ i _ => l.length - (intOf i).toNat)
  case atStart => exact ⟨0, 0, rfl, Nat.zero_le _, rfl, rfl⟩
  case round =>
    obtain ⟨k, n, rfl, hk, rfl, rfl⟩ := hrel
    by_cases hlt : k < l.length
    · obtain ⟨x, hx⟩ : ∃ x, l[k]? = some x := ⟨_, List.getElem?_eq_getElem hlt⟩
      have ha1 := own_cell (U HV) (k * 2) (by omega)
      have ha2 := own_cell (U HV) (k * 2 + 1) (by omega)
      have hb1 := own_cell (U HR1) (k * 2) (by omega)
      have hb2 := own_cell (U HR1) (k * 2 + 1) (by omega)
      rw [(instrCells_at _ _ _ hx).1] at ha1 hb1
      rw [(instrCells_at _ _ _ hx).2] at ha2 hb2
      have hltI : (k : Int) < l.length := by omega
      clear hx
      go_wp2_with fail
      go_region
      go_wp2_with fail
      go_roundw
      case rel => exact ⟨k + 1, n + 1, by go_num, by omega, rfl, rfl⟩
      case measure => simp [intOf]; omega
    · have hkn : k = l.length := by omega
      subst hkn
      -- the hold that is kept
      have hb1 := U HB1
      have hl1 := ((U HL).below hb1).drewN n
      have hbn : Below w.heap.size w (w1.drewN n) := below_drawn hb1 n
      have hblk := Blk.new (w1.drewN n) #[.slice (some ⟨gv, 0, none⟩) l.length capv, .slice none 0 0, .int .i64 0] 134
      have hsz : (w1.drewN n).heap.size = w1.heap.size := rfl
      have hbA : Below w.heap.size w ((w1.drewN n).alloc (.cells #[.slice (some ⟨gv, 0, none⟩) l.length capv, .slice none 0 0, .int .i64 0] 134)) := hbn.alloc (by have := hb1.size; rw [hsz]; omega) _
      have HK := V (keep_any B bw ps hs vp vh w1.heap.size 0 _ (.slice none 0 0) l [] _ (hl1.alloc _) hblk (ownsRow_base (ownsRow_alloc (w := w1.drewN n) (U HV) _) (Nat.zero_le _)) (World.ownsRow_nil _ _ _ _) (by omega) (by simp) hlen)
      have HLA := V (hl1.alloc (.cells #[.slice (some ⟨gv, 0, none⟩) l.length capv, .slice none 0 0, .int .i64 0] 134))
      have HBA := V hbA
      have HBLK := V hblk
      have HRI := V (ownsRow_base (ownsRow_alloc (w := w1.drewN n) (U HV) (.cells #[.slice (some ⟨gv, 0, none⟩) l.length capv, .slice none 0 0, .int .i64 0] 134)) (Nat.zero_le _))
      have hw1 : w.heap.size ≤ w1.heap.size := hb1.size
      clear hl1 hbn hblk hbA hb1
      go_wp2_with fail
      refine (U HK).mono ?_
      rintro e w3 ⟨rfl, gl, qg, vig, vng, vh', hkp⟩
      have HKP := V hkp
      clear hkp
      go_wp2_with fail
      go_ret
      obtain ⟨o1, o2⟩ := (U HKP).law (w := w) (U HLA) (LawStill.ofBelow (U HBA)) ((U HBA).mono hBw) hBw hw1 (fun j hj => by simp [Value.ownBlock] at hj; omega) (fun j hj => by simp [Value.ownBlock] at hj)
      have o3 := (U HKP).holds (U HLA) ((U HH).free (LawStill.ofBelow (U HBA)) hw1 (fun j hj => by simp [Value.ownBlock] at hj; omega) (fun j hj => by simp [Value.ownBlock] at hj)) (U HBLK) (U HRI) (World.ownsRow_nil _ _ _ _)
      exact ⟨rfl, hs ++ gl, vh', (U HKP).lw, o3, by simp [(U HKP).len], o1, o2⟩
/-- A step of a script as a value. -/
def opV (kind n : Int) (s : ByteArray) (b0 b1 b2 : Bool) (vl : Value) (en ce l1 l2 l3 l4 fu : Int) : Value :=
  .agg #[.int .i64 kind, .int .i64 n, .string s, .bool b0, .bool b1, .bool b2, vl, .int .i64 en, .int .i64 ce, .int .i64 l1, .int .i64 l2, .int .i64 l3, .int .i64 l4, .int .i64 fu]
def opC (kind n : Int) (s : ByteArray) (b0 b1 b2 : Bool) (vl : Value) (en ce l1 l2 l3 l4 fu : Int) : Array Value :=
  #[.int .i64 kind, .int .i64 n, .string s, .bool b0, .bool b1, .bool b2, vl, .int .i64 en, .int .i64 ce, .int .i64 l1, .int .i64 l2, .int .i64 l3, .int .i64 l4, .int .i64 fu]

theorem read_facts (s : ByteArray) (hs : s.size ≤ 2000) : CodeOk (fullS (endS s)) ∧ (0 ≤ ((endS s).c0.length : Int) ∧ ((endS s).c0.length : Int) < (fullS (endS s)).length) ∧ (0 ≤ (endS s).cells ∧ (endS s).cells ≤ 1000) := by
  obtain ⟨g, k, hi, hk⟩ := end_good s hs
  refine ⟨full_ok hi hk g, ⟨by omega, ?_⟩, ⟨?_, end_cells s hs⟩⟩
  · simp [fullS]; omega
  · have := hi.lens
    unfold lens at this
    omega
theorem Cd.ofPg {B : Nat} {w : World} {p : Nat} {l : List (Int × Int)} {en ce : Int} {he : List Int} (h : PgE B w p l en ce he) (hl : 0 < l.length) : Cd w.heap.size w p l en ce := by
  obtain ⟨vL, vH, h⟩ := h
  have ho := h.owned.own 0 vL _ rfl rfl
  obtain ⟨g, cap, rfl, _, hg⟩ := ho.form hl
  exact ⟨g, cap, vH, h.blk, h.blk.lt, hg, ownsRow_base ho (Nat.zero_le _)⟩

set_option maxRecDepth 100000 in
set_option maxHeartbeats 4000000 in
theorem compiled_no (P : Prg) (B bw : Nat) (ps hs : List Nat) (vp vh : Value) (w : World) (henv : P.Env w) (h : Lw B w bw ps hs vp vh) (hh : HoldsOk w hs) (hp : PlayersOk P w ps)
    (kind n : Int) (s : ByteArray) (vl : Value) (en ce l1 l2 l3 l4 fu : Int) (er pl : Int) (hno : 2000 < s.size ∧ er = 1 ∧ pl = 0 ∨ s.size ≤ 2000 ∧ (endS s).err = er ∧ (endS s).place = pl ∧ er ≠ 0) :
    Calls Tryz.prog 41 #[.pointer (some ⟨bw, 0, none⟩), opV kind n s false false false vl en ce l1 l2 l3 l4 fu] w fun e w' => e = .returned (.bool true) ∧ ∃ ps' vp', Lw B w' bw ps' hs vp' vh ∧ PlayersOk P w' ps' ∧ HoldsOk w' hs ∧ LawStill w w' ∧ Below B w w' := by
  have hBw : B ≤ w.heap.size := by have := h.base; have := h.blk.lt; omega
  have hb0 : Below w.heap.size w (w.alloc (.cells (opC kind n s false false false vl en ce l1 l2 l3 l4 fu) 63)) := (Below.refl _ _).alloc (Nat.le_refl _) _
  have hOp := Blk.new w (opC kind n s false false false vl en ce l1 l2 l3 l4 fu) 63
  have HC := V (P.no _ s er pl (P.env henv hb0) hno)
  have HRD : Hid (∀ W : World, Calls Tryz.prog 64 #[.string s] W fun e w' => e = .returned (.tuple #[.pointer none, .int .i64 er, .int .i64 pl]) ∧ Below W.heap.size W w') := by
    intro W
    rcases hno with ⟨h1, rfl, rfl⟩ | ⟨h1, h2, h3, h4⟩
    · exact (read_long s W h1).mono (fun e w' ⟨a, b⟩ => ⟨a, by rw [b]; exact Below.refl _ _⟩)
    · exact read_no s W h1 er pl h4 ⟨h2, h3⟩
  have HOP := V hOp
  have HB0 := V hb0
  have HL := V h
  have HH := V hh
  have HP := V hp
  unfold opC at HC HOP HB0
  unfold opV
  clear hb0 hOp h hh hp henv hno
  go_enter Tryz.func41, Tryz.ntmps41
  go_wp2_with fail
  refine (U HC).mono ?_
  rintro e w1 ⟨rfl, hb1⟩
  have hO1 := (U HOP).below hb1 (U HOP).lt
  have hc1 := hO1.cell
  have HB1 := V hb1
  clear hb1 HC
  go_wp2_with fail
  refine (U HRD w1).mono ?_
  rintro e w2 ⟨rfl, hb2⟩
  have hbw : Below w.heap.size w w2 := ((U HB0).trans ((U HB1).mono (by simp))).trans (hb2.mono (by have := (U HB1).size; simp at this; omega))
  have HBW := V hbw
  clear hb2 hbw
  go_wp2_with fail
  go_ret
  have hlaw := LawStill.ofBelow (U HBW)
  exact ⟨rfl, ps, vp, (U HL).below (U HBW), (U HP).law hlaw, (U HH).law hlaw, hlaw, (U HBW).mono hBw⟩

set_option maxRecDepth 100000 in
set_option maxHeartbeats 4000000 in
theorem compiled_yes (P : Prg) (B bw : Nat) (ps hs : List Nat) (vp vh : Value) (w : World) (henv : P.Env w) (h : Lw B w bw ps hs vp vh) (hh : HoldsOk w hs) (hp : PlayersOk P w ps)
    (kind n : Int) (s : ByteArray) (vl : Value) (en ce l1 l2 l3 l4 fu : Int) (hs0 : s.size ≤ 2000) (he0 : (endS s).err = 0) :
    Calls Tryz.prog 41 #[.pointer (some ⟨bw, 0, none⟩), opV kind n s false false false vl en ce l1 l2 l3 l4 fu] w fun e w' => e = .returned (.bool true) ∧ ∃ ps' vp', Lw B w' bw ps' hs vp' vh ∧ PlayersOk P w' ps' ∧ HoldsOk w' hs ∧ LawStill w w' ∧ Below B w w' := by
  have hBw : B ≤ w.heap.size := by have := h.base; have := h.blk.lt; omega
  have hb0 : Below w.heap.size w (w.alloc (.cells (opC kind n s false false false vl en ce l1 l2 l3 l4 fu) 63)) := (Below.refl _ _).alloc (Nat.le_refl _) _
  have hOp := Blk.new w (opC kind n s false false false vl en ce l1 l2 l3 l4 fu) 63
  have HC := V (P.yes _ s (P.env henv hb0) hs0 he0)
  have HRD : Hid (∀ W : World, Calls Tryz.prog 64 #[.string s] W fun e w' => ∃ p, e = .returned (.tuple #[.pointer (some ⟨p, 0, none⟩), .int .i64 0, .int .i64 0]) ∧ PgE W.heap.size w' p (fullS (endS s)) (endS s).c0.length (endS s).cells ((endS s).heads ++ [((endS s).c0.length : Int)]) ∧ Below W.heap.size W w') := fun W => read_yes s W hs0 he0
  have HFA := V (read_facts s hs0)
  generalize fullS (endS s) = l at HC HRD HFA
  generalize ((endS s).c0.length : Int) = en0 at HC HRD HFA
  generalize (endS s).cells = ce0 at HC HRD HFA
  have HOP := V hOp
  have HB0 := V hb0
  have HL := V h
  have HH := V hh
  have HP := V hp
  unfold opC at HC HOP HB0
  unfold opV
  clear hb0 hOp h hh hp henv
  go_enter Tryz.func41, Tryz.ntmps41
  go_wp2_with fail
  refine (U HC).mono ?_
  rintro e w1 ⟨c, rfl, hcode, hb1⟩
  have hO1 := (U HOP).below hb1 (U HOP).lt
  have hc1 := hO1.cell
  have HB1 := V hb1
  have HCO := V hcode
  have HO1 := V hO1
  clear hb1 HC hcode hO1
  go_wp2_with fail
  refine (U HRD w1).mono ?_
  rintro e w2 ⟨p, rfl, hpg, hb2⟩
  have hc2 := ((U HO1).below hb2 (U HO1).lt).cell
  have hl2 := (U HO1).lt
  have hbw : Below w.heap.size w w2 := ((U HB0).trans ((U HB1).mono (by simp))).trans (hb2.mono (by have := (U HB1).size; simp at this; omega))
  have hcd2 := Cd.ofPg hpg (by have := (U HFA).2.1; omega)
  have hco2 := P.law (U HCO) (LawStill.ofBelow hb2)
  have hblk := Blk.new w2 #[.pointer (some ⟨c, 0, none⟩), .pointer (some ⟨p, 0, none⟩), .bool false, .bool false] 129
  have hb3 : Below w2.heap.size w2 (w2.alloc (.cells #[.pointer (some ⟨c, 0, none⟩), .pointer (some ⟨p, 0, none⟩), .bool false, .bool false] 129)) := (Below.refl _ _).alloc (Nat.le_refl _) _
  have hpl : PlayerIs P (w2.alloc (.cells #[.pointer (some ⟨c, 0, none⟩), .pointer (some ⟨p, 0, none⟩), .bool false, .bool false] 129)) w2.heap.size := ⟨c, p, l, en0, ce0, hblk, P.law hco2 (LawStill.ofBelow hb3), hcd2.law (LawStill.ofBelow hb3), (U HFA).1, (U HFA).2.1, (U HFA).2.2⟩
  have HPL := V hpl
  have hbw3 : Below w.heap.size w (w2.alloc (.cells #[.pointer (some ⟨c, 0, none⟩), .pointer (some ⟨p, 0, none⟩), .bool false, .bool false] 129)) := hbw.trans (hb3.mono hbw.size)
  have HAD := V (add_any B bw ps hs vp vh w2.heap.size _ ((U HL).below hbw3))
  have HBW := V hbw3
  clear hpg hb2 hbw hcd2 hco2 hblk hb3 hpl hbw3 hc1
  go_wp2_with fail
  refine (U HAD).mono ?_
  rintro e w4 ⟨rfl, ps', vp', hps, hl4, hlaw4, hb4⟩
  have HL4 := V hl4
  have HLAW := V hlaw4
  have HB4 := V hb4
  have HPS := V hps
  clear hl4 hlaw4 hb4 hps
  go_wp2_with fail
  go_ret
  have hlaw : LawStill w w4 := (LawStill.ofBelow (U HBW)).trans (U HLAW)
  refine ⟨rfl, ps', vp', U HL4, ?_, (U HH).law hlaw, hlaw, ((U HBW).mono hBw).trans (U HB4)⟩
  intro x hx
  rcases U HPS with e | e
  · rw [e] at hx
    exact ((U HP).law hlaw) x hx
  · rw [e] at hx
    rcases List.mem_append.1 hx with hx | hx
    · exact ((U HP).law hlaw) x hx
    · simp at hx
      subst hx
      exact (U HPL).law (U HLAW)
theorem Tryz.name23 : (Tryz.f23.name == "runtime.NumGoroutine") = false := by kernel_rfl
theorem Tryz.body23 : Tryz.f23.body.isNone = false := by kernel_rfl
theorem Tryz.name70 : (Tryz.f70.name == "runtime.NumGoroutine") = false := by kernel_rfl
theorem Tryz.body70 : Tryz.f70.body.isNone = false := by kernel_rfl

/-- The reference's Run: some outcome. -/
theorem run_some (p : Nat) (ls la lc lo fuel : Int) (l : List (Int × Int)) (en ce : Int) (w : World) (hcd : Cd w.heap.size w p l en ce) (hok : CodeOk l) (hen : 0 ≤ en ∧ en < l.length) (hce : 0 ≤ ce ∧ ce ≤ 1000) (hfu : fuel ≤ 1000000000) :
    Calls Tryz.prog 70 #[.pointer (some ⟨p, 0, none⟩), .agg #[.int .i64 ls, .int .i64 la, .int .i64 lc, .int .i64 lo], .int .i64 fuel] w fun e w' => ∃ er vS vC out st lS lC, e = .returned (outV er vS vC out st) ∧ OutIs w' w.heap.size vS vC lS lC ∧ Below w.heap.size w w' := by
  by_cases hl : limsOk ls la lc lo
  · refine (run_ref p ls la lc lo fuel l en ce w hcd hok hen hce hl hfu _ rfl).mono ?_
    rintro e w' ⟨vS, vC, rfl, h0, h1, hb⟩
    by_cases he : (runM l fuel.toNat 0 (startM p ls la lc lo en ce)).2.1 = 0
    · obtain ⟨a, b, ka, kb⟩ := h0 he
      exact ⟨_, _, _, _, _, _, _, rfl, ⟨a, b, by omega, by omega⟩, hb⟩
    · obtain ⟨rfl, rfl⟩ := h1 he
      exact ⟨_, _, _, _, _, [], [], rfl, ⟨World.ownsRow_nil _ _ _ _, World.ownsRow_nil _ _ _ _, by simp⟩, hb⟩
  · refine (run_limit p ls la lc lo fuel w hl).mono ?_
    rintro e w' ⟨rfl, hb⟩
    exact ⟨_, _, _, _, _, [], [], rfl, ⟨World.ownsRow_nil _ _ _ _, World.ownsRow_nil _ _ _ _, by simp⟩, hb⟩

theorem OutIs.far {w : World} {b : Nat} {vS vC : Value} {ls lc : List Int} (h : OutIs w b vS vC ls lc) {x : Nat} (hx : x < b) (i : Nat) (u : Value) : OutIs (w.setCell ⟨x, i, none⟩ u) b vS vC ls lc :=
  ⟨ownsRow_far h.s (fun e => by have := (ownsRow_lt h.s e).2; simp at this; omega) u, ownsRow_far h.c (fun e => by have := (ownsRow_lt h.c e).2; simp at this; omega) u, h.small⟩
theorem OutIs.base {w : World} {b b' : Nat} {vS vC : Value} {ls lc : List Int} (h : OutIs w b vS vC ls lc) (hb : b' ≤ b) : OutIs w b' vS vC ls lc := ⟨ownsRow_base h.s hb, ownsRow_base h.c hb, h.small⟩
/-- An outcome in a block of its own. -/
structure OutAt (w : World) (b : Nat) (v : Value) (er : Int) (vS vC : Value) (out : ByteArray) (st : Int) (ls lc : List Int) (x : Nat) : Prop where
  ptr : v = .pointer (some ⟨x, 0, none⟩)
  blk : Blk w x #[.int .i64 er, vS, vC, .string out, .int .i64 st] 44
  lists : OutIs w b vS vC ls lc
  base : b ≤ x
theorem OutAt.below {w w' : World} {b : Nat} {v : Value} {er : Int} {vS vC : Value} {out : ByteArray} {st : Int} {ls lc : List Int} {x : Nat} (h : OutAt w b v er vS vC out st ls lc x) (hb : Below w.heap.size w w') : OutAt w' b v er vS vC out st ls lc x := ⟨h.ptr, h.blk.below hb h.blk.lt, h.lists.below hb, h.base⟩
/-- The call first, then the block. -/
theorem out_after {W w1 : World} {er : Int} {vS vC : Value} {out : ByteArray} {st : Int} {ls lc : List Int} (ho : OutIs w1 W.drew.heap.size vS vC ls lc) (hb' : Below W.drew.heap.size W.drew w1) :
    OutAt (w1.alloc (.cells #[.int .i64 er, vS, vC, .string out, .int .i64 st] 44)) W.heap.size (.pointer (some ⟨w1.heap.size, 0, none⟩)) er vS vC out st ls lc w1.heap.size ∧
    Below W.heap.size W (w1.alloc (.cells #[.int .i64 er, vS, vC, .string out, .int .i64 st] 44)) := by
  have hb : Below W.heap.size W w1 := ((Below.refl W.heap.size W).drew).trans hb'
  have hb2 : Below w1.heap.size w1 (w1.alloc (.cells #[.int .i64 er, vS, vC, .string out, .int .i64 st] 44)) := (Below.refl _ _).alloc (Nat.le_refl _) _
  exact ⟨⟨rfl, Blk.new w1 _ _, ho.below hb2, hb.size⟩, hb.trans (hb2.mono hb.size)⟩
/-- The block first, then the call. -/
theorem out_ahead {W w1 : World} {er : Int} {vS vC : Value} {out : ByteArray} {st : Int} {ls lc : List Int} (ho : OutIs w1 (W.heap.size + 1) vS vC ls lc) (hb : Below (W.heap.size + 1) (W.alloc (.cells #[.int .i64 0, .slice none 0 0, .slice none 0 0, .string ⟨#[]⟩, .int .i64 0] 44)).drew w1) :
    OutAt (((((w1.setCell ⟨W.heap.size, 0, none⟩ (.int .i64 er)).setCell ⟨W.heap.size, 1, none⟩ vS).setCell ⟨W.heap.size, 2, none⟩ vC).setCell ⟨W.heap.size, 3, none⟩ (.string out)).setCell ⟨W.heap.size, 4, none⟩ (.int .i64 st)) W.heap.size (.pointer (some ⟨W.heap.size, 0, none⟩)) er vS vC out st ls lc W.heap.size ∧
    Below W.heap.size W (((((w1.setCell ⟨W.heap.size, 0, none⟩ (.int .i64 er)).setCell ⟨W.heap.size, 1, none⟩ vS).setCell ⟨W.heap.size, 2, none⟩ vC).setCell ⟨W.heap.size, 3, none⟩ (.string out)).setCell ⟨W.heap.size, 4, none⟩ (.int .i64 st)) := by
  have hR := (Blk.new W #[.int .i64 0, .slice none 0 0, .slice none 0 0, .string ⟨#[]⟩, .int .i64 0] 44).drew.below hb (by omega)
  have hb1 : Below W.heap.size W w1 := (((Below.refl _ _).alloc (Nat.le_refl _) _).drew).trans (hb.mono (by omega))
  have hx : W.heap.size < W.heap.size + 1 := by omega
  refine ⟨⟨rfl, out_set hR rfl, (((((ho.far hx _ _).far hx _ _).far hx _ _).far hx _ _).far hx _ _).base (by omega), Nat.le_refl _⟩, ?_⟩
  exact ((((hb1.setCell (Nat.le_refl _) _).setCell (Nat.le_refl _) _).setCell (Nat.le_refl _) _).setCell (Nat.le_refl _) _).setCell (Nat.le_refl _) _
theorem pickS_range (c n : Int) (hn : 1 ≤ n) : 0 ≤ pickS c n ∧ pickS c n < n := by
  unfold pickS
  split
  · exact ⟨Int.emod_nonneg _ (by omega), Int.emod_lt_of_pos _ (by omega)⟩
  · exact ⟨Int.emod_nonneg _ (by omega), Int.emod_lt_of_pos _ (by omega)⟩

/-- What a step leaves. -/
def StepPost (P : Prg) (B : Nat) (w : World) (bw : Nat) (hs : List Nat) (w' : World) : Prop :=
  ∃ ps' hs' vp' vh', Lw B w' bw ps' hs' vp' vh' ∧ PlayersOk P w' ps' ∧ HoldsOk w' hs' ∧ hs'.length ≤ hs.length + 8 ∧ LawStill w w' ∧ Below B w w'
theorem StepPost.ahead {P : Prg} {B : Nat} {w W w' : World} {bw : Nat} {hs : List Nat} (h : StepPost P B W bw hs w') (hb : Below w.heap.size w W) (hB : B ≤ w.heap.size) : StepPost P B w bw hs w' := by
  obtain ⟨ps', hs', vp', vh', h1, h2, h3, h4, h5, h6⟩ := h
  exact ⟨ps', hs', vp', vh', h1, h2, h3, h4, (LawStill.ofBelow hb).trans h5, (hb.mono hB).trans h6⟩

theorem Tryz.name43 : (Tryz.f43.name == "runtime.NumGoroutine") = false := by kernel_rfl
theorem Tryz.body43 : Tryz.f43.body.isNone = false := by kernel_rfl

theorem compiled_any (P : Prg) (B bw : Nat) (ps hs : List Nat) (vp vh : Value) (w : World) (henv : P.Env w) (h : Lw B w bw ps hs vp vh) (hh : HoldsOk w hs) (hp : PlayersOk P w ps)
    (kind n : Int) (s : ByteArray) (vl : Value) (en ce l1 l2 l3 l4 fu : Int) :
    Calls Tryz.prog 41 #[.pointer (some ⟨bw, 0, none⟩), opV kind n s false false false vl en ce l1 l2 l3 l4 fu] w fun e w' => e = .returned (.bool true) ∧ StepPost P B w bw hs w' := by
  have fin : ∀ (e : Ending) (w' : World), (e = .returned (.bool true) ∧ ∃ ps' vp', Lw B w' bw ps' hs vp' vh ∧ PlayersOk P w' ps' ∧ HoldsOk w' hs ∧ LawStill w w' ∧ Below B w w') → e = .returned (.bool true) ∧ StepPost P B w bw hs w' := by
    rintro e w' ⟨rfl, ps', vp', h1, h2, h3, h4, h5⟩
    exact ⟨rfl, ps', hs, vp', vh, h1, h2, h3, by omega, h4, h5⟩
  by_cases hl : 2000 < s.size
  · exact (compiled_no P B bw ps hs vp vh w henv h hh hp kind n s vl en ce l1 l2 l3 l4 fu 1 0 (Or.inl ⟨hl, rfl, rfl⟩)).mono fin
  · by_cases he : (endS s).err = 0
    · exact (compiled_yes P B bw ps hs vp vh w henv h hh hp kind n s vl en ce l1 l2 l3 l4 fu (by omega) he).mono fin
    · exact (compiled_no P B bw ps hs vp vh w henv h hh hp kind n s vl en ce l1 l2 l3 l4 fu _ _ (Or.inr ⟨by omega, rfl, rfl, he⟩)).mono fin
def OpOk (cs : Array Value) : Prop := ∃ kind n s b0 b1 b2 ao m c en ce l1 l2 l3 l4 fu, cs = opC kind n s b0 b1 b2 (.slice ao m c) en ce l1 l2 l3 l4 fu ∧ inI n
/-- A script in memory. -/
def ScriptIs (w : World) (v : Value) (n : Nat) : Prop :=
  ∃ ao cap, v = .slice ao n cap ∧ ∀ k, k < n → ∃ g off cs, ao = some ⟨g, off, none⟩ ∧ g < w.heap.size ∧ OpOk cs ∧ ∀ i, i < 14 → w.cell? ⟨g, off + k * 14 + i, none⟩ = cs[i]?
theorem ScriptIs.below {w w' : World} {v : Value} {n : Nat} (h : ScriptIs w v n) (hb : Below w.heap.size w w') : ScriptIs w' v n := by
  obtain ⟨ao, cap, rfl, h⟩ := h
  refine ⟨ao, cap, rfl, fun k hk => ?_⟩
  obtain ⟨g, off, cs, h1, h2, h3, h4⟩ := h k hk
  refine ⟨g, off, cs, h1, by have := hb.size; omega, h3, fun i hi => ?_⟩
  rw [hb.cell (by simpa using h2)]
  exact h4 i hi

theorem lw_new (w : World) : Lw w.heap.size (w.alloc (.cells #[.slice none 0 0, .slice none 0 0] 70)) w.heap.size [] [] (.slice none 0 0) (.slice none 0 0) := by
  refine ⟨Blk.new _ _ _, Nat.le_refl _, ⟨?_, ?_, ?_, rfl⟩, by simp⟩
  · intro i v t hv ht
    match i, (List.getElem?_eq_some_iff.1 hv).1 with
    | 0, _ => simp [ptrs] at hv ht; subst hv ht; exact World.ownsRow_nil _ _ _ _
    | 1, _ => simp [ptrs] at hv ht; subst hv ht; exact World.ownsRow_nil _ _ _ _
  · intro i j v v' k hv hv' hk
    match i, (List.getElem?_eq_some_iff.1 hv).1 with
    | 0, _ => simp at hv; subst hv; simp [Value.ownBlock] at hk
    | 1, _ => simp at hv; subst hv; simp [Value.ownBlock] at hk
  · intro i v b hv _ e
    match i, (List.getElem?_eq_some_iff.1 hv).1 with
    | 0, _ => simp at hv; subst hv; simp [Value.ownBlock] at e
    | 1, _ => simp at hv; subst hv; simp [Value.ownBlock] at e

/-- What holds ahead of step k. -/
def UpRel (P : Prg) (w : World) (k : Nat) (wr : World) : Prop :=
  ∃ ps hs vp vh, Lw w.heap.size wr w.heap.size ps hs vp vh ∧ PlayersOk P wr ps ∧ HoldsOk wr hs ∧ hs.length ≤ 8 * k ∧ Below w.heap.size w wr
theorem UpRel.longer {P : Prg} {w wr w' : World} {k : Nat} (h : UpRel P w k wr) (hb : Below wr.heap.size wr w') : UpRel P w (k + 1) w' := by
  obtain ⟨ps, hs, vp, vh, h1, h2, h3, h4, h5⟩ := h
  have hl := LawStill.ofBelow hb
  exact ⟨ps, hs, vp, vh, h1.below hb, h2.law hl, h3.law hl, by omega, h5.trans (hb.mono h5.size)⟩
end Go.Proofs.YtmeiikjpaepogaaGreatDoor
