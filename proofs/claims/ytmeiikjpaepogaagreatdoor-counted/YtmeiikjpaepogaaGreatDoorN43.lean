/- The program's Compile with options. -/
import Derived.Test.YtmeiikjpaepogaaGreatDoorN42
import Derived.Test.YtmeiikjpaepogaaGreatDoorN23
set_option maxRecDepth 100000
set_option maxHeartbeats 8000000
namespace Go.Proofs.YtmeiikjpaepogaaGreatDoor
open Go Go.RowKit
theorem full_base {st:RS} (g:Good st):∀ x∈fullS st,x.1≤32:=by
  intro x hx
  unfold fullS at hx
  simp only[List.mem_append,List.mem_singleton,List.mem_map]at hx
  rcases hx with (hx|⟨y,hy,rfl⟩)|rfl
  · exact (g.c0 x hx).1.2
  · have hy':=(g.c1 y hy).1.2
    unfold shiftS
    split<;>exact hy'
  · simp
theorem full_pr (s:ByteArray) (hs:s.size≤2000):PrOk (fullS (endS s),(endS s).c0.length):=by
  obtain⟨g,k,hi,hk⟩:=end_good s hs
  refine code_pr (full_ok hi hk g) (full_base g) ?_
  unfold fullS
  simp
theorem fcompileO_yes (hch : ChainedOk) (s : ByteArray) (f t su : Bool) (w : World) (hs : s.size ≤ 2000) (hV : VocOk w) (hE : ErrsOk w) (ht : Lib.TabIs Tryz.prog w "internal/strconv.uint64pow10" .u64 Lib.pow10Tab) (h0 : (endS s).err = 0) :
    Calls Tryz.prog 18 #[.string s,.agg #[.bool f,.bool t,.bool su]] w fun e w'=>∃ c,e=.returned (.tuple #[.pointer (some ⟨c,0,none⟩),.int .i64 0,.int .i64 0])∧CodeR3 w' c (withP f t su (fullS (endS s),(endS s).c0.length)).1 (withP f t su (fullS (endS s),(endS s).c0.length)).2 (endS s).cells∧Below w.heap.size w w':=by
  have hb0:Below w.heap.size w (w.alloc (.cells #[.bool f,.bool t,.bool su] 32)):=by (repeat (first|with_reducible refine below_drew ?_|with_reducible refine below_drawn ?_ _|with_reducible refine below_longer ?_ _|(with_reducible refine Below.alloc ?_ ?_ _;rotate_left;(first|omega|((repeat (first|rw[World.size_up]|rw[World.size_dr]|rw[World.size_drN]))<;>omega)))));(with_reducible exact Below.refl _ _)
  have HC:=V (comp_any s _ hs (hV.below hb0) (hE.below hb0))
  have HB0:=V hb0
  have HO:=V (Blk.new w #[.bool f,.bool t,.bool su] 32)
  have H0:=V h0
  have HTA:=V (Lib.tabBelow_of_tabIs ht)
  have hprg:=full_pr s hs
  obtain⟨q,hq⟩:∃ q,withP f t su (fullS (endS s),(endS s).c0.length)=q:=⟨_,rfl⟩
  have hqc:=(withP_code (f:=f) (t:=t) (s:=su) hprg)
  rw[hq]at hqc ⊢
  have HQ:=V hq
  have HPRG:=V hprg
  clear hb0 hV hE h0 ht hq hprg
  go_enter Tryz.func18,Tryz.ntmps18
  go_wp2_with fail
  refine (U HC).mono ?_
  rintro e w1 ⟨hcase,hb1⟩
  rcases hcase with ⟨hno,_⟩|⟨_,v,rfl,hrow⟩
  · exact absurd (U H0) hno
  have hb2:=(U HB0).trans (below_less hb1 (U HB0).size)
  have hO1:=(U HO).below hb1 (U HO).lt
  have hco:=hO1.cell
  have hlo:=hO1.lt
  have hpos:0<(fullS (endS s)).length:=full_pos
  obtain⟨g,cap,hv,_,hgl⟩:=hrow.form hpos
  subst hv
  have HROW:=V hrow
  have HB2:=V hb2
  clear hb1 hb2 HC hrow hO1
  have HW:Hid (∀ W,Below w1.heap.size w1 W→Calls Tryz.prog 35 #[.agg #[.slice (some ⟨g,0,none⟩) (fullS (endS s)).length cap,.int .i64 (endS s).c0.length,.int .i64 (endS s).cells],.agg #[.bool f,.bool t,.bool su]] W (WithOut W q (endS s).cells)):=fun W hW=>by
    have hbW:Below w.heap.size w W:=(U HB2).trans (hW.mono (U HB2).size)
    have:=with_any hch f t su g cap (endS s).c0.length (endS s).cells (fullS (endS s)) W (U HTA W hbW) ((LawStill.ofBelow hW).row (ownsRow_base (U HROW) (Nat.zero_le _))) (U HPRG)
    rw[U HQ]at this
    exact this
  generalize hl:fullS (endS s)=l at *
  generalize hn:(endS s).c0.length=n at *
  generalize hc:(endS s).cells=ce at *
  have HCE:=V hc
  clear hl hn hc
  have hbA:Below w1.heap.size w1 (w1.alloc (.cells #[.slice (some ⟨g,0,none⟩) l.length cap,.int .i64 n,.int .i64 ce] 73)):=(Below.refl _ _).alloc (Nat.le_refl _) _
  have HBA:=V hbA
  have HWC:=V (U HW _ hbA)
  clear hbA
  go_wp2_with fail
  refine (U HWC).mono ?_
  rintro e w3 ⟨a3,c3,rfl,ho3,hb3⟩
  obtain⟨g3,d3,e3,_,_⟩:=World.ownsRow.form ho3 (by omega)
  simp only[Value.slice.injEq,true_and]at e3
  obtain⟨rfl,rfl⟩:=e3
  have hb13:Below w1.heap.size w1 w3:=(U HBA).trans (hb3.mono (U HBA).size)
  have HR3:=V ho3
  have HBW:Hid (Below w.heap.size w w3):=(U HB2).trans (hb13.mono (U HB2).size)
  clear hb3 ho3 hb13 HWC
  go_wp2_with fail
  go_ret3
  rw[U HCE]
  exact⟨_,rfl,⟨g3,c3,Blk.new w3 _ _,ownsRow_alloc (U HR3) _⟩,(U HBW).alloc (U HBW).size _⟩
end Go.Proofs.YtmeiikjpaepogaaGreatDoor
