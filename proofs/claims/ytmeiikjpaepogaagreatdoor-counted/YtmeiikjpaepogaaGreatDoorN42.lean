/- The program's options: With. -/
import Derived.Test.YtmeiikjpaepogaaGreatDoorN39
import Derived.Test.YtmeiikjpaepogaaGreatDoorN41
import Derived.Test.YtmeiikjpaepogaaGreatDoorN40
set_option maxRecDepth 100000
set_option maxHeartbeats 8000000
namespace Go.Proofs.YtmeiikjpaepogaaGreatDoor
open Go Go.RowKit
structure WithSt (w0:World) (ce:Int) (f t s:Bool) (w:World) (p:PrS) (a:Option Addr) (k:Nat):Prop where
  box:Blk w w0.heap.size #[.slice a p.1.length k,.int .i64 p.2,.int .i64 ce] 73
  opt:Blk w (w0.heap.size+1) #[.bool f,.bool t,.bool s] 32
  out:Blk w (w0.heap.size+1+1) #[.slice none 0 0,.int .i64 0,.int .i64 0] 73
  list:OwnI 0 w (.slice a p.1.length k) p.1
  below:Below w0.heap.size w0 w
theorem WithSt.next {w0:World} {ce:Int} {f t s:Bool} {w w':World} {p q:PrS} {a a':Option Addr} {k k':Nat} (h:WithSt w0 ce f t s w p a k) (hb:Below w.heap.size w w') (ho:OwnI 0 w' (.slice a' q.1.length k') q.1) :
    WithSt w0 ce f t s (((w'.setCell ⟨w0.heap.size,0,none⟩ (.slice a' q.1.length k')).setCell ⟨w0.heap.size,1,none⟩ (.int .i64 q.2)).setCell ⟨w0.heap.size,2,none⟩ (.int .i64 ce)) q a' k':=by
  have b1:=h.box.below hb h.box.lt
  have b2:=h.opt.below hb h.opt.lt
  have b3:=h.out.below hb h.out.lt
  have hn:(Value.slice a' q.1.length k').ownBlock≠some w0.heap.size:=fun e=>row_not_blk b1 ho (by decide) e
  have hbb:=h.below.trans (hb.mono h.below.size)
  exact⟨triple_set b1 rfl,((b2.far (a:=⟨w0.heap.size,0,none⟩) (by simp) _).far (a:=⟨w0.heap.size,1,none⟩) (by simp) _).far (a:=⟨w0.heap.size,2,none⟩) (by simp) _,((b3.far (a:=⟨w0.heap.size,0,none⟩) (by simp;omega) _).far (a:=⟨w0.heap.size,1,none⟩) (by simp;omega) _).far (a:=⟨w0.heap.size,2,none⟩) (by simp;omega) _,ownsRow_far (ownsRow_far (ownsRow_far ho (a:=⟨w0.heap.size,0,none⟩) hn _) (a:=⟨w0.heap.size,1,none⟩) hn _) (a:=⟨w0.heap.size,2,none⟩) hn _,((hbb.setCell (Nat.le_refl _) _).setCell (Nat.le_refl _) _).setCell (Nat.le_refl _) _⟩
theorem tail_out (g cap en:Nat) (ce:Int) (l:List (Int×Int)) (w:World) (ho:OwnI 0 w (.slice (some ⟨g,0,none⟩) l.length cap) l) (hp:PrOk (l,en)) :
    Calls Tryz.prog 53 #[.agg #[.slice (some ⟨g,0,none⟩) l.length cap,.int .i64 en,.int .i64 ce]] w (ProgOut w (tailP (l,en)) ce):=by
  have he:en<l.length:=hp.entry
  have h5:l.length≤5000:=hp.small
  refine (tail_any g cap l en ce w ho (by omega) h5).mono ?_
  rintro e w' ⟨g',cap',rfl,h1,h2⟩
  have el:(tailP (l,en)).1.length=l.length:=tailS_len l
  exact⟨_,_,by rw[el];rfl,by unfold OwnI;rw[el];exact h1,h2⟩
theorem withP_fff (p:PrS):withP false false false p=p:=by simp only[withP,Bool.false_eq_true,if_false]
theorem withP_fft (p:PrS):withP false false true p=superP p:=by simp only[withP,Bool.false_eq_true,if_false,if_true]
theorem withP_ftf (p:PrS):withP false true false p=tailP p:=by simp only[withP,Bool.false_eq_true,if_false,if_true]
theorem withP_ftt (p:PrS):withP false true true p=superP (tailP p):=by simp only[withP,Bool.false_eq_true,if_false,if_true]
theorem withP_tff (p:PrS):withP true false false p=foldP p:=by simp only[withP,Bool.false_eq_true,if_false,if_true]
theorem withP_tft (p:PrS):withP true false true p=superP (foldP p):=by simp only[withP,Bool.false_eq_true,if_false,if_true]
theorem withP_ttf (p:PrS):withP true true false p=foldP (tailP p):=by simp only[withP,Bool.false_eq_true,if_false,if_true]
theorem withP_ttt (p:PrS):withP true true true p=superP (foldP (tailP p)):=by simp only[withP,if_true]
def WithOut (w:World) (q:PrS) (ce:Int) (e:Ending) (w':World):Prop:=∃ a c,e=.returned (.agg #[.slice a q.1.length c,.int .i64 q.2,.int .i64 ce])∧OwnI 0 w' (.slice a q.1.length c) q.1∧Below w.heap.size w w'
theorem with_fff (hch : ChainedOk) (g cap en : Nat) (ce : Int) (l : List (Int × Int)) (w : World) (ht : Lib.TabIs Tryz.prog w "internal/strconv.uint64pow10" .u64 Lib.pow10Tab) (ho : OwnI 0 w (.slice (some ⟨g, 0, none⟩) l.length cap) l) (hp : PrOk (l, en)) :
    Calls Tryz.prog 35 #[.agg #[.slice (some ⟨g,0,none⟩) l.length cap,.int .i64 en,.int .i64 ce],.agg #[.bool false,.bool false,.bool false]] w (WithOut w (withP false false false (l,en)) ce):=by
  have _:=hch
  have HTA:=V (Lib.tabBelow_of_tabIs ht)
  have hR:Blk (((w.alloc (.cells #[.slice (some ⟨g,0,none⟩) l.length cap,.int .i64 en,.int .i64 ce] 73)).alloc (.cells #[.bool false,.bool false,.bool false] 32)).alloc (.cells #[.slice none 0 0,.int .i64 0,.int .i64 0] 73)) (w.heap.size+1+1) #[.slice none 0 0,.int .i64 0,.int .i64 0] 73:=by (repeat (first|with_reducible refine Blk.drew ?_|with_reducible refine Blk.drewN ?_ _|(with_reducible refine blk_newAt _ _ ?_;(first|omega|((repeat (first|rw[World.size_up]|rw[World.size_dr]|rw[World.size_drN]))<;>omega)))|with_reducible refine Blk.alloc ?_ _));(first|done|with_reducible assumption)
  have hb:Below w.heap.size w (((w.alloc (.cells #[.slice (some ⟨g,0,none⟩) l.length cap,.int .i64 en,.int .i64 ce] 73)).alloc (.cells #[.bool false,.bool false,.bool false] 32)).alloc (.cells #[.slice none 0 0,.int .i64 0,.int .i64 0] 73)):=by (repeat (first|with_reducible refine below_drew ?_|with_reducible refine below_drawn ?_ _|with_reducible refine below_longer ?_ _|(with_reducible refine Below.alloc ?_ ?_ _;rotate_left;(first|omega|((repeat (first|rw[World.size_up]|rw[World.size_dr]|rw[World.size_drN]))<;>omega)))));(with_reducible exact Below.refl _ _)
  have hP:Blk (((w.alloc (.cells #[.slice (some ⟨g,0,none⟩) l.length cap,.int .i64 en,.int .i64 ce] 73)).alloc (.cells #[.bool false,.bool false,.bool false] 32)).alloc (.cells #[.slice none 0 0,.int .i64 0,.int .i64 0] 73)) w.heap.size #[.slice (some ⟨g,0,none⟩) l.length cap,.int .i64 en,.int .i64 ce] 73:=by (repeat (first|with_reducible refine Blk.drew ?_|with_reducible refine Blk.drewN ?_ _|(with_reducible refine blk_newAt _ _ ?_;(first|omega|((repeat (first|rw[World.size_up]|rw[World.size_dr]|rw[World.size_drN]))<;>omega)))|with_reducible refine Blk.alloc ?_ _));(first|done|with_reducible assumption)
  have hO:Blk (((w.alloc (.cells #[.slice (some ⟨g,0,none⟩) l.length cap,.int .i64 en,.int .i64 ce] 73)).alloc (.cells #[.bool false,.bool false,.bool false] 32)).alloc (.cells #[.slice none 0 0,.int .i64 0,.int .i64 0] 73)) (w.heap.size+1) #[.bool false,.bool false,.bool false] 32:=by (repeat (first|with_reducible refine Blk.drew ?_|with_reducible refine Blk.drewN ?_ _|(with_reducible refine blk_newAt _ _ ?_;(first|omega|((repeat (first|rw[World.size_up]|rw[World.size_dr]|rw[World.size_drN]))<;>omega)))|with_reducible refine Blk.alloc ?_ _));(first|done|with_reducible assumption)
  have HST:Hid (WithSt w ce false false false (((w.alloc (.cells #[.slice (some ⟨g,0,none⟩) l.length cap,.int .i64 en,.int .i64 ce] 73)).alloc (.cells #[.bool false,.bool false,.bool false] 32)).alloc (.cells #[.slice none 0 0,.int .i64 0,.int .i64 0] 73)) (l,en) (some ⟨g,0,none⟩) cap):=⟨hP,hO,hR,ho.below hb,hb⟩
  have HPR:=V hp
  obtain⟨res,hres⟩:∃ res,withP false false false (l,en)=res:=⟨_,rfl⟩
  rw[hres]
  have HRES:=V hres
  have h1:=hP.cell
  have h2:=hP.free
  have h3:=hP.lt
  have h4:=hO.cell
  have h5:=hO.lt
  have h6:=hR.cell
  have h7:=hR.free
  have h8:=hR.lt
  clear hR hb hP hO ho hp hres ht
  go_enter Tryz.func35,Tryz.ntmps35
  go_upto_region 1 with fail
  generalize (((w.alloc (.cells #[.slice (some ⟨g,0,none⟩) l.length cap,.int .i64 en,.int .i64 ce] 73)).alloc (.cells #[.bool false,.bool false,.bool false] 32)).alloc (.cells #[.slice none 0 0,.int .i64 0,.int .i64 0] 73))=W0 at *
  clear h1 h2 h3 h4 h5 h6 h7 h8
  have q10:=(U HST).box.cell
  have q20:=(U HST).box.free
  have q30:=(U HST).box.lt
  have q40:=(U HST).opt.cell
  have q50:=(U HST).opt.lt
  have q60:=(U HST).out.cell
  have q70:=(U HST).out.free
  have q80:=(U HST).out.lt
  have hfin:res=(l,en):=by
    rw[← U HRES]
    rw[withP_fff]
  subst hfin
  have hn:(Value.slice (some ⟨g,0,none⟩) l.length cap).ownBlock≠some (w.heap.size+1+1):=fun e=>row_not_blk (U HST).out (U HST).list (by decide) e
  have HF:=V (ownsRow_far (ownsRow_far (ownsRow_far (U HST).list (a:=⟨w.heap.size+1+1,0,none⟩) hn (.slice (some ⟨g,0,none⟩) l.length cap)) (a:=⟨w.heap.size+1+1,1,none⟩) hn (.int .i64 en)) (a:=⟨w.heap.size+1+1,2,none⟩) hn (.int .i64 ce))
  go_wp2_with fail
  refine bodyPost_ret (results_row3 (P:=Tryz.prog) rfl _ _ (w.heap.size+1+1) 73 _ (0,0) _ rfl (triple_set (U HST).out rfl) Tryz.underlying73 rfl Tryz.sizeProgram) rfl ?_
  exact⟨(some ⟨g,0,none⟩),cap,rfl,U HF,(((U HST).below.setCell (by simp;omega) _).setCell (by simp;omega) _).setCell (by simp;omega) _⟩
theorem with_fft (hch : ChainedOk) (g cap en : Nat) (ce : Int) (l : List (Int × Int)) (w : World) (ht : Lib.TabIs Tryz.prog w "internal/strconv.uint64pow10" .u64 Lib.pow10Tab) (ho : OwnI 0 w (.slice (some ⟨g, 0, none⟩) l.length cap) l) (hp : PrOk (l, en)) :
    Calls Tryz.prog 35 #[.agg #[.slice (some ⟨g,0,none⟩) l.length cap,.int .i64 en,.int .i64 ce],.agg #[.bool false,.bool false,.bool true]] w (WithOut w (withP false false true (l,en)) ce):=by
  have _:=hch
  have HTA:=V (Lib.tabBelow_of_tabIs ht)
  have hR:Blk (((w.alloc (.cells #[.slice (some ⟨g,0,none⟩) l.length cap,.int .i64 en,.int .i64 ce] 73)).alloc (.cells #[.bool false,.bool false,.bool true] 32)).alloc (.cells #[.slice none 0 0,.int .i64 0,.int .i64 0] 73)) (w.heap.size+1+1) #[.slice none 0 0,.int .i64 0,.int .i64 0] 73:=by (repeat (first|with_reducible refine Blk.drew ?_|with_reducible refine Blk.drewN ?_ _|(with_reducible refine blk_newAt _ _ ?_;(first|omega|((repeat (first|rw[World.size_up]|rw[World.size_dr]|rw[World.size_drN]))<;>omega)))|with_reducible refine Blk.alloc ?_ _));(first|done|with_reducible assumption)
  have hb:Below w.heap.size w (((w.alloc (.cells #[.slice (some ⟨g,0,none⟩) l.length cap,.int .i64 en,.int .i64 ce] 73)).alloc (.cells #[.bool false,.bool false,.bool true] 32)).alloc (.cells #[.slice none 0 0,.int .i64 0,.int .i64 0] 73)):=by (repeat (first|with_reducible refine below_drew ?_|with_reducible refine below_drawn ?_ _|with_reducible refine below_longer ?_ _|(with_reducible refine Below.alloc ?_ ?_ _;rotate_left;(first|omega|((repeat (first|rw[World.size_up]|rw[World.size_dr]|rw[World.size_drN]))<;>omega)))));(with_reducible exact Below.refl _ _)
  have hP:Blk (((w.alloc (.cells #[.slice (some ⟨g,0,none⟩) l.length cap,.int .i64 en,.int .i64 ce] 73)).alloc (.cells #[.bool false,.bool false,.bool true] 32)).alloc (.cells #[.slice none 0 0,.int .i64 0,.int .i64 0] 73)) w.heap.size #[.slice (some ⟨g,0,none⟩) l.length cap,.int .i64 en,.int .i64 ce] 73:=by (repeat (first|with_reducible refine Blk.drew ?_|with_reducible refine Blk.drewN ?_ _|(with_reducible refine blk_newAt _ _ ?_;(first|omega|((repeat (first|rw[World.size_up]|rw[World.size_dr]|rw[World.size_drN]))<;>omega)))|with_reducible refine Blk.alloc ?_ _));(first|done|with_reducible assumption)
  have hO:Blk (((w.alloc (.cells #[.slice (some ⟨g,0,none⟩) l.length cap,.int .i64 en,.int .i64 ce] 73)).alloc (.cells #[.bool false,.bool false,.bool true] 32)).alloc (.cells #[.slice none 0 0,.int .i64 0,.int .i64 0] 73)) (w.heap.size+1) #[.bool false,.bool false,.bool true] 32:=by (repeat (first|with_reducible refine Blk.drew ?_|with_reducible refine Blk.drewN ?_ _|(with_reducible refine blk_newAt _ _ ?_;(first|omega|((repeat (first|rw[World.size_up]|rw[World.size_dr]|rw[World.size_drN]))<;>omega)))|with_reducible refine Blk.alloc ?_ _));(first|done|with_reducible assumption)
  have HST:Hid (WithSt w ce false false true (((w.alloc (.cells #[.slice (some ⟨g,0,none⟩) l.length cap,.int .i64 en,.int .i64 ce] 73)).alloc (.cells #[.bool false,.bool false,.bool true] 32)).alloc (.cells #[.slice none 0 0,.int .i64 0,.int .i64 0] 73)) (l,en) (some ⟨g,0,none⟩) cap):=⟨hP,hO,hR,ho.below hb,hb⟩
  have HPR:=V hp
  obtain⟨res,hres⟩:∃ res,withP false false true (l,en)=res:=⟨_,rfl⟩
  rw[hres]
  have HRES:=V hres
  have h1:=hP.cell
  have h2:=hP.free
  have h3:=hP.lt
  have h4:=hO.cell
  have h5:=hO.lt
  have h6:=hR.cell
  have h7:=hR.free
  have h8:=hR.lt
  clear hR hb hP hO ho hp hres ht
  go_enter Tryz.func35,Tryz.ntmps35
  go_upto_region 1 with fail
  generalize (((w.alloc (.cells #[.slice (some ⟨g,0,none⟩) l.length cap,.int .i64 en,.int .i64 ce] 73)).alloc (.cells #[.bool false,.bool false,.bool true] 32)).alloc (.cells #[.slice none 0 0,.int .i64 0,.int .i64 0] 73))=W0 at *
  clear h1 h2 h3 h4 h5 h6 h7 h8
  obtain⟨p1,hq1⟩:∃ p1,superP (l,en)=p1:=⟨_,rfl⟩
  have q10:=(U HST).box.cell
  have q20:=(U HST).box.free
  have q30:=(U HST).box.lt
  have q40:=(U HST).opt.cell
  have q50:=(U HST).opt.lt
  have q60:=(U HST).out.cell
  have q70:=(U HST).out.free
  have q80:=(U HST).out.lt
  have HC1:Hid (Calls Tryz.prog 55 #[.agg #[.slice (some ⟨g,0,none⟩) l.length cap,.int .i64 en,.int .i64 ce]] W0 (ProgOut W0 p1 ce)):=by
    rw[← hq1]
    exact super_any (some ⟨g,0,none⟩) cap en ce l _ (U HST).list.isIn.1 (U HPR)
  have HQ1:=V hq1
  clear hq1
  go_wp2_with fail
  refine (U HC1).mono ?_
  rintro e u1 ⟨a1,k1,rfl,ho,hb⟩
  have HN1:=V ((U HST).next hb (ho.base (Nat.zero_le _)))
  have b1:=((U HST).box.below hb (U HST).box.lt)
  have x11:=b1.cell
  have x21:=b1.free
  have x31:=b1.lt
  have c1:=((U HST).opt.below hb (U HST).opt.lt)
  have x41:=c1.cell
  have x51:=c1.lt
  clear ho hb b1 c1 HC1
  clear q10 q20 q30 q40 q50 q60 q70 q80
  go_upto_region 7 with fail
  generalize (((u1.setCell ⟨w.heap.size,0,none⟩ (.slice a1 p1.1.length k1)).setCell ⟨w.heap.size,1,none⟩ (.int .i64 p1.2)).setCell ⟨w.heap.size,2,none⟩ (.int .i64 ce))=v1 at *
  clear x11 x21 x31 x41 x51
  obtain⟨l1,e1⟩:=p1
  simp only at HN1 ⊢
  have q11:=(U HN1).box.cell
  have q21:=(U HN1).box.free
  have q31:=(U HN1).box.lt
  have q41:=(U HN1).opt.cell
  have q51:=(U HN1).opt.lt
  have q61:=(U HN1).out.cell
  have q71:=(U HN1).out.free
  have q81:=(U HN1).out.lt
  have hfin:res=(l1,e1):=by
    rw[← U HRES]
    rw[withP_fft,U HQ1]
  subst hfin
  have hn:(Value.slice a1 l1.length k1).ownBlock≠some (w.heap.size+1+1):=fun e=>row_not_blk (U HN1).out (U HN1).list (by decide) e
  have HF:=V (ownsRow_far (ownsRow_far (ownsRow_far (U HN1).list (a:=⟨w.heap.size+1+1,0,none⟩) hn (.slice a1 l1.length k1)) (a:=⟨w.heap.size+1+1,1,none⟩) hn (.int .i64 e1)) (a:=⟨w.heap.size+1+1,2,none⟩) hn (.int .i64 ce))
  go_wp2_with fail
  refine bodyPost_ret (results_row3 (P:=Tryz.prog) rfl _ _ (w.heap.size+1+1) 73 _ (0,0) _ rfl (triple_set (U HN1).out rfl) Tryz.underlying73 rfl Tryz.sizeProgram) rfl ?_
  exact⟨a1,k1,rfl,U HF,(((U HN1).below.setCell (by simp;omega) _).setCell (by simp;omega) _).setCell (by simp;omega) _⟩
theorem with_ftf (hch : ChainedOk) (g cap en : Nat) (ce : Int) (l : List (Int × Int)) (w : World) (ht : Lib.TabIs Tryz.prog w "internal/strconv.uint64pow10" .u64 Lib.pow10Tab) (ho : OwnI 0 w (.slice (some ⟨g, 0, none⟩) l.length cap) l) (hp : PrOk (l, en)) :
    Calls Tryz.prog 35 #[.agg #[.slice (some ⟨g,0,none⟩) l.length cap,.int .i64 en,.int .i64 ce],.agg #[.bool false,.bool true,.bool false]] w (WithOut w (withP false true false (l,en)) ce):=by
  have _:=hch
  have HTA:=V (Lib.tabBelow_of_tabIs ht)
  have hR:Blk (((w.alloc (.cells #[.slice (some ⟨g,0,none⟩) l.length cap,.int .i64 en,.int .i64 ce] 73)).alloc (.cells #[.bool false,.bool true,.bool false] 32)).alloc (.cells #[.slice none 0 0,.int .i64 0,.int .i64 0] 73)) (w.heap.size+1+1) #[.slice none 0 0,.int .i64 0,.int .i64 0] 73:=by (repeat (first|with_reducible refine Blk.drew ?_|with_reducible refine Blk.drewN ?_ _|(with_reducible refine blk_newAt _ _ ?_;(first|omega|((repeat (first|rw[World.size_up]|rw[World.size_dr]|rw[World.size_drN]))<;>omega)))|with_reducible refine Blk.alloc ?_ _));(first|done|with_reducible assumption)
  have hb:Below w.heap.size w (((w.alloc (.cells #[.slice (some ⟨g,0,none⟩) l.length cap,.int .i64 en,.int .i64 ce] 73)).alloc (.cells #[.bool false,.bool true,.bool false] 32)).alloc (.cells #[.slice none 0 0,.int .i64 0,.int .i64 0] 73)):=by (repeat (first|with_reducible refine below_drew ?_|with_reducible refine below_drawn ?_ _|with_reducible refine below_longer ?_ _|(with_reducible refine Below.alloc ?_ ?_ _;rotate_left;(first|omega|((repeat (first|rw[World.size_up]|rw[World.size_dr]|rw[World.size_drN]))<;>omega)))));(with_reducible exact Below.refl _ _)
  have hP:Blk (((w.alloc (.cells #[.slice (some ⟨g,0,none⟩) l.length cap,.int .i64 en,.int .i64 ce] 73)).alloc (.cells #[.bool false,.bool true,.bool false] 32)).alloc (.cells #[.slice none 0 0,.int .i64 0,.int .i64 0] 73)) w.heap.size #[.slice (some ⟨g,0,none⟩) l.length cap,.int .i64 en,.int .i64 ce] 73:=by (repeat (first|with_reducible refine Blk.drew ?_|with_reducible refine Blk.drewN ?_ _|(with_reducible refine blk_newAt _ _ ?_;(first|omega|((repeat (first|rw[World.size_up]|rw[World.size_dr]|rw[World.size_drN]))<;>omega)))|with_reducible refine Blk.alloc ?_ _));(first|done|with_reducible assumption)
  have hO:Blk (((w.alloc (.cells #[.slice (some ⟨g,0,none⟩) l.length cap,.int .i64 en,.int .i64 ce] 73)).alloc (.cells #[.bool false,.bool true,.bool false] 32)).alloc (.cells #[.slice none 0 0,.int .i64 0,.int .i64 0] 73)) (w.heap.size+1) #[.bool false,.bool true,.bool false] 32:=by (repeat (first|with_reducible refine Blk.drew ?_|with_reducible refine Blk.drewN ?_ _|(with_reducible refine blk_newAt _ _ ?_;(first|omega|((repeat (first|rw[World.size_up]|rw[World.size_dr]|rw[World.size_drN]))<;>omega)))|with_reducible refine Blk.alloc ?_ _));(first|done|with_reducible assumption)
  have HST:Hid (WithSt w ce false true false (((w.alloc (.cells #[.slice (some ⟨g,0,none⟩) l.length cap,.int .i64 en,.int .i64 ce] 73)).alloc (.cells #[.bool false,.bool true,.bool false] 32)).alloc (.cells #[.slice none 0 0,.int .i64 0,.int .i64 0] 73)) (l,en) (some ⟨g,0,none⟩) cap):=⟨hP,hO,hR,ho.below hb,hb⟩
  have HPR:=V hp
  obtain⟨res,hres⟩:∃ res,withP false true false (l,en)=res:=⟨_,rfl⟩
  rw[hres]
  have HRES:=V hres
  have h1:=hP.cell
  have h2:=hP.free
  have h3:=hP.lt
  have h4:=hO.cell
  have h5:=hO.lt
  have h6:=hR.cell
  have h7:=hR.free
  have h8:=hR.lt
  clear hR hb hP hO ho hp hres ht
  go_enter Tryz.func35,Tryz.ntmps35
  go_upto_region 1 with fail
  generalize (((w.alloc (.cells #[.slice (some ⟨g,0,none⟩) l.length cap,.int .i64 en,.int .i64 ce] 73)).alloc (.cells #[.bool false,.bool true,.bool false] 32)).alloc (.cells #[.slice none 0 0,.int .i64 0,.int .i64 0] 73))=W0 at *
  clear h1 h2 h3 h4 h5 h6 h7 h8
  obtain⟨p1,hq1⟩:∃ p1,tailP (l,en)=p1:=⟨_,rfl⟩
  have q10:=(U HST).box.cell
  have q20:=(U HST).box.free
  have q30:=(U HST).box.lt
  have q40:=(U HST).opt.cell
  have q50:=(U HST).opt.lt
  have q60:=(U HST).out.cell
  have q70:=(U HST).out.free
  have q80:=(U HST).out.lt
  have HC1:Hid (Calls Tryz.prog 53 #[.agg #[.slice (some ⟨g,0,none⟩) l.length cap,.int .i64 en,.int .i64 ce]] W0 (ProgOut W0 p1 ce)):=by
    rw[← hq1]
    exact tail_out g cap en ce l _ (U HST).list (U HPR)
  have HP1:Hid (PrOk p1):=by rw[← hq1];exact tail_pr (U HPR)
  have HQ1:=V hq1
  clear hq1
  go_wp2_with fail
  refine (U HC1).mono ?_
  rintro e u1 ⟨a1,k1,rfl,ho,hb⟩
  have HN1:=V ((U HST).next hb (ho.base (Nat.zero_le _)))
  have b1:=((U HST).box.below hb (U HST).box.lt)
  have x11:=b1.cell
  have x21:=b1.free
  have x31:=b1.lt
  have c1:=((U HST).opt.below hb (U HST).opt.lt)
  have x41:=c1.cell
  have x51:=c1.lt
  clear ho hb b1 c1 HC1
  clear q10 q20 q30 q40 q50 q60 q70 q80
  go_upto_region 3 with fail
  generalize (((u1.setCell ⟨w.heap.size,0,none⟩ (.slice a1 p1.1.length k1)).setCell ⟨w.heap.size,1,none⟩ (.int .i64 p1.2)).setCell ⟨w.heap.size,2,none⟩ (.int .i64 ce))=v1 at *
  clear x11 x21 x31 x41 x51
  obtain⟨l1,e1⟩:=p1
  simp only at HN1 ⊢
  have q11:=(U HN1).box.cell
  have q21:=(U HN1).box.free
  have q31:=(U HN1).box.lt
  have q41:=(U HN1).opt.cell
  have q51:=(U HN1).opt.lt
  have q61:=(U HN1).out.cell
  have q71:=(U HN1).out.free
  have q81:=(U HN1).out.lt
  have hfin:res=(l1,e1):=by
    rw[← U HRES]
    rw[withP_ftf,U HQ1]
  subst hfin
  have hn:(Value.slice a1 l1.length k1).ownBlock≠some (w.heap.size+1+1):=fun e=>row_not_blk (U HN1).out (U HN1).list (by decide) e
  have HF:=V (ownsRow_far (ownsRow_far (ownsRow_far (U HN1).list (a:=⟨w.heap.size+1+1,0,none⟩) hn (.slice a1 l1.length k1)) (a:=⟨w.heap.size+1+1,1,none⟩) hn (.int .i64 e1)) (a:=⟨w.heap.size+1+1,2,none⟩) hn (.int .i64 ce))
  go_wp2_with fail
  refine bodyPost_ret (results_row3 (P:=Tryz.prog) rfl _ _ (w.heap.size+1+1) 73 _ (0,0) _ rfl (triple_set (U HN1).out rfl) Tryz.underlying73 rfl Tryz.sizeProgram) rfl ?_
  exact⟨a1,k1,rfl,U HF,(((U HN1).below.setCell (by simp;omega) _).setCell (by simp;omega) _).setCell (by simp;omega) _⟩
theorem with_ftt (hch : ChainedOk) (g cap en : Nat) (ce : Int) (l : List (Int × Int)) (w : World) (ht : Lib.TabIs Tryz.prog w "internal/strconv.uint64pow10" .u64 Lib.pow10Tab) (ho : OwnI 0 w (.slice (some ⟨g, 0, none⟩) l.length cap) l) (hp : PrOk (l, en)) :
    Calls Tryz.prog 35 #[.agg #[.slice (some ⟨g,0,none⟩) l.length cap,.int .i64 en,.int .i64 ce],.agg #[.bool false,.bool true,.bool true]] w (WithOut w (withP false true true (l,en)) ce):=by
  have _:=hch
  have HTA:=V (Lib.tabBelow_of_tabIs ht)
  have hR:Blk (((w.alloc (.cells #[.slice (some ⟨g,0,none⟩) l.length cap,.int .i64 en,.int .i64 ce] 73)).alloc (.cells #[.bool false,.bool true,.bool true] 32)).alloc (.cells #[.slice none 0 0,.int .i64 0,.int .i64 0] 73)) (w.heap.size+1+1) #[.slice none 0 0,.int .i64 0,.int .i64 0] 73:=by (repeat (first|with_reducible refine Blk.drew ?_|with_reducible refine Blk.drewN ?_ _|(with_reducible refine blk_newAt _ _ ?_;(first|omega|((repeat (first|rw[World.size_up]|rw[World.size_dr]|rw[World.size_drN]))<;>omega)))|with_reducible refine Blk.alloc ?_ _));(first|done|with_reducible assumption)
  have hb:Below w.heap.size w (((w.alloc (.cells #[.slice (some ⟨g,0,none⟩) l.length cap,.int .i64 en,.int .i64 ce] 73)).alloc (.cells #[.bool false,.bool true,.bool true] 32)).alloc (.cells #[.slice none 0 0,.int .i64 0,.int .i64 0] 73)):=by (repeat (first|with_reducible refine below_drew ?_|with_reducible refine below_drawn ?_ _|with_reducible refine below_longer ?_ _|(with_reducible refine Below.alloc ?_ ?_ _;rotate_left;(first|omega|((repeat (first|rw[World.size_up]|rw[World.size_dr]|rw[World.size_drN]))<;>omega)))));(with_reducible exact Below.refl _ _)
  have hP:Blk (((w.alloc (.cells #[.slice (some ⟨g,0,none⟩) l.length cap,.int .i64 en,.int .i64 ce] 73)).alloc (.cells #[.bool false,.bool true,.bool true] 32)).alloc (.cells #[.slice none 0 0,.int .i64 0,.int .i64 0] 73)) w.heap.size #[.slice (some ⟨g,0,none⟩) l.length cap,.int .i64 en,.int .i64 ce] 73:=by (repeat (first|with_reducible refine Blk.drew ?_|with_reducible refine Blk.drewN ?_ _|(with_reducible refine blk_newAt _ _ ?_;(first|omega|((repeat (first|rw[World.size_up]|rw[World.size_dr]|rw[World.size_drN]))<;>omega)))|with_reducible refine Blk.alloc ?_ _));(first|done|with_reducible assumption)
  have hO:Blk (((w.alloc (.cells #[.slice (some ⟨g,0,none⟩) l.length cap,.int .i64 en,.int .i64 ce] 73)).alloc (.cells #[.bool false,.bool true,.bool true] 32)).alloc (.cells #[.slice none 0 0,.int .i64 0,.int .i64 0] 73)) (w.heap.size+1) #[.bool false,.bool true,.bool true] 32:=by (repeat (first|with_reducible refine Blk.drew ?_|with_reducible refine Blk.drewN ?_ _|(with_reducible refine blk_newAt _ _ ?_;(first|omega|((repeat (first|rw[World.size_up]|rw[World.size_dr]|rw[World.size_drN]))<;>omega)))|with_reducible refine Blk.alloc ?_ _));(first|done|with_reducible assumption)
  have HST:Hid (WithSt w ce false true true (((w.alloc (.cells #[.slice (some ⟨g,0,none⟩) l.length cap,.int .i64 en,.int .i64 ce] 73)).alloc (.cells #[.bool false,.bool true,.bool true] 32)).alloc (.cells #[.slice none 0 0,.int .i64 0,.int .i64 0] 73)) (l,en) (some ⟨g,0,none⟩) cap):=⟨hP,hO,hR,ho.below hb,hb⟩
  have HPR:=V hp
  obtain⟨res,hres⟩:∃ res,withP false true true (l,en)=res:=⟨_,rfl⟩
  rw[hres]
  have HRES:=V hres
  have h1:=hP.cell
  have h2:=hP.free
  have h3:=hP.lt
  have h4:=hO.cell
  have h5:=hO.lt
  have h6:=hR.cell
  have h7:=hR.free
  have h8:=hR.lt
  clear hR hb hP hO ho hp hres ht
  go_enter Tryz.func35,Tryz.ntmps35
  go_upto_region 1 with fail
  generalize (((w.alloc (.cells #[.slice (some ⟨g,0,none⟩) l.length cap,.int .i64 en,.int .i64 ce] 73)).alloc (.cells #[.bool false,.bool true,.bool true] 32)).alloc (.cells #[.slice none 0 0,.int .i64 0,.int .i64 0] 73))=W0 at *
  clear h1 h2 h3 h4 h5 h6 h7 h8
  obtain⟨p1,hq1⟩:∃ p1,tailP (l,en)=p1:=⟨_,rfl⟩
  have q10:=(U HST).box.cell
  have q20:=(U HST).box.free
  have q30:=(U HST).box.lt
  have q40:=(U HST).opt.cell
  have q50:=(U HST).opt.lt
  have q60:=(U HST).out.cell
  have q70:=(U HST).out.free
  have q80:=(U HST).out.lt
  have HC1:Hid (Calls Tryz.prog 53 #[.agg #[.slice (some ⟨g,0,none⟩) l.length cap,.int .i64 en,.int .i64 ce]] W0 (ProgOut W0 p1 ce)):=by
    rw[← hq1]
    exact tail_out g cap en ce l _ (U HST).list (U HPR)
  have HP1:Hid (PrOk p1):=by rw[← hq1];exact tail_pr (U HPR)
  have HQ1:=V hq1
  clear hq1
  go_wp2_with fail
  refine (U HC1).mono ?_
  rintro e u1 ⟨a1,k1,rfl,ho,hb⟩
  have HN1:=V ((U HST).next hb (ho.base (Nat.zero_le _)))
  have b1:=((U HST).box.below hb (U HST).box.lt)
  have x11:=b1.cell
  have x21:=b1.free
  have x31:=b1.lt
  have c1:=((U HST).opt.below hb (U HST).opt.lt)
  have x41:=c1.cell
  have x51:=c1.lt
  clear ho hb b1 c1 HC1
  clear q10 q20 q30 q40 q50 q60 q70 q80
  go_upto_region 3 with fail
  generalize (((u1.setCell ⟨w.heap.size,0,none⟩ (.slice a1 p1.1.length k1)).setCell ⟨w.heap.size,1,none⟩ (.int .i64 p1.2)).setCell ⟨w.heap.size,2,none⟩ (.int .i64 ce))=v1 at *
  clear x11 x21 x31 x41 x51
  obtain⟨l1,e1⟩:=p1
  simp only at HN1 ⊢
  obtain⟨p2,hq2⟩:∃ p2,superP (l1,e1)=p2:=⟨_,rfl⟩
  have q11:=(U HN1).box.cell
  have q21:=(U HN1).box.free
  have q31:=(U HN1).box.lt
  have q41:=(U HN1).opt.cell
  have q51:=(U HN1).opt.lt
  have q61:=(U HN1).out.cell
  have q71:=(U HN1).out.free
  have q81:=(U HN1).out.lt
  have HC2:Hid (Calls Tryz.prog 55 #[.agg #[.slice a1 l1.length k1,.int .i64 e1,.int .i64 ce]] v1 (ProgOut v1 p2 ce)):=by
    rw[← hq2]
    exact super_any a1 k1 e1 ce l1 _ (U HN1).list.isIn.1 (U HP1)
  have HQ2:=V hq2
  clear hq2
  go_wp2_with fail
  refine (U HC2).mono ?_
  rintro e u2 ⟨a2,k2,rfl,ho,hb⟩
  have HN2:=V ((U HN1).next hb (ho.base (Nat.zero_le _)))
  have b2:=((U HN1).box.below hb (U HN1).box.lt)
  have x12:=b2.cell
  have x22:=b2.free
  have x32:=b2.lt
  have c2:=((U HN1).opt.below hb (U HN1).opt.lt)
  have x42:=c2.cell
  have x52:=c2.lt
  clear ho hb b2 c2 HC2
  clear q11 q21 q31 q41 q51 q61 q71 q81
  go_upto_region 7 with fail
  generalize (((u2.setCell ⟨w.heap.size,0,none⟩ (.slice a2 p2.1.length k2)).setCell ⟨w.heap.size,1,none⟩ (.int .i64 p2.2)).setCell ⟨w.heap.size,2,none⟩ (.int .i64 ce))=v2 at *
  clear x12 x22 x32 x42 x52
  obtain⟨l2,e2⟩:=p2
  simp only at HN2 ⊢
  have q12:=(U HN2).box.cell
  have q22:=(U HN2).box.free
  have q32:=(U HN2).box.lt
  have q42:=(U HN2).opt.cell
  have q52:=(U HN2).opt.lt
  have q62:=(U HN2).out.cell
  have q72:=(U HN2).out.free
  have q82:=(U HN2).out.lt
  have hfin:res=(l2,e2):=by
    rw[← U HRES]
    rw[withP_ftt,U HQ1,U HQ2]
  subst hfin
  have hn:(Value.slice a2 l2.length k2).ownBlock≠some (w.heap.size+1+1):=fun e=>row_not_blk (U HN2).out (U HN2).list (by decide) e
  have HF:=V (ownsRow_far (ownsRow_far (ownsRow_far (U HN2).list (a:=⟨w.heap.size+1+1,0,none⟩) hn (.slice a2 l2.length k2)) (a:=⟨w.heap.size+1+1,1,none⟩) hn (.int .i64 e2)) (a:=⟨w.heap.size+1+1,2,none⟩) hn (.int .i64 ce))
  go_wp2_with fail
  refine bodyPost_ret (results_row3 (P:=Tryz.prog) rfl _ _ (w.heap.size+1+1) 73 _ (0,0) _ rfl (triple_set (U HN2).out rfl) Tryz.underlying73 rfl Tryz.sizeProgram) rfl ?_
  exact⟨a2,k2,rfl,U HF,(((U HN2).below.setCell (by simp;omega) _).setCell (by simp;omega) _).setCell (by simp;omega) _⟩
theorem with_tff (hch : ChainedOk) (g cap en : Nat) (ce : Int) (l : List (Int × Int)) (w : World) (ht : Lib.TabIs Tryz.prog w "internal/strconv.uint64pow10" .u64 Lib.pow10Tab) (ho : OwnI 0 w (.slice (some ⟨g, 0, none⟩) l.length cap) l) (hp : PrOk (l, en)) :
    Calls Tryz.prog 35 #[.agg #[.slice (some ⟨g,0,none⟩) l.length cap,.int .i64 en,.int .i64 ce],.agg #[.bool true,.bool false,.bool false]] w (WithOut w (withP true false false (l,en)) ce):=by
  have _:=hch
  have HTA:=V (Lib.tabBelow_of_tabIs ht)
  have hR:Blk (((w.alloc (.cells #[.slice (some ⟨g,0,none⟩) l.length cap,.int .i64 en,.int .i64 ce] 73)).alloc (.cells #[.bool true,.bool false,.bool false] 32)).alloc (.cells #[.slice none 0 0,.int .i64 0,.int .i64 0] 73)) (w.heap.size+1+1) #[.slice none 0 0,.int .i64 0,.int .i64 0] 73:=by (repeat (first|with_reducible refine Blk.drew ?_|with_reducible refine Blk.drewN ?_ _|(with_reducible refine blk_newAt _ _ ?_;(first|omega|((repeat (first|rw[World.size_up]|rw[World.size_dr]|rw[World.size_drN]))<;>omega)))|with_reducible refine Blk.alloc ?_ _));(first|done|with_reducible assumption)
  have hb:Below w.heap.size w (((w.alloc (.cells #[.slice (some ⟨g,0,none⟩) l.length cap,.int .i64 en,.int .i64 ce] 73)).alloc (.cells #[.bool true,.bool false,.bool false] 32)).alloc (.cells #[.slice none 0 0,.int .i64 0,.int .i64 0] 73)):=by (repeat (first|with_reducible refine below_drew ?_|with_reducible refine below_drawn ?_ _|with_reducible refine below_longer ?_ _|(with_reducible refine Below.alloc ?_ ?_ _;rotate_left;(first|omega|((repeat (first|rw[World.size_up]|rw[World.size_dr]|rw[World.size_drN]))<;>omega)))));(with_reducible exact Below.refl _ _)
  have hP:Blk (((w.alloc (.cells #[.slice (some ⟨g,0,none⟩) l.length cap,.int .i64 en,.int .i64 ce] 73)).alloc (.cells #[.bool true,.bool false,.bool false] 32)).alloc (.cells #[.slice none 0 0,.int .i64 0,.int .i64 0] 73)) w.heap.size #[.slice (some ⟨g,0,none⟩) l.length cap,.int .i64 en,.int .i64 ce] 73:=by (repeat (first|with_reducible refine Blk.drew ?_|with_reducible refine Blk.drewN ?_ _|(with_reducible refine blk_newAt _ _ ?_;(first|omega|((repeat (first|rw[World.size_up]|rw[World.size_dr]|rw[World.size_drN]))<;>omega)))|with_reducible refine Blk.alloc ?_ _));(first|done|with_reducible assumption)
  have hO:Blk (((w.alloc (.cells #[.slice (some ⟨g,0,none⟩) l.length cap,.int .i64 en,.int .i64 ce] 73)).alloc (.cells #[.bool true,.bool false,.bool false] 32)).alloc (.cells #[.slice none 0 0,.int .i64 0,.int .i64 0] 73)) (w.heap.size+1) #[.bool true,.bool false,.bool false] 32:=by (repeat (first|with_reducible refine Blk.drew ?_|with_reducible refine Blk.drewN ?_ _|(with_reducible refine blk_newAt _ _ ?_;(first|omega|((repeat (first|rw[World.size_up]|rw[World.size_dr]|rw[World.size_drN]))<;>omega)))|with_reducible refine Blk.alloc ?_ _));(first|done|with_reducible assumption)
  have HST:Hid (WithSt w ce true false false (((w.alloc (.cells #[.slice (some ⟨g,0,none⟩) l.length cap,.int .i64 en,.int .i64 ce] 73)).alloc (.cells #[.bool true,.bool false,.bool false] 32)).alloc (.cells #[.slice none 0 0,.int .i64 0,.int .i64 0] 73)) (l,en) (some ⟨g,0,none⟩) cap):=⟨hP,hO,hR,ho.below hb,hb⟩
  have HPR:=V hp
  obtain⟨res,hres⟩:∃ res,withP true false false (l,en)=res:=⟨_,rfl⟩
  rw[hres]
  have HRES:=V hres
  have h1:=hP.cell
  have h2:=hP.free
  have h3:=hP.lt
  have h4:=hO.cell
  have h5:=hO.lt
  have h6:=hR.cell
  have h7:=hR.free
  have h8:=hR.lt
  clear hR hb hP hO ho hp hres ht
  go_enter Tryz.func35,Tryz.ntmps35
  go_upto_region 1 with fail
  generalize (((w.alloc (.cells #[.slice (some ⟨g,0,none⟩) l.length cap,.int .i64 en,.int .i64 ce] 73)).alloc (.cells #[.bool true,.bool false,.bool false] 32)).alloc (.cells #[.slice none 0 0,.int .i64 0,.int .i64 0] 73))=W0 at *
  clear h1 h2 h3 h4 h5 h6 h7 h8
  obtain⟨p1,hq1⟩:∃ p1,foldP (l,en)=p1:=⟨_,rfl⟩
  have q10:=(U HST).box.cell
  have q20:=(U HST).box.free
  have q30:=(U HST).box.lt
  have q40:=(U HST).opt.cell
  have q50:=(U HST).opt.lt
  have q60:=(U HST).out.cell
  have q70:=(U HST).out.free
  have q80:=(U HST).out.lt
  have HC1:Hid (Calls Tryz.prog 54 #[.agg #[.slice (some ⟨g,0,none⟩) l.length cap,.int .i64 en,.int .i64 ce]] W0 (ProgOut W0 p1 ce)):=by
    rw[← hq1]
    exact fold_any hch (some ⟨g,0,none⟩) cap en ce l _ (U HTA _ (U HST).below) (U HST).list.isIn.1 (U HPR)
  have HP1:Hid (PrOk p1):=by rw[← hq1];exact foldP_pr (U HPR)
  have HQ1:=V hq1
  clear hq1
  go_wp2_with fail
  refine (U HC1).mono ?_
  rintro e u1 ⟨a1,k1,rfl,ho,hb⟩
  have HN1:=V ((U HST).next hb (ho.base (Nat.zero_le _)))
  have b1:=((U HST).box.below hb (U HST).box.lt)
  have x11:=b1.cell
  have x21:=b1.free
  have x31:=b1.lt
  have c1:=((U HST).opt.below hb (U HST).opt.lt)
  have x41:=c1.cell
  have x51:=c1.lt
  clear ho hb b1 c1 HC1
  clear q10 q20 q30 q40 q50 q60 q70 q80
  go_upto_region 5 with fail
  generalize (((u1.setCell ⟨w.heap.size,0,none⟩ (.slice a1 p1.1.length k1)).setCell ⟨w.heap.size,1,none⟩ (.int .i64 p1.2)).setCell ⟨w.heap.size,2,none⟩ (.int .i64 ce))=v1 at *
  clear x11 x21 x31 x41 x51
  obtain⟨l1,e1⟩:=p1
  simp only at HN1 ⊢
  have q11:=(U HN1).box.cell
  have q21:=(U HN1).box.free
  have q31:=(U HN1).box.lt
  have q41:=(U HN1).opt.cell
  have q51:=(U HN1).opt.lt
  have q61:=(U HN1).out.cell
  have q71:=(U HN1).out.free
  have q81:=(U HN1).out.lt
  have hfin:res=(l1,e1):=by
    rw[← U HRES]
    rw[withP_tff,U HQ1]
  subst hfin
  have hn:(Value.slice a1 l1.length k1).ownBlock≠some (w.heap.size+1+1):=fun e=>row_not_blk (U HN1).out (U HN1).list (by decide) e
  have HF:=V (ownsRow_far (ownsRow_far (ownsRow_far (U HN1).list (a:=⟨w.heap.size+1+1,0,none⟩) hn (.slice a1 l1.length k1)) (a:=⟨w.heap.size+1+1,1,none⟩) hn (.int .i64 e1)) (a:=⟨w.heap.size+1+1,2,none⟩) hn (.int .i64 ce))
  go_wp2_with fail
  refine bodyPost_ret (results_row3 (P:=Tryz.prog) rfl _ _ (w.heap.size+1+1) 73 _ (0,0) _ rfl (triple_set (U HN1).out rfl) Tryz.underlying73 rfl Tryz.sizeProgram) rfl ?_
  exact⟨a1,k1,rfl,U HF,(((U HN1).below.setCell (by simp;omega) _).setCell (by simp;omega) _).setCell (by simp;omega) _⟩
theorem with_tft (hch : ChainedOk) (g cap en : Nat) (ce : Int) (l : List (Int × Int)) (w : World) (ht : Lib.TabIs Tryz.prog w "internal/strconv.uint64pow10" .u64 Lib.pow10Tab) (ho : OwnI 0 w (.slice (some ⟨g, 0, none⟩) l.length cap) l) (hp : PrOk (l, en)) :
    Calls Tryz.prog 35 #[.agg #[.slice (some ⟨g,0,none⟩) l.length cap,.int .i64 en,.int .i64 ce],.agg #[.bool true,.bool false,.bool true]] w (WithOut w (withP true false true (l,en)) ce):=by
  have _:=hch
  have HTA:=V (Lib.tabBelow_of_tabIs ht)
  have hR:Blk (((w.alloc (.cells #[.slice (some ⟨g,0,none⟩) l.length cap,.int .i64 en,.int .i64 ce] 73)).alloc (.cells #[.bool true,.bool false,.bool true] 32)).alloc (.cells #[.slice none 0 0,.int .i64 0,.int .i64 0] 73)) (w.heap.size+1+1) #[.slice none 0 0,.int .i64 0,.int .i64 0] 73:=by (repeat (first|with_reducible refine Blk.drew ?_|with_reducible refine Blk.drewN ?_ _|(with_reducible refine blk_newAt _ _ ?_;(first|omega|((repeat (first|rw[World.size_up]|rw[World.size_dr]|rw[World.size_drN]))<;>omega)))|with_reducible refine Blk.alloc ?_ _));(first|done|with_reducible assumption)
  have hb:Below w.heap.size w (((w.alloc (.cells #[.slice (some ⟨g,0,none⟩) l.length cap,.int .i64 en,.int .i64 ce] 73)).alloc (.cells #[.bool true,.bool false,.bool true] 32)).alloc (.cells #[.slice none 0 0,.int .i64 0,.int .i64 0] 73)):=by (repeat (first|with_reducible refine below_drew ?_|with_reducible refine below_drawn ?_ _|with_reducible refine below_longer ?_ _|(with_reducible refine Below.alloc ?_ ?_ _;rotate_left;(first|omega|((repeat (first|rw[World.size_up]|rw[World.size_dr]|rw[World.size_drN]))<;>omega)))));(with_reducible exact Below.refl _ _)
  have hP:Blk (((w.alloc (.cells #[.slice (some ⟨g,0,none⟩) l.length cap,.int .i64 en,.int .i64 ce] 73)).alloc (.cells #[.bool true,.bool false,.bool true] 32)).alloc (.cells #[.slice none 0 0,.int .i64 0,.int .i64 0] 73)) w.heap.size #[.slice (some ⟨g,0,none⟩) l.length cap,.int .i64 en,.int .i64 ce] 73:=by (repeat (first|with_reducible refine Blk.drew ?_|with_reducible refine Blk.drewN ?_ _|(with_reducible refine blk_newAt _ _ ?_;(first|omega|((repeat (first|rw[World.size_up]|rw[World.size_dr]|rw[World.size_drN]))<;>omega)))|with_reducible refine Blk.alloc ?_ _));(first|done|with_reducible assumption)
  have hO:Blk (((w.alloc (.cells #[.slice (some ⟨g,0,none⟩) l.length cap,.int .i64 en,.int .i64 ce] 73)).alloc (.cells #[.bool true,.bool false,.bool true] 32)).alloc (.cells #[.slice none 0 0,.int .i64 0,.int .i64 0] 73)) (w.heap.size+1) #[.bool true,.bool false,.bool true] 32:=by (repeat (first|with_reducible refine Blk.drew ?_|with_reducible refine Blk.drewN ?_ _|(with_reducible refine blk_newAt _ _ ?_;(first|omega|((repeat (first|rw[World.size_up]|rw[World.size_dr]|rw[World.size_drN]))<;>omega)))|with_reducible refine Blk.alloc ?_ _));(first|done|with_reducible assumption)
  have HST:Hid (WithSt w ce true false true (((w.alloc (.cells #[.slice (some ⟨g,0,none⟩) l.length cap,.int .i64 en,.int .i64 ce] 73)).alloc (.cells #[.bool true,.bool false,.bool true] 32)).alloc (.cells #[.slice none 0 0,.int .i64 0,.int .i64 0] 73)) (l,en) (some ⟨g,0,none⟩) cap):=⟨hP,hO,hR,ho.below hb,hb⟩
  have HPR:=V hp
  obtain⟨res,hres⟩:∃ res,withP true false true (l,en)=res:=⟨_,rfl⟩
  rw[hres]
  have HRES:=V hres
  have h1:=hP.cell
  have h2:=hP.free
  have h3:=hP.lt
  have h4:=hO.cell
  have h5:=hO.lt
  have h6:=hR.cell
  have h7:=hR.free
  have h8:=hR.lt
  clear hR hb hP hO ho hp hres ht
  go_enter Tryz.func35,Tryz.ntmps35
  go_upto_region 1 with fail
  generalize (((w.alloc (.cells #[.slice (some ⟨g,0,none⟩) l.length cap,.int .i64 en,.int .i64 ce] 73)).alloc (.cells #[.bool true,.bool false,.bool true] 32)).alloc (.cells #[.slice none 0 0,.int .i64 0,.int .i64 0] 73))=W0 at *
  clear h1 h2 h3 h4 h5 h6 h7 h8
  obtain⟨p1,hq1⟩:∃ p1,foldP (l,en)=p1:=⟨_,rfl⟩
  have q10:=(U HST).box.cell
  have q20:=(U HST).box.free
  have q30:=(U HST).box.lt
  have q40:=(U HST).opt.cell
  have q50:=(U HST).opt.lt
  have q60:=(U HST).out.cell
  have q70:=(U HST).out.free
  have q80:=(U HST).out.lt
  have HC1:Hid (Calls Tryz.prog 54 #[.agg #[.slice (some ⟨g,0,none⟩) l.length cap,.int .i64 en,.int .i64 ce]] W0 (ProgOut W0 p1 ce)):=by
    rw[← hq1]
    exact fold_any hch (some ⟨g,0,none⟩) cap en ce l _ (U HTA _ (U HST).below) (U HST).list.isIn.1 (U HPR)
  have HP1:Hid (PrOk p1):=by rw[← hq1];exact foldP_pr (U HPR)
  have HQ1:=V hq1
  clear hq1
  go_wp2_with fail
  refine (U HC1).mono ?_
  rintro e u1 ⟨a1,k1,rfl,ho,hb⟩
  have HN1:=V ((U HST).next hb (ho.base (Nat.zero_le _)))
  have b1:=((U HST).box.below hb (U HST).box.lt)
  have x11:=b1.cell
  have x21:=b1.free
  have x31:=b1.lt
  have c1:=((U HST).opt.below hb (U HST).opt.lt)
  have x41:=c1.cell
  have x51:=c1.lt
  clear ho hb b1 c1 HC1
  clear q10 q20 q30 q40 q50 q60 q70 q80
  go_upto_region 5 with fail
  generalize (((u1.setCell ⟨w.heap.size,0,none⟩ (.slice a1 p1.1.length k1)).setCell ⟨w.heap.size,1,none⟩ (.int .i64 p1.2)).setCell ⟨w.heap.size,2,none⟩ (.int .i64 ce))=v1 at *
  clear x11 x21 x31 x41 x51
  obtain⟨l1,e1⟩:=p1
  simp only at HN1 ⊢
  obtain⟨p2,hq2⟩:∃ p2,superP (l1,e1)=p2:=⟨_,rfl⟩
  have q11:=(U HN1).box.cell
  have q21:=(U HN1).box.free
  have q31:=(U HN1).box.lt
  have q41:=(U HN1).opt.cell
  have q51:=(U HN1).opt.lt
  have q61:=(U HN1).out.cell
  have q71:=(U HN1).out.free
  have q81:=(U HN1).out.lt
  have HC2:Hid (Calls Tryz.prog 55 #[.agg #[.slice a1 l1.length k1,.int .i64 e1,.int .i64 ce]] v1 (ProgOut v1 p2 ce)):=by
    rw[← hq2]
    exact super_any a1 k1 e1 ce l1 _ (U HN1).list.isIn.1 (U HP1)
  have HQ2:=V hq2
  clear hq2
  go_wp2_with fail
  refine (U HC2).mono ?_
  rintro e u2 ⟨a2,k2,rfl,ho,hb⟩
  have HN2:=V ((U HN1).next hb (ho.base (Nat.zero_le _)))
  have b2:=((U HN1).box.below hb (U HN1).box.lt)
  have x12:=b2.cell
  have x22:=b2.free
  have x32:=b2.lt
  have c2:=((U HN1).opt.below hb (U HN1).opt.lt)
  have x42:=c2.cell
  have x52:=c2.lt
  clear ho hb b2 c2 HC2
  clear q11 q21 q31 q41 q51 q61 q71 q81
  go_upto_region 7 with fail
  generalize (((u2.setCell ⟨w.heap.size,0,none⟩ (.slice a2 p2.1.length k2)).setCell ⟨w.heap.size,1,none⟩ (.int .i64 p2.2)).setCell ⟨w.heap.size,2,none⟩ (.int .i64 ce))=v2 at *
  clear x12 x22 x32 x42 x52
  obtain⟨l2,e2⟩:=p2
  simp only at HN2 ⊢
  have q12:=(U HN2).box.cell
  have q22:=(U HN2).box.free
  have q32:=(U HN2).box.lt
  have q42:=(U HN2).opt.cell
  have q52:=(U HN2).opt.lt
  have q62:=(U HN2).out.cell
  have q72:=(U HN2).out.free
  have q82:=(U HN2).out.lt
  have hfin:res=(l2,e2):=by
    rw[← U HRES]
    rw[withP_tft,U HQ1,U HQ2]
  subst hfin
  have hn:(Value.slice a2 l2.length k2).ownBlock≠some (w.heap.size+1+1):=fun e=>row_not_blk (U HN2).out (U HN2).list (by decide) e
  have HF:=V (ownsRow_far (ownsRow_far (ownsRow_far (U HN2).list (a:=⟨w.heap.size+1+1,0,none⟩) hn (.slice a2 l2.length k2)) (a:=⟨w.heap.size+1+1,1,none⟩) hn (.int .i64 e2)) (a:=⟨w.heap.size+1+1,2,none⟩) hn (.int .i64 ce))
  go_wp2_with fail
  refine bodyPost_ret (results_row3 (P:=Tryz.prog) rfl _ _ (w.heap.size+1+1) 73 _ (0,0) _ rfl (triple_set (U HN2).out rfl) Tryz.underlying73 rfl Tryz.sizeProgram) rfl ?_
  exact⟨a2,k2,rfl,U HF,(((U HN2).below.setCell (by simp;omega) _).setCell (by simp;omega) _).setCell (by simp;omega) _⟩
theorem with_ttf (hch : ChainedOk) (g cap en : Nat) (ce : Int) (l : List (Int × Int)) (w : World) (ht : Lib.TabIs Tryz.prog w "internal/strconv.uint64pow10" .u64 Lib.pow10Tab) (ho : OwnI 0 w (.slice (some ⟨g, 0, none⟩) l.length cap) l) (hp : PrOk (l, en)) :
    Calls Tryz.prog 35 #[.agg #[.slice (some ⟨g,0,none⟩) l.length cap,.int .i64 en,.int .i64 ce],.agg #[.bool true,.bool true,.bool false]] w (WithOut w (withP true true false (l,en)) ce):=by
  have _:=hch
  have HTA:=V (Lib.tabBelow_of_tabIs ht)
  have hR:Blk (((w.alloc (.cells #[.slice (some ⟨g,0,none⟩) l.length cap,.int .i64 en,.int .i64 ce] 73)).alloc (.cells #[.bool true,.bool true,.bool false] 32)).alloc (.cells #[.slice none 0 0,.int .i64 0,.int .i64 0] 73)) (w.heap.size+1+1) #[.slice none 0 0,.int .i64 0,.int .i64 0] 73:=by (repeat (first|with_reducible refine Blk.drew ?_|with_reducible refine Blk.drewN ?_ _|(with_reducible refine blk_newAt _ _ ?_;(first|omega|((repeat (first|rw[World.size_up]|rw[World.size_dr]|rw[World.size_drN]))<;>omega)))|with_reducible refine Blk.alloc ?_ _));(first|done|with_reducible assumption)
  have hb:Below w.heap.size w (((w.alloc (.cells #[.slice (some ⟨g,0,none⟩) l.length cap,.int .i64 en,.int .i64 ce] 73)).alloc (.cells #[.bool true,.bool true,.bool false] 32)).alloc (.cells #[.slice none 0 0,.int .i64 0,.int .i64 0] 73)):=by (repeat (first|with_reducible refine below_drew ?_|with_reducible refine below_drawn ?_ _|with_reducible refine below_longer ?_ _|(with_reducible refine Below.alloc ?_ ?_ _;rotate_left;(first|omega|((repeat (first|rw[World.size_up]|rw[World.size_dr]|rw[World.size_drN]))<;>omega)))));(with_reducible exact Below.refl _ _)
  have hP:Blk (((w.alloc (.cells #[.slice (some ⟨g,0,none⟩) l.length cap,.int .i64 en,.int .i64 ce] 73)).alloc (.cells #[.bool true,.bool true,.bool false] 32)).alloc (.cells #[.slice none 0 0,.int .i64 0,.int .i64 0] 73)) w.heap.size #[.slice (some ⟨g,0,none⟩) l.length cap,.int .i64 en,.int .i64 ce] 73:=by (repeat (first|with_reducible refine Blk.drew ?_|with_reducible refine Blk.drewN ?_ _|(with_reducible refine blk_newAt _ _ ?_;(first|omega|((repeat (first|rw[World.size_up]|rw[World.size_dr]|rw[World.size_drN]))<;>omega)))|with_reducible refine Blk.alloc ?_ _));(first|done|with_reducible assumption)
  have hO:Blk (((w.alloc (.cells #[.slice (some ⟨g,0,none⟩) l.length cap,.int .i64 en,.int .i64 ce] 73)).alloc (.cells #[.bool true,.bool true,.bool false] 32)).alloc (.cells #[.slice none 0 0,.int .i64 0,.int .i64 0] 73)) (w.heap.size+1) #[.bool true,.bool true,.bool false] 32:=by (repeat (first|with_reducible refine Blk.drew ?_|with_reducible refine Blk.drewN ?_ _|(with_reducible refine blk_newAt _ _ ?_;(first|omega|((repeat (first|rw[World.size_up]|rw[World.size_dr]|rw[World.size_drN]))<;>omega)))|with_reducible refine Blk.alloc ?_ _));(first|done|with_reducible assumption)
  have HST:Hid (WithSt w ce true true false (((w.alloc (.cells #[.slice (some ⟨g,0,none⟩) l.length cap,.int .i64 en,.int .i64 ce] 73)).alloc (.cells #[.bool true,.bool true,.bool false] 32)).alloc (.cells #[.slice none 0 0,.int .i64 0,.int .i64 0] 73)) (l,en) (some ⟨g,0,none⟩) cap):=⟨hP,hO,hR,ho.below hb,hb⟩
  have HPR:=V hp
  obtain⟨res,hres⟩:∃ res,withP true true false (l,en)=res:=⟨_,rfl⟩
  rw[hres]
  have HRES:=V hres
  have h1:=hP.cell
  have h2:=hP.free
  have h3:=hP.lt
  have h4:=hO.cell
  have h5:=hO.lt
  have h6:=hR.cell
  have h7:=hR.free
  have h8:=hR.lt
  clear hR hb hP hO ho hp hres ht
  go_enter Tryz.func35,Tryz.ntmps35
  go_upto_region 1 with fail
  generalize (((w.alloc (.cells #[.slice (some ⟨g,0,none⟩) l.length cap,.int .i64 en,.int .i64 ce] 73)).alloc (.cells #[.bool true,.bool true,.bool false] 32)).alloc (.cells #[.slice none 0 0,.int .i64 0,.int .i64 0] 73))=W0 at *
  clear h1 h2 h3 h4 h5 h6 h7 h8
  obtain⟨p1,hq1⟩:∃ p1,tailP (l,en)=p1:=⟨_,rfl⟩
  have q10:=(U HST).box.cell
  have q20:=(U HST).box.free
  have q30:=(U HST).box.lt
  have q40:=(U HST).opt.cell
  have q50:=(U HST).opt.lt
  have q60:=(U HST).out.cell
  have q70:=(U HST).out.free
  have q80:=(U HST).out.lt
  have HC1:Hid (Calls Tryz.prog 53 #[.agg #[.slice (some ⟨g,0,none⟩) l.length cap,.int .i64 en,.int .i64 ce]] W0 (ProgOut W0 p1 ce)):=by
    rw[← hq1]
    exact tail_out g cap en ce l _ (U HST).list (U HPR)
  have HP1:Hid (PrOk p1):=by rw[← hq1];exact tail_pr (U HPR)
  have HQ1:=V hq1
  clear hq1
  go_wp2_with fail
  refine (U HC1).mono ?_
  rintro e u1 ⟨a1,k1,rfl,ho,hb⟩
  have HN1:=V ((U HST).next hb (ho.base (Nat.zero_le _)))
  have b1:=((U HST).box.below hb (U HST).box.lt)
  have x11:=b1.cell
  have x21:=b1.free
  have x31:=b1.lt
  have c1:=((U HST).opt.below hb (U HST).opt.lt)
  have x41:=c1.cell
  have x51:=c1.lt
  clear ho hb b1 c1 HC1
  clear q10 q20 q30 q40 q50 q60 q70 q80
  go_upto_region 3 with fail
  generalize (((u1.setCell ⟨w.heap.size,0,none⟩ (.slice a1 p1.1.length k1)).setCell ⟨w.heap.size,1,none⟩ (.int .i64 p1.2)).setCell ⟨w.heap.size,2,none⟩ (.int .i64 ce))=v1 at *
  clear x11 x21 x31 x41 x51
  obtain⟨l1,e1⟩:=p1
  simp only at HN1 ⊢
  obtain⟨p2,hq2⟩:∃ p2,foldP (l1,e1)=p2:=⟨_,rfl⟩
  have q11:=(U HN1).box.cell
  have q21:=(U HN1).box.free
  have q31:=(U HN1).box.lt
  have q41:=(U HN1).opt.cell
  have q51:=(U HN1).opt.lt
  have q61:=(U HN1).out.cell
  have q71:=(U HN1).out.free
  have q81:=(U HN1).out.lt
  have HC2:Hid (Calls Tryz.prog 54 #[.agg #[.slice a1 l1.length k1,.int .i64 e1,.int .i64 ce]] v1 (ProgOut v1 p2 ce)):=by
    rw[← hq2]
    exact fold_any hch a1 k1 e1 ce l1 _ (U HTA _ (U HN1).below) (U HN1).list.isIn.1 (U HP1)
  have HP2:Hid (PrOk p2):=by rw[← hq2];exact foldP_pr (U HP1)
  have HQ2:=V hq2
  clear hq2
  go_wp2_with fail
  refine (U HC2).mono ?_
  rintro e u2 ⟨a2,k2,rfl,ho,hb⟩
  have HN2:=V ((U HN1).next hb (ho.base (Nat.zero_le _)))
  have b2:=((U HN1).box.below hb (U HN1).box.lt)
  have x12:=b2.cell
  have x22:=b2.free
  have x32:=b2.lt
  have c2:=((U HN1).opt.below hb (U HN1).opt.lt)
  have x42:=c2.cell
  have x52:=c2.lt
  clear ho hb b2 c2 HC2
  clear q11 q21 q31 q41 q51 q61 q71 q81
  go_upto_region 5 with fail
  generalize (((u2.setCell ⟨w.heap.size,0,none⟩ (.slice a2 p2.1.length k2)).setCell ⟨w.heap.size,1,none⟩ (.int .i64 p2.2)).setCell ⟨w.heap.size,2,none⟩ (.int .i64 ce))=v2 at *
  clear x12 x22 x32 x42 x52
  obtain⟨l2,e2⟩:=p2
  simp only at HN2 ⊢
  have q12:=(U HN2).box.cell
  have q22:=(U HN2).box.free
  have q32:=(U HN2).box.lt
  have q42:=(U HN2).opt.cell
  have q52:=(U HN2).opt.lt
  have q62:=(U HN2).out.cell
  have q72:=(U HN2).out.free
  have q82:=(U HN2).out.lt
  have hfin:res=(l2,e2):=by
    rw[← U HRES]
    rw[withP_ttf,U HQ1,U HQ2]
  subst hfin
  have hn:(Value.slice a2 l2.length k2).ownBlock≠some (w.heap.size+1+1):=fun e=>row_not_blk (U HN2).out (U HN2).list (by decide) e
  have HF:=V (ownsRow_far (ownsRow_far (ownsRow_far (U HN2).list (a:=⟨w.heap.size+1+1,0,none⟩) hn (.slice a2 l2.length k2)) (a:=⟨w.heap.size+1+1,1,none⟩) hn (.int .i64 e2)) (a:=⟨w.heap.size+1+1,2,none⟩) hn (.int .i64 ce))
  go_wp2_with fail
  refine bodyPost_ret (results_row3 (P:=Tryz.prog) rfl _ _ (w.heap.size+1+1) 73 _ (0,0) _ rfl (triple_set (U HN2).out rfl) Tryz.underlying73 rfl Tryz.sizeProgram) rfl ?_
  exact⟨a2,k2,rfl,U HF,(((U HN2).below.setCell (by simp;omega) _).setCell (by simp;omega) _).setCell (by simp;omega) _⟩
theorem with_ttt (hch : ChainedOk) (g cap en : Nat) (ce : Int) (l : List (Int × Int)) (w : World) (ht : Lib.TabIs Tryz.prog w "internal/strconv.uint64pow10" .u64 Lib.pow10Tab) (ho : OwnI 0 w (.slice (some ⟨g, 0, none⟩) l.length cap) l) (hp : PrOk (l, en)) :
    Calls Tryz.prog 35 #[.agg #[.slice (some ⟨g,0,none⟩) l.length cap,.int .i64 en,.int .i64 ce],.agg #[.bool true,.bool true,.bool true]] w (WithOut w (withP true true true (l,en)) ce):=by
  have _:=hch
  have HTA:=V (Lib.tabBelow_of_tabIs ht)
  have hR:Blk (((w.alloc (.cells #[.slice (some ⟨g,0,none⟩) l.length cap,.int .i64 en,.int .i64 ce] 73)).alloc (.cells #[.bool true,.bool true,.bool true] 32)).alloc (.cells #[.slice none 0 0,.int .i64 0,.int .i64 0] 73)) (w.heap.size+1+1) #[.slice none 0 0,.int .i64 0,.int .i64 0] 73:=by (repeat (first|with_reducible refine Blk.drew ?_|with_reducible refine Blk.drewN ?_ _|(with_reducible refine blk_newAt _ _ ?_;(first|omega|((repeat (first|rw[World.size_up]|rw[World.size_dr]|rw[World.size_drN]))<;>omega)))|with_reducible refine Blk.alloc ?_ _));(first|done|with_reducible assumption)
  have hb:Below w.heap.size w (((w.alloc (.cells #[.slice (some ⟨g,0,none⟩) l.length cap,.int .i64 en,.int .i64 ce] 73)).alloc (.cells #[.bool true,.bool true,.bool true] 32)).alloc (.cells #[.slice none 0 0,.int .i64 0,.int .i64 0] 73)):=by (repeat (first|with_reducible refine below_drew ?_|with_reducible refine below_drawn ?_ _|with_reducible refine below_longer ?_ _|(with_reducible refine Below.alloc ?_ ?_ _;rotate_left;(first|omega|((repeat (first|rw[World.size_up]|rw[World.size_dr]|rw[World.size_drN]))<;>omega)))));(with_reducible exact Below.refl _ _)
  have hP:Blk (((w.alloc (.cells #[.slice (some ⟨g,0,none⟩) l.length cap,.int .i64 en,.int .i64 ce] 73)).alloc (.cells #[.bool true,.bool true,.bool true] 32)).alloc (.cells #[.slice none 0 0,.int .i64 0,.int .i64 0] 73)) w.heap.size #[.slice (some ⟨g,0,none⟩) l.length cap,.int .i64 en,.int .i64 ce] 73:=by (repeat (first|with_reducible refine Blk.drew ?_|with_reducible refine Blk.drewN ?_ _|(with_reducible refine blk_newAt _ _ ?_;(first|omega|((repeat (first|rw[World.size_up]|rw[World.size_dr]|rw[World.size_drN]))<;>omega)))|with_reducible refine Blk.alloc ?_ _));(first|done|with_reducible assumption)
  have hO:Blk (((w.alloc (.cells #[.slice (some ⟨g,0,none⟩) l.length cap,.int .i64 en,.int .i64 ce] 73)).alloc (.cells #[.bool true,.bool true,.bool true] 32)).alloc (.cells #[.slice none 0 0,.int .i64 0,.int .i64 0] 73)) (w.heap.size+1) #[.bool true,.bool true,.bool true] 32:=by (repeat (first|with_reducible refine Blk.drew ?_|with_reducible refine Blk.drewN ?_ _|(with_reducible refine blk_newAt _ _ ?_;(first|omega|((repeat (first|rw[World.size_up]|rw[World.size_dr]|rw[World.size_drN]))<;>omega)))|with_reducible refine Blk.alloc ?_ _));(first|done|with_reducible assumption)
  have HST:Hid (WithSt w ce true true true (((w.alloc (.cells #[.slice (some ⟨g,0,none⟩) l.length cap,.int .i64 en,.int .i64 ce] 73)).alloc (.cells #[.bool true,.bool true,.bool true] 32)).alloc (.cells #[.slice none 0 0,.int .i64 0,.int .i64 0] 73)) (l,en) (some ⟨g,0,none⟩) cap):=⟨hP,hO,hR,ho.below hb,hb⟩
  have HPR:=V hp
  obtain⟨res,hres⟩:∃ res,withP true true true (l,en)=res:=⟨_,rfl⟩
  rw[hres]
  have HRES:=V hres
  have h1:=hP.cell
  have h2:=hP.free
  have h3:=hP.lt
  have h4:=hO.cell
  have h5:=hO.lt
  have h6:=hR.cell
  have h7:=hR.free
  have h8:=hR.lt
  clear hR hb hP hO ho hp hres ht
  go_enter Tryz.func35,Tryz.ntmps35
  go_upto_region 1 with fail
  generalize (((w.alloc (.cells #[.slice (some ⟨g,0,none⟩) l.length cap,.int .i64 en,.int .i64 ce] 73)).alloc (.cells #[.bool true,.bool true,.bool true] 32)).alloc (.cells #[.slice none 0 0,.int .i64 0,.int .i64 0] 73))=W0 at *
  clear h1 h2 h3 h4 h5 h6 h7 h8
  obtain⟨p1,hq1⟩:∃ p1,tailP (l,en)=p1:=⟨_,rfl⟩
  have q10:=(U HST).box.cell
  have q20:=(U HST).box.free
  have q30:=(U HST).box.lt
  have q40:=(U HST).opt.cell
  have q50:=(U HST).opt.lt
  have q60:=(U HST).out.cell
  have q70:=(U HST).out.free
  have q80:=(U HST).out.lt
  have HC1:Hid (Calls Tryz.prog 53 #[.agg #[.slice (some ⟨g,0,none⟩) l.length cap,.int .i64 en,.int .i64 ce]] W0 (ProgOut W0 p1 ce)):=by
    rw[← hq1]
    exact tail_out g cap en ce l _ (U HST).list (U HPR)
  have HP1:Hid (PrOk p1):=by rw[← hq1];exact tail_pr (U HPR)
  have HQ1:=V hq1
  clear hq1
  go_wp2_with fail
  refine (U HC1).mono ?_
  rintro e u1 ⟨a1,k1,rfl,ho,hb⟩
  have HN1:=V ((U HST).next hb (ho.base (Nat.zero_le _)))
  have b1:=((U HST).box.below hb (U HST).box.lt)
  have x11:=b1.cell
  have x21:=b1.free
  have x31:=b1.lt
  have c1:=((U HST).opt.below hb (U HST).opt.lt)
  have x41:=c1.cell
  have x51:=c1.lt
  clear ho hb b1 c1 HC1
  clear q10 q20 q30 q40 q50 q60 q70 q80
  go_upto_region 3 with fail
  generalize (((u1.setCell ⟨w.heap.size,0,none⟩ (.slice a1 p1.1.length k1)).setCell ⟨w.heap.size,1,none⟩ (.int .i64 p1.2)).setCell ⟨w.heap.size,2,none⟩ (.int .i64 ce))=v1 at *
  clear x11 x21 x31 x41 x51
  obtain⟨l1,e1⟩:=p1
  simp only at HN1 ⊢
  obtain⟨p2,hq2⟩:∃ p2,foldP (l1,e1)=p2:=⟨_,rfl⟩
  have q11:=(U HN1).box.cell
  have q21:=(U HN1).box.free
  have q31:=(U HN1).box.lt
  have q41:=(U HN1).opt.cell
  have q51:=(U HN1).opt.lt
  have q61:=(U HN1).out.cell
  have q71:=(U HN1).out.free
  have q81:=(U HN1).out.lt
  have HC2:Hid (Calls Tryz.prog 54 #[.agg #[.slice a1 l1.length k1,.int .i64 e1,.int .i64 ce]] v1 (ProgOut v1 p2 ce)):=by
    rw[← hq2]
    exact fold_any hch a1 k1 e1 ce l1 _ (U HTA _ (U HN1).below) (U HN1).list.isIn.1 (U HP1)
  have HP2:Hid (PrOk p2):=by rw[← hq2];exact foldP_pr (U HP1)
  have HQ2:=V hq2
  clear hq2
  go_wp2_with fail
  refine (U HC2).mono ?_
  rintro e u2 ⟨a2,k2,rfl,ho,hb⟩
  have HN2:=V ((U HN1).next hb (ho.base (Nat.zero_le _)))
  have b2:=((U HN1).box.below hb (U HN1).box.lt)
  have x12:=b2.cell
  have x22:=b2.free
  have x32:=b2.lt
  have c2:=((U HN1).opt.below hb (U HN1).opt.lt)
  have x42:=c2.cell
  have x52:=c2.lt
  clear ho hb b2 c2 HC2
  clear q11 q21 q31 q41 q51 q61 q71 q81
  go_upto_region 5 with fail
  generalize (((u2.setCell ⟨w.heap.size,0,none⟩ (.slice a2 p2.1.length k2)).setCell ⟨w.heap.size,1,none⟩ (.int .i64 p2.2)).setCell ⟨w.heap.size,2,none⟩ (.int .i64 ce))=v2 at *
  clear x12 x22 x32 x42 x52
  obtain⟨l2,e2⟩:=p2
  simp only at HN2 ⊢
  obtain⟨p3,hq3⟩:∃ p3,superP (l2,e2)=p3:=⟨_,rfl⟩
  have q12:=(U HN2).box.cell
  have q22:=(U HN2).box.free
  have q32:=(U HN2).box.lt
  have q42:=(U HN2).opt.cell
  have q52:=(U HN2).opt.lt
  have q62:=(U HN2).out.cell
  have q72:=(U HN2).out.free
  have q82:=(U HN2).out.lt
  have HC3:Hid (Calls Tryz.prog 55 #[.agg #[.slice a2 l2.length k2,.int .i64 e2,.int .i64 ce]] v2 (ProgOut v2 p3 ce)):=by
    rw[← hq3]
    exact super_any a2 k2 e2 ce l2 _ (U HN2).list.isIn.1 (U HP2)
  have HQ3:=V hq3
  clear hq3
  go_wp2_with fail
  refine (U HC3).mono ?_
  rintro e u3 ⟨a3,k3,rfl,ho,hb⟩
  have HN3:=V ((U HN2).next hb (ho.base (Nat.zero_le _)))
  have b3:=((U HN2).box.below hb (U HN2).box.lt)
  have x13:=b3.cell
  have x23:=b3.free
  have x33:=b3.lt
  have c3:=((U HN2).opt.below hb (U HN2).opt.lt)
  have x43:=c3.cell
  have x53:=c3.lt
  clear ho hb b3 c3 HC3
  clear q12 q22 q32 q42 q52 q62 q72 q82
  go_upto_region 7 with fail
  generalize (((u3.setCell ⟨w.heap.size,0,none⟩ (.slice a3 p3.1.length k3)).setCell ⟨w.heap.size,1,none⟩ (.int .i64 p3.2)).setCell ⟨w.heap.size,2,none⟩ (.int .i64 ce))=v3 at *
  clear x13 x23 x33 x43 x53
  obtain⟨l3,e3⟩:=p3
  simp only at HN3 ⊢
  have q13:=(U HN3).box.cell
  have q23:=(U HN3).box.free
  have q33:=(U HN3).box.lt
  have q43:=(U HN3).opt.cell
  have q53:=(U HN3).opt.lt
  have q63:=(U HN3).out.cell
  have q73:=(U HN3).out.free
  have q83:=(U HN3).out.lt
  have hfin:res=(l3,e3):=by
    rw[← U HRES]
    rw[withP_ttt,U HQ1,U HQ2,U HQ3]
  subst hfin
  have hn:(Value.slice a3 l3.length k3).ownBlock≠some (w.heap.size+1+1):=fun e=>row_not_blk (U HN3).out (U HN3).list (by decide) e
  have HF:=V (ownsRow_far (ownsRow_far (ownsRow_far (U HN3).list (a:=⟨w.heap.size+1+1,0,none⟩) hn (.slice a3 l3.length k3)) (a:=⟨w.heap.size+1+1,1,none⟩) hn (.int .i64 e3)) (a:=⟨w.heap.size+1+1,2,none⟩) hn (.int .i64 ce))
  go_wp2_with fail
  refine bodyPost_ret (results_row3 (P:=Tryz.prog) rfl _ _ (w.heap.size+1+1) 73 _ (0,0) _ rfl (triple_set (U HN3).out rfl) Tryz.underlying73 rfl Tryz.sizeProgram) rfl ?_
  exact⟨a3,k3,rfl,U HF,(((U HN3).below.setCell (by simp;omega) _).setCell (by simp;omega) _).setCell (by simp;omega) _⟩
theorem with_any (hch : ChainedOk) (f t s : Bool) (g cap en : Nat) (ce : Int) (l : List (Int × Int)) (w : World) (ht : Lib.TabIs Tryz.prog w "internal/strconv.uint64pow10" .u64 Lib.pow10Tab) (ho : OwnI 0 w (.slice (some ⟨g, 0, none⟩) l.length cap) l) (hp : PrOk (l, en)) :
    Calls Tryz.prog 35 #[.agg #[.slice (some ⟨g,0,none⟩) l.length cap,.int .i64 en,.int .i64 ce],.agg #[.bool f,.bool t,.bool s]] w (WithOut w (withP f t s (l,en)) ce):=by
  cases f<;>cases t<;>cases s
  · exact with_fff hch g cap en ce l w ht ho hp
  · exact with_fft hch g cap en ce l w ht ho hp
  · exact with_ftf hch g cap en ce l w ht ho hp
  · exact with_ftt hch g cap en ce l w ht ho hp
  · exact with_tff hch g cap en ce l w ht ho hp
  · exact with_tft hch g cap en ce l w ht ho hp
  · exact with_ttf hch g cap en ce l w ht ho hp
  · exact with_ttt hch g cap en ce l w ht ho hp
end Go.Proofs.YtmeiikjpaepogaaGreatDoor
