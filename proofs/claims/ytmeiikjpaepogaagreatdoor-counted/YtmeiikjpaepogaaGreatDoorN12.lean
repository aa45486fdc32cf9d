/- The program's compiler: openWhile. -/
import Derived.Test.YtmeiikjpaepogaaGreatDoorN10
import Derived.Deep.CutRange
import Derived.Test.YtmeiikjpaepogaaGreatDoorN11
import Derived.Test.YtmeiikjpaepogaaGreatDoorN01
import Derived.Lib.ParseIntBCases
set_option maxRecDepth 100000
set_option maxHeartbeats 4000000
namespace Go.Proofs.YtmeiikjpaepogaaGreatDoor
open Go Go.RowKit
theorem openWhile_any (B:Nat) (x:CX) (st:RS) (w:World) (h:CpE B w x st) (s:Int) (hlen:hereS st<4000) (hop:st.opens.length<3980) :
    Calls Tryz.prog 191 #[.pointer (some ⟨x.b,0,none⟩),.int .i64 s] w fun e w'=>e=.returned (.tuple #[])∧CpE B w' x (openS (putS st 2 0) (⟨#[119,104,105,108,101]⟩,s,hereS st))∧BoxStill w w'∧Below B w w':=by
  obtain⟨fw,fo,h⟩:=h.f
  have hb0:Below w.heap.size w ((w.alloc (.cells #[.pointer (some ⟨x.b,0,none⟩)] 91)).alloc (.cells #[.int .i64 s] 2)):=by (repeat (first|with_reducible refine below_drew ?_|with_reducible refine below_drawn ?_ _|with_reducible refine below_longer ?_ _|(with_reducible refine Below.alloc ?_ ?_ _;rotate_left;(first|omega|((repeat (first|rw[World.size_up]|rw[World.size_dr]|rw[World.size_drN]))<;>omega)))));(with_reducible exact Below.refl _ _)
  have hcb:Blk ((w.alloc (.cells #[.pointer (some ⟨x.b,0,none⟩)] 91)).alloc (.cells #[.int .i64 s] 2)) w.heap.size #[.pointer (some ⟨x.b,0,none⟩)] 91:=by (repeat (first|with_reducible refine Blk.drew ?_|with_reducible refine Blk.drewN ?_ _|(with_reducible refine blk_newAt _ _ ?_;(first|omega|((repeat (first|rw[World.size_up]|rw[World.size_dr]|rw[World.size_drN]))<;>omega)))|with_reducible refine Blk.alloc ?_ _));(first|done|with_reducible assumption)
  have hsb:Blk ((w.alloc (.cells #[.pointer (some ⟨x.b,0,none⟩)] 91)).alloc (.cells #[.int .i64 s] 2)) (w.heap.size+1) #[.int .i64 s] 2:=by (repeat (first|with_reducible refine Blk.drew ?_|with_reducible refine Blk.drewN ?_ _|(with_reducible refine blk_newAt _ _ ?_;(first|omega|((repeat (first|rw[World.size_up]|rw[World.size_dr]|rw[World.size_drN]))<;>omega)))|with_reducible refine Blk.alloc ?_ _));(first|done|with_reducible assumption)
  have h0:=h.below hb0
  have hB:=h.size
  obtain⟨s0,vo,hblk⟩:=h0.blk
  have hc:=hblk.cell
  have hxl:=h.size0
  have hxa0:x.b<w.heap.size:=by omega
  have hxb0:x.b≤w.heap.size:=by omega
  have hxa1:x.b<w.heap.size+1:=by omega
  have hxb1:x.b≤w.heap.size+1:=by omega
  have hxa2:x.b<w.heap.size+1+1:=by omega
  have hxb2:x.b≤w.heap.size+1+1:=by omega
  have hxa3:x.b<w.heap.size+1+1+1:=by omega
  have hxb3:x.b≤w.heap.size+1+1+1:=by omega
  have hxa4:x.b<w.heap.size+1+1+1+1:=by omega
  have hxb4:x.b≤w.heap.size+1+1+1+1:=by omega
  have hxa5:x.b<w.heap.size+1+1+1+1+1:=by omega
  have hxb5:x.b≤w.heap.size+1+1+1+1+1:=by omega
  unfold cpArr at hc
  have HADD:=V (addW B x st _ fw fo h0 2 0 hlen)
  have H0:=V h0
  have hsz:((w.alloc (.cells #[.pointer (some ⟨x.b,0,none⟩)] 91)).alloc (.cells #[.int .i64 s] 2)).heap.size=w.heap.size+1+1:=by simp
  have hcc:=hcb.cell
  have HCB:=V hcb
  have HB0:=V hb0
  have HSB:=V hsb
  clear hsb
  clear hblk hcb hb0 h h0
  generalize hhx:hereX x st=hx at *
  have HHX:=V hhx
  clear hhx
  go_enter Tryz.func191,Tryz.ntmps191
  go_wp2_with fail
  generalize (w.alloc (.cells #[.pointer (some ⟨x.b,0,none⟩)] 91)).alloc (.cells #[.int .i64 s] 2)=W0 at *
  go_cut [4] from 5 to 16 (fun s4 wc=>Boxed B W0 x (putS st 2 0) fw fo (hereS st) s4 wc)
  case first =>
    go_region_law (first
      | (refine step_call rfl 51 #[.const (.int .i64 2)] #[3] rfl Tryz.func51 Tryz.name51 Tryz.body51 #[.int .i64 2] (by first|(simp[Act.eval];done)|rfl) (plainI_any 2 _) ?_;rintro e w1 ⟨rfl,rfl⟩;refine⟨_,rfl,?_⟩)
      | (refine step_call rfl 50 #[.tmp 8,.tmp 10] #[96,33] rfl Tryz.func50 Tryz.name50 Tryz.body50 #[.pointer (some ⟨hx,0,none⟩),.slice (some ⟨w.heap.size+1+1+1+1,0,none⟩) 1 1] (by first|(simp[Act.eval];done)|rfl) (U HADD _ (w.heap.size+1+1+1+1) (by (repeat (first|with_reducible refine below_drew ?_|with_reducible refine below_drawn ?_ _|with_reducible refine below_longer ?_ _|(with_reducible refine Below.alloc ?_ ?_ _;rotate_left;(first|omega|((repeat (first|rw[World.size_up]|rw[World.size_dr]|rw[World.size_drN]))<;>omega)))));(with_reducible exact Below.refl _ _)) (by (repeat (first|with_reducible refine Blk.drew ?_|with_reducible refine Blk.drewN ?_ _|(with_reducible refine blk_newAt _ _ ?_;(first|omega|((repeat (first|rw[World.size_up]|rw[World.size_dr]|rw[World.size_drN]))<;>omega)))|with_reducible refine Blk.alloc ?_ _));(first|done|with_reducible assumption))) ?_;rintro e w1 ⟨rfl,h2,h1⟩;refine⟨_,rfl,?_⟩;have hjb:Blk w1 (w.heap.size+1+1) #[.int .i64 0] 2:=h2 _ _ _ (by (repeat (first|with_reducible refine Blk.drew ?_|with_reducible refine Blk.drewN ?_ _|(with_reducible refine blk_newAt _ _ ?_;(first|omega|((repeat (first|rw[World.size_up]|rw[World.size_dr]|rw[World.size_drN]))<;>omega)))|with_reducible refine Blk.alloc ?_ _));(first|done|with_reducible assumption)) (Or.inr (Or.inl rfl));have hcj:=hjb.cell;have hfj:=hjb.free;have HJ:=V hjb;clear hjb;have H1:=V h1;clear h1 h2)
      | (refine step_call rfl 50 #[.tmp 8,.tmp 10] #[96,33] rfl Tryz.func50 Tryz.name50 Tryz.body50 #[.pointer (some ⟨hx,0,none⟩),.slice (some ⟨w.heap.size+1+1+1+1,0,none⟩) 1 1] (by first|(simp[Act.eval];done)|rfl) (U HADD _ (w.heap.size+1+1+1+1) (by (repeat (first|with_reducible refine below_drew ?_|with_reducible refine below_drawn ?_ _|with_reducible refine below_longer ?_ _|(with_reducible refine Below.alloc ?_ ?_ _;rotate_left;(first|omega|((repeat (first|rw[World.size_up]|rw[World.size_dr]|rw[World.size_drN]))<;>omega)))));(with_reducible exact Below.refl _ _)) (by (repeat (first|with_reducible refine Blk.drew ?_|with_reducible refine Blk.drewN ?_ _|(with_reducible refine blk_newAt _ _ ?_;(first|omega|((repeat (first|rw[World.size_up]|rw[World.size_dr]|rw[World.size_drN]))<;>omega)))|with_reducible refine Blk.alloc ?_ _));(first|done|with_reducible assumption))) ?_;rintro e w1 ⟨rfl,h2,h1⟩;refine⟨_,rfl,?_⟩;have hjb:Blk w1 (w.heap.size+1+1+1) #[.int .i64 0] 2:=h2 _ _ _ (by (repeat (first|with_reducible refine Blk.drew ?_|with_reducible refine Blk.drewN ?_ _|(with_reducible refine blk_newAt _ _ ?_;(first|omega|((repeat (first|rw[World.size_up]|rw[World.size_dr]|rw[World.size_drN]))<;>omega)))|with_reducible refine Blk.alloc ?_ _));(first|done|with_reducible assumption)) (Or.inr (Or.inl rfl));have hcj:=hjb.cell;have hfj:=hjb.free;have HJ:=V hjb;clear hjb;have H1:=V h1;clear h1 h2)
      | (refine step_call rfl 50 #[.tmp 8,.tmp 10] #[96,33] rfl Tryz.func50 Tryz.name50 Tryz.body50 #[.pointer (some ⟨hx,0,none⟩),.slice (some ⟨w.heap.size+1+1+1,0,none⟩) 1 1] (by first|(simp[Act.eval];done)|rfl) (U HADD _ (w.heap.size+1+1+1) (by (repeat (first|with_reducible refine below_drew ?_|with_reducible refine below_drawn ?_ _|with_reducible refine below_longer ?_ _|(with_reducible refine Below.alloc ?_ ?_ _;rotate_left;(first|omega|((repeat (first|rw[World.size_up]|rw[World.size_dr]|rw[World.size_drN]))<;>omega)))));(with_reducible exact Below.refl _ _)) (by (repeat (first|with_reducible refine Blk.drew ?_|with_reducible refine Blk.drewN ?_ _|(with_reducible refine blk_newAt _ _ ?_;(first|omega|((repeat (first|rw[World.size_up]|rw[World.size_dr]|rw[World.size_drN]))<;>omega)))|with_reducible refine Blk.alloc ?_ _));(first|done|with_reducible assumption))) ?_;rintro e w1 ⟨rfl,h2,h1⟩;refine⟨_,rfl,?_⟩;have hjb:Blk w1 (w.heap.size+1+1+1+1) #[.int .i64 0] 2:=h2 _ _ _ (by (repeat (first|with_reducible refine Blk.drew ?_|with_reducible refine Blk.drewN ?_ _|(with_reducible refine blk_newAt _ _ ?_;(first|omega|((repeat (first|rw[World.size_up]|rw[World.size_dr]|rw[World.size_drN]))<;>omega)))|with_reducible refine Blk.alloc ?_ _));(first|done|with_reducible assumption)) (Or.inr (Or.inl rfl));have hcj:=hjb.cell;have hfj:=hjb.free;have HJ:=V hjb;clear hjb;have H1:=V h1;clear h1 h2)
      | (refine step_call rfl 50 #[.tmp 8,.tmp 10] #[96,33] rfl Tryz.func50 Tryz.name50 Tryz.body50 #[.pointer (some ⟨hx,0,none⟩),.slice (some ⟨w.heap.size+1+1+1,0,none⟩) 1 1] (by first|(simp[Act.eval];done)|rfl) (U HADD _ (w.heap.size+1+1+1) (by (repeat (first|with_reducible refine below_drew ?_|with_reducible refine below_drawn ?_ _|with_reducible refine below_longer ?_ _|(with_reducible refine Below.alloc ?_ ?_ _;rotate_left;(first|omega|((repeat (first|rw[World.size_up]|rw[World.size_dr]|rw[World.size_drN]))<;>omega)))));(with_reducible exact Below.refl _ _)) (by (repeat (first|with_reducible refine Blk.drew ?_|with_reducible refine Blk.drewN ?_ _|(with_reducible refine blk_newAt _ _ ?_;(first|omega|((repeat (first|rw[World.size_up]|rw[World.size_dr]|rw[World.size_drN]))<;>omega)))|with_reducible refine Blk.alloc ?_ _));(first|done|with_reducible assumption))) ?_;rintro e w1 ⟨rfl,h2,h1⟩;refine⟨_,rfl,?_⟩;skip;have H1:=V h1;clear h1 h2))
    all_goals
      go_wp2_with fail
      go_meet
      first
      | exact boxed_new (U H1)
      | exact boxed_set (by omega) (putS_as _ _ _) (U H1) (U HJ) (by omega)
  case rest =>
    obtain⟨jb,rfl,hj,hF,hbx,hbl⟩:=hcut
    have hcb:=hbx _ _ _ (U HCB) (Or.inl rfl)
    have hsb:=hbx _ _ _ (U HSB) (Or.inr (Or.inl rfl))
    have hcc2:=hcb.cell
    have H1:=V (And.intro hcb (And.intro hj (And.intro hF (And.intro hbx (And.intro hbl hsb)))))
    clear hj hF hbx hbl hcb hcc hc HADD hsb
    go_wp2_with fail
    obtain⟨hcb,hj,hF,hbx,hbl,hsb⟩:=U H1
    refine (pushW B x (putS st 2 0) wc hF.e _ rfl (⟨#[119,104,105,108,101]⟩,s,hereS st) ⟨_,hcb,Or.inr (Or.inr (Or.inr (Or.inl ⟨rfl,_,jb,hsb,hj,rfl⟩)))⟩ (by rw[(putS_as _ _ _).2.2];omega)).mono ?_
    rintro e w2 ⟨rfl,k1,k2,k3⟩
    clear hcb hj hF hbx hbl hcc2 hsb
    go_wp2_with fail
    go_end0
    obtain⟨hcb,hj,hF,hbx,hbl,hsb⟩:=U H1
    exact⟨rfl,k1,(BoxStill.ofBelow (U HB0)).trans (hbx.trans k2),(below_less (U HB0) (by omega)).trans (hbl.trans k3)⟩
def closeBeginR (st:RS) (s:Int) (tok:ByteArray):Option RS :=
  if tok.toList == [117,110,116,105,108] then some (putS st 2 s)
  else if tok.toList == [119,104,105,108,101] then some (openS (putS st 2 0) (⟨#[119,104,105,108,101]⟩,s,hereS st))
  else none
theorem closeBegin_any (B:Nat) (x:CX) (st:RS) (w:World) (h:CpE B w x st) (cb sb:Nat) (s:Int) (hcb:Blk w cb #[.pointer (some ⟨x.b,0,none⟩)] 91) (hsb:Blk w sb #[.int .i64 s] 2) (tok:ByteArray) (hlen:hereS st<4000) (hop:st.opens.length<3980) :
    Calls Tryz.prog 190 #[.string tok,.pointer (some ⟨cb,0,none⟩),.pointer (some ⟨sb,0,none⟩)] w (Closed B w x (closeBeginR st s tok)):=by
  obtain⟨fw,fo,hF⟩:=h.f
  have HADD:=V (addW B x st w fw fo hF 2 s hlen)
  have HWH:=V (openWhile_any B x st w h s hlen hop)
  obtain⟨s0,vo,hblk⟩:=hF.blk
  have hc:=hblk.cell
  have hxl:=hF.size0
  unfold cpArr at hc
  have hcc:=hcb.cell
  have hcs:=hsb.cell
  have hcl:=hcb.lt
  have hsl:=hsb.lt
  have hxa0:x.b<w.heap.size+1:=by omega
  have hxb0:x.b≤w.heap.size:=by omega
  have hxc0:x.b≤w.heap.size+1:=by omega
  have hxd0:x.b<w.heap.size+1+1:=by omega
  have hxa1:cb<w.heap.size+1:=by omega
  have hxb1:cb≤w.heap.size:=by omega
  have hxc1:cb≤w.heap.size+1:=by omega
  have hxd1:cb<w.heap.size+1+1:=by omega
  have hxa2:sb<w.heap.size+1:=by omega
  have hxb2:sb≤w.heap.size:=by omega
  have hxc2:sb≤w.heap.size+1:=by omega
  have hxd2:sb<w.heap.size+1+1:=by omega
  clear hblk hF h hcb hsb
  generalize hhx:hereX x st=hx at *
  have HHX:=V hhx
  clear hhx
  unfold closeBeginR
  by_cases h1:(tok.toList == [117,110,116,105,108])=true
  · rw[if_pos h1]
    have h1e:=tok_eq h1
    subst h1e
    clear h1
    go_enter Tryz.func190,Tryz.ntmps190
    go_wp2_with fail
    go_region_law (first
      | (refine step_call rfl 77 #[.const (.int .i64 2),.tmp 12] #[3,2] rfl Tryz.func77 Tryz.name77 Tryz.body77 #[.int .i64 2,.int .i64 s] (by first|(simp[Act.eval];done)|(simp[Act.eval,Act.put];done)|rfl) (withI_any 2 s _) ?_;rintro e w1 ⟨rfl,rfl⟩;refine⟨_,rfl,?_⟩)
      | (refine step_call rfl 50 #[.tmp 11,.tmp 14] #[96,33] rfl Tryz.func50 Tryz.name50 Tryz.body50 #[.pointer (some ⟨hx,0,none⟩),.slice (some ⟨w.heap.size+1,0,none⟩) 1 1] (by first|(simp[Act.eval];done)|(simp[Act.eval,Act.put];done)|rfl) (U HADD _ (w.heap.size+1) (by (repeat (first|with_reducible refine below_drew ?_|with_reducible refine below_drawn ?_ _|with_reducible refine below_longer ?_ _|(with_reducible refine Below.alloc ?_ ?_ _;rotate_left;(first|omega|((repeat (first|rw[World.size_up]|rw[World.size_dr]|rw[World.size_drN]))<;>omega)))));(with_reducible exact Below.refl _ _)) (by (repeat (first|with_reducible refine Blk.drew ?_|with_reducible refine Blk.drewN ?_ _|(with_reducible refine blk_newAt _ _ ?_;(first|omega|((repeat (first|rw[World.size_up]|rw[World.size_dr]|rw[World.size_drN]))<;>omega)))|with_reducible refine Blk.alloc ?_ _));(first|done|with_reducible assumption))) ?_;rintro e w1 ⟨rfl,h2,h1⟩;refine⟨_,rfl,?_⟩;have H1:=V h1;clear h1 h2))
    all_goals
      go_wp2_with fail
      go_ret
      obtain⟨k1,_,k2,k3⟩:=U H1
      exact Closed.yes k1.e k2 k3
  · rw[if_neg h1]
    by_cases h2:(tok.toList == [119,104,105,108,101])=true
    · rw[if_pos h2]
      have h2e:=tok_eq h2
      subst h2e
      clear h1 h2
      go_enter Tryz.func190,Tryz.ntmps190
      go_wp2_with fail
      refine (U HWH).mono ?_
      rintro e w2 ⟨rfl,k1,k2,k3⟩
      go_wp2_with fail
      go_ret
      exact Closed.yes k1 k2 k3
    · rw[if_neg h2]
      have e1:(tok.toList == [117,110,116,105,108])=false:=by simpa using h1
      have e2:(tok.toList == [119,104,105,108,101])=false:=by simpa using h2
      go_enter Tryz.func190,Tryz.ntmps190
      go_wp2_with fail
      go_ret
      exact Closed.no
def closeWhileR (st:RS) (s:Int) (n:Nat) (tok:ByteArray):Option RS :=
  if tok.toList == [114,101,112,101,97,116] then some (tellS (putS st 1 s) n) else none
theorem closeWhile_any (B:Nat) (x:CX) (st:RS) (w:World) (h:CpE B w x st) (cb sb jb n:Nat) (s:Int) (hcb:Blk w cb #[.pointer (some ⟨x.b,0,none⟩)] 91) (hsb:Blk w sb #[.int .i64 s] 2) (hjb:Blk w jb #[.int .i64 n] 2) (tok:ByteArray) (hlen:hereS st<4000) (hn:n<hereS st) :
    Calls Tryz.prog 217 #[.string tok,.pointer (some ⟨cb,0,none⟩),.pointer (some ⟨sb,0,none⟩),.pointer (some ⟨jb,0,none⟩)] w (Closed B w x (closeWhileR st s n tok)):=by
  obtain⟨fw,fo,hF⟩:=h.f
  have HADD:=V (addW B x st w fw fo hF 1 s hlen)
  obtain⟨s0,vo,hblk⟩:=hF.blk
  have hc:=hblk.cell
  have hxl:=hF.size0
  unfold cpArr at hc
  have hcc:=hcb.cell
  have hcs:=hsb.cell
  have hcl:=hcb.lt
  have hsl:=hsb.lt
  have hxa0:x.b<w.heap.size+1:=by omega
  have hxb0:x.b≤w.heap.size:=by omega
  have hxc0:x.b≤w.heap.size+1:=by omega
  have hxd0:x.b<w.heap.size+1+1:=by omega
  have hxa1:cb<w.heap.size+1:=by omega
  have hxb1:cb≤w.heap.size:=by omega
  have hxc1:cb≤w.heap.size+1:=by omega
  have hxd1:cb<w.heap.size+1+1:=by omega
  have hxa2:sb<w.heap.size+1:=by omega
  have hxb2:sb≤w.heap.size:=by omega
  have hxc2:sb≤w.heap.size+1:=by omega
  have hxd2:sb<w.heap.size+1+1:=by omega
  have HCB:=V hcb
  have HJB:=V hjb
  clear hblk hF h hcb hsb hjb
  generalize hhx:hereX x st=hx at *
  have HHX:=V hhx
  clear hhx
  unfold closeWhileR
  by_cases h1:(tok.toList == [114,101,112,101,97,116])=true
  · rw[if_pos h1]
    have h1e:=tok_eq h1
    subst h1e
    clear h1
    go_enter Tryz.func217,Tryz.ntmps217
    go_wp2_with fail
    go_cut [] from 8 to 21 (fun wc=>CpF B wc x (putS st 1 s) fw fo∧Things w x.b st fw fo∧BoxStill w wc∧Below B w wc)
    case first =>
      go_region_law (first
      | (refine step_call rfl 77 #[.const (.int .i64 1),.tmp 12] #[3,2] rfl Tryz.func77 Tryz.name77 Tryz.body77 #[.int .i64 1,.int .i64 s] (by first|(simp[Act.eval];done)|(simp[Act.eval,Act.put];done)|rfl) (withI_any 1 s _) ?_;rintro e w1 ⟨rfl,rfl⟩;refine⟨_,rfl,?_⟩)
      | (refine step_call rfl 50 #[.tmp 11,.tmp 14] #[96,33] rfl Tryz.func50 Tryz.name50 Tryz.body50 #[.pointer (some ⟨hx,0,none⟩),.slice (some ⟨w.heap.size+1,0,none⟩) 1 1] (by first|(simp[Act.eval];done)|(simp[Act.eval,Act.put];done)|rfl) (U HADD _ (w.heap.size+1) (by (repeat (first|with_reducible refine below_drew ?_|with_reducible refine below_drawn ?_ _|with_reducible refine below_longer ?_ _|(with_reducible refine Below.alloc ?_ ?_ _;rotate_left;(first|omega|((repeat (first|rw[World.size_up]|rw[World.size_dr]|rw[World.size_drN]))<;>omega)))));(with_reducible exact Below.refl _ _)) (by (repeat (first|with_reducible refine Blk.drew ?_|with_reducible refine Blk.drewN ?_ _|(with_reducible refine blk_newAt _ _ ?_;(first|omega|((repeat (first|rw[World.size_up]|rw[World.size_dr]|rw[World.size_drN]))<;>omega)))|with_reducible refine Blk.alloc ?_ _));(first|done|with_reducible assumption))) ?_;rintro e w1 ⟨rfl,h2,h1⟩;refine⟨_,rfl,?_⟩;have H1:=V h1;clear h1 h2))
      all_goals
        go_wp2_with fail
        go_meet
        exact U H1
    case rest =>
      obtain⟨hF,hT,hbx,hbl⟩:=hcut
      have hcc2:=(hbx _ _ _ (U HCB) (Or.inl rfl)).cell
      have hcj2:=(hbx _ _ _ (U HJB) (Or.inr (Or.inl rfl))).cell
      have hax:=aimW B x (putS st 1 s) wc hF.e n (by rw[hereS_put];omega)
      rw[hereX_put,U HHX]at hax
      have HAX:=V hax
      obtain⟨s1,vo1,hblk1⟩:=hF.blk
      have hc1:=hblk1.cell
      unfold cpArr at hc1
      rw[hereX_put,U HHX]at hc1
      have HX:=V (And.intro hbx hbl)
      clear hF hT hbx hbl hcc hc HADD hax hblk1
      go_wp2_with fail
      go_region_law (refine step_call rfl 188 #[.tmp 19,.tmp 20] #[96,2] rfl Tryz.func188 Tryz.name188 Tryz.body188 #[.pointer (some ⟨hx,0,none⟩),.int .i64 n] (by first|(simp[Act.eval];done)|(simp[Act.eval,Act.put];done)|rfl) (U HAX _ (by (repeat (first|with_reducible refine below_drew ?_|with_reducible refine below_drawn ?_ _|with_reducible refine below_longer ?_ _|(with_reducible refine Below.alloc ?_ ?_ _;rotate_left;(first|omega|((repeat (first|rw[World.size_up]|rw[World.size_dr]|rw[World.size_drN]))<;>omega)))));(with_reducible exact Below.refl _ _))) ?_;rintro e w1 ⟨rfl,h1⟩;refine⟨_,rfl,?_⟩;have H1:=V h1;clear h1)
      all_goals
        go_wp2_with fail
        go_ret
        obtain⟨k1,k2,k3⟩:=U H1
        obtain⟨m2,m3⟩:=U HX
        exact Closed.yes k1 (m2.trans k2) (m3.trans k3)
  · rw[if_neg h1]
    have e1:(tok.toList == [114,101,112,101,97,116])=false:=by simpa using h1
    go_enter Tryz.func217,Tryz.ntmps217
    go_wp2_with fail
    go_ret
    exact Closed.no
def closeDoR (st:RS) (s:Int) (tok:ByteArray):Option RS :=
  if tok.toList == [108,111,111,112] then some (putS st 7 s) else none
theorem closeDo_any (B:Nat) (x:CX) (st:RS) (w:World) (h:CpE B w x st) (cb sb:Nat) (s:Int) (hcb:Blk w cb #[.pointer (some ⟨x.b,0,none⟩)] 91) (hsb:Blk w sb #[.int .i64 s] 2) (tok:ByteArray) (hlen:hereS st<4000) :
    Calls Tryz.prog 192 #[.string tok,.pointer (some ⟨cb,0,none⟩),.pointer (some ⟨sb,0,none⟩)] w (Closed B w x (closeDoR st s tok)):=by
  obtain⟨fw,fo,hF⟩:=h.f
  have HADD:=V (addW B x st w fw fo hF 7 s hlen)
  obtain⟨s0,vo,hblk⟩:=hF.blk
  have hc:=hblk.cell
  have hxl:=hF.size0
  unfold cpArr at hc
  have hcc:=hcb.cell
  have hcs:=hsb.cell
  have hcl:=hcb.lt
  have hsl:=hsb.lt
  have hxa0:x.b<w.heap.size+1:=by omega
  have hxb0:x.b≤w.heap.size:=by omega
  have hxc0:x.b≤w.heap.size+1:=by omega
  have hxd0:x.b<w.heap.size+1+1:=by omega
  have hxa1:cb<w.heap.size+1:=by omega
  have hxb1:cb≤w.heap.size:=by omega
  have hxc1:cb≤w.heap.size+1:=by omega
  have hxd1:cb<w.heap.size+1+1:=by omega
  have hxa2:sb<w.heap.size+1:=by omega
  have hxb2:sb≤w.heap.size:=by omega
  have hxc2:sb≤w.heap.size+1:=by omega
  have hxd2:sb<w.heap.size+1+1:=by omega
  clear hblk hF h hcb hsb
  generalize hhx:hereX x st=hx at *
  have HHX:=V hhx
  clear hhx
  unfold closeDoR
  by_cases h1:(tok.toList == [108,111,111,112])=true
  · rw[if_pos h1]
    have h1e:=tok_eq h1
    subst h1e
    clear h1
    go_enter Tryz.func192,Tryz.ntmps192
    go_wp2_with fail
    go_region_law (first
      | (refine step_call rfl 77 #[.const (.int .i64 7),.tmp 11] #[3,2] rfl Tryz.func77 Tryz.name77 Tryz.body77 #[.int .i64 7,.int .i64 s] (by first|(simp[Act.eval];done)|(simp[Act.eval,Act.put];done)|rfl) (withI_any 7 s _) ?_;rintro e w1 ⟨rfl,rfl⟩;refine⟨_,rfl,?_⟩)
      | (refine step_call rfl 50 #[.tmp 10,.tmp 13] #[96,33] rfl Tryz.func50 Tryz.name50 Tryz.body50 #[.pointer (some ⟨hx,0,none⟩),.slice (some ⟨w.heap.size+1,0,none⟩) 1 1] (by first|(simp[Act.eval];done)|(simp[Act.eval,Act.put];done)|rfl) (U HADD _ (w.heap.size+1) (by (repeat (first|with_reducible refine below_drew ?_|with_reducible refine below_drawn ?_ _|with_reducible refine below_longer ?_ _|(with_reducible refine Below.alloc ?_ ?_ _;rotate_left;(first|omega|((repeat (first|rw[World.size_up]|rw[World.size_dr]|rw[World.size_drN]))<;>omega)))));(with_reducible exact Below.refl _ _)) (by (repeat (first|with_reducible refine Blk.drew ?_|with_reducible refine Blk.drewN ?_ _|(with_reducible refine blk_newAt _ _ ?_;(first|omega|((repeat (first|rw[World.size_up]|rw[World.size_dr]|rw[World.size_drN]))<;>omega)))|with_reducible refine Blk.alloc ?_ _));(first|done|with_reducible assumption))) ?_;rintro e w1 ⟨rfl,h2,h1⟩;refine⟨_,rfl,?_⟩;have H1:=V h1;clear h1 h2))
    all_goals
      go_wp2_with fail
      go_ret
      obtain⟨k1,_,k2,k3⟩:=U H1
      exact Closed.yes k1.e k2 k3
  · rw[if_neg h1]
    have e1:(tok.toList == [108,111,111,112])=false:=by simpa using h1
    go_enter Tryz.func192,Tryz.ntmps192
    go_wp2_with fail
    go_ret
    exact Closed.no
theorem Tryz.name187 : (Tryz.f187.name == "runtime.NumGoroutine") = false := by kernel_rfl
theorem Tryz.body187:Tryz.f187.body.isNone=false:=by kernel_rfl
theorem Tryz.name216 : (Tryz.f216.name == "runtime.NumGoroutine") = false := by kernel_rfl
theorem Tryz.body216:Tryz.f216.body.isNone=false:=by kernel_rfl
theorem Tryz.name190 : (Tryz.f190.name == "runtime.NumGoroutine") = false := by kernel_rfl
theorem Tryz.body190:Tryz.f190.body.isNone=false:=by kernel_rfl
theorem Tryz.name217 : (Tryz.f217.name == "runtime.NumGoroutine") = false := by kernel_rfl
theorem Tryz.body217:Tryz.f217.body.isNone=false:=by kernel_rfl
theorem Tryz.name192 : (Tryz.f192.name == "runtime.NumGoroutine") = false := by kernel_rfl
theorem Tryz.body192:Tryz.f192.body.isNone=false:=by kernel_rfl
theorem Tryz.name218 : (Tryz.f218.name == "runtime.NumGoroutine") = false := by kernel_rfl
theorem Tryz.body218:Tryz.f218.body.isNone=false:=by kernel_rfl
def thingR (u:RS) (o:ByteArray×Int×Int) (tok:ByteArray):Option RS :=
  if o.1=⟨#[105,102]⟩ then closeIfR u o.2.2.toNat tok
  else if o.1=⟨#[101,108,115,101]⟩ then closeElseR u o.2.2.toNat tok
  else if o.1=⟨#[98,101,103,105,110]⟩ then closeBeginR u o.2.1 tok
  else if o.1=⟨#[119,104,105,108,101]⟩ then closeWhileR u o.2.1 o.2.2.toNat tok
  else closeDoR u o.2.1 tok
def AtIs (w:World) (x:CX) (p:Nat):Prop:=∃ (r d m hx mp:Nat) (s0 c:Int) (vo:Value),Blk w x.b #[.pointer (some ⟨r,0,none⟩),.int .i64 p,.pointer (some ⟨d,0,none⟩),.pointer (some ⟨m,0,none⟩),.pointer (some ⟨hx,0,none⟩),.int .i64 s0,.map (some mp),.int .i64 c,vo] 100
theorem Cr.atIs {B:Nat} {w:World} {x:CX} {st:RS} {hx:Nat} {s0:Int} {vd vm vo:Value} {fs:List Value} (h:Cr B w x st hx s0 vd vm vo fs):AtIs w x st.place0:=⟨_,_,_,_,_,_,_,_,h.blk⟩
theorem Cp.atIs {B:Nat} {w:World} {x:CX} {st:RS} {s0:Int} {vd vm vo:Value} {fw fo:List Value} (h:Cp B w x st s0 vd vm vo fw fo):AtIs w x st.place0:=h.raw.atIs
theorem CpE.atIs {B:Nat} {w:World} {x:CX} {st:RS} (h:CpE B w x st):AtIs w x st.place0:=by
  obtain⟨_,_,_,_,_,_,h⟩:=h
  exact h.atIs
def Done (B:Nat) (w:World) (x:CX) (p:Nat) (r:Option RS) (e:Ending) (w':World):Prop:=e=.returned (.int .i64 (if r.isSome=true then 0 else 4))∧(∀ st',r=some st'→CpE B w' x st')∧(r=none→AtIs w' x p)∧BoxStill w w'∧Below B w w'
theorem closeLast_at (B : Nat) (x : CX) (st u : RS) (w : World) (s0 : Int) (vd vm vo : Value) (F : FuncId) (cap : Array Value) (fw fo : List Value) (h : Cr B w x st (hereX x st) s0 vd vm vo (fw ++ fo ++ [.func (.func F) #[] cap])) (hs : 0 ≤ st.start → s0 = st.start) (hu : hereX x u = hereX x st ∧ u.start = st.start) (hp : u.place0 = st.place0) (hr : ∀ (W : World) (v : Value), Cr B W x st (hereX x st) s0 vd vm v (fw ++ fo) → Cr B W x u (hereX x st) s0 vd vm v (fw ++ fo)) (ht : Things w x.b u fw fo) (tok : ByteArray) (hl : (fw ++ fo).length < 4000) {fn : Func} (hfn : Tryz.prog.funcs[F]? = some fn) (hfa : (fn.name == "runtime.NumGoroutine") = false) (hfb : fn.body.isNone = false) (r : Option RS)
    (hcall:∀ W:World,CpE B W x u→BoxStill w W→Calls Tryz.prog F (#[.string tok]++cap) W (Closed B W x r)) :
    Calls Tryz.prog 146 #[.pointer (some ⟨x.b,0,none⟩),.string tok] w (Done B w x st.place0 r):=by
  refine (closeLast_some B x st w (hereX x st) s0 vd vm vo F cap (fw++fo) h tok hl hfn hfa hfb (fun b w'=>b=r.isSome∧(∀ st',r=some st'→CpE B w' x st')∧(r=none→AtIs w' x st.place0)∧BoxStill w w'∧Below B w w') ?_).mono ?_
  · intro W v hW hb hl
    have hcp:CpE B W x u:=by
      refine⟨s0,vd,vm,v,fw,fo,Cr.cp ?_ (fun h=>by rw[hu.2]at h ⊢;exact hs h) (ht.box hb)⟩
      rw[hu.1]
      exact hr W v hW
    refine (hcall W hcp hb).mono ?_
    rintro e w' ⟨rfl,h1,h0,h2,h3⟩
    exact⟨_,rfl,rfl,h1,fun e=>by rw[h0 e,← hp];exact hcp.atIs,hb.trans h2,hl.trans h3⟩
  · rintro e w' ⟨b,rfl,rfl,h1,h0,h2,h3⟩
    exact⟨rfl,h1,h0,h2,h3⟩
theorem closeLast_thing (B:Nat) (x:CX) (st:RS) (w:World) (h:CpE B w x st) (l:List (ByteArray×Int×Int)) (o:ByteArray×Int×Int) (he:st.opens=l++[o]) (hok:openOk (hereS st) o) (tok:ByteArray) (hlen:hereS st<4000) (hop:st.opens.length<3980) :
    Calls Tryz.prog 146 #[.pointer (some ⟨x.b,0,none⟩),.string tok] w (Done B w x st.place0 (thingR { st with opens:=l } o tok)):=by
  obtain⟨s0,vd,vm,vo,fw,fo,h⟩:=h
  have hlen0:=h.things.len
  rw[he]at hlen0
  obtain⟨fo',f,rfl⟩:∃ fo' f,fo=fo'++[f]:=by
    rcases List.eq_nil_or_concat fo with e|⟨a,b,e⟩
    · rw[e]at hlen0;simp at hlen0
    · exact⟨a,b,by rw[e];simp⟩
  have hlen1:fo'.length=l.length:=by simpa using hlen0
  have hth:=h.things.each l.length f o (by rw[← hlen1];simp) (by rw[he];simp)
  have hfw:fw.length≤1:=by
    by_cases hs:0≤st.start
    · obtain⟨f,e,_⟩:=h.things.word hs;rw[e];simp
    · rw[h.things.none (by omega)];simp
  have hT:Things w x.b { st with opens:=l } fw fo':=by
    refine⟨h.things.word,h.things.none,hlen1,fun i f' o' h1 h2=>?_⟩
    have h1l:=(List.getElem?_eq_some_iff.1 h1).1
    have h2l:=(List.getElem?_eq_some_iff.1 h2).1
    exact h.things.each i f' o' (by rw[List.getElem?_append_left h1l];exact h1) (by rw[he,List.getElem?_append_left h2l];exact h2)
  have hraw:=h.raw
  rw[← List.append_assoc]at hraw
  have hsmall:(fw++fo').length<4000:=by simp;rw[he]at hop;simp at hop;omega
  have hcr:∀ (W:World) (v:Value),Cr B W x st (hereX x st) s0 vd vm v (fw++fo')→Cr B W x { st with opens:=l } (hereX x st) s0 vd vm v (fw++fo'):=fun W v k =>
    ⟨k.blk,k.rdr,k.dp,k.mn,k.dm,k.base,k.owned,k.names,by have:=k.small;rw[he]at this;simp at this ⊢;omega⟩
  have hop':l.length<3980:=by rw[he]at hop;simp at hop;omega
  obtain⟨cb,hcb,hcase⟩:=hth
  have hn:((o.2.2.toNat:Nat):Int)=o.2.2:=by have:=hok.2.1;omega
  rcases hcase with ⟨e,jb,hj,rfl⟩|⟨e,jb,hj,rfl⟩|⟨e,sb,hsb,rfl⟩|⟨e,sb,jb,hsb,hj,rfl⟩|⟨e,sb,hsb,rfl⟩
  · refine closeLast_at B x st { st with opens:=l } w s0 vd vm vo _ _ fw fo' hraw h.start ⟨rfl,rfl⟩ rfl hcr hT tok hsmall Tryz.func187 Tryz.name187 Tryz.body187 _ (fun W hW hb=>?_)
    have hlt:o.2.2<hereS st:=hok.2.2 (Or.inl (by rw[e];simp[ByteArray.toList,ByteArray.toList.loop,ByteArray.size,ByteArray.get!]))
    rw[← hn]at hj
    have er:thingR { st with opens:=l } o tok=closeIfR { st with opens:=l } o.2.2.toNat tok:=by unfold thingR;rw[if_pos e]
    rw[er]
    exact closeIf_any B x { st with opens:=l } W hW cb jb o.2.2.toNat (hb _ _ _ hcb (Or.inl rfl)) (hb _ _ _ hj (Or.inr (Or.inl rfl))) tok (by show o.2.2.toNat<hereS st;omega) hlen hop'
  · refine closeLast_at B x st { st with opens:=l } w s0 vd vm vo _ _ fw fo' hraw h.start ⟨rfl,rfl⟩ rfl hcr hT tok hsmall Tryz.func216 Tryz.name216 Tryz.body216 _ (fun W hW hb=>?_)
    have hlt:o.2.2<hereS st:=hok.2.2 (Or.inr (Or.inl (by rw[e];simp[ByteArray.toList,ByteArray.toList.loop,ByteArray.size,ByteArray.get!])))
    rw[← hn]at hj
    have er:thingR { st with opens:=l } o tok=closeElseR { st with opens:=l } o.2.2.toNat tok:=by unfold thingR;rw[if_neg (by rw[e];decide),if_pos e]
    rw[er]
    exact closeElse_any B x { st with opens:=l } W hW cb jb o.2.2.toNat (hb _ _ _ hcb (Or.inl rfl)) (hb _ _ _ hj (Or.inr (Or.inl rfl))) tok (by show o.2.2.toNat<hereS st;omega)
  · refine closeLast_at B x st { st with opens:=l } w s0 vd vm vo _ _ fw fo' hraw h.start ⟨rfl,rfl⟩ rfl hcr hT tok hsmall Tryz.func190 Tryz.name190 Tryz.body190 _ (fun W hW hb=>?_)
    have er:thingR { st with opens:=l } o tok=closeBeginR { st with opens:=l } o.2.1 tok:=by unfold thingR;rw[if_neg (by rw[e];decide),if_neg (by rw[e];decide),if_pos e]
    rw[er]
    exact closeBegin_any B x { st with opens:=l } W hW cb sb o.2.1 (hb _ _ _ hcb (Or.inl rfl)) (hb _ _ _ hsb (Or.inr (Or.inl rfl))) tok hlen hop'
  · refine closeLast_at B x st { st with opens:=l } w s0 vd vm vo _ _ fw fo' hraw h.start ⟨rfl,rfl⟩ rfl hcr hT tok hsmall Tryz.func217 Tryz.name217 Tryz.body217 _ (fun W hW hb=>?_)
    have hlt:o.2.2<hereS st:=hok.2.2 (Or.inr (Or.inr (by rw[e];simp[ByteArray.toList,ByteArray.toList.loop,ByteArray.size,ByteArray.get!])))
    rw[← hn]at hj
    have er:thingR { st with opens:=l } o tok=closeWhileR { st with opens:=l } o.2.1 o.2.2.toNat tok:=by unfold thingR;rw[if_neg (by rw[e];decide),if_neg (by rw[e];decide),if_neg (by rw[e];decide),if_pos e]
    rw[er]
    exact closeWhile_any B x { st with opens:=l } W hW cb sb jb o.2.2.toNat o.2.1 (hb _ _ _ hcb (Or.inl rfl)) (hb _ _ _ hsb (Or.inr (Or.inl rfl))) (hb _ _ _ hj (Or.inr (Or.inl rfl))) tok hlen (by show o.2.2.toNat<hereS st;omega)
  · refine closeLast_at B x st { st with opens:=l } w s0 vd vm vo _ _ fw fo' hraw h.start ⟨rfl,rfl⟩ rfl hcr hT tok hsmall Tryz.func192 Tryz.name192 Tryz.body192 _ (fun W hW hb=>?_)
    have er:thingR { st with opens:=l } o tok=closeDoR { st with opens:=l } o.2.1 tok:=by unfold thingR;rw[if_neg (by rw[e];decide),if_neg (by rw[e];decide),if_neg (by rw[e];decide),if_neg (by rw[e];decide)]
    rw[er]
    exact closeDo_any B x { st with opens:=l } W hW cb sb o.2.1 (hb _ _ _ hcb (Or.inl rfl)) (hb _ _ _ hsb (Or.inr (Or.inl rfl))) tok hlen
theorem closeLast_word (B:Nat) (x:CX) (st:RS) (w:World) (h:CpE B w x st) (hs:0≤st.start) (hop:st.opens=[]) (tok:ByteArray) (hlen:st.c0.length<4000) (hnl:st.names.length<4000) (hnew:st.names.find? (fun x=>x.1 == st.name)=none) (hsz:st.name.size≤2000) :
    Calls Tryz.prog 146 #[.pointer (some ⟨x.b,0,none⟩),.string tok] w (Done B w x st.place0 (if tok.toList == [59] then some (semiS st) else none)):=by
  obtain⟨s0,vd,vm,vo,fw,fo,h⟩:=h
  obtain rfl:=h.start hs
  obtain⟨f,rfl,cb,nb,hcb,hnb,rfl⟩:=h.things.word hs
  have hfo:fo=[]:=by have:=h.things.len;rw[hop]at this;simpa using this
  subst hfo
  have hx:hereX x st=x.d:=by unfold hereX;rw[if_pos hs]
  have hraw:=h.raw
  rw[hx]at hraw
  refine (closeLast_some B x st w x.d st.start vd vm vo _ _ [] hraw tok (by simp) Tryz.func218 Tryz.name218 Tryz.body218 (fun b w'=>b=(if tok.toList == [59] then some (semiS st) else none).isSome∧(∀ st',(if tok.toList == [59] then some (semiS st) else none)=some st'→CpE B w' x st')∧((if tok.toList == [59] then some (semiS st) else none)=none→AtIs w' x st.place0)∧BoxStill w w'∧Below B w w') ?_).mono ?_
  · intro W v hW hb hl
    by_cases ht:(tok.toList == [59])=true
    · simp only[if_pos ht]
      have e:=tok_eq ht
      subst e
      refine (closeWord_yes B x st W vd vm v hW cb nb (hb _ _ _ hcb (Or.inl rfl)) (hb _ _ _ hnb (Or.inr (Or.inr rfl))) hs hop hlen hnl hnew hsz).mono ?_
      rintro e w' ⟨rfl,h1,h2,h3⟩
      exact⟨_,rfl,rfl,fun st' e=>by cases e;exact h1,fun e=>(by cases e),hb.trans h2,hl.trans h3⟩
    · simp only[if_neg ht]
      refine (closeWord_no cb nb W tok (by simpa using ht)).mono ?_
      rintro e w' ⟨rfl,rfl⟩
      exact⟨_,rfl,rfl,fun st' e=>(by cases e),fun _=>hW.atIs,hb,hl⟩
  · rintro e w' ⟨b,rfl,rfl,h1,h0,h2,h3⟩
    exact⟨rfl,h1,h0,h2,h3⟩
theorem closeLast_empty (B:Nat) (x:CX) (st:RS) (w:World) (h:CpE B w x st) (hs:st.start<0) (hop:st.opens=[]) (tok:ByteArray) :
    Calls Tryz.prog 146 #[.pointer (some ⟨x.b,0,none⟩),.string tok] w (Done B w x st.place0 none):=by
  obtain⟨s0,vd,vm,vo,fw,fo,h⟩:=h
  obtain rfl:=h.things.none hs
  have hfo:fo=[]:=by have:=h.things.len;rw[hop]at this;simpa using this
  subst hfo
  refine (closeLast_none B x st w (hereX x st) s0 vd vm vo h.raw tok).mono ?_
  rintro e w' ⟨rfl,rfl⟩
  exact⟨rfl,fun st' e=>(by cases e),fun _=>h.atIs,BoxStill.refl _,Below.refl _ _⟩
theorem fold_ge (l:List UInt8) (n:Nat):n≤l.foldl (fun n c=>n * 10+(c.toNat-48)) n:=valS_fold_le l n
theorem parse_ok (l:List UInt8):∀ acc,acc≤18446744073709551615→∀ u,(Lib.parseUintM 18446744073709551615 acc l=.ok u↔(l.all digB=true∧l.foldl (fun n c=>n * 10+(c.toNat-48)) acc=u∧u≤18446744073709551615)):=by
  induction l with
  | nil =>
    intro acc ha u
    simp only[Lib.parseUintM,List.all_nil,List.foldl_nil,true_and]
    constructor
    · intro e
      injection e with e
      subst e
      exact⟨rfl,ha⟩
    · rintro ⟨rfl,_⟩
      rfl
  | cons c r ih =>
    intro acc ha u
    have hge:=fold_ge r (acc * 10+(c.toNat-48))
    simp only[Lib.parseUintM,List.all_cons,List.foldl_cons]
    by_cases hd:48≤c.toNat∧c.toNat≤57
    · rw[if_pos hd]
      have hdb:digB c=true:=by unfold digB;simp[hd]
      rw[hdb,Bool.true_and]
      by_cases h1:1844674407370955162≤acc
      · rw[if_pos h1]
        constructor
        · intro e;cases e
        · rintro ⟨_,h2,h3⟩
          omega
      · rw[if_neg h1]
        by_cases h2:18446744073709551615<acc * 10+(c.toNat-48)
        · rw[if_pos h2]
          constructor
          · intro e;cases e
          · rintro ⟨_,h3,h4⟩
            omega
        · rw[if_neg h2]
          exact ih _ (by omega) u
    · rw[if_neg hd]
      have hdb:digB c=false:=by unfold digB;simp;omega
      rw[hdb]
      constructor
      · intro e;cases e
      · rintro ⟨h,_⟩
        simp at h
def endOpt {α β:Type} (f:α→β):Lib.NumEnd α→Option β
  | .ok v=>some (f v)
  | _=>none
theorem numFrom_link (D:List UInt8) (most:Nat) (hm:most≤18446744073709551615):numFrom D most=(match Lib.parseUintB 64 D with|.ok u=>if u≤most then some u else none|_=>none):=by
  unfold Lib.parseUintB numFrom
  by_cases h0:D=[]
  · rw[if_pos h0,if_pos h0]
  · rw[if_neg h0,if_neg h0]
    have e64:(2 ^ 64-1:Nat)=18446744073709551615:=by decide
    rw[e64]
    have key:=parse_ok D 0 (by omega)
    rcases hp:Lib.parseUintM 18446744073709551615 0 D with u|_|_
    · skip
      obtain⟨h1,h2,h3⟩:=(key u).1 hp
      have hv:valS D=u:=h2
      simp only[h1,hv,Bool.true_and,decide_eq_true_eq]
    · skip
      simp only
      rw[if_neg]
      intro hc
      simp at hc
      have:=(key (valS D)).2 ⟨by simpa using hc.1,rfl,by omega⟩
      rw[hp]at this
      cases this
    · skip
      simp only
      rw[if_neg]
      intro hc
      simp at hc
      have:=(key (valS D)).2 ⟨by simpa using hc.1,rfl,by omega⟩
      rw[hp]at this
      cases this
theorem num_link (s:ByteArray) (h:s.toList.head?≠some 43):numS s=(match Lib.parseIntB 64 s.toList with|.ok v=>some v|_=>none):=by
  unfold numS
  cases hl:s.toList with
  | nil=>simp[Lib.parseIntB,numFrom]
  | cons c r =>
    rw[hl]at h
    have e63:(2 ^ (64-1):Nat)=9223372036854775808:=by decide
    by_cases h45:c=45
    · subst h45
      simp only[List.head?_cons,List.tail_cons,if_true]
      rw[Lib.parseIntB_minus,e63,numFrom_link r 9223372036854775808 (by omega)]
      rcases Lib.parseUintB 64 r with u|_|_
      · skip
        simp only[Lib.signedC]
        by_cases hu:u≤9223372036854775808
        · rw[if_pos hu,if_neg (by omega)];rfl
        · rw[if_neg hu,if_pos (by omega)];rfl
      · rfl
      · rfl
    · have hne:¬ (some c=some (45:UInt8)):=by simpa using h45
      have h43:c.toNat≠43:=by
        intro e
        apply h
        have:c=43:=by apply UInt8.toNat_inj.1;rw[e];rfl
        rw[this];rfl
      have h45':c.toNat≠45:=by
        intro e
        apply h45
        apply UInt8.toNat_inj.1
        rw[e];rfl
      rw[List.head?_cons,if_neg hne]
      rw[Lib.parseIntB_plain 64 c r h43 h45',e63,numFrom_link (c :: r) 9223372036854775807 (by omega)]
      rcases Lib.parseUintB 64 (c :: r) with u|_|_
      · skip
        simp only[Lib.signlessC]
        by_cases hu:u≤9223372036854775807
        · rw[if_pos hu,if_neg (by omega)];rfl
        · rw[if_neg hu,if_pos (by omega)];rfl
      · rfl
      · rfl
theorem num_plus (s:ByteArray) (h:s.toList.head? = some 43):numS s=none:=by
  unfold numS
  rw[h]
  have:¬ (some (43:UInt8)=some 45):=by decide
  rw[if_neg this]
  cases hl:s.toList with
  | nil=>rw[hl]at h;simp at h
  | cons c r =>
    rw[hl]at h
    simp at h
    subst h
    have:numFrom (43 :: r) 9223372036854775807=none:=numFrom_bad (43 :: r) _ 0 43 rfl (by decide)
    rw[this];rfl
end Go.Proofs.YtmeiikjpaepogaaGreatDoor
