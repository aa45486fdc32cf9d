/- The program's compiler: openElse. -/
import Derived.Test.YtmeiikjpaepogaaGreatDoorU10
import Derived.Deep.CutRange
import Derived.Lib.Builder
set_option maxRecDepth 100000
set_option maxHeartbeats 4000000
namespace Go.Proofs.YtmeiikjpaepogaaGreatDoor
open Go Go.RowKit
theorem openElse_any (B:Nat) (x:CX) (st:RS) (w:World) (h:CpE B w x st) (j:Nat) (hj0:j<hereS st) (hlen:hereS st<4000) (hop:st.opens.length<3980) :
    Calls Tryz.prog 189 #[.pointer (some ⟨x.b,0,none⟩),.int .i64 j] w fun e w'=>e=.returned (.tuple #[])∧CpE B w' x (openS (tellS (putS st 1 0) j) (⟨#[101,108,115,101]⟩,0,hereS st))∧BoxStill w w'∧Below B w w':=by
  obtain⟨fw,fo,h⟩:=h.f
  have hb0:Below w.heap.size w (w.alloc (.cells #[.pointer (some ⟨x.b,0,none⟩)] 91)):=by (repeat (first|with_reducible refine below_drew ?_|with_reducible refine below_drawn ?_ _|with_reducible refine below_longer ?_ _|(with_reducible refine Below.alloc ?_ ?_ _;rotate_left;(first|omega|((repeat (first|rw[World.size_up]|rw[World.size_dr]|rw[World.size_drN]))<;>omega)))));(with_reducible exact Below.refl _ _)
  have hcb:Blk (w.alloc (.cells #[.pointer (some ⟨x.b,0,none⟩)] 91)) w.heap.size #[.pointer (some ⟨x.b,0,none⟩)] 91:=by (repeat (first|with_reducible refine Blk.drew ?_|with_reducible refine Blk.drewN ?_ _|(with_reducible refine blk_newAt _ _ ?_;(first|omega|((repeat (first|rw[World.size_up]|rw[World.size_dr]|rw[World.size_drN]))<;>omega)))|with_reducible refine Blk.alloc ?_ _));(first|done|with_reducible assumption)
  have h0:=h.below hb0
  have hB:=h.size
  obtain⟨s0,vo,hblk⟩:=h0.blk
  have hc:=hblk.cell
  have hxl:=h.size0
  have hxa0:x.b<w.heap.size:=by omega
  have hxb0:x.b≤w.heap.size:=by omega
  have hxa1:x.b<w.heap.size+1:=by omega
  have hxb1:x.b≤w.heap.size+1:=by omega
  have hxa2:x.b<w.heap.size+1+1:=by omega
  have hxb2:x.b≤w.heap.size+1+1:=by omega
  have hxa3:x.b<w.heap.size+1+1+1:=by omega
  have hxb3:x.b≤w.heap.size+1+1+1:=by omega
  have hxa4:x.b<w.heap.size+1+1+1+1:=by omega
  have hxb4:x.b≤w.heap.size+1+1+1+1:=by omega
  have hxa5:x.b<w.heap.size+1+1+1+1+1:=by omega
  have hxb5:x.b≤w.heap.size+1+1+1+1+1:=by omega
  unfold cpArr at hc
  have HADD:=V (addW B x st _ fw fo h0 1 0 hlen)
  have H0:=V h0
  have hsz:(w.alloc (.cells #[.pointer (some ⟨x.b,0,none⟩)] 91)).heap.size=w.heap.size+1:=by simp
  have hcc:=hcb.cell
  have HCB:=V hcb
  have HB0:=V hb0
  clear hblk hcb hb0 h h0
  generalize hhx:hereX x st=hx at *
  have HHX:=V hhx
  clear hhx
  go_enter Tryz.func189,Tryz.ntmps189
  go_wp2_with fail
  generalize w.alloc (.cells #[.pointer (some ⟨x.b,0,none⟩)] 91)=W0 at *
  go_cut [4] from 5 to 22 (fun s4 wc=>Boxed B W0 x (putS st 1 0) fw fo (hereS st) s4 wc)
  case first =>
    go_region_law (first
      | (refine step_call rfl 51 #[.const (.int .i64 1)] #[3] rfl Tryz.func51 Tryz.name51 Tryz.body51 #[.int .i64 1] (by first|(simp[Act.eval];done)|rfl) (plainI_any 1 _) ?_;rintro e w1 ⟨rfl,rfl⟩;refine⟨_,rfl,?_⟩)
      | (refine step_call rfl 50 #[.tmp 8,.tmp 10] #[96,33] rfl Tryz.func50 Tryz.name50 Tryz.body50 #[.pointer (some ⟨hx,0,none⟩),.slice (some ⟨w.heap.size+1+1+1,0,none⟩) 1 1] (by first|(simp[Act.eval];done)|rfl) (U HADD _ (w.heap.size+1+1+1) (by (repeat (first|with_reducible refine below_drew ?_|with_reducible refine below_drawn ?_ _|with_reducible refine below_longer ?_ _|(with_reducible refine Below.alloc ?_ ?_ _;rotate_left;(first|omega|((repeat (first|rw[World.size_up]|rw[World.size_dr]|rw[World.size_drN]))<;>omega)))));(with_reducible exact Below.refl _ _)) (by (repeat (first|with_reducible refine Blk.drew ?_|with_reducible refine Blk.drewN ?_ _|(with_reducible refine blk_newAt _ _ ?_;(first|omega|((repeat (first|rw[World.size_up]|rw[World.size_dr]|rw[World.size_drN]))<;>omega)))|with_reducible refine Blk.alloc ?_ _));(first|done|with_reducible assumption))) ?_;rintro e w1 ⟨rfl,h2,h1⟩;refine⟨_,rfl,?_⟩;have hjb:Blk w1 (w.heap.size+1) #[.int .i64 0] 2:=h2 _ _ _ (by (repeat (first|with_reducible refine Blk.drew ?_|with_reducible refine Blk.drewN ?_ _|(with_reducible refine blk_newAt _ _ ?_;(first|omega|((repeat (first|rw[World.size_up]|rw[World.size_dr]|rw[World.size_drN]))<;>omega)))|with_reducible refine Blk.alloc ?_ _));(first|done|with_reducible assumption)) (Or.inr (Or.inl rfl));have hcj:=hjb.cell;have hfj:=hjb.free;have HJ:=V hjb;clear hjb;have H1:=V h1;clear h1 h2)
      | (refine step_call rfl 50 #[.tmp 8,.tmp 10] #[96,33] rfl Tryz.func50 Tryz.name50 Tryz.body50 #[.pointer (some ⟨hx,0,none⟩),.slice (some ⟨w.heap.size+1+1+1,0,none⟩) 1 1] (by first|(simp[Act.eval];done)|rfl) (U HADD _ (w.heap.size+1+1+1) (by (repeat (first|with_reducible refine below_drew ?_|with_reducible refine below_drawn ?_ _|with_reducible refine below_longer ?_ _|(with_reducible refine Below.alloc ?_ ?_ _;rotate_left;(first|omega|((repeat (first|rw[World.size_up]|rw[World.size_dr]|rw[World.size_drN]))<;>omega)))));(with_reducible exact Below.refl _ _)) (by (repeat (first|with_reducible refine Blk.drew ?_|with_reducible refine Blk.drewN ?_ _|(with_reducible refine blk_newAt _ _ ?_;(first|omega|((repeat (first|rw[World.size_up]|rw[World.size_dr]|rw[World.size_drN]))<;>omega)))|with_reducible refine Blk.alloc ?_ _));(first|done|with_reducible assumption))) ?_;rintro e w1 ⟨rfl,h2,h1⟩;refine⟨_,rfl,?_⟩;have hjb:Blk w1 (w.heap.size+1+1) #[.int .i64 0] 2:=h2 _ _ _ (by (repeat (first|with_reducible refine Blk.drew ?_|with_reducible refine Blk.drewN ?_ _|(with_reducible refine blk_newAt _ _ ?_;(first|omega|((repeat (first|rw[World.size_up]|rw[World.size_dr]|rw[World.size_drN]))<;>omega)))|with_reducible refine Blk.alloc ?_ _));(first|done|with_reducible assumption)) (Or.inr (Or.inl rfl));have hcj:=hjb.cell;have hfj:=hjb.free;have HJ:=V hjb;clear hjb;have H1:=V h1;clear h1 h2)
      | (refine step_call rfl 50 #[.tmp 8,.tmp 10] #[96,33] rfl Tryz.func50 Tryz.name50 Tryz.body50 #[.pointer (some ⟨hx,0,none⟩),.slice (some ⟨w.heap.size+1+1,0,none⟩) 1 1] (by first|(simp[Act.eval];done)|rfl) (U HADD _ (w.heap.size+1+1) (by (repeat (first|with_reducible refine below_drew ?_|with_reducible refine below_drawn ?_ _|with_reducible refine below_longer ?_ _|(with_reducible refine Below.alloc ?_ ?_ _;rotate_left;(first|omega|((repeat (first|rw[World.size_up]|rw[World.size_dr]|rw[World.size_drN]))<;>omega)))));(with_reducible exact Below.refl _ _)) (by (repeat (first|with_reducible refine Blk.drew ?_|with_reducible refine Blk.drewN ?_ _|(with_reducible refine blk_newAt _ _ ?_;(first|omega|((repeat (first|rw[World.size_up]|rw[World.size_dr]|rw[World.size_drN]))<;>omega)))|with_reducible refine Blk.alloc ?_ _));(first|done|with_reducible assumption))) ?_;rintro e w1 ⟨rfl,h2,h1⟩;refine⟨_,rfl,?_⟩;have hjb:Blk w1 (w.heap.size+1+1+1) #[.int .i64 0] 2:=h2 _ _ _ (by (repeat (first|with_reducible refine Blk.drew ?_|with_reducible refine Blk.drewN ?_ _|(with_reducible refine blk_newAt _ _ ?_;(first|omega|((repeat (first|rw[World.size_up]|rw[World.size_dr]|rw[World.size_drN]))<;>omega)))|with_reducible refine Blk.alloc ?_ _));(first|done|with_reducible assumption)) (Or.inr (Or.inl rfl));have hcj:=hjb.cell;have hfj:=hjb.free;have HJ:=V hjb;clear hjb;have H1:=V h1;clear h1 h2)
      | (refine step_call rfl 50 #[.tmp 8,.tmp 10] #[96,33] rfl Tryz.func50 Tryz.name50 Tryz.body50 #[.pointer (some ⟨hx,0,none⟩),.slice (some ⟨w.heap.size+1+1,0,none⟩) 1 1] (by first|(simp[Act.eval];done)|rfl) (U HADD _ (w.heap.size+1+1) (by (repeat (first|with_reducible refine below_drew ?_|with_reducible refine below_drawn ?_ _|with_reducible refine below_longer ?_ _|(with_reducible refine Below.alloc ?_ ?_ _;rotate_left;(first|omega|((repeat (first|rw[World.size_up]|rw[World.size_dr]|rw[World.size_drN]))<;>omega)))));(with_reducible exact Below.refl _ _)) (by (repeat (first|with_reducible refine Blk.drew ?_|with_reducible refine Blk.drewN ?_ _|(with_reducible refine blk_newAt _ _ ?_;(first|omega|((repeat (first|rw[World.size_up]|rw[World.size_dr]|rw[World.size_drN]))<;>omega)))|with_reducible refine Blk.alloc ?_ _));(first|done|with_reducible assumption))) ?_;rintro e w1 ⟨rfl,h2,h1⟩;refine⟨_,rfl,?_⟩;skip;have H1:=V h1;clear h1 h2))
    all_goals
      go_wp2_with fail
      go_meet
      first
      | exact boxed_new (U H1)
      | exact boxed_set (by omega) (putS_as _ _ _) (U H1) (U HJ) (by omega)
  case rest =>
    obtain⟨jb,rfl,hj,hF,hbx,hbl⟩:=hcut
    have hcb:=hbx _ _ _ (U HCB) (Or.inl rfl)
    have hcc2:=hcb.cell
    have hax:=aimHere_any B x (putS st 1 0) wc hF.e j (by rw[hereS_put];omega)
    rw[hereX_put,U HHX]at hax
    have HAX:=V hax
    obtain⟨s1,vo1,hblk1⟩:=hF.blk
    have hc1:=hblk1.cell
    unfold cpArr at hc1
    rw[hereX_put,U HHX]at hc1
    have H1:=V (And.intro hcb (And.intro hj (And.intro hF (And.intro hbx hbl))))
    clear hj hF hbx hbl hcb hcc hc HADD hax hblk1
    go_wp2_with fail
    refine (U HAX).mono ?_
    rintro e w2 ⟨rfl,k1,k2,k3⟩
    obtain⟨hcb,hj,hF,hbx,hbl⟩:=U H1
    have hcb2:=k2 _ _ _ hcb (Or.inl rfl)
    have hj2:=k2 _ _ _ hj (Or.inr (Or.inl rfl))
    have hcc3:=hcb2.cell
    have H2:=V (And.intro hcb2 (And.intro hj2 (And.intro k1 (And.intro k2 k3))))
    clear hcb hj hF hbx hbl hcb2 hj2 k1 k2 k3 hcc2 hc1 HAX
    go_wp2_with fail
    obtain⟨hcb2,hj2,k1,k2,k3⟩:=U H2
    refine (pushW B x (tellS (putS st 1 0) j) w2 k1 _ rfl (⟨#[101,108,115,101]⟩,0,hereS st) ⟨_,hcb2,Or.inr (Or.inl ⟨rfl,jb,hj2,rfl⟩)⟩ (by rw[(tellS_as _ _).2.2,(putS_as _ _ _).2.2];omega)).mono ?_
    rintro e w3 ⟨rfl,m1,m2,m3⟩
    clear hcb2 hj2 k1 k2 k3 hcc3
    go_wp2_with fail
    go_end0
    obtain⟨hcb,hj,hF,hbx,hbl⟩:=U H1
    obtain⟨hcb2,hj2,k1,k2,k3⟩:=U H2
    exact⟨rfl,m1,(BoxStill.ofBelow (U HB0)).trans (hbx.trans (k2.trans m2)),(below_less (U HB0) (by omega)).trans (hbl.trans (k3.trans m3))⟩
theorem Tryz.name188 : (Tryz.f188.name == "runtime.NumGoroutine") = false := by kernel_rfl
theorem Tryz.body188:Tryz.f188.body.isNone=false:=by kernel_rfl
theorem CpE.below {B:Nat} {w w':World} {x:CX} {st:RS} (h:CpE B w x st) (hb:Below w.heap.size w w'):CpE B w' x st:=by
  obtain⟨_,_,h⟩:=h.f
  exact (h.below hb).e
theorem CpE.size {B:Nat} {w:World} {x:CX} {st:RS} (h:CpE B w x st):B≤w.heap.size:=by
  obtain⟨_,_,h⟩:=h.f
  exact h.size
def After (B:Nat) (w:World) (x:CX) (st:RS) (v:Value) (e:Ending) (w':World):Prop:=e=.returned v∧CpE B w' x st∧BoxStill w w'∧Below B w w'
theorem aimW (B:Nat) (x:CX) (st:RS) (w:World) (h:CpE B w x st) (n:Nat) (hn:n<hereS st) :
    ∀ W:World,Below w.heap.size w W→Calls Tryz.prog 188 #[.pointer (some ⟨hereX x st,0,none⟩),.int .i64 n] W (After B w x (tellS st n) (.tuple #[])):=by
  intro W hW
  refine (aimHere_any B x st W (h.below hW) n hn).mono ?_
  rintro e w' ⟨rfl,h1,h2,h3⟩
  exact⟨rfl,h1,(BoxStill.ofBelow hW).trans h2,(below_less hW h.size).trans h3⟩
def Closed (B:Nat) (w:World) (x:CX) (r:Option RS) (e:Ending) (w':World):Prop:=e=.returned (.bool r.isSome)∧(∀ st',r=some st'→CpE B w' x st')∧(r=none→w'=w)∧BoxStill w w'∧Below B w w'
theorem Closed.yes {B:Nat} {w:World} {x:CX} {st:RS} {w':World} (h1:CpE B w' x st) (h2:BoxStill w w') (h3:Below B w w'):Closed B w x (some st) (.returned (.bool true)) w' :=
  ⟨rfl,fun st' e=>by cases e;exact h1,fun e=>by (cases e),h2,h3⟩
theorem Closed.no {B:Nat} {w:World} {x:CX}:Closed B w x none (.returned (.bool false)) w :=
  ⟨rfl,fun st' e=>by (cases e),fun _=>rfl,BoxStill.refl _,Below.refl _ _⟩
def closeIfR (st:RS) (n:Nat) (tok:ByteArray):Option RS :=
  if tok.toList == [116,104,101,110] then some (tellS st n)
  else if tok.toList == [101,108,115,101] then some (openS (tellS (putS st 1 0) n) (⟨#[101,108,115,101]⟩,0,hereS st))
  else none
def closeElseR (st:RS) (n:Nat) (tok:ByteArray):Option RS :=
  if tok.toList == [116,104,101,110] then some (tellS st n) else none
theorem closeIf_any (B:Nat) (x:CX) (st:RS) (w:World) (h:CpE B w x st) (cb jb n:Nat) (hcb:Blk w cb #[.pointer (some ⟨x.b,0,none⟩)] 91) (hjb:Blk w jb #[.int .i64 n] 2) (tok:ByteArray) (hn:n<hereS st) (hlen:hereS st<4000) (hop:st.opens.length<3980) :
    Calls Tryz.prog 187 #[.string tok,.pointer (some ⟨cb,0,none⟩),.pointer (some ⟨jb,0,none⟩)] w (Closed B w x (closeIfR st n tok)):=by
  obtain⟨fw,fo,hF⟩:=h.f
  have HAX:=V (aimW B x st w h n hn)
  have HEL:=V (openElse_any B x st w h n hn hlen hop)
  obtain⟨s0,vo,hblk⟩:=hF.blk
  have hc:=hblk.cell
  unfold cpArr at hc
  have hcc:=hcb.cell
  have hcj:=hjb.cell
  clear hblk hF h hcb hjb
  generalize hereX x st=hx at *
  unfold closeIfR
  by_cases h1:(tok.toList == [116,104,101,110])=true
  · rw[if_pos h1]
    have h1e:=tok_eq h1
    subst h1e
    clear h1
    go_enter Tryz.func187,Tryz.ntmps187
    go_wp2_with fail
    go_region_law (refine step_call rfl 188 #[.tmp 11,.tmp 12] #[96,2] rfl Tryz.func188 Tryz.name188 Tryz.body188 #[.pointer (some ⟨hx,0,none⟩),.int .i64 n] (by first|(simp[Act.eval];done)|rfl) (U HAX _ (by (repeat (first|with_reducible refine below_drew ?_|with_reducible refine below_drawn ?_ _|with_reducible refine below_longer ?_ _|(with_reducible refine Below.alloc ?_ ?_ _;rotate_left;(first|omega|((repeat (first|rw[World.size_up]|rw[World.size_dr]|rw[World.size_drN]))<;>omega)))));(with_reducible exact Below.refl _ _))) ?_;rintro e w1 ⟨rfl,h1⟩;refine⟨_,rfl,?_⟩;have H1:=V h1;clear h1)
    all_goals
      go_wp2_with fail
      go_ret
      obtain⟨k1,k2,k3⟩:=U H1
      exact Closed.yes k1 k2 k3
  · rw[if_neg h1]
    by_cases h2:(tok.toList == [101,108,115,101])=true
    · rw[if_pos h2]
      have h2e:=tok_eq h2
      subst h2e
      clear h1 h2
      go_enter Tryz.func187,Tryz.ntmps187
      go_wp2_with fail
      refine (U HEL).mono ?_
      rintro e w2 ⟨rfl,k1,k2,k3⟩
      go_wp2_with fail
      go_ret
      exact Closed.yes k1 k2 k3
    · rw[if_neg h2]
      have e1:(tok.toList == [116,104,101,110])=false:=by simpa using h1
      have e2:(tok.toList == [101,108,115,101])=false:=by simpa using h2
      go_enter Tryz.func187,Tryz.ntmps187
      go_wp2_with fail
      go_ret
      exact Closed.no
theorem closeElse_any (B:Nat) (x:CX) (st:RS) (w:World) (h:CpE B w x st) (cb jb n:Nat) (hcb:Blk w cb #[.pointer (some ⟨x.b,0,none⟩)] 91) (hjb:Blk w jb #[.int .i64 n] 2) (tok:ByteArray) (hn:n<hereS st) :
    Calls Tryz.prog 216 #[.string tok,.pointer (some ⟨cb,0,none⟩),.pointer (some ⟨jb,0,none⟩)] w (Closed B w x (closeElseR st n tok)):=by
  obtain⟨fw,fo,hF⟩:=h.f
  have HAX:=V (aimW B x st w h n hn)
  obtain⟨s0,vo,hblk⟩:=hF.blk
  have hc:=hblk.cell
  unfold cpArr at hc
  have hcc:=hcb.cell
  have hcj:=hjb.cell
  clear hblk hF h hcb hjb
  generalize hereX x st=hx at *
  unfold closeElseR
  by_cases h1:(tok.toList == [116,104,101,110])=true
  · rw[if_pos h1]
    have h1e:=tok_eq h1
    subst h1e
    clear h1
    go_enter Tryz.func216,Tryz.ntmps216
    go_wp2_with fail
    go_region_law (refine step_call rfl 188 #[.tmp 10,.tmp 11] #[96,2] rfl Tryz.func188 Tryz.name188 Tryz.body188 #[.pointer (some ⟨hx,0,none⟩),.int .i64 n] (by first|(simp[Act.eval];done)|rfl) (U HAX _ (by (repeat (first|with_reducible refine below_drew ?_|with_reducible refine below_drawn ?_ _|with_reducible refine below_longer ?_ _|(with_reducible refine Below.alloc ?_ ?_ _;rotate_left;(first|omega|((repeat (first|rw[World.size_up]|rw[World.size_dr]|rw[World.size_drN]))<;>omega)))));(with_reducible exact Below.refl _ _))) ?_;rintro e w1 ⟨rfl,h1⟩;refine⟨_,rfl,?_⟩;have H1:=V h1;clear h1)
    all_goals
      go_wp2_with fail
      go_ret
      obtain⟨k1,k2,k3⟩:=U H1
      exact Closed.yes k1 k2 k3
  · rw[if_neg h1]
    have e1:(tok.toList == [116,104,101,110])=false:=by simpa using h1
    go_enter Tryz.func216,Tryz.ntmps216
    go_wp2_with fail
    go_ret
    exact Closed.no
theorem Tryz.infoPart:(Tryz.prog.info? 140).map (fun i=>i.size)=some 1:=by kernel_rfl
theorem Tryz.partInfo:∃ i,Tryz.prog.info? 140=some i∧i.size≠0:=by
  match hq:Tryz.prog.info? 140 with
  | none=>have:=Tryz.infoPart;rw[hq]at this;cases this
  | some i=>exact⟨i,rfl,by have:=Tryz.infoPart;rw[hq]at this;simp at this;omega⟩
theorem part_same (w:World) (a:Addr):(binOp .neq 96 (.pointer (some a)) (.pointer (some a))).run Tryz.prog w=.ok (.bool false) w:=by
  obtain⟨i,hi,_⟩:=Tryz.partInfo
  exact Lib.run_neq_ptr_same w a Tryz.underlying96 hi
theorem part_other (w:World) {a b:Nat} {ca cb:Array Value} {ta tb:TypeId} (hne:a≠b) (ha:Blk w a ca ta) (hb:Blk w b cb tb):(binOp .neq 96 (.pointer (some ⟨a,0,none⟩)) (.pointer (some ⟨b,0,none⟩))).run Tryz.prog w=.ok (.bool true) w:=by
  obtain⟨i,hi,hz⟩:=Tryz.partInfo
  have h:∀ d:Nat,(Op.equalIn (d+1) 96 (.pointer (some ⟨a,0,none⟩)) (.pointer (some ⟨b,0,none⟩))).run Tryz.prog w=.ok false w:=fun d=>by
    simp[Op.equalIn,run_underlying Tryz.underlying96,sizeOf,typeInfo,hi,hz,run_sameAddr_other w (a:=⟨a,0,none⟩) (b:=⟨b,0,none⟩) (fun e=>hne (congrArg Addr.block e)) ha hb]
  simp only[binOp]
  simp[Op.equal,Op.maxDepth,h 9999]
theorem CpF.parts {B:Nat} {w:World} {x:CX} {st:RS} {fw fo:List Value} (h:CpF B w x st fw fo):∃ vd vm,Blk w x.d #[vd] 140∧Blk w x.m #[vm] 140:=by
  obtain⟨_,vd,vm,_,h⟩:=h
  exact⟨vd,vm,h.dp,h.mn⟩
theorem CpF.st0 {B:Nat} {w:World} {x:CX} {st:RS} {fw fo:List Value} (h:CpF B w x st fw fo):∃ s0 vo,Blk w x.b (cpArr x st s0 vo) 100∧(0≤st.start→s0=st.start)∧x.d≠x.m:=by
  obtain⟨s0,_,_,vo,h⟩:=h
  exact⟨s0,vo,h.blk,h.start,h.dm⟩
theorem recur_yes (B:Nat) (x:CX) (st:RS) (w:World) (h:CpE B w x st) (hs:0≤st.start) (hlen:hereS st<4000) :
    Calls Tryz.prog 142 #[.pointer (some ⟨x.b,0,none⟩)] w (After B w x (putS st 3 st.start) (.int .i64 0)):=by
  obtain⟨fw,fo,hF⟩:=h.f
  obtain⟨s0,vo,hblk,hs0,_⟩:=hF.st0
  obtain rfl:=hs0 hs
  have hc:=hblk.cell
  unfold cpArr at hc
  have e:hereX x st=x.d:=by unfold hereX;rw[if_pos hs]
  rw[e]at hc
  have hpq:=part_same w.drew ⟨x.d,0,none⟩
  have HF:=V hF
  have HBK:=V hblk
  have HE:=V e
  clear hblk hF h e hs0
  generalize hse:st.start=s at *
  have HSE:=V hse
  clear hse
  go_enter Tryz.func142,Tryz.ntmps142
  go_wp2_with fail
  go_cut [11] from 3 to 22 (fun s11 wc=>s11=.bool false∧Below w.heap.size w wc)
  case first =>
    go_region_law (fail)
    all_goals
      go_wp2_with fail
      go_meet
      exact⟨rfl,below_drawn (Below.refl _ _) 1⟩
  case rest =>
    obtain⟨rfl,hbw⟩:=hcut
    have hF1:=(U HF).below hbw
    have HADD:=V (addW B x st wc fw fo hF1 3 s hlen)
    rw[U HE]at HADD
    have hc1:=((U HBK).below hbw (U HBK).lt).cell
    unfold cpArr at hc1
    rw[U HE]at hc1
    have hxl:=hF1.size0
    have hxa:x.b<wc.heap.size+1:=by omega
    have hxb:x.b≤wc.heap.size:=by omega
    have hxc:x.b≤wc.heap.size+1:=by omega
    have hxd:x.b<wc.heap.size+1+1:=by omega
    have HBW:=V hbw
    clear hF1 hbw hc hpq
    go_wp2_with fail
    go_region_law (first
      | (refine step_call rfl 77 #[.const (.int .i64 3),.tmp 19] #[3,2] rfl Tryz.func77 Tryz.name77 Tryz.body77 #[.int .i64 3,.int .i64 s] (by first|(simp[Act.eval];done)|(simp[Act.eval,Act.put];done)|rfl) (withI_any 3 s _) ?_;rintro e w1 ⟨rfl,rfl⟩;refine⟨_,rfl,?_⟩)
      | (refine step_call rfl 50 #[.tmp 15,.tmp 21] #[96,33] rfl Tryz.func50 Tryz.name50 Tryz.body50 #[.pointer (some ⟨x.d,0,none⟩),.slice (some ⟨wc.heap.size+1,0,none⟩) 1 1] (by first|(simp[Act.eval];done)|(simp[Act.eval,Act.put];done)|rfl) (U HADD _ (wc.heap.size+1) (by (repeat (first|with_reducible refine below_drew ?_|with_reducible refine below_drawn ?_ _|with_reducible refine below_longer ?_ _|(with_reducible refine Below.alloc ?_ ?_ _;rotate_left;(first|omega|((repeat (first|rw[World.size_up]|rw[World.size_dr]|rw[World.size_drN]))<;>omega)))));(with_reducible exact Below.refl _ _)) (by (repeat (first|with_reducible refine Blk.drew ?_|with_reducible refine Blk.drewN ?_ _|(with_reducible refine blk_newAt _ _ ?_;(first|omega|((repeat (first|rw[World.size_up]|rw[World.size_dr]|rw[World.size_drN]))<;>omega)))|with_reducible refine Blk.alloc ?_ _));(first|done|with_reducible assumption))) ?_;rintro e w1 ⟨rfl,h2,h1⟩;refine⟨_,rfl,?_⟩;have H1:=V h1;clear h1 h2))
    all_goals
      go_wp2_with fail
      go_ret
      obtain⟨k1,_,k2,k3⟩:=U H1
      exact⟨rfl,k1.e,(BoxStill.ofBelow (U HBW)).trans k2,(below_less (U HBW) (U HF).size).trans k3⟩
theorem recur_no (B:Nat) (x:CX) (st:RS) (w:World) (h:CpE B w x st) (hs:st.start<0) :
    Calls Tryz.prog 142 #[.pointer (some ⟨x.b,0,none⟩)] w (fun e w'=>e=.returned (.int .i64 2)∧CpE B w' x st∧Below B w w'):=by
  have HH:=V h
  obtain⟨fw,fo,hF⟩:=h.f
  obtain⟨s0,vo,hblk,_,hdm⟩:=hF.st0
  have hc:=hblk.cell
  unfold cpArr at hc
  have e:hereX x st=x.m:=by unfold hereX;rw[if_neg (by omega)]
  rw[e]at hc
  have hmd:x.m≠x.d:=fun e=>hdm e.symm
  obtain⟨vd,vm,hd,hm⟩:=hF.parts
  have hpq:=part_other w.drew hmd hm.drew hd.drew
  clear hd hm
  clear hblk hF h e
  go_enter Tryz.func142,Tryz.ntmps142
  go_wp2_with fail
  go_cut [11] from 3 to 22 (fun s11 wc=>s11=.bool true∧wc=w.drewN 1)
  case first =>
    go_region_law (fail)
    all_goals
      go_wp2_with fail
      go_meet
      exact⟨rfl,rfl⟩
  case rest =>
    obtain⟨rfl,rfl⟩:=hcut
    go_wp2_with fail
    go_ret
    exact⟨rfl,(U HH).below (below_drawn (Below.refl _ _) 1),below_drawn (Below.refl _ _) 1⟩
def crArr (x:CX) (st:RS) (hx:Nat) (s0:Int) (vo:Value):Array Value :=
  #[.pointer (some ⟨x.r,0,none⟩),.int .i64 st.place0,.pointer (some ⟨x.d,0,none⟩),.pointer (some ⟨x.m,0,none⟩),.pointer (some ⟨hx,0,none⟩),.int .i64 s0,.map (some x.mp),.int .i64 st.cells,vo]
structure Cr (B:Nat) (w:World) (x:CX) (st:RS) (hx:Nat) (s0:Int) (vd vm vo:Value) (fs:List Value):Prop where
  blk:Blk w x.b (crArr x st hx s0 vo) 100
  rdr:Blk w x.r (rdrA st.s st.next) 192
  dp:Blk w x.d #[vd] 140
  mn:Blk w x.m #[vm] 140
  dm:x.d≠x.m
  base:B≤x.b∧B≤x.r∧B≤x.d∧B≤x.m∧B≤x.mp
  owned:Owned B w [x.b,x.r,x.d,x.m,x.mp] [vd,vm,vo] (cpRows st fs)
  names:MapIs w x.mp st.names
  small:st.c0.length≤4000∧st.c1.length≤4000∧st.names.length≤4000∧st.opens.length≤4000∧st.s.size≤2000
section
variable {B:Nat} {w w' w1:World} {x:CX} {st:RS} {hx:Nat} {s0:Int} {vd vm vo:Value} {fs fw fo:List Value}
theorem Cp.raw (h:Cp B w x st s0 vd vm vo fw fo):Cr B w x st (hereX x st) s0 vd vm vo (fw++fo) :=
  ⟨h.blk,h.rdr,h.dp,h.mn,h.dm,h.base,h.owned,h.names,h.small⟩
theorem Cr.cp (h:Cr B w x st (hereX x st) s0 vd vm vo (fw++fo)) (hs:0≤st.start→s0=st.start) (ht:Things w x.b st fw fo):Cp B w x st s0 vd vm vo fw fo :=
  ⟨h.blk,h.rdr,h.dp,h.mn,h.dm,h.base,h.owned,h.names,hs,ht,h.small⟩
theorem Cr.od (h:Cr B w x st hx s0 vd vm vo fs):w.ownsRow B 65 2 vd st.c0.length (instrCells st.c0):=h.owned.own 0 vd _ rfl rfl
theorem Cr.oo (h:Cr B w x st hx s0 vd vm vo fs):w.ownsRow B 235 1 vo fs.length fs:=h.owned.own 2 vo _ rfl rfl
theorem Cr.size (h:Cr B w x st hx s0 vd vm vo fs):B≤w.heap.size:=by have:=h.base;have:=h.blk.lt;omega
theorem Cr.below (h:Cr B w x st hx s0 vd vm vo fs) (hb:Below w.heap.size w w'):Cr B w' x st hx s0 vd vm vo fs :=
  ⟨h.blk.below hb h.blk.lt,h.rdr.below hb h.rdr.lt,h.dp.below hb h.dp.lt,h.mn.below hb h.mn.lt,h.dm,h.base,h.owned.below_all hb,h.names.to (hb.block _ h.names.lt),h.small⟩
theorem Cr.ne (h:Cr B w x st hx s0 vd vm vo fs):x.r≠x.b∧x.d≠x.b∧x.m≠x.b∧x.mp≠x.b:=by
  refine⟨fun e=>?_,fun e=>?_,fun e=>?_,h.names.notblk h.blk⟩
  · have h1:=h.blk;have h2:=h.rdr;rw[e]at h2;unfold Blk at h1 h2;rw[h1]at h2;simp at h2
  · have h1:=h.blk;have h2:=h.dp;rw[e]at h2;unfold Blk at h1 h2;rw[h1]at h2;simp at h2
  · have h1:=h.blk;have h2:=h.mn;rw[e]at h2;unfold Blk at h1 h2;rw[h1]at h2;simp at h2
theorem Cr.setB (h:Cr B w x st hx s0 vd vm vo fs) (i:Nat) (u:Value) (hx':Nat) (s0':Int) (ha:(crArr x st hx s0 vo).setIfInBounds i u=crArr x st hx' s0' vo):Cr B (w.setCell ⟨x.b,i,none⟩ u) x st hx' s0' vd vm vo fs∧BoxStill w (w.setCell ⟨x.b,i,none⟩ u)∧Below B w (w.setCell ⟨x.b,i,none⟩ u):=by
  refine⟨⟨?_,h.rdr.far h.ne.1 u,h.dp.far h.ne.2.1 u,h.mn.far h.ne.2.2.1 u,h.dm,h.base,h.owned.set (by simp) i u,h.names.to (Below.heap_setCell _ _ _ _ h.ne.2.2.2),h.small⟩,?_,(Below.refl B w).setCell h.base.1 _⟩
  · rw[← ha];exact h.blk.set i u
  · refine fun k cs T hb ht=>hb.far ?_ u
    intro e
    simp at e
    subst e
    have h1:=h.blk
    unfold Blk at h1 hb
    rw[hb]at h1
    simp at h1
    have:=h1.2
    subst this
    rcases ht with e|e|e<;>exact absurd e (by decide)
theorem Cr.growO (h:Cr B w x st hx s0 vd vm vo fs) {f:Value} {g cap:Nat} (hg:w.grownBy w1 vo.ownBlock) (hown:w1.ownsRow B 235 1 (.slice (some ⟨g,0,none⟩) (fs.length+1) cap) (fs.length+1) (fs++[f])) (hat:vo.ownBlock=some g∨g=w.heap.size) :
    Cr B (w1.setCell ⟨x.b,8,none⟩ (.slice (some ⟨g,0,none⟩) (fs.length+1) cap)) x st hx s0 vd vm (.slice (some ⟨g,0,none⟩) (fs.length+1) cap) (fs++[f])∧BoxStill w (w1.setCell ⟨x.b,8,none⟩ (.slice (some ⟨g,0,none⟩) (fs.length+1) cap))∧Below B w (w1.setCell ⟨x.b,8,none⟩ (.slice (some ⟨g,0,none⟩) (fs.length+1) cap)):=by
  have hst:Still w (w1.setCell ⟨x.b,8,none⟩ (.slice (some ⟨g,0,none⟩) (fs.length+1) cap)) (fun k=>k=x.b∨vo.ownBlock=some k) :=
    Still.set (F:=fun k=>k=x.b∨vo.ownBlock=some k) (Still.grown (F:=fun k=>k=x.b∨vo.ownBlock=some k) (Still.refl w _) hg (fun k hk=>Or.inl (Or.inr hk))) (Or.inl (Or.inl rfl)) _ _
  have off:∀ k∈[x.b,x.r,x.d,x.m,x.mp],¬ vo.ownBlock=some k:=fun k hk e=>h.owned.off 2 vo k rfl hk e
  have hbx:BoxStill w (w1.setCell ⟨x.b,8,none⟩ (.slice (some ⟨g,0,none⟩) (fs.length+1) cap)):=by
    refine BoxStill.ofStill hst (fun k cs T hb ht e=>?_)
    rcases e with e|e
    · subst e
      have h1:=h.blk
      unfold Blk at h1 hb
      rw[hb]at h1
      simp at h1
      have:=h1.2
      subst this
      rcases ht with e|e|e<;>exact absurd e (by decide)
    · rcases ht with e1|e1|e1<;>subst e1<;>exact row_not_blk hb h.oo (by decide) e
  have hlts:∀ b∈[x.b,x.r,x.d,x.m,x.mp],b<w.heap.size:=by
    intro b hb
    simp at hb
    rcases hb with rfl|rfl|rfl|rfl|rfl
    · exact h.blk.lt
    · exact h.rdr.lt
    · exact h.dp.lt
    · exact h.mn.lt
    · exact h.names.lt
  refine⟨⟨?_,?_,?_,?_,h.dm,h.base,?_,?_,h.small⟩,hbx,?_⟩
  · have:=(h.blk.grown hg (fun e=>off x.b (by simp) e.symm)).set 8 (.slice (some ⟨g,0,none⟩) (fs.length+1) cap)
    unfold crArr at this
    simp only[List.setIfInBounds_toArray,List.set_cons_succ,List.set_cons_zero]at this
    exact this
  · exact h.rdr.still hst (fun e=>by rcases e with e|e;exact h.ne.1 e;exact off x.r (by simp) e)
  · exact h.dp.still hst (fun e=>by rcases e with e|e;exact h.ne.2.1 e;exact off x.d (by simp) e)
  · exact h.mn.still hst (fun e=>by rcases e with e|e;exact h.ne.2.2.1 e;exact off x.m (by simp) e)
  · have:=(h.owned.grow 2 vo (.slice (some ⟨g,0,none⟩) (fs.length+1) cap) ⟨235,1,fs.length+1,fs++[f]⟩ rfl hlts hg hown (lies_at hat (Nat.le_refl _))).set (b:=x.b) (by simp) 8 (.slice (some ⟨g,0,none⟩) (fs.length+1) cap)
    have e:cpRows st (fs++[f])=(cpRows st fs).set 2 ⟨235,1,fs.length+1,fs++[f]⟩:=by
      unfold cpRows
      simp
    rw[e]
    exact this
  · exact h.names.to (hst.block _ h.names.lt (fun e=>by rcases e with e|e;exact h.ne.2.2.2 e;exact off x.mp (by simp) e))
  · exact hst.below (fun k hk=>by rcases hk with rfl|hk;exact h.base.1;exact (ownsRow_lt h.oo hk).2) h.size
end
theorem rpush_any (B:Nat) (x:CX) (st:RS) (w:World) (hx:Nat) (s0:Int) (vd vm vo:Value) (fs:List Value) (h:Cr B w x st hx s0 vd vm vo fs) (q:Nat) (f:Value) (hf1:f.oneCell'=true) (hq:Blk w q #[f] 235) (hlen:fs.length<3990) :
    Calls Tryz.prog 186 #[.pointer (some ⟨x.b,0,none⟩),.slice (some ⟨q,0,none⟩) 1 1] w fun e w'=>e=.returned (.tuple #[])∧∃ vo',Cr B w' x st hx s0 vd vm vo' (fs++[f])∧BoxStill w w'∧Below B w w':=by
  obtain⟨iT,hiT,hzT0,hzT1,hzT2⟩:=info_parts Tryz.infoThing
  obtain⟨ao,co,hvo⟩:=own_shape h.oo
  subst hvo
  have hne:some x.b≠(Value.slice ao fs.length co).ownBlock:=fun e=>h.owned.off 2 _ x.b rfl (by simp) e.symm
  have hc:=h.blk.cell
  have hf:=h.blk.free
  unfold crArr at hc
  have HO:=V h.oo
  have HB:=V h.blk
  unfold crArr at HB
  have HS:=V h.size
  have HH:=V h
  have HQ:=V hq
  clear h hq
  generalize hL:fs.length=L at *
  have HL:=V hL
  clear hL
  go_enter Tryz.func186,Tryz.ntmps186
  go_wp2_with (at_builtin;refine wpList_append_lies _ rfl (.tmp 8) (.tmp 9) 98 rfl B 235 iT _ 1 8 Tryz.underlying98 hiT hzT0 hzT1 hzT2 rfl (by decide) (.slice ao L co) L fs (by simp[Act.eval]) (U HO) ⟨q,0,none⟩ 1 1 [f] (by simp[Act.eval]) rfl (World.news_of_block (U HQ)) (by simpa using hf1) (by omega) (by unfold maxLen;omega) (by omega) (U HS) _ rfl ?_;intro g cap w5 hown hgrow hat hlt1;have hb5:=(U HB).grown hgrow hne;have hc5:=hb5.cell;have hf5:=hb5.free;have HOW:=V hown;have HG:=V hgrow;have HA:=V hat;clear hown hgrow hat hb5 hc hf)
  go_end0
  obtain rfl:=(U HL).symm
  obtain⟨k1,k2,k3⟩:=(U HH).growO (U HG) (U HOW) (U HA)
  exact⟨rfl,_,k1,k2,k3⟩
theorem Cr.word {B:Nat} {w:World} {x:CX} {st:RS} {vd vm vo f:Value} {nm:ByteArray} (h:Cr B w x st x.d st.c0.length vd vm vo ([]++[f])) (hop:st.opens=[]) (hf:WordOk w x.b f nm):CpE B w x (colonS st nm):=by
  have e:hereX x (colonS st nm)=x.d:=by unfold hereX;exact if_pos (by simp[colonS])
  refine⟨st.c0.length,vd,vm,vo,[f],[],Cr.cp (fw:=[f]) (fo:=[]) ?_ (fun _=>rfl) ⟨fun _=>⟨f,rfl,hf⟩,fun hs=>absurd hs (by simp[colonS]),by simp[colonS,hop],fun i f o h1 _=>by simp at h1⟩⟩
  rw[e]
  exact⟨h.blk,h.rdr,h.dp,h.mn,h.dm,h.base,h.owned,h.names,h.small⟩
theorem openWord_any (B:Nat) (x:CX) (st:RS) (w:World) (h:CpE B w x st) (nm:ByteArray) (hs:st.start<0) (hop:st.opens=[]) :
    Calls Tryz.prog 194 #[.pointer (some ⟨x.b,0,none⟩),.string nm] w fun e w'=>e=.returned (.tuple #[])∧CpE B w' x (colonS st nm)∧BoxStill w w'∧Below B w w':=by
  obtain⟨s0,vd,vm,vo,fw,fo,h⟩:=h
  obtain rfl:=h.things.none hs
  have hfo:fo=[]:=by have:=h.things.len;rw[hop]at this;simpa using this
  subst hfo
  have hb0:Below w.heap.size w ((w.alloc (.cells #[.pointer (some ⟨x.b,0,none⟩)] 91)).alloc (.cells #[.string nm] 9)):=by (repeat (first|with_reducible refine below_drew ?_|with_reducible refine below_drawn ?_ _|with_reducible refine below_longer ?_ _|(with_reducible refine Below.alloc ?_ ?_ _;rotate_left;(first|omega|((repeat (first|rw[World.size_up]|rw[World.size_dr]|rw[World.size_drN]))<;>omega)))));(with_reducible exact Below.refl _ _)
  have hcb:Blk ((w.alloc (.cells #[.pointer (some ⟨x.b,0,none⟩)] 91)).alloc (.cells #[.string nm] 9)) w.heap.size #[.pointer (some ⟨x.b,0,none⟩)] 91:=by (repeat (first|with_reducible refine Blk.drew ?_|with_reducible refine Blk.drewN ?_ _|(with_reducible refine blk_newAt _ _ ?_;(first|omega|((repeat (first|rw[World.size_up]|rw[World.size_dr]|rw[World.size_drN]))<;>omega)))|with_reducible refine Blk.alloc ?_ _));(first|done|with_reducible assumption)
  have hnb:Blk ((w.alloc (.cells #[.pointer (some ⟨x.b,0,none⟩)] 91)).alloc (.cells #[.string nm] 9)) (w.heap.size+1) #[.string nm] 9:=by (repeat (first|with_reducible refine Blk.drew ?_|with_reducible refine Blk.drewN ?_ _|(with_reducible refine blk_newAt _ _ ?_;(first|omega|((repeat (first|rw[World.size_up]|rw[World.size_dr]|rw[World.size_drN]))<;>omega)))|with_reducible refine Blk.alloc ?_ _));(first|done|with_reducible assumption)
  have hB:=h.size
  have hr:=h.raw.below hb0
  have hc:=hr.blk.cell
  have hf:=hr.blk.free
  unfold crArr at hc
  have hcc:=hcb.cell
  have HR:=V hr
  have HCB:=V hcb
  have HNB:=V hnb
  have HB0:=V hb0
  have hxw:x.b<w.heap.size:=h.blk.lt
  have hxn:x.b≠w.heap.size:=by omega
  have hnx:w.heap.size≠x.b:=by omega
  clear hcb hnb hb0 hr h
  generalize hereX x st=hx at *
  go_enter Tryz.func194,Tryz.ntmps194
  go_wp2_with fail
  generalize (w.alloc (.cells #[.pointer (some ⟨x.b,0,none⟩)] 91)).alloc (.cells #[.string nm] 9)=W0 at *
  go_cut [] from 4 to 23 (fun wc=>Cr B wc x st x.d s0 vd vm vo []∧BoxStill W0 wc∧Below B W0 wc)
  case first =>
    go_region_law (fail)
    all_goals
      go_wp2_with fail
      go_meet
      obtain⟨k1,k2,k3⟩:=(U HR).setB 4 (.pointer (some ⟨x.d,0,none⟩)) x.d s0 rfl
      first
      | exact⟨k1,k2,k3⟩
      | exact⟨k1.below (below_drew (Below.refl _ _)),k2,below_drew k3⟩
      | exact⟨k1.below (below_drawn (Below.refl _ _) 1),k2,below_drawn k3 1⟩
  case rest =>
    obtain⟨hr1,hbx1,hbl1⟩:=hcut
    have hcb1:=hbx1 _ _ _ (U HCB) (Or.inl rfl)
    have hcc1:=hcb1.cell
    have hc1:=hr1.blk.cell
    have hf1:=hr1.blk.free
    unfold crArr at hc1
    obtain⟨ad,kd,hvd⟩:=own_shape hr1.od
    subst hvd
    have hsm:=hr1.small
    have HN:Hid (∀ m,Calls Tryz.prog 78 #[.pointer (some ⟨x.d,0,none⟩)] (wc.drewN m) fun e w'=>e=.returned (.int .i64 st.c0.length)∧w'=wc.drewN m):=fun m=>partNext_any x.d st.c0.length ad kd (wc.drewN m) hr1.dp (by omega)
    have HR1:=V hr1
    have HX1:=V (And.intro hbx1 hbl1)
    have HCB1:=V hcb1
    clear hr1 hbx1 hbl1 hcb1 hc hf hcc
    go_wp2_with fail
    go_cut [] from 4 to 23 (fun wd=>Cr B wd x st x.d st.c0.length (.slice ad st.c0.length kd) vm vo []∧BoxStill W0 wd∧Below B W0 wd)
    case first =>
      go_region_law (refine step_call rfl 78 #[.tmp 15] #[96] rfl Tryz.func78 Tryz.name78 Tryz.body78 #[.pointer (some ⟨x.d,0,none⟩)] (by first|(simp[Act.eval];done)|(simp[Act.eval,Act.put];done)|rfl) (U HN 1) ?_;rintro e w1 ⟨rfl,rfl⟩;refine⟨_,rfl,?_⟩)
      all_goals
        go_wp2_with fail
        go_meet
        obtain⟨k1,k2,k3⟩:=(U HR1).setB 5 (.int .i64 st.c0.length) x.d st.c0.length rfl
        obtain⟨m1,m2⟩:=U HX1
        first
        | exact⟨k1,m1.trans k2,m2.trans k3⟩
        | exact⟨k1.below (below_drawn (Below.refl _ _) 1),m1.trans k2,m2.trans (below_drawn k3 1)⟩
    case rest =>
      obtain⟨hr2,hbx2,hbl2⟩:=hcut
      have hcb2:=hbx2 _ _ _ (U HCB) (Or.inl rfl)
      have hnb2:=hbx2 _ _ _ (U HNB) (Or.inr (Or.inr rfl))
      have hcc2:=hcb2.cell
      have H2:=V (And.intro hr2 (And.intro hbx2 (And.intro hbl2 (And.intro hcb2 hnb2))))
      clear hr2 hbx2 hbl2 hcb2 hnb2 hcc1 hc1 hf1 HN
      go_wp2_with fail
      obtain⟨hr2,hbx2,hbl2,hcb2,hnb2⟩:=U H2
      have hb3:Below wc.heap.size wc (wc.alloc (.cells #[.func (.func 218) #[] #[.pointer (some ⟨w.heap.size,0,none⟩),.pointer (some ⟨w.heap.size+1,0,none⟩)]] 235)):=by (repeat (first|with_reducible refine below_drew ?_|with_reducible refine below_drawn ?_ _|with_reducible refine below_longer ?_ _|(with_reducible refine Below.alloc ?_ ?_ _;rotate_left;(first|omega|((repeat (first|rw[World.size_up]|rw[World.size_dr]|rw[World.size_drN]))<;>omega)))));(with_reducible exact Below.refl _ _)
      refine (rpush_any B x st _ x.d st.c0.length _ vm vo [] (hr2.below hb3) wc.heap.size _ rfl (Blk.new _ _ _) (by simp)).mono ?_
      rintro e w3 ⟨rfl,vo',k1,k2,k3⟩
      have H3:=V (And.intro k1 (And.intro k2 (And.intro k3 hb3)))
      clear hr2 hbx2 hbl2 hcb2 hnb2 k1 k2 k3 hb3 hcc2
      go_wp2_with fail
      go_end0
      obtain⟨hr2,hbx2,hbl2,hcb2,hnb2⟩:=U H2
      obtain⟨k1,k2,k3,hb3⟩:=U H3
      have k2':=(BoxStill.ofBelow hb3).trans k2
      have hwc:=hr2.size
      exact⟨rfl,k1.word hop ⟨_,_,k2' _ _ _ hcb2 (Or.inl rfl),k2' _ _ _ hnb2 (Or.inr (Or.inr rfl)),rfl⟩,(BoxStill.ofBelow (U HB0)).trans (hbx2.trans k2'),(below_less (U HB0) hB).trans (hbl2.trans ((below_less hb3 hwc).trans k3))⟩
end Go.Proofs.YtmeiikjpaepogaaGreatDoor
