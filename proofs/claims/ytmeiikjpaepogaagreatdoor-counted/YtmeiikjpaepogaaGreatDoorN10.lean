/- The program's compiler: what opens. -/
import Derived.Test.YtmeiikjpaepogaaGreatDoorN09
import Derived.Deep.CutRange
import Derived.Lib.Builder
set_option maxRecDepth 100000
set_option maxHeartbeats 4000000
namespace Go.Proofs.YtmeiikjpaepogaaGreatDoor
open Go Go.RowKit
theorem Tryz.name50 : (Tryz.f50.name == "runtime.NumGoroutine") = false := by kernel_rfl
theorem Tryz.body50:Tryz.f50.body.isNone=false:=by kernel_rfl
theorem Tryz.name51 : (Tryz.f51.name == "runtime.NumGoroutine") = false := by kernel_rfl
theorem Tryz.body51:Tryz.f51.body.isNone=false:=by kernel_rfl
theorem Tryz.name77 : (Tryz.f77.name == "runtime.NumGoroutine") = false := by kernel_rfl
theorem Tryz.body77:Tryz.f77.body.isNone=false:=by kernel_rfl
def CpF (B:Nat) (w:World) (x:CX) (st:RS) (fw fo:List Value):Prop:=∃ s0 vd vm vo,Cp B w x st s0 vd vm vo fw fo
theorem CpF.e {B:Nat} {w:World} {x:CX} {st:RS} {fw fo:List Value} (h:CpF B w x st fw fo):CpE B w x st:=by
  obtain⟨_,_,_,_,h⟩:=h
  exact⟨_,_,_,_,_,_,h⟩
theorem CpE.f {B:Nat} {w:World} {x:CX} {st:RS} (h:CpE B w x st):∃ fw fo,CpF B w x st fw fo:=by
  obtain⟨_,_,_,_,_,_,h⟩:=h
  exact⟨_,_,_,_,_,_,h⟩
section
variable {B:Nat} {w w' W0 w1:World} {x:CX} {st st':RS} {s0:Int} {vd vm vo:Value} {fw fo:List Value}
theorem CpF.below (h:CpF B w x st fw fo) (hb:Below w.heap.size w w'):CpF B w' x st fw fo:=by
  obtain⟨_,_,_,_,h⟩:=h
  exact⟨_,_,_,_,h.below hb⟩
theorem CpF.size (h:CpF B w x st fw fo):B≤w.heap.size:=by
  obtain⟨_,_,_,_,h⟩:=h
  exact h.size
theorem CpF.blk (h:CpF B w x st fw fo):∃ s0 vo,Blk w x.b (cpArr x st s0 vo) 100:=by
  obtain⟨s0,_,_,vo,h⟩:=h
  exact⟨s0,vo,h.blk⟩
theorem CpF.things (h:CpF B w x st fw fo):Things w x.b st fw fo:=by
  obtain⟨_,_,_,_,h⟩:=h
  exact h.things
theorem Things.as (h:Things w x.b st fw fo) (e:st'.start=st.start∧st'.name=st.name∧st'.opens=st.opens):Things w x.b st' fw fo :=
  ⟨fun hs=>by rw[e.1]at hs;rw[e.2.1];exact h.word hs,fun hs=>h.none (by rw[e.1]at hs;exact hs),by rw[e.2.2];exact h.len,fun i f o h1 h2=>h.each i f o h1 (by rw[e.2.2]at h2;exact h2)⟩
theorem putS_as (st:RS) (op arg:Int):(putS st op arg).start=st.start∧(putS st op arg).name=st.name∧(putS st op arg).opens=st.opens:=by
  unfold putS;split<;>exact⟨rfl,rfl,rfl⟩
theorem tellS_as (st:RS) (n:Nat):(tellS st n).start=st.start∧(tellS st n).name=st.name∧(tellS st n).opens=st.opens:=by
  unfold tellS;split<;>exact⟨rfl,rfl,rfl⟩
theorem Cp.boxset (h:Cp B w x st s0 vd vm vo fw fo) {jb:Nat} {cs:Array Value} {T:TypeId} (hq:Blk w jb cs T) (hT:T=91∨T=2∨T=9) (i:Nat) (v:Value) (ht:Things (w.setCell ⟨jb,i,none⟩ v) x.b st fw fo):Cp B (w.setCell ⟨jb,i,none⟩ v) x st s0 vd vm vo fw fo:=by
  have hst:Still w (w.setCell ⟨jb,i,none⟩ v) (fun k=>k=jb):=Still.set (F:=fun k=>k=jb) (Still.refl w _) (Or.inl rfl) _ _
  have no:∀ {k:Nat} {cs':Array Value} {T':TypeId},Blk w k cs' T'→(T'=T→False)→¬ (k=jb):=fun hb' hne e=>by
    subst e
    unfold Blk at hq hb'
    rw[hq]at hb'
    simp at hb'
    exact hne hb'.2.symm
  refine⟨h.blk.still hst (no h.blk ?_),h.rdr.still hst (no h.rdr ?_),h.dp.still hst (no h.dp ?_),h.mn.still hst (no h.mn ?_),h.dm,h.base,?_,h.names.to (hst.block _ h.names.lt (h.names.notblk hq)),h.start,ht,h.small⟩
  · rcases hT with e|e|e<;>subst e<;>decide
  · rcases hT with e|e|e<;>subst e<;>decide
  · rcases hT with e|e|e<;>subst e<;>decide
  · rcases hT with e|e|e<;>subst e<;>decide
  · refine h.owned.to (fun n u k hv hk hlt=>hst.block k hlt (fun e=>?_))
    subst e
    match n,hv with
    | 0, hv => obtain rfl : vd = u := by simpa using hv
               rcases hT with e|e|e<;>subst e<;>exact row_not_blk hq h.od (by decide) hk
    | 1, hv => obtain rfl : vm = u := by simpa using hv
               rcases hT with e|e|e<;>subst e<;>exact row_not_blk hq h.om (by decide) hk
    | 2, hv => obtain rfl : vo = u := by simpa using hv
               rcases hT with e|e|e<;>subst e<;>exact row_not_blk hq h.oo (by decide) hk
    | n+3,hv=>simp at hv
theorem CpF.box (h:CpF B w1 x st' fw fo) (h0:Things W0 x.b st fw fo) (e:st'.start=st.start∧st'.name=st.name∧st'.opens=st.opens) (hbx:BoxStill W0 w1) {jb:Nat} {v0:Value} {T:TypeId} (hq:Blk w1 jb #[v0] T) (hT:T=91∨T=2∨T=9) (hj:W0.heap.size≤jb) (v:Value) :
    CpF B (w1.setCell ⟨jb,0,none⟩ v) x st' fw fo∧BoxStill W0 (w1.setCell ⟨jb,0,none⟩ v)∧Blk (w1.setCell ⟨jb,0,none⟩ v) jb #[v] T:=by
  have hbx2:BoxStill W0 (w1.setCell ⟨jb,0,none⟩ v):=fun k cs T hb ht=>(hbx k cs T hb ht).far (by have:=hb.lt;simp;omega) v
  obtain⟨_,_,_,_,h⟩:=h
  exact⟨⟨_,_,_,_,h.boxset hq hT 0 v ((h0.as e).box hbx2)⟩,hbx2,by simpa using hq.set 0 v⟩
end
theorem World.size_up (w:World) (o:Obj):(w.alloc o).heap.size=w.heap.size+1:=by simp
theorem World.size_dr (w:World):w.drew.heap.size=w.heap.size:=rfl
theorem World.size_drN (w:World) (n:Nat):(w.drewN n).heap.size=w.heap.size:=rfl
theorem below_drew {B:Nat} {a w:World} (h:Below B a w):Below B a w.drew:=⟨h.os,h.tape,h.output,h.size,h.block⟩
theorem below_longer {a w:World} (h:Below a.heap.size a w) (o:Obj):Below a.heap.size a (w.alloc o):=h.alloc h.size o
theorem blk_newAt {w:World} {q:Nat} (cs:Array Value) (T:TypeId) (h:q=w.heap.size):Blk (w.alloc (.cells cs T)) q cs T:=by subst h;exact Blk.new w cs T
def AddPost (B:Nat) (W:World) (x:CX) (st:RS) (fw fo:List Value) (op arg:Int) (e:Ending) (w':World):Prop:=e=.returned (.int .i64 (hereS st))∧CpF B w' x (putS st op arg) fw fo∧BoxStill W w'∧Below B W w'
theorem addF_any (B:Nat) (x:CX) (st:RS) (w:World) (fw fo:List Value) (h:CpF B w x st fw fo) (q:Nat) (op arg:Int) (c1:Nat) (hq:Blk w q #[.int .i64 op,.int .i64 arg] 65) (hlen:hereS st<4000) :
    Calls Tryz.prog 50 #[.pointer (some ⟨hereX x st,0,none⟩),.slice (some ⟨q,0,none⟩) 1 c1] w (AddPost B w x st fw fo op arg):=by
  obtain⟨s0,vd,vm,vo,h⟩:=h
  unfold AddPost hereX hereS putS
  unfold hereS at hlen
  by_cases hs:0≤st.start
  · simp only[if_pos hs]at hlen ⊢
    refine (partAdd_any B x.d q vd st.c0 op arg c1 w h.dp h.od hq h.size (by omega)).mono ?_
    rintro e w' ⟨rfl,g,cap,w1,hown,hg,hat,rfl⟩
    obtain⟨k1,k2,k3⟩:=h.growD hlen hg hown hat
    exact⟨rfl,⟨_,_,_,_,k1⟩,k2,k3⟩
  · simp only[if_neg hs]at hlen ⊢
    refine (partAdd_any B x.m q vm st.c1 op arg c1 w h.mn h.om hq h.size (by omega)).mono ?_
    rintro e w' ⟨rfl,g,cap,w1,hown,hg,hat,rfl⟩
    obtain⟨k1,k2,k3⟩:=h.growM hlen hg hown hat
    exact⟨rfl,⟨_,_,_,_,k1⟩,k2,k3⟩
def AddPostW (B:Nat) (w W:World) (x:CX) (st:RS) (fw fo:List Value) (op arg:Int) (e:Ending) (w':World):Prop:=e=.returned (.int .i64 (hereS st))∧BoxStill W w'∧(CpF B w' x (putS st op arg) fw fo∧Things w x.b st fw fo∧BoxStill w w'∧Below B w w')
theorem addW (B:Nat) (x:CX) (st:RS) (w:World) (fw fo:List Value) (h:CpF B w x st fw fo) (op arg:Int) (hlen:hereS st<4000) :
    ∀ (W:World) (q:Nat),Below w.heap.size w W→Blk W q #[.int .i64 op,.int .i64 arg] 65→Calls Tryz.prog 50 #[.pointer (some ⟨hereX x st,0,none⟩),.slice (some ⟨q,0,none⟩) 1 1] W (AddPostW B w W x st fw fo op arg):=by
  intro W q hW hq
  refine (addF_any B x st W fw fo (h.below hW) q op arg 1 hq hlen).mono ?_
  rintro e w' ⟨rfl,h1,h2,h3⟩
  have hs:=h.size
  exact⟨rfl,h2,h1,h.things,(BoxStill.ofBelow hW).trans h2,Below.trans (b:=W) ⟨hW.os,hW.tape,hW.output,hW.size,fun k hk=>hW.block k (by omega)⟩ h3⟩
def Boxed (B:Nat) (w:World) (x:CX) (st:RS) (fw fo:List Value) (n:Int) (s:Value) (wc:World):Prop:=∃ jb,s=.pointer (some ⟨jb,0,none⟩)∧Blk wc jb #[.int .i64 n] 2∧CpF B wc x st fw fo∧BoxStill w wc∧Below B w wc
section
variable {B:Nat} {w w1:World} {x:CX} {st st':RS} {fw fo:List Value} {n:Int} {jb:Nat}
theorem boxed_set (hB:B≤w.heap.size) (e:st'.start=st.start∧st'.name=st.name∧st'.opens=st.opens) (h:CpF B w1 x st' fw fo∧Things w x.b st fw fo∧BoxStill w w1∧Below B w w1) (hj:Blk w1 jb #[.int .i64 0] 2) (hl:w.heap.size≤jb):Boxed B w x st' fw fo n (.pointer (some ⟨jb,0,none⟩)) (w1.setCell ⟨jb,0,none⟩ (.int .i64 n)):=by
  obtain⟨h1,h2,h3,h4⟩:=h
  obtain⟨k1,k2,k3⟩:=h1.box h2 e h3 hj (Or.inr (Or.inl rfl)) hl (.int .i64 n)
  exact⟨jb,rfl,k3,k1,k2,h4.setCell (Nat.le_trans hB hl) _⟩
theorem boxed_new (h:CpF B w1 x st' fw fo∧Things w x.b st fw fo∧BoxStill w w1∧Below B w w1):Boxed B w x st' fw fo n (.pointer (some ⟨w1.heap.size,0,none⟩)) (w1.alloc (.cells #[.int .i64 n] 2)):=by
  obtain⟨h1,h2,h3,h4⟩:=h
  exact⟨_,rfl,Blk.new _ _ _,h1.below ((Below.refl _ _).alloc (Nat.le_refl _) _),h3.trans (BoxStill.ofBelow ((Below.refl _ _).alloc (Nat.le_refl _) _)),h4.alloc h1.size _⟩
end
theorem pushW (B:Nat) (x:CX) (st:RS) (wc:World) (h:CpE B wc x st) (f:Value) (hf1:f.oneCell'=true) (o:ByteArray×Int×Int) (ho:ThingOk wc x.b f o) (hlen:st.opens.length<3990) :
    Calls Tryz.prog 186 #[.pointer (some ⟨x.b,0,none⟩),.slice (some ⟨wc.heap.size,0,none⟩) 1 1] (wc.alloc (.cells #[f] 235)) fun e w'=>e=.returned (.tuple #[])∧CpE B w' x (openS st o)∧BoxStill wc w'∧Below B wc w':=by
  have hb:Below wc.heap.size wc (wc.alloc (.cells #[f] 235)):=(Below.refl _ _).alloc (Nat.le_refl _) _
  obtain⟨_,_,h⟩:=h.f
  have hs:=h.size
  refine (cpush_any B x st _ (h.below hb).e _ f hf1 o (ho.box (BoxStill.ofBelow hb)) (Blk.new _ _ _) hlen).mono ?_
  rintro e w' ⟨rfl,k1,k2,k3⟩
  exact⟨rfl,k1,(BoxStill.ofBelow hb).trans k2,Below.trans (b:=wc.alloc (.cells #[f] 235)) ⟨hb.os,hb.tape,hb.output,hb.size,fun k hk=>hb.block k (by omega)⟩ k3⟩
theorem openIf_any (B:Nat) (x:CX) (st:RS) (w:World) (h:CpE B w x st) (hlen:hereS st<4000) (hop:st.opens.length<3980) :
    Calls Tryz.prog 143 #[.pointer (some ⟨x.b,0,none⟩)] w fun e w'=>e=.returned (.tuple #[])∧CpE B w' x (openS (putS st 2 0) (⟨#[105,102]⟩,0,hereS st))∧BoxStill w w'∧Below B w w':=by
  obtain⟨fw,fo,h⟩:=h.f
  have hb0:Below w.heap.size w (w.alloc (.cells #[.pointer (some ⟨x.b,0,none⟩)] 91)):=(Below.refl _ _).alloc (Nat.le_refl _) _
  have hcb:=Blk.new w #[.pointer (some ⟨x.b,0,none⟩)] 91
  have h0:=h.below hb0
  have hB:=h.size
  obtain⟨s0,vo,hblk⟩:=h0.blk
  have hc:=hblk.cell
  have hxl:x.b<w.heap.size:=by obtain⟨_,_,hb⟩:=h.blk;exact hb.lt
  have hxl1:x.b<w.heap.size+1:=by omega
  have hxl2:x.b≤w.heap.size:=by omega
  have hxl3:x.b≤w.heap.size+1:=by omega
  have hxl4:x.b≤w.heap.size+1+1:=by omega
  have hxl5:x.b≤w.heap.size+1+1+1:=by omega
  have hxl6:x.b<w.heap.size+1+1:=by omega
  have hxl7:x.b<w.heap.size+1+1+1:=by omega
  have hxl8:x.b<w.heap.size+1+1+1+1:=by omega
  unfold cpArr at hc
  have HADD:=V (addW B x st _ fw fo h0 2 0 hlen)
  have hsz:(w.alloc (.cells #[.pointer (some ⟨x.b,0,none⟩)] 91)).heap.size=w.heap.size+1:=by simp
  have hcc:=hcb.cell
  have HCB:=V hcb
  have HB0:=V hb0
  clear hblk hcb hb0 h h0
  generalize hereX x st=hx at *
  go_enter Tryz.func143,Tryz.ntmps143
  go_wp2_with fail
  generalize w.alloc (.cells #[.pointer (some ⟨x.b,0,none⟩)] 91)=W0 at *
  go_cut [2] from 3 to 14 (fun s2 wc=>Boxed B W0 x (putS st 2 0) fw fo (hereS st) s2 wc)
  case first =>
    go_region_law (first
      | (refine step_call rfl 51 #[.const (.int .i64 2)] #[3] rfl Tryz.func51 Tryz.name51 Tryz.body51 #[.int .i64 2] (by first|(simp[Act.eval];done)|rfl) (plainI_any 2 _) ?_;rintro e w1 ⟨rfl,rfl⟩;refine⟨_,rfl,?_⟩)
      | (refine step_call rfl 50 #[.tmp 6,.tmp 8] #[96,33] rfl Tryz.func50 Tryz.name50 Tryz.body50 #[.pointer (some ⟨hx,0,none⟩),.slice (some ⟨w.heap.size+1+1+1,0,none⟩) 1 1] (by first|(simp[Act.eval];done)|rfl) (U HADD _ (w.heap.size+1+1+1) (by (repeat (first|with_reducible refine below_drew ?_|with_reducible refine below_drawn ?_ _|with_reducible refine below_longer ?_ _|(with_reducible refine Below.alloc ?_ ?_ _;rotate_left;(first|omega|((repeat (first|rw[World.size_up]|rw[World.size_dr]|rw[World.size_drN]))<;>omega)))));(with_reducible exact Below.refl _ _)) (by (repeat (first|with_reducible refine Blk.drew ?_|with_reducible refine Blk.drewN ?_ _|(with_reducible refine blk_newAt _ _ ?_;(first|omega|((repeat (first|rw[World.size_up]|rw[World.size_dr]|rw[World.size_drN]))<;>omega)))|with_reducible refine Blk.alloc ?_ _));(first|done|with_reducible assumption))) ?_;rintro e w1 ⟨rfl,h2,h1⟩;refine⟨_,rfl,?_⟩;have hjb:Blk w1 (w.heap.size+1) #[.int .i64 0] 2:=h2 _ _ _ (by (repeat (first|with_reducible refine Blk.drew ?_|with_reducible refine Blk.drewN ?_ _|(with_reducible refine blk_newAt _ _ ?_;(first|omega|((repeat (first|rw[World.size_up]|rw[World.size_dr]|rw[World.size_drN]))<;>omega)))|with_reducible refine Blk.alloc ?_ _));(first|done|with_reducible assumption)) (Or.inr (Or.inl rfl));have hcj:=hjb.cell;have hfj:=hjb.free;have HJ:=V hjb;clear hjb;have H1:=V h1;clear h1 h2)
      | (refine step_call rfl 50 #[.tmp 6,.tmp 8] #[96,33] rfl Tryz.func50 Tryz.name50 Tryz.body50 #[.pointer (some ⟨hx,0,none⟩),.slice (some ⟨w.heap.size+1+1+1,0,none⟩) 1 1] (by first|(simp[Act.eval];done)|rfl) (U HADD _ (w.heap.size+1+1+1) (by (repeat (first|with_reducible refine below_drew ?_|with_reducible refine below_drawn ?_ _|with_reducible refine below_longer ?_ _|(with_reducible refine Below.alloc ?_ ?_ _;rotate_left;(first|omega|((repeat (first|rw[World.size_up]|rw[World.size_dr]|rw[World.size_drN]))<;>omega)))));(with_reducible exact Below.refl _ _)) (by (repeat (first|with_reducible refine Blk.drew ?_|with_reducible refine Blk.drewN ?_ _|(with_reducible refine blk_newAt _ _ ?_;(first|omega|((repeat (first|rw[World.size_up]|rw[World.size_dr]|rw[World.size_drN]))<;>omega)))|with_reducible refine Blk.alloc ?_ _));(first|done|with_reducible assumption))) ?_;rintro e w1 ⟨rfl,h2,h1⟩;refine⟨_,rfl,?_⟩;have hjb:Blk w1 (w.heap.size+1+1) #[.int .i64 0] 2:=h2 _ _ _ (by (repeat (first|with_reducible refine Blk.drew ?_|with_reducible refine Blk.drewN ?_ _|(with_reducible refine blk_newAt _ _ ?_;(first|omega|((repeat (first|rw[World.size_up]|rw[World.size_dr]|rw[World.size_drN]))<;>omega)))|with_reducible refine Blk.alloc ?_ _));(first|done|with_reducible assumption)) (Or.inr (Or.inl rfl));have hcj:=hjb.cell;have hfj:=hjb.free;have HJ:=V hjb;clear hjb;have H1:=V h1;clear h1 h2)
      | (refine step_call rfl 50 #[.tmp 6,.tmp 8] #[96,33] rfl Tryz.func50 Tryz.name50 Tryz.body50 #[.pointer (some ⟨hx,0,none⟩),.slice (some ⟨w.heap.size+1+1,0,none⟩) 1 1] (by first|(simp[Act.eval];done)|rfl) (U HADD _ (w.heap.size+1+1) (by (repeat (first|with_reducible refine below_drew ?_|with_reducible refine below_drawn ?_ _|with_reducible refine below_longer ?_ _|(with_reducible refine Below.alloc ?_ ?_ _;rotate_left;(first|omega|((repeat (first|rw[World.size_up]|rw[World.size_dr]|rw[World.size_drN]))<;>omega)))));(with_reducible exact Below.refl _ _)) (by (repeat (first|with_reducible refine Blk.drew ?_|with_reducible refine Blk.drewN ?_ _|(with_reducible refine blk_newAt _ _ ?_;(first|omega|((repeat (first|rw[World.size_up]|rw[World.size_dr]|rw[World.size_drN]))<;>omega)))|with_reducible refine Blk.alloc ?_ _));(first|done|with_reducible assumption))) ?_;rintro e w1 ⟨rfl,h2,h1⟩;refine⟨_,rfl,?_⟩;have hjb:Blk w1 (w.heap.size+1+1+1) #[.int .i64 0] 2:=h2 _ _ _ (by (repeat (first|with_reducible refine Blk.drew ?_|with_reducible refine Blk.drewN ?_ _|(with_reducible refine blk_newAt _ _ ?_;(first|omega|((repeat (first|rw[World.size_up]|rw[World.size_dr]|rw[World.size_drN]))<;>omega)))|with_reducible refine Blk.alloc ?_ _));(first|done|with_reducible assumption)) (Or.inr (Or.inl rfl));have hcj:=hjb.cell;have hfj:=hjb.free;have HJ:=V hjb;clear hjb;have H1:=V h1;clear h1 h2)
      | (refine step_call rfl 50 #[.tmp 6,.tmp 8] #[96,33] rfl Tryz.func50 Tryz.name50 Tryz.body50 #[.pointer (some ⟨hx,0,none⟩),.slice (some ⟨w.heap.size+1+1,0,none⟩) 1 1] (by first|(simp[Act.eval];done)|rfl) (U HADD _ (w.heap.size+1+1) (by (repeat (first|with_reducible refine below_drew ?_|with_reducible refine below_drawn ?_ _|with_reducible refine below_longer ?_ _|(with_reducible refine Below.alloc ?_ ?_ _;rotate_left;(first|omega|((repeat (first|rw[World.size_up]|rw[World.size_dr]|rw[World.size_drN]))<;>omega)))));(with_reducible exact Below.refl _ _)) (by (repeat (first|with_reducible refine Blk.drew ?_|with_reducible refine Blk.drewN ?_ _|(with_reducible refine blk_newAt _ _ ?_;(first|omega|((repeat (first|rw[World.size_up]|rw[World.size_dr]|rw[World.size_drN]))<;>omega)))|with_reducible refine Blk.alloc ?_ _));(first|done|with_reducible assumption))) ?_;rintro e w1 ⟨rfl,h2,h1⟩;refine⟨_,rfl,?_⟩;skip;have H1:=V h1;clear h1 h2))
    all_goals
      go_wp2_with fail
      go_meet
      first
      | exact boxed_new (U H1)
      | exact boxed_set (by omega) (putS_as _ _ _) (U H1) (U HJ) (by omega)
  case rest =>
    obtain⟨jb,rfl,hj,hF,hbx,hbl⟩:=hcut
    have hcb:=hbx _ _ _ (U HCB) (Or.inl rfl)
    have hcc2:=hcb.cell
    have H1:=V (And.intro hcb (And.intro hj (And.intro hF (And.intro hbx hbl))))
    clear hj hF hbx hbl hcb hcc hc HADD
    go_wp2_with fail
    obtain⟨hcb,hj,hF,hbx,hbl⟩:=U H1
    refine (pushW B x (putS st 2 0) wc hF.e _ rfl (⟨#[105,102]⟩,0,hereS st) ⟨_,hcb,Or.inl ⟨rfl,jb,hj,rfl⟩⟩ (by rw[(putS_as _ _ _).2.2];omega)).mono ?_
    rintro e w2 ⟨rfl,k1,k2,k3⟩
    clear hcb hj hF hbx hbl hcc2
    go_wp2_with fail
    go_end0
    obtain⟨hcb,hj,hF,hbx,hbl⟩:=U H1
    exact⟨rfl,k1,(BoxStill.ofBelow (U HB0)).trans (hbx.trans k2),Below.trans (b:=W0) ⟨(U HB0).os,(U HB0).tape,(U HB0).output,(U HB0).size,fun k hk=>(U HB0).block k (by omega)⟩ (hbl.trans k3)⟩
theorem nextF_any (B:Nat) (x:CX) (st:RS) (w:World) (h:CpE B w x st) :
    Calls Tryz.prog 78 #[.pointer (some ⟨hereX x st,0,none⟩)] w fun e w'=>e=.returned (.int .i64 (hereS st))∧w'=w:=by
  obtain⟨s0,vd,vm,vo,fw,fo,h⟩:=h
  have hsm:=h.small
  unfold hereX hereS
  by_cases hs:0≤st.start
  · simp only[if_pos hs]
    obtain⟨a,k,hv⟩:=own_shape h.od
    subst hv
    exact partNext_any x.d st.c0.length a k w h.dp (by omega)
  · simp only[if_neg hs]
    obtain⟨a,k,hv⟩:=own_shape h.om
    subst hv
    exact partNext_any x.m st.c1.length a k w h.mn (by omega)
theorem CpF.size0 {B:Nat} {w:World} {x:CX} {st:RS} {fw fo:List Value} (h:CpF B w x st fw fo):x.b<w.heap.size:=by obtain⟨_,_,hb⟩:=h.blk;exact hb.lt
theorem below_less {B C:Nat} {w w':World} (h:Below C w w') (hB:B≤C):Below B w w':=⟨h.os,h.tape,h.output,h.size,fun k hk=>h.block k (by omega)⟩
theorem hereX_put (x:CX) (st:RS) (op arg:Int):hereX x (putS st op arg)=hereX x st:=by unfold hereX;rw[(putS_as st op arg).1]
theorem openElse_any (B:Nat) (x:CX) (st:RS) (w:World) (h:CpE B w x st) (j:Nat) (hj0:j<hereS st) (hlen:hereS st<4000) (hop:st.opens.length<3980) :
    Calls Tryz.prog 189 #[.pointer (some ⟨x.b,0,none⟩),.int .i64 j] w fun e w'=>e=.returned (.tuple #[])∧CpE B w' x (openS (tellS (putS st 1 0) j) (⟨#[101,108,115,101]⟩,0,hereS st))∧BoxStill w w'∧Below B w w':=by
  obtain⟨fw,fo,h⟩:=h.f
  have hb0:Below w.heap.size w (w.alloc (.cells #[.pointer (some ⟨x.b,0,none⟩)] 91)):=by (repeat (first|with_reducible refine below_drew ?_|with_reducible refine below_drawn ?_ _|with_reducible refine below_longer ?_ _|(with_reducible refine Below.alloc ?_ ?_ _;rotate_left;(first|omega|((repeat (first|rw[World.size_up]|rw[World.size_dr]|rw[World.size_drN]))<;>omega)))));(with_reducible exact Below.refl _ _)
  have hcb:Blk (w.alloc (.cells #[.pointer (some ⟨x.b,0,none⟩)] 91)) w.heap.size #[.pointer (some ⟨x.b,0,none⟩)] 91:=by (repeat (first|with_reducible refine Blk.drew ?_|with_reducible refine Blk.drewN ?_ _|(with_reducible refine blk_newAt _ _ ?_;(first|omega|((repeat (first|rw[World.size_up]|rw[World.size_dr]|rw[World.size_drN]))<;>omega)))|with_reducible refine Blk.alloc ?_ _));(first|done|with_reducible assumption)
  have h0:=h.below hb0
  have hB:=h.size
  obtain⟨s0,vo,hblk⟩:=h0.blk
  have hc:=hblk.cell
  have hxl:=h.size0
  have hxa0:x.b<w.heap.size:=by omega
  have hxb0:x.b≤w.heap.size:=by omega
  have hxa1:x.b<w.heap.size+1:=by omega
  have hxb1:x.b≤w.heap.size+1:=by omega
  have hxa2:x.b<w.heap.size+1+1:=by omega
  have hxb2:x.b≤w.heap.size+1+1:=by omega
  have hxa3:x.b<w.heap.size+1+1+1:=by omega
  have hxb3:x.b≤w.heap.size+1+1+1:=by omega
  have hxa4:x.b<w.heap.size+1+1+1+1:=by omega
  have hxb4:x.b≤w.heap.size+1+1+1+1:=by omega
  have hxa5:x.b<w.heap.size+1+1+1+1+1:=by omega
  have hxb5:x.b≤w.heap.size+1+1+1+1+1:=by omega
  unfold cpArr at hc
  have HADD:=V (addW B x st _ fw fo h0 1 0 hlen)
  have H0:=V h0
  have hsz:(w.alloc (.cells #[.pointer (some ⟨x.b,0,none⟩)] 91)).heap.size=w.heap.size+1:=by simp
  have hcc:=hcb.cell
  have HCB:=V hcb
  have HB0:=V hb0
  clear hblk hcb hb0 h h0
  generalize hhx:hereX x st=hx at *
  have HHX:=V hhx
  clear hhx
  go_enter Tryz.func189,Tryz.ntmps189
  go_wp2_with fail
  generalize w.alloc (.cells #[.pointer (some ⟨x.b,0,none⟩)] 91)=W0 at *
  go_cut [4] from 5 to 22 (fun s4 wc=>Boxed B W0 x (putS st 1 0) fw fo (hereS st) s4 wc)
  case first =>
    go_region_law (first
      | (refine step_call rfl 51 #[.const (.int .i64 1)] #[3] rfl Tryz.func51 Tryz.name51 Tryz.body51 #[.int .i64 1] (by first|(simp[Act.eval];done)|rfl) (plainI_any 1 _) ?_;rintro e w1 ⟨rfl,rfl⟩;refine⟨_,rfl,?_⟩)
      | (refine step_call rfl 50 #[.tmp 8,.tmp 10] #[96,33] rfl Tryz.func50 Tryz.name50 Tryz.body50 #[.pointer (some ⟨hx,0,none⟩),.slice (some ⟨w.heap.size+1+1+1,0,none⟩) 1 1] (by first|(simp[Act.eval];done)|rfl) (U HADD _ (w.heap.size+1+1+1) (by (repeat (first|with_reducible refine below_drew ?_|with_reducible refine below_drawn ?_ _|with_reducible refine below_longer ?_ _|(with_reducible refine Below.alloc ?_ ?_ _;rotate_left;(first|omega|((repeat (first|rw[World.size_up]|rw[World.size_dr]|rw[World.size_drN]))<;>omega)))));(with_reducible exact Below.refl _ _)) (by (repeat (first|with_reducible refine Blk.drew ?_|with_reducible refine Blk.drewN ?_ _|(with_reducible refine blk_newAt _ _ ?_;(first|omega|((repeat (first|rw[World.size_up]|rw[World.size_dr]|rw[World.size_drN]))<;>omega)))|with_reducible refine Blk.alloc ?_ _));(first|done|with_reducible assumption))) ?_;rintro e w1 ⟨rfl,h2,h1⟩;refine⟨_,rfl,?_⟩;have hjb:Blk w1 (w.heap.size+1) #[.int .i64 0] 2:=h2 _ _ _ (by (repeat (first|with_reducible refine Blk.drew ?_|with_reducible refine Blk.drewN ?_ _|(with_reducible refine blk_newAt _ _ ?_;(first|omega|((repeat (first|rw[World.size_up]|rw[World.size_dr]|rw[World.size_drN]))<;>omega)))|with_reducible refine Blk.alloc ?_ _));(first|done|with_reducible assumption)) (Or.inr (Or.inl rfl));have hcj:=hjb.cell;have hfj:=hjb.free;have HJ:=V hjb;clear hjb;have H1:=V h1;clear h1 h2)
      | (refine step_call rfl 50 #[.tmp 8,.tmp 10] #[96,33] rfl Tryz.func50 Tryz.name50 Tryz.body50 #[.pointer (some ⟨hx,0,none⟩),.slice (some ⟨w.heap.size+1+1+1,0,none⟩) 1 1] (by first|(simp[Act.eval];done)|rfl) (U HADD _ (w.heap.size+1+1+1) (by (repeat (first|with_reducible refine below_drew ?_|with_reducible refine below_drawn ?_ _|with_reducible refine below_longer ?_ _|(with_reducible refine Below.alloc ?_ ?_ _;rotate_left;(first|omega|((repeat (first|rw[World.size_up]|rw[World.size_dr]|rw[World.size_drN]))<;>omega)))));(with_reducible exact Below.refl _ _)) (by (repeat (first|with_reducible refine Blk.drew ?_|with_reducible refine Blk.drewN ?_ _|(with_reducible refine blk_newAt _ _ ?_;(first|omega|((repeat (first|rw[World.size_up]|rw[World.size_dr]|rw[World.size_drN]))<;>omega)))|with_reducible refine Blk.alloc ?_ _));(first|done|with_reducible assumption))) ?_;rintro e w1 ⟨rfl,h2,h1⟩;refine⟨_,rfl,?_⟩;have hjb:Blk w1 (w.heap.size+1+1) #[.int .i64 0] 2:=h2 _ _ _ (by (repeat (first|with_reducible refine Blk.drew ?_|with_reducible refine Blk.drewN ?_ _|(with_reducible refine blk_newAt _ _ ?_;(first|omega|((repeat (first|rw[World.size_up]|rw[World.size_dr]|rw[World.size_drN]))<;>omega)))|with_reducible refine Blk.alloc ?_ _));(first|done|with_reducible assumption)) (Or.inr (Or.inl rfl));have hcj:=hjb.cell;have hfj:=hjb.free;have HJ:=V hjb;clear hjb;have H1:=V h1;clear h1 h2)
      | (refine step_call rfl 50 #[.tmp 8,.tmp 10] #[96,33] rfl Tryz.func50 Tryz.name50 Tryz.body50 #[.pointer (some ⟨hx,0,none⟩),.slice (some ⟨w.heap.size+1+1,0,none⟩) 1 1] (by first|(simp[Act.eval];done)|rfl) (U HADD _ (w.heap.size+1+1) (by (repeat (first|with_reducible refine below_drew ?_|with_reducible refine below_drawn ?_ _|with_reducible refine below_longer ?_ _|(with_reducible refine Below.alloc ?_ ?_ _;rotate_left;(first|omega|((repeat (first|rw[World.size_up]|rw[World.size_dr]|rw[World.size_drN]))<;>omega)))));(with_reducible exact Below.refl _ _)) (by (repeat (first|with_reducible refine Blk.drew ?_|with_reducible refine Blk.drewN ?_ _|(with_reducible refine blk_newAt _ _ ?_;(first|omega|((repeat (first|rw[World.size_up]|rw[World.size_dr]|rw[World.size_drN]))<;>omega)))|with_reducible refine Blk.alloc ?_ _));(first|done|with_reducible assumption))) ?_;rintro e w1 ⟨rfl,h2,h1⟩;refine⟨_,rfl,?_⟩;have hjb:Blk w1 (w.heap.size+1+1+1) #[.int .i64 0] 2:=h2 _ _ _ (by (repeat (first|with_reducible refine Blk.drew ?_|with_reducible refine Blk.drewN ?_ _|(with_reducible refine blk_newAt _ _ ?_;(first|omega|((repeat (first|rw[World.size_up]|rw[World.size_dr]|rw[World.size_drN]))<;>omega)))|with_reducible refine Blk.alloc ?_ _));(first|done|with_reducible assumption)) (Or.inr (Or.inl rfl));have hcj:=hjb.cell;have hfj:=hjb.free;have HJ:=V hjb;clear hjb;have H1:=V h1;clear h1 h2)
      | (refine step_call rfl 50 #[.tmp 8,.tmp 10] #[96,33] rfl Tryz.func50 Tryz.name50 Tryz.body50 #[.pointer (some ⟨hx,0,none⟩),.slice (some ⟨w.heap.size+1+1,0,none⟩) 1 1] (by first|(simp[Act.eval];done)|rfl) (U HADD _ (w.heap.size+1+1) (by (repeat (first|with_reducible refine below_drew ?_|with_reducible refine below_drawn ?_ _|with_reducible refine below_longer ?_ _|(with_reducible refine Below.alloc ?_ ?_ _;rotate_left;(first|omega|((repeat (first|rw[World.size_up]|rw[World.size_dr]|rw[World.size_drN]))<;>omega)))));(with_reducible exact Below.refl _ _)) (by (repeat (first|with_reducible refine Blk.drew ?_|with_reducible refine Blk.drewN ?_ _|(with_reducible refine blk_newAt _ _ ?_;(first|omega|((repeat (first|rw[World.size_up]|rw[World.size_dr]|rw[World.size_drN]))<;>omega)))|with_reducible refine Blk.alloc ?_ _));(first|done|with_reducible assumption))) ?_;rintro e w1 ⟨rfl,h2,h1⟩;refine⟨_,rfl,?_⟩;skip;have H1:=V h1;clear h1 h2))
    all_goals
      go_wp2_with fail
      go_meet
      first
      | exact boxed_new (U H1)
      | exact boxed_set (by omega) (putS_as _ _ _) (U H1) (U HJ) (by omega)
  case rest =>
    obtain⟨jb,rfl,hj,hF,hbx,hbl⟩:=hcut
    have hcb:=hbx _ _ _ (U HCB) (Or.inl rfl)
    have hcc2:=hcb.cell
    have hax:=aimHere_any B x (putS st 1 0) wc hF.e j (by rw[hereS_put];omega)
    rw[hereX_put,U HHX]at hax
    have HAX:=V hax
    obtain⟨s1,vo1,hblk1⟩:=hF.blk
    have hc1:=hblk1.cell
    unfold cpArr at hc1
    rw[hereX_put,U HHX]at hc1
    have H1:=V (And.intro hcb (And.intro hj (And.intro hF (And.intro hbx hbl))))
    clear hj hF hbx hbl hcb hcc hc HADD hax hblk1
    go_wp2_with fail
    refine (U HAX).mono ?_
    rintro e w2 ⟨rfl,k1,k2,k3⟩
    obtain⟨hcb,hj,hF,hbx,hbl⟩:=U H1
    have hcb2:=k2 _ _ _ hcb (Or.inl rfl)
    have hj2:=k2 _ _ _ hj (Or.inr (Or.inl rfl))
    have hcc3:=hcb2.cell
    have H2:=V (And.intro hcb2 (And.intro hj2 (And.intro k1 (And.intro k2 k3))))
    clear hcb hj hF hbx hbl hcb2 hj2 k1 k2 k3 hcc2 hc1 HAX
    go_wp2_with fail
    obtain⟨hcb2,hj2,k1,k2,k3⟩:=U H2
    refine (pushW B x (tellS (putS st 1 0) j) w2 k1 _ rfl (⟨#[101,108,115,101]⟩,0,hereS st) ⟨_,hcb2,Or.inr (Or.inl ⟨rfl,jb,hj2,rfl⟩)⟩ (by rw[(tellS_as _ _).2.2,(putS_as _ _ _).2.2];omega)).mono ?_
    rintro e w3 ⟨rfl,m1,m2,m3⟩
    clear hcb2 hj2 k1 k2 k3 hcc3
    go_wp2_with fail
    go_end0
    obtain⟨hcb,hj,hF,hbx,hbl⟩:=U H1
    obtain⟨hcb2,hj2,k1,k2,k3⟩:=U H2
    exact⟨rfl,m1,(BoxStill.ofBelow (U HB0)).trans (hbx.trans (k2.trans m2)),(below_less (U HB0) (by omega)).trans (hbl.trans (k3.trans m3))⟩
theorem Tryz.name188 : (Tryz.f188.name == "runtime.NumGoroutine") = false := by kernel_rfl
theorem Tryz.body188:Tryz.f188.body.isNone=false:=by kernel_rfl
theorem CpE.below {B:Nat} {w w':World} {x:CX} {st:RS} (h:CpE B w x st) (hb:Below w.heap.size w w'):CpE B w' x st:=by
  obtain⟨_,_,h⟩:=h.f
  exact (h.below hb).e
theorem CpE.size {B:Nat} {w:World} {x:CX} {st:RS} (h:CpE B w x st):B≤w.heap.size:=by
  obtain⟨_,_,h⟩:=h.f
  exact h.size
def After (B:Nat) (w:World) (x:CX) (st:RS) (v:Value) (e:Ending) (w':World):Prop:=e=.returned v∧CpE B w' x st∧BoxStill w w'∧Below B w w'
theorem aimW (B:Nat) (x:CX) (st:RS) (w:World) (h:CpE B w x st) (n:Nat) (hn:n<hereS st) :
    ∀ W:World,Below w.heap.size w W→Calls Tryz.prog 188 #[.pointer (some ⟨hereX x st,0,none⟩),.int .i64 n] W (After B w x (tellS st n) (.tuple #[])):=by
  intro W hW
  refine (aimHere_any B x st W (h.below hW) n hn).mono ?_
  rintro e w' ⟨rfl,h1,h2,h3⟩
  exact⟨rfl,h1,(BoxStill.ofBelow hW).trans h2,(below_less hW h.size).trans h3⟩
def Closed (B:Nat) (w:World) (x:CX) (r:Option RS) (e:Ending) (w':World):Prop:=e=.returned (.bool r.isSome)∧(∀ st',r=some st'→CpE B w' x st')∧(r=none→w'=w)∧BoxStill w w'∧Below B w w'
theorem Closed.yes {B:Nat} {w:World} {x:CX} {st:RS} {w':World} (h1:CpE B w' x st) (h2:BoxStill w w') (h3:Below B w w'):Closed B w x (some st) (.returned (.bool true)) w' :=
  ⟨rfl,fun st' e=>by cases e;exact h1,fun e=>by (cases e),h2,h3⟩
theorem Closed.no {B:Nat} {w:World} {x:CX}:Closed B w x none (.returned (.bool false)) w :=
  ⟨rfl,fun st' e=>by (cases e),fun _=>rfl,BoxStill.refl _,Below.refl _ _⟩
def closeIfR (st:RS) (n:Nat) (tok:ByteArray):Option RS :=
  if tok.toList == [116,104,101,110] then some (tellS st n)
  else if tok.toList == [101,108,115,101] then some (openS (tellS (putS st 1 0) n) (⟨#[101,108,115,101]⟩,0,hereS st))
  else none
def closeElseR (st:RS) (n:Nat) (tok:ByteArray):Option RS :=
  if tok.toList == [116,104,101,110] then some (tellS st n) else none
theorem closeIf_any (B:Nat) (x:CX) (st:RS) (w:World) (h:CpE B w x st) (cb jb n:Nat) (hcb:Blk w cb #[.pointer (some ⟨x.b,0,none⟩)] 91) (hjb:Blk w jb #[.int .i64 n] 2) (tok:ByteArray) (hn:n<hereS st) (hlen:hereS st<4000) (hop:st.opens.length<3980) :
    Calls Tryz.prog 187 #[.string tok,.pointer (some ⟨cb,0,none⟩),.pointer (some ⟨jb,0,none⟩)] w (Closed B w x (closeIfR st n tok)):=by
  obtain⟨fw,fo,hF⟩:=h.f
  have HAX:=V (aimW B x st w h n hn)
  have HEL:=V (openElse_any B x st w h n hn hlen hop)
  obtain⟨s0,vo,hblk⟩:=hF.blk
  have hc:=hblk.cell
  unfold cpArr at hc
  have hcc:=hcb.cell
  have hcj:=hjb.cell
  clear hblk hF h hcb hjb
  generalize hereX x st=hx at *
  unfold closeIfR
  by_cases h1:(tok.toList == [116,104,101,110])=true
  · rw[if_pos h1]
    have h1e:=tok_eq h1
    subst h1e
    clear h1
    go_enter Tryz.func187,Tryz.ntmps187
    go_wp2_with fail
    go_region_law (refine step_call rfl 188 #[.tmp 11,.tmp 12] #[96,2] rfl Tryz.func188 Tryz.name188 Tryz.body188 #[.pointer (some ⟨hx,0,none⟩),.int .i64 n] (by first|(simp[Act.eval];done)|rfl) (U HAX _ (by (repeat (first|with_reducible refine below_drew ?_|with_reducible refine below_drawn ?_ _|with_reducible refine below_longer ?_ _|(with_reducible refine Below.alloc ?_ ?_ _;rotate_left;(first|omega|((repeat (first|rw[World.size_up]|rw[World.size_dr]|rw[World.size_drN]))<;>omega)))));(with_reducible exact Below.refl _ _))) ?_;rintro e w1 ⟨rfl,h1⟩;refine⟨_,rfl,?_⟩;have H1:=V h1;clear h1)
    all_goals
      go_wp2_with fail
      go_ret
      obtain⟨k1,k2,k3⟩:=U H1
      exact Closed.yes k1 k2 k3
  · rw[if_neg h1]
    by_cases h2:(tok.toList == [101,108,115,101])=true
    · rw[if_pos h2]
      have h2e:=tok_eq h2
      subst h2e
      clear h1 h2
      go_enter Tryz.func187,Tryz.ntmps187
      go_wp2_with fail
      refine (U HEL).mono ?_
      rintro e w2 ⟨rfl,k1,k2,k3⟩
      go_wp2_with fail
      go_ret
      exact Closed.yes k1 k2 k3
    · rw[if_neg h2]
      have e1:(tok.toList == [116,104,101,110])=false:=by simpa using h1
      have e2:(tok.toList == [101,108,115,101])=false:=by simpa using h2
      go_enter Tryz.func187,Tryz.ntmps187
      go_wp2_with fail
      go_ret
      exact Closed.no
theorem closeElse_any (B:Nat) (x:CX) (st:RS) (w:World) (h:CpE B w x st) (cb jb n:Nat) (hcb:Blk w cb #[.pointer (some ⟨x.b,0,none⟩)] 91) (hjb:Blk w jb #[.int .i64 n] 2) (tok:ByteArray) (hn:n<hereS st) :
    Calls Tryz.prog 216 #[.string tok,.pointer (some ⟨cb,0,none⟩),.pointer (some ⟨jb,0,none⟩)] w (Closed B w x (closeElseR st n tok)):=by
  obtain⟨fw,fo,hF⟩:=h.f
  have HAX:=V (aimW B x st w h n hn)
  obtain⟨s0,vo,hblk⟩:=hF.blk
  have hc:=hblk.cell
  unfold cpArr at hc
  have hcc:=hcb.cell
  have hcj:=hjb.cell
  clear hblk hF h hcb hjb
  generalize hereX x st=hx at *
  unfold closeElseR
  by_cases h1:(tok.toList == [116,104,101,110])=true
  · rw[if_pos h1]
    have h1e:=tok_eq h1
    subst h1e
    clear h1
    go_enter Tryz.func216,Tryz.ntmps216
    go_wp2_with fail
    go_region_law (refine step_call rfl 188 #[.tmp 10,.tmp 11] #[96,2] rfl Tryz.func188 Tryz.name188 Tryz.body188 #[.pointer (some ⟨hx,0,none⟩),.int .i64 n] (by first|(simp[Act.eval];done)|rfl) (U HAX _ (by (repeat (first|with_reducible refine below_drew ?_|with_reducible refine below_drawn ?_ _|with_reducible refine below_longer ?_ _|(with_reducible refine Below.alloc ?_ ?_ _;rotate_left;(first|omega|((repeat (first|rw[World.size_up]|rw[World.size_dr]|rw[World.size_drN]))<;>omega)))));(with_reducible exact Below.refl _ _))) ?_;rintro e w1 ⟨rfl,h1⟩;refine⟨_,rfl,?_⟩;have H1:=V h1;clear h1)
    all_goals
      go_wp2_with fail
      go_ret
      obtain⟨k1,k2,k3⟩:=U H1
      exact Closed.yes k1 k2 k3
  · rw[if_neg h1]
    have e1:(tok.toList == [116,104,101,110])=false:=by simpa using h1
    go_enter Tryz.func216,Tryz.ntmps216
    go_wp2_with fail
    go_ret
    exact Closed.no
theorem Tryz.infoPart:(Tryz.prog.info? 140).map (fun i=>i.size)=some 1:=by kernel_rfl
theorem Tryz.partInfo:∃ i,Tryz.prog.info? 140=some i∧i.size≠0:=by
  match hq:Tryz.prog.info? 140 with
  | none=>have:=Tryz.infoPart;rw[hq]at this;cases this
  | some i=>exact⟨i,rfl,by have:=Tryz.infoPart;rw[hq]at this;simp at this;omega⟩
theorem part_same (w:World) (a:Addr):(binOp .neq 96 (.pointer (some a)) (.pointer (some a))).run Tryz.prog w=.ok (.bool false) w:=by
  obtain⟨i,hi,_⟩:=Tryz.partInfo
  exact Lib.run_neq_ptr_same w a Tryz.underlying96 hi
theorem part_other (w:World) {a b:Nat} {ca cb:Array Value} {ta tb:TypeId} (hne:a≠b) (ha:Blk w a ca ta) (hb:Blk w b cb tb):(binOp .neq 96 (.pointer (some ⟨a,0,none⟩)) (.pointer (some ⟨b,0,none⟩))).run Tryz.prog w=.ok (.bool true) w:=by
  obtain⟨i,hi,hz⟩:=Tryz.partInfo
  have h:∀ d:Nat,(Op.equalIn (d+1) 96 (.pointer (some ⟨a,0,none⟩)) (.pointer (some ⟨b,0,none⟩))).run Tryz.prog w=.ok false w:=fun d=>by
    simp[Op.equalIn,run_underlying Tryz.underlying96,sizeOf,typeInfo,hi,hz,run_sameAddr_other w (a:=⟨a,0,none⟩) (b:=⟨b,0,none⟩) (fun e=>hne (congrArg Addr.block e)) ha hb]
  simp only[binOp]
  simp[Op.equal,Op.maxDepth,h 9999]
theorem CpF.parts {B:Nat} {w:World} {x:CX} {st:RS} {fw fo:List Value} (h:CpF B w x st fw fo):∃ vd vm,Blk w x.d #[vd] 140∧Blk w x.m #[vm] 140:=by
  obtain⟨_,vd,vm,_,h⟩:=h
  exact⟨vd,vm,h.dp,h.mn⟩
theorem CpF.st0 {B:Nat} {w:World} {x:CX} {st:RS} {fw fo:List Value} (h:CpF B w x st fw fo):∃ s0 vo,Blk w x.b (cpArr x st s0 vo) 100∧(0≤st.start→s0=st.start)∧x.d≠x.m:=by
  obtain⟨s0,_,_,vo,h⟩:=h
  exact⟨s0,vo,h.blk,h.start,h.dm⟩
theorem recur_yes (B:Nat) (x:CX) (st:RS) (w:World) (h:CpE B w x st) (hs:0≤st.start) (hlen:hereS st<4000) :
    Calls Tryz.prog 142 #[.pointer (some ⟨x.b,0,none⟩)] w (After B w x (putS st 3 st.start) (.int .i64 0)):=by
  obtain⟨fw,fo,hF⟩:=h.f
  obtain⟨s0,vo,hblk,hs0,_⟩:=hF.st0
  obtain rfl:=hs0 hs
  have hc:=hblk.cell
  unfold cpArr at hc
  have e:hereX x st=x.d:=by unfold hereX;rw[if_pos hs]
  rw[e]at hc
  have hpq:=part_same w.drew ⟨x.d,0,none⟩
  have HF:=V hF
  have HBK:=V hblk
  have HE:=V e
  clear hblk hF h e hs0
  generalize hse:st.start=s at *
  have HSE:=V hse
  clear hse
  go_enter Tryz.func142,Tryz.ntmps142
  go_wp2_with fail
  go_cut [11] from 3 to 22 (fun s11 wc=>s11=.bool false∧Below w.heap.size w wc)
  case first =>
    go_region_law (fail)
    all_goals
      go_wp2_with fail
      go_meet
      exact⟨rfl,below_drawn (Below.refl _ _) 1⟩
  case rest =>
    obtain⟨rfl,hbw⟩:=hcut
    have hF1:=(U HF).below hbw
    have HADD:=V (addW B x st wc fw fo hF1 3 s hlen)
    rw[U HE]at HADD
    have hc1:=((U HBK).below hbw (U HBK).lt).cell
    unfold cpArr at hc1
    rw[U HE]at hc1
    have hxl:=hF1.size0
    have hxa:x.b<wc.heap.size+1:=by omega
    have hxb:x.b≤wc.heap.size:=by omega
    have hxc:x.b≤wc.heap.size+1:=by omega
    have hxd:x.b<wc.heap.size+1+1:=by omega
    have HBW:=V hbw
    clear hF1 hbw hc hpq
    go_wp2_with fail
    go_region_law (first
      | (refine step_call rfl 77 #[.const (.int .i64 3),.tmp 19] #[3,2] rfl Tryz.func77 Tryz.name77 Tryz.body77 #[.int .i64 3,.int .i64 s] (by first|(simp[Act.eval];done)|(simp[Act.eval,Act.put];done)|rfl) (withI_any 3 s _) ?_;rintro e w1 ⟨rfl,rfl⟩;refine⟨_,rfl,?_⟩)
      | (refine step_call rfl 50 #[.tmp 15,.tmp 21] #[96,33] rfl Tryz.func50 Tryz.name50 Tryz.body50 #[.pointer (some ⟨x.d,0,none⟩),.slice (some ⟨wc.heap.size+1,0,none⟩) 1 1] (by first|(simp[Act.eval];done)|(simp[Act.eval,Act.put];done)|rfl) (U HADD _ (wc.heap.size+1) (by (repeat (first|with_reducible refine below_drew ?_|with_reducible refine below_drawn ?_ _|with_reducible refine below_longer ?_ _|(with_reducible refine Below.alloc ?_ ?_ _;rotate_left;(first|omega|((repeat (first|rw[World.size_up]|rw[World.size_dr]|rw[World.size_drN]))<;>omega)))));(with_reducible exact Below.refl _ _)) (by (repeat (first|with_reducible refine Blk.drew ?_|with_reducible refine Blk.drewN ?_ _|(with_reducible refine blk_newAt _ _ ?_;(first|omega|((repeat (first|rw[World.size_up]|rw[World.size_dr]|rw[World.size_drN]))<;>omega)))|with_reducible refine Blk.alloc ?_ _));(first|done|with_reducible assumption))) ?_;rintro e w1 ⟨rfl,h2,h1⟩;refine⟨_,rfl,?_⟩;have H1:=V h1;clear h1 h2))
    all_goals
      go_wp2_with fail
      go_ret
      obtain⟨k1,_,k2,k3⟩:=U H1
      exact⟨rfl,k1.e,(BoxStill.ofBelow (U HBW)).trans k2,(below_less (U HBW) (U HF).size).trans k3⟩
theorem recur_no (B:Nat) (x:CX) (st:RS) (w:World) (h:CpE B w x st) (hs:st.start<0) :
    Calls Tryz.prog 142 #[.pointer (some ⟨x.b,0,none⟩)] w (fun e w'=>e=.returned (.int .i64 2)∧CpE B w' x st∧Below B w w'):=by
  have HH:=V h
  obtain⟨fw,fo,hF⟩:=h.f
  obtain⟨s0,vo,hblk,_,hdm⟩:=hF.st0
  have hc:=hblk.cell
  unfold cpArr at hc
  have e:hereX x st=x.m:=by unfold hereX;rw[if_neg (by omega)]
  rw[e]at hc
  have hmd:x.m≠x.d:=fun e=>hdm e.symm
  obtain⟨vd,vm,hd,hm⟩:=hF.parts
  have hpq:=part_other w.drew hmd hm.drew hd.drew
  clear hd hm
  clear hblk hF h e
  go_enter Tryz.func142,Tryz.ntmps142
  go_wp2_with fail
  go_cut [11] from 3 to 22 (fun s11 wc=>s11=.bool true∧wc=w.drewN 1)
  case first =>
    go_region_law (fail)
    all_goals
      go_wp2_with fail
      go_meet
      exact⟨rfl,rfl⟩
  case rest =>
    obtain⟨rfl,rfl⟩:=hcut
    go_wp2_with fail
    go_ret
    exact⟨rfl,(U HH).below (below_drawn (Below.refl _ _) 1),below_drawn (Below.refl _ _) 1⟩
end Go.Proofs.YtmeiikjpaepogaaGreatDoor
