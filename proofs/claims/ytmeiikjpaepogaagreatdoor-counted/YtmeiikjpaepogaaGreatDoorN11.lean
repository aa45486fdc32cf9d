/- The program's compiler, raw: with no word of its things and of where elements go. -/
import Derived.Test.YtmeiikjpaepogaaGreatDoorN10
import Derived.Deep.CutRange
set_option maxRecDepth 100000
set_option maxHeartbeats 4000000
namespace Go.Proofs.YtmeiikjpaepogaaGreatDoor
open Go Go.RowKit
def crArr (x:CX) (st:RS) (hx:Nat) (s0:Int) (vo:Value):Array Value :=
  #[.pointer (some ⟨x.r,0,none⟩),.int .i64 st.place0,.pointer (some ⟨x.d,0,none⟩),.pointer (some ⟨x.m,0,none⟩),.pointer (some ⟨hx,0,none⟩),.int .i64 s0,.map (some x.mp),.int .i64 st.cells,vo]
structure Cr (B:Nat) (w:World) (x:CX) (st:RS) (hx:Nat) (s0:Int) (vd vm vo:Value) (fs:List Value):Prop where
  blk:Blk w x.b (crArr x st hx s0 vo) 100
  rdr:Blk w x.r (rdrA st.s st.next) 192
  dp:Blk w x.d #[vd] 140
  mn:Blk w x.m #[vm] 140
  dm:x.d≠x.m
  base:B≤x.b∧B≤x.r∧B≤x.d∧B≤x.m∧B≤x.mp
  owned:Owned B w [x.b,x.r,x.d,x.m,x.mp] [vd,vm,vo] (cpRows st fs)
  names:MapIs w x.mp st.names
  small:st.c0.length≤4000∧st.c1.length≤4000∧st.names.length≤4000∧st.opens.length≤4000∧st.s.size≤2000
section
variable {B:Nat} {w w' w1:World} {x:CX} {st:RS} {hx:Nat} {s0:Int} {vd vm vo:Value} {fs fw fo:List Value}
theorem Cp.raw (h:Cp B w x st s0 vd vm vo fw fo):Cr B w x st (hereX x st) s0 vd vm vo (fw++fo) :=
  ⟨h.blk,h.rdr,h.dp,h.mn,h.dm,h.base,h.owned,h.names,h.small⟩
theorem Cr.cp (h:Cr B w x st (hereX x st) s0 vd vm vo (fw++fo)) (hs:0≤st.start→s0=st.start) (ht:Things w x.b st fw fo):Cp B w x st s0 vd vm vo fw fo :=
  ⟨h.blk,h.rdr,h.dp,h.mn,h.dm,h.base,h.owned,h.names,hs,ht,h.small⟩
theorem Cr.od (h:Cr B w x st hx s0 vd vm vo fs):w.ownsRow B 65 2 vd st.c0.length (instrCells st.c0):=h.owned.own 0 vd _ rfl rfl
theorem Cr.oo (h:Cr B w x st hx s0 vd vm vo fs):w.ownsRow B 235 1 vo fs.length fs:=h.owned.own 2 vo _ rfl rfl
theorem Cr.size (h:Cr B w x st hx s0 vd vm vo fs):B≤w.heap.size:=by have:=h.base;have:=h.blk.lt;omega
theorem Cr.below (h:Cr B w x st hx s0 vd vm vo fs) (hb:Below w.heap.size w w'):Cr B w' x st hx s0 vd vm vo fs :=
  ⟨h.blk.below hb h.blk.lt,h.rdr.below hb h.rdr.lt,h.dp.below hb h.dp.lt,h.mn.below hb h.mn.lt,h.dm,h.base,h.owned.below_all hb,h.names.to (hb.block _ h.names.lt),h.small⟩
theorem Cr.ne (h:Cr B w x st hx s0 vd vm vo fs):x.r≠x.b∧x.d≠x.b∧x.m≠x.b∧x.mp≠x.b:=by
  refine⟨fun e=>?_,fun e=>?_,fun e=>?_,h.names.notblk h.blk⟩
  · have h1:=h.blk;have h2:=h.rdr;rw[e]at h2;unfold Blk at h1 h2;rw[h1]at h2;simp at h2
  · have h1:=h.blk;have h2:=h.dp;rw[e]at h2;unfold Blk at h1 h2;rw[h1]at h2;simp at h2
  · have h1:=h.blk;have h2:=h.mn;rw[e]at h2;unfold Blk at h1 h2;rw[h1]at h2;simp at h2
theorem Cr.setB (h:Cr B w x st hx s0 vd vm vo fs) (i:Nat) (u:Value) (hx':Nat) (s0':Int) (ha:(crArr x st hx s0 vo).setIfInBounds i u=crArr x st hx' s0' vo):Cr B (w.setCell ⟨x.b,i,none⟩ u) x st hx' s0' vd vm vo fs∧BoxStill w (w.setCell ⟨x.b,i,none⟩ u)∧Below B w (w.setCell ⟨x.b,i,none⟩ u):=by
  refine⟨⟨?_,h.rdr.far h.ne.1 u,h.dp.far h.ne.2.1 u,h.mn.far h.ne.2.2.1 u,h.dm,h.base,h.owned.set (by simp) i u,h.names.to (Below.heap_setCell _ _ _ _ h.ne.2.2.2),h.small⟩,?_,(Below.refl B w).setCell h.base.1 _⟩
  · rw[← ha];exact h.blk.set i u
  · refine fun k cs T hb ht=>hb.far ?_ u
    intro e
    simp at e
    subst e
    have h1:=h.blk
    unfold Blk at h1 hb
    rw[hb]at h1
    simp at h1
    have:=h1.2
    subst this
    rcases ht with e|e|e<;>exact absurd e (by decide)
theorem Cr.growO (h:Cr B w x st hx s0 vd vm vo fs) {f:Value} {g cap:Nat} (hg:w.grownBy w1 vo.ownBlock) (hown:w1.ownsRow B 235 1 (.slice (some ⟨g,0,none⟩) (fs.length+1) cap) (fs.length+1) (fs++[f])) (hat:vo.ownBlock=some g∨g=w.heap.size) :
    Cr B (w1.setCell ⟨x.b,8,none⟩ (.slice (some ⟨g,0,none⟩) (fs.length+1) cap)) x st hx s0 vd vm (.slice (some ⟨g,0,none⟩) (fs.length+1) cap) (fs++[f])∧BoxStill w (w1.setCell ⟨x.b,8,none⟩ (.slice (some ⟨g,0,none⟩) (fs.length+1) cap))∧Below B w (w1.setCell ⟨x.b,8,none⟩ (.slice (some ⟨g,0,none⟩) (fs.length+1) cap)):=by
  have hst:Still w (w1.setCell ⟨x.b,8,none⟩ (.slice (some ⟨g,0,none⟩) (fs.length+1) cap)) (fun k=>k=x.b∨vo.ownBlock=some k) :=
    Still.set (F:=fun k=>k=x.b∨vo.ownBlock=some k) (Still.grown (F:=fun k=>k=x.b∨vo.ownBlock=some k) (Still.refl w _) hg (fun k hk=>Or.inl (Or.inr hk))) (Or.inl (Or.inl rfl)) _ _
  have off:∀ k∈[x.b,x.r,x.d,x.m,x.mp],¬ vo.ownBlock=some k:=fun k hk e=>h.owned.off 2 vo k rfl hk e
  have hbx:BoxStill w (w1.setCell ⟨x.b,8,none⟩ (.slice (some ⟨g,0,none⟩) (fs.length+1) cap)):=by
    refine BoxStill.ofStill hst (fun k cs T hb ht e=>?_)
    rcases e with e|e
    · subst e
      have h1:=h.blk
      unfold Blk at h1 hb
      rw[hb]at h1
      simp at h1
      have:=h1.2
      subst this
      rcases ht with e|e|e<;>exact absurd e (by decide)
    · rcases ht with e1|e1|e1<;>subst e1<;>exact row_not_blk hb h.oo (by decide) e
  have hlts:∀ b∈[x.b,x.r,x.d,x.m,x.mp],b<w.heap.size:=by
    intro b hb
    simp at hb
    rcases hb with rfl|rfl|rfl|rfl|rfl
    · exact h.blk.lt
    · exact h.rdr.lt
    · exact h.dp.lt
    · exact h.mn.lt
    · exact h.names.lt
  refine⟨⟨?_,?_,?_,?_,h.dm,h.base,?_,?_,h.small⟩,hbx,?_⟩
  · have:=(h.blk.grown hg (fun e=>off x.b (by simp) e.symm)).set 8 (.slice (some ⟨g,0,none⟩) (fs.length+1) cap)
    unfold crArr at this
    simp only[List.setIfInBounds_toArray,List.set_cons_succ,List.set_cons_zero]at this
    exact this
  · exact h.rdr.still hst (fun e=>by rcases e with e|e;exact h.ne.1 e;exact off x.r (by simp) e)
  · exact h.dp.still hst (fun e=>by rcases e with e|e;exact h.ne.2.1 e;exact off x.d (by simp) e)
  · exact h.mn.still hst (fun e=>by rcases e with e|e;exact h.ne.2.2.1 e;exact off x.m (by simp) e)
  · have:=(h.owned.grow 2 vo (.slice (some ⟨g,0,none⟩) (fs.length+1) cap) ⟨235,1,fs.length+1,fs++[f]⟩ rfl hlts hg hown (lies_at hat (Nat.le_refl _))).set (b:=x.b) (by simp) 8 (.slice (some ⟨g,0,none⟩) (fs.length+1) cap)
    have e:cpRows st (fs++[f])=(cpRows st fs).set 2 ⟨235,1,fs.length+1,fs++[f]⟩:=by
      unfold cpRows
      simp
    rw[e]
    exact this
  · exact h.names.to (hst.block _ h.names.lt (fun e=>by rcases e with e|e;exact h.ne.2.2.2 e;exact off x.mp (by simp) e))
  · exact hst.below (fun k hk=>by rcases hk with rfl|hk;exact h.base.1;exact (ownsRow_lt h.oo hk).2) h.size
end
theorem rpush_any (B:Nat) (x:CX) (st:RS) (w:World) (hx:Nat) (s0:Int) (vd vm vo:Value) (fs:List Value) (h:Cr B w x st hx s0 vd vm vo fs) (q:Nat) (f:Value) (hf1:f.oneCell'=true) (hq:Blk w q #[f] 235) (hlen:fs.length<3990) :
    Calls Tryz.prog 186 #[.pointer (some ⟨x.b,0,none⟩),.slice (some ⟨q,0,none⟩) 1 1] w fun e w'=>e=.returned (.tuple #[])∧∃ vo',Cr B w' x st hx s0 vd vm vo' (fs++[f])∧BoxStill w w'∧Below B w w':=by
  obtain⟨iT,hiT,hzT0,hzT1,hzT2⟩:=info_parts Tryz.infoThing
  obtain⟨ao,co,hvo⟩:=own_shape h.oo
  subst hvo
  have hne:some x.b≠(Value.slice ao fs.length co).ownBlock:=fun e=>h.owned.off 2 _ x.b rfl (by simp) e.symm
  have hc:=h.blk.cell
  have hf:=h.blk.free
  unfold crArr at hc
  have HO:=V h.oo
  have HB:=V h.blk
  unfold crArr at HB
  have HS:=V h.size
  have HH:=V h
  have HQ:=V hq
  clear h hq
  generalize hL:fs.length=L at *
  have HL:=V hL
  clear hL
  go_enter Tryz.func186,Tryz.ntmps186
  go_wp2_with (at_builtin;refine wpList_append_lies _ rfl (.tmp 8) (.tmp 9) 98 rfl B 235 iT _ 1 8 Tryz.underlying98 hiT hzT0 hzT1 hzT2 rfl (by decide) (.slice ao L co) L fs (by simp[Act.eval]) (U HO) ⟨q,0,none⟩ 1 1 [f] (by simp[Act.eval]) rfl (World.news_of_block (U HQ)) (by simpa using hf1) (by omega) (by unfold maxLen;omega) (by omega) (U HS) _ rfl ?_;intro g cap w5 hown hgrow hat hlt1;have hb5:=(U HB).grown hgrow hne;have hc5:=hb5.cell;have hf5:=hb5.free;have HOW:=V hown;have HG:=V hgrow;have HA:=V hat;clear hown hgrow hat hb5 hc hf)
  go_end0
  obtain rfl:=(U HL).symm
  obtain⟨k1,k2,k3⟩:=(U HH).growO (U HG) (U HOW) (U HA)
  exact⟨rfl,_,k1,k2,k3⟩
theorem Cr.word {B:Nat} {w:World} {x:CX} {st:RS} {vd vm vo f:Value} {nm:ByteArray} (h:Cr B w x st x.d st.c0.length vd vm vo ([]++[f])) (hop:st.opens=[]) (hf:WordOk w x.b f nm):CpE B w x (colonS st nm):=by
  have e:hereX x (colonS st nm)=x.d:=by unfold hereX;exact if_pos (by simp[colonS])
  refine⟨st.c0.length,vd,vm,vo,[f],[],Cr.cp (fw:=[f]) (fo:=[]) ?_ (fun _=>rfl) ⟨fun _=>⟨f,rfl,hf⟩,fun hs=>absurd hs (by simp[colonS]),by simp[colonS,hop],fun i f o h1 _=>by simp at h1⟩⟩
  rw[e]
  exact⟨h.blk,h.rdr,h.dp,h.mn,h.dm,h.base,h.owned,h.names,h.small⟩
theorem openWord_any (B:Nat) (x:CX) (st:RS) (w:World) (h:CpE B w x st) (nm:ByteArray) (hs:st.start<0) (hop:st.opens=[]) :
    Calls Tryz.prog 194 #[.pointer (some ⟨x.b,0,none⟩),.string nm] w fun e w'=>e=.returned (.tuple #[])∧CpE B w' x (colonS st nm)∧BoxStill w w'∧Below B w w':=by
  obtain⟨s0,vd,vm,vo,fw,fo,h⟩:=h
  obtain rfl:=h.things.none hs
  have hfo:fo=[]:=by have:=h.things.len;rw[hop]at this;simpa using this
  subst hfo
  have hb0:Below w.heap.size w ((w.alloc (.cells #[.pointer (some ⟨x.b,0,none⟩)] 91)).alloc (.cells #[.string nm] 9)):=by (repeat (first|with_reducible refine below_drew ?_|with_reducible refine below_drawn ?_ _|with_reducible refine below_longer ?_ _|(with_reducible refine Below.alloc ?_ ?_ _;rotate_left;(first|omega|((repeat (first|rw[World.size_up]|rw[World.size_dr]|rw[World.size_drN]))<;>omega)))));(with_reducible exact Below.refl _ _)
  have hcb:Blk ((w.alloc (.cells #[.pointer (some ⟨x.b,0,none⟩)] 91)).alloc (.cells #[.string nm] 9)) w.heap.size #[.pointer (some ⟨x.b,0,none⟩)] 91:=by (repeat (first|with_reducible refine Blk.drew ?_|with_reducible refine Blk.drewN ?_ _|(with_reducible refine blk_newAt _ _ ?_;(first|omega|((repeat (first|rw[World.size_up]|rw[World.size_dr]|rw[World.size_drN]))<;>omega)))|with_reducible refine Blk.alloc ?_ _));(first|done|with_reducible assumption)
  have hnb:Blk ((w.alloc (.cells #[.pointer (some ⟨x.b,0,none⟩)] 91)).alloc (.cells #[.string nm] 9)) (w.heap.size+1) #[.string nm] 9:=by (repeat (first|with_reducible refine Blk.drew ?_|with_reducible refine Blk.drewN ?_ _|(with_reducible refine blk_newAt _ _ ?_;(first|omega|((repeat (first|rw[World.size_up]|rw[World.size_dr]|rw[World.size_drN]))<;>omega)))|with_reducible refine Blk.alloc ?_ _));(first|done|with_reducible assumption)
  have hB:=h.size
  have hr:=h.raw.below hb0
  have hc:=hr.blk.cell
  have hf:=hr.blk.free
  unfold crArr at hc
  have hcc:=hcb.cell
  have HR:=V hr
  have HCB:=V hcb
  have HNB:=V hnb
  have HB0:=V hb0
  have hxw:x.b<w.heap.size:=h.blk.lt
  have hxn:x.b≠w.heap.size:=by omega
  have hnx:w.heap.size≠x.b:=by omega
  clear hcb hnb hb0 hr h
  generalize hereX x st=hx at *
  go_enter Tryz.func194,Tryz.ntmps194
  go_wp2_with fail
  generalize (w.alloc (.cells #[.pointer (some ⟨x.b,0,none⟩)] 91)).alloc (.cells #[.string nm] 9)=W0 at *
  go_cut [] from 4 to 23 (fun wc=>Cr B wc x st x.d s0 vd vm vo []∧BoxStill W0 wc∧Below B W0 wc)
  case first =>
    go_region_law (fail)
    all_goals
      go_wp2_with fail
      go_meet
      obtain⟨k1,k2,k3⟩:=(U HR).setB 4 (.pointer (some ⟨x.d,0,none⟩)) x.d s0 rfl
      first
      | exact⟨k1,k2,k3⟩
      | exact⟨k1.below (below_drew (Below.refl _ _)),k2,below_drew k3⟩
      | exact⟨k1.below (below_drawn (Below.refl _ _) 1),k2,below_drawn k3 1⟩
  case rest =>
    obtain⟨hr1,hbx1,hbl1⟩:=hcut
    have hcb1:=hbx1 _ _ _ (U HCB) (Or.inl rfl)
    have hcc1:=hcb1.cell
    have hc1:=hr1.blk.cell
    have hf1:=hr1.blk.free
    unfold crArr at hc1
    obtain⟨ad,kd,hvd⟩:=own_shape hr1.od
    subst hvd
    have hsm:=hr1.small
    have HN:Hid (∀ m,Calls Tryz.prog 78 #[.pointer (some ⟨x.d,0,none⟩)] (wc.drewN m) fun e w'=>e=.returned (.int .i64 st.c0.length)∧w'=wc.drewN m):=fun m=>partNext_any x.d st.c0.length ad kd (wc.drewN m) hr1.dp (by omega)
    have HR1:=V hr1
    have HX1:=V (And.intro hbx1 hbl1)
    have HCB1:=V hcb1
    clear hr1 hbx1 hbl1 hcb1 hc hf hcc
    go_wp2_with fail
    go_cut [] from 4 to 23 (fun wd=>Cr B wd x st x.d st.c0.length (.slice ad st.c0.length kd) vm vo []∧BoxStill W0 wd∧Below B W0 wd)
    case first =>
      go_region_law (refine step_call rfl 78 #[.tmp 15] #[96] rfl Tryz.func78 Tryz.name78 Tryz.body78 #[.pointer (some ⟨x.d,0,none⟩)] (by first|(simp[Act.eval];done)|(simp[Act.eval,Act.put];done)|rfl) (U HN 1) ?_;rintro e w1 ⟨rfl,rfl⟩;refine⟨_,rfl,?_⟩)
      all_goals
        go_wp2_with fail
        go_meet
        obtain⟨k1,k2,k3⟩:=(U HR1).setB 5 (.int .i64 st.c0.length) x.d st.c0.length rfl
        obtain⟨m1,m2⟩:=U HX1
        first
        | exact⟨k1,m1.trans k2,m2.trans k3⟩
        | exact⟨k1.below (below_drawn (Below.refl _ _) 1),m1.trans k2,m2.trans (below_drawn k3 1)⟩
    case rest =>
      obtain⟨hr2,hbx2,hbl2⟩:=hcut
      have hcb2:=hbx2 _ _ _ (U HCB) (Or.inl rfl)
      have hnb2:=hbx2 _ _ _ (U HNB) (Or.inr (Or.inr rfl))
      have hcc2:=hcb2.cell
      have H2:=V (And.intro hr2 (And.intro hbx2 (And.intro hbl2 (And.intro hcb2 hnb2))))
      clear hr2 hbx2 hbl2 hcb2 hnb2 hcc1 hc1 hf1 HN
      go_wp2_with fail
      obtain⟨hr2,hbx2,hbl2,hcb2,hnb2⟩:=U H2
      have hb3:Below wc.heap.size wc (wc.alloc (.cells #[.func (.func 218) #[] #[.pointer (some ⟨w.heap.size,0,none⟩),.pointer (some ⟨w.heap.size+1,0,none⟩)]] 235)):=by (repeat (first|with_reducible refine below_drew ?_|with_reducible refine below_drawn ?_ _|with_reducible refine below_longer ?_ _|(with_reducible refine Below.alloc ?_ ?_ _;rotate_left;(first|omega|((repeat (first|rw[World.size_up]|rw[World.size_dr]|rw[World.size_drN]))<;>omega)))));(with_reducible exact Below.refl _ _)
      refine (rpush_any B x st _ x.d st.c0.length _ vm vo [] (hr2.below hb3) wc.heap.size _ rfl (Blk.new _ _ _) (by simp)).mono ?_
      rintro e w3 ⟨rfl,vo',k1,k2,k3⟩
      have H3:=V (And.intro k1 (And.intro k2 (And.intro k3 hb3)))
      clear hr2 hbx2 hbl2 hcb2 hnb2 k1 k2 k3 hb3 hcc2
      go_wp2_with fail
      go_end0
      obtain⟨hr2,hbx2,hbl2,hcb2,hnb2⟩:=U H2
      obtain⟨k1,k2,k3,hb3⟩:=U H3
      have k2':=(BoxStill.ofBelow hb3).trans k2
      have hwc:=hr2.size
      exact⟨rfl,k1.word hop ⟨_,_,k2' _ _ _ hcb2 (Or.inl rfl),k2' _ _ _ hnb2 (Or.inr (Or.inr rfl)),rfl⟩,(BoxStill.ofBelow (U HB0)).trans (hbx2.trans k2'),(below_less (U HB0) hB).trans (hbl2.trans ((below_less hb3 hwc).trans k3))⟩
section
variable {B:Nat} {w w' w1:World} {x:CX} {st:RS} {hx:Nat} {s0:Int} {vd vm vo:Value} {fs:List Value}
theorem Cr.lts (h:Cr B w x st hx s0 vd vm vo fs):∀ b∈[x.b,x.r,x.d,x.m,x.mp],b<w.heap.size:=by
  intro b hb
  simp at hb
  rcases hb with rfl|rfl|rfl|rfl|rfl
  · exact h.blk.lt
  · exact h.rdr.lt
  · exact h.dp.lt
  · exact h.mn.lt
  · exact h.names.lt
theorem Cr.bl {k:Nat} {cs:Array Value} {T T':TypeId} {cs':Array Value} (h:Blk w k cs T) (h':Blk w k cs' T'):T=T':=by
  unfold Blk at h h'
  rw[h]at h'
  simp at h'
  exact h'.2
theorem Cr.growD (h:Cr B w x st hx s0 vd vm vo fs) {op arg:Int} {g cap:Nat} (hlen:st.c0.length<4000) (hg:w.grownBy w1 vd.ownBlock) (hown:w1.ownsRow B 65 2 (.slice (some ⟨g,0,none⟩) (st.c0.length+1) cap) (st.c0.length+1) (instrCells (st.c0++[(op,arg)]))) (hat:vd.ownBlock=some g∨g=w.heap.size) :
    Cr B (w1.setCell ⟨x.d,0,none⟩ (.slice (some ⟨g,0,none⟩) (st.c0.length+1) cap)) x { st with c0:=st.c0++[(op,arg)] } hx s0 (.slice (some ⟨g,0,none⟩) (st.c0.length+1) cap) vm vo fs∧BoxStill w (w1.setCell ⟨x.d,0,none⟩ (.slice (some ⟨g,0,none⟩) (st.c0.length+1) cap))∧Below B w (w1.setCell ⟨x.d,0,none⟩ (.slice (some ⟨g,0,none⟩) (st.c0.length+1) cap)):=by
  have hst:Still w (w1.setCell ⟨x.d,0,none⟩ (.slice (some ⟨g,0,none⟩) (st.c0.length+1) cap)) (fun k=>k=x.d∨vd.ownBlock=some k) :=
    Still.set (F:=fun k=>k=x.d∨vd.ownBlock=some k) (Still.grown (F:=fun k=>k=x.d∨vd.ownBlock=some k) (Still.refl w _) hg (fun k hk=>Or.inl (Or.inr hk))) (Or.inl (Or.inl rfl)) _ _
  have off:∀ k∈[x.b,x.r,x.d,x.m,x.mp],¬ vd.ownBlock=some k:=fun k hk e=>h.owned.off 0 vd k rfl hk e
  have hbx:BoxStill w (w1.setCell ⟨x.d,0,none⟩ (.slice (some ⟨g,0,none⟩) (st.c0.length+1) cap)):=by
    refine BoxStill.ofStill hst (fun k cs T hb ht e=>?_)
    rcases e with e|e
    · subst e
      have:=Cr.bl h.dp hb
      subst this
      rcases ht with e|e|e<;>exact absurd e (by decide)
    · rcases ht with e1|e1|e1<;>subst e1<;>exact row_not_blk hb h.od (by decide) e
  refine⟨⟨?_,?_,?_,?_,h.dm,h.base,?_,?_,?_⟩,hbx,?_⟩
  · exact h.blk.still hst (fun e=>by rcases e with e|e;exact h.ne.2.1 e.symm;exact off x.b (by simp) e)
  · refine h.rdr.still hst (fun e=>?_)
    rcases e with e|e
    · have h1:=h.rdr;rw[e]at h1;exact absurd (Cr.bl h1 h.dp) (by decide)
    · exact off x.r (by simp) e
  · have:=(h.dp.grown hg (fun e=>off x.d (by simp) e.symm)).set 0 (.slice (some ⟨g,0,none⟩) (st.c0.length+1) cap)
    simpa only [List.setIfInBounds_toArray,List.set_cons_zero] using this
  · exact h.mn.still hst (fun e=>by rcases e with e|e;exact h.dm e.symm;exact off x.m (by simp) e)
  · have:=(h.owned.grow 0 vd (.slice (some ⟨g,0,none⟩) (st.c0.length+1) cap) ⟨65,2,st.c0.length+1,instrCells (st.c0++[(op,arg)])⟩ rfl h.lts hg hown (lies_at hat (Nat.le_refl _))).set (b:=x.d) (by simp) 0 (.slice (some ⟨g,0,none⟩) (st.c0.length+1) cap)
    simpa [cpRows] using this
  · exact h.names.to (hst.block _ h.names.lt (fun e=>by rcases e with e|e;exact h.names.notblk h.dp e;exact off x.mp (by simp) e))
  · have:=h.small;simp;omega
  · exact hst.below (fun k hk=>by rcases hk with rfl|hk;exact h.base.2.2.1;exact (ownsRow_lt h.od hk).2) h.size
theorem Cr.named (h:Cr B w x st hx s0 vd vm vo fs) {t:ByteArray} {op arg:Int} (hlen:st.names.length<4000) (hm:MapIs w' x.mp (st.names++[(t,op,arg)])) (hg:w.grownBy w' (some x.mp)) :
    Cr B w' x { st with names:=st.names++[(t,op,arg)] } hx s0 vd vm vo fs∧BoxStill w w'∧Below B w w':=by
  have hst:Still w w' (fun k=>k=x.mp):=Still.grown (F:=fun k=>k=x.mp) (Still.refl w _) hg (fun k hk=>Or.inl (by simpa using hk.symm))
  have off:∀ {k:Nat} {cs:Array Value} {T:TypeId},Blk w k cs T→¬ k=x.mp:=fun hb e=>h.names.notblk hb e.symm
  refine⟨⟨h.blk.still hst (off h.blk),h.rdr.still hst (off h.rdr),h.dp.still hst (off h.dp),h.mn.still hst (off h.mn),h.dm,h.base,?_,hm,?_⟩,BoxStill.ofStill hst (fun k cs T hb _=>off hb),hst.below (fun k hk=>by rw[hk];exact h.base.2.2.2.2) h.size⟩
  · exact h.owned.to (fun i v k hv hk hlt=>hst.block k hlt (fun e=>h.owned.off i v x.mp hv (by simp) (by rw[hk,e])))
  · have:=h.small;simp;omega
end
theorem radd_any (B:Nat) (x:CX) (st:RS) (w:World) (hx:Nat) (s0:Int) (vd vm vo:Value) (fs:List Value) (h:Cr B w x st hx s0 vd vm vo fs) (q:Nat) (op arg:Int) (hq:Blk w q #[.int .i64 op,.int .i64 arg] 65) (hlen:st.c0.length<4000) :
    Calls Tryz.prog 50 #[.pointer (some ⟨x.d,0,none⟩),.slice (some ⟨q,0,none⟩) 1 1] w fun e w'=>e=.returned (.int .i64 st.c0.length)∧∃ vd',Cr B w' x { st with c0:=st.c0++[(op,arg)] } hx s0 vd' vm vo fs∧BoxStill w w'∧Below B w w':=by
  refine (partAdd_any B x.d q vd st.c0 op arg 1 w h.dp h.od hq h.size (by omega)).mono ?_
  rintro e w' ⟨rfl,g,cap,w1,hown,hg,hat,rfl⟩
  obtain⟨k1,k2,k3⟩:=h.growD hlen hg hown hat
  exact⟨rfl,_,k1,k2,k3⟩
def semi1 (st:RS):RS:={ st with c0:=st.c0++[(4,0)] }
def semi2 (st:RS):RS:={ st with c0:=st.c0++[(4,0)],names:=st.names++[(st.name,3,st.start)] }
theorem updW (B:Nat) (x:CX) (st:RS) (w:World) (hx:Nat) (s0:Int) (vd vm vo:Value) (fs:List Value) (h:Cr B w x st hx s0 vd vm vo fs) (t:ByteArray) (op arg:Int) (ht:t.size≤2000) (hl:st.names.length<4000) (hnew:st.names.find? (fun x=>x.1 == t)=none) :
    ∀ W:World,Below w.heap.size w W→∃ w',(Instr.mapUpdate 97 (.map (some x.mp)) (.string t) (.agg #[.int .i64 op,.int .i64 arg])).run Tryz.prog W=.ok () w'∧(Cr B w' x { st with names:=st.names++[(t,op,arg)] } hx s0 vd vm vo fs∧BoxStill w w'∧Below B w w'):=by
  intro W hW
  have h1:=h.below hW
  obtain⟨w',hrun,hm,hg⟩:=h1.names.update t ht op arg (by omega) hnew
  obtain⟨k1,k2,k3⟩:=h1.named hl hm hg
  exact⟨w',hrun,k1,(BoxStill.ofBelow hW).trans k2,(below_less hW h.size).trans k3⟩
theorem raddW (B:Nat) (x:CX) (st:RS) (w:World) (hx:Nat) (s0:Int) (vd vm vo:Value) (fs:List Value) (h:Cr B w x st hx s0 vd vm vo fs) (op arg:Int) (hlen:st.c0.length<4000) :
    ∀ (W:World) (q:Nat),Below w.heap.size w W→Blk W q #[.int .i64 op,.int .i64 arg] 65→Calls Tryz.prog 50 #[.pointer (some ⟨x.d,0,none⟩),.slice (some ⟨q,0,none⟩) 1 1] W fun e w'=>e=.returned (.int .i64 st.c0.length)∧(∃ vd',Cr B w' x { st with c0:=st.c0++[(op,arg)] } hx s0 vd' vm vo fs)∧BoxStill w w'∧Below B w w':=by
  intro W q hW hq
  refine (radd_any B x st W hx s0 vd vm vo fs (h.below hW) q op arg hq hlen).mono ?_
  rintro e w' ⟨rfl,vd',k1,k2,k3⟩
  exact⟨rfl,⟨vd',k1⟩,(BoxStill.ofBelow hW).trans k2,(below_less hW h.size).trans k3⟩
theorem Cr.semi {B:Nat} {w:World} {x:CX} {st:RS} {s0:Int} {vd vm vo:Value} (hs:0≤st.start) (h:Cr B w x (semi2 st) x.m s0 vd vm vo []) (hop:st.opens=[]):CpE B w x (semiS st):=by
  have e1:semiS st={ st with c0:=st.c0++[(4,0)],names:=st.names++[(st.name,3,st.start)],start:=-1 }:=by
    unfold semiS putS;rw[if_pos hs]
  have e:hereX x (semiS st)=x.m:=by rw[e1];unfold hereX;exact if_neg (by simp)
  refine⟨s0,vd,vm,vo,[],[],Cr.cp (fw:=[]) (fo:=[]) ?_ (fun h=>absurd h (by rw[e1];simp)) ⟨fun h=>absurd h (by rw[e1];simp),fun _=>rfl,by rw[e1];simp[hop],fun i f o h1 _=>by simp at h1⟩⟩
  rw[e,e1]
  exact⟨h.blk,h.rdr,h.dp,h.mn,h.dm,h.base,h.owned,h.names,h.small⟩
theorem closeWord_yes (B:Nat) (x:CX) (st:RS) (w:World) (vd vm vo:Value) (h:Cr B w x st x.d st.start vd vm vo []) (cb nb:Nat) (hcb:Blk w cb #[.pointer (some ⟨x.b,0,none⟩)] 91) (hnb:Blk w nb #[.string st.name] 9) (hs:0≤st.start) (hop:st.opens=[]) (hlen:st.c0.length<4000) (hnl:st.names.length<4000) (hnew:st.names.find? (fun x=>x.1 == st.name)=none) (hsz:st.name.size≤2000) :
    Calls Tryz.prog 218 #[.string ⟨#[59]⟩,.pointer (some ⟨cb,0,none⟩),.pointer (some ⟨nb,0,none⟩)] w (fun e w'=>e=.returned (.bool true)∧CpE B w' x (semiS st)∧BoxStill w w'∧Below B w w'):=by
  have hc:=h.blk.cell
  unfold crArr at hc
  have hcc:=hcb.cell
  have hcn:=hnb.cell
  have hxl:=h.blk.lt
  have hcl:=hcb.lt
  have hnl2:=hnb.lt
  have hxw0:x.b<w.heap.size+1:=by omega
  have hyw0:x.b≤w.heap.size:=by omega
  have hzw0:x.b≤w.heap.size+1:=by omega
  have hww0:x.b<w.heap.size+1+1:=by omega
  have hxw1:cb<w.heap.size+1:=by omega
  have hyw1:cb≤w.heap.size:=by omega
  have hzw1:cb≤w.heap.size+1:=by omega
  have hww1:cb<w.heap.size+1+1:=by omega
  have hxw2:nb<w.heap.size+1:=by omega
  have hyw2:nb≤w.heap.size:=by omega
  have hzw2:nb≤w.heap.size+1:=by omega
  have hww2:nb<w.heap.size+1+1:=by omega
  have HADD:Hid (∀ (W:World) (q:Nat),Below w.heap.size w W→Blk W q #[.int .i64 4,.int .i64 0] 65→Calls Tryz.prog 50 #[.pointer (some ⟨x.d,0,none⟩),.slice (some ⟨q,0,none⟩) 1 1] W fun e w'=>e=.returned (.int .i64 st.c0.length)∧(∃ vd',Cr B w' x (semi1 st) x.d st.start vd' vm vo [])∧BoxStill w w'∧Below B w w'):=raddW B x st w x.d st.start vd vm vo [] h 4 0 hlen
  have HUP0:Hid (∀ (wc:World) (vd':Value),Cr B wc x (semi1 st) x.d st.start vd' vm vo []→∀ W:World,Below wc.heap.size wc W→∃ w',(Instr.mapUpdate 97 (.map (some x.mp)) (.string st.name) (.agg #[.int .i64 3,.int .i64 st.start])).run Tryz.prog W=.ok () w'∧(Cr B w' x (semi2 st) x.d st.start vd' vm vo []∧BoxStill wc w'∧Below B wc w')):=fun wc vd' hr=>updW B x (semi1 st) wc x.d st.start vd' vm vo [] hr st.name 3 st.start hsz hnl hnew
  have HSM:Hid (∀ (w':World) (vd':Value),Cr B w' x (semi2 st) x.m st.start vd' vm vo []→CpE B w' x (semiS st)):=fun w' vd' hr=>Cr.semi hs hr hop
  have HCB:=V hcb
  have HNB:=V hnb
  have HS:=V h.size
  clear hcb hnb h
  generalize hse:st.start=s at *
  have HSE:=V hse
  generalize hne:st.name=nm at *
  have HNE:=V hne
  clear hse hne
  go_enter Tryz.func218,Tryz.ntmps218
  go_wp2_with fail
  go_cut [] from 7 to 30 (fun wc=>(∃ vd',Cr B wc x (semi1 st) x.d s vd' vm vo [])∧BoxStill w wc∧Below B w wc)
  case first =>
    go_region_law (first
      | (refine step_call rfl 51 #[.const (.int .i64 4)] #[3] rfl Tryz.func51 Tryz.name51 Tryz.body51 #[.int .i64 4] (by first|(simp[Act.eval];done)|(simp[Act.eval,Act.put];done)|rfl) (plainI_any 4 _) ?_;rintro e w1 ⟨rfl,rfl⟩;refine⟨_,rfl,?_⟩)
      | (refine step_call rfl 50 #[.tmp 10,.tmp 12] #[96,33] rfl Tryz.func50 Tryz.name50 Tryz.body50 #[.pointer (some ⟨x.d,0,none⟩),.slice (some ⟨w.heap.size+1,0,none⟩) 1 1] (by first|(simp[Act.eval];done)|(simp[Act.eval,Act.put];done)|rfl) (U HADD _ (w.heap.size+1) (by (repeat (first|with_reducible refine below_drew ?_|with_reducible refine below_drawn ?_ _|with_reducible refine below_longer ?_ _|(with_reducible refine Below.alloc ?_ ?_ _;rotate_left;(first|omega|((repeat (first|rw[World.size_up]|rw[World.size_dr]|rw[World.size_drN]))<;>omega)))));(with_reducible exact Below.refl _ _)) (by (repeat (first|with_reducible refine Blk.drew ?_|with_reducible refine Blk.drewN ?_ _|(with_reducible refine blk_newAt _ _ ?_;(first|omega|((repeat (first|rw[World.size_up]|rw[World.size_dr]|rw[World.size_drN]))<;>omega)))|with_reducible refine Blk.alloc ?_ _));(first|done|with_reducible assumption))) ?_;rintro e w1 ⟨rfl,h1⟩;refine⟨_,rfl,?_⟩;have H1:=V h1;clear h1))
    all_goals
      go_wp2_with fail
      go_meet
      exact U H1
  case rest =>
    obtain⟨⟨vd',hr1⟩,hbx1,hbl1⟩:=hcut
    have hcb1:=hbx1 _ _ _ (U HCB) (Or.inl rfl)
    have hnb1:=hbx1 _ _ _ (U HNB) (Or.inr (Or.inr rfl))
    have hcc1:=hcb1.cell
    have hcn1:=hnb1.cell
    have hc1:=hr1.blk.cell
    unfold crArr at hc1
    have hxl1:=hr1.blk.lt
    have hcl1:=hcb1.lt
    have hnl1:=hnb1.lt
    have hxwc0:x.b<wc.heap.size+1:=by omega
    have hywc0:x.b≤wc.heap.size:=by omega
    have hzwc0:x.b≤wc.heap.size+1:=by omega
    have hwwc0:x.b<wc.heap.size+1+1:=by omega
    have hxwc1:cb<wc.heap.size+1:=by omega
    have hywc1:cb≤wc.heap.size:=by omega
    have hzwc1:cb≤wc.heap.size+1:=by omega
    have hwwc1:cb<wc.heap.size+1+1:=by omega
    have hxwc2:nb<wc.heap.size+1:=by omega
    have hywc2:nb≤wc.heap.size:=by omega
    have hzwc2:nb≤wc.heap.size+1:=by omega
    have hwwc2:nb<wc.heap.size+1+1:=by omega
    have HUP:=V (U HUP0 wc vd' hr1)
    have H1:=V (And.intro hbx1 (And.intro hbl1 hr1.size))
    have HCB1:=V hcb1
    clear hr1 hbx1 hbl1 hcb1 hnb1 hc hcc hcn HADD
    clear hxw0 hyw0 hzw0 hww0 hxw1 hyw1 hzw1 hww1 hxw2 hyw2 hzw2 hww2
    go_wp2_with fail
    go_cut [] from 7 to 30 (fun wd=>Cr B wd x (semi2 st) x.d s vd' vm vo []∧BoxStill wc wd∧Below B wc wd)
    case first =>
      obtain⟨w2,hrun,h2⟩:=U HUP (wc.alloc (.cells #[.int .i64 3,.int .i64 s] 65)).drew (by (repeat (first|with_reducible refine below_drew ?_|with_reducible refine below_drawn ?_ _|with_reducible refine below_longer ?_ _|(with_reducible refine Below.alloc ?_ ?_ _;rotate_left;(first|omega|((repeat (first|rw[World.size_up]|rw[World.size_dr]|rw[World.size_drN]))<;>omega)))));(with_reducible exact Below.refl _ _))
      have H2:=V h2
      clear h2 HUP
      go_region_law (refine step_call rfl 77 #[.const (.int .i64 3),.tmp 22] #[3,2] rfl Tryz.func77 Tryz.name77 Tryz.body77 #[.int .i64 3,.int .i64 s] (by first|(simp[Act.eval];done)|(simp[Act.eval,Act.put];done)|rfl) (withI_any 3 s _) ?_;rintro e w1 ⟨rfl,rfl⟩;refine⟨_,rfl,?_⟩)
      all_goals
        go_wp2_with fail
        go_meet
        exact U H2
    case rest =>
      obtain⟨hr2,hbx2,hbl2⟩:=hcut
      have hcb2:=hbx2 _ _ _ (U HCB1) (Or.inl rfl)
      have hcc2:=hcb2.cell
      have hc2:=hr2.blk.cell
      have hf2:=hr2.blk.free
      unfold crArr at hc2
      have HR2:=V hr2
      have H2:=V (And.intro hbx2 hbl2)
      clear hr2 hbx2 hbl2 hcb2 hcc1 hcn1 hc1 HUP
      go_wp2_with fail
      go_cut [] from 7 to 30 (fun we=>Cr B we x (semi2 st) x.m s vd' vm vo []∧BoxStill wc we∧Below B wc we)
      case first =>
        go_region_law (fail)
        all_goals
          go_wp2_with fail
          go_meet
          obtain⟨k1,k2,k3⟩:=(U HR2).setB 4 (.pointer (some ⟨x.m,0,none⟩)) x.m s rfl
          first
          | exact⟨k1,k2,k3⟩
          | exact⟨k1.below (below_drew (Below.refl _ _)),k2,below_drew k3⟩
          | exact⟨k1.below (below_drawn (Below.refl _ _) 1),k2,below_drawn k3 1⟩
      case rest =>
        obtain⟨hr3,hbx3,hbl3⟩:=hcut
        have H3:=V (And.intro hr3 (And.intro hbx3 hbl3))
        clear hr3 hbx3 hbl3 hcc2 hc2 hf2
        go_wp2_with fail
        go_ret
        obtain⟨hr3,hbx3,hbl3⟩:=U H3
        obtain⟨m1,m2,_⟩:=U H1
        obtain⟨n1,n2⟩:=U H2
        exact⟨rfl,U HSM _ _ hr3,m1.trans (n1.trans hbx3),m2.trans (n2.trans hbl3)⟩
theorem closeWord_no (cb nb:Nat) (w:World) (tok:ByteArray) (ht:(tok.toList == [59])=false) :
    Calls Tryz.prog 218 #[.string tok,.pointer (some ⟨cb,0,none⟩),.pointer (some ⟨nb,0,none⟩)] w (fun e w'=>e=.returned (.bool false)∧w'=w):=by
  go_enter Tryz.func218,Tryz.ntmps218
  go_wp2_with fail
  go_ret
  exact⟨rfl,rfl⟩
theorem closeLast_none (B:Nat) (x:CX) (st:RS) (w:World) (hx:Nat) (s0:Int) (vd vm vo:Value) (h:Cr B w x st hx s0 vd vm vo []) (tok:ByteArray) :
    Calls Tryz.prog 146 #[.pointer (some ⟨x.b,0,none⟩),.string tok] w (fun e w'=>e=.returned (.int .i64 4)∧w'=w):=by
  obtain⟨ao,co,hvo⟩:=own_shape h.oo
  subst hvo
  have hc:=h.blk.cell
  unfold crArr at hc
  clear h
  go_enter Tryz.func146,Tryz.ntmps146
  go_wp2_with fail
  go_ret
  exact⟨rfl,rfl⟩
theorem Cr.pop {B:Nat} {w:World} {x:CX} {st:RS} {hx:Nat} {s0:Int} {vd vm f:Value} {fs:List Value} {g k m:Nat} (hm:(fs++[f]).length=m) (h:Cr B w x st hx s0 vd vm (.slice (some ⟨g,0,none⟩) m k) (fs++[f])) :
    Cr B (w.setCell ⟨x.b,8,none⟩ (.slice (some ⟨g,0,none⟩) fs.length k)) x st hx s0 vd vm (.slice (some ⟨g,0,none⟩) fs.length k) fs∧BoxStill w (w.setCell ⟨x.b,8,none⟩ (.slice (some ⟨g,0,none⟩) fs.length k))∧Below B w (w.setCell ⟨x.b,8,none⟩ (.slice (some ⟨g,0,none⟩) fs.length k)):=by
  subst hm
  have hown:=own_cut h.oo fs.length (by simp)
  have e1:(fs++[f]).take (fs.length * 1)=fs:=by simp
  rw[e1]at hown
  refine⟨⟨?_,h.rdr.far h.ne.1 _,h.dp.far h.ne.2.1 _,h.mn.far h.ne.2.2.1 _,h.dm,h.base,?_,h.names.to (Below.heap_setCell _ _ _ _ h.ne.2.2.2),h.small⟩,?_,(Below.refl B w).setCell h.base.1 _⟩
  · have:=h.blk.set 8 (.slice (some ⟨g,0,none⟩) fs.length k)
    unfold crArr at this
    simp only[List.setIfInBounds_toArray,List.set_cons_succ,List.set_cons_zero]at this
    exact this
  · have:=(h.owned.grow 2 _ (.slice (some ⟨g,0,none⟩) fs.length k) ⟨235,1,fs.length,fs⟩ rfl h.lts (World.grownBy.refl _ _) hown (Or.inl rfl)).set (b:=x.b) (by simp) 8 (.slice (some ⟨g,0,none⟩) fs.length k)
    simpa [cpRows] using this
  · refine fun j cs T hb ht=>hb.far ?_ _
    intro e
    simp at e
    subst e
    have:=Cr.bl h.blk hb
    subst this
    rcases ht with e|e|e<;>exact absurd e (by decide)
theorem closeLast_some (B : Nat) (x : CX) (st : RS) (w : World) (hx : Nat) (s0 : Int) (vd vm vo : Value) (F : FuncId) (cap : Array Value) (fs : List Value) (h : Cr B w x st hx s0 vd vm vo (fs ++ [.func (.func F) #[] cap])) (tok : ByteArray) (hl : fs.length < 4000) {fn : Func} (hfn : Tryz.prog.funcs[F]? = some fn) (hfa : (fn.name == "runtime.NumGoroutine") = false) (hfb : fn.body.isNone = false) (R : Bool → World → Prop)
    (hcall:∀ (W:World) (v:Value),Cr B W x st hx s0 vd vm v fs→BoxStill w W→Below B w W→Calls Tryz.prog F (#[.string tok]++cap) W (fun e w'=>∃ b,e=.returned (.bool b)∧R b w')) :
    Calls Tryz.prog 146 #[.pointer (some ⟨x.b,0,none⟩),.string tok] w (fun e w'=>∃ b,e=.returned (.int .i64 (if b=true then 0 else 4))∧R b w'):=by
  have hsf:∀ (a:Addr) (W:World),(store a (.func (.func F) #[] cap)).run Tryz.prog W=stored Tryz.prog W a (.func (.func F) #[] cap) .plain:=fun a W=>run_store _ _ _ _ _ rfl
  have HCF:Hid (∀ (W:World),(callFunc F (#[.string tok]++cap)).run Tryz.prog W=.ok (.enter F (#[.string tok]++cap)) W):=by
    intro W
    have h1 : fn.name ≠ "runtime.NumGoroutine" := by simpa using hfa
    have h2:fn.body≠none:=by intro e;rw[e]at hfb;cases hfb
    simp[callFunc,hfn,h1,h2]
  have HC:=V hcall
  clear hcall
  obtain⟨g,k,hv,hg1,hg2⟩:=h.oo.form (by simp)
  subst hv
  have hcell:=own_cell h.oo fs.length (by simp)
  have hc:=h.blk.cell
  have hxl:=h.blk.lt
  have hxa:x.b<w.heap.size+1:=by omega
  have hxb:x.b≤w.heap.size:=by omega
  have hga:g<w.heap.size+1:=by omega
  have hkk:fs.length+1≤k:=by have:=(own_cap h.oo).1;simp at this;omega
  have hgb:g≤w.heap.size:=by omega
  unfold crArr at hc
  have el:(fs++[Value.func (.func F) #[] cap]).length=fs.length+1:=by simp
  have ei:(fs++[Value.func (.func F) #[] cap])[fs.length]? = some (Value.func (.func F) #[] cap):=by simp
  rw[el]at hc
  rw[ei]at hcell
  have HR:=V h
  clear h el ei
  generalize hn:fs.length=n at *
  have HN:=V hn
  clear hn
  have hwr:IntKind.i64.wrap (n:Int)=n:=by rw[IntKind.wrap_i64];omega
  have hn0:(0:Int)≤n:=by omega
  have hn1:(n:Int)<(n:Int)+1:=by omega
  have hn2:(n:Int)≤k:=by omega
  have hn3:n≤k:=by omega
  go_enter Tryz.func146,Tryz.ntmps146
  go_wp2_with fail
  go_cut [5] from 12 to 42 (fun s5 wc=>∃ tb,s5=.pointer (some ⟨tb,0,none⟩)∧Blk wc tb #[.func (.func F) #[] cap] 235∧Below w.heap.size w wc)
  case first =>
    go_region_law (fail)
    all_goals
      go_wp2_with fail
      go_meet
      first
      | exact⟨_,rfl,Blk.drew (Blk.new _ _ _),below_drew ((Below.refl _ _).alloc (Nat.le_refl _) _)⟩
      | exact⟨_,rfl,Blk.new _ _ _,below_drew ((Below.refl _ _).alloc (Nat.le_refl _) _)⟩
      | trace_state
  case rest =>
    obtain⟨tb,rfl,htb,hbw⟩:=hcut
    have hr1:=(U HR).below hbw
    have hc1:=hr1.blk.cell
    have hf1:=hr1.blk.free
    unfold crArr at hc1
    have hcl1:=htb.cell
    have HT:=V htb
    have HBW:=V hbw
    have HR1:=V hr1
    have el:(fs++[Value.func (.func F) #[] cap]).length=n+1:=by simp[U HN]
    rw[el]at hc1
    clear htb hbw hr1 hc hcell el
    go_wp2_with fail
    go_cut [] from 12 to 42 (fun wd=>Cr B wd x st hx s0 vd vm (.slice (some ⟨g,0,none⟩) n k) fs∧BoxStill wc wd∧Below B wc wd∧Blk wd tb #[.func (.func F) #[] cap] 235)
    case first =>
      go_region_law (fail)
      all_goals
        go_wp2_with fail
        go_meet
        obtain⟨k1,k2,k3⟩:=(U HR1).pop rfl
        have hne:tb≠x.b:=fun e=>by
          have h1:=(U HR1).blk
          have h2:=U HT
          rw[e]at h2
          exact absurd (Cr.bl h1 h2) (by decide)
        rw[U HN]at k1 k2 k3
        exact⟨k1.below (below_drew (Below.refl _ _)),k2,below_drew k3,((U HT).far hne _).drew⟩
    case rest =>
      obtain⟨hr2,hbx2,hbl2,htb2⟩:=hcut
      have hct2:=htb2.cell
      have HR2:=V (And.intro hr2 (And.intro hbx2 hbl2))
      clear hr2 hbx2 hbl2 htb2 hc1 hf1 hcl1
      go_wp2_with fail
      rw[U HCF]
      obtain⟨hr2,hbx2,hbl2⟩:=U HR2
      have hbb:=below_less (U HBW) (U HR).size
      refine (U HC _ _ hr2 ((BoxStill.ofBelow (U HBW)).trans hbx2) (hbb.trans hbl2)).mono ?_
      rintro e w3 ⟨b,rfl,hR⟩
      have HRR:=V hR
      clear hR hr2 hbx2 hbl2 hbb hct2
      cases b
      · go_wp2_with fail
        go_ret
        exact⟨false,rfl,U HRR⟩
      · go_wp2_with fail
        go_ret
        exact⟨true,rfl,U HRR⟩
end Go.Proofs.YtmeiikjpaepogaaGreatDoor
