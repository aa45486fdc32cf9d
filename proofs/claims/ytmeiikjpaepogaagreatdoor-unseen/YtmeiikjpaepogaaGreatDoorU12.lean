/- A map's entry, as a step of a region that draws its order; an instruction more, raw. -/
import Derived.Test.YtmeiikjpaepogaaGreatDoorU11
import Derived.Deep.CutRange
import Derived.Test.YtmeiikjpaepogaaGreatDoorU10
set_option maxRecDepth 100000
set_option maxHeartbeats 4000000
namespace Go.Proofs.YtmeiikjpaepogaaGreatDoor
open Go Go.RowKit
section
variable {B:Nat} {w w' w1:World} {x:CX} {st:RS} {hx:Nat} {s0:Int} {vd vm vo:Value} {fs:List Value}
theorem Cr.lts (h:Cr B w x st hx s0 vd vm vo fs):∀ b∈[x.b,x.r,x.d,x.m,x.mp],b<w.heap.size:=by
  intro b hb
  simp at hb
  rcases hb with rfl|rfl|rfl|rfl|rfl
  · exact h.blk.lt
  · exact h.rdr.lt
  · exact h.dp.lt
  · exact h.mn.lt
  · exact h.names.lt
theorem Cr.bl {k:Nat} {cs:Array Value} {T T':TypeId} {cs':Array Value} (h:Blk w k cs T) (h':Blk w k cs' T'):T=T':=by
  unfold Blk at h h'
  rw[h]at h'
  simp at h'
  exact h'.2
theorem Cr.growD (h:Cr B w x st hx s0 vd vm vo fs) {op arg:Int} {g cap:Nat} (hlen:st.c0.length<4000) (hg:w.grownBy w1 vd.ownBlock) (hown:w1.ownsRow B 65 2 (.slice (some ⟨g,0,none⟩) (st.c0.length+1) cap) (st.c0.length+1) (instrCells (st.c0++[(op,arg)]))) (hat:vd.ownBlock=some g∨g=w.heap.size) :
    Cr B (w1.setCell ⟨x.d,0,none⟩ (.slice (some ⟨g,0,none⟩) (st.c0.length+1) cap)) x { st with c0:=st.c0++[(op,arg)] } hx s0 (.slice (some ⟨g,0,none⟩) (st.c0.length+1) cap) vm vo fs∧BoxStill w (w1.setCell ⟨x.d,0,none⟩ (.slice (some ⟨g,0,none⟩) (st.c0.length+1) cap))∧Below B w (w1.setCell ⟨x.d,0,none⟩ (.slice (some ⟨g,0,none⟩) (st.c0.length+1) cap)):=by
  have hst:Still w (w1.setCell ⟨x.d,0,none⟩ (.slice (some ⟨g,0,none⟩) (st.c0.length+1) cap)) (fun k=>k=x.d∨vd.ownBlock=some k) :=
    Still.set (F:=fun k=>k=x.d∨vd.ownBlock=some k) (Still.grown (F:=fun k=>k=x.d∨vd.ownBlock=some k) (Still.refl w _) hg (fun k hk=>Or.inl (Or.inr hk))) (Or.inl (Or.inl rfl)) _ _
  have off:∀ k∈[x.b,x.r,x.d,x.m,x.mp],¬ vd.ownBlock=some k:=fun k hk e=>h.owned.off 0 vd k rfl hk e
  have hbx:BoxStill w (w1.setCell ⟨x.d,0,none⟩ (.slice (some ⟨g,0,none⟩) (st.c0.length+1) cap)):=by
    refine BoxStill.ofStill hst (fun k cs T hb ht e=>?_)
    rcases e with e|e
    · subst e
      have:=Cr.bl h.dp hb
      subst this
      rcases ht with e|e|e<;>exact absurd e (by decide)
    · rcases ht with e1|e1|e1<;>subst e1<;>exact row_not_blk hb h.od (by decide) e
  refine⟨⟨?_,?_,?_,?_,h.dm,h.base,?_,?_,?_⟩,hbx,?_⟩
  · exact h.blk.still hst (fun e=>by rcases e with e|e;exact h.ne.2.1 e.symm;exact off x.b (by simp) e)
  · refine h.rdr.still hst (fun e=>?_)
    rcases e with e|e
    · have h1:=h.rdr;rw[e]at h1;exact absurd (Cr.bl h1 h.dp) (by decide)
    · exact off x.r (by simp) e
  · have:=(h.dp.grown hg (fun e=>off x.d (by simp) e.symm)).set 0 (.slice (some ⟨g,0,none⟩) (st.c0.length+1) cap)
    simpa only [List.setIfInBounds_toArray,List.set_cons_zero] using this
  · exact h.mn.still hst (fun e=>by rcases e with e|e;exact h.dm e.symm;exact off x.m (by simp) e)
  · have:=(h.owned.grow 0 vd (.slice (some ⟨g,0,none⟩) (st.c0.length+1) cap) ⟨65,2,st.c0.length+1,instrCells (st.c0++[(op,arg)])⟩ rfl h.lts hg hown (lies_at hat (Nat.le_refl _))).set (b:=x.d) (by simp) 0 (.slice (some ⟨g,0,none⟩) (st.c0.length+1) cap)
    simpa [cpRows] using this
  · exact h.names.to (hst.block _ h.names.lt (fun e=>by rcases e with e|e;exact h.names.notblk h.dp e;exact off x.mp (by simp) e))
  · have:=h.small;simp;omega
  · exact hst.below (fun k hk=>by rcases hk with rfl|hk;exact h.base.2.2.1;exact (ownsRow_lt h.od hk).2) h.size
theorem Cr.named (h:Cr B w x st hx s0 vd vm vo fs) {t:ByteArray} {op arg:Int} (hlen:st.names.length<4000) (hm:MapIs w' x.mp (st.names++[(t,op,arg)])) (hg:w.grownBy w' (some x.mp)) :
    Cr B w' x { st with names:=st.names++[(t,op,arg)] } hx s0 vd vm vo fs∧BoxStill w w'∧Below B w w':=by
  have hst:Still w w' (fun k=>k=x.mp):=Still.grown (F:=fun k=>k=x.mp) (Still.refl w _) hg (fun k hk=>Or.inl (by simpa using hk.symm))
  have off:∀ {k:Nat} {cs:Array Value} {T:TypeId},Blk w k cs T→¬ k=x.mp:=fun hb e=>h.names.notblk hb e.symm
  refine⟨⟨h.blk.still hst (off h.blk),h.rdr.still hst (off h.rdr),h.dp.still hst (off h.dp),h.mn.still hst (off h.mn),h.dm,h.base,?_,hm,?_⟩,BoxStill.ofStill hst (fun k cs T hb _=>off hb),hst.below (fun k hk=>by rw[hk];exact h.base.2.2.2.2) h.size⟩
  · exact h.owned.to (fun i v k hv hk hlt=>hst.block k hlt (fun e=>h.owned.off i v x.mp hv (by simp) (by rw[hk,e])))
  · have:=h.small;simp;omega
end
theorem radd_any (B:Nat) (x:CX) (st:RS) (w:World) (hx:Nat) (s0:Int) (vd vm vo:Value) (fs:List Value) (h:Cr B w x st hx s0 vd vm vo fs) (q:Nat) (op arg:Int) (hq:Blk w q #[.int .i64 op,.int .i64 arg] 65) (hlen:st.c0.length<4000) :
    Calls Tryz.prog 50 #[.pointer (some ⟨x.d,0,none⟩),.slice (some ⟨q,0,none⟩) 1 1] w fun e w'=>e=.returned (.int .i64 st.c0.length)∧∃ vd',Cr B w' x { st with c0:=st.c0++[(op,arg)] } hx s0 vd' vm vo fs∧BoxStill w w'∧Below B w w':=by
  refine (partAdd_any B x.d q vd st.c0 op arg 1 w h.dp h.od hq h.size (by omega)).mono ?_
  rintro e w' ⟨rfl,g,cap,w1,hown,hg,hat,rfl⟩
  obtain⟨k1,k2,k3⟩:=h.growD hlen hg hown hat
  exact⟨rfl,_,k1,k2,k3⟩
def semi1 (st:RS):RS:={ st with c0:=st.c0++[(4,0)] }
def semi2 (st:RS):RS:={ st with c0:=st.c0++[(4,0)],names:=st.names++[(st.name,3,st.start)] }
theorem updW (B:Nat) (x:CX) (st:RS) (w:World) (hx:Nat) (s0:Int) (vd vm vo:Value) (fs:List Value) (h:Cr B w x st hx s0 vd vm vo fs) (t:ByteArray) (op arg:Int) (ht:t.size≤2000) (hl:st.names.length<4000) (hnew:st.names.find? (fun x=>x.1 == t)=none) :
    ∀ W:World,Below w.heap.size w W→∃ w',(Instr.mapUpdate 97 (.map (some x.mp)) (.string t) (.agg #[.int .i64 op,.int .i64 arg])).run Tryz.prog W=.ok () w'∧(Cr B w' x { st with names:=st.names++[(t,op,arg)] } hx s0 vd vm vo fs∧BoxStill w w'∧Below B w w'):=by
  intro W hW
  have h1:=h.below hW
  obtain⟨w',hrun,hm,hg⟩:=h1.names.update t ht op arg (by omega) hnew
  obtain⟨k1,k2,k3⟩:=h1.named hl hm hg
  exact⟨w',hrun,k1,(BoxStill.ofBelow hW).trans k2,(below_less hW h.size).trans k3⟩
theorem raddW (B:Nat) (x:CX) (st:RS) (w:World) (hx:Nat) (s0:Int) (vd vm vo:Value) (fs:List Value) (h:Cr B w x st hx s0 vd vm vo fs) (op arg:Int) (hlen:st.c0.length<4000) :
    ∀ (W:World) (q:Nat),Below w.heap.size w W→Blk W q #[.int .i64 op,.int .i64 arg] 65→Calls Tryz.prog 50 #[.pointer (some ⟨x.d,0,none⟩),.slice (some ⟨q,0,none⟩) 1 1] W fun e w'=>e=.returned (.int .i64 st.c0.length)∧(∃ vd',Cr B w' x { st with c0:=st.c0++[(op,arg)] } hx s0 vd' vm vo fs)∧BoxStill w w'∧Below B w w':=by
  intro W q hW hq
  refine (radd_any B x st W hx s0 vd vm vo fs (h.below hW) q op arg hq hlen).mono ?_
  rintro e w' ⟨rfl,vd',k1,k2,k3⟩
  exact⟨rfl,⟨vd',k1⟩,(BoxStill.ofBelow hW).trans k2,(below_less hW h.size).trans k3⟩
theorem Cr.semi {B:Nat} {w:World} {x:CX} {st:RS} {s0:Int} {vd vm vo:Value} (hs:0≤st.start) (h:Cr B w x (semi2 st) x.m s0 vd vm vo []) (hop:st.opens=[]):CpE B w x (semiS st):=by
  have e1:semiS st={ st with c0:=st.c0++[(4,0)],names:=st.names++[(st.name,3,st.start)],start:=-1 }:=by
    unfold semiS putS;rw[if_pos hs]
  have e:hereX x (semiS st)=x.m:=by rw[e1];unfold hereX;exact if_neg (by simp)
  refine⟨s0,vd,vm,vo,[],[],Cr.cp (fw:=[]) (fo:=[]) ?_ (fun h=>absurd h (by rw[e1];simp)) ⟨fun h=>absurd h (by rw[e1];simp),fun _=>rfl,by rw[e1];simp[hop],fun i f o h1 _=>by simp at h1⟩⟩
  rw[e,e1]
  exact⟨h.blk,h.rdr,h.dp,h.mn,h.dm,h.base,h.owned,h.names,h.small⟩
theorem closeWord_yes (B:Nat) (x:CX) (st:RS) (w:World) (vd vm vo:Value) (h:Cr B w x st x.d st.start vd vm vo []) (cb nb:Nat) (hcb:Blk w cb #[.pointer (some ⟨x.b,0,none⟩)] 91) (hnb:Blk w nb #[.string st.name] 9) (hs:0≤st.start) (hop:st.opens=[]) (hlen:st.c0.length<4000) (hnl:st.names.length<4000) (hnew:st.names.find? (fun x=>x.1 == st.name)=none) (hsz:st.name.size≤2000) :
    Calls Tryz.prog 218 #[.string ⟨#[59]⟩,.pointer (some ⟨cb,0,none⟩),.pointer (some ⟨nb,0,none⟩)] w (fun e w'=>e=.returned (.bool true)∧CpE B w' x (semiS st)∧BoxStill w w'∧Below B w w'):=by
  have hc:=h.blk.cell
  unfold crArr at hc
  have hcc:=hcb.cell
  have hcn:=hnb.cell
  have hxl:=h.blk.lt
  have hcl:=hcb.lt
  have hnl2:=hnb.lt
  have hxw0:x.b<w.heap.size+1:=by omega
  have hyw0:x.b≤w.heap.size:=by omega
  have hzw0:x.b≤w.heap.size+1:=by omega
  have hww0:x.b<w.heap.size+1+1:=by omega
  have hxw1:cb<w.heap.size+1:=by omega
  have hyw1:cb≤w.heap.size:=by omega
  have hzw1:cb≤w.heap.size+1:=by omega
  have hww1:cb<w.heap.size+1+1:=by omega
  have hxw2:nb<w.heap.size+1:=by omega
  have hyw2:nb≤w.heap.size:=by omega
  have hzw2:nb≤w.heap.size+1:=by omega
  have hww2:nb<w.heap.size+1+1:=by omega
  have HADD:Hid (∀ (W:World) (q:Nat),Below w.heap.size w W→Blk W q #[.int .i64 4,.int .i64 0] 65→Calls Tryz.prog 50 #[.pointer (some ⟨x.d,0,none⟩),.slice (some ⟨q,0,none⟩) 1 1] W fun e w'=>e=.returned (.int .i64 st.c0.length)∧(∃ vd',Cr B w' x (semi1 st) x.d st.start vd' vm vo [])∧BoxStill w w'∧Below B w w'):=raddW B x st w x.d st.start vd vm vo [] h 4 0 hlen
  have HUP0:Hid (∀ (wc:World) (vd':Value),Cr B wc x (semi1 st) x.d st.start vd' vm vo []→∀ W:World,Below wc.heap.size wc W→∃ w',(Instr.mapUpdate 97 (.map (some x.mp)) (.string st.name) (.agg #[.int .i64 3,.int .i64 st.start])).run Tryz.prog W=.ok () w'∧(Cr B w' x (semi2 st) x.d st.start vd' vm vo []∧BoxStill wc w'∧Below B wc w')):=fun wc vd' hr=>updW B x (semi1 st) wc x.d st.start vd' vm vo [] hr st.name 3 st.start hsz hnl hnew
  have HSM:Hid (∀ (w':World) (vd':Value),Cr B w' x (semi2 st) x.m st.start vd' vm vo []→CpE B w' x (semiS st)):=fun w' vd' hr=>Cr.semi hs hr hop
  have HCB:=V hcb
  have HNB:=V hnb
  have HS:=V h.size
  clear hcb hnb h
  generalize hse:st.start=s at *
  have HSE:=V hse
  generalize hne:st.name=nm at *
  have HNE:=V hne
  clear hse hne
  go_enter Tryz.func218,Tryz.ntmps218
  go_wp2_with fail
  go_cut [] from 7 to 30 (fun wc=>(∃ vd',Cr B wc x (semi1 st) x.d s vd' vm vo [])∧BoxStill w wc∧Below B w wc)
  case first =>
    go_region_law (first
      | (refine step_call rfl 51 #[.const (.int .i64 4)] #[3] rfl Tryz.func51 Tryz.name51 Tryz.body51 #[.int .i64 4] (by first|(simp[Act.eval];done)|(simp[Act.eval,Act.put];done)|rfl) (plainI_any 4 _) ?_;rintro e w1 ⟨rfl,rfl⟩;refine⟨_,rfl,?_⟩)
      | (refine step_call rfl 50 #[.tmp 10,.tmp 12] #[96,33] rfl Tryz.func50 Tryz.name50 Tryz.body50 #[.pointer (some ⟨x.d,0,none⟩),.slice (some ⟨w.heap.size+1,0,none⟩) 1 1] (by first|(simp[Act.eval];done)|(simp[Act.eval,Act.put];done)|rfl) (U HADD _ (w.heap.size+1) (by (repeat (first|with_reducible refine below_drew ?_|with_reducible refine below_drawn ?_ _|with_reducible refine below_longer ?_ _|(with_reducible refine Below.alloc ?_ ?_ _;rotate_left;(first|omega|((repeat (first|rw[World.size_up]|rw[World.size_dr]|rw[World.size_drN]))<;>omega)))));(with_reducible exact Below.refl _ _)) (by (repeat (first|with_reducible refine Blk.drew ?_|with_reducible refine Blk.drewN ?_ _|(with_reducible refine blk_newAt _ _ ?_;(first|omega|((repeat (first|rw[World.size_up]|rw[World.size_dr]|rw[World.size_drN]))<;>omega)))|with_reducible refine Blk.alloc ?_ _));(first|done|with_reducible assumption))) ?_;rintro e w1 ⟨rfl,h1⟩;refine⟨_,rfl,?_⟩;have H1:=V h1;clear h1))
    all_goals
      go_wp2_with fail
      go_meet
      exact U H1
  case rest =>
    obtain⟨⟨vd',hr1⟩,hbx1,hbl1⟩:=hcut
    have hcb1:=hbx1 _ _ _ (U HCB) (Or.inl rfl)
    have hnb1:=hbx1 _ _ _ (U HNB) (Or.inr (Or.inr rfl))
    have hcc1:=hcb1.cell
    have hcn1:=hnb1.cell
    have hc1:=hr1.blk.cell
    unfold crArr at hc1
    have hxl1:=hr1.blk.lt
    have hcl1:=hcb1.lt
    have hnl1:=hnb1.lt
    have hxwc0:x.b<wc.heap.size+1:=by omega
    have hywc0:x.b≤wc.heap.size:=by omega
    have hzwc0:x.b≤wc.heap.size+1:=by omega
    have hwwc0:x.b<wc.heap.size+1+1:=by omega
    have hxwc1:cb<wc.heap.size+1:=by omega
    have hywc1:cb≤wc.heap.size:=by omega
    have hzwc1:cb≤wc.heap.size+1:=by omega
    have hwwc1:cb<wc.heap.size+1+1:=by omega
    have hxwc2:nb<wc.heap.size+1:=by omega
    have hywc2:nb≤wc.heap.size:=by omega
    have hzwc2:nb≤wc.heap.size+1:=by omega
    have hwwc2:nb<wc.heap.size+1+1:=by omega
    have HUP:=V (U HUP0 wc vd' hr1)
    have H1:=V (And.intro hbx1 (And.intro hbl1 hr1.size))
    have HCB1:=V hcb1
    clear hr1 hbx1 hbl1 hcb1 hnb1 hc hcc hcn HADD
    clear hxw0 hyw0 hzw0 hww0 hxw1 hyw1 hzw1 hww1 hxw2 hyw2 hzw2 hww2
    go_wp2_with fail
    go_cut [] from 7 to 30 (fun wd=>Cr B wd x (semi2 st) x.d s vd' vm vo []∧BoxStill wc wd∧Below B wc wd)
    case first =>
      obtain⟨w2,hrun,h2⟩:=U HUP (wc.alloc (.cells #[.int .i64 3,.int .i64 s] 65)).drew (by (repeat (first|with_reducible refine below_drew ?_|with_reducible refine below_drawn ?_ _|with_reducible refine below_longer ?_ _|(with_reducible refine Below.alloc ?_ ?_ _;rotate_left;(first|omega|((repeat (first|rw[World.size_up]|rw[World.size_dr]|rw[World.size_drN]))<;>omega)))));(with_reducible exact Below.refl _ _))
      have H2:=V h2
      clear h2 HUP
      go_region_law (refine step_call rfl 77 #[.const (.int .i64 3),.tmp 22] #[3,2] rfl Tryz.func77 Tryz.name77 Tryz.body77 #[.int .i64 3,.int .i64 s] (by first|(simp[Act.eval];done)|(simp[Act.eval,Act.put];done)|rfl) (withI_any 3 s _) ?_;rintro e w1 ⟨rfl,rfl⟩;refine⟨_,rfl,?_⟩)
      all_goals
        go_wp2_with fail
        go_meet
        exact U H2
    case rest =>
      obtain⟨hr2,hbx2,hbl2⟩:=hcut
      have hcb2:=hbx2 _ _ _ (U HCB1) (Or.inl rfl)
      have hcc2:=hcb2.cell
      have hc2:=hr2.blk.cell
      have hf2:=hr2.blk.free
      unfold crArr at hc2
      have HR2:=V hr2
      have H2:=V (And.intro hbx2 hbl2)
      clear hr2 hbx2 hbl2 hcb2 hcc1 hcn1 hc1 HUP
      go_wp2_with fail
      go_cut [] from 7 to 30 (fun we=>Cr B we x (semi2 st) x.m s vd' vm vo []∧BoxStill wc we∧Below B wc we)
      case first =>
        go_region_law (fail)
        all_goals
          go_wp2_with fail
          go_meet
          obtain⟨k1,k2,k3⟩:=(U HR2).setB 4 (.pointer (some ⟨x.m,0,none⟩)) x.m s rfl
          first
          | exact⟨k1,k2,k3⟩
          | exact⟨k1.below (below_drew (Below.refl _ _)),k2,below_drew k3⟩
          | exact⟨k1.below (below_drawn (Below.refl _ _) 1),k2,below_drawn k3 1⟩
      case rest =>
        obtain⟨hr3,hbx3,hbl3⟩:=hcut
        have H3:=V (And.intro hr3 (And.intro hbx3 hbl3))
        clear hr3 hbx3 hbl3 hcc2 hc2 hf2
        go_wp2_with fail
        go_ret
        obtain⟨hr3,hbx3,hbl3⟩:=U H3
        obtain⟨m1,m2,_⟩:=U H1
        obtain⟨n1,n2⟩:=U H2
        exact⟨rfl,U HSM _ _ hr3,m1.trans (n1.trans hbx3),m2.trans (n2.trans hbl3)⟩
theorem closeWord_no (cb nb:Nat) (w:World) (tok:ByteArray) (ht:(tok.toList == [59])=false) :
    Calls Tryz.prog 218 #[.string tok,.pointer (some ⟨cb,0,none⟩),.pointer (some ⟨nb,0,none⟩)] w (fun e w'=>e=.returned (.bool false)∧w'=w):=by
  go_enter Tryz.func218,Tryz.ntmps218
  go_wp2_with fail
  go_ret
  exact⟨rfl,rfl⟩
theorem closeLast_none (B:Nat) (x:CX) (st:RS) (w:World) (hx:Nat) (s0:Int) (vd vm vo:Value) (h:Cr B w x st hx s0 vd vm vo []) (tok:ByteArray) :
    Calls Tryz.prog 146 #[.pointer (some ⟨x.b,0,none⟩),.string tok] w (fun e w'=>e=.returned (.int .i64 4)∧w'=w):=by
  obtain⟨ao,co,hvo⟩:=own_shape h.oo
  subst hvo
  have hc:=h.blk.cell
  unfold crArr at hc
  clear h
  go_enter Tryz.func146,Tryz.ntmps146
  go_wp2_with fail
  go_ret
  exact⟨rfl,rfl⟩
theorem Cr.pop {B:Nat} {w:World} {x:CX} {st:RS} {hx:Nat} {s0:Int} {vd vm f:Value} {fs:List Value} {g k m:Nat} (hm:(fs++[f]).length=m) (h:Cr B w x st hx s0 vd vm (.slice (some ⟨g,0,none⟩) m k) (fs++[f])) :
    Cr B (w.setCell ⟨x.b,8,none⟩ (.slice (some ⟨g,0,none⟩) fs.length k)) x st hx s0 vd vm (.slice (some ⟨g,0,none⟩) fs.length k) fs∧BoxStill w (w.setCell ⟨x.b,8,none⟩ (.slice (some ⟨g,0,none⟩) fs.length k))∧Below B w (w.setCell ⟨x.b,8,none⟩ (.slice (some ⟨g,0,none⟩) fs.length k)):=by
  subst hm
  have hown:=own_cut h.oo fs.length (by simp)
  have e1:(fs++[f]).take (fs.length * 1)=fs:=by simp
  rw[e1]at hown
  refine⟨⟨?_,h.rdr.far h.ne.1 _,h.dp.far h.ne.2.1 _,h.mn.far h.ne.2.2.1 _,h.dm,h.base,?_,h.names.to (Below.heap_setCell _ _ _ _ h.ne.2.2.2),h.small⟩,?_,(Below.refl B w).setCell h.base.1 _⟩
  · have:=h.blk.set 8 (.slice (some ⟨g,0,none⟩) fs.length k)
    unfold crArr at this
    simp only[List.setIfInBounds_toArray,List.set_cons_succ,List.set_cons_zero]at this
    exact this
  · have:=(h.owned.grow 2 _ (.slice (some ⟨g,0,none⟩) fs.length k) ⟨235,1,fs.length,fs⟩ rfl h.lts (World.grownBy.refl _ _) hown (Or.inl rfl)).set (b:=x.b) (by simp) 8 (.slice (some ⟨g,0,none⟩) fs.length k)
    simpa [cpRows] using this
  · refine fun j cs T hb ht=>hb.far ?_ _
    intro e
    simp at e
    subst e
    have:=Cr.bl h.blk hb
    subst this
    rcases ht with e|e|e<;>exact absurd e (by decide)
theorem closeLast_some (B : Nat) (x : CX) (st : RS) (w : World) (hx : Nat) (s0 : Int) (vd vm vo : Value) (F : FuncId) (cap : Array Value) (fs : List Value) (h : Cr B w x st hx s0 vd vm vo (fs ++ [.func (.func F) #[] cap])) (tok : ByteArray) (hl : fs.length < 4000) {fn : Func} (hfn : Tryz.prog.funcs[F]? = some fn) (hfa : (fn.name == "runtime.NumGoroutine") = false) (hfb : fn.body.isNone = false) (R : Bool → World → Prop)
    (hcall:∀ (W:World) (v:Value),Cr B W x st hx s0 vd vm v fs→BoxStill w W→Below B w W→Calls Tryz.prog F (#[.string tok]++cap) W (fun e w'=>∃ b,e=.returned (.bool b)∧R b w')) :
    Calls Tryz.prog 146 #[.pointer (some ⟨x.b,0,none⟩),.string tok] w (fun e w'=>∃ b,e=.returned (.int .i64 (if b=true then 0 else 4))∧R b w'):=by
  have hsf:∀ (a:Addr) (W:World),(store a (.func (.func F) #[] cap)).run Tryz.prog W=stored Tryz.prog W a (.func (.func F) #[] cap) .plain:=fun a W=>run_store _ _ _ _ _ rfl
  have HCF:Hid (∀ (W:World),(callFunc F (#[.string tok]++cap)).run Tryz.prog W=.ok (.enter F (#[.string tok]++cap)) W):=by
    intro W
    have h1 : fn.name ≠ "runtime.NumGoroutine" := by simpa using hfa
    have h2:fn.body≠none:=by intro e;rw[e]at hfb;cases hfb
    simp[callFunc,hfn,h1,h2]
  have HC:=V hcall
  clear hcall
  obtain⟨g,k,hv,hg1,hg2⟩:=h.oo.form (by simp)
  subst hv
  have hcell:=own_cell h.oo fs.length (by simp)
  have hc:=h.blk.cell
  have hxl:=h.blk.lt
  have hxa:x.b<w.heap.size+1:=by omega
  have hxb:x.b≤w.heap.size:=by omega
  have hga:g<w.heap.size+1:=by omega
  have hkk:fs.length+1≤k:=by have:=(own_cap h.oo).1;simp at this;omega
  have hgb:g≤w.heap.size:=by omega
  unfold crArr at hc
  have el:(fs++[Value.func (.func F) #[] cap]).length=fs.length+1:=by simp
  have ei:(fs++[Value.func (.func F) #[] cap])[fs.length]? = some (Value.func (.func F) #[] cap):=by simp
  rw[el]at hc
  rw[ei]at hcell
  have HR:=V h
  clear h el ei
  generalize hn:fs.length=n at *
  have HN:=V hn
  clear hn
  have hwr:IntKind.i64.wrap (n:Int)=n:=by rw[IntKind.wrap_i64];omega
  have hn0:(0:Int)≤n:=by omega
  have hn1:(n:Int)<(n:Int)+1:=by omega
  have hn2:(n:Int)≤k:=by omega
  have hn3:n≤k:=by omega
  go_enter Tryz.func146,Tryz.ntmps146
  go_wp2_with fail
  go_cut [5] from 12 to 42 (fun s5 wc=>∃ tb,s5=.pointer (some ⟨tb,0,none⟩)∧Blk wc tb #[.func (.func F) #[] cap] 235∧Below w.heap.size w wc)
  case first =>
    go_region_law (fail)
    all_goals
      go_wp2_with fail
      go_meet
      first
      | exact⟨_,rfl,Blk.drew (Blk.new _ _ _),below_drew ((Below.refl _ _).alloc (Nat.le_refl _) _)⟩
      | exact⟨_,rfl,Blk.new _ _ _,below_drew ((Below.refl _ _).alloc (Nat.le_refl _) _)⟩
      | trace_state
  case rest =>
    obtain⟨tb,rfl,htb,hbw⟩:=hcut
    have hr1:=(U HR).below hbw
    have hc1:=hr1.blk.cell
    have hf1:=hr1.blk.free
    unfold crArr at hc1
    have hcl1:=htb.cell
    have HT:=V htb
    have HBW:=V hbw
    have HR1:=V hr1
    have el:(fs++[Value.func (.func F) #[] cap]).length=n+1:=by simp[U HN]
    rw[el]at hc1
    clear htb hbw hr1 hc hcell el
    go_wp2_with fail
    go_cut [] from 12 to 42 (fun wd=>Cr B wd x st hx s0 vd vm (.slice (some ⟨g,0,none⟩) n k) fs∧BoxStill wc wd∧Below B wc wd∧Blk wd tb #[.func (.func F) #[] cap] 235)
    case first =>
      go_region_law (fail)
      all_goals
        go_wp2_with fail
        go_meet
        obtain⟨k1,k2,k3⟩:=(U HR1).pop rfl
        have hne:tb≠x.b:=fun e=>by
          have h1:=(U HR1).blk
          have h2:=U HT
          rw[e]at h2
          exact absurd (Cr.bl h1 h2) (by decide)
        rw[U HN]at k1 k2 k3
        exact⟨k1.below (below_drew (Below.refl _ _)),k2,below_drew k3,((U HT).far hne _).drew⟩
    case rest =>
      obtain⟨hr2,hbx2,hbl2,htb2⟩:=hcut
      have hct2:=htb2.cell
      have HR2:=V (And.intro hr2 (And.intro hbx2 hbl2))
      clear hr2 hbx2 hbl2 htb2 hc1 hf1 hcl1
      go_wp2_with fail
      rw[U HCF]
      obtain⟨hr2,hbx2,hbl2⟩:=U HR2
      have hbb:=below_less (U HBW) (U HR).size
      refine (U HC _ _ hr2 ((BoxStill.ofBelow (U HBW)).trans hbx2) (hbb.trans hbl2)).mono ?_
      rintro e w3 ⟨b,rfl,hR⟩
      have HRR:=V hR
      clear hR hr2 hbx2 hbl2 hbb hct2
      cases b
      · go_wp2_with fail
        go_ret
        exact⟨false,rfl,U HRR⟩
      · go_wp2_with fail
        go_ret
        exact⟨true,rfl,U HRR⟩
theorem openWhile_any (B:Nat) (x:CX) (st:RS) (w:World) (h:CpE B w x st) (s:Int) (hlen:hereS st<4000) (hop:st.opens.length<3980) :
    Calls Tryz.prog 191 #[.pointer (some ⟨x.b,0,none⟩),.int .i64 s] w fun e w'=>e=.returned (.tuple #[])∧CpE B w' x (openS (putS st 2 0) (⟨#[119,104,105,108,101]⟩,s,hereS st))∧BoxStill w w'∧Below B w w':=by
  obtain⟨fw,fo,h⟩:=h.f
  have hb0:Below w.heap.size w ((w.alloc (.cells #[.pointer (some ⟨x.b,0,none⟩)] 91)).alloc (.cells #[.int .i64 s] 2)):=by (repeat (first|with_reducible refine below_drew ?_|with_reducible refine below_drawn ?_ _|with_reducible refine below_longer ?_ _|(with_reducible refine Below.alloc ?_ ?_ _;rotate_left;(first|omega|((repeat (first|rw[World.size_up]|rw[World.size_dr]|rw[World.size_drN]))<;>omega)))));(with_reducible exact Below.refl _ _)
  have hcb:Blk ((w.alloc (.cells #[.pointer (some ⟨x.b,0,none⟩)] 91)).alloc (.cells #[.int .i64 s] 2)) w.heap.size #[.pointer (some ⟨x.b,0,none⟩)] 91:=by (repeat (first|with_reducible refine Blk.drew ?_|with_reducible refine Blk.drewN ?_ _|(with_reducible refine blk_newAt _ _ ?_;(first|omega|((repeat (first|rw[World.size_up]|rw[World.size_dr]|rw[World.size_drN]))<;>omega)))|with_reducible refine Blk.alloc ?_ _));(first|done|with_reducible assumption)
  have hsb:Blk ((w.alloc (.cells #[.pointer (some ⟨x.b,0,none⟩)] 91)).alloc (.cells #[.int .i64 s] 2)) (w.heap.size+1) #[.int .i64 s] 2:=by (repeat (first|with_reducible refine Blk.drew ?_|with_reducible refine Blk.drewN ?_ _|(with_reducible refine blk_newAt _ _ ?_;(first|omega|((repeat (first|rw[World.size_up]|rw[World.size_dr]|rw[World.size_drN]))<;>omega)))|with_reducible refine Blk.alloc ?_ _));(first|done|with_reducible assumption)
  have h0:=h.below hb0
  have hB:=h.size
  obtain⟨s0,vo,hblk⟩:=h0.blk
  have hc:=hblk.cell
  have hxl:=h.size0
  have hxa0:x.b<w.heap.size:=by omega
  have hxb0:x.b≤w.heap.size:=by omega
  have hxa1:x.b<w.heap.size+1:=by omega
  have hxb1:x.b≤w.heap.size+1:=by omega
  have hxa2:x.b<w.heap.size+1+1:=by omega
  have hxb2:x.b≤w.heap.size+1+1:=by omega
  have hxa3:x.b<w.heap.size+1+1+1:=by omega
  have hxb3:x.b≤w.heap.size+1+1+1:=by omega
  have hxa4:x.b<w.heap.size+1+1+1+1:=by omega
  have hxb4:x.b≤w.heap.size+1+1+1+1:=by omega
  have hxa5:x.b<w.heap.size+1+1+1+1+1:=by omega
  have hxb5:x.b≤w.heap.size+1+1+1+1+1:=by omega
  unfold cpArr at hc
  have HADD:=V (addW B x st _ fw fo h0 2 0 hlen)
  have H0:=V h0
  have hsz:((w.alloc (.cells #[.pointer (some ⟨x.b,0,none⟩)] 91)).alloc (.cells #[.int .i64 s] 2)).heap.size=w.heap.size+1+1:=by simp
  have hcc:=hcb.cell
  have HCB:=V hcb
  have HB0:=V hb0
  have HSB:=V hsb
  clear hsb
  clear hblk hcb hb0 h h0
  generalize hhx:hereX x st=hx at *
  have HHX:=V hhx
  clear hhx
  go_enter Tryz.func191,Tryz.ntmps191
  go_wp2_with fail
  generalize (w.alloc (.cells #[.pointer (some ⟨x.b,0,none⟩)] 91)).alloc (.cells #[.int .i64 s] 2)=W0 at *
  go_cut [4] from 5 to 16 (fun s4 wc=>Boxed B W0 x (putS st 2 0) fw fo (hereS st) s4 wc)
  case first =>
    go_region_law (first
      | (refine step_call rfl 51 #[.const (.int .i64 2)] #[3] rfl Tryz.func51 Tryz.name51 Tryz.body51 #[.int .i64 2] (by first|(simp[Act.eval];done)|rfl) (plainI_any 2 _) ?_;rintro e w1 ⟨rfl,rfl⟩;refine⟨_,rfl,?_⟩)
      | (refine step_call rfl 50 #[.tmp 8,.tmp 10] #[96,33] rfl Tryz.func50 Tryz.name50 Tryz.body50 #[.pointer (some ⟨hx,0,none⟩),.slice (some ⟨w.heap.size+1+1+1+1,0,none⟩) 1 1] (by first|(simp[Act.eval];done)|rfl) (U HADD _ (w.heap.size+1+1+1+1) (by (repeat (first|with_reducible refine below_drew ?_|with_reducible refine below_drawn ?_ _|with_reducible refine below_longer ?_ _|(with_reducible refine Below.alloc ?_ ?_ _;rotate_left;(first|omega|((repeat (first|rw[World.size_up]|rw[World.size_dr]|rw[World.size_drN]))<;>omega)))));(with_reducible exact Below.refl _ _)) (by (repeat (first|with_reducible refine Blk.drew ?_|with_reducible refine Blk.drewN ?_ _|(with_reducible refine blk_newAt _ _ ?_;(first|omega|((repeat (first|rw[World.size_up]|rw[World.size_dr]|rw[World.size_drN]))<;>omega)))|with_reducible refine Blk.alloc ?_ _));(first|done|with_reducible assumption))) ?_;rintro e w1 ⟨rfl,h2,h1⟩;refine⟨_,rfl,?_⟩;have hjb:Blk w1 (w.heap.size+1+1) #[.int .i64 0] 2:=h2 _ _ _ (by (repeat (first|with_reducible refine Blk.drew ?_|with_reducible refine Blk.drewN ?_ _|(with_reducible refine blk_newAt _ _ ?_;(first|omega|((repeat (first|rw[World.size_up]|rw[World.size_dr]|rw[World.size_drN]))<;>omega)))|with_reducible refine Blk.alloc ?_ _));(first|done|with_reducible assumption)) (Or.inr (Or.inl rfl));have hcj:=hjb.cell;have hfj:=hjb.free;have HJ:=V hjb;clear hjb;have H1:=V h1;clear h1 h2)
      | (refine step_call rfl 50 #[.tmp 8,.tmp 10] #[96,33] rfl Tryz.func50 Tryz.name50 Tryz.body50 #[.pointer (some ⟨hx,0,none⟩),.slice (some ⟨w.heap.size+1+1+1+1,0,none⟩) 1 1] (by first|(simp[Act.eval];done)|rfl) (U HADD _ (w.heap.size+1+1+1+1) (by (repeat (first|with_reducible refine below_drew ?_|with_reducible refine below_drawn ?_ _|with_reducible refine below_longer ?_ _|(with_reducible refine Below.alloc ?_ ?_ _;rotate_left;(first|omega|((repeat (first|rw[World.size_up]|rw[World.size_dr]|rw[World.size_drN]))<;>omega)))));(with_reducible exact Below.refl _ _)) (by (repeat (first|with_reducible refine Blk.drew ?_|with_reducible refine Blk.drewN ?_ _|(with_reducible refine blk_newAt _ _ ?_;(first|omega|((repeat (first|rw[World.size_up]|rw[World.size_dr]|rw[World.size_drN]))<;>omega)))|with_reducible refine Blk.alloc ?_ _));(first|done|with_reducible assumption))) ?_;rintro e w1 ⟨rfl,h2,h1⟩;refine⟨_,rfl,?_⟩;have hjb:Blk w1 (w.heap.size+1+1+1) #[.int .i64 0] 2:=h2 _ _ _ (by (repeat (first|with_reducible refine Blk.drew ?_|with_reducible refine Blk.drewN ?_ _|(with_reducible refine blk_newAt _ _ ?_;(first|omega|((repeat (first|rw[World.size_up]|rw[World.size_dr]|rw[World.size_drN]))<;>omega)))|with_reducible refine Blk.alloc ?_ _));(first|done|with_reducible assumption)) (Or.inr (Or.inl rfl));have hcj:=hjb.cell;have hfj:=hjb.free;have HJ:=V hjb;clear hjb;have H1:=V h1;clear h1 h2)
      | (refine step_call rfl 50 #[.tmp 8,.tmp 10] #[96,33] rfl Tryz.func50 Tryz.name50 Tryz.body50 #[.pointer (some ⟨hx,0,none⟩),.slice (some ⟨w.heap.size+1+1+1,0,none⟩) 1 1] (by first|(simp[Act.eval];done)|rfl) (U HADD _ (w.heap.size+1+1+1) (by (repeat (first|with_reducible refine below_drew ?_|with_reducible refine below_drawn ?_ _|with_reducible refine below_longer ?_ _|(with_reducible refine Below.alloc ?_ ?_ _;rotate_left;(first|omega|((repeat (first|rw[World.size_up]|rw[World.size_dr]|rw[World.size_drN]))<;>omega)))));(with_reducible exact Below.refl _ _)) (by (repeat (first|with_reducible refine Blk.drew ?_|with_reducible refine Blk.drewN ?_ _|(with_reducible refine blk_newAt _ _ ?_;(first|omega|((repeat (first|rw[World.size_up]|rw[World.size_dr]|rw[World.size_drN]))<;>omega)))|with_reducible refine Blk.alloc ?_ _));(first|done|with_reducible assumption))) ?_;rintro e w1 ⟨rfl,h2,h1⟩;refine⟨_,rfl,?_⟩;have hjb:Blk w1 (w.heap.size+1+1+1+1) #[.int .i64 0] 2:=h2 _ _ _ (by (repeat (first|with_reducible refine Blk.drew ?_|with_reducible refine Blk.drewN ?_ _|(with_reducible refine blk_newAt _ _ ?_;(first|omega|((repeat (first|rw[World.size_up]|rw[World.size_dr]|rw[World.size_drN]))<;>omega)))|with_reducible refine Blk.alloc ?_ _));(first|done|with_reducible assumption)) (Or.inr (Or.inl rfl));have hcj:=hjb.cell;have hfj:=hjb.free;have HJ:=V hjb;clear hjb;have H1:=V h1;clear h1 h2)
      | (refine step_call rfl 50 #[.tmp 8,.tmp 10] #[96,33] rfl Tryz.func50 Tryz.name50 Tryz.body50 #[.pointer (some ⟨hx,0,none⟩),.slice (some ⟨w.heap.size+1+1+1,0,none⟩) 1 1] (by first|(simp[Act.eval];done)|rfl) (U HADD _ (w.heap.size+1+1+1) (by (repeat (first|with_reducible refine below_drew ?_|with_reducible refine below_drawn ?_ _|with_reducible refine below_longer ?_ _|(with_reducible refine Below.alloc ?_ ?_ _;rotate_left;(first|omega|((repeat (first|rw[World.size_up]|rw[World.size_dr]|rw[World.size_drN]))<;>omega)))));(with_reducible exact Below.refl _ _)) (by (repeat (first|with_reducible refine Blk.drew ?_|with_reducible refine Blk.drewN ?_ _|(with_reducible refine blk_newAt _ _ ?_;(first|omega|((repeat (first|rw[World.size_up]|rw[World.size_dr]|rw[World.size_drN]))<;>omega)))|with_reducible refine Blk.alloc ?_ _));(first|done|with_reducible assumption))) ?_;rintro e w1 ⟨rfl,h2,h1⟩;refine⟨_,rfl,?_⟩;skip;have H1:=V h1;clear h1 h2))
    all_goals
      go_wp2_with fail
      go_meet
      first
      | exact boxed_new (U H1)
      | exact boxed_set (by omega) (putS_as _ _ _) (U H1) (U HJ) (by omega)
  case rest =>
    obtain⟨jb,rfl,hj,hF,hbx,hbl⟩:=hcut
    have hcb:=hbx _ _ _ (U HCB) (Or.inl rfl)
    have hsb:=hbx _ _ _ (U HSB) (Or.inr (Or.inl rfl))
    have hcc2:=hcb.cell
    have H1:=V (And.intro hcb (And.intro hj (And.intro hF (And.intro hbx (And.intro hbl hsb)))))
    clear hj hF hbx hbl hcb hcc hc HADD hsb
    go_wp2_with fail
    obtain⟨hcb,hj,hF,hbx,hbl,hsb⟩:=U H1
    refine (pushW B x (putS st 2 0) wc hF.e _ rfl (⟨#[119,104,105,108,101]⟩,s,hereS st) ⟨_,hcb,Or.inr (Or.inr (Or.inr (Or.inl ⟨rfl,_,jb,hsb,hj,rfl⟩)))⟩ (by rw[(putS_as _ _ _).2.2];omega)).mono ?_
    rintro e w2 ⟨rfl,k1,k2,k3⟩
    clear hcb hj hF hbx hbl hcc2 hsb
    go_wp2_with fail
    go_end0
    obtain⟨hcb,hj,hF,hbx,hbl,hsb⟩:=U H1
    exact⟨rfl,k1,(BoxStill.ofBelow (U HB0)).trans (hbx.trans k2),(below_less (U HB0) (by omega)).trans (hbl.trans k3)⟩
def closeBeginR (st:RS) (s:Int) (tok:ByteArray):Option RS :=
  if tok.toList == [117,110,116,105,108] then some (putS st 2 s)
  else if tok.toList == [119,104,105,108,101] then some (openS (putS st 2 0) (⟨#[119,104,105,108,101]⟩,s,hereS st))
  else none
theorem closeBegin_any (B:Nat) (x:CX) (st:RS) (w:World) (h:CpE B w x st) (cb sb:Nat) (s:Int) (hcb:Blk w cb #[.pointer (some ⟨x.b,0,none⟩)] 91) (hsb:Blk w sb #[.int .i64 s] 2) (tok:ByteArray) (hlen:hereS st<4000) (hop:st.opens.length<3980) :
    Calls Tryz.prog 190 #[.string tok,.pointer (some ⟨cb,0,none⟩),.pointer (some ⟨sb,0,none⟩)] w (Closed B w x (closeBeginR st s tok)):=by
  obtain⟨fw,fo,hF⟩:=h.f
  have HADD:=V (addW B x st w fw fo hF 2 s hlen)
  have HWH:=V (openWhile_any B x st w h s hlen hop)
  obtain⟨s0,vo,hblk⟩:=hF.blk
  have hc:=hblk.cell
  have hxl:=hF.size0
  unfold cpArr at hc
  have hcc:=hcb.cell
  have hcs:=hsb.cell
  have hcl:=hcb.lt
  have hsl:=hsb.lt
  have hxa0:x.b<w.heap.size+1:=by omega
  have hxb0:x.b≤w.heap.size:=by omega
  have hxc0:x.b≤w.heap.size+1:=by omega
  have hxd0:x.b<w.heap.size+1+1:=by omega
  have hxa1:cb<w.heap.size+1:=by omega
  have hxb1:cb≤w.heap.size:=by omega
  have hxc1:cb≤w.heap.size+1:=by omega
  have hxd1:cb<w.heap.size+1+1:=by omega
  have hxa2:sb<w.heap.size+1:=by omega
  have hxb2:sb≤w.heap.size:=by omega
  have hxc2:sb≤w.heap.size+1:=by omega
  have hxd2:sb<w.heap.size+1+1:=by omega
  clear hblk hF h hcb hsb
  generalize hhx:hereX x st=hx at *
  have HHX:=V hhx
  clear hhx
  unfold closeBeginR
  by_cases h1:(tok.toList == [117,110,116,105,108])=true
  · rw[if_pos h1]
    have h1e:=tok_eq h1
    subst h1e
    clear h1
    go_enter Tryz.func190,Tryz.ntmps190
    go_wp2_with fail
    go_region_law (first
      | (refine step_call rfl 77 #[.const (.int .i64 2),.tmp 12] #[3,2] rfl Tryz.func77 Tryz.name77 Tryz.body77 #[.int .i64 2,.int .i64 s] (by first|(simp[Act.eval];done)|(simp[Act.eval,Act.put];done)|rfl) (withI_any 2 s _) ?_;rintro e w1 ⟨rfl,rfl⟩;refine⟨_,rfl,?_⟩)
      | (refine step_call rfl 50 #[.tmp 11,.tmp 14] #[96,33] rfl Tryz.func50 Tryz.name50 Tryz.body50 #[.pointer (some ⟨hx,0,none⟩),.slice (some ⟨w.heap.size+1,0,none⟩) 1 1] (by first|(simp[Act.eval];done)|(simp[Act.eval,Act.put];done)|rfl) (U HADD _ (w.heap.size+1) (by (repeat (first|with_reducible refine below_drew ?_|with_reducible refine below_drawn ?_ _|with_reducible refine below_longer ?_ _|(with_reducible refine Below.alloc ?_ ?_ _;rotate_left;(first|omega|((repeat (first|rw[World.size_up]|rw[World.size_dr]|rw[World.size_drN]))<;>omega)))));(with_reducible exact Below.refl _ _)) (by (repeat (first|with_reducible refine Blk.drew ?_|with_reducible refine Blk.drewN ?_ _|(with_reducible refine blk_newAt _ _ ?_;(first|omega|((repeat (first|rw[World.size_up]|rw[World.size_dr]|rw[World.size_drN]))<;>omega)))|with_reducible refine Blk.alloc ?_ _));(first|done|with_reducible assumption))) ?_;rintro e w1 ⟨rfl,h2,h1⟩;refine⟨_,rfl,?_⟩;have H1:=V h1;clear h1 h2))
    all_goals
      go_wp2_with fail
      go_ret
      obtain⟨k1,_,k2,k3⟩:=U H1
      exact Closed.yes k1.e k2 k3
  · rw[if_neg h1]
    by_cases h2:(tok.toList == [119,104,105,108,101])=true
    · rw[if_pos h2]
      have h2e:=tok_eq h2
      subst h2e
      clear h1 h2
      go_enter Tryz.func190,Tryz.ntmps190
      go_wp2_with fail
      refine (U HWH).mono ?_
      rintro e w2 ⟨rfl,k1,k2,k3⟩
      go_wp2_with fail
      go_ret
      exact Closed.yes k1 k2 k3
    · rw[if_neg h2]
      have e1:(tok.toList == [117,110,116,105,108])=false:=by simpa using h1
      have e2:(tok.toList == [119,104,105,108,101])=false:=by simpa using h2
      go_enter Tryz.func190,Tryz.ntmps190
      go_wp2_with fail
      go_ret
      exact Closed.no
end Go.Proofs.YtmeiikjpaepogaaGreatDoor
