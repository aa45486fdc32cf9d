/- Own. -/
import Derived.Test.YtmeiikjpaepogaaGreatDoorRows
import Derived.Test.YtmeiikjpaepogaaGreatDoorShelf
import Derived.Lib.ParseIntB
import Derived.Test.YtmeiikjpaepogaaGreatDoorD14
import Derived.Laws.CopyOwn
import Derived.Deep.RegionHeldLaw
open Option renaming some->O,none->X
open Bool renaming true->Y,false->Z
open Go.Value renaming int->I,slice->S,pointer->A,bool->Bl,string->Sr,tuple->Tu,agg->Ag
open Go.Obj renaming cells->C
open Go.Ending renaming returned->Rt
open Go.IntKind renaming i64->J
set_option maxRecDepth 100000
set_option maxHeartbeats 8000000
namespace Go.Proofs.YtmeiikjpaepogaaGreatDoor
open Go Go.RowKit Go.Proofs.Tryz List
def bD(l:List Nat):List Value:=l.map fun q=>A (O ⟨q,0,X⟩)
structure Lw(B:Nat)(w:YW)(bw:Nat)(ps hs:List Nat)(vp vh:Value):Prop where
 D:Blk w bw #[vp,vh] 70
 K:B<=bw
 aD:yS B w [bw] [vp,vh] [⟨87,1,ps.length,bD ps⟩,⟨90,1,hs.length,bD hs⟩]
 few:ps.length<=6
section
variable {B:Nat} {w w1 w':YW} {bw:Nat} {ps hs:List Nat} {vp vh:Value}
theorem Lw.op(h:Lw B w bw ps hs vp vh):w.ownsRow B 87 1 vp ps.length (bD ps):=h.aD.own 0 vp _ rfl rfl
theorem Lw.oh(h:Lw B w bw ps hs vp vh):w.ownsRow B 90 1 vh hs.length (bD hs):=h.aD.own 1 vh _ rfl rfl
theorem Lw.ne(h:Lw B w bw ps hs vp vh)(i:Nat)(v:Value)(a:[vp,vh][i]? = O v):O bw≠v.ownBlock:=fun e=>h.aD.off i v bw a zs e.symm
theorem Lw.alloc(h:Lw B w bw ps hs vp vh)(o:Obj):Lw B (w.alloc o) bw ps hs vp vh:=⟨h.D.alloc o,h.K,h.aD.alloc o,h.few⟩
theorem Lw.drewN(h:Lw B w bw ps hs vp vh)(n:Nat):Lw B (w.drewN n) bw ps hs vp vh:=⟨h.D,h.K,h.aD.drewN n,h.few⟩
theorem Lw.still{F:Nat->Prop}(h:Lw B w bw ps hs vp vh)(a:zU w w' F)(c:∀k,foot bw [vp,vh] k->¬F k):Lw B w' bw ps hs vp vh:=⟨h.D.still a (c bw (Zg rfl)),h.K,h.aD.to (fun i v k e d b=>a.block k b (c k (Zf ⟨i,v,e,d⟩))),h.few⟩
theorem Lw.z(h:Lw B w bw ps hs vp vh)(a:Below w.heap.size w w'):Lw B w' bw ps hs vp vh:=⟨h.D.z a h.D.lt,h.K,h.aD.below_all a,h.few⟩
theorem Lw.footlt(h:Lw B w bw ps hs vp vh){k:Nat}(a:foot bw [vp,vh] k):B<=k/\k<w.heap.size:=h.aD.foot h.K h.D.lt a
theorem Lw.notfoot(h:Lw B w bw ps hs vp vh){q:Nat}{cs:YV}{T:TypeId}(b:Blk w q cs T)(d:70≠T)(e:87≠T)(f:90≠T):¬foot bw [vp,vh] q:=by
 rintro(rfl|⟨i,v,a,c⟩);have:=h.D;unfold Blk at this b;rw[b]at this;simp at this;exact d this.2.symm;match i,(Zb.1 a).1 with
 |0,_=>simp at a;subst a;exact zR b h.op e c
 |1,_=>simp at a;subst a;exact zR b h.oh f c
theorem Lw.notrow(h:Lw B w bw ps hs vp vh){b:Nat}{e:TypeId}{size n:Nat}{v:Value}{xs:List Value}(f:w.ownsRow b e size v n xs)(g:e≠70)(j:e≠87)(l:e≠90){k:Nat}(d:v.ownBlock=O k):¬foot bw [vp,vh] k:=by
 rintro(rfl|⟨i,u,c,a⟩);exact zR h.D f g d;match i,(Zb.1 c).1 with
 |0,_=>simp at c;subst c;exact wJ f h.op j d a
 |1,_=>simp at c;subst c;exact wJ f h.oh l d a
theorem Lw.growH(h:Lw B w bw ps hs vp vh){q g cap H:Nat}(c:w.grownBy w1 vh.ownBlock)(a:w1.ownsRow B 90 1 (S (O ⟨g,0,X⟩) (hs.length+1) cap) (hs.length+1) (bD hs++[A (O ⟨q,0,X⟩)]))(d:vh.ownBlock=O g\/g=H)(f:w.heap.size<=H):Lw B (w1.setCell ⟨bw,1,X⟩ (S (O ⟨g,0,X⟩) (hs.length+1) cap)) bw ps (hs++[q]) vp (S (O ⟨g,0,X⟩) (hs.length+1) cap):=by have e:=h.D.lt;refine⟨?_,h.K,?_,h.few⟩;have:=(h.D.grown c (h.ne 1 vh rfl)).set 1 (S (O ⟨g,0,X⟩) (hs.length+1) cap);simpa only [Zt,set_cons_succ,set_cons_zero]using this;have:=(h.aD.grow 1 vh (S (O ⟨g,0,X⟩) (hs.length+1) cap) ⟨90,1,hs.length+1,bD hs++[A (O ⟨q,0,X⟩)]⟩ rfl (by simpa using e) c a (qG d f)).set (b:=bw) zs 1 (S (O ⟨g,0,X⟩) (hs.length+1) cap);simpa [bD]using this
theorem Lw.growP(h:Lw B w bw ps hs vp vh){q g cap H:Nat}(c:w.grownBy w1 vp.ownBlock)(a:w1.ownsRow B 87 1 (S (O ⟨g,0,X⟩) (ps.length+1) cap) (ps.length+1) (bD ps++[A (O ⟨q,0,X⟩)]))(d:vp.ownBlock=O g\/g=H)(i:w.heap.size<=H)(f:ps.length<6):Lw B (w1.setCell ⟨bw,0,X⟩ (S (O ⟨g,0,X⟩) (ps.length+1) cap)) bw (ps++[q]) hs (S (O ⟨g,0,X⟩) (ps.length+1) cap) vh:=by have e:=h.D.lt;refine⟨?_,h.K,?_,zp⟩;have:=(h.D.grown c (h.ne 0 vp rfl)).set 0 (S (O ⟨g,0,X⟩) (ps.length+1) cap);simpa only [Zt,set_cons_succ,set_cons_zero]using this;have:=(h.aD.grow 0 vp (S (O ⟨g,0,X⟩) (ps.length+1) cap) ⟨87,1,ps.length+1,bD ps++[A (O ⟨q,0,X⟩)]⟩ rfl (by simpa using e) c a (qG d i)).set (b:=bw) zs 0 (S (O ⟨g,0,X⟩) (ps.length+1) cap);simpa [bD]using this
theorem Lw.hold{F:Nat->Prop}{q:Nat}{mk:Int}{i j:Value}{f g:Nat}(h:Lw B w bw ps hs vp vh)(a:xw w q mk i j f g)(d:zU w w' F)(c:∀k,k<w.heap.size->F k->foot bw [vp,vh] k):xw w' q mk i j f g:=a.still d (fun e=>h.notfoot a.D zd zd zd (c _ a.D.lt e)) (fun k b e=>h.notrow a.is zd zd zd b (c k (zC a.is b).1 e)) (fun k b e=>h.notrow a.ns zd zd zd b (c k (zC a.ns b).1 e))
end
theorem IW:(prog.info? 90).map (fun i=>(i.zero,i.size,i.bytes))=O (O (A X),1,8):=zr
theorem DU:(prog.info? 87).map (fun i=>(i.zero,i.size,i.bytes))=O (O (A X),1,8):=zr
structure Kp(B:Nat)(w:YW)(wr:YW)(bw:Nat)(ps hs:List Nat)(vp vh:Value)(q:Nat)(vi vn:Value)(ni nn:Nat)(mk:Int)(k:Nat)(gl:List Nat)(qg:Nat)(vig vng vhk:Value):Prop where
 lw:Lw B wr bw ps (hs++gl) vp vhk
 len:gl.length=k+1
 cur:xw wr qg mk vig vng (ni+k) (nn+k)
 all:∀x∈gl,∃vi' vn' ni' nn',xw wr x mk vi' vn' ni' nn'/\ni'<=ni+k/\nn'<=nn+k/\(∀j,vi'.ownBlock=O j->vi.ownBlock=O j\/w.heap.size<=j)/\(∀j,vn'.ownBlock=O j->vn.ownBlock=O j\/w.heap.size<=j)/\(x=q\/w.heap.size<=x)
 rowi:∀j,vig.ownBlock=O j->vi.ownBlock=O j\/w.heap.size<=j
 rown:∀j,vng.ownBlock=O j->vn.ownBlock=O j\/w.heap.size<=j
 lists:∀j,foot bw [vp,vhk] j->foot bw [vp,vh] j\/w.heap.size<=j
 still:zU w wr (fun j=>foot bw [vp,vh] j\/j=q\/vi.ownBlock=O j\/vn.ownBlock=O j)
theorem Kp.next{B:Nat}{w wr K w4:YW}{z:Nat}{ps r:List Nat}{Q vh:Value}{q:Nat}{vi vn:Value}{ni nn:Nat}{mk:Int}{k:Nat}{p:List Nat}{qg:Nat}{M N c:Value}(h:Kp B w wr z ps r Q vh q vi vn ni nn mk k p qg M N c){G:Nat}{t y:Value}(E:xw K G mk t y (ni+k+1) (nn+k+1))(h0:wr.heap.size<=G)(b0:∀j,t.ownBlock=O j->M.ownBlock=O j\/wr.heap.size<=j)(c0:∀j,y.ownBlock=O j->N.ownBlock=O j\/wr.heap.size<=j)(L:zU wr K (fun j=>M.ownBlock=O j\/N.ownBlock=O j))(a0:∀q' s u l o,xw wr q' mk s u l o->l<=ni+k->o<=nn+k->xw K q' mk s u l o){g cap H:Nat}(e0:(K.alloc (C #[A (O ⟨G,0,X⟩)] 90)).grownBy w4 c.ownBlock)(W:w4.ownsRow B 90 1 (S (O ⟨g,0,X⟩) ((r++p).length+1) cap) ((r++p).length+1) (bD (r++p)++[A (O ⟨G,0,X⟩)]))(R:c.ownBlock=O g\/g=H)(hH:(K.alloc (C #[A (O ⟨G,0,X⟩)] 90)).heap.size=H):Kp B w (w4.setCell ⟨z,1,X⟩ (S (O ⟨g,0,X⟩) ((r++p).length+1) cap)) z ps r Q vh q vi vn ni nn mk (k+1) (p++[G]) G t y (S (O ⟨g,0,X⟩) ((r++p).length+1) cap):=by
 have T:=h.lw.still L (fun j f e=>by
   rcases e with e|e
   · exact h.lw.notrow h.cur.is zd zd zd e f
   · exact h.lw.notrow h.cur.ns zd zd zd e f)
 have d0:zU K (w4.setCell ⟨z,1,X⟩ (S (O ⟨g,0,X⟩) ((r++p).length+1) cap)) (foot z [Q,c]):=zU.set (F:=foot z [Q,c]) (zU.grown (F:=foot z [Q,c]) (zU.alloc (zU.refl K _) _) e0 (fun j f=>Zg (Zf ⟨1,c,rfl,f⟩))) (Zg (Zg rfl)) _ _;have f0:=h.still.size;have g0:=L.size;have d:∀{x:Nat} {a b:Value} {n m:Nat},xw K x mk a b n m->xw (w4.setCell ⟨z,1,X⟩ (S (O ⟨g,0,X⟩) ((r++p).length+1) cap)) x mk a b n m:=fun P=>T.hold P d0 (fun _ _ e=>e);refine⟨?_,by simp[h.len],d E,?_,?_,?_,?_,?_⟩;have:=(T.alloc (C #[A (O ⟨G,0,X⟩)] 90)).growH e0 W R zo;rw[Zy]at this;exact this;intro x P;simp only[Zo,mem_singleton]at P;rcases P with P|rfl;obtain⟨s,u,l,o,h1,h2,h3,h4⟩:=h.all x P;exact⟨s,u,l,o,d (a0 _ _ _ _ _ h1 h2 h3),zo,zo,h4⟩;refine⟨t,y,_,_,d E,zo,zo,?_,?_,Zf zo⟩;intro j f;rcases b0 j f with e|e;exact h.rowi j e;exact Zf zo;intro j f;rcases c0 j f with e|e;exact h.rown j e;exact Zf zo;intro j f;rcases b0 j f with e|e;exact h.rowi j e;exact Zf zo;intro j f;rcases c0 j f with e|e;exact h.rown j e;exact Zf zo;rintro j (rfl|⟨i,v,hv,hk⟩);exact Zg (Zg rfl);match i,(Zb.1 hv).1 with
 |0,_=>simp at hv;subst hv;exact Zg (Zf ⟨0,Q,rfl,hk⟩)
 |1,_=>simp at hv;subst hv;simp only[Value.ownBlock,Zs]at hk;rcases R with e|e;exact h.lists j (Zf ⟨1,c,rfl,by rw[e,hk]⟩);refine Zf ?_;rw[<-hk,e,<-hH];simp;omega
 refine(h.still.trans L ?_).trans d0 ?_;intro j f e;rcases e with e|e;rcases h.rowi j e with D|D;exact Zf (Zf (Zg D));omega;rcases h.rown j e with D|D;exact Zf (Zf (Zf D));omega;intro j f e;rcases h.lists j e with D|D;exact Zg D;omega
theorem Kp.first{B:Nat}{w h z:YW}{c:Nat}{M d:List Nat}{f a:Value}{q:Nat}{k l:Value}{K L:Nat}{mk:Int}(D:Lw B h c M d f a)(o:xw h q mk k l K L)(r:zU w h (fun j=>j=q\/k.ownBlock=O j\/l.ownBlock=O j)){g cap H:Nat}(u:(h.alloc (C #[A (O ⟨q,0,X⟩)] 90)).grownBy z a.ownBlock)(p:z.ownsRow B 90 1 (S (O ⟨g,0,X⟩) (d.length+1) cap) (d.length+1) (bD d++[A (O ⟨q,0,X⟩)]))(m:a.ownBlock=O g\/g=H)(N:(h.alloc (C #[A (O ⟨q,0,X⟩)] 90)).heap.size=H):Kp B w (z.setCell ⟨c,1,X⟩ (S (O ⟨g,0,X⟩) (d.length+1) cap)) c M d f a q k l K L mk 0 [q] q k l (S (O ⟨g,0,X⟩) (d.length+1) cap):=by
 have s:zU h (z.setCell ⟨c,1,X⟩ (S (O ⟨g,0,X⟩) (d.length+1) cap)) (foot c [f,a]):=zU.set (F:=foot c [f,a]) (zU.grown (F:=foot c [f,a]) (zU.alloc (zU.refl h _) _) u (fun j b=>Zg (Zf ⟨1,a,rfl,b⟩))) (Zg (Zg rfl)) _ _;have P:=r.size;have n:=D.hold o s (fun _ _ e=>e);refine⟨?_,rfl,n,?_,fun j b=>Zg b,fun j b=>Zg b,?_,?_⟩;exact(D.alloc (C #[A (O ⟨q,0,X⟩)] 90)).growH u p m zo;intro x E;simp only[mem_singleton]at E;subst E;exact⟨k,l,_,_,n,Zc _,Zc _,fun j b=>Zg b,fun j b=>Zg b,Zg rfl⟩;rintro j (rfl|⟨i,v,t,y⟩);exact Zg (Zg rfl);match i,(Zb.1 t).1 with
 |0,_=>simp at t;subst t;exact Zg (Zf ⟨0,f,rfl,y⟩)
 |1,_=>simp at t;subst t;simp only[Value.ownBlock,Zs]at y;rcases m with e|e;exact Zg (Zf ⟨1,a,rfl,by rw[e,y]⟩);refine Zf ?_;rw[<-y,e,<-N];simp;omega
 exact(r.m (G:=fun j=>foot c [f,a] j\/j=q\/k.ownBlock=O j\/l.ownBlock=O j) (fun j _ e=>Zf e)).trans s (fun j _ e=>Zg e)
theorem Uo{P:Prop}(zz0:P:=by
 obtain⟨iH,C0,d0,e0,f0⟩:=info_parts IW;obtain⟨ah,ch,e1⟩:=zu h.oh;subst e1;have hc:=h.D.u;have k1:=h.D.lt;have a1:=c.u;have b1:=c.H;have q1:=c.lt;have J0:=h.notfoot c zd zd zd;have p1:D≠q:=fun e=>J0 (Zg e.symm);have l1:(d.length:Int)+4<=17592186044416:=zo;have r:=c.set 2 (I J ((d.length:Int)+1));simp only[Zt,set_cons_succ,set_cons_zero]at r;have c1:=zR c hi zd;have d1:=zR c hn zd;have g0:=zA hi c1 (I J ((d.length:Int)+1)) (a:=⟨q,2,X⟩);have h0:=zA hn d1 (I J ((d.length:Int)+1)) (a:=⟨q,2,X⟩);have HM:=V (NG q (d.length+1) G H y z _ r g0 h0 zo zo zo);have i0:zU w (w.setCell ⟨q,2,X⟩ (I J ((d.length:Int)+1))) (fun j=>j=q):=zU.set (F:=fun j=>j=q) (zU.refl w _) (Zg rfl) _ _;have D0:=h.still i0 (fun k hk e=>J0 (by rw[<-e];exact hk));have u0:=V i0;have M:=V D0;have p0:=V g0;have s0:=V h0;have HL:=V h;clear g0 h0 r i0 D0 h;go_enter func68,ntmps68;go_wp2_with fail;refine HM.m ?_;rintro e w2 ⟨rfl,B0,j0⟩
 have f:=M.still j0 (fun k hk e=>by
   rcases e with e|e
   · exact M.notrow p0 zd zd zd e hk
   · exact M.notrow s0 zd zd zd e hk)
 have E0:=f.D.u;have F0:=f.D.H;have i1:B<=w2.heap.size:=by have:=f.K;have:=f.D.lt;omega
 have HW:=V (zE f.oh (C #[A (O ⟨q,0,X⟩)] 90));have t:B<=(w2.alloc (C #[A (O ⟨q,0,X⟩)] 90)).heap.size:=zp;have L:=V t;have q0:=V f;have o0:=V B0;have v0:=V j0;have x0:=f.D.lt;have K:=V (f.D.alloc (C #[A (O ⟨q,0,X⟩)] 90));have T:=f.ne 1 _ rfl;clear t B0 j0 f HM hc a1 b1;go_wp2_with (at_builtin;refine wpList_append_lies _ rfl (.tmp 21) (.tmp 23) 68 rfl B 90 iH _ 1 8 underlying68 C0 d0 e0 f0 rfl zd (S ah d.length ch) d.length (bD d) zf HW ⟨w2.heap.size,0,X⟩ 1 1 [A (O ⟨q,0,X⟩)] zf rfl (World.news_of_block (Blk.new w2 _ _)) (by simp[Value.oneCell']) zo zm zo L _ rfl ?_;intro g cap w5 l b u H0;have p:=K.grown b T;have y0:=p.u;have A0:=p.H;have HO:=V l;have HG:=V b;have HA:=V u;clear l b u p E0 F0);have c0:zU w w2 (fun j=>j=q\/G.ownBlock=O j\/H.ownBlock=O j):=(u0.m (fun j _ e=>Zg e)).trans v0 (fun j _ e=>Zf e);have v:=Kp.first q0 o0 c0 HG HO HA rfl;clear y0 A0 c0 HW L q0 o0 v0 K T x0 HO HG HA u0 M p0 s0 HL;generalize w5.setCell ⟨D,1,X⟩ (S (O ⟨g,0,X⟩) (d.length+1) cap)=w6 at v ⊢;generalize Value.slice (O ⟨g,0,X⟩) (d.length+1) cap=r1 at v ⊢;generalize R:(d.length:Int)+1=mk at v ⊢;generalize W:y.length=ni at *;generalize a0:z.length=nn at *;have M0:=V W;have N0:=V a0;have O0:=V R;clear W a0 R hi hn c;go_wp2;go_loopw [4,5] (fun gv n wr=>∃(k:Nat)(E:List Nat)(N:Nat)(m o n0:Value),n=I J k/\k<=3/\gv=A (O ⟨N,0,X⟩)/\Kp B w wr D ps d vp (S ah d.length ch) q G H ni nn mk k E N m o n0) (fun _ n _=>3-(intOf n).toNat);case atStart=>exact⟨0,[q],q,_,_,_,rfl,zo,rfl,v⟩
 case round=>
  clear v;obtain⟨k,E,N,m,o,n0,rfl,m1,rfl,x⟩:=hrel;by_cases o1:k<3
  ·have h1:(k:Int)<3:=zo;have r0:=V (KI N mk m o (ni+k) (nn+k) wr x.cur zo zo);have s:=V x;have G0:=x.len;clear x;go_wp2_with fail;refine r0.m ?_;rintro e w3 ⟨q2,s1,t1,rfl,Z0,Q,K0,L0,k0,b0⟩
   have i:=s.lw.still k0 (fun j hj e=>by
     rcases e with e|e
     · exact s.lw.notrow s.cur.is zd zd zd e hj
     · exact s.lw.notrow s.cur.ns zd zd zd e hj)
   obtain⟨ak,ck,f1⟩:=zu i.oh;subst f1;have T0:=i.D.u;have U0:=i.D.H;have g1:=i.D.lt;have j1:B<=w3.heap.size:=by have:=i.K;omega
   have HW:=V (zE i.oh (C #[A (O ⟨q2,0,X⟩)] 90));have t:B<=(w3.alloc (C #[A (O ⟨q2,0,X⟩)] 90)).heap.size:=zp;have L:=V t;have K:=V (i.D.alloc (C #[A (O ⟨q2,0,X⟩)] 90));have I0:=i.ne 1 _ rfl;have HC:=V Q;have Q0:=V K0;have R0:=V L0;have S0:=V k0;have t0:=V b0;have n1:(d++E).length+1<=17592186044416:=by simp[G0];omega
   clear t Q K0 L0 k0 b0 i r0;generalize w0:d++E=hl at *;have P0:=V w0;clear w0;go_wp2_with (at_builtin;refine wpList_append_lies _ rfl (.tmp 38) (.tmp 40) 68 rfl B 90 iH _ 1 8 underlying68 C0 d0 e0 f0 rfl zd (S ak hl.length ck) hl.length (bD hl) zf HW ⟨w3.heap.size,0,X⟩ 1 1 [A (O ⟨q2,0,X⟩)] zf rfl (World.news_of_block (Blk.new w3 _ _)) (by simp[Value.oneCell']) zo zm zo L _ rfl ?_;intro g cap w5 l b u H0;have p:=K.grown b I0;have y0:=p.u;have A0:=p.H;have HO:=V l;have HG:=V b;have HA:=V u;clear l b u p T0 U0);go_roundw;case rel=>obtain rfl:=P0.symm;exact⟨k+1,E++[q2],q2,_,_,_,by go_num,zo,rfl,s.next HC Z0 Q0 R0 S0 t0 HG HO HA rfl⟩
   case measure=>exact zv
  ·have W0:k=3:=zo;subst W0;go_wp2;go_end0;rw[U M0,U N0,U O0];exact⟨rfl,E,N,m,o,n0,x⟩):P:=zz0
theorem dV(B D:Nat)(ps d:List Nat)(vp vh:Value)(q:Nat)(l0:Int)(G H:Value)(y:YL)(z:YI)(w:YW)(h:Lw B w D ps d vp vh)(c:Blk w q #[G,H,I J l0] 134)(hi:w.ownsRow 0 65 2 G y.length (zc y))(hn:w.ownsRow 0 2 1 H z.length (zn z))(X0:y.length<=4398046511104)(Y0:z.length<=4398046511104)(V0:d.length+4<=17592186044416):Calls prog 68 #[A (O ⟨D,0,X⟩),A (O ⟨q,0,X⟩)] w fun e w'=>e=Rt (Tu #[])/\∃E N m o m0,Kp B w w' D ps d vp vh q G H y.length z.length (d.length+1) 3 E N m o m0:=Uo
structure zz(w w':YW):Prop where
 os:w'.os=w.os
 tape:w'.tape=w.tape
 output:w'.output=w.output
 size:w.heap.size<=w'.heap.size
 block:∀(k:Nat)(cs:YV)(T:TypeId),Blk w k cs T->T≠70->T≠87->T≠90->Blk w' k cs T
theorem zz.refl(w:YW):zz w w:=⟨rfl,rfl,rfl,Zc _,fun _ _ _ h _ _ _=>h⟩
theorem zz.trans{a b c:YW}(h:zz a b)(k:zz b c):zz a c:=⟨k.os.trans h.os,k.tape.trans h.tape,k.output.trans h.output,Nat.le_trans h.size k.size,fun i cs T g d e f=>k.block i cs T (h.block i cs T g d e f) d e f⟩
theorem zz.aB{w w':YW}(h:Below w.heap.size w w'):zz w w':=⟨h.os,h.tape,h.output,h.size,fun _ _ _ a _ _ _=>a.z h a.lt⟩
theorem zz.D{w w':YW}{k:Nat}{cs:YV}{T:TypeId}(h:zz w w')(d:Blk w k cs T)(a:T≠70:=by decide)(b:T≠87:=by decide)(c:T≠90:=by decide):Blk w' k cs T:=h.block k cs T d a b c
theorem zz.row{w w':YW}{base:Nat}{e:TypeId}{size:Nat}{v:Value}{n:Nat}{xs:List Value}(h:zz w w')(a:w.ownsRow base e size v n xs)(c:e≠70:=by decide)(d:e≠87:=by decide)(f:e≠90:=by decide):w'.ownsRow base e size v n xs:=by refine⟨a.1,?_⟩;rcases a.2 with b|⟨g,cap,cur,l,j,i,k⟩;exact Zg b;exact Zf ⟨g,cap,cur,l,j,h.block g cur e i c d f,k⟩
theorem zz.hold{w w':YW}{q:Nat}{mk:Int}{d e:Value}{b c:Nat}(h:zz w w')(a:xw w q mk d e b c):xw w' q mk d e b c:=⟨h.D a.D,h.row a.is,h.row a.ns,a.bd,a.R⟩
theorem Lw.law{B:Nat}{w w':YW}{c:Nat}{n m:List Nat}{f d:Value}(h:Lw B w c n m f d){F:Nat->Prop}(a:zU w w' F)(l:∀k,k<w.heap.size->F k->foot c [f,d] k):zz w w':=⟨a.os,a.tape,a.output,a.size,fun k _ _ b g i j=>b.still a (fun e=>h.notfoot b g.symm i.symm j.symm (l k b.lt e))⟩
def yk(w:YW)(hs:List Nat):Prop:=∀q∈hs,∃mk vi vn ni nn,xw w q mk vi vn ni nn
theorem yk.law{w w':YW}{a:List Nat}(h:yk w a)(c:zz w w'):yk w' a:=fun q d=>by
  obtain⟨mk,g,i,e,f,b⟩:=h q d
  exact⟨mk,g,i,e,f,c.hold b⟩
theorem BF(l:List Nat)(k q:Nat)(h:l[k]? = O q):(bD l)[k]? = O (A (O ⟨q,0,X⟩)):=by unfold bD;rw[Zn,h];rfl
theorem mf(B n:Nat)(E b:List Nat)(K F:Value)(w:YW)(h:Lw B w n E b K F)(o:yk w b)(p:b.length<=17592186044416):Calls prog 33 #[A (O ⟨n,0,X⟩)] w fun e w'=>e=Rt (Bl Y)/\w'=w:=by
 obtain⟨L,M,l⟩:=zu h.oh;subst l;have N:=h.D.u;have m:=V h;have u:=V o;have y:(b.length:Int)<=17592186044416:=zo;clear h o;go_enter func33,ntmps33;go_wp2;go_loop [3] (fun i=>∃k:Nat,k<=b.length/\i=I J k) (fun i=>b.length-(intOf i).toNat);case atStart=>exact⟨0,Zq _,rfl⟩
 case round=>
  obtain⟨k,P,rfl⟩:=hrel;by_cases f:k<b.length
  ·obtain⟨q,j⟩:∃q,b[k]? = O q:=⟨_,Za f⟩;obtain⟨g,cap,s,_,x⟩:=m.oh.form zo;simp only[Zk,true_and]at s;obtain⟨rfl,rfl⟩:=s;have c:=zD m.oh k zo;rw[BF b k q j]at c;obtain⟨mk,G,H,z,D,a⟩:=U u q (Zd j);have v:=V (KQ q mk G H z D w a);have r:(k:Int)<b.length:=zo;clear a j;go_wp2_with fail;refine v.m ?_;rintro e Q ⟨rfl,t⟩;obtain rfl:=t.symm;clear t;go_wp2;go_round;case rel=>exact⟨k+1,zo,by go_num⟩
   case measure=>exact zv
  ·have d:k=b.length:=zo;subst d;go_wp2;go_ret;exact⟨rfl,rfl⟩
theorem iG(B d:Nat)(a R:List Nat)(vp t:Value)(q:Nat)(w:YW)(h:Lw B w d a R vp t):Calls prog 66 #[A (O ⟨d,0,X⟩),A (O ⟨q,0,X⟩)] w fun e w'=>e=Rt (Tu #[])/\∃i K,(i=a\/i=a++[q])/\Lw B w' d i R K t/\zz w w'/\Below B w w':=by
 obtain⟨iP,D,p,r,s⟩:=info_parts DU;obtain⟨u,cp,H⟩:=zu h.op;subst H;have M:=h.D.u;have hf:=h.D.H;have a0:=h.D.lt;have N:=h.few;have d0:(a.length:Int)<=6:=zo;have y:B<=w.heap.size:=by have:=h.K;omega
 by_cases E:a.length<6
 ·have Q:(a.length:Int)<6:=zo;have HW:=V (zE h.op (C #[A (O ⟨q,0,X⟩)] 87));have m:B<=(w.alloc (C #[A (O ⟨q,0,X⟩)] 87)).heap.size:=zp;have x:=V m;have v:=V (h.D.alloc (C #[A (O ⟨q,0,X⟩)] 87));have G:=h.ne 0 _ rfl;have l:=V h;clear m h;go_enter func66,ntmps66;go_wp2_with (at_builtin;refine wpList_append_lies _ rfl (.tmp 14) (.tmp 16) 67 rfl B 87 iP _ 1 8 underlying67 D p r s rfl zd (S u a.length cp) a.length (bD a) zf HW ⟨w.heap.size,0,X⟩ 1 1 [A (O ⟨q,0,X⟩)] zf rfl (World.news_of_block (Blk.new w _ _)) (by simp[Value.oneCell']) zo zm zo x _ rfl ?_;intro g cap w5 c b n P;have f:=v.grown b G;have b0:=f.u;have c0:=f.H;have W:=V c;have L:=V b;have T:=V n;clear c b n f M hf);go_end0;have o:zU w (w5.setCell ⟨d,0,X⟩ (S (O ⟨g,0,X⟩) (a.length+1) cap)) (foot d [S u a.length cp,t]):=zU.set (F:=foot d [S u a.length cp,t]) (zU.grown (F:=foot d [S u a.length cp,t]) (zU.alloc (zU.refl w _) _) L (fun j hj=>Zg (Zf ⟨0,_,rfl,hj⟩))) (Zg (Zg rfl)) _ _;exact⟨rfl,a++[q],_,Zf rfl,(l.alloc (C #[A (O ⟨q,0,X⟩)] 87)).growP L W T zo E,l.law o (fun _ _ e=>e),o.z (fun k hk=>(l.footlt hk).1) y⟩
 ·have z:a.length=6:=zo;have l:=V h;rw[z]at M;clear h;go_enter func66,ntmps66;go_wp2;go_end0;exact⟨rfl,a,_,Zg rfl,U l,zz.refl w,Ze _ _⟩
theorem rN(W vb:Value)(la a:YI)(ba bb:Nat)(w:YW)(l:w.ownsRow ba 2 1 W la.length (zn la))(m:w.ownsRow bb 2 1 vb a.length (zn a))(a0:la.length<=17592186044416)(b0:a.length<=17592186044416):Calls prog 185 #[W,vb] w fun e w'=>e=Rt (Bl (decide (la=a)))/\∃n,w'=w.drewN n:=by
 obtain⟨aa,ca,t⟩:=zu l;obtain⟨ab,cb,u⟩:=zu m;subst t u;have L:(la.length:Int)<=17592186044416:=zo;have M:(a.length:Int)<=17592186044416:=zo;by_cases h:la.length=a.length
 ·have B:=V l;have D:=V m;have P:(la.length:Int)=a.length:=zo;clear l m;go_enter func185,ntmps185;go_wp2;go_loopw [5] (fun i wr=>∃(k n:Nat),i=I J k/\k<=la.length/\la.take k=a.take k/\wr=w.drewN n) (fun i _=>la.length-(intOf i).toNat);case atStart=>exact⟨0,0,rfl,Zq _,rfl,rfl⟩
  case round=>
   obtain⟨k,n,rfl,hk,f,rfl⟩:=hrel;have c:=V f;clear f;by_cases r:k<la.length
   ·obtain⟨g,cap,j,_,_⟩:=B.form zo;simp only[Zk,true_and]at j;obtain⟨rfl,rfl⟩:=j;obtain⟨g2,G,j,_,_⟩:=D.form zo;simp only[Zk,true_and]at j;obtain⟨rfl,rfl⟩:=j;obtain⟨x,v⟩:∃x,la[k]? = O x:=⟨_,Za r⟩;obtain⟨y,z⟩:∃y,a[k]? = O y:=⟨_,Za zo⟩;have o:=zD B k zo;have p:=zD D k zo;have H:(zn la)[k]? = O (I J x):=by unfold zn;rw[Zn,v];rfl
    have K:(zn a)[k]? = O (I J y):=by unfold zn;rw[Zn,z];rfl
    rw[H]at o;rw[K]at p;have Q:(k:Int)<la.length:=zo;have R:(k:Int)<a.length:=zo;have E:=V v;have F:=V z;clear v z H K;by_cases b:x=y
    ·subst b;go_wp2;go_region;go_wp2;go_roundw;case rel=>refine⟨k+1,n+1,by go_num,zo,?_,rfl⟩;rw[take_one la k x (U E),take_one a k x (U F),U c]
     case measure=>exact zv
    ·have T:(x==y)=Z:=by simpa using b
     go_wp2;go_region;go_wp2;go_ret;refine⟨jI ?_,n+1,rfl⟩;have:la≠a:=by rintro rfl;have d:=U E;rw[U F]at d;exact b (Zl d).symm
     simp[this]
   ·have q:k=la.length:=zo;subst q;go_wp2;go_ret;refine⟨jI ?_,_,rfl⟩;have d:=U c;rw[take_of_length_le (Zc _),h,take_of_length_le (Zc _)]at d;simp[d]
 ·have N:(((la.length:Int)==(a.length:Int)))=Z:=by simp;omega
  have s:la≠a:=fun e=>h (by rw[e]);go_enter func185,ntmps185;go_wp2;go_ret;refine⟨jI ?_,0,rfl⟩;simp[s]
def qR(w:YW):Prop:=(∃te pe,w.cell? ⟨1,0,X⟩=O (.iface te pe))/\(∃te pe,w.cell? ⟨2,0,X⟩=O (.iface te pe))/\6<=w.heap.size
theorem Ur{P:Prop}(zz0:P:=by
 obtain⟨⟨d,p1,b⟩,⟨e,p2,c⟩,f⟩:=h;exact⟨⟨d,p1,by rw[a.u (by simp only;omega)];exact b⟩,⟨e,p2,by rw[a.u (by simp only;omega)];exact c⟩,by have:=a.size;omega⟩):P:=zz0
theorem qR.z{w w':YW}(h:qR w)(a:Below w.heap.size w w'):qR w':=Ur
theorem sS(w:YW)(t:YB)(T:TypeId):Below w.heap.size w (Lib.bytesWorld w T t):=Lib.bytesWorld_below _ _ _
theorem bO (s:YB) (w:YW) (hs:s.size≤2000) (hE:qR w) : Calls prog 76 #[Sr s] w fun e w'=>e=Rt (Tu #[I J (qS s),Bl (qe s).isSome])∧Below w.heap.size w w':=by
 have hpre:=strings_HasPrefix s ⟨#[43]⟩ w;have HP:=V hpre;obtain⟨⟨t1,p1,h1⟩,⟨t2,p2,h2⟩,h3⟩:=hE;clear hpre;by_cases hplus:s.toList.head? = O 43
 ·have hn:=QM s hplus;have hv:qS s=0:=by unfold qS;rw[hn];rfl
  have hb:Lib.hasPrefix s.data.toList [43]=Y:=by
   rw[← Zv];cases hl:s.toList with
   |nil=>rw[hl]at hplus;simp at hplus
   |cons c r=>rw[hl]at hplus;simp at hplus;subst hplus;simp[Lib.hasPrefix]
  have HB:=V hb;rw[hn,hv];clear hn hv hb hplus h1 h2;go_enter func76,ntmps76;go_wp2_with fail;refine HP.m ?_;rintro e w1 ⟨rfl,hw⟩;obtain rfl:=hw.symm;clear hw;rw[U HB];go_wp2_with fail;go_ret2;exact⟨rfl,Ze _ _⟩
 ·have hlink:=QL s hplus;have hb:Lib.hasPrefix s.data.toList [43]=Z:=by
   rw[← Zv];cases hl:s.toList with
   |nil=>simp[Lib.hasPrefix]
   |cons c r=>
    rw[hl]at hplus;have:c≠43:=by simpa using hplus
    have e:((43:UInt8) == c)=Z:=by simpa using Ne.symm this
    simp[Lib.hasPrefix,isPrefixOf,e]
  have HB:=V hb;rw[Zv]at hlink;rcases hp:Lib.parseIntB 64 s.data.toList with v|_|_
  ·skip;rw[hp]at hlink;have hv:qS s=v:=by unfold qS;rw[hlink];rfl
   have HC:=V (strconv_ParseInt_10_at64_ok s zo v hp w);rw[hlink,hv];clear hlink hv hb hplus h1 h2 hp;go_enter func76,ntmps76;go_wp2_with fail;refine HP.m ?_;rintro e w1 ⟨rfl,hw⟩;obtain rfl:=hw.symm;clear hw;rw[U HB];go_wp2_with fail;refine HC.m ?_;rintro e w1 ⟨rfl,hw⟩;have hbw:Below w.heap.size w w1:=by rcases hw with rfl|⟨t,rfl⟩;exact Ze _ _;exact sS _ _ _
   clear hw;go_wp2_with fail;go_ret2;exact⟨rfl,hbw⟩
  ·skip;rw[hp]at hlink;have hv:qS s=0:=by unfold qS;rw[hlink];rfl
   have HC:=V (strconv_ParseInt_10_at64_syntax s zo hp _ w h1 (Zf ⟨t1,p1,rfl⟩));rw[hlink,hv];clear hlink hv hb hplus h1 h2 hp;go_enter func76,ntmps76;go_wp2_with fail;refine HP.m ?_;rintro e w1 ⟨rfl,hw⟩;obtain rfl:=hw.symm;clear hw;rw[U HB];go_wp2_with fail;refine HC.m ?_;rintro e w1 ⟨N,rfl,_,_,hbw⟩;go_wp2_with fail;go_ret2;exact⟨rfl,hbw⟩
  ·skip;rw[hp]at hlink;have hv:qS s=0:=by unfold qS;rw[hlink];rfl
   have HC:=V (strconv_ParseInt_10_at64_range s zo hp _ w h2 (Zf ⟨t2,p2,rfl⟩));rw[hlink,hv];clear hlink hv hb hplus h1 h2 hp;go_enter func76,ntmps76;go_wp2_with fail;refine HP.m ?_;rintro e w1 ⟨rfl,hw⟩;obtain rfl:=hw.symm;clear hw;rw[U HB];go_wp2_with fail;refine HC.m ?_;rintro e w1 ⟨N,rfl,_,_,hbw⟩;go_wp2_with fail;go_ret2;exact⟨rfl,hbw⟩
def nth(r:YI)(i:Nat):Int:=r[i]?.getD 0
theorem Gd(r:YI)(h:r.length<=3):(splice [Value.int .i64 0,I J 0,I J 0] 0 (zn r)).toArray=#[I J (nth r 0),I J (nth r 1),I J (nth r 2)]:=by
 match r,h with
 |[],_=>simp[splice,zn,nth]
 |[a],_=>simp[splice,zn,nth]
 |[a,b],_=>simp[splice,zn,nth]
 |[a,b,c],_=>simp[splice,zn,nth]
 |_::_::_::_::_,h=>simp at h
theorem Gw:(prog.info? 2).map (·.size)=O 1:=zr
theorem Ji(g n j:Nat):(⟨g,n,X⟩:Addr).add j=⟨g,n+j,X⟩:=by by_cases h:j=0<;>simp[Addr.add,h]
theorem sq:(prog.info? 171).map (fun i=>i.size)=O 3:=zr
def JP(B:Nat)(w:YW)(b tb:Nat)(vl:Value)(m:MS)(st:Int)(y0 y1 y2:Int)(e:Ending)(w':YW):Prop:=e=Rt (Ag #[I J y0,I J y1,I J y2])/\PmE B w' b tb vl m st/\xu w w'/\Below B w w'
theorem uM{n b c:Nat}{w wc:YW}{cs:YV}{T:TypeId}(h:Below n w wc)(d:Blk w b cs T)(a:b<n)(v:Value):Below n (w.setCell ⟨b,c,X⟩ v) (wc.setCell ⟨b,c,X⟩ v):=by refine⟨h.os,h.tape,h.output,by simpa [World.setCell]using h.size,fun k f=>?_⟩;by_cases e:k=b;subst e;exact((d.z h a).set c v).trans (d.set c v).symm;rw[Below.heap_setCell _ _ _ _ (by simpa using e),Below.heap_setCell _ _ _ _ (by simpa using e)];exact h.block k f
theorem It(B b tb:Nat)(vl:Value)(m:MS)(st:Int)(w:YW)(g k:Nat)(vA vC vE vO:Value)(h:Pm B w b tb vl m st (S (O ⟨g,0,X⟩) m.C.length k) vA vC vE vO)(l r:YI)(he:m.C=l++r)(hr:r.length<=3)(hs:m.C.length<=1000):Calls prog 171 #[A (O ⟨b,0,X⟩),I J r.length] w (JP B w b tb vl {m with C:=l} st (nth r 0) (nth r 1) (nth r 2)):=by
 have hn:m.C.length=l.length+r.length:=by rw[he];simp
 have i:=bV h.oS l.length zo;rw[he,vZ]at i;have hk:(l.length:Int)+r.length<=k:=by have:=(vG h.oS).1;omega
 have s:∀(j:Nat)(v:Value),(zn r)[j]? = O v->w.cell? ((⟨g,l.length,X⟩:Addr).add j)=O v:=by
  intro j v H;have j0:j<r.length:=by have:=(Zb.1 H).1;simpa [zn]using this
  have:=zD h.oS (l.length+j) zo;rw[Ji,this,he,<-H];unfold zn;rw[map_append,Zw zs];simp
 have z:=h.D;unfold yC at z;rw[hn]at z;have hc:=z.u;have hf:=z.H;have d0:=z.lt;have W:g<w.heap.size:=(zC h.oS rfl).1;have D:=V h;have HS:=V s;have HO:=V i;have N:=V (Gd r hr);clear z h i s;have m0:Hid (l.length=l.length):=rfl;generalize F:l.length=n at *;generalize y:r.length=q at *;have h1:(n:Int)<=1000:=zo;have h2:(q:Int)<=3:=zo;have k0:(n:Int)<=k:=zo;have q0:IntKind.i64.wrap ((n:Int)+q-q)=n:=zw;have c0:(n:Int)+q-q=n:=zo;have p0:((n+q:Nat):Int)=(n:Int)+q:=zo;have HZ:Hid ((((w.alloc (C #[I J 0,I J 0,I J 0] 171)).alloc (C #[I J 0,I J 0,I J 0] 171)).drew).heap[w.heap.size+1]? = O (C [Value.int .i64 0,I J 0,I J 0].toArray 171 (0,0))):=by have:=Blk.new (w.alloc (C #[I J 0,I J 0,I J 0] 171)) #[I J 0,I J 0,I J 0] 171;rw[ke]at this;exact this.drew
 have K:Hid (Below (w.heap.size+1) (w.alloc (C #[I J 0,I J 0,I J 0] 171)) (((w.alloc (C #[I J 0,I J 0,I J 0] 171)).alloc (C #[I J 0,I J 0,I J 0] 171)).drew)):=by have:=yr (zB (w.alloc (C #[I J 0,I J 0,I J 0] 171)) (C #[I J 0,I J 0,I J 0] 171));rw[ke]at this;exact this
 have E:Hid (∀(j:Nat)(v:Value),(zn r)[j]? = O v->(((w.alloc (C #[I J 0,I J 0,I J 0] 171)).alloc (C #[I J 0,I J 0,I J 0] 171)).drew).cell? ((⟨g,n,X⟩:Addr).add j)=O v):=by intro j v H;have:=U HS j v H;rw[Ji]at this ⊢;rw[(yr (yG w _ _)).u (by simpa using W)];exact this
 have HL:Hid ((zn r).length=Nat.min q 3):=by show(zn r).length=Nat.min q 3;rw[qW,y];exact(Nat.min_eq_left hr).symm
 have HF:Hid (0+(zn r).length<=[Value.int .i64 0,I J 0,I J 0].length):=by show 0+(zn r).length<=3;rw[qW,y];omega
 have o0:(n:Int)<=(n:Int)+q:=zo;obtain⟨o,l0,M⟩:∃o,(if k=n then O (⟨g,0,X⟩:Addr)else O ⟨g,n,X⟩)=O ⟨g,o,X⟩/\Hid (0<(zn r).length->∃ad,O (⟨g,o,X⟩:Addr)=O ad/\∀(j:Nat)(v:Value),(zn r)[j]? = O v->(((w.alloc (C #[I J 0,I J 0,I J 0] 171)).alloc (C #[I J 0,I J 0,I J 0] 171)).drew).cell? (ad.add j)=O v):=by by_cases e:k=n;refine⟨0,by rw[if_pos e],fun hp=>?_⟩;rw[qW,y]at hp;omega;exact⟨n,by rw[if_neg e],fun _=>⟨_,rfl,U E⟩⟩
 clear HS E;generalize nth r 0=y0 at *;generalize nth r 1=y1 at *;generalize nth r 2=y2 at *;go_enter func171,ntmps171;go_wp2;go_cut []from 14 to 32 (fun wc=>Blk wc (w.heap.size+1) #[I J y0,I J y1,I J y2] 171/\Below (w.heap.size+1) (w.alloc (C #[I J 0,I J 0,I J 0] 171)) wc)
 case first=>go_region_law (refine step_copy_splice rfl (.tmp 14) (.tmp 20) 42 42 rfl 2 underlying42 Gw (O ⟨w.heap.size+1,0,X⟩) (O ⟨g,o,X⟩) 3 3 q (k-n) ze ze (w.heap.size+1) 0 [I J 0,I J 0,I J 0] 171 HZ (zn r) HL (fun hp=>⟨rfl,U M hp⟩) HF (mH _) (w.heap.size+1) (w.alloc (C #[I J 0,I J 0,I J 0] 171)) K (Zc _) ?_;intro w4 T R);all_goals go_wp2;go_meet;have hz:=U T;rw[U N]at hz;exact⟨hz,R⟩
 case rest=>obtain⟨hx,u⟩:=hcut;have d:=(Blk.new w #[I J 0,I J 0,I J 0] 171).z u zo;have x:Below w.heap.size w wc:=(zB w _).trans (u.m zo);have hm:=D.z x;have f:=hm.D;unfold yC at f;rw[hn]at f;have e0:=f.u;have h0:=f.H;have f0:=hx.u;have g0:=d.u;have i0:=d.H;have n0:=hx.lt;have a0:¬b=w.heap.size:=zo;have b0:¬b=w.heap.size+1:=zo;have L:=V x;have Q:=V (d.far (a:=⟨b,9,X⟩) zp (S (O ⟨g,0,X⟩) n k));clear hx u d x hm f hc hf;go_wp2_with fail;have hR:=((Q.set 0 (I J y0)).set 1 (I J y1)).set 2 (I J y2);simp only[Zt,set_cons_succ,set_cons_zero]at hR;refine bodyPost_ret (results_cell_row (P:=prog) rfl _ _ w.heap.size 171 _ (0,0) _ rfl hR underlying171 rfl sq) rfl ?_;obtain⟨k1,k2,k3⟩:=D.grow 0 9 _ (S (O ⟨g,0,X⟩) n k) ⟨2,1,n,zn l⟩ {m with C:=l} (S (O ⟨g,0,X⟩) n k) vA vC vE vO rfl (World.grownBy.refl _ _) HO (Zg rfl) (by simp[yC]) rfl (by simp[xx,F]);have t:=(((uM (c:=9) L D.D D.D.lt (S (O ⟨g,0,X⟩) n k)).setCell (p:=⟨w.heap.size,0,X⟩) (Zc _) (I J y0)).setCell (p:=⟨w.heap.size,1,X⟩) (Zc _) (I J y1)).setCell (p:=⟨w.heap.size,2,X⟩) (Zc _) (I J y2);have G:(w.setCell ⟨b,9,X⟩ (S (O ⟨g,0,X⟩) n k)).heap.size=w.heap.size:=zs;exact⟨rfl,⟨_,_,_,_,_,k1.z (by rw[G];exact t)⟩,k2.trans (xu.aB (by rw[G];exact t)),k3.trans (t.m D.size)⟩
theorem Is(B b z:Nat)(D:Value)(m:MS)(st:Int)(w:YW)(vA vC vE vO:Value)(h:Pm B w b z D m st (S X 0 0) vA vC vE vO):Calls prog 171 #[A (O ⟨b,0,X⟩),I J 0] w (JP B w b z D m st 0 0 0):=by
 have k:=h.D;unfold yC at k;have G:=k.u;have M:=k.H;have F:=k.lt;have j:=V h;clear k h;have E:Hid ((((w.alloc (C #[I J 0,I J 0,I J 0] 171)).alloc (C #[I J 0,I J 0,I J 0] 171)).drew).heap[w.heap.size+1]? = O (C [Value.int .i64 0,I J 0,I J 0].toArray 171 (0,0))):=by have:=Blk.new (w.alloc (C #[I J 0,I J 0,I J 0] 171)) #[I J 0,I J 0,I J 0] 171;rw[ke]at this;exact this.drew
 have n:Hid (Below (w.heap.size+1) (w.alloc (C #[I J 0,I J 0,I J 0] 171)) (((w.alloc (C #[I J 0,I J 0,I J 0] 171)).alloc (C #[I J 0,I J 0,I J 0] 171)).drew)):=by have:=yr (zB (w.alloc (C #[I J 0,I J 0,I J 0] 171)) (C #[I J 0,I J 0,I J 0] 171));rw[ke]at this;exact this
 go_enter func171,ntmps171;go_wp2;go_cut []from 14 to 32 (fun wc=>Blk wc (w.heap.size+1) #[I J 0,I J 0,I J 0] 171/\Below (w.heap.size+1) (w.alloc (C #[I J 0,I J 0,I J 0] 171)) wc)
 case first=>go_region_law (refine step_copy_splice rfl (.tmp 14) (.tmp 20) 42 42 rfl 2 underlying42 Gw (O ⟨w.heap.size+1,0,X⟩) X 3 3 0 0 ze ze (w.heap.size+1) 0 [I J 0,I J 0,I J 0] 171 E [] rfl (fun T=>absurd T zs) zs zs (w.heap.size+1) (w.alloc (C #[I J 0,I J 0,I J 0] 171)) n (Zc _) ?_;intro w4 s r);all_goals go_wp2;go_meet;have W:=U s;exact⟨W,r⟩
 case rest=>obtain⟨t,g⟩:=hcut;have d:=(Blk.new w #[I J 0,I J 0,I J 0] 171).z g zo;have i:Below w.heap.size w wc:=(zB w _).trans (g.m zo);have v:=j.z i;have e:=v.D;unfold yC at e;have H:=e.u;have N:=e.H;have K:=t.u;have L:=d.u;have Q:=d.H;have R:=t.lt;have x:¬b=w.heap.size:=zo;have y:¬b=w.heap.size+1:=zo;have o:=V i;have q:=V (d.far (a:=⟨b,9,X⟩) zp (S X 0 0));clear t g d i v e G M;go_wp2_with fail;have u:=((q.set 0 (I J 0)).set 1 (I J 0)).set 2 (I J 0);simp only[Zt,set_cons_succ,set_cons_zero]at u;refine bodyPost_ret (results_cell_row (P:=prog) rfl _ _ w.heap.size 171 _ (0,0) _ rfl u underlying171 rfl sq) rfl ?_;obtain⟨k1,k2,k3⟩:=j.field 9 (S X 0 0) m st (by simp[yC]) rfl;have f:=(((uM (c:=9) o j.D j.D.lt (S X 0 0)).setCell (p:=⟨w.heap.size,0,X⟩) (Zc _) (I J 0)).setCell (p:=⟨w.heap.size,1,X⟩) (Zc _) (I J 0)).setCell (p:=⟨w.heap.size,2,X⟩) (Zc _) (I J 0);have l:(w.setCell ⟨b,9,X⟩ (S X 0 0)).heap.size=w.heap.size:=zs;exact⟨rfl,⟨_,_,_,_,_,k1.z (by rw[l];exact f)⟩,k2.trans (xu.aB (by rw[l];exact f)),k3.trans (f.m j.size)⟩
theorem Lq(B b a:Nat)(c:Value)(m:MS)(st:Int)(w:YW)(h:PmE B w b a c m st)(l r:YI)(he:m.C=l++r)(p:r.length<=3)(q:m.C.length<=1000):Calls prog 171 #[A (O ⟨b,0,X⟩),I J r.length] w (JP B w b a c {m with C:=l} st (nth r 0) (nth r 1) (nth r 2)):=by
 obtain⟨s,f,i,j,n,h⟩:=h;rcases h.oS.2 with⟨e,o⟩|⟨g,k,cur,e,_⟩;subst e;have d:m.C=[]:=eq_nil_of_length_eq_zero o;rw[d]at he;obtain⟨rfl,rfl⟩:=append_eq_nil_iff.1 he.symm;have em:{m with C:=[]}=m:=by cases m;simp only at d;subst d;rfl
 rw[em];exact Is B b a c m st w f i j n h;subst e;exact It B b a c m st w g k f i j n h l r he p q
theorem LI{P:Program}{g:Array Oper}{o:Oper}{a:Act}{w:YW}{K:Act->World->Prop}{Q:Exit->Act->World->Prop}{E:Prop}(j:o.guard=X)(t:Operand)(args:Array Operand)(k:Array TypeId)(l:o.op=.call {callee:=.value t,args:=args,argTypes:=k})(F:FuncId)(cap:YV)(r:a.eval t=.func (.func F) #[] cap)(b:YV)(c:args.map a.eval++cap=b)(f:(callFunc F b).run P w=.ok (.enter F b) w){R:Ending->World->Prop}(d:Tmp)(n:o.dst=O d)(m:Calls P F b w R)(h:∀e w',R e w'->∃v,e=Rt v/\K (a.put (O d) v) w'):if Region.wanted o (yielded g a.tmps)=Y then Oper.wp P o a w K Q else E:=by
 rw[<-n]at h;have s:Region.wanted o (yielded g a.tmps)=Y:=by simp[Region.wanted,j]
 rw[if_pos s];subst c;have he:execOp a.eval o=callFunc F (args.map a.eval++cap):=by
  cases o with
  |mk dst op type pos i guard=>simp only at l;subst l;simp[execOp,resolve,Deferred.ofValue,r,invoke]
 unfold Oper.wp;rw[he,f];show Calls P F (args.map a.eval++cap) w _;refine m.m ?_;intro e w' q;obtain⟨v,rfl,p⟩:=h e w' q;exact p
theorem SR(B b i:Nat)(n:Value)(m:MS)(st:Int)(w:YW)(h:PmE B w b i n m st)(op:Nat)(arg:Int)(E:op<60)(o:i<w.heap.size)(d a g c:Int)(f:Value)(s:ev w i (op*5) d a g c f)(G:(0<=d/\d<=10)/\(0<=a/\a<=10)/\(0<=g/\g<=10)/\(0<=c/\c<=10))(F:m.C.length<=1000/\m.G.length<=1000)(D:du m d a g c≠0):Calls prog 124 #[A (O ⟨b,0,X⟩),Ag #[I J op,I J arg]] w (ye B w b i n st m (du m d a g c)):=by have k:=yr (zB w (C #[I J op,I J arg] 65));have q:=V (tB B b i (op*5) n m st _ (h.z k) d a g c f (s.z k o) G F);obtain⟨N,H,K,L,M,l⟩:=h;have z:=l.D.u;unfold yC at z;have y:=l.D.lt;have x:Hid (PmE B w b i n m st):=⟨_,_,_,_,_,l⟩;have p:=V k;have u:(op:Int)<60:=zo;have t:(0:Int)<=op:=zo;clear l k s;generalize du m d a g c=r at *;go_enter func124,ntmps124;go_wp2;go_region;go_wp2_with fail;refine q.m ?_;rintro e P ⟨rfl,j⟩;have v:=V j;clear j q;go_wp2;go_ret;exact ye.no (p.trans (v.m p.size)) x
def pF(B:Nat)(w:YW)(b tb:Nat)(vl:Value)(st:Int)(m':MS)(er:Int)(r:YI)(e:Ending)(w':YW):Prop:=if er=0 then ye B w b tb vl st m' 0 e w' else ye B w b tb vl st {m' with C:=m'.C++r} er e w'
theorem Lb (w:YW) (q:Nat) (r:YI) (hr:r.length≤3) (h:Blk w q #[I J (nth r 0),I J (nth r 1),I J (nth r 2)] 171):wk w q r:=by
 intro j u hj;rw[Eb,h.u];match r,hr with
 |[],_=>simp[zn]at hj
 |[a], _=>
  match j with
  |0=>simpa [zn,nth] using hj
  |j+1=>simp[zn]at hj
 |[a, b], _=>
  match j with
  |0=>simpa [zn,nth] using hj
  |1=>simpa [zn,nth] using hj
  |j+2=>simp[zn]at hj
 |[a, b, c], _=>
  match j with
  |0=>simpa [zn,nth] using hj
  |1=>simpa [zn,nth] using hj
  |2=>simpa [zn,nth] using hj
  |j+3=>simp[zn]at hj
 |_ :: _ :: _ :: _ :: _,h=>simp at h
structure mW(B:Nat)(w:YW)(b tb:Nat)(vl:Value)(st:Int)(m':MS)(op:Nat)(arg:Int)(f:Value)(q:Nat)(y0 y1 y2:Int)(w':YW):Prop where
 pm:PmE B w' b tb vl m' st
 keep:xu w w'
 z:Below B w w'
 box:Blk w' q #[I J y0,I J y1,I J y2] 171
 ins:Blk w' w.heap.size #[I J op,I J arg] 65
 u:w'.cell? ⟨tb,op*5+4,X⟩=O f
theorem mW.s{B:Nat}{w:YW}{b a:Nat}{i:Value}{st:Int}{g:MS}{op:Nat}{arg:Int}{f:Value}{q:Nat}{c d e:Int}{w':YW}(h:mW B w b a i st g op arg f q c d e w'):w'.cell? ⟨a,op*5+4,X⟩=O f/\w'.cell? ⟨w.heap.size,1,X⟩=O (I J arg)/\w'.cell? ⟨q,0,X⟩=O (I J c)/\w'.cell? ⟨q,1,X⟩=O (I J d)/\w'.cell? ⟨q,2,X⟩=O (I J e):=⟨h.u,h.ins.u 1,h.box.u 0,h.box.u 1,h.box.u 2⟩
theorem CB(B b g:Nat)(t:Value)(m:MS)(st:Int)(w:YW)(h:PmE B w b g t m st)(op:Nat)(arg:Int)(J0:op<60)(L:g<B)(g1 t2 g2:Int)(F:FuncId)(cap:YV)(l r:YI)(hE:ev w g (op*5) r.length g1 t2 g2 (.func (.func F) #[] cap))(ht:(0≤g1∧g1≤10)∧(0≤t2∧t2≤10)∧(0≤g2∧g2≤10))(hs:m.C.length≤1000∧m.G.length≤1000)(g0:du m r.length g1 t2 g2=0)(o0:m.C=l++r)(hr:r.length≤3){fn:Func}(j0:prog.funcs[F]? = O fn)(h0:(fn.name == "runtime.NumGoroutine")=Z)(i0:fn.body.isNone=Z)(M:MS)(er:Int)(B0:M.C.length≤2000)(n:∀W:YW,PmE B W b g t {m with C:=l} st→Below B w W→Calls prog F (#[A (O ⟨b,0,X⟩),I J arg,Ag #[I J (nth r 0),I J (nth r 1),I J (nth r 2)]]++cap) W (ye B W b g t st M er)):Calls prog 124 #[A (O ⟨b,0,X⟩),Ag #[I J op,I J arg]] w (pF B w b g t st M er r):=by
 have hB:=h.size;have hb:=yr (zB w (C #[I J op,I J arg] 65));have z:=(Blk.new w #[I J op,I J arg] 65).drew;have HC:=V (tB B b g (op*5) t m st _ (h.z hb) r.length g1 t2 g2 _ (hE.z hb zo) ⟨zo,ht⟩ hs);rw[g0]at HC;have x:Hid (∀(args:YV)(W:YW),(callFunc F args).run prog W=.ok (.enter F args) W):=ik j0 h0 i0;have HD:=V n;have HH:=V h;obtain⟨vS,vA,vC,vE,vO,hp⟩:=h;have hc:=hp.D.u;unfold yC at hc;have H0:=hp.D.lt;have HB:=V hb;have HN:=V z;have HE:=V hE;have r0:=V o0;have D0:(op:Int)<60:=zo;have C0:(0:Int)<=op:=zo;clear hp hb hE g0 j0 h0 i0 n z o0;have L0:(r.length:Int)<=3:=zo;generalize n0:r.length=rn at *;have u:=V n0;clear n0;go_enter func124,ntmps124;go_wp2;go_region;go_wp2_with fail;refine HC.m ?_;rintro e w1 ⟨rfl,D⟩;have d:Below w.heap.size w w1:=HB.trans (D.m HB.size);have u0:=HE.z d zo;have y:=HN.z D HN.lt;have HT:=V (Lq B b g t m st w1 (HH.z d) l r r0 (by rw[U u];omega) hs.1);rw[U u]at HT;obtain⟨e0,e1,e2,e3,e4,s0⟩:=u0;have v:=V d;have P:=V y;clear D d y HC hc;go_wp2_with fail;refine HT.m ?_;rintro e c ⟨rfl,K,H,c0⟩;have k:Below B w c:=(v.m hB).trans c0;have v0:=HE.z k L;have f:=H _ _ _ P (Zf rfl);have x0:=f.u;have A0:=f.lt;obtain⟨f0,f1,f2,f3,f4,t0⟩:=v0;have m0:=Blk.new c #[I J (nth r 0),I J (nth r 1),I J (nth r 2)] 171;have j:=zB c (C #[I J (nth r 0),I J (nth r 1),I J (nth r 2)] 171);have l0:=K.z j;have k0:xu w (c.alloc (C #[I J (nth r 0),I J (nth r 1),I J (nth r 2)] 171)):=(xu.aB v).trans (H.trans (xu.aB j));have d0:Below B w (c.alloc (C #[I J (nth r 0),I J (nth r 1),I J (nth r 2)] 171)):=k.trans (j.m K.size);have a0:=V (U x (#[A (O ⟨b,0,X⟩),I J arg,Ag #[I J (nth r 0),I J (nth r 1),I J (nth r 2)]]++cap) (c.alloc (C #[I J (nth r 0),I J (nth r 1),I J (nth r 2)] 171)).drew);have G:Below c.heap.size c (c.alloc (C #[I J (nth r 0),I J (nth r 1),I J (nth r 2)] 171)).drew:=yr j;have a:mW B w b g t st {m with C:=l} op arg (.func (.func F) #[] cap) c.heap.size (nth r 0) (nth r 1) (nth r 2) (c.alloc (C #[I J (nth r 0),I J (nth r 1),I J (nth r 2)] 171)).drew:=⟨l0.z (yr (Ze _ _)),k0.trans (xu.aB (yr (Ze _ _))),yr d0,m0.drew,f.z G A0,by rw[G.u (by simpa using t0)];exact f4⟩;have Q:Hid (Calls prog F (#[A (O ⟨b,0,X⟩),I J arg,Ag #[I J (nth r 0),I J (nth r 1),I J (nth r 2)]]++cap) (c.alloc (C #[I J (nth r 0),I J (nth r 1),I J (nth r 2)] 171)).drew (fun e w'=>e=Rt (I J er)/\mW B w b g t st M op arg (.func (.func F) #[] cap) c.heap.size (nth r 0) (nth r 1) (nth r 2) w')):=by refine(U HD _ a.pm a.z).m ?_;rintro e w' ⟨he,k1,k2,k3⟩;exact⟨he,k1,a.keep.trans k2,a.z.trans k3,k2 _ _ _ a.box (Zg rfl),k2 _ _ _ a.ins (Zf rfl),by rw[k3.u (by simpa using L)];exact a.u⟩
 have b0:=V a.s;clear K H c0 k f m0 j l0 k0 d0 G a HT e0 e1 e2 e3 e4 s0 HD x P;generalize o:nth r 0=y0 at *;generalize p:nth r 1=y1 at *;generalize q:nth r 2=y2 at *;have HY:=V (And.intro o (And.intro p q));clear o p q;go_wp2;go_cut [8]from 30 to 50 (fun s8 wc=>s8=I J er/\mW B w b g t st M op arg (.func (.func F) #[] cap) c.heap.size y0 y1 y2 wc)
 case first=>go_region_held_law (fun w'=>w'.cell? ⟨g,op*5+4,X⟩=O (.func (.func F) #[] cap)/\w'.cell? ⟨w.heap.size,1,X⟩=O (I J arg)/\w'.cell? ⟨c.heap.size,0,X⟩=O (I J y0)/\w'.cell? ⟨c.heap.size,1,X⟩=O (I J y1)/\w'.cell? ⟨c.heap.size,2,X⟩=O (I J y2)) (first|exact U q0|exact U b0) ((refine LI rfl (.tmp 33) #[.tmp 34,.tmp 36,.tmp 37] #[118,2,171] rfl F cap zf (#[A (O ⟨b,0,X⟩),I J arg,Ag #[I J y0,I J y1,I J y2]]++cap) zf (by exact U a0) (R:=fun e w'=>e=Rt (I J er)/\mW B w b g t st M op arg (.func (.func F) #[] cap) c.heap.size y0 y1 y2 w') 38 rfl (by exact U Q) ?_;rintro e w4 ⟨rfl,E⟩;have q0:=V E.s;have p0:=V E;clear E;refine⟨_,rfl,?_⟩));all_goals go_wp2;go_meet;refine⟨?_,U p0⟩;first|rfl|(simp[Act.eval,Act.put];done)|(simp;done)
 case rest=>
  obtain⟨rfl,N⟩:=hcut;clear b0 a0 Q f0 f1 f2 f3 f4 x0;have w0:=HE.z N.z L;obtain⟨f0,f1,f2,f3,f4,G0⟩:=w0;have K0:=N.box.lt;obtain⟨o,p,q⟩:=U HY;have T:=V (wH B b g t M st wc N.pm c.heap.size rn 3 r u (Lb _ _ _ (by rw[U u];exact hr) (by rw[o,p,q];exact N.box)) ⟨B0,zo⟩);have i:=V N;clear N o p q;have E0:(0:Int)<=rn:=zo;have F0:rn<=3:=hr;by_cases he:er=0
  ·subst he;go_wp2;go_ret;unfold pF;rw[if_pos rfl];exact⟨rfl,i.pm,i.keep,i.z⟩
  ·have I0:(er==0)=Z:=by simpa using he
   go_wp2_with fail;refine T.m ?_;rintro e w5 ⟨rfl,h5⟩;have H5:=V h5;clear h5 T;go_wp2;go_ret;obtain⟨k1,k2,k3⟩:=U H5;unfold pF;rw[if_neg he];exact⟨rfl,k1,i.keep.trans k2,i.z.trans k3⟩
def TG:List (Nat×Nat×Nat×Nat):=[(0,1,0,0),(0,0,0,0),(1,0,0,0),(0,0,0,0),(0,0,0,0),(0,0,0,0),(2,0,0,2),(0,0,2,2),(0,1,1,1),
 (2,1,0,0),(2,1,0,0),(2,1,0,0),(2,1,0,0),(2,1,0,0),(2,1,0,0),(2,1,0,0),(2,1,0,0),
 (1,1,0,0),(1,1,0,0),(2,1,0,0),(2,1,0,0),
 (1,2,0,0),(1,0,0,0),(2,2,0,0),(2,3,0,0),(3,3,0,0),
 (1,0,0,1),(0,1,1,0),(0,1,1,1),(2,0,0,0),(1,1,0,0),(1,0,0,0),(1,0,0,0)]
def yq(op:Nat):Nat×Nat×Nat×Nat:=TG.getD op (0,0,0,0)
theorem Cc(op:Nat)(h:op<33):zY op=(((yq op).1:Int),((yq op).2.1:Int)-(yq op).1)/\yt op=(((yq op).2.2.1:Int),((yq op).2.2.2:Int)-(yq op).2.2.1):=by have:∀k:Fin 33,zY (k.val:Int)=(((yq k.val).1:Int),((yq k.val).2.1:Int)-(yq k.val).1)/\yt (k.val:Int)=(((yq k.val).2.2.1:Int),((yq k.val).2.2.2:Int)-(yq k.val).2.2.1):=zd;exact this ⟨op,h⟩
theorem Ce(op:Nat)(h:op<33):(yq op).1<=3/\(yq op).2.1<=3/\(yq op).2.2.1<=2/\(yq op).2.2.2<=2:=by have:∀k:Fin 33,(yq k.val).1<=3/\(yq k.val).2.1<=3/\(yq k.val).2.2.1<=2/\(yq k.val).2.2.2<=2:=zd;exact this ⟨op,h⟩
theorem mF(m:MS)(f:MOk m)(op:Nat)(h:op<33):(du m (yq op).1 (yq op).2.1 (yq op).2.2.1 (yq op).2.2.2≠0->zJ m op=du m (yq op).1 (yq op).2.1 (yq op).2.2.1 (yq op).2.2.2)/\(du m (yq op).1 (yq op).2.1 (yq op).2.2.1 (yq op).2.2.2=0->((yq op).1:Int)<=m.C.length/\((yq op).2.2.1:Int)<=m.G.length/\(m.C.length:Int)-(yq op).1+(yq op).2.1<=m.ls/\(m.G.length:Int)-(yq op).2.2.1+(yq op).2.2.2<=m.la):=by obtain⟨g,i⟩:=Cc op h;have l:=f.C;have n:=f.G;unfold du zJ;rw[g,i];generalize (yq op).1=a;generalize (yq op).2.1=c;generalize (yq op).2.2.1=b;generalize (yq op).2.2.2=d;simp only;by_cases c1:(m.C.length:Int)<a;rw[if_pos c1,if_pos c1];exact⟨fun _=>rfl,fun e=>zo⟩;rw[if_neg c1,if_neg c1];by_cases c2:m.ls<(m.C.length:Int)-a+c;have p2:0<(c:Int)-a/\m.ls<(m.C.length:Int)+((c:Int)-a):=zo;rw[if_pos c2,if_pos p2];exact⟨fun _=>rfl,fun e=>zo⟩;have j:¬(0<(c:Int)-a/\m.ls<(m.C.length:Int)+((c:Int)-a)):=zo;rw[if_neg c2,if_neg j];by_cases c3:(m.G.length:Int)<b;rw[if_pos c3,if_pos c3];exact⟨fun _=>rfl,fun e=>zo⟩;rw[if_neg c3,if_neg c3];by_cases c4:m.la<(m.G.length:Int)-b+d;have p4:0<(d:Int)-b/\m.la<(m.G.length:Int)+((d:Int)-b):=zo;rw[if_pos c4,if_pos p4];exact⟨fun _=>rfl,fun e=>zo⟩;have k:¬(0<(d:Int)-b/\m.la<(m.G.length:Int)+((d:Int)-b)):=zo;rw[if_neg c4,if_neg k];exact⟨fun e=>absurd rfl e,fun _=>⟨zo,zo,zo,zo⟩⟩
def xT(B:Nat)(w:YW)(b tb:Nat)(op:Nat)(F:FuncId)(cap:YV):Prop :=
  ∀(W:YW)(vl:Value)(m:MS)(st arg:Int)(l r:YI),Below B w W->PmE B W b tb vl {m with C:=l} st->MOk m->inI arg->m.C=l++r->r.length=(yq op).1 ->
    du m (yq op).1 (yq op).2.1 (yq op).2.2.1 (yq op).2.2.2=0 ->
    Calls prog F (#[A (O ⟨b,0,X⟩),I J arg,Ag #[I J (nth r 0),I J (nth r 1),I J (nth r 2)]]++cap) W
      (ye B W b tb vl st (if zJ m op=0 then doS m op arg else {m with C:=l}) (zJ m op))
def AW(B:Nat)(w:YW)(b tb:Nat)(op:Nat):Prop :=
  ∃(F:FuncId)(cap:YV)(fn:Func),ev w tb (op*5) (yq op).1 (yq op).2.1 (yq op).2.2.1 (yq op).2.2.2 (.func (.func F) #[] cap) /\
    prog.funcs[F]? = O fn∧(fn.name == "runtime.NumGoroutine")=Z∧fn.body.isNone=Z∧xT B w b tb op F cap
theorem Jn(B b j:Nat)(t:Value)(m:MS)(st:Int)(w y:YW)(x:Below B y w)(h:PmE B w b j t m st)(o:MOk m)(op:Nat)(arg:Int)(p:op<33)(k:inI arg)(s:j<B)(G:AW B y b j op)(n:(doS m op arg).C.length<=2000):Calls prog 124 #[A (O ⟨b,0,X⟩),Ag #[I J op,I J arg]] w (ye B w b j t st (if zJ m op=0 then doS m op arg else m) (zJ m op)):=by
 obtain⟨F,cap,fn,u,z,D,E,q⟩:=G;have f:=u.z x s;obtain⟨c1,c2⟩:=mF m o op p;obtain⟨M,N,P,Q⟩:=Ce op p;have hl:=o.lims;have hs:=o.C;have ha:=o.G;have hB:=h.size;by_cases i:du m (yq op).1 (yq op).2.1 (yq op).2.2.1 (yq op).2.2.2=0;obtain⟨R,T,d3,d4⟩:=c2 i;have a:m.C=m.C.take (m.C.length-(yq op).1)++m.C.drop (m.C.length-(yq op).1):=(take_append_drop _ _).symm;have d:(m.C.drop (m.C.length-(yq op).1)).length=(yq op).1:=by rw[length_drop];omega
 generalize m.C.take (m.C.length-(yq op).1)=l at a;generalize m.C.drop (m.C.length-(yq op).1)=r at a d;have L:m.C.length=l.length+r.length:=by rw[a];simp
 have:=CB B b j t m st w h op arg zo s (yq op).2.1 (yq op).2.2.1 (yq op).2.2.2 F cap l r (by rw[d];exact f) zo zo (by rw[d];exact i) a zo z D E (if zJ m op=0 then doS m op arg else {m with C:=l}) (zJ m op)
   (by split;exact n;simp only;omega)
   (fun W H K=>q W t m st arg l r (x.trans K) H o k a d i)
 refine this.m ?_;intro e w' g;unfold pF at g;by_cases c:zJ m op=0;rw[if_pos c,if_pos c]at g;rw[if_pos c,c];exact g;rw[if_neg c,if_neg c]at g;rw[if_neg c];have em:{m with C:=l++r}=m:=by rw[<-a]
 simp only at g;rw[em]at g;exact g;have v:=c1 i;have c:zJ m op≠0:=by rw[v];exact i
 rw[if_neg c,v];exact SR B b j t m st w h op arg zo zo _ _ _ _ _ f zo zo i
def okL(l:YI):Prop:=∀x∈l,inI x
theorem BD:okL []:=by intro x h;simp at h
theorem BB{a b:YI}(c:okL a)(d:okL b):okL (a++b):=by intro x h;rcases Zo.1 h with h|h;exact c x h;exact d x h
theorem uh{a:Int}{b:YI}(c:inI a)(d:okL b):okL (a::b):=by intro x h;rcases mem_cons.1 h with rfl|h;exact c;exact d x h
theorem jZ{a:YI}(b:okL a):okL a.dropLast:=fun x h=>b x (pP h)
theorem qy:inI 0:=by unfold inI;omega
theorem qa{a:YI}(b:okL a):inI (zK a):=by by_cases h:0<a.length;exact b _ (Gm a h);have:a=[]:=length_eq_zero_iff.1 zo;subst this;exact qy
theorem BE{a:YI}{k:Nat}{x:Int}(b:okL a)(c:inI x):okL (a.set k x):=by intro y h;rcases mem_or_eq_of_mem_set h with h|rfl;exact b y h;exact c
theorem BC{a:YI}{k:Nat}(b:okL a):inI (a[k]?.getD 0):=by
 cases h:a[k]? with
 |none=>exact qy
 |some x=>exact b x (Zd h)
theorem xW{m:MS}(g:MOk m)(s a c e:YI)(o:YB)(pc:Int)(f:Bool)(h:(o.size:Int)<=m.lo)(i:(s.length:Int)<=m.ls:=by(first|assumption|((try simp only[Zi])<;>(try simp only[length_cons])<;>(try simp only[length_nil])<;>(try simp only[length_dropLast])<;>(try simp only[length_set])<;>omega)))(b:(a.length:Int)<=m.la:=by(first|assumption|((try simp only[Zi])<;>(try simp only[length_cons])<;>(try simp only[length_nil])<;>(try simp only[length_dropLast])<;>(try simp only[length_set])<;>omega)))(d:(c.length:Int)<=m.lc:=by(first|assumption|((try simp only[Zi])<;>(try simp only[length_cons])<;>(try simp only[length_nil])<;>(try simp only[length_dropLast])<;>(try simp only[length_set])<;>omega)))(he:e.length<=1000:=by(first|assumption|((try simp only[Zi])<;>(try simp only[length_cons])<;>(try simp only[length_nil])<;>(try simp only[length_dropLast])<;>(try simp only[length_set])<;>omega)))(is:okL s:=by(repeat' (first|assumption|exact BD|with_reducible apply BB|with_reducible apply jZ|with_reducible apply uh|with_reducible apply qa|with_reducible apply wO|with_reducible apply BE|with_reducible apply BC)))(j:okL a:=by(repeat' (first|assumption|exact BD|with_reducible apply BB|with_reducible apply jZ|with_reducible apply uh|with_reducible apply qa|with_reducible apply wO|with_reducible apply BE|with_reducible apply BC)))(k:okL e:=by(repeat' (first|assumption|exact BD|with_reducible apply BB|with_reducible apply jZ|with_reducible apply uh|with_reducible apply qa|with_reducible apply wO|with_reducible apply BE|with_reducible apply BC))):MOk {m with C:=s,G:=a,aC:=c,cells:=e,out:=o,pc:=pc,aE:=f}:=⟨g.lims,i,b,d,he,h,is,j,k⟩
theorem MOk.pc{m:MS}(a:MOk m)(k:Int):MOk {m with pc:=k}:=⟨a.lims,a.C,a.G,a.aC,a.cells,a.out,a.ints⟩
theorem iK(m:MS)(a:MOk m)(op arg:Int)(l:0<=op/\op<=32)(p:inI arg)(q:zJ m op=0):MOk (doS m op arg):=by
 obtain⟨b,g,c,r,t,E,u,n,v,j⟩:=lE m op q;clear q;rw[JN]at u n j;have z:=a.C;have w:=a.G;have x:=a.aC;have he:=a.cells;have y:=a.out;have is:okL m.C:=a.ints.1;have B:okL m.G:=a.ints.2.1;have D:okL m.cells:=a.ints.2.2;have h:op=0\/op=1\/op=2\/op=3\/op=4\/op=5\/op=6\/op=7\/op=8\/op=9\/op=10\/op=11\/op=12\/op=13\/op=14\/op=15\/op=16\/op=17\/op=18\/op=19\/op=20\/op=21\/op=22\/op=23\/op=24\/op=25\/op=26\/op=27\/op=28\/op=29\/op=30\/op=31\/op=32:=zo;clear l;(repeat' rcases h with rfl|h);have e:(0:Int)<=m.C.length:=b;have d:(0:Int)<=m.G.length:=c;have i:(m.C.length:Int)+1<=m.ls:=g zd;exact xW a _ _ _ _ _ _ _ za;have e:(0:Int)<=m.C.length:=b;have d:(0:Int)<=m.G.length:=c;exact xW a _ _ _ _ _ _ _ za;have e:(1:Int)<=m.C.length:=b;have d:(0:Int)<=m.G.length:=c;by_cases k:zK m.C=0;rw[show doS m 2 arg={m with C:=m.C.dropLast,pc:=arg}from if_pos k];exact xW a _ _ _ _ _ _ _ za;rw[show doS m 2 arg={m with C:=m.C.dropLast}from if_neg k];exact xW a _ _ _ _ _ _ _ za;have e:(0:Int)<=m.C.length:=b;have d:(0:Int)<=m.G.length:=c;have c1:=t rfl;exact xW a _ _ _ _ _ _ _ za;have e:(0:Int)<=m.C.length:=b;have d:(0:Int)<=m.G.length:=c;exact xW a _ _ _ _ _ _ _ za;have e:(0:Int)<=m.C.length:=b;have d:(0:Int)<=m.G.length:=c;exact xW a _ _ _ _ _ _ _ za;have e:(2:Int)<=m.C.length:=b;have d:(0:Int)<=m.G.length:=c;have s:(m.G.length:Int)+2<=m.la:=r zd;exact xW a _ _ _ _ _ _ _ za;have e:(0:Int)<=m.C.length:=b;have d:(2:Int)<=m.G.length:=c;by_cases k:wrap64 (zK m.G+1)=zK m.G.dropLast;rw[show doS m 7 arg={m with G:=m.G.dropLast.dropLast}from if_pos k];exact xW a _ _ _ _ _ _ _ za;rw[show doS m 7 arg={m with G:=m.G.dropLast.dropLast++[zK m.G.dropLast,wrap64 (zK m.G+1)],pc:=arg}from if_neg k];exact xW a _ _ _ _ _ _ _ za;have e:(0:Int)<=m.C.length:=b;have d:(1:Int)<=m.G.length:=c;have i:(m.C.length:Int)+1<=m.ls:=g zd;exact xW a _ _ _ _ _ _ _ za;have e:(2:Int)<=m.C.length:=b;have d:(0:Int)<=m.G.length:=c;have f:inI (yQ 9 (zK m.C.dropLast) (zK m.C)):=cV 9 _ _ zo zo (qa (jZ is)) (qa is);exact xW a _ _ _ _ _ _ _ za;have e:(2:Int)<=m.C.length:=b;have d:(0:Int)<=m.G.length:=c;have f:inI (yQ 10 (zK m.C.dropLast) (zK m.C)):=cV 10 _ _ zo zo (qa (jZ is)) (qa is);exact xW a _ _ _ _ _ _ _ za;have e:(2:Int)<=m.C.length:=b;have d:(0:Int)<=m.G.length:=c;have f:inI (yQ 11 (zK m.C.dropLast) (zK m.C)):=cV 11 _ _ zo zo (qa (jZ is)) (qa is);exact xW a _ _ _ _ _ _ _ za;have e:(2:Int)<=m.C.length:=b;have d:(0:Int)<=m.G.length:=c;have f:inI (yQ 12 (zK m.C.dropLast) (zK m.C)):=cV 12 _ _ (by exact n) zo (qa (jZ is)) (qa is);exact xW a _ _ _ _ _ _ _ za;have e:(2:Int)<=m.C.length:=b;have d:(0:Int)<=m.G.length:=c;have f:inI (yQ 13 (zK m.C.dropLast) (zK m.C)):=cV 13 _ _ (by exact n) zo (qa (jZ is)) (qa is);exact xW a _ _ _ _ _ _ _ za;have e:(2:Int)<=m.C.length:=b;have d:(0:Int)<=m.G.length:=c;have f:inI (yQ 14 (zK m.C.dropLast) (zK m.C)):=cV 14 _ _ zo zo (qa (jZ is)) (qa is);exact xW a _ _ _ _ _ _ _ za;have e:(2:Int)<=m.C.length:=b;have d:(0:Int)<=m.G.length:=c;have f:inI (yQ 15 (zK m.C.dropLast) (zK m.C)):=cV 15 _ _ zo zo (qa (jZ is)) (qa is);exact xW a _ _ _ _ _ _ _ za;have e:(2:Int)<=m.C.length:=b;have d:(0:Int)<=m.G.length:=c;have f:inI (yQ 16 (zK m.C.dropLast) (zK m.C)):=cV 16 _ _ zo zo (qa (jZ is)) (qa is);exact xW a _ _ _ _ _ _ _ za;have e:(1:Int)<=m.C.length:=b;have d:(0:Int)<=m.G.length:=c;have f:inI (-1-zK m.C):=by have:=qa is;unfold inI at *;omega
 exact xW a _ _ _ _ _ _ _ za;have e:(1:Int)<=m.C.length:=b;have d:(0:Int)<=m.G.length:=c;exact xW a _ _ _ _ _ _ _ za;have e:(2:Int)<=m.C.length:=b;have d:(0:Int)<=m.G.length:=c;have f:inI (yQ 19 (zK m.C.dropLast) (zK m.C)):=cV 19 _ _ zo zo (qa (jZ is)) (qa is);exact xW a _ _ _ _ _ _ _ za;have e:(2:Int)<=m.C.length:=b;have d:(0:Int)<=m.G.length:=c;have f:inI (yQ 20 (zK m.C.dropLast) (zK m.C)):=cV 20 _ _ zo zo (qa (jZ is)) (qa is);exact xW a _ _ _ _ _ _ _ za;have e:(1:Int)<=m.C.length:=b;have d:(0:Int)<=m.G.length:=c;have i:(m.C.length:Int)+1<=m.ls:=g zd;exact xW a _ _ _ _ _ _ _ za;have e:(1:Int)<=m.C.length:=b;have d:(0:Int)<=m.G.length:=c;exact xW a _ _ _ _ _ _ _ za;have e:(2:Int)<=m.C.length:=b;have d:(0:Int)<=m.G.length:=c;exact xW a _ _ _ _ _ _ _ za;have e:(2:Int)<=m.C.length:=b;have d:(0:Int)<=m.G.length:=c;have i:(m.C.length:Int)+1<=m.ls:=g zd;exact xW a _ _ _ _ _ _ _ za;have e:(3:Int)<=m.C.length:=b;have d:(0:Int)<=m.G.length:=c;exact xW a _ _ _ _ _ _ _ za;have e:(1:Int)<=m.C.length:=b;have d:(0:Int)<=m.G.length:=c;have s:(m.G.length:Int)+1<=m.la:=r zd;exact xW a _ _ _ _ _ _ _ za;have e:(0:Int)<=m.C.length:=b;have d:(1:Int)<=m.G.length:=c;have i:(m.C.length:Int)+1<=m.ls:=g zd;exact xW a _ _ _ _ _ _ _ za;have e:(0:Int)<=m.C.length:=b;have d:(1:Int)<=m.G.length:=c;have i:(m.C.length:Int)+1<=m.ls:=g zd;exact xW a _ _ _ _ _ _ _ za;have e:(2:Int)<=m.C.length:=b;have d:(0:Int)<=m.G.length:=c;exact xW a _ _ _ _ _ _ _ za;have e:(1:Int)<=m.C.length:=b;have d:(0:Int)<=m.G.length:=c;exact xW a _ _ _ _ _ _ _ za;have e:(1:Int)<=m.C.length:=b;have d:(0:Int)<=m.G.length:=c;exact xW a _ _ _ _ _ _ _ (by(simp only[ByteArray.size_append,oN];have:=v rfl;omega));have e:(1:Int)<=m.C.length:=b;have d:(0:Int)<=m.G.length:=c;exact xW a _ _ _ _ _ _ _ (by(rw[ByteArray.append_assoc,ByteArray.size_append];have o:=lU (zK m.C);unfold fK at o;rw[o];have:=j rfl;omega))
theorem fg(arg:Int)(a:inI arg)(c:YI):∀(m:MS),MOk m->(∀x∈c,0<=x/\x<=32)->MOk (zW arg c m).1:=by
 induction c with
 |nil=>intro m b _;exact b
 |cons op r g=>intro m b d;unfold zW;split;rename_i e;exact g _ (iK m b op arg (d op (mem_cons_self ..)) a e) (fun x f=>d x (mem_cons_of_mem _ f));exact b
theorem MOk.short{m:MS}(a:MOk m):m.C.length<=2000:=by have b:=a.C;have c:=a.lims;omega
def yj(op:Int):YI:=match qQ.find? (fun x=>op==x.1)with|some x=>x.2|none=>[]
theorem nF(op:Nat)(h:40<=op/\op<60)(w:YW):Calls prog 60 #[I J op] w fun e w'=>∃cs:YV,e=Rt (S (O ⟨w.heap.size,0,X⟩) cs.size cs.size)/\cs.toList=(yj op).map (Value.int .i64)/\w'=w.alloc (C cs 3):=by have a:op=40\/op=41\/op=42\/op=43\/op=44\/op=45\/op=46\/op=47\/op=48\/op=49\/op=50\/op=51\/op=52\/op=53\/op=54\/op=55\/op=56\/op=57\/op=58\/op=59:=zo;clear h;(repeat' rcases a with rfl|a);all_goals go_enter func60,ntmps60;go_wp2;go_ret;exact⟨_,rfl,rfl,rfl⟩
def xd(m:MS)(op:Int):Int:=if op=3 then(if m.lc<=m.aC.length then 11 else 0)
 else if op=4 then(if m.aC.length=0 then 11 else 0)
 else if op=29\/op=30 then(if xZ m<0\/(m.cells.length:Int)<=xZ m then 12 else 0)
 else if op=12\/op=13 then(if xZ m=0 then 13 else 0)
 else if op=31 then(if m.lo<(m.out.size:Int)+1 then 14 else 0)
 else if op=32 then(if m.lo<(m.out.size:Int)+(yA (xZ m)).length+1 then 14 else 0)
 else 0
theorem Ek(m:MS)(i:MOk m)(op:Nat)(h:op<33)(g:du m (yq op).1 (yq op).2.1 (yq op).2.2.1 (yq op).2.2.2=0):zJ m op=xd m op:=by obtain⟨o,p,q,r⟩:=(mF m i op h).2 g;obtain⟨e,f⟩:=Cc op h;unfold zJ;rw[e,f];generalize (yq op).1=a at *;generalize (yq op).2.1=c at *;generalize (yq op).2.2.1=b at *;generalize (yq op).2.2.2=d at *;simp only;have j:¬(m.C.length:Int)<a:=zo;have k:¬(0<(c:Int)-a/\m.ls<(m.C.length:Int)+((c:Int)-a)):=zo;have l:¬(m.G.length:Int)<b:=zo;have n:¬(0<(d:Int)-b/\m.la<(m.G.length:Int)+((d:Int)-b)):=zo;rw[if_neg j,if_neg k,if_neg l,if_neg n];rfl
theorem jz(B:Nat)(w:YW)(b h op:Nat)(F:FuncId)(cap:YV)(d:op<33)(s:∀m,xd m op=0)(o:∀(W:YW)(f:Value)(m:MS)(st arg:Int)(l r:YI),Below B w W->PmE B W b h f {m with C:=l} st->MOk m->inI arg->m.C=l++r->r.length=(yq op).1->(m.G.length:Int)>=(yq op).2.2.1->l.length<=1000/\m.G.length<=1000->Calls prog F (#[A (O ⟨b,0,X⟩),I J arg,Ag #[I J (nth r 0),I J (nth r 1),I J (nth r 2)]]++cap) W (ye B W b h f st (doS m op arg) 0)):xT B w b h op F cap:=by
 intro W f m st arg l r n q a c e g j;have i:zJ m op=0:=by rw[Ek m a op d j];exact s m
 obtain⟨t,k,u,v⟩:=(mF m a op d).2 j;rw[if_pos i,i];have y:=a.lims;have z:=a.C;have x:=a.G;have p:m.C.length=l.length+r.length:=by rw[e];simp
 exact o W f m st arg l r n q a c e g k ⟨zo,zo⟩
theorem nY{r:YI}(h:r.length=0):r=[]:=eq_nil_of_length_eq_zero h
theorem rp{r:YI}(h:r.length=1):∃x,r=[x]:=by
 match r,h with
 |[x],_=>exact⟨x,rfl⟩
theorem ub{r:YI}(h:r.length=2):∃x y,r=[x,y]:=by
 match r,h with
 |[x,y],_=>exact⟨x,y,rfl⟩
theorem Tg(B:Nat)(w:YW)(b f:Nat):xT B w b f 0 91 #[]:=by
 refine jz B w b f 0 _ _ zo (fun m=>by simp[xd]) ?_;intro W j m st arg l r k h n g a d i c;obtain rfl:=nY d;rw[append_nil]at a;have e:doS m (0:Nat) arg={m with C:=l++[arg]}:=by simp[doS,a]
 rw[e,Array.append_empty];exact Qe B b f j _ st W h arg _ _ _ c.1
theorem Rl(B:Nat)(w:YW)(b d:Nat):xT B w b d 1 92 #[]:=by
 refine jz B w b d 1 _ _ zo (fun m=>by simp[xd]) ?_;intro W j m st arg l r k h n f a c i g;obtain rfl:=nY c;rw[append_nil]at a;have e:doS m (1:Nat) arg={m with C:=l,pc:=arg}:=by simp[doS,<-a]
 rw[e,Array.append_empty];exact MD B b d j _ st W h arg _ _ _
theorem Rk(B:Nat)(w:YW)(b d:Nat):xT B w b d 5 96 #[]:=by
 refine jz B w b d 5 _ _ zo (fun m=>by simp[xd]) ?_;intro W j m st arg l r k h n f a c i g;obtain rfl:=nY c;rw[append_nil]at a;have e:doS m (5:Nat) arg={m with C:=l,aE:=Y}:=by simp[doS,<-a]
 rw[e,Array.append_empty];exact MC B b d j _ st W h arg _ _ _
theorem Oy(B:Nat)(w:YW)(b d:Nat):xT B w b d 2 93 #[]:=by
 refine jz B w b d 2 _ _ zo (fun m=>by simp[xd]) ?_;intro W j m st arg l r k h n f c a i g;obtain⟨x,rfl⟩:=rp a;have e:doS m (2:Nat) arg=if x=0 then {m with C:=l,pc:=arg}else {m with C:=l}:=by simp[doS,c,zK]
 rw[e,Array.append_empty];exact Kj B b d j _ st W h arg _ _ _
theorem Ov(B:Nat)(w:YW)(b f:Nat):xT B w b f 6 97 #[]:=by
 refine jz B w b f 6 _ _ zo (fun m=>by simp[xd]) ?_;intro W p m st arg l r q n s h a d o c;obtain⟨x,y,rfl⟩:=ub d;have g:m.C.dropLast=l++[x]:=by rw[a,show l++[x,y]=(l++[x])++[y]from zs,Zx]
 have i:m.C.dropLast.dropLast=l:=by rw[g,Zx]
 have j:zK m.C=y:=by simp[a,zK]
 have k:zK m.C.dropLast=x:=by rw[g,ae]
 have e:doS m (6:Nat) arg={m with C:=l,G:=m.G++[x,y]}:=by simp[doS,i,j,k]
 rw[e,Array.append_empty];exact Kh B b f p _ st W n arg _ _ _ c.2
theorem Tf(B:Nat)(w:YW)(b f:Nat):xT B w b f 26 117 #[]:=by
 refine jz B w b f 26 _ _ zo (fun m=>by simp[xd]) ?_;intro W j m st arg l r k h n g d c i a;obtain⟨x,rfl⟩:=rp c;have e:doS m (26:Nat) arg={m with C:=l,G:=m.G++[x]}:=by simp[doS,d,zK]
 rw[e,Array.append_empty];exact Qd B b f j _ st W h arg _ _ _ a.2
theorem ur{m:MS}(h:(m.G.length:Int)>=1):∃l y,m.G=l++[y]:=by rcases Zz m.G with e|⟨l,y,e⟩;rw[e]at h;simp at h;exact⟨l,y,by rw[e,concat_eq_append]⟩
theorem Ox(B:Nat)(w:YW)(b g:Nat):xT B w b g 8 99 #[]:=by
 refine jz B w b g 8 _ _ zo (fun m=>by simp[xd]) ?_;intro W n m st arg l r o j p h a d f c;obtain rfl:=nY d;rw[append_nil]at a;obtain⟨k,y,i⟩:=ur (show(m.G.length:Int)>=1 from f);have e:doS m (8:Nat) arg={m with C:=l++[y]}:=by simp[doS,a,i,zK]
 rw[e,Array.append_empty];exact BY B b g n _ st W j arg _ _ _ k y i c
theorem Rm(B:Nat)(w:YW)(b g:Nat):xT B w b g 28 99 #[]:=by
 refine jz B w b g 28 _ _ zo (fun m=>by simp[xd]) ?_;intro W n m st arg l r o j p h a d f c;obtain rfl:=nY d;rw[append_nil]at a;obtain⟨k,y,i⟩:=ur (show(m.G.length:Int)>=1 from f);have e:doS m (28:Nat) arg={m with C:=l++[y]}:=by simp[doS,a,i,zK]
 rw[e,Array.append_empty];exact BY B b g n _ st W j arg _ _ _ k y i c
theorem Rh(B:Nat)(w:YW)(b g:Nat):xT B w b g 27 118 #[]:=by
 refine jz B w b g 27 _ _ zo (fun m=>by simp[xd]) ?_;intro W n m st arg l r o k p h a d f c;obtain rfl:=nY d;rw[append_nil]at a;obtain⟨j,y,i⟩:=ur (show(m.G.length:Int)>=1 from f);have e:doS m (27:Nat) arg={m with C:=l++[y],G:=j}:=by simp[doS,a,i,zK]
 rw[e,Array.append_empty];exact Mz B b g n _ st W k arg _ _ _ j y i c
theorem Tj(B:Nat)(w:YW)(b p op d:Nat)(G:FuncId)(a:op=9∨op=10∨op=11∨op=14∨op=15∨op=16∨op=19∨op=20)(h:Blk w d #[.func (.func G) #[] #[]] 166)(n:d < B){f:Func}(j:prog.funcs[G]? = O f)(g:(f.name == "runtime.NumGoroutine")=Z)(i:f.body.isNone=Z)(D:∀x y:Int,jP G #[I J x,I J y] (yQ op x y)):xT B w b p op 162 #[A (O ⟨d,0,X⟩)]:=by
 refine jz B w b p op _ _ zo (fun m=>by unfold xd;rcases a with e|e|e|e|e|e|e|e<;>subst e<;>simp) ?_;intro W H m st arg l r z E K s c o F k;obtain⟨x,y,rfl⟩:=ub (r:=r) (by rw[o];rcases a with e|e|e|e|e|e|e|e<;>subst e<;>rfl);have q:m.C.dropLast=l++[x]:=by rw[c,show l++[x,y]=(l++[x])++[y]from zs,Zx]
 have t:m.C.dropLast.dropLast=l:=by rw[q,Zx]
 have u:zK m.C=y:=by simp[c,zK]
 have v:zK m.C.dropLast=x:=by rw[q,ae]
 have e:doS m op arg={m with C:=l++[yQ op x y]}:=by rcases a with e|e|e|e|e|e|e|e<;>subst e<;>simp[doS,t,u,v]
 rw[e];exact Ev B b p H _ st W E arg _ _ _ k.1 d G (h.z z n) j g i _ (D x y)
theorem Vf{r:YI}(h:r.length=3):∃x y z,r=[x,y,z]:=by
 match r,h with
 |[x,y,z],_=>exact⟨x,y,z,rfl⟩
theorem CI(B:Nat)(w:YW)(b D op n c:Nat)(v:YA)(f:List Nat)(i:(op=21/\f=[0,0])\/(op=22/\f=[])\/(op=23/\f=[1,0])\/(op=24/\f=[0,1,0])\/(op=25/\f=[1,2,0]))(t:Blk w n #[S v f.length c] 115)(s:n<B)(p:iU B w v f):xT B w b D op 166 #[A (O ⟨n,0,X⟩)]:=by
 refine jz B w b D op _ _ zo (fun m=>by unfold xd;rcases i with⟨e,_⟩|⟨e,_⟩|⟨e,_⟩|⟨e,_⟩|⟨e,_⟩<;>subst e<;>simp) ?_;intro W P m st arg l r F M Q E a d N q;have u:f.length<=3:=by rcases i with⟨_,e⟩|⟨_,e⟩|⟨_,e⟩|⟨_,e⟩|⟨_,e⟩<;>subst e<;>simp
 have L:=Kk B b D P _ st W M arg (nth r 0) (nth r 1) (nth r 2) q.1 n c v f (t.z F s) (p.to F) u;have e:doS m op arg={m with C:=l++f.map (bG (nth r 0) (nth r 1) (nth r 2))}:=by
  rcases i with⟨e,g⟩|⟨e,g⟩|⟨e,g⟩|⟨e,g⟩|⟨e,g⟩;subst e g;obtain⟨x,rfl⟩:=rp d;simp[doS,a,zK,nth,bG];subst e g;obtain⟨x,rfl⟩:=rp d;simp[doS,a];subst e g;obtain⟨x,y,rfl⟩:=ub d;have h:m.C.dropLast=l++[x]:=by rw[a,show l++[x,y]=(l++[x])++[y]from zs,Zx]
  have k:m.C.dropLast.dropLast=l:=by rw[h,Zx]
  have o:zK m.C=y:=by simp[a,zK]
  have j:zK m.C.dropLast=x:=by rw[h,ae]
  simp[doS,k,o,j,nth,bG];subst e g;obtain⟨x,y,rfl⟩:=ub d;have h:m.C.dropLast=l++[x]:=by rw[a,show l++[x,y]=(l++[x])++[y]from zs,Zx]
  have j:zK m.C.dropLast=x:=by rw[h,ae]
  have K:doS m (24:Nat) arg={m with C:=m.C++[zK m.C.dropLast]}:=by simp[doS]
  rw[K,j,a];simp[nth,bG];subst e g;obtain⟨x,y,z,rfl⟩:=Vf d;have h:m.C.dropLast=l++[x]++[y]:=by rw[a,show l++[x,y,z]=(l++[x]++[y])++[z]from zs,Zx]
  have k:m.C.dropLast.dropLast=l++[x]:=by rw[h,Zx]
  have G:m.C.dropLast.dropLast.dropLast=l:=by rw[k,Zx]
  have o:zK m.C=z:=by simp[a,zK]
  have j:zK m.C.dropLast=y:=by rw[h,ae]
  have H:zK m.C.dropLast.dropLast=x:=by rw[k,ae]
  simp[doS,G,o,j,H,nth,bG]
 rw[e];exact L
theorem Th(B:Nat)(w:YW)(b p op d:Nat)(G:FuncId)(a:op=17∨op=18)(h:Blk w d #[.func (.func G) #[] #[]] 168)(n:d < B){f:Func}(j:prog.funcs[G]? = O f)(g:(f.name == "runtime.NumGoroutine")=Z)(i:f.body.isNone=Z)(t:∀x:Int,inI x→jP G #[I J x] (if op=17 then -1 - x else wrap64 (-x))):xT B w b p op 165 #[A (O ⟨d,0,X⟩)]:=by
 refine jz B w b p op _ _ zo (fun m=>by unfold xd;rcases a with e|e<;>subst e<;>simp) ?_;intro W D m st arg l r s v u q c o y k;obtain⟨x,rfl⟩:=rp (r:=r) (by rw[o];rcases a with e|e<;>subst e<;>rfl);have z:inI x:=u.ints.1 x (by rw[c];simp);have e:doS m op arg={m with C:=l++[if op=17 then -1-x else wrap64 (-x)]}:=by rcases a with e|e<;>subst e<;>simp[doS,c,zK]
 rw[e];exact Qf B b p D _ st W v arg _ _ _ k.1 d G (h.z s n) j g i _ (t x z)
theorem fV(B:Nat)(w:YW)(b h op:Nat)(F:FuncId)(cap:YV)(f:op<33)(o:∀(W:YW)(e:Value)(m:MS)(st arg:Int)(l r:YI),Below B w W->PmE B W b h e {m with C:=l} st->MOk m->inI arg->m.C=l++r->r.length=(yq op).1->l.length<=1000/\m.G.length<=1000/\m.aC.length<=1000/\m.cells.length<=1000/\m.out.size<=1000->Calls prog F (#[A (O ⟨b,0,X⟩),I J arg,Ag #[I J (nth r 0),I J (nth r 1),I J (nth r 2)]]++cap) W (ye B W b h e st (if xd m op=0 then doS m op arg else {m with C:=l}) (xd m op))):xT B w b h op F cap:=by
 intro W e m st arg l r i q a c d g j;rw[Ek m a op f j];have t:=a.lims;have v:=a.C;have s:=a.G;have n:=a.aC;have k:=a.cells;have u:=a.out;have p:m.C.length=l.length+r.length:=by rw[d];simp
 exact o W e m st arg l r i q a c d g ⟨zo,zo,zo,zo,zo⟩
theorem Ri(B:Nat)(w:YW)(b d:Nat):xT B w b d 3 94 #[]:=by
 refine fV B w b d 3 _ _ zo ?_;intro W k m st arg l r n j o i c h a;obtain rfl:=nY h;rw[append_nil]at c;rw[Array.append_empty];by_cases g:m.lc<=m.aC.length;have f:xd m (3:Nat)=11:=by simp[xd,g]
 rw[f,if_neg zo];exact Et B b d k _ st W j arg _ _ _ a.2.2.1 g;have f:xd m (3:Nat)=0:=by simp[xd,g]
 have e:doS m (3:Nat) arg={m with C:=l,aC:=m.aC++[m.pc],pc:=arg}:=by simp[doS,<-c]
 rw[f,if_pos rfl,e];exact MA B b d k _ st W j arg _ _ _ a.2.2.1 (by show(m.aC.length:Int)<m.lc;omega)
theorem Ti(B:Nat)(w:YW)(b d:Nat):xT B w b d 4 95 #[]:=by
 refine fV B w b d 4 _ _ zo ?_;intro W n m st arg l r o k p j c h g;obtain rfl:=nY h;rw[append_nil]at c;rw[Array.append_empty];rcases Zz m.aC with a|⟨i,y,a⟩;have f:xd m (4:Nat)=11:=by simp[xd,a]
 rw[f,if_neg zo];exact He B b d n _ st W k arg _ _ _ a;rw[concat_eq_append]at a;have f:xd m (4:Nat)=0:=by simp[xd,a]
 have e:doS m (4:Nat) arg={m with C:=l,aC:=i,pc:=y}:=by simp[doS,<-c,a,zK]
 rw[f,if_pos rfl,e];exact Qg B b d n _ st W k arg _ _ _ i y a g.2.2.1
theorem bU(a:YB):a=a++⟨#[]⟩:=by apply ByteArray.ext;rw[ByteArray.data_append];simp
theorem DM(m:MS)(op:Int):zJ m op=0\/7<=zJ m op/\zJ m op<=14:=by
 unfold zJ;repeat' split
 all_goals omega
theorem EA(m:MS)(op arg:Int):(doS m op arg).cells.length=m.cells.length:=by unfold doS;repeat' (first|refine lr (p:=fun z=>z.cells.length=m.cells.length) ?_ ?_|rfl|exact length_set ..)
theorem Hk(m:MS)(op arg:Int):∃t,(doS m op arg).out=m.out++t:=by unfold doS;repeat' (first|refine lr (p:=fun z=>∃t,z.out=m.out++t) ?_ ?_|exact⟨⟨#[]⟩,bU _⟩|exact⟨_,rfl⟩|exact⟨_,by simp only[ByteArray.append_assoc];rfl⟩)
theorem nr(arg:Int)(a:YI):∀m:MS,(zW arg a m).1.cells.length=m.cells.length/\(∃t,(zW arg a m).1.out=m.out++t)/\((zW arg a m).2=0\/7<=(zW arg a m).2/\(zW arg a m).2<=14):=by
 induction a with
 |nil=>intro m;exact⟨rfl,⟨⟨#[]⟩,bU _⟩,Zg rfl⟩
 |cons op r f=>intro m;unfold zW;split;obtain⟨b,⟨t,c⟩,d⟩:=f (doS m op arg);obtain⟨u,e⟩:=Hk m op arg;exact⟨by rw[b,EA],⟨u++t,by rw[c,e,ByteArray.append_assoc]⟩,d⟩;next h=>exact⟨rfl,⟨⟨#[]⟩,bU _⟩,Zf (by rcases DM m op with b|b;exact absurd b h;exact b)⟩
theorem gA(l:YL)(m:MS):(yb l m).1.cells.length=m.cells.length/\(∃t,(yb l m).1.out=m.out++t)/\((yb l m).2=0\/7<=(yb l m).2/\(yb l m).2<=14):=by unfold yb;split;exact nr _ _ _;exact⟨rfl,⟨⟨#[]⟩,bU _⟩,Zg rfl⟩
theorem iC(l:YL)(n:Nat):∀(s:Int)(m:MS),(zO l n s m).1.cells.length=m.cells.length/\(∃t,(zO l n s m).1.out=m.out++t)/\s<=(zO l n s m).2.2/\(zO l n s m).2.2<=s+n/\((zO l n s m).2.1=15->(zO l n s m).2.2=s+n):=by
 induction n with
 |zero=>intro s m;unfold zO;split;exact⟨rfl,⟨⟨#[]⟩,bU _⟩,zs,zs,fun _=>zs⟩;exact⟨rfl,⟨⟨#[]⟩,bU _⟩,zs,zs,fun _=>zs⟩
 |succ n g=>intro s m;obtain⟨a,⟨t,b⟩,i⟩:=gA l m;unfold zO;split;exact⟨rfl,⟨⟨#[]⟩,bU _⟩,zs,zp,fun h=>by simp at h⟩;split;obtain⟨c,⟨u,d⟩,j,k,e⟩:=g (s+1) (yb l m).1;exact⟨by rw[c,a],⟨t++u,by rw[d,b,ByteArray.append_assoc]⟩,zo,zo,fun h=>by have:=e h;omega⟩;next f=>exact⟨a,⟨t,b⟩,zp,zp,fun h=>by simp only at h;omega⟩
theorem CH (l:YL) (n:Nat):∀ (n':Nat) (s:Int) (m:MS),n≤n'→(∃ t,(zO l n' s m).1.out=(zO l n s m).1.out++t)∧(zO l n s m).2.2≤(zO l n' s m).2.2:=by
 induction n with
 |zero=>
  intro n' s m _;obtain⟨_,h2,h3,_⟩:=iC l n' s m;have e:(zO l 0 s m).1=m∧(zO l 0 s m).2.2=s:=by unfold zO;split<;>exact⟨rfl,rfl⟩
  rw[e.1,e.2];exact⟨h2,h3⟩
 |succ n ih=>intro n' s m hn;obtain⟨k,rfl⟩:∃ k,n'=k+1:=⟨n'-1,zo⟩;unfold zO;split;exact⟨⟨⟨#[]⟩,bU _⟩,Int.le_refl _⟩;split;exact ih k (s+1) (yb l m).1 zo;exact⟨⟨⟨#[]⟩,bU _⟩,Int.le_refl _⟩
end Go.Proofs.YtmeiikjpaepogaaGreatDoor
