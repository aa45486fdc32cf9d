/- Own. -/
import Derived.Test.YtmeiikjpaepogaaGreatDoorD04
open Option renaming some->O,none->X
open Bool renaming true->Y,false->Z
open Go.Value renaming int->I,slice->S,pointer->A,string->Sr,tuple->Tu,agg->Ag
open Go.Obj renaming cells->C
open Go.Ending renaming returned->Rt
open Go.IntKind renaming i64->J
set_option maxRecDepth 100000
set_option maxHeartbeats 1000000
namespace Go.Proofs.YtmeiikjpaepogaaGreatDoor
open Go Go.RowKit Go.Proofs.Tryz List
def yp(st:RS)(e:Int):RS:=if st.err=0 then {st with err:=e,place:=st.place0}else st
theorem Rd.fail{B:Nat}{w:YW}{b:Nat}{st:RS}{c d f g a:Value}(h:Rd B w b st c d f g a)(e:Int):Rd B (if st.err=0 then(w.setCell ⟨b,12,X⟩ (I J e)).setCell ⟨b,13,X⟩ (I J st.place0)else w) b (yp st e) c d f g a:=by unfold yp;by_cases he:st.err=0;rw[if_pos he,if_pos he];have i:Rd B (w.setCell ⟨b,12,X⟩ (I J e)) b {st with err:=e} c d f g a:=h.set 12 _ _ (by simp[zX]) rfl ⟨rfl,rfl,rfl,rfl,rfl,rfl⟩;exact i.set 13 _ _ (by simp[zX]) rfl ⟨rfl,rfl,rfl,rfl,rfl,rfl⟩;rw[if_neg he,if_neg he];exact h
theorem eA(B b:Nat)(st:RS)(d f g i a:Value)(c:Int)(w:YW)(h:Rd B w b st d f g i a):Calls prog 130 #[A (O ⟨b,0,X⟩),I J c] w fun e w'=>e=Rt (Tu #[])/\Rd B w' b (yp st c) d f g i a/\Below B w w':=by refine(Qj B b st d f g i a c w h).m ?_;rintro e w' ⟨rfl,rfl⟩;refine⟨rfl,h.fail c,?_⟩;split;exact((Ze B w).setCell h.K _).setCell h.K _;exact Ze _ _
theorem Rd.below_all{B:Nat}{w w':YW}{b:Nat}{st:RS}{d e f g a:Value}(h:Rd B w b st d e f g a)(c:Below w.heap.size w w'):Rd B w' b st d e f g a:=⟨h.D.z c h.D.lt,h.K,h.aD.below_all c,h.R⟩
def jX(st:RS):Bool:=st.E.toList.isEmpty || (qe st.E).isSome || decide (0<=yZ st.E) || jB st.E || decide (0<=jG st.N st.E)
def zP(st:RS):RS:=if jX (zF st)then yp (zF st) 3 else zF st
theorem qY(st:RS):(zF st).E.size<=st.s.size:=by simp only[zF,ByteArray.size_extract];omega
theorem PT(st:RS):(jX st=Y/\(st.E.toList.isEmpty=Y\/(st.E.toList.isEmpty=Z/\(qe st.E).isSome=Y)\/(st.E.toList.isEmpty=Z/\(qe st.E).isSome=Z/\0<=yZ st.E)\/(st.E.toList.isEmpty=Z/\(qe st.E).isSome=Z/\yZ st.E<0/\jB st.E=Y)\/(st.E.toList.isEmpty=Z/\(qe st.E).isSome=Z/\yZ st.E<0/\jB st.E=Z/\0<=jG st.N st.E)))\/(jX st=Z/\st.E.toList.isEmpty=Z/\(qe st.E).isSome=Z/\yZ st.E<0/\jB st.E=Z/\jG st.N st.E<0):=by unfold jX;cases st.E.toList.isEmpty<;>cases (qe st.E).isSome<;>cases jB st.E<;>by_cases b:0<=yZ st.E<;>by_cases a:0<=jG st.N st.E<;>simp_all<;>omega
theorem gw(B b:Nat)(st:RS)(w:YW)(h:RdE B w b st)(z:st.next<=st.s.size):Calls prog 173 #[A (O ⟨b,0,X⟩)] w fun e w'=>e=Rt (Sr (zF st).E)/\RdE B w' b (zP st)/\Below B w w':=by
 have D:=V (oR B b st w h z);go_enter func173,ntmps173;go_wp2_with fail;refine D.m ?_;rintro e N ⟨rfl,⟨H,K,L,M,p,g⟩,l⟩;have o:(zF st).E.size<=2000:=Nat.le_trans (qY st) g.R.2.2.2.2.2;generalize n:zF st=a at g o ⊢;have f:=V n;clear n D h;have r:=g.D.u;have G:=g.D.H;unfold zX at r;go_wp2_with fail;refine(kX a.E N o).m ?_;rintro e t ⟨rfl,d⟩;obtain rfl:=d.symm;clear d;go_wp2_with fail;refine(aZ a.E N).m ?_;rintro e t ⟨rfl,i⟩;have k:=g.below_all i;have m:=l.trans (i.m (Nat.le_trans g.K (Nat.le_of_lt g.D.lt)));clear r G g l i;have r:=k.D.u;have G:=k.D.H;unfold zX at r;go_wp2_with fail;refine(pD a.E t).m ?_;rintro e P ⟨rfl,d⟩;obtain rfl:=d.symm;clear d;go_wp2_with fail;refine(cI B b a H K L M p t a.E k).m ?_;rintro e P ⟨rfl,d⟩;obtain rfl:=d.symm;clear d;have Q:=V (eA B b a H K L M p 3 t k);rcases PT a with⟨c,d⟩|⟨c,j,q,v,E,R⟩
 ·have u:=V c;clear c;rcases d with j|⟨j,q⟩|⟨j,q,v⟩|⟨j,q,v,E⟩|⟨j,q,v,E,R⟩;all_goals
   go_wp2_with (go_at_call 130;refine Q.m ?_;rintro e P ⟨rfl,F,x⟩;have y:=F.D.u;unfold zX at y);go_ret;have e:zP st=yp a 3:=by unfold zP;rw[U f,U u];rfl
   rw[e];exact⟨iz (by rw[U f];unfold yp;split<;>rfl),⟨_,_,_,_,_,F⟩,m.trans x⟩
 ·have u:=V c;clear c;go_wp2;go_ret;have e:zP st=a:=by unfold zP;rw[U f,U u];rfl
  rw[e];exact⟨iz (by rw[U f]),⟨_,_,_,_,_,k⟩,m⟩
theorem qj{w a:YW}{o:Obj}{row:Option Nat}(h:(w.alloc o).grownBy a row):w.grownBy a row:=by refine⟨h.os,h.tape,h.output,Nat.le_trans ?_ h.size,fun k b c=>?_⟩;simp;rw[h.block k zp c];exact Below.heap_alloc _ _ _ b
theorem Rd.grow{B:Nat}{w x:YW}{b:Nat}{st:RS}{m o p q d:Value}(h:Rd B w b st m o p q d)(i c:Nat)(v v':Value)(j:xL)(a:RS)(u4 u5 u6 u7 f:Value)(y:[m,o,p,q,d][i]? = O v)(l:w.grownBy x v.ownBlock)(k:x.ownsRow B j.e j.size v' j.n j.xs)(r:v'.ownBlock=v.ownBlock\/∃g,v'.ownBlock=O g/\w.heap.size<=g)(z:(zX st m o p q d).setIfInBounds c v'=zX a u4 u5 u6 u7 f)(u:[m,o,p,q,d].set i v'=[u4,u5,u6,u7,f])(D:(jU st).set i j=jU a)(E:a.c0.length<=4000/\a.c1.length<=4000/\a.N.length<=4000/\a.Q.length<=4000/\a.heads.length<=4000/\a.s.size<=2000):Rd B (x.setCell ⟨b,c,X⟩ v') b a u4 u5 u6 u7 f:=by have t:=h.D.lt;refine⟨?_,h.K,?_,E⟩;rw[<-z];exact(h.D.grown l (h.ne i v y)).set c v';rw[<-u,<-D];exact(h.aD.grow i v v' j y (by simp;exact t) l k r).set (b:=b) zs c v'
theorem Rd.grow6{B:Nat}{w i:YW}{b:Nat}{st:RS}{k l d m c:Value}(h:Rd B w b st k l d m c){x:ByteArray×Int×Int}{g cap H:Nat}(j:st.N.length<4000)(f:w.grownBy i d.ownBlock)(a:i.ownsRow B 223 3 (S (O ⟨g,0,X⟩) (st.N.length+1) cap) (st.N.length+1) (yz st.N++[Sr x.1,I J x.2.1,I J x.2.2]))(e:d.ownBlock=O g\/g=H)(n:w.heap.size<=H) :
    Rd B (i.setCell ⟨b,6,X⟩ (S (O ⟨g,0,X⟩) (st.N.length+1) cap)) b {st with N:=st.N++[x]} k l (S (O ⟨g,0,X⟩) (st.N.length+1) cap) m c:=h.grow 2 6 d _ ⟨223,3,st.N.length+1,_⟩ _ _ _ _ _ _ rfl f a (qG e n) (by simp[zX]) rfl (by simp[jU,yz]) (by have:=h.R;simp;omega)
theorem Rd.grow7{B:Nat}{w i:YW}{b:Nat}{st:RS}{k l m d c:Value}(h:Rd B w b st k l m d c){x:ByteArray×Int×Int}{g cap H:Nat}(j:st.Q.length<4000)(f:w.grownBy i d.ownBlock)(a:i.ownsRow B 225 3 (S (O ⟨g,0,X⟩) (st.Q.length+1) cap) (st.Q.length+1) (yz st.Q++[Sr x.1,I J x.2.1,I J x.2.2]))(e:d.ownBlock=O g\/g=H)(n:w.heap.size<=H) :
    Rd B (i.setCell ⟨b,7,X⟩ (S (O ⟨g,0,X⟩) (st.Q.length+1) cap)) b {st with Q:=st.Q++[x]} k l m (S (O ⟨g,0,X⟩) (st.Q.length+1) cap) c:=h.grow 3 7 d _ ⟨225,3,st.Q.length+1,_⟩ _ _ _ _ _ _ rfl f a (qG e n) (by simp[zX]) rfl (by simp[jU,yz]) (by have:=h.R;simp;omega)
theorem Rd.grow11{B:Nat}{w f:YW}{b:Nat}{st:RS}{j k l m a:Value}(h:Rd B w b st j k l m a){x:Int}{g cap H:Nat}(i:st.heads.length<4000)(e:w.grownBy f a.ownBlock)(c:f.ownsRow B 3 1 (S (O ⟨g,0,X⟩) (st.heads.length+1) cap) (st.heads.length+1) (st.heads.map (Value.int .i64)++[I J x]))(d:a.ownBlock=O g\/g=H)(n:w.heap.size<=H) :
    Rd B (f.setCell ⟨b,11,X⟩ (S (O ⟨g,0,X⟩) (st.heads.length+1) cap)) b {st with heads:=st.heads++[x]} j k l m (S (O ⟨g,0,X⟩) (st.heads.length+1) cap):=h.grow 4 11 a _ ⟨3,1,st.heads.length+1,_⟩ _ _ _ _ _ _ rfl e c (qG d n) (by simp[zX]) rfl (by simp[jU]) (by have:=h.R;simp;omega)
theorem oY:(prog.info? 223).map (fun i=>(i.zero,i.size,i.bytes))=O (O (Ag #[Sr ⟨#[]⟩,I J 0,I J 0]),3,32):=zr
theorem kl:(prog.info? 225).map (fun i=>(i.zero,i.size,i.bytes))=O (O (Ag #[Sr ⟨#[]⟩,I J 0,I J 0]),3,32):=zr
theorem eQ:(prog.info? 3).map (fun i=>(i.zero,i.size,i.bytes))=O (O (I J 0),1,8):=zr
theorem wG(s:YB)(a b:Int):∀u∈[Value.string s,Value.int .i64 a,Value.int .i64 b],u.oneCell'=Y:=by intro u c;simp at c;rcases c with rfl|rfl|rfl<;>rfl
theorem ky(a:Int):∀u∈[Value.int .i64 a],u.oneCell'=Y:=by intro u b;simp at b;subst b;rfl
theorem Bp(B b:Nat)(st:RS)(w:YW)(h:RdE B w b st)(u:(st.E.toList==[59])=Y)(d:st.P<0\/st.Q≠[]):Calls prog 127 #[A (O ⟨b,0,X⟩)] w fun e w'=>e=Rt (Tu #[])/\RdE B w' b (yp st 4)/\Below B w w':=by
 obtain⟨l,m,n,o,f,h⟩:=h;have g:=V (eA B b st l m n o f 4 w h);obtain⟨q,v,rfl⟩:=zu h.o7;have j:=h.D.u;have r:=h.D.H;unfold zX at j;have t:(st.Q.length:Int)<=4000:=by have:=h.R;omega
 by_cases k:st.P<0
 ·go_enter func127,ntmps127;go_wp2_with (go_at_call 130;refine g.m ?_;rintro e p ⟨rfl,c,a⟩);refine bodyPost_ret (results_none rfl _ _ _) rfl ?_;exact⟨rfl,⟨_,_,_,_,_,c⟩,a⟩
 ·have i:0<=st.P:=zo;have s:(0:Int)<st.Q.length:=by rcases d with e|e;omega;have:=length_pos_iff.2 e;omega
  go_enter func127,ntmps127;go_wp2_with (go_at_call 130;refine g.m ?_;rintro e p ⟨rfl,c,a⟩);refine bodyPost_ret (results_none rfl _ _ _) rfl ?_;exact⟨rfl,⟨_,_,_,_,_,c⟩,a⟩
def vW(st:RS):RS:={zQ st 4 0 with N:=(zQ st 4 0).N++[((zQ st 4 0).name,3,(zQ st 4 0).P)],P:=-1}
theorem Rd.P{B:Nat}{w:YW}{b:Nat}{st:RS}{c d e f a:Value}(h:Rd B w b st c d e f a)(k:Int):Rd B (w.setCell ⟨b,8,X⟩ (I J k)) b {st with P:=k} c d e f a:=h.set 8 _ _ (by simp[zX]) rfl ⟨rfl,rfl,rfl,rfl,rfl,rfl⟩
theorem Hh(B b:Nat)(st:RS)(w:YW)(h:RdE B w b st)(ht:(st.E.toList==[59])=Y)(a0:0<=st.P)(u:st.Q=[])(o:st.c0.length<4000/\st.c1.length<4000)(t:st.N.length<4000):Calls prog 127 #[A (O ⟨b,0,X⟩)] w fun e w'=>e=Rt (Tu #[])/\RdE B w' b (vW st)/\Below B w w':=by
 obtain⟨i0,R,v,y,z⟩:=info_parts oY;have r:=V (nA B b st 4 0 w h o);have i:(zQ st 4 0).N.length<4000:=by unfold zQ;split<;>exact t
 unfold vW;generalize zQ st 4 0=a at r i ⊢;obtain⟨v4,v5,E,v7,D,h⟩:=h;obtain⟨a7,k7,rfl⟩:=zu h.o7;have n:=h.D.u;have H:=h.D.H;unfold zX at n;rw[u]at n;go_enter func127,ntmps127;go_wp2_with fail;refine r.m ?_;rintro e p ⟨rfl,⟨v4,v5,E,v7,D,d⟩,f⟩;clear r n H h;have W:=d.D.lt;have n:=d.D.u;have H:=d.D.H;unfold zX at n;have F:=V d.D;unfold zX at F;have s:=d.ne 2 E rfl;have N:=V (zE d.o6 (C #[Sr a.name,I J 3,I J a.P] 223));have l:B<=(p.alloc (C #[Sr a.name,I J 3,I J a.P] 223)).drew.heap.size:=by have:=d.K;show B<=(p.alloc _).heap.size;simp;omega
 have q:=V l;clear l;go_wp2;go_region_law (refine step_append_lies _ rfl (.tmp 36) (.tmp 47) 175 rfl B 223 i0 _ 3 32 underlying175 R v y z rfl zd E a.N.length (yz a.N) zf N ⟨p.heap.size,0,X⟩ 1 1 [Sr a.name,I J 3,I J a.P] zf rfl (World.news_of_block (Blk.new p _ _)) (wG _ _ _) zo zm zo q _ rfl ?_;intro g cap w2 j c m K;have f:=(F.alloc _).drew.grown c s;have P:=f.u;have Q:=f.H;have M:=V j;have G:=V c;have L:=V m;clear j c m f);all_goals go_wp2;refine bodyPost_ret (results_none rfl _ _ _) rfl ?_;refine⟨rfl,⟨_,_,_,_,_,(d.grow6 (x:=(a.name,3,a.P)) i (xU G) M L zs).P (-1)⟩,?_⟩;exact f.trans (((xh (by have:=d.K;omega) (fun k T=>(zC d.o6 T).2) G).setCell d.K _).setCell d.K _)
end Go.Proofs.YtmeiikjpaepogaaGreatDoor
