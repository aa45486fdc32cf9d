/- Own. -/
import Derived.Test.YtmeiikjpaepogaaGreatDoorD05
import Derived.Test.YtmeiikjpaepogaaGreatDoorD02
open Option renaming some->O,none->X
open Bool renaming true->Y,false->Z
open Go.Value renaming int->I,slice->S,pointer->A,string->Sr,tuple->Tu
open Go.Obj renaming cells->C
open Go.Ending renaming returned->Rt
open Go.IntKind renaming i64->J
set_option maxRecDepth 100000
set_option maxHeartbeats 1000000
namespace Go.Proofs.YtmeiikjpaepogaaGreatDoor
open Go Go.RowKit Go.Proofs.Tryz List
theorem Hg(B b:Nat)(st:RS)(w:YW)(h:RdE B w b st)(u:(st.E.toList==[59])=Z)(d:0<=st.P\/st.Q≠[]):Calls prog 127 #[A (O ⟨b,0,X⟩)] w fun e w'=>e=Rt (Tu #[])/\RdE B w' b (yp st 4)/\Below B w w':=by
 obtain⟨l,m,n,o,f,h⟩:=h;have g:=V (eA B b st l m n o f 4 w h);obtain⟨q,v,rfl⟩:=zu h.o7;have j:=h.D.u;have r:=h.D.H;unfold zX at j;have t:(st.Q.length:Int)<=4000:=by have:=h.R;omega
 by_cases k:0<=st.P
 ·go_enter func127,ntmps127;go_wp2_with (go_at_call 130;refine g.m ?_;rintro e p ⟨rfl,c,a⟩);refine bodyPost_ret (results_none rfl _ _ _) rfl ?_;exact⟨rfl,⟨_,_,_,_,_,c⟩,a⟩
 ·have i:st.P<0:=zo;have s:(0:Int)<st.Q.length:=by rcases d with e|e;omega;have:=length_pos_iff.2 e;omega
  go_enter func127,ntmps127;go_wp2_with (go_at_call 130;refine g.m ?_;rintro e p ⟨rfl,c,a⟩);refine bodyPost_ret (results_none rfl _ _ _) rfl ?_;exact⟨rfl,⟨_,_,_,_,_,c⟩,a⟩
theorem Kn(B b:Nat)(st:RS)(w:YW)(h:RdE B w b st)(j:st.next<=st.s.size)(v:(st.E.toList==[59])=Z)(n:st.P<0)(k:st.Q=[])(a:(zP st).err≠0):Calls prog 127 #[A (O ⟨b,0,X⟩)] w fun e w'=>e=Rt (Tu #[])/\RdE B w' b (zP st)/\Below B w w':=by
 have f:=V (gw B b st w h j);have c:((zP st).err != 0)=Y:=by simpa using a
 clear a;generalize zP st=o at f c ⊢;obtain⟨p,q,r,t,l,h⟩:=h;obtain⟨u,x,rfl⟩:=zu h.o7;have d:=h.D.u;have m:=h.D.H;unfold zX at d;rw[k]at d;go_enter func127,ntmps127;go_wp2_with fail;refine f.m ?_;rintro e y ⟨rfl,⟨p,q,r,t,l,g⟩,i⟩;clear f d m h;have d:=g.D.u;have m:=g.D.H;unfold zX at d;go_wp2;refine bodyPost_ret (results_none rfl _ _ _) rfl ?_;exact⟨rfl,⟨_,_,_,_,_,g⟩,i⟩
theorem Rd.named{B:Nat}{w:YW}{b:Nat}{st:RS}{c d e f a:Value}(h:Rd B w b st c d e f a)(k:YB):Rd B (w.setCell ⟨b,9,X⟩ (Sr k)) b {st with name:=k} c d e f a:=h.set 9 _ _ (by simp[zX]) rfl ⟨rfl,rfl,rfl,rfl,rfl,rfl⟩
theorem Rd.celled{B:Nat}{w:YW}{b:Nat}{st:RS}{c d e f a:Value}(h:Rd B w b st c d e f a)(k:Int):Rd B (w.setCell ⟨b,10,X⟩ (I J k)) b {st with cells:=k} c d e f a:=h.set 10 _ _ (by simp[zX]) rfl ⟨rfl,rfl,rfl,rfl,rfl,rfl⟩
def wx(st:RS)(t:YB):RS:={st with name:=t,P:=st.c0.length,heads:=st.heads++[(st.c0.length:Int)]}
theorem Ey(B b:Nat)(st:RS)(w:YW)(h:RdE B w b st)(F:st.next<=st.s.size)(ht:st.E=⟨#[58]⟩)(d0:st.P<0)(G:st.Q=[])(t:(zP st).err=0)(R:(zP st).heads.length<4000):Calls prog 127 #[A (O ⟨b,0,X⟩)] w fun e w'=>e=Rt (Tu #[])/\RdE B w' b (wx (zP st) (zF st).E)/\Below B w w':=by
 obtain⟨i0,hi,K,L,M⟩:=info_parts eQ;have v:=V (gw B b st w h F);have u:((zP st).err != 0)=Z:=by simpa using t
 clear t;generalize zP st=a at v u R ⊢;generalize (zF st).E=N at v ⊢;obtain⟨v4,v5,v6,v7,m,h⟩:=h;obtain⟨a7,k7,rfl⟩:=zu h.o7;have j:=h.D.u;have y:=h.D.H;unfold zX at j;rw[G,ht]at j;go_enter func127,ntmps127;go_wp2_with fail;refine v.m ?_;rintro e w1 ⟨rfl,⟨v4,v5,v6,v7,m,i⟩,d⟩;clear v j y h;obtain⟨a4,k4,rfl⟩:=zu i.o4;have r:=i.D.lt;have j:=i.D.u;have y:=i.D.H;unfold zX at j;go_wp2_with fail;have f:=(i.named N).P a.c0.length;have q:=(d.setCell i.K (p:=⟨b,9,X⟩) (Sr N)).setCell i.K (p:=⟨b,8,X⟩) (I J a.c0.length);generalize H:((w1.setCell ⟨b,9,X⟩ (Sr N)).setCell ⟨b,8,X⟩ (I J a.c0.length))=z at f q ⊢;clear H j y d i r;have r:=f.D.lt;have j:=f.D.u;have y:=f.D.H;unfold zX at j;have P:=V f.D;unfold zX at P;have E:=f.ne 4 m rfl;have HW:=V (zE f.o11 (C #[I J a.c0.length] 3));have n:B<=(z.alloc (C #[I J a.c0.length] 3)).drew.heap.size:=by have:=f.K;show B<=(z.alloc _).heap.size;simp;omega
 have D:=V n;clear n;go_region_law (refine step_append_lies _ rfl (.tmp 92) (.tmp 97) 115 rfl B 3 i0 _ 1 8 underlying115 hi K L M rfl zd m a.heads.length (a.heads.map (Value.int .i64)) zf HW ⟨z.heap.size,0,X⟩ 1 1 [I J a.c0.length] zf rfl (World.news_of_block (Blk.new z _ _)) (ky _) zo zm zo D _ rfl ?_;intro g cap w3 l c o T;have d:=(P.alloc _).drew.grown c E;have a0:=d.u;have b0:=d.H;have HO:=V l;have Q:=V c;have W:=V o;clear l c o d);all_goals go_wp2;go_end0;refine⟨rfl,⟨_,_,_,_,_,f.grow11 (x:=(a.c0.length:Int)) R (xU Q) HO W zs⟩,?_⟩;exact q.trans ((xh (by have:=f.K;omega) (fun k hk=>(zC f.o11 hk).2) Q).setCell f.K _)
def xt(st:RS):RS:=if(qe (zF st).E).isSome then zF st else yp (zF st) 3
def kx(st:RS)(t:YB):RS:={xt st with N:=(xt st).N++[(t,0,qS (zF st).E)]}
theorem xk{B:Nat}{w b:YW}{o:Obj}{row:Option Nat}(a:B<=w.heap.size)(d:∀k,row=O k->B<=k)(c:(w.alloc o).grownBy b row):Below B w b:=((Ze B w).alloc a o).grown c (by have:=Below.size ((Ze B w).alloc a o);exact Nat.le_trans a this) d
theorem uU(B b:Nat)(st:RS)(w:YW)(h:RdE B w b st)(o0:st.next<=st.s.size)(ht:st.E=⟨#[99,111,110,115,116,97,110,116]⟩)(r0:st.P<0)(p0:st.Q=[])(d0:(zP st).err=0)(r:(zP st).next<=(zP st).s.size)(P:(xt (zP st)).N.length<4000):Calls prog 127 #[A (O ⟨b,0,X⟩)] w fun e w'=>e=Rt (Tu #[])/\RdE B w' b (kx (zP st) (zF st).E)/\Below B w w':=by
 obtain⟨i0,hi,f0,g0,h0⟩:=info_parts oY;have HN:=V (gw B b st w h o0);have e0:((zP st).err != 0)=Z:=by simpa using d0
 clear d0;have HS:Hid (∀(K:YW)(v y l z i:Value),Rd B K b (zP st) v y l z i->Calls prog 125 #[A (O ⟨b,0,X⟩)] K fun e w'=>e=Rt (Tu #[])/\Rd B w' b (zF (zP st)) v y l z i/\Below B K w'):=fun K v y l z i L=>JK B b _ v y l z i K L r;have o:(zF (zP st)).E.size<=(zP st).s.size:=qY _;have q:(zF (zP st)).s=(zP st).s:=rfl;unfold kx xt;unfold xt at P;generalize zF (zP st)=d at HS P o q ⊢;generalize zP st=s0 at HN e0 HS o q ⊢;generalize (zF st).E=u at HN ⊢;clear r;obtain⟨v,y,l,z,i,h⟩:=h;obtain⟨a7,k7,rfl⟩:=zu h.o7;have p:=h.D.u;have N:=h.D.H;unfold zX at p;rw[p0,ht]at p;cases hn:(qe d.E).isSome;all_goals rw[hn]at P;simp only[Bool.false_eq_true,if_false,if_true]at P ⊢;go_enter func127,ntmps127;go_wp2_with fail;refine HN.m ?_;rintro e K ⟨rfl,⟨v,y,l,z,i,L⟩,W⟩;clear HN p N h;have p:=L.D.u;have N:=L.D.H;unfold zX at p;go_wp2_with fail;refine(U HS K v y l z i L).m ?_;rintro e w2 ⟨rfl,M,a0⟩;have E:=W.trans a0;have q0:d.E.size<=2000:=Nat.le_trans o (by rw[<-q];exact M.R.2.2.2.2.2);clear HS p N L W a0 q;have p:=M.D.u;have N:=M.D.H;unfold zX at p;go_wp2_with fail;refine(kX d.E w2 q0).m ?_;rintro e w3 ⟨rfl,hw⟩;obtain rfl:=hw.symm;clear hw;generalize c0:qS d.E=t;have T:=V c0;clear c0
 ·have HF:=V (eA B b d v y l z i 3 w2 M);go_wp2_with fail;refine HF.m ?_;rintro e w4 ⟨rfl,c,j0⟩;have F:=E.trans j0;clear HF p N;have n0:=c.D.lt;have Q:=V c.D;unfold zX at Q;have H:=c.ne 2 l rfl;have HW:=V (zE c.o6 (C #[Sr u,I J 0,I J t] 223));have m:B<=(w4.alloc (C #[Sr u,I J 0,I J t] 223)).heap.size:=by have:=c.K;simp;omega
  have D:=V m;clear m;have G:=c.D.u;have l0:=c.D.H;unfold zX at G;go_wp2_with (at_builtin;refine wpList_append_lies _ rfl (.tmp 146) (.tmp 151) 175 rfl B 223 i0 _ 3 32 underlying175 hi f0 g0 h0 rfl zd l (yp d 3).N.length (yz (yp d 3).N) zf HW ⟨w4.heap.size,0,X⟩ 1 1 [Sr u,I J 0,I J t] zf rfl (World.news_of_block (Blk.new w4 _ _)) (wG _ _ _) zo zm zo D _ rfl ?_;intro g cap w5 f a n b0;have j:=(Q.alloc _).grown a H;have k0:=j.u;have m0:=j.H;have HO:=V f;have R:=V a;have HA:=V n;clear f a n j);go_end0;rw[U T];refine⟨rfl,⟨_,_,_,_,_,c.grow6 (x:=(u,0,t)) P (qj R) HO HA zs⟩,?_⟩;exact F.trans ((xk (by have:=c.K;omega) (fun k hk=>(zC c.o6 hk).2) R).setCell c.K _)
 ·have c:=M;have F:=E;clear p N M E;have n0:=c.D.lt;have Q:=V c.D;unfold zX at Q;have H:=c.ne 2 l rfl;have HW:=V (zE c.o6 (C #[Sr u,I J 0,I J t] 223));have m:B<=(w2.alloc (C #[Sr u,I J 0,I J t] 223)).heap.size:=by have:=c.K;simp;omega
  have D:=V m;clear m;have G:=c.D.u;have l0:=c.D.H;unfold zX at G;go_wp2_with (at_builtin;refine wpList_append_lies _ rfl (.tmp 146) (.tmp 151) 175 rfl B 223 i0 _ 3 32 underlying175 hi f0 g0 h0 rfl zd l d.N.length (yz d.N) zf HW ⟨w2.heap.size,0,X⟩ 1 1 [Sr u,I J 0,I J t] zf rfl (World.news_of_block (Blk.new w2 _ _)) (wG _ _ _) zo zm zo D _ rfl ?_;intro g cap w5 f a n b0;have j:=(Q.alloc _).grown a H;have k0:=j.u;have m0:=j.H;have HO:=V f;have R:=V a;have HA:=V n;clear f a n j);go_end0;rw[U T];refine⟨rfl,⟨_,_,_,_,_,c.grow6 (x:=(u,0,t)) P (qj R) HO HA zs⟩,?_⟩;exact F.trans ((xk (by have:=c.K;omega) (fun k hk=>(zC c.o6 hk).2) R).setCell c.K _)
def McE(B:Nat)(w:YW)(b:Nat)(m:MS):Prop:=∃v5 v6 v7 v8,Mc B w b m v5 v6 v7 v8
theorem SB{w:YW}{b:Nat}{ks:List (Nat×Array Value×TypeId)}(d:b<w.heap.size)(e:∀x∈ks,Blk w x.1 x.2.1 x.2.2):∀c∈b::ks.map (fun x=>x.1),c<w.heap.size:=by intro c a;rcases mem_cons.1 a with rfl|a;exact d;obtain⟨x,f,rfl⟩:=mem_map.1 a;exact(e x f).lt
section
variable {B:Nat} {w w1:YW} {b:Nat} {m:MS} {v5 v6 v7 v8:Value}
theorem Mc.ne(h:Mc B w b m v5 v6 v7 v8)(i:Nat)(v:Value)(a:[v5,v6,v7,v8][i]? = O v):O b≠v.ownBlock:=fun e=>h.aD.off i v b a zs e.symm
theorem Mc.drew(h:Mc B w b m v5 v6 v7 v8):Mc B w.drew b m v5 v6 v7 v8:=⟨h.D,h.K,h.aD.drew,h.lims,h.R,h.ints,h.kept,h.kne⟩
theorem Mc.alloc(h:Mc B w b m v5 v6 v7 v8)(o:Obj):Mc B (w.alloc o) b m v5 v6 v7 v8:=⟨h.D.alloc o,h.K,h.aD.alloc o,h.lims,h.R,h.ints,fun x a=>(h.kept x a).alloc o,h.kne⟩
theorem Mc.grow(h:Mc B w b m v5 v6 v7 v8)(i c:Nat)(v v':Value)(f:xL)(a:MS)(u5 u6 u7 u8:Value)(r:[v5,v6,v7,v8][i]? = O v)(d:w.grownBy w1 v.ownBlock)(k:w1.ownsRow B f.e f.size v' f.n f.xs)(o:v'.ownBlock=v.ownBlock\/∃g,v'.ownBlock=O g/\w.heap.size<=g)(t:(yx m v5 v6 v7 v8).setIfInBounds c v'=yx a u5 u6 u7 u8)(s:[v5,v6,v7,v8].set i v'=[u5,u6,u7,u8])(z:(jT m).set i f=jT a)(y:(1<=a.ls/\a.ls<=1000)/\(1<=a.la/\a.la<=1000)/\(1<=a.lc/\a.lc<=1000)/\(1<=a.lo/\a.lo<=1000))(D:a.C.length<=1000/\a.G.length<=1000/\a.aC.length<=1000/\a.cells.length<=1000/\a.out.size<=1000/\(a.out.size:Int)<=a.lo)(u:(∀x∈a.C,inI x)/\(∀x∈a.G,inI x)/\(∀x∈a.cells,inI x))(q:a.ks=m.ks:=by exact rfl) :
    Mc B (w1.setCell ⟨b,c,X⟩ v') b a u5 u6 u7 u8:=by
  have p:=h.D.lt
  have j:∀x∈m.ks,O x.1≠v.ownBlock:=fun x l e=>h.aD.off i v x.1 r (mem_cons_of_mem _ (mem_map_of_mem l)) e.symm
  refine⟨?_,h.K,?_,y,D,u,?_,by rw[q];exact h.kne⟩
  · rw[<-t];exact(h.D.grown d (h.ne i v r)).set c v'
  · rw[<-s,<-z,q];exact(h.aD.grow i v v' f r (SB p h.kept) d k o).set (b:=b) zs c v'
  · rw[q];exact fun x l=>((h.kept x l).grown d (j x l)).far (fun e=>h.kne x l e.symm) v'
theorem Mc.field(h:Mc B w b m v5 v6 v7 v8)(c:Nat)(u:Value)(a:MS)(g:(yx m v5 v6 v7 v8).setIfInBounds c u=yx a v5 v6 v7 v8)(k:jT m=jT a)(j:(1<=a.ls/\a.ls<=1000)/\(1<=a.la/\a.la<=1000)/\(1<=a.lc/\a.lc<=1000)/\(1<=a.lo/\a.lo<=1000))(l:a.C.length<=1000/\a.G.length<=1000/\a.aC.length<=1000/\a.cells.length<=1000/\a.out.size<=1000/\(a.out.size:Int)<=a.lo)(i:(∀x∈a.C,inI x)/\(∀x∈a.G,inI x)/\(∀x∈a.cells,inI x))(d:a.ks=m.ks:=by exact rfl) :
    Mc B (w.setCell ⟨b,c,X⟩ u) b a v5 v6 v7 v8:=by
  refine⟨?_,h.K,?_,j,l,i,?_,by rw[d];exact h.kne⟩
  · rw[<-g];exact h.D.set c u
  · rw[<-k,d];exact h.aD.set (b:=b) zs c u
  · rw[d];exact fun x f=>(h.kept x f).far (fun e=>h.kne x f e.symm) u
theorem Mc.grow5(h:Mc B w b m v5 v6 v7 v8){x:Int}(j:inI x){g cap H:Nat}(f:m.C.length<1000)(e:w.grownBy w1 v5.ownBlock)(a:w1.ownsRow B 2 1 (S (O ⟨g,0,X⟩) (m.C.length+1) cap) (m.C.length+1) (zn m.C++[I J x]))(d:v5.ownBlock=O g\/g=H)(i:w.heap.size<=H) :
    Mc B (w1.setCell ⟨b,5,X⟩ (S (O ⟨g,0,X⟩) (m.C.length+1) cap)) b {m with C:=m.C++[x]} (S (O ⟨g,0,X⟩) (m.C.length+1) cap) v6 v7 v8:=h.grow 0 5 v5 _ ⟨2,1,m.C.length+1,_⟩ _ _ _ _ _ rfl e a (qG d i) (by simp[yx]) rfl (by simp[jT,zn]) h.lims (by have:=h.R;simp;omega)
    ⟨fun y c=>by simp at c;rcases c with c|rfl;exact h.ints.1 y c;exact j,h.ints.2.1,h.ints.2.2⟩
theorem Mc.grow6(h:Mc B w b m v5 v6 v7 v8){x:Int}(j:inI x){g cap H:Nat}(f:m.G.length<1000)(e:w.grownBy w1 v6.ownBlock)(a:w1.ownsRow B 2 1 (S (O ⟨g,0,X⟩) (m.G.length+1) cap) (m.G.length+1) (zn m.G++[I J x]))(d:v6.ownBlock=O g\/g=H)(i:w.heap.size<=H) :
    Mc B (w1.setCell ⟨b,6,X⟩ (S (O ⟨g,0,X⟩) (m.G.length+1) cap)) b {m with G:=m.G++[x]} v5 (S (O ⟨g,0,X⟩) (m.G.length+1) cap) v7 v8:=h.grow 1 6 v6 _ ⟨2,1,m.G.length+1,_⟩ _ _ _ _ _ rfl e a (qG d i) (by simp[yx]) rfl (by simp[jT,zn]) h.lims (by have:=h.R;simp;omega)
    ⟨h.ints.1,fun y c=>by simp at c;rcases c with c|rfl;exact h.ints.2.1 y c;exact j,h.ints.2.2⟩
theorem Mc.grow7(h:Mc B w b m v5 v6 v7 v8){x:Int}{g cap H:Nat}(e:m.aC.length<1000)(d:w.grownBy w1 v7.ownBlock)(a:w1.ownsRow B 3 1 (S (O ⟨g,0,X⟩) (m.aC.length+1) cap) (m.aC.length+1) (zn m.aC++[I J x]))(c:v7.ownBlock=O g\/g=H)(f:w.heap.size<=H) :
    Mc B (w1.setCell ⟨b,7,X⟩ (S (O ⟨g,0,X⟩) (m.aC.length+1) cap)) b {m with aC:=m.aC++[x]} v5 v6 (S (O ⟨g,0,X⟩) (m.aC.length+1) cap) v8:=h.grow 2 7 v7 _ ⟨3,1,m.aC.length+1,_⟩ _ _ _ _ _ rfl d a (qG c f) (by simp[yx]) rfl (by simp[jT,zn]) h.lims (by have:=h.R;simp;omega) h.ints
end
theorem vZ(l r:YI):(zn (l++r)).take (l.length*1)=zn l:=by simp[zn]
theorem Mc.cut5{B:Nat}{w:YW}{b:Nat}{m:MS}{d e f:Value}{g k n:Nat}(h:Mc B w b m (S (O ⟨g,0,X⟩) n k) d e f)(l r:YI)(he:m.C=l++r)(c:m.C.length=n):Mc B (w.setCell ⟨b,5,X⟩ (S (O ⟨g,0,X⟩) l.length k)) b {m with C:=l} (S (O ⟨g,0,X⟩) l.length k) d e f:=by
 subst c;have c:m.C.length=l.length+r.length:=by rw[he];simp
 have a:=bV h.o5 l.length zo;rw[he,vZ]at a
 exact h.grow 0 5 _ _ ⟨2,1,l.length,zn l⟩ _ _ _ _ _ rfl (World.grownBy.refl _ _) a (Zg rfl) (by simp[yx]) rfl (by simp[jT]) h.lims (by have:=h.R;simp;omega)
   ⟨fun y i=>h.ints.1 y (by rw[he];simp;exact Zg i),h.ints.2.1,h.ints.2.2⟩
theorem Mc.cut6{B:Nat}{w:YW}{b:Nat}{m:MS}{d e f:Value}{g k n:Nat}(h:Mc B w b m d (S (O ⟨g,0,X⟩) n k) e f)(l r:YI)(he:m.G=l++r)(c:m.G.length=n):Mc B (w.setCell ⟨b,6,X⟩ (S (O ⟨g,0,X⟩) l.length k)) b {m with G:=l} d (S (O ⟨g,0,X⟩) l.length k) e f:=by
 subst c;have c:m.G.length=l.length+r.length:=by rw[he];simp
 have a:=bV h.o6 l.length zo;rw[he,vZ]at a
 exact h.grow 1 6 _ _ ⟨2,1,l.length,zn l⟩ _ _ _ _ _ rfl (World.grownBy.refl _ _) a (Zg rfl) (by simp[yx]) rfl (by simp[jT]) h.lims (by have:=h.R;simp;omega)
   ⟨h.ints.1,fun y i=>h.ints.2.1 y (by rw[he];simp;exact Zg i),h.ints.2.2⟩
theorem Mc.cut7{B:Nat}{w:YW}{b:Nat}{m:MS}{d e f:Value}{g k n:Nat}(h:Mc B w b m d e (S (O ⟨g,0,X⟩) n k) f)(l r:YI)(he:m.aC=l++r)(c:m.aC.length=n):Mc B (w.setCell ⟨b,7,X⟩ (S (O ⟨g,0,X⟩) l.length k)) b {m with aC:=l} d e (S (O ⟨g,0,X⟩) l.length k) f:=by
 subst c;have c:m.aC.length=l.length+r.length:=by rw[he];simp
 have a:=bV h.o7 l.length zo;rw[he,vZ]at a;exact h.grow 2 7 _ _ ⟨3,1,l.length,zn l⟩ _ _ _ _ _ rfl (World.grownBy.refl _ _) a (Zg rfl) (by simp[yx]) rfl (by simp[jT]) h.lims (by have:=h.R;simp;omega) h.ints
theorem af:(prog.info? 2).map (fun i=>(i.zero,i.size,i.bytes))=O (O (I J 0),1,8):=zr
theorem jw(B b:Nat)(m:MS)(w:YW)(h:McE B w b m)(l:YI)(x:Int)(he:m.C=l++[x]):Calls prog 213 #[A (O ⟨b,0,X⟩)] w fun e w'=>e=Rt (I J x)/\McE B w' b {m with C:=l}/\Below B w w':=by
 obtain⟨t,u,v,y,h⟩:=h;have j:m.C.length=l.length+1:=by rw[he];simp
 obtain⟨g,k,rfl,q,f⟩:=h.o5.form zo;have a:=h.D;have i:=a.lt;unfold yx at a;have c:=h.o5;rw[j]at a c;have n:=zD c l.length zo;rw[he,ja]at n;have s:(l.length:Int)<=1000:=by have:=h.R;omega
 have r:(l.length:Int)+1<=k:=by have:=(vG c).1;omega
 have d:inI x:=h.ints.1 x (by rw[he];simp);unfold inI at d;have o:=a.u;have p:=a.H;clear a c;go_enter func213,ntmps213;go_wp2;go_region;go_wp2;go_region;go_wp2;go_ret;refine⟨rfl,⟨_,_,_,_,((h.cut5 l [x] he rfl).drew).drew⟩,?_⟩;exact(((Ze B w).setCell h.K _).drew).drew
theorem wF(B b:Nat)(m:MS)(x:Int)(w:YW)(h:McE B w b m)(L:inI x)(j:m.C.length<1000):Calls prog 212 #[A (O ⟨b,0,X⟩),I J x] w fun e w'=>e=Rt (Tu #[])/\McE B w' b {m with C:=m.C++[x]}/\Below B w w':=by
 obtain⟨u,P,Q,R,h⟩:=h;obtain⟨M,G,o,p,q⟩:=info_parts af;have K:=h.D.lt;have D:=h.D.u;have N:=h.D.H;unfold yx at D;have r:=V h.D;unfold yx at r;have n:=h.ne 0 u rfl;have z:=V (zE h.o5 (C #[I J x] 2));have f:B<=(w.alloc (C #[I J x] 2)).heap.size:=by have:=h.K;simp;omega
 have l:=V f;clear f;go_enter func212,ntmps212;go_wp2_with (at_builtin;refine wpList_append_lies _ rfl (.tmp 8) (.tmp 10) 42 rfl B 2 M _ 1 8 underlying42 G o p q rfl zd u m.C.length (zn m.C) zf z ⟨w.heap.size,0,X⟩ 1 1 [I J x] zf rfl (World.news_of_block (Blk.new w _ _)) (ky _) zo zm zo l _ rfl ?_;intro g cap T c a i t;have d:=(r.alloc _).grown a n;have E:=d.u;have F:=d.H;have y:=V c;have s:=V a;have v:=V i;clear c a i d);go_end0;refine⟨rfl,⟨_,_,_,_,h.grow5 L j (qj s) y v zs⟩,?_⟩;exact(xk (by have:=h.K;omega) (fun k H=>(zC h.o5 H).2) s).setCell h.K _
def db(st:RS)(t:YB):RS:={st with N:=st.N++[(t,0,st.cells)],cells:=st.cells+1}
theorem uV(B b:Nat)(st:RS)(w:YW)(h:RdE B w b st)(y:st.next<=st.s.size)(ht:st.E=⟨#[118,97,114,105,97,98,108,101]⟩)(e0:st.P<0)(z:st.Q=[])(o:(zP st).err=0)(N:(zP st).N.length<4000)(n:0<=(zP st).cells/\(zP st).cells<=4000):Calls prog 127 #[A (O ⟨b,0,X⟩)] w fun e w'=>e=Rt (Tu #[])/\RdE B w' b (db (zP st) (zF st).E)/\Below B w w':=by
 obtain⟨i0,hi,D,E,F⟩:=info_parts oY;have q:=V (gw B b st w h y);have p:((zP st).err != 0)=Z:=by simpa using o
 clear o;generalize zP st=c at q p N n ⊢;generalize (zF st).E=r at q ⊢;obtain⟨W,b0⟩:=n;obtain⟨v4,v5,H,v7,G,h⟩:=h;obtain⟨a7,k7,rfl⟩:=zu h.o7;have m:=h.D.u;have M:=h.D.H;unfold zX at m;rw[z,ht]at m;go_enter func127,ntmps127;go_wp2_with fail;refine q.m ?_;rintro e t ⟨rfl,⟨v4,v5,H,v7,G,d⟩,f⟩;clear q m M h;have d0:=d.D.lt;have m:=d.D.u;have M:=d.D.H;unfold zX at m;have K:=V d.D;unfold zX at K;have v:=d.ne 2 H rfl;have T:=V (zE d.o6 (C #[Sr r,I J 0,I J c.cells] 223));have j:B<=(t.alloc (C #[Sr r,I J 0,I J c.cells] 223)).drew.heap.size:=by have:=d.K;show B<=(t.alloc _).heap.size;simp;omega
 have u:=V j;clear j;go_wp2;go_region_law (refine step_append_lies _ rfl (.tmp 107) (.tmp 115) 175 rfl B 223 i0 _ 3 32 underlying175 hi D E F rfl zd H c.N.length (yz c.N) zf T ⟨t.heap.size,0,X⟩ 1 1 [Sr r,I J 0,I J c.cells] zf rfl (World.news_of_block (Blk.new t _ _)) (wG _ _ _) zo zm zo u _ rfl ?_;intro g cap w2 i a l P;have f:=(K.alloc _).drew.grown a v;have a0:=f.u;have c0:=f.H;have R:=V i;have L:=V a;have Q:=V l;clear i a l f);all_goals go_wp2;go_end0;refine⟨rfl,⟨_,_,_,_,_,(d.grow6 (x:=(r,0,c.cells)) N (xU L) R Q zs).celled (c.cells+1)⟩,?_⟩;exact f.trans (((xh (by have:=d.K;omega) (fun k hk=>(zC d.o6 hk).2) L).setCell d.K _).setCell d.K _)
theorem lu(B b:Nat)(st:RS)(c d f g a:Value)(w:YW)(h:Rd B w b st c d f g a):Calls prog 175 #[A (O ⟨b,0,X⟩)] w fun e w'=>e=Rt (Sr (kW st))/\∃n,w'=w.drewN n:=by unfold kW;rcases Zz st.Q with e|⟨l,x,e⟩;rw[e];exact Nu B b st c d f g a w h e;rw[concat_eq_append]at e;rw[e];simp only[getLast?_concat];exact aY B b st c d f g a w h l x e
def xn(st:RS)(x:ByteArray×Int×Int):RS:={st with Q:=st.Q++[x]}
theorem Kf(B b:Nat)(st:RS)(w:YW)(h:RdE B w b st)(ht:st.E=⟨#[105,102]⟩)(m:st.c0.length<4000/\st.c1.length<4000)(o:(zQ st 2 0).Q.length<4000):Calls prog 128 #[A (O ⟨b,0,X⟩)] w fun e w'=>e=Rt (Tu #[])/\RdE B w' b (xn (zQ st 2 0) (⟨#[105,102]⟩,0,zM st))/\Below B w w':=by
 obtain⟨i0,hi,E,F,G⟩:=info_parts kl;obtain⟨N,P,Q,t,q,h⟩:=h;have y:=V (lu B b st N P Q t q w h);have r:Hid (∀n,Calls prog 172 #[A (O ⟨b,0,X⟩),I J 2,I J 0] (w.drewN n) fun e w'=>e=Rt (I J (zM st))/\RdE B w' b (zQ st 2 0)/\Below B (w.drewN n) w'):=fun n=>nA B b st 2 0 (w.drewN n) ⟨_,_,_,_,_,h.drewN n⟩ m;generalize zQ st 2 0=p at r o ⊢;generalize zM st=s at r ⊢;generalize kW st=ls at y;have l:=h.D.u;have L:=h.D.H;unfold zX at l;rw[ht]at l;go_enter func128,ntmps128;go_wp2_with fail;refine y.m ?_;rintro e u ⟨rfl,n,rfl⟩;go_wp2_with fail;refine(U r n).m ?_;rintro e u ⟨rfl,⟨N,P,Q,t,q,c⟩,z⟩;clear y r l L h;have d0:=c.D.lt;have H:=V c.D;unfold zX at H;have D:=c.ne 3 t rfl;have W:=V (zE c.o7 (C #[Sr ⟨#[105,102]⟩,I J 0,I J s] 225));have i:B<=(u.alloc (C #[Sr ⟨#[105,102]⟩,I J 0,I J s] 225)).heap.size:=by have:=c.K;simp;omega
 have v:=V i;clear i;have l:=c.D.u;have L:=c.D.H;unfold zX at l;go_wp2_with (at_builtin;refine wpList_append_lies _ rfl (.tmp 27) (.tmp 30) 176 rfl B 225 i0 _ 3 32 underlying176 hi E F G rfl zd t p.Q.length (yz p.Q) zf W ⟨u.heap.size,0,X⟩ 1 1 [Sr ⟨#[105,102]⟩,I J 0,I J s] zf rfl (World.news_of_block (Blk.new u _ _)) (wG _ _ _) zo zm zo v _ rfl ?_;intro g cap w5 d a j M;have f:=(H.alloc _).grown a D;have a0:=f.u;have b0:=f.H;have T:=V d;have K:=V a;have R:=V j;clear d a j f);refine bodyPost_ret (results_none rfl _ _ _) rfl ?_;refine⟨rfl,⟨_,_,_,_,_,c.grow7 (x:=(⟨#[105,102]⟩,0,(s:Int))) o (qj K) T R zs⟩,?_⟩;exact(zS (Ze B w) n).trans (z.trans ((xk (by have:=c.K;omega) (fun k hk=>(zC c.o7 hk).2) K).setCell c.K _))
end Go.Proofs.YtmeiikjpaepogaaGreatDoor
