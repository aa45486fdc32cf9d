/- Own. -/
import Derived.Test.YtmeiikjpaepogaaGreatDoorD24
import Derived.Laws.CopyOwn
import Derived.Deep.MidRow
import Derived.OwnWalk
import Derived.Laws.StructEq
import Derived.BigQuiet
import Derived.Laws.OwnMore
import Derived.Laws.AppendOwn
import Derived.Lib.AppendZeros
open Option renaming some->O,none->X
open Bool renaming true->Y,false->Z
open Go.Value renaming int->I,slice->S,pointer->A,bool->Bl,string->Sr,tuple->Tu,agg->Ag
open Go.Obj renaming cells->C
open Go.Ending renaming returned->Rt
open Go.IntKind renaming i64->J
set_option maxRecDepth 100000
set_option maxHeartbeats 16000000
namespace Go.Proofs.YtmeiikjpaepogaaGreatDoor
open Go Go.RowKit Go.Proofs.Tryz List
structure fx(w:YW)(l:YL)(p:Nat)(en ce ls la lc lo fuel:Int)(er:Int)(vS vC:Value)(out:YB)(st:Int)(w':YW):Prop where
 no:¬xG ls la lc lo->er=6/\vS=S X 0 0/\vC=S X 0 0/\out=⟨#[]⟩/\st=0
 yes:xG ls la lc lo->er=(zO l fuel.toNat 0 (zZ p ls la lc lo en ce)).2.1/\out=(zO l fuel.toNat 0 (zZ p ls la lc lo en ce)).1.out/\st=(zO l fuel.toNat 0 (zZ p ls la lc lo en ce)).2.2
 ok:xG ls la lc lo->er=0->w'.ownsRow w.heap.size 2 1 vS (zO l fuel.toNat 0 (zZ p ls la lc lo en ce)).1.C.length (zn (zO l fuel.toNat 0 (zZ p ls la lc lo en ce)).1.C)/\w'.ownsRow w.heap.size 2 1 vC (zO l fuel.toNat 0 (zZ p ls la lc lo en ce)).1.cells.length (zn (zO l fuel.toNat 0 (zZ p ls la lc lo en ce)).1.cells)/\(zO l fuel.toNat 0 (zZ p ls la lc lo en ce)).1.C.length<=1000/\(zO l fuel.toNat 0 (zZ p ls la lc lo en ce)).1.cells.length<=1000/\∀j,vS.ownBlock=O j->vC.ownBlock≠O j
 bad:er≠0->vS=S X 0 0/\vC=S X 0 0
 z:Below w.heap.size w w'
theorem mV.res{w:YW}{l:YL}{p:Nat}{en ce ls la lc lo fuel:Int}{e:Ending}{w':YW}(h:mV w l p en ce ls la lc lo fuel e w'):∃er f n k g o m out st,e=Rt (Ag #[I J er,S f n k,S g o m,Sr out,I J st])/\fx w l p en ce ls la lc lo fuel er (S f n k) (S g o m) out st w':=by obtain⟨i,c⟩:=h;by_cases a:xG ls la lc lo;obtain⟨y,x,rfl,s,t,d⟩:=c a;by_cases he:(zO l fuel.toNat 0 (zZ p ls la lc lo en ce)).2.1=0;obtain⟨q,r,v,o4,o5⟩:=s he;obtain⟨f,k,rfl⟩:=zu q;obtain⟨g,m,rfl⟩:=zu r;exact⟨_,_,_,_,_,_,_,_,_,rfl,⟨fun b=>absurd a b,fun _=>⟨rfl,rfl,rfl⟩,fun _ _=>⟨q,r,v,o4,o5⟩,fun b=>absurd he b,d⟩⟩;obtain⟨rfl,rfl⟩:=t he;exact⟨_,_,_,_,_,_,_,_,_,rfl,⟨fun b=>absurd a b,fun _=>⟨rfl,rfl,rfl⟩,fun _ u=>absurd u he,fun _=>⟨rfl,rfl⟩,d⟩⟩;obtain⟨rfl,d⟩:=i a;exact⟨_,_,_,_,_,_,_,_,_,rfl,⟨fun _=>⟨rfl,rfl,rfl,rfl,rfl⟩,fun j=>absurd j a,fun j=>absurd j a,fun _=>⟨rfl,rfl⟩,d⟩⟩
structure dx(w:YW)(c:Nat)(vl:Value)(en ce ls la lc lo:Int)(W:YW):Prop where
 c:Blk W c #[vl,I J en,I J ce] 78
 l:Blk W w.heap.size #[I J ls,I J la,I J lc,I J lo] 39
 r:Blk W (w.heap.size+1) #[I J 0,S X 0 0,S X 0 0,Sr ⟨#[]⟩,I J 0] 44
 z:Below w.heap.size w W
 size:w.heap.size+2<=W.heap.size
theorem dx.on{w:YW}{c:Nat}{d:Value}{en ce ls la lc lo:Int}{W b:YW}(h:dx w c d en ce ls la lc lo W)(a:Below W.heap.size W b):dx w c d en ce ls la lc lo b:=⟨h.c.z a h.c.lt,h.l.z a h.l.lt,h.r.z a h.r.lt,h.z.trans (a.m h.z.size),Nat.le_trans h.size a.size⟩
def sB(w:YW)(c:Nat)(vl:Value)(en ce ls la lc lo:Int)(W:YW):Prop:=W.cell? ⟨c,0,X⟩=O vl/\W.cell? ⟨c,1,X⟩=O (I J en)/\W.cell? ⟨c,2,X⟩=O (I J ce)/\W.cell? ⟨w.heap.size,0,X⟩=O (I J ls)/\W.cell? ⟨w.heap.size,1,X⟩=O (I J la)/\W.cell? ⟨w.heap.size,2,X⟩=O (I J lc)/\W.cell? ⟨w.heap.size,3,X⟩=O (I J lo)
theorem dx.s{w:YW}{c:Nat}{a:Value}{en ce ls la lc lo:Int}{W:YW}(h:dx w c a en ce ls la lc lo W):sB w c a en ce ls la lc lo W:=⟨h.c.u 0,h.c.u 1,h.c.u 2,h.l.u 0,h.l.u 1,h.l.u 2,h.l.u 3⟩
theorem dx.s5{w:YW}{c:Nat}{n:Value}{en ce ls la lc lo:Int}{W:YW}(h:dx w c n en ce ls la lc lo W)(o:c<w.heap.size)(g i j k m:Value):sB w c n en ce ls la lc lo (((((W.setCell ⟨w.heap.size+1,0,X⟩ g).setCell ⟨w.heap.size+1,1,X⟩ i).setCell ⟨w.heap.size+1,2,X⟩ j).setCell ⟨w.heap.size+1,3,X⟩ k).setCell ⟨w.heap.size+1,4,X⟩ m):=by have b:c≠w.heap.size+1:=zo;have d:w.heap.size≠w.heap.size+1:=zo;have f:=((((h.c.far (a:=⟨w.heap.size+1,0,X⟩) b g).far (a:=⟨w.heap.size+1,1,X⟩) b i).far (a:=⟨w.heap.size+1,2,X⟩) b j).far (a:=⟨w.heap.size+1,3,X⟩) b k).far (a:=⟨w.heap.size+1,4,X⟩) b m;have e:=((((h.l.far (a:=⟨w.heap.size+1,0,X⟩) d g).far (a:=⟨w.heap.size+1,1,X⟩) d i).far (a:=⟨w.heap.size+1,2,X⟩) d j).far (a:=⟨w.heap.size+1,3,X⟩) d k).far (a:=⟨w.heap.size+1,4,X⟩) d m;exact⟨f.u 0,f.u 1,f.u 2,e.u 0,e.u 1,e.u 2,e.u 3⟩
theorem aq.ofRow{w:YW}{g cap:Nat}{l:YL}(h:w.ownsRow 0 65 2 (S (O ⟨g,0,X⟩) l.length cap) l.length (zc l)):aq w.heap.size w g l:=by refine⟨(zC h (k:=g) rfl).1,fun k x a=>?_⟩;have d:k<l.length:=(Zb.1 a).1;obtain⟨b,c⟩:=zL l k x a;have c1:=zD h (k*2) zo;have c2:=zD h (k*2+1) zo;rw[b]at c1;rw[c]at c2;exact⟨c1,c2⟩
theorem FY(w:YW)(c p:Nat)(l:YL)(en ce ls la lc lo fuel:Int)(h:wh w c l en ce)(ht:Lib.TabIs prog w "internal/strconv.uint64pow10" .u64 Lib.pow10Tab)(c0:yX l)(r0:0≤en∧en < l.length)(o0:0≤ce∧ce≤1000)(s0:fuel≤1000000000):Calls prog 23 #[A (O ⟨c,0,X⟩),Ag #[I J ls,I J la,I J lc,I J lo],I J fuel] w fun e w'=>∃er vS vC out st,e=Rt (xX er vS vC out st)∧fx w l p en ce ls la lc lo fuel er vS vC out st w':=by
 obtain⟨g,cap,D,ho⟩:=h;have d0:0<l.length:=zo;have q0:=D.lt;have o:=yG w (C #[I J ls,I J la,I J lc,I J lo] 39) (C #[I J 0,S X 0 0,S X 0 0,Sr ⟨#[]⟩,I J 0] 44);have f:dx w c (S (O ⟨g,0,X⟩) l.length cap) en ce ls la lc lo ((w.alloc (C #[I J ls,I J la,I J lc,I J lo] 39)).alloc (C #[I J 0,S X 0 0,S X 0 0,Sr ⟨#[]⟩,I J 0] 44)):=by refine⟨D.z o D.lt,?_,?_,o,zs⟩;exact zk;exact zk
 have y:=(aq.ofRow ho).to o;have u0:=V (And.intro y.low y.u);have f0:∀W',Below w.heap.size w W'→Lib.TabIs prog W' "internal/strconv.uint64pow10" .u64 Lib.pow10Tab:=Lib.tabBelow_of_tabIs ht;have m0:=V f0;have k0:=V c0;have K:=V (Ci c g l.length cap _ _ _ f.c d0);have u:=V f;have k:aq w.heap.size w g l:=aq.ofRow ho;have j0:=V k;clear D ho y f0 c0 f o k ht;generalize g0:(Value.slice (O ⟨g,0,X⟩) l.length cap)=vl at *;have n0:=V g0;clear g0;go_enter func23,ntmps23;go_wp2_with fail;refine K.m ?_;rintro e W ⟨rfl,hw⟩;rw[←hw]at u;clear hw K;have H:=V (u.on (yP (Ze _ _)));have x:=V H.s;have L:=V (rA W.drew);have q:Hid (∀z i,bu i z→dx w c vl en ce ls la lc lo i→Calls prog 40 #[A (O ⟨z,0,X⟩),Ag #[vl,I J en,I J ce],Ag #[I J ls,I J la,I J lc,I J lo],I J fuel] i (mV i l p en ce ls la lc lo fuel)):=by intro z i h1 h2;rw[←U n0];have b0:=j0.to h2.z;exact rR z g cap p l en ce ls la lc lo fuel i h1 (U m0 i h2.z) ⟨Nat.lt_of_lt_of_le b0.low h2.z.size,b0.u⟩ k0 r0 o0 s0
 have p0:=u.c.lt;have t0:c<W.heap.size:=p0;unfold sB at x;go_wp2;go_cut []from 7 to 17 (fun wc=>∃er R n1 k1 T n2 k2 out st i B,dx w c vl en ce ls la lc lo i/\fx i l p en ce ls la lc lo fuel er (S R n1 k1) (S T n2 k2) out st B/\wc=((((B.setCell ⟨w.heap.size+1,0,X⟩ (I J er)).setCell ⟨w.heap.size+1,1,X⟩ (S R n1 k1)).setCell ⟨w.heap.size+1,2,X⟩ (S T n2 k2)).setCell ⟨w.heap.size+1,3,X⟩ (Sr out)).setCell ⟨w.heap.size+1,4,X⟩ (I J st))
 case first=>
  go_region_held_law (fun w'=>w'.cell? ⟨c,0,X⟩=O vl/\w'.cell? ⟨c,1,X⟩=O (I J en)/\w'.cell? ⟨c,2,X⟩=O (I J ce)/\w'.cell? ⟨w.heap.size,0,X⟩=O (I J ls)/\w'.cell? ⟨w.heap.size,1,X⟩=O (I J la)/\w'.cell? ⟨w.heap.size,2,X⟩=O (I J lc)/\w'.cell? ⟨w.heap.size,3,X⟩=O (I J lo)) (first|with_reducible exact U N|with_reducible exact U Q _ _ _ _ _|with_reducible exact U M|with_reducible exact U x) (first
    | (refine zN rfl 39 #[] #[] rfl func39 RL RE #[] (by first|rfl|(simp;done)) (by exact U L) ?_;rintro e i ⟨z,rfl,e0,a0⟩;have b:=H.on a0;have M:=V b.s;unfold sB at M;have l0:=V (U q z i e0 b);have G:=V b;clear e0 a0 b;refine⟨_,rfl,?_⟩)
    | (refine zN rfl 40 #[.tmp 10,.tmp 14,.tmp 15,.tmp 16] #[82,73,39,3] rfl func40 uz uy #[A (O ⟨z,0,X⟩),Ag #[vl,I J en,I J ce],Ag #[I J ls,I J la,I J lc,I J lo],I J fuel] zh (by exact U l0) ?_;rintro e B t;obtain⟨er,R,n1,k1,T,n2,k2,out,st,rfl,a⟩:=t.res;have d:=G.on a.z;have N:=V d.s;unfold sB at N;have Q:=V (d.s5 q0);unfold sB at Q;have v0:=d.r.u;have w0:=d.r.H;have x0:=d.r.lt;have j:=V a;clear a t d;refine⟨_,rfl,?_⟩))
  all_goals go_wp2;go_meet;exact⟨er,R,n1,k1,T,n2,k2,out,st,i,B,U G,U j,rfl⟩
 case rest=>
  obtain⟨er,R,n1,k1,T,n2,k2,out,st,i,B,b,a,rfl⟩:=hcut;have d:=b.on a.z;have i0:=V d;have h0:=V b;have j:=V a;clear d b a x L q;go_wp2;refine bodyPost_ret (results_cell_row (P:=prog) rfl _ _ (w.heap.size+1) 44 _ (0,0) _ rfl (dk i0.r rfl) underlying44 rfl jO) rfl ?_;have a:=U j;have b:=U h0;have y0:=b.size;have m:∀{v:Value} {n:Nat} {xs:List Value},B.ownsRow i.heap.size 2 1 v n xs->v.ownBlock≠O (w.heap.size+1):=fun ho e=>by have:=(zC ho e).2;omega
  refine⟨er,_,_,out,st,rfl,⟨a.no,a.yes,fun h1 h2=>?_,a.bad,?_⟩⟩;obtain⟨E,F,o3⟩:=a.ok h1 h2;exact⟨zV (zA (zA (zA (zA (zA E (m E) _) (m E) _) (m E) _) (m E) _) (m E) _) zo,zV (zA (zA (zA (zA (zA F (m F) _) (m F) _) (m F) _) (m F) _) (m F) _) zo,o3⟩;have D:Below w.heap.size w B:=b.z.trans (a.z.m zo);exact((((D.setCell zs _).setCell zs _).setCell zs _).setCell zs _).setCell zs _
theorem Hw(g off c:Nat)(l:YL)(w:YW)(hg:g<w.heap.size)(m:∀j u,(zc l)[j]? = O u->w.cell? ⟨g,off+j,X⟩=O u)(k0:0<l.length)(h5:l.length<=5000):Calls prog 57 #[S (O ⟨g,off,X⟩) l.length c] w fun e w'=>e=Rt (Bl (l.all (qm l.length)&&aj l))/\Below w.heap.size w w':=by
 have K:=V m;have m0:(l.length:Int)<=5000:=zo
 have D:∀(k:Nat)(x:Int×Int),l[k]? = O x->qm l.length x=Z->(l.all (qm l.length)&&aj l)=Z:=fun k x B h=>by
   have:l.all (qm l.length)=Z:=by
     rw[all_eq_false]
     exact⟨x,Zd B,by rw[h];simp⟩
   rw[this]
   rfl
 have p:=V D
 have t:(∀j x,j<l.length->l[j]? = O x->qm l.length x=Y)->(l.all (qm l.length)&&aj l)=aj l:=fun h=>by
   have:l.all (qm l.length)=Y:=by
     rw[all_eq_true]
     intro x B
     obtain⟨j,H,e⟩:=getElem_of_mem B
     exact h j x H (by rw[Za H,e])
   rw[this]
   rfl
 have a0:=V t;clear m D t;generalize (l.all (qm l.length)&&aj l)=res at *;go_enter func57,ntmps57;go_wp2;go_loopw [7] (fun i wr=>∃k:Nat,i=I J k/\k<=l.length/\(∀j x,j<k->l[j]? = O x->qm l.length x=Y)/\Below w.heap.size w wr) (fun i _=>l.length-(intOf i).toNat);case atStart=>exact⟨0,rfl,Zq _,fun j x H=>absurd H (Nat.not_lt_zero _),Ze _ _⟩
 case round=>
  obtain⟨k,rfl,hk,s,b⟩:=hrel;have o:=V s;have b0:=V b;have o0:g<wr.heap.size:=by have:=b.size;omega
  by_cases R:k<l.length
  ·obtain⟨x,B⟩:∃x,l[k]? = O x:=⟨_,Za R⟩;have n:=fL K B;have g0:wr.cell? ⟨g,off+k*2,X⟩=O (I J x.1):=by rw[b.u (by simpa using hg)];exact n.1
   have h0:wr.cell? ⟨g,off+k*2+1,X⟩=O (I J x.2):=by rw[b.u (by simpa using hg)];exact n.2
   have i0:(k:Int)<l.length:=zo;have E:=V (fun W=>Bv x.1 W);have F:=V (fun W=>cN x.1 W);have Q:Below w.heap.size w (wr.alloc (C #[I J x.1,I J x.2] 65)):=b.trans ((zB wr _).m b.size);have q:=V Q;have N:=V B;have a:qm l.length x=(opS x.1&&(!zT x.1 || decide (0<=x.2/\x.2<l.length))):=rfl;generalize T:qm l.length x=sx at a;have r:=V T;clear B n s b Q T;generalize x.1=xo at *;generalize x.2=xa at *;generalize e0:opS xo=ob at E a;generalize d0:zT xo=nb at F a;clear e0 d0;go_wp2_with fail;refine(U E _).m ?_;rintro e w1 ⟨rfl,d⟩;obtain rfl:=d.symm;clear d E;cases ob
   ·have M:=V (U p k x N (by rw[U r,a];rfl));clear a;go_wp2;go_ret;rw[U M];exact⟨rfl,U q⟩
   ·go_wp2_with fail;refine(U F _).m ?_;rintro e w1 ⟨rfl,d⟩;obtain rfl:=d.symm;clear d F;cases nb
    ·have f:sx=Y:=by rw[a];rfl
     clear a;go_wp2;go_roundw;case rel=>refine⟨k+1,by go_num,zo,?_,U q⟩;intro j y H G;rcases Nat.lt_or_ge j k with P|P;exact U o j y P G;obtain rfl:j=k:=zo;rw[U N]at G;obtain rfl:=Zl G;rw[U r];exact f
     case measure=>exact zv
    ·by_cases j0:xa<0
     ·have M:=V (U p k x N (by rw[U r,a];simp;omega));clear a;go_wp2;go_ret;rw[U M];exact⟨rfl,U q⟩
     by_cases f0:(l.length:Int)<=xa
     ·have M:=V (U p k x N (by rw[U r,a];simp;omega));clear a;go_wp2;go_ret;rw[U M];exact⟨rfl,U q⟩
     ·have f:sx=Y:=by rw[a];simp;omega
      clear a;go_wp2;go_roundw;case rel=>refine⟨k+1,by go_num,zo,?_,U q⟩;intro j y H G;rcases Nat.lt_or_ge j k with P|P;exact U o j y P G;obtain rfl:j=k:=zo;rw[U N]at G;obtain rfl:=Zl G;rw[U r];exact f
      case measure=>exact zv
  ·have c0:k=l.length:=zo;subst c0;obtain⟨x,B⟩:∃x,l[l.length-1]? = O x:=⟨_,Za zo⟩;have z:l.getLast? = O x:=by rw[getLast?_eq_getElem?];exact B
   have n:=fL K B;have n0:wr.cell? ⟨g,off+(l.length-1)*2,X⟩=O (I J x.1):=by rw[b.u (by simpa using hg)];exact n.1
   have l0:(l.length:Int)-1=((l.length-1:Nat):Int):=zo;have p0:(((l.length-1:Nat)):Int)<l.length:=zo;have v:aj l=decide (x.1=1\/x.1=4\/x.1=5):=by unfold aj;rw[z]
   have HE:=V v;have L:=V (nX x.1 wr);clear B z n s b R v;generalize decide (x.1=1\/x.1=4\/x.1=5)=eb at *;go_wp2_with fail;refine L.m ?_;rintro e w1 ⟨rfl,d⟩;obtain rfl:=d.symm;clear d L;go_wp2;go_ret;rw[U a0 (U o),U HE];refine⟨?_,U b0⟩;cases eb<;>rfl
theorem JZ(g off c:Nat)(l:YL)(w:YW)(E:g<w.heap.size)(a:∀j u,(zc l)[j]? = O u->w.cell? ⟨g,off+j,X⟩=O u)(h:0<l.length)(L:l.length<=50000):Calls prog 37 #[S (O ⟨g,off,X⟩) l.length c] w fun e w'=>∃v,e=Rt v/\w'.ownsRow w.heap.size 65 2 v l.length (zc l)/\Below w.heap.size w w':=by
 obtain⟨H,q,i,m,n⟩:=info_parts yJ;have s:(w.alloc (C #[] 65)).ownsRow w.heap.size 65 2 (S (O ⟨w.heap.size,0,X⟩) 0 0) 0 []:=⟨rfl,Zf ⟨w.heap.size,0,#[],rfl,Zc _,Blk.new w _ _,Zc _,zm,rfl,rfl⟩⟩;have y:=V s
 have d:∀j u,(zc l)[j]? = O u->(w.alloc (C #[] 65)).cell? ((⟨g,off,X⟩:Addr).add j)=O u:=fun j u F=>by
   rw[cA,(zB w (C #[] 65)).u (by simpa using E)]
   exact a j u F
 have D:=V d;have B:Hid ((zc l).length=l.length*2):=yL l;have M:∀W:YW,(binOp .eql 33 (S (O ⟨g,off,X⟩) l.length c) (S X 0 0)).run prog W=.ok (Bl Z) W:=fun W=>Lib.run_eql_slice_nil W _ _ _ _ _ _ _ underlying33;clear s d a;go_enter func37,ntmps37;go_wp2_with (at_builtin;refine wpList_append_lies _ rfl (.tmp 5) (.tmp 6) 33 rfl w.heap.size 65 H _ 2 16 underlying33 q i m n rfl zd (S (O ⟨w.heap.size,0,X⟩) 0 0) 0 [] zf y ⟨g,off,X⟩ l.length c (zc l) zf B D (kP l) h zm zo zs _ rfl ?_;intro K r N f b p t;have o:=V f;have z:=V b;clear f b p);go_ret;have x:=U o;rw[Nat.zero_add,nil_append]at x;refine⟨_,rfl,x,((Ze _ _).alloc (Zc _) _).grown z zs (fun k G=>by simp[Value.ownBlock]at G;omega)⟩
theorem dX{P:Program}{b:Func}{p u:Tmp}{a:TypeId}(h:b.results=#[.cell p a,.tmp u])(tmps:YV)(w:YW)(g:Nat)(t:TypeId)(cs:YV)(c:Nat×Nat)(d:TypeDesc)(k:tmps.getD p undef=A (O ⟨g,0,X⟩))(i:w.heap[g]? = O (C cs t c))(l:P.underlying a=O d)(f:(match d with|.struct _|.array _ _=>Y|_=>Z)=Y)(j:(P.info? a).map (·.size)=O cs.size):(results b tmps).run P w=.ok (Tu #[.agg cs,tmps.getD u undef]) w:=Us
def Uw (w:YW) (l:YL) (en ce:Int) (e:Ending) (w':YW):Prop :=
  (jD l en ce = Z ∧ e = Rt (Tu #[Ag #[S X 0 0, I J 0, I J 0], I J 5]) ∨
   jD l en ce=Y∧∃ g cap,e=Rt (Tu #[Ag #[S (O ⟨g,0,X⟩) l.length cap,I J en,I J ce],I J 0])∧w'.ownsRow w.heap.size 65 2 (S (O ⟨g,0,X⟩) l.length cap) l.length (zc l))∧Below w.heap.size w w'
theorem Mp(ao:YA)(c:Nat)(l:YL)(en ce:Int)(w:YW)(K:InL w ao l):Calls prog 38 #[S ao l.length c,I J en,I J ce] w (Uw w l en ce):=by
 have m:Below w.heap.size w (w.alloc (C #[S X 0 0,I J 0,I J 0] 73)):=zb;have T:=Blk.new w #[S X 0 0,I J 0,I J 0] 73;have q:=V m;have B:=V T;have b:=V (fun W=>Fa l.length en ce W);cases hs:aQ l.length en ce
 ·rw[hs]at b;have M:jD l en ce=Z:=by unfold jD;rw[hs];rfl
  have R:=V M;clear M;clear m T hs K;go_enter func38,ntmps38;go_wp2_with fail;generalize w.alloc (C #[S X 0 0,I J 0,I J 0] 73)=W0 at *;refine(U b _).m ?_;rintro e w1 ⟨rfl,k⟩;obtain rfl:=k.symm;clear k b;have hc:=B.u;have hf:=B.H;have hl:=B.lt;go_wp2;refine bodyPost_ret (dX (P:=prog) rfl _ _ w.heap.size 73 _ (0,0) _ rfl (xE B rfl) underlying73 rfl yT) rfl ?_;exact⟨Zg ⟨U R,rfl⟩,((q.setCell (Zc _) _).setCell (Zc _) _).setCell (Zc _) _⟩
 ·rw[hs]at b;have y:=hs;unfold aQ at y;have z:=of_decide_eq_true y;rcases K with h0|⟨g,off,rfl,hg,a⟩;rw[h0]at z;simp at z;have f:0<l.length:=zo;have h5:l.length<=5000:=zo;have H:g<(w.alloc (C #[S X 0 0,I J 0,I J 0] 73)).heap.size:=zp
  have x:∀W,Below w.heap.size w W->∀j u,(zc l)[j]? = O u->W.cell? ⟨g,off+j,X⟩=O u:=fun W N j u hj=>by
    rw[N.u (by simpa using hg)]
    exact a j u hj
  have G:=V (Hw g off c l _ H (x _ m) f h5);have D:Hid (∀W,Below w.heap.size w W->Calls prog 37 #[S (O ⟨g,off,X⟩) l.length c] W fun e w'=>∃v,e=Rt v/\w'.ownsRow W.heap.size 65 2 v l.length (zc l)/\Below W.heap.size W w'):=fun W N=>JZ g off c l W (by have:=N.size;omega) (x W N) f zo;have L:jD l en ce=(l.all (qm l.length)&&aj l):=by unfold jD;rw[hs];simp
  have E:=V L;clear m T hs y z a x H L;generalize (l.all (qm l.length)&&aj l)=ok at *;go_enter func38,ntmps38;go_wp2_with fail;generalize w.alloc (C #[S X 0 0,I J 0,I J 0] 73)=W0 at *;refine(U b _).m ?_;rintro e w1 ⟨rfl,k⟩;obtain rfl:=k.symm;clear k b;go_wp2_with fail;refine G.m ?_;rintro e w2 ⟨rfl,s⟩;have o:Below w.heap.size w w2:=q.trans (s.m q.size);have h:=B.z s B.lt;have hc:=h.u;have hf:=h.H;have hl:=h.lt;have d:=V o;have r:=V h;clear s o h G;cases ok
  ·go_wp2;refine bodyPost_ret (dX (P:=prog) rfl _ _ w.heap.size 73 _ (0,0) _ rfl (xE r rfl) underlying73 rfl yT) rfl ?_;exact⟨Zg ⟨U E,rfl⟩,((d.setCell (Zc _) _).setCell (Zc _) _).setCell (Zc _) _⟩
  ·clear hc hf;go_wp2_with fail;refine(U D w2 d).m ?_;rintro e w3 ⟨v,rfl,ho,t⟩;obtain⟨g3,n,rfl,_,_⟩:=ho.form f;have p:Below w.heap.size w w3:=d.trans (t.m d.size);have i:=r.z t r.lt;have hc:=i.u;have hf:=i.H;have a0:=i.lt;have Q:=V p;have F:=V i;have HO:=V ho;clear t p i ho D;go_wp2;refine bodyPost_ret (dX (P:=prog) rfl _ _ w.heap.size 73 _ (0,0) _ rfl (xE F rfl) underlying73 rfl yT) rfl ?_;have hn:(Value.slice (O ⟨g3,0,X⟩) l.length n).ownBlock≠O w.heap.size:=fun e=>zR F HO zd e;refine⟨Zf ⟨U E,g3,n,rfl,?_⟩,((Q.setCell (Zc _) _).setCell (Zc _) _).setCell (Zc _) _⟩;exact zV (zA (zA (zA HO hn _) hn _) hn _) d.size
def hY(w:YW)(l:YL)(en ce:Int)(e:Ending)(w':YW):Prop:=(jD l en ce=Z/\e=Rt (Tu #[A X,I J 5])\/jD l en ce=Y/\∃c g cap,e=Rt (Tu #[A (O ⟨c,0,X⟩),I J 0])/\Blk w' c #[S (O ⟨g,0,X⟩) l.length cap,I J en,I J ce] 78/\w.heap.size<=c/\w'.ownsRow w.heap.size 65 2 (S (O ⟨g,0,X⟩) l.length cap) l.length (zc l))/\Below w.heap.size w w'
theorem Cg(m:YA)(c:Nat)(l:YL)(en ce:Int)(w:YW)(h:InL w m l):Calls prog 20 #[S m l.length c,I J en,I J ce] w (hY w l en ce):=by
 have j:=V (Mp m c l en ce w h);clear h;go_enter func20,ntmps20;go_wp2_with fail;refine j.m ?_;rintro e q ⟨f,d⟩;have a:=V d;rcases f with⟨i,rfl⟩|⟨b,g,cap,rfl,n⟩
 ·have k:=V i;clear i d j;go_wp2_with fail;go_ret2;exact⟨Zg ⟨U k,rfl⟩,a.alloc a.size _⟩
 ·have p:=V b;have o:=V n;clear b d n j;go_wp2_with fail;go_ret2;refine⟨Zf ⟨U p,_,g,cap,rfl,vD q _ _ _,by have:=a.size;omega,zE (zE o _) _⟩,?_⟩;exact(a.alloc a.size _).alloc (by have:=a.size;simp;omega) _
def aU(l:YL)(k:Nat):Int×Int:=match l[k]?,l[k+1]? with
 |some x,O y=>if x.1=3/\y.1=4 then(1,x.2)else x
 |some x,X=>x
 |none,_=>(0,0)
def qb(l:YL):YL:=(range l.length).map (aU l)
structure eT(l m:YL)(k:Nat):Prop where
 len:m.length=l.length
 done:∀i,i<k->i<l.length->m[i]? = O (aU l i)
 rest:∀i,k<=i->m[i]? = l[i]?
theorem eT.all{l m:YL}(h:eT l m (l.length-1)):m=qb l:=by apply ext_getElem?;intro i;unfold qb;rw[Zn];by_cases a:i<l.length;rw[getElem?_range a];by_cases b:i<l.length-1;rw[h.done i b a];rfl;rw[h.rest i zo,Za a];have c:l[i+1]? = X:=getElem?_eq_none zo;have d:l[i]? = O (l[i]'a):=Za a;show _=O (aU l i);unfold aU;rw[c,d];rw[getElem?_eq_none (by rw[h.len];omega),getElem?_eq_none zp];rfl
theorem eT.keep{l m:YL}{k:Nat}(h:eT l m k){x y:Int×Int}(a:l[k]? = O x)(f:l[k+1]? = O y)(d:¬(x.1=3/\y.1=4)):eT l m (k+1):=by refine⟨h.len,fun i b c=>?_,fun i b=>h.rest i zo⟩;by_cases e:i=k;subst e;rw[h.rest i (Zc _),a];unfold aU;rw[a,f];simp only;rw[if_neg d];exact h.done i zo c
theorem eT.turn{l m:YL}{k:Nat}(h:eT l m k){x y:Int×Int}(b:l[k]? = O x)(f:l[k+1]? = O y)(d:x.1=3/\y.1=4):eT l (m.set k (1,x.2)) (k+1):=by have g:k<l.length:=(Zb.1 b).1;refine⟨by rw[length_set];exact h.len,fun i c a=>?_,fun i c=>?_⟩;by_cases e:i=k;subst e;rw[getElem?_set_self (by rw[h.len];exact a)];unfold aU;rw[b,f];simp only;rw[if_pos d];rw[getElem?_set_ne zo];exact h.done i zo a;rw[getElem?_set_ne zo];exact h.rest i zo
theorem tn (l:YL) (k:Nat) (x:Int×Int) (hx:l[k]? = O x) (a:Int):(zc l).set (k * 2) (I J a)=zc (l.set k (a,x.2)):=by
 induction l generalizing k with
 |nil=>simp at hx
 |cons y l ih=>
  cases k with
  |zero=>simp at hx;subst hx;rfl
  |succ k=>have e:(k+1) * 2=k * 2+1+1:=zo;rw[e];have:=ih k (by simpa using hx);unfold zc at this ⊢;simp only[flatMap_cons,set_cons_succ];rw[← this];rfl
theorem Rw(g cap:Nat)(l:YL)(en ce:Int)(w:YW)(ho:w.ownsRow 0 65 2 (S (O ⟨g,0,X⟩) l.length cap) l.length (zc l))(D:0<l.length)(h5:l.length<=5000):Calls prog 53 #[Ag #[S (O ⟨g,0,X⟩) l.length cap,I J en,I J ce]] w fun e w'=>∃g' u,e=Rt (Ag #[S (O ⟨g',0,X⟩) l.length u,I J en,I J ce])/\w'.ownsRow w.heap.size 65 2 (S (O ⟨g',0,X⟩) l.length u) l.length (zc (qb l))/\Below w.heap.size w w':=by
 have K:=yG w (C #[S (O ⟨g,0,X⟩) l.length cap,I J en,I J ce] 73) (C #[S X 0 0,I J 0,I J 0] 73);have hP:Blk ((w.alloc (C #[S (O ⟨g,0,X⟩) l.length cap,I J en,I J ce] 73)).alloc (C #[S X 0 0,I J 0,I J 0] 73)) w.heap.size #[S (O ⟨g,0,X⟩) l.length cap,I J en,I J ce] 73:=zk;have hR:Blk ((w.alloc (C #[S (O ⟨g,0,X⟩) l.length cap,I J en,I J ce] 73)).alloc (C #[S X 0 0,I J 0,I J 0] 73)) (w.heap.size+1) #[S X 0 0,I J 0,I J 0] 73:=zk;have A0:((w.alloc (C #[S (O ⟨g,0,X⟩) l.length cap,I J en,I J ce] 73)).alloc (C #[S X 0 0,I J 0,I J 0] 73)).heap.size=w.heap.size+2:=zs;have c0:=V (nO g cap l _ ((zz.aB K).row ho) D zo);have a0:=V K;have HP:=V hP;have HR:=V hR;have P0:(l.length:Int)<=5000:=zo;have O0:(1:Int)<=l.length:=zo;clear K hP hR ho;go_enter func53,ntmps53;go_upto_region 1 with fail;generalize (w.alloc (C #[S (O ⟨g,0,X⟩) l.length cap,I J en,I J ce] 73)).alloc (C #[S X 0 0,I J 0,I J 0] 73)=W at *;have e0:=HP.u;have x0:=HP.lt;go_wp2_with fail;refine c0.m ?_;rintro e w1 ⟨v,rfl,hv,q⟩;obtain⟨f,b,rfl,L0,h0⟩:=hv.form D;have n:=HP.z q HP.lt;have l0:=HR.z q HR.lt;have f0:=n.u;have g0:=n.H;have i0:=n.lt;have N:=n.set 0 (S (O ⟨f,0,X⟩) l.length b);simp only[Zt,set_cons_zero]at N;have m0:=l0.far (a:=⟨w.heap.size,0,X⟩) zs (S (O ⟨f,0,X⟩) l.length b);have n0:=zA hv (fun e=>zR n hv zd e) (S (O ⟨f,0,X⟩) l.length b) (a:=⟨w.heap.size,0,X⟩);have B:Below w.heap.size w (w1.setCell ⟨w.heap.size,0,X⟩ (S (O ⟨f,0,X⟩) l.length b)):=(a0.trans (q.m a0.size)).setCell (Zc _) _;have F:=V N;have p0:=V m0;have q0:=V n0;have b0:=V B;have HW:Hid (W.heap.size=w.heap.size+2):=A0;clear hv q n l0 N m0 n0 B c0 e0;go_upto_region 2 with fail;generalize w1.setCell ⟨w.heap.size,0,X⟩ (S (O ⟨f,0,X⟩) l.length b)=w2 at *;have u0:=F.u;have y0:=F.lt;clear f0 g0 i0 h0;obtain⟨o,N0⟩:∃o,(if b=1 then O (⟨f,0,X⟩:Addr)else O ⟨f,2,X⟩)=O ⟨f,o,X⟩:=by split;exact⟨0,rfl⟩;exact⟨2,rfl⟩
 go_wp2_with fail;have E0:(l.length:Int)-1=((l.length-1:Nat):Int):=zo;generalize hL:l.length-1=L at *;have d0:=V hL;have I0:(L:Int)<=5000:=zo;have J0:(l.length:Int)=L+1:=zo;go_loopw [12] (fun i wr=>∃(k:Nat) (m:YL),i=I J k/\k<=L/\eT l m k/\wr.ownsRow W.heap.size 65 2 (S (O ⟨f,0,X⟩) l.length b) l.length (zc m)/\Blk wr w.heap.size #[S (O ⟨f,0,X⟩) l.length b,I J en,I J ce] 73/\Blk wr (w.heap.size+1) #[S X 0 0,I J 0,I J 0] 73/\Below w.heap.size w wr) (fun i _=>L-(intOf i).toNat);case atStart=>exact⟨0,l,rfl,Zq _,⟨rfl,fun i hi=>absurd hi (Nat.not_lt_zero _),fun _ _=>rfl⟩,U q0,U F,U p0,U b0⟩
 case round=>
  obtain⟨k,m,rfl,hk,E,c,t,h,r⟩:=hrel;clear u0 y0;have e0:=t.u;have x0:=t.lt;have S0:=E.len;have B0:=(zC c (k:=f) rfl).1;by_cases R0:k<L
  ·have D0:(k:Int)<L:=zo;have M0:(k:Int)<l.length:=zo;have C0:(k:Int)+1<l.length:=zo;have r0:=U d0;obtain⟨x,hx⟩:∃x,l[k]? = O x:=⟨_,Za zo⟩;obtain⟨y,hy⟩:∃y,l[k+1]? = O y:=⟨_,Za zo⟩;have M:m[k]? = O x:=by rw[E.rest k (Zc _)];exact hx
   have j0:m[k+1]? = O y:=by rw[E.rest (k+1) zo];exact hy
   have c1:=zD c (k*2) zo;have c2:=zD c ((k+1)*2) zo;rw[(zL _ _ _ M).1]at c1;rw[(zL _ _ _ j0).1]at c2;have k0:w.heap.size≠f:=fun e=>by have:=(zC c (k:=f) rfl).2;have:=U HW;omega
   have HT:=V E;have d:=V c;have G:=V t;have j:=V h;have T:=V r;have HX:=V hx;have HY:=V hy;have o0:=V M;obtain⟨cs,fr,s⟩:∃cs fr,wr.heap[f]? = O (C cs 65 fr)/\fr=(0,0):=by obtain⟨_,hh⟩:=c;rcases hh with⟨e,_⟩|⟨g',c',F0,e,_,s0,_⟩;cases e;simp only[Zk,Zs,Addr.mk.injEq,and_true]at e;obtain⟨rfl,_⟩:=e;exact⟨_,_,s0,rfl⟩
   have v0:∀i,wr.frozen? ⟨f,i,X⟩=Z:=fun i=>by
     have t0:Blk wr f cs 65:=by unfold Blk;rw[s.1,s.2]
     exact t0.H i
   clear E c t h r hx hy M j0 r0 s;by_cases H:x.1=3
   ·rw[H]at c1;by_cases Q:y.1=4
    ·rw[Q]at c2;have p:=V (HT.turn HX HY ⟨H,Q⟩);clear H Q;go_wp2;go_roundw;case rel=>refine⟨k+1,m.set k (1,x.2),by go_num,zo,U p,?_,?_,?_,?_⟩;rw[<-tn m k x (U o0) 1];exact qI d (k*2) _;exact G.far (a:=⟨f,k*2,X⟩) k0 _;exact j.far (a:=⟨f,k*2,X⟩) (fun e=>by have:=(zC d (k:=f) rfl).2;have:=U HW;simp at e;omega) _;exact T.setCell (by have:=(zC d (k:=f) rfl).2;have:=U HW;simp;omega) _
     case measure=>exact zv
    ·have p:=V (HT.keep HX HY (fun e=>Q e.2));have H0:(y.1==4)=Z:=by simpa using Q
     clear H Q;generalize y.1=yo at *;go_wp2;go_roundw;case rel=>exact⟨k+1,m,by go_num,zo,U p,U d,U G,U j,U T⟩
     case measure=>exact zv
   ·have p:=V (HT.keep HX HY (fun e=>H e.1));have G0:(x.1==3)=Z:=by simpa using H
    clear H;generalize x.1=xo at *;go_wp2;go_roundw;case rel=>exact⟨k+1,m,by go_num,zo,U p,U d,U G,U j,U T⟩
    case measure=>exact zv
  ·have w0:k=L:=zo;subst w0;have K0:=h.u;have s:=h.H;have Q0:=h.lt;have T0:w.heap.size≠w.heap.size+1:=zo;have z:m=qb l:=by rw[<-U d0]at E;exact E.all
   have R:=V z;have d:=V c;have j:=V h;have T:=V r;clear E c h r z;go_wp2;refine bodyPost_ret (qD (P:=prog) rfl _ _ (w.heap.size+1) 73 _ (0,0) _ rfl (xE j rfl) underlying73 rfl yT) rfl ?_;have hn:(Value.slice (O ⟨f,0,X⟩) l.length b).ownBlock≠O (w.heap.size+1):=fun e=>zR j d zd e;refine⟨f,b,rfl,?_,((T.setCell zs _).setCell zs _).setCell zs _⟩;rw[<-U R];exact zV (zA (zA (zA d hn _) hn _) hn _) (by have:=U HW;omega)
def yc(op:Int):Int×Int:=if 0<=op/\op<=32 then((yq op.toNat).1,(yq op.toNat).2.1)else(0,0)
theorem GD:(prog.info? 107).map (fun i=>i.size)=O 2:=zr
theorem rV{w:YW}{b:Nat}{cs:YV}{T:TypeId}{f g c d:Value}(h:Blk w b cs T)(a:cs=#[f,g]):Blk ((w.setCell ⟨b,0,X⟩ c).setCell ⟨b,1,X⟩ d) b #[c,d] T:=by subst a;have e:=(h.set 0 c).set 1 d;simpa only [Zt,set_cons_succ,set_cons_zero]using e
theorem uN(f:Nat)(op:Nat)(w:YW)(p:bu w f)(d:op<33\/40<=op/\op<60):Calls prog 248 #[A (O ⟨f,0,X⟩),I J op] w fun e w'=>e=Rt (Ag #[I J (yc op).1,I J (yc op).2])/\Below w.heap.size w w':=by
 obtain⟨cs,b,a,_⟩:=p;have c:w.cell? ⟨f,op*5,X⟩=O (I J (yc op).1)/\w.cell? ⟨f,op*5+1,X⟩=O (I J (yc op).2):=by
  rw[b.u,b.u];rcases d with h|⟨n,o⟩;obtain⟨F,cap,i,j,_⟩:=a.K op h;have e:yc op=(((yq op).1:Int),((yq op).2.1:Int)):=by unfold yc;rw[if_pos zo,Zr]
  rw[e];exact⟨i,j⟩;obtain⟨i,j,_⟩:=a.zero op n o;have e:yc op=(0,0):=by unfold yc;rw[if_neg zo]
  rw[e];exact⟨i,j⟩
 obtain⟨c0,c1⟩:=c;have q:=b.lt;have m:(op:Int)<60:=zo;have l:(0:Int)<=op:=zo;have k:=Blk.new w #[I J 0,I J 0] 107;have r:=V k;generalize (yc op).1=t at *;generalize (yc op).2=g at *;clear b a d k;go_enter func248,ntmps248;go_wp2;refine bodyPost_ret (qD (P:=prog) rfl _ _ w.heap.size 107 _ (0,0) _ rfl (Blk.new w _ _) underlying107 rfl GD) rfl ?_;exact⟨rfl,zB w _⟩
def xl(lim:Int):YL->Int->Int->Int×Int
 |[],_,i=>(0,i)
 |c::r,v,i=>if v<c.1 then(7,i+1)else if lim<v-c.1+c.2 then(8,i+1)else xl lim r (v+(c.2-c.1)) (i+1)
def df(w:YW)(ao:YA)(l:YL):Prop:=l=[]\/∃g,ao=O ⟨g,0,X⟩/\g<w.heap.size/\∀k x,l[k]? = O x->w.cell? ⟨g,k*2,X⟩=O (I J x.1)/\w.cell? ⟨g,k*2+1,X⟩=O (I J x.2)
theorem df.z{w w':YW}{b:YA}{l:YL}(h:df w b l)(a:Below w.heap.size w w'):df w' b l:=by rcases h with h|⟨g,d,c,e⟩;exact Zg h;exact Zf ⟨g,d,by have:=a.size;omega,fun k x f=>by rw[a.u (by simpa using c),a.u (by simpa using c)];exact e k x f⟩
theorem Hv(t g n l:Int)(w:YW)(b:0<=n/\n<=1000000000)(c:0<=t/\t<=10)(a:0<=g/\g<=10):Calls prog 208 #[Ag #[I J t,I J g],I J n,I J l] w fun e w'=>e=Rt (Bl (decide (l<n-t+g)))/\w'=w.alloc (C #[I J t,I J g] 107):=Ut
theorem tj(ao:YA)(c:Nat)(l:YL)(v lim:Int)(w:YW)(hl:df w ao l)(hn:l.length<=50)(hs:∀x∈l,(0<=x.1/\x.1<=10)/\(0<=x.2/\x.2<=10))(hv:0<=v/\v<=1000000):Calls prog 255 #[S ao l.length c,I J v,I J lim] w fun e w'=>e=Rt (Tu #[I J (xl lim l v 0).1,I J (xl lim l v 0).2])/\Below w.heap.size w w':=by
 have h0:(l.length:Int)<=50:=zo;generalize n:xl lim l v 0=res;have E:=V n;have HL:=V hl;have HS:=V hs;clear hl hs n;go_enter func255,ntmps255;go_wp2;go_loopw [1,12] (fun vv i wr=>∃(k:Nat)(u:Int),i=I J k/\vv=I J u/\k<=l.length/\xl lim (l.drop k) u k=res/\(0<=u/\u<=1000000+10*k)/\Below w.heap.size w wr) (fun _ i _=>l.length-(intOf i).toNat);case atStart=>exact⟨0,v,rfl,rfl,Zq _,U E,zo,Ze _ _⟩
 case round=>
  obtain⟨k,u,rfl,rfl,hk,a,hu,j⟩:=hrel;have Q:=V j;by_cases q:k<l.length
  ·obtain⟨x,P⟩:∃x,l[k]? = O x:=⟨_,Za q⟩;have L:=U HS x (Zd P);have K:l.drop k=x::l.drop (k+1):=by obtain⟨h1,e⟩:=Zb.1 P;rw[drop_eq_getElem_cons h1,e]
   rw[K]at a;unfold xl at a;rcases HL.z j with e0|⟨g,rfl,hg,h⟩;rw[e0]at q;simp at q;obtain⟨c1,c2⟩:=h k x P;have g0:(k:Int)<l.length:=zo;obtain⟨m,rfl⟩:∃m:Nat,u=m:=⟨u.toNat,zo⟩;have HU:=V (fun W=>mI x.1 x.2 m W);have HO:=V (fun W=>Hv x.1 x.2 m lim W zo L.1 L.2);have H:Below w.heap.size w (wr.alloc (C #[I J x.1,I J x.2] 107)):=j.trans ((zB wr _).m j.size);have B:=V H;generalize x.1=t at *;generalize x.2=y at *;clear P K h j H;go_wp2_with fail;refine(U HU _).m ?_;rintro e w1 ⟨rfl,r⟩;have f:Blk w1 wr.heap.size #[I J t,I J y] 107:=by rw[r];exact(Blk.new wr _ _).alloc _
   have F:Below w.heap.size w w1:=by rw[r];exact B.trans ((zB _ _).m B.size)
   have a0:=f.u;have c0:=f.lt;have o:=V F;have D:=V f;clear r F f HU c1 c2;by_cases M:(m:Int)<t
   ·rw[if_pos M]at a;have b:=V a;have R:decide ((m:Int)<t)=Y:=decide_eq_true M;clear a;go_wp2_with fail;go_ret2;rw[<-U b];exact⟨rfl,U o⟩
   ·rw[if_neg M]at a;have R:decide ((m:Int)<t)=Z:=decide_eq_false M;have b:=V a;clear a;go_wp2_with fail;refine(U HO _).m ?_;rintro e w2 ⟨rfl,s⟩;have d:Blk w2 wr.heap.size #[I J t,I J y] 107:=by rw[s];exact D.alloc _
    have G:Below w.heap.size w w2:=by rw[s];exact o.trans ((zB _ _).m o.size)
    have d0:=d.u;have f0:=d.lt;have z:=V G;clear s G d HO a0 c0;by_cases N:lim<(m:Int)-t+y
    ·have a:=U b;rw[if_pos N]at a;have p:=V a;have T:decide (lim<(m:Int)-t+y)=Y:=decide_eq_true N;clear a;go_wp2_with fail;go_ret2;rw[<-U p];exact⟨rfl,U z⟩
    ·have a:=U b;rw[if_neg N]at a;have p:=V a;have T:decide (lim<(m:Int)-t+y)=Z:=decide_eq_false N;clear a;go_wp2;go_roundw;case rel=>
      refine⟨k+1,(m:Int)+(y-t),by go_num,?_,zo,?_,zo,U z⟩
      ·first|rfl|go_num
      have:=U p;rw[show((k+1:Nat):Int)=(k:Int)+1 from zo];exact this
     case measure=>exact zv
  ·have b0:k=l.length:=zo;subst b0;have K:l.drop l.length=[]:=drop_length ..;rw[K]at a;unfold xl at a;have b:=V a;clear a K j;go_wp2_with fail;go_ret2;rw[<-U b];exact⟨rfl,U Q⟩
def iX(a b:YL)(v lim:Int):Bool:=(xl lim a v 0).1==(xl lim b v 0).1&&decide ((xl lim b v 0).2<=(xl lim a v 0).2)
theorem Hu(m l:YA)(c d:Nat)(a b:YL)(v lim:Int)(w:YW)(s:df w m a)(t:df w l b)(u:a.length<=50/\b.length<=50)(j:∀x∈a,(0<=x.1/\x.1<=10)/\(0<=x.2/\x.2<=10))(k:∀x∈b,(0<=x.1/\x.1<=10)/\(0<=x.2/\x.2<=10))(y:0<=v/\v<=1000000):Calls prog 247 #[S m a.length c,S l b.length d,I J v,I J lim] w fun e w'=>e=Rt (Bl (iX a b v lim))/\Below w.heap.size w w':=by
 have o:=V (tj m c a v lim w s u.1 j y);have p:Hid (∀W,Below w.heap.size w W->Calls prog 255 #[S l b.length d,I J v,I J lim] W fun e w'=>e=Rt (Tu #[I J (xl lim b v 0).1,I J (xl lim b v 0).2])/\Below W.heap.size W w'):=fun W z=>tj l d b v lim W (t.z z) u.2 k y;unfold iX;generalize xl lim a v 0=B at *;generalize xl lim b v 0=D at *;obtain⟨q,F⟩:=B;obtain⟨r,G⟩:=D;clear s t j k;go_enter func247,ntmps247;go_wp2_with fail;refine o.m ?_;rintro e E ⟨rfl,h⟩;have f:=V h;clear h o;go_wp2_with fail;refine(U p E f).m ?_;rintro e H ⟨rfl,i⟩;have g:=V (f.trans (i.m f.size));clear i p;simp only;by_cases he:q=r
 ·subst he;go_wp2;go_ret;refine⟨?_,U g⟩;simp
 ·have n:(q==r)=Z:=by simpa using he
  go_wp2;go_ret;refine⟨?_,U g⟩;simp[n]
def kh(n:Int):YL->YI->Option Int
 |_,[]=>O n
 |[],_::_=>X
 |x::r,p::ps=>if x.1=p then kh (if p=0 then x.2 else n) r ps else X
theorem tu (n:Int) (row:YL) (ps:YI) (h:row.length<ps.length):kh n row ps=X:=by
 induction ps generalizing row n with
 |nil=>simp at h
 |cons p ps ih=>
  cases row with
  |nil=>rfl
  |cons x r=>unfold kh;split;exact ih _ r (by simpa using h);rfl
def pG(w:YW)(q:Nat)(ps:YI):Prop:=q<w.heap.size/\∀j p,ps[j]? = O p->w.cell? ⟨q,j,X⟩=O (I J p)
def QI(r:Option Int):Value:=match r with|some n=>Tu #[I J n,Bl Y]|none=>Tu #[I J 0,Bl Z]
theorem ju{w:YW}{a:YA}{row:YL}(h:InL w a row){k:Nat}{x:Int×Int}(b:row[k]? = O x):∃g off,a=O ⟨g,off,X⟩/\g<w.heap.size/\w.cell? ⟨g,off+k*2,X⟩=O (I J x.1)/\w.cell? ⟨g,off+k*2+1,X⟩=O (I J x.2):=by rcases h with rfl|⟨g,off,c,d,e⟩;simp at b;obtain⟨c1,c2⟩:=fL e b;exact⟨g,off,c,d,c1,c2⟩
theorem Fs(E:YA)(c q L:Nat)(row:YL)(b:YI)(w:YW)(m:InL w E row)(r:pG w q b)(hr:row.length<=100000)(hp:b.length<=100):Calls prog 205 #[S E row.length c,S (O ⟨q,0,X⟩) b.length L] w fun e w'=>e=Rt (QI (kh 0 row b))/\w'=w:=by
 have W:(row.length:Int)<=100000:=zo;have R:(b.length:Int)<=100:=zo;by_cases hs:row.length<b.length
 ·rw[tu 0 row b hs];have D:(row.length:Int)<b.length:=zo;clear m r;go_enter func205,ntmps205;go_wp2_with fail;go_ret2;exact⟨rfl,rfl⟩
 ·have D:¬(row.length:Int)<b.length:=zo;generalize d:kh 0 row b=res;have o:=V d;have t:=V m;have K:=V r;have T:=r.1;clear m r d;go_enter func205,ntmps205;go_wp2;go_loopw [6,16] (fun nv i wr=>∃(k:Nat)(n:Int),i=I J k/\nv=I J n/\k<=b.length/\kh n (row.drop k) (b.drop k)=res/\wr=w) (fun _ i _=>b.length-(intOf i).toNat);case atStart=>exact⟨0,0,rfl,rfl,Zq _,U o,rfl⟩
  case round=>
   obtain⟨k,n,rfl,rfl,hk,a,rfl⟩:=hrel;by_cases B:k<b.length
   ·obtain⟨p,f⟩:∃p,b[k]? = O p:=⟨_,Za B⟩;obtain⟨x,s⟩:∃x,row[k]? = O x:=⟨_,Za zo⟩;have N:=K.2 k p f;obtain⟨g,off,rfl,Q,c1,c2⟩:=ju t s;have j:row.drop k=x::row.drop (k+1):=by obtain⟨v,e⟩:=Zb.1 s;rw[drop_eq_getElem_cons v,e]
    have l:b.drop k=p::b.drop (k+1):=by obtain⟨v,e⟩:=Zb.1 f;rw[drop_eq_getElem_cons v,e]
    rw[j,l]at a;unfold kh at a;have G:(k:Int)<b.length:=zo;have H:(k:Int)<row.length:=zo;by_cases he:x.1=p
    ·rw[if_pos he]at a;rw[he]at c1;have h:=V a;clear a j l s f he;by_cases u:p=0
     ·subst u;go_wp2;go_roundw;case rel=>exact⟨k+1,x.2,by go_num,rfl,zo,by simpa using U h,trivial⟩
      case measure=>exact zv
     ·have M:(p==0)=Z:=by simpa using u
      go_wp2;go_roundw;case rel=>exact⟨k+1,n,by go_num,rfl,zo,by have:=U h;rw[if_neg u]at this;exact this,trivial⟩
      case measure=>exact zv
    ·rw[if_neg he]at a;subst a;have y:(x.1==p)=Z:=by simpa using he
     have P:(x.1 != p)=Y:=by rw[bne,y];rfl
     generalize x.1=xo at *;clear j l s f he;go_wp2_with fail;go_ret2;exact⟨rfl,rfl⟩
   ·have z:k=b.length:=zo;subst z;have F:b.drop b.length=[]:=drop_length ..;rw[F]at a;have d:O n=res:=by rw[<-a];cases row.drop b.length<;>rfl
    subst d;clear a F;go_wp2_with fail;go_ret2;exact⟨rfl,rfl⟩
theorem gS(n:Nat)(g:n<=17592186044416)(w:YW):(Instr.makeSlice 33 (I J (n:Int)) (I J (n:Int))).run prog w=.ok (S (O ⟨w.heap.size,0,X⟩) n n) (w.alloc (C (madeCells #[I J 0,I J 0] (n*2)) 65)):=by obtain⟨f,d,a,b,c⟩:=info_parts yJ;have e:=run_make (P:=prog) w 33 65 f _ underlying33 d a .i64 .i64 n n zo (Int.le_refl _) (by rw[c];omega) zo;simp only[Zr,b]at e;exact e
theorem mT(n:Nat):zc (replicate n ((0:Int),(0:Int)))=replicate (n*2) (Value.int .i64 0):=by
 induction n with
 |zero=>rfl
 |succ n a=>have e:(n+1)*2=n*2+1+1:=zo;rw[e,replicate_succ,replicate_succ,replicate_succ,<-a];rfl
theorem DX(n:Nat):madeCells #[I J 0,I J 0] (n*2)=(zc (replicate n ((0:Int),(0:Int)))).toArray:=by rw[mT];apply Array.ext';unfold madeCells;apply ext_getElem?;intro i;simp only[Array.toList_map,Array.toList_range,Zn,getElem?_replicate];by_cases h:i<n*2;rw[getElem?_range h,if_pos h];have:i%2=0\/i%2=1:=zo;rcases this with e|e<;>simp[e];rw[getElem?_eq_none zp,if_neg h];rfl
theorem eD(a b:YL):zc (a++b)=zc a++zc b:=by
 induction a with
 |nil=>rfl
 |cons x a c=>show zc (x::(a++b))=zc (x::a)++zc b;unfold zc at c ⊢;simp only[flatMap_cons,Zy,c]
section
variable {P:Program}
theorem Oo (w:YW) (dT sT ty elem:TypeId) (g dLen dCap:Nat) (a:Addr) (sLen sCap:Nat) (cur:YV) (t:TypeId) (cs:List Value) (hu:P.underlying dT=O (.slice elem)) (hs:(P.info? elem).map (·.size)=O 2) (hg:w.heap[g]? = O (C cur t (0,0))) (hn:cs.length=sLen * 2) (hle:sLen≤dLen) (hsrc:∀ j v,cs[j]? = O v→w.cell? (a.add j)=O v) (hfit:cs.length≤cur.size) (h1:∀ v∈cs,v.oneCell'=Y) : (Builtin.copy_ #[dT,sT] ty #[S (O ⟨g,0,X⟩) dLen dCap,S (O a) sLen sCap]).run P w = .ok (goInt sLen) (w.setRow g (cs++cur.toList.drop cs.length).toArray):=by
 have hl:=run_loadCells_list (P:=P) w a cs hsrc;have hst:=run_storeCells_at P g 0 t cs 0 cur w hg (by simpa using hfit) h1;have hm:Nat.min sLen dLen=sLen:=Nat.min_eq_left hle;cases hq:P.info? elem with
 |none=>simp[hq]at hs
 |some i=>
  have hi:i.size=2:=by simpa [hq] using hs
  simp[Builtin.copy_,run_underlying hu,Builtin.lenOf,Builtin.firstCells,sizeOf,typeInfo,hq,hi,hm,← hn,hl,hst]
theorem BN (w:YW) (dT sT ty elem:TypeId) (d a:YA) (dLen dCap sCap:Nat) (hu:P.underlying dT=O (.slice elem)) (hs:(P.info? elem).map (·.size)=O 2) : (Builtin.copy_ #[dT,sT] ty #[S d dLen dCap,S a 0 sCap]).run P w=.ok (goInt 0) w:=by
 cases hq:P.info? elem with
 |none=>simp[hq]at hs
 |some i=>
  have hl:∀ (x:Addr),(loadCells x 0).run P w=.ok #[] w:=fun x=>by simpa using run_loadCells_list (P:=P) w x [] zs
  have hm:Nat.min 0 dLen=0:=Nat.zero_min dLen;cases d<;>cases a<;>simp[Builtin.copy_,run_underlying hu,Builtin.lenOf,Builtin.firstCells,sizeOf,typeInfo,hq,hm,storeCells,hl]
end
theorem sn:(prog.info? 65).map (·.size)=O 2:=zr
theorem sy{w:YW}{m:Array Oper}{rest:List Oper}{o:Oper}{a:Act}{Q:Exit->Act->World->Prop}(t:o.guard=X)(d s:Operand)(E:o.op=.call {callee:=.builtin .copy,args:=#[d,s],argTypes:=#[33,33]})(l:YL)(p:YA)(c g n:Nat)(N:n=l.length+8)(q:a.eval d=S (O ⟨g,0,X⟩) n n)(x:a.eval s=S p l.length c)(r:Blk w g (zc (replicate n ((0:Int),(0:Int)))).toArray 65)(u:InL w p l)(B:Nat)(F:YW)(D:Below B F w)(H:B<=g)(dst:Option Tmp)(i:o.dst=dst)(h:∀w',Hid (Blk w' g (zc (l++replicate 8 ((0:Int),(0:Int)))).toArray 65)->Below B F w'->wpList prog m Q rest (a.put dst (I J l.length)) w'):wpList prog m Q (o::rest) a w:=by
 subst N i;refine wpList_plain t fun K z=>?_;rcases u with rfl|⟨y,off,rfl,L,f⟩;have b:=BN (P:=prog) w 33 33 o.type 65 (O ⟨g,0,X⟩) p (0+8) (0+8) c underlying33 sn;unfold Oper.wp;simp only[length_nil]at q x;simp[execOp,E,resolve,invoke,builtin,q,x,b,Result.andThen];exact z _ _ (h w (V (by simpa using r)) D);have k:∀j v,(zc l)[j]? = O v->w.cell? ((⟨y,off,X⟩:Addr).add j)=O v:=fun j v M=>by rw[cA];exact f j v M
 have b:=Oo (P:=prog) w 33 33 o.type 65 g (l.length+8) (l.length+8) ⟨y,off,X⟩ l.length c _ 65 (zc l) underlying33 sn r (yL l) zo k (by simp[yL];omega) (kP l);unfold Oper.wp;simp[execOp,E,resolve,invoke,builtin,q,x,b,Result.andThen];refine z _ _ (h _ ?_ (cD D H _));have e:(zc l++(zc (replicate (l.length+8) ((0:Int),(0:Int)))).drop (zc l).length)=zc (l++replicate 8 ((0:Int),(0:Int))):=by have G:(l.length+8)*2-l.length*2=8*2:=zo;rw[eD,yL,mT,mT,drop_replicate,G]
 have:=Blk.setRow r (zc l++(zc (replicate (l.length+8) ((0:Int),(0:Int)))).drop (zc l).length).toArray;rw[e]at this;simp only[e];exact this
def fa(f:Nat->Int×Int)(n k:Nat):YL:=(range n).map (fun i=>if i<k then f i else(0,0))
theorem gJ(f:Nat->Int×Int)(n k:Nat):(fa f n k).length=n:=by simp[fa]
theorem dQ(f:Nat->Int×Int)(n k i:Nat)(h:i<n):(fa f n k)[i]? = O (if i<k then f i else(0,0)):=by unfold fa;rw[Zn,getElem?_range h];rfl
theorem nS(f:Nat->Int×Int)(n k:Nat)(h:k<n):fa f n (k+1)=(fa f n k).set k (f k):=by apply ext_getElem?;intro i;by_cases a:i<n;rw[dQ f n (k+1) i a];by_cases e:i=k;subst e;rw[getElem?_set_self (by rw[gJ];exact a),if_pos zo];rw[getElem?_set_ne zo,dQ f n k i a];by_cases b:i<k;rw[if_pos b,if_pos zo];rw[if_neg b,if_neg zo];rw[getElem?_eq_none (by rw[gJ];omega),getElem?_eq_none (by rw[length_set,gJ];omega)]
theorem nT(f:Nat->Int×Int)(n:Nat):fa f n 0=replicate n ((0:Int),(0:Int)):=by apply ext_getElem?;intro i;by_cases a:i<n;rw[dQ f n 0 i a,getElem?_replicate,if_pos a];rfl;rw[getElem?_eq_none (by rw[gJ];omega),getElem?_eq_none zp]
theorem pW{α:Type}(a:List α)(g:α->Int×Int)(f:Nat->Int×Int)(c:∀i p,a[i]? = O p->f i=g p):fa f a.length a.length=a.map g:=by apply ext_getElem?;intro i;by_cases b:i<a.length;rw[dQ f _ _ i b,if_pos b,Zn,Za b];rw[c i _ (Za b)];rfl;rw[getElem?_eq_none (by rw[gJ];omega),getElem?_eq_none zp]
theorem fc (l:YL) (k:Nat) (x:Int×Int) (hx:l[k]? = O x) (a b:Int):((zc l).set (k * 2) (I J a)).set (k * 2+1) (I J b)=zc (l.set k (a,b)):=by
 induction l generalizing k with
 |nil=>simp at hx
 |cons y l ih=>
  cases k with
  |zero=>rfl
  |succ k=>have e:(k+1) * 2=k * 2+1+1:=zo;rw[e];have:=ih k (by simpa using hx);unfold zc at this ⊢;simp only[flatMap_cons,set_cons_succ];rw[← this];rfl
def bh(w:YW)(ao:YA)(ps:YI):Prop:=ps=[]\/∃q,ao=O ⟨q,0,X⟩/\pG w q ps
theorem bh.z{w w':YW}{a:YA}{c:YI}(h:bh w a c)(b:Below w.heap.size w w'):bh w' a c:=by rcases h with h|⟨q,d,e,f⟩;exact Zg h;exact Zf ⟨q,d,by have:=b.size;omega,fun j p g=>by rw[b.u (by simpa using e)];exact f j p g⟩
theorem ug(w:YW)(n:Nat)(b:n<=17592186044416):(w.alloc (C (madeCells #[I J 0,I J 0] (n*2)) 65)).ownsRow w.heap.size 65 2 (S (O ⟨w.heap.size,0,X⟩) n n) n (zc (replicate n ((0:Int),(0:Int)))):=by have a:=yL (replicate n ((0:Int),(0:Int)));rw[length_replicate]at a;refine⟨a,Zf ⟨w.heap.size,n,madeCells #[I J 0,I J 0] (n*2),rfl,Zc _,Blk.new w _ _,Zc _,zm,by rw[size_madeCells],?_⟩⟩;rw[DX];rw[take_of_length_le (by simp[a])]
theorem Jw(G:YA)(c:Nat)(a:YI)(w:YW)(M:bh w G a)(hn:a.length<=1000):Calls prog 202 #[S G a.length c] w fun e w'=>∃g,e=Rt (S (O ⟨g,0,X⟩) a.length a.length)/\w'.ownsRow w.heap.size 65 2 (S (O ⟨g,0,X⟩) a.length a.length) a.length (zc (a.map (fun p=>(p,(0:Int)))))/\Below w.heap.size w w':=by
 have b0:(a.length:Int)<=1000:=zo;have D:=gS a.length zo;have h:=ug w a.length zo;have o:=zB w (C (madeCells #[I J 0,I J 0] (a.length*2)) 65);have m:=V h;have u:=V o;have P:=V M;obtain⟨f,K⟩:∃f:Nat->Int×Int,f=fun i=>(a.getD i 0,0):=⟨_,rfl⟩;have F:Hid (∀i p,a[i]? = O p->f i=(p,0)):=fun i p s=>by rw[K];simp[getD,s]
 clear h o M K;go_enter func202,ntmps202;go_wp2;go_loopw [11] (fun i wr=>∃k:Nat,i=I J k/\k<=a.length/\wr.ownsRow w.heap.size 65 2 (S (O ⟨w.heap.size,0,X⟩) a.length a.length) a.length (zc (fa f a.length k))/\Below w.heap.size w wr) (fun i _=>a.length-(intOf i).toNat);case atStart=>exact⟨0,rfl,Zq _,by rw[nT];exact U m,U u⟩
 case round=>
  clear D;obtain⟨k,rfl,hk,b,j⟩:=hrel;have l:=V b;have n:=V j;by_cases d:k<a.length
  ·obtain⟨p,s⟩:∃p,a[k]? = O p:=⟨_,Za d⟩;rcases P.z j with T|⟨q,rfl,c0,t⟩;rw[T]at d;simp at d;have W:=t k p s;have L:(k:Int)<a.length:=zo;have E:=dQ f a.length k k d;have c1:=zD b (k*2) zo;rw[(zL _ _ _ E).1]at c1;have a0:=(zC b (k:=w.heap.size) rfl).1;obtain⟨cs,r⟩:∃cs,Blk wr w.heap.size cs 65:=by obtain⟨_,hh⟩:=b;rcases hh with⟨e,_⟩|⟨g',c',R,e,_,y,_⟩;cases e;simp only[Zk,Zs,Addr.mk.injEq,and_true]at e;obtain⟨rfl,_⟩:=e;exact⟨_,y⟩
   have z:=r.H;have x:=V (nS f a.length k d);have v:=V (U F k p s);have Q:=V E;clear b j s t E r;go_wp2;go_roundw;case rel=>refine⟨k+1,by go_num,zo,?_,n.setCell (Zc _) _⟩;have H:=qI l (k*2) (I J p);rw[tn _ k _ (U Q) p,if_neg zo]at H;rw[U x,U v];exact H
   case measure=>exact zv
  ·have B:k=a.length:=zo;subst B;have he:=pW a (fun p=>(p,(0:Int))) f F;have N:=V he;clear b j he;go_wp2;go_ret;refine⟨w.heap.size,rfl,?_,U n⟩;rw[<-U N];exact U l
theorem Qz(E:YA)(c:Nat)(a:YI)(w:YW)(K:bh w E a)(hn:a.length<=1000000):Calls prog 226 #[S E a.length c] w fun e w'=>∃g,e=Rt (S (O ⟨g,0,X⟩) a.length a.length)/\w'.ownsRow w.heap.size 65 2 (S (O ⟨g,0,X⟩) a.length a.length) a.length (zc (a.map (fun p=>((0:Int),p))))/\Below w.heap.size w w':=by
 have T:(a.length:Int)<=1000000:=zo;have B:=gS a.length zo;have h:=ug w a.length zo;have o:=zB w (C (madeCells #[I J 0,I J 0] (a.length*2)) 65);have m:=V h;have u:=V o;have M:=V K;obtain⟨f,G⟩:∃f:Nat->Int×Int,f=fun i=>(0,a.getD i 0):=⟨_,rfl⟩;have D:Hid (∀i p,a[i]? = O p->f i=(0,p)):=fun i p r=>by rw[G];simp[getD,r]
 clear h o K G;go_enter func226,ntmps226;go_wp2;go_loopw [11] (fun i wr=>∃k:Nat,i=I J k/\k<=a.length/\wr.ownsRow w.heap.size 65 2 (S (O ⟨w.heap.size,0,X⟩) a.length a.length) a.length (zc (fa f a.length k))/\Below w.heap.size w wr) (fun i _=>a.length-(intOf i).toNat);case atStart=>exact⟨0,rfl,Zq _,by rw[nT];exact U m,U u⟩
 case round=>
  clear B;obtain⟨k,rfl,hk,b,j⟩:=hrel;have l:=V b;have n:=V j;by_cases d:k<a.length
  ·obtain⟨p,r⟩:∃p,a[k]? = O p:=⟨_,Za d⟩;rcases M.z j with P|⟨q,rfl,W,s⟩;rw[P]at d;simp at d;have Q:=s k p r;have H:(k:Int)<a.length:=zo;have t:=dQ f a.length k k d;have c1:=zD b (k*2) zo;have c2:=zD b (k*2+1) zo;rw[(zL _ _ _ t).1]at c1;rw[(zL _ _ _ t).2]at c2;have y:=yB b;have R:=(zC b (k:=w.heap.size) rfl).1;have x:=V (nS f a.length k d);have v:=V (U D k p r);have N:=V t;clear b j r s t;go_wp2;go_roundw;case rel=>refine⟨k+1,by go_num,zo,?_,(n.setCell (Zc _) _).setCell (Zc _) _⟩;have F:=qI (qI l (k*2) (I J 0)) (k*2+1) (I J p);rw[fc _ k _ (U N) 0 p]at F;rw[U x,U v];exact F
   case measure=>exact zv
  ·have z:k=a.length:=zo;subst z;have he:=pW a (fun p=>((0:Int),p)) f D;have L:=V he;clear b j he;go_wp2;go_ret;refine⟨w.heap.size,rfl,?_,U n⟩;rw[<-U L];exact U l
def wE(a b:Int):Option (Int×Int):=if a=10/\b=10 then O (9,10)
 else if(a=10/\b=9)\/(a=9/\b=10)then O (10,a)
 else if a≠b then X
 else if a=9\/a=11\/a=14\/a=15\/a=16 then O (a,a)else X
def KG(r:Option (Int×Int)):Value:=match r with|some (j,o)=>Tu #[I J j,I J o,Bl Y]|none=>Tu #[I J 0,I J 0,Bl Z]
theorem Qy(a b:Int)(w:YW):Calls prog 227 #[I J a,I J b] w fun e w'=>e=Rt (KG (wE a b))/\w'=w:=by
 unfold wE;by_cases g:a=10
 ·subst g;by_cases i:b=10
  ·subst i;go_enter func227,ntmps227;go_wp2_with fail;go_ret3;exact⟨rfl,rfl⟩
  ·by_cases f:b=9
   ·subst f;go_enter func227,ntmps227;go_wp2_with fail;go_ret3;exact⟨rfl,rfl⟩
   ·have r:(b==10)=Z:=by simpa using i
    have s:(b==9)=Z:=by simpa using f
    have t:((10:Int)!=b)=Y:=zp;have e:(if(10:Int)=10/\b=10 then O ((9:Int),(10:Int))else if((10:Int)=10/\b=9)\/((10:Int)=9/\b=10)then O (10,10)else if(10:Int)≠b then X else if(10:Int)=9\/(10:Int)=11\/(10:Int)=14\/(10:Int)=15\/(10:Int)=16 then O (10,10)else X)=X:=by rw[if_neg zo,if_neg zo,if_pos zo]
    rw[e];clear i f e;go_enter func227,ntmps227;go_wp2_with fail;go_ret3;exact⟨rfl,rfl⟩
 ·have q:(a==10)=Z:=by simpa using g
  by_cases j:a=9/\b=10
  ·obtain⟨rfl,rfl⟩:=j;go_enter func227,ntmps227;go_wp2_with fail;go_ret3;exact⟨rfl,rfl⟩
  ·rw[if_neg zo,if_neg zo];by_cases c:a=b
   ·subst c;rw[if_neg zs];by_cases d:a=9\/a=11\/a=14\/a=15\/a=16
    ·rw[if_pos d];rcases d with rfl|rfl|rfl|rfl|rfl;all_goals go_enter func227,ntmps227;go_wp2_with fail;go_ret3;exact⟨rfl,rfl⟩
    ·rw[if_neg d];have h:(a==9)=Z:=zp;have l:(a==11)=Z:=zp;have m:(a==14)=Z:=zp;have n:(a==15)=Z:=zp;have o:(a==16)=Z:=zp;have k:(a != a)=Z:=zs;clear g j d;go_enter func227,ntmps227;go_wp2_with fail;go_ret3;exact⟨rfl,rfl⟩
   ·rw[if_pos c];have k:(a != b)=Y:=by simpa using c
    by_cases h:a=9
    ·subst h;have i:(b==10)=Z:=zp;clear g j c;go_enter func227,ntmps227;go_wp2_with fail;go_ret3;exact⟨rfl,rfl⟩
    ·have p:(a==9)=Z:=by simpa using h
     clear g j c h;go_enter func227,ntmps227;go_wp2_with fail;go_ret3;exact⟨rfl,rfl⟩
def kL(x:Int×Int):Bool:=decide (x.1=0\/9<=x.1/\x.1<=25)
theorem tO(G:YA)(c:Nat)(row:YL)(w:YW)(q:InL w G row)(Q:row.length<=1000000):Calls prog 224 #[S G row.length c] w fun e w'=>e=Rt (Bl (row.all kL))/\Below w.heap.size w w':=by
 have N:(row.length:Int)<=1000000:=zo;generalize h:row.all kL=res;have m:=V h;have y:=V q;clear q h;go_enter func224,ntmps224;go_wp2;go_loopw [7] (fun i wr=>∃k:Nat,i=I J k/\k<=row.length/\(row.drop k).all kL=res/\Below w.heap.size w wr) (fun i _=>row.length-(intOf i).toNat);case atStart=>exact⟨0,rfl,Zq _,U m,Ze _ _⟩
 case round=>
  obtain⟨k,rfl,P,a,b⟩:=hrel;have u:=V b;by_cases F:k<row.length
  ·obtain⟨x,t⟩:∃x,row[k]? = O x:=⟨_,Za F⟩;obtain⟨g,off,rfl,M,c1,c2⟩:=ju (y.z b) t;have D:row.drop k=x::row.drop (k+1):=by obtain⟨L,e⟩:=Zb.1 t;rw[drop_eq_getElem_cons L,e]
   rw[D,all_cons]at a;have K:(k:Int)<row.length:=zo;have j:Below w.heap.size w (wr.alloc (C #[I J x.1,I J x.2] 65)):=b.trans ((zB wr _).m b.size);have d:=V j;by_cases l:x.1=0\/9<=x.1/\x.1<=25
   ·have r:kL x=Y:=decide_eq_true l;rw[r,Bool.true_and]at a;have f:=V a;generalize x.1=o at *;generalize x.2=v at *;clear a D t r b j;by_cases H:o=0
    ·subst H;clear l;go_wp2;go_roundw;case rel=>exact⟨k+1,by go_num,zo,U f,U d⟩
     case measure=>exact zv
    ·have z:(o != 0)=Y:=by simpa using H
     have s:¬o<9:=zo;have B:¬o>25:=zo;have p:decide (o<9)=Z:=decide_eq_false s;have n:decide (25<o)=Z:=decide_eq_false zo;clear l;go_wp2;go_roundw;case rel=>exact⟨k+1,by go_num,zo,U f,U d⟩
     case measure=>exact zv
   ·have r:kL x=Z:=decide_eq_false l;rw[r,Bool.false_and]at a;subst a;generalize x.1=o at *;generalize x.2=v at *;clear D t r b j;have z:(o != 0)=Y:=zp;by_cases s:o<9
    ·have p:decide (o<9)=Y:=decide_eq_true s;clear l;go_wp2;go_ret;exact⟨rfl,U d⟩
    ·have p:decide (o<9)=Z:=decide_eq_false s;have n:decide (25<o)=Y:=decide_eq_true zo;have B:25<o:=zo;clear l;go_wp2;go_ret;exact⟨rfl,U d⟩
  ·have E:k=row.length:=zo;subst E;rw[drop_length]at a;subst a;clear b;go_wp2;go_ret;exact⟨rfl,U u⟩
def jl(row:YL):Option (YL):=match row with
 |[a,b]=>if a.1=0/\b.1=2 then(if a.2≠0 then O []else O [(1,b.2)])else X
 |_=>X
theorem Ub {row:YL} (h:row.length=2):∃ a b,row=[a,b]:=by
 cases row with
 |nil=>cases h
 |cons a r=>
  cases r with
  |nil=>cases h
  |cons b r=>
   cases r with
   |nil=>exact⟨a,b,rfl⟩
   |cons c r=>simp at h
def aD(B:Nat)(w':YW)(r:Option (YL))(e:Ending):Prop:=match r with
 |none=>e=Rt (Tu #[S X 0 0,Bl Z])
 |some l=>∃v,e=Rt (Tu #[v,Bl Y])/\w'.ownsRow B 65 2 v l.length (zc l)
theorem Ha(r:YA)(c:Nat)(row:YL)(w:YW)(d:InL w r row)(D:row.length<=1000000):Calls prog 200 #[S r row.length c] w fun e w'=>aD w.heap.size w' (jl row) e/\Below w.heap.size w w':=by
 have q:(row.length:Int)<=1000000:=zo;by_cases m:row.length=2
 ·obtain⟨a,b,rfl⟩:∃a b,row=[a,b]:=Ub m;obtain⟨g,off,rfl,B,c1,c2⟩:=ju d (k:=0) (x:=a) rfl;obtain⟨E,t,s,i,c3,c4⟩:=ju d (k:=1) (x:=b) rfl;simp only[Zs,Addr.mk.injEq,and_true]at s;obtain⟨rfl,rfl⟩:=s;obtain⟨j,n⟩:=a;obtain⟨o,u⟩:=b;simp only[Nat.zero_mul,Nat.add_zero,Nat.one_mul]at c1 c2 c3 c4;have f:(([(j,n),(o,u)]:YL).length)=2:=rfl;rw[f];unfold jl;simp only;clear d m D q f i;by_cases h:j=0/\o=2
  ·obtain⟨rfl,rfl⟩:=h;rw[if_pos ⟨rfl,rfl⟩];by_cases l:n=0
   ·subst l;rw[if_neg zs];go_enter func200,ntmps200;go_wp2_with fail;go_ret2;refine⟨⟨_,rfl,?_⟩,zB w _⟩;exact⟨rfl,Zf ⟨w.heap.size,1,_,rfl,Zc _,Blk.new w _ _,Zc _,zm,rfl,rfl⟩⟩
   ·rw[if_pos l];have v:(n != 0)=Y:=by simpa using l
    clear l;go_enter func200,ntmps200;go_wp2_with fail;go_ret2;exact⟨⟨_,rfl,rfl,Zg ⟨rfl,rfl⟩⟩,Ze _ _⟩
  ·rw[if_neg h];by_cases p:j=0
   ·subst p;have F:(o != 2)=Y:=zp;clear h;go_enter func200,ntmps200;go_wp2_with fail;go_ret2;exact⟨rfl,Ze _ _⟩
   ·have z:(j != 0)=Y:=by simpa using p
    clear h p;go_enter func200,ntmps200;go_wp2_with fail;go_ret2;exact⟨rfl,Ze _ _⟩
 ·have e:jl row=X:=by unfold jl;split;exact absurd rfl m;rfl
  rw[e];have y:((row.length:Int)!=2)=Y:=zp;clear d m e;go_enter func200,ntmps200;go_wp2_with fail;go_ret2;exact⟨rfl,Ze _ _⟩
theorem cR(t:TypeId)(xs:YV)(off:Nat)(v:Value)(c:xs[off]? = O v)(b:t=3\/t=2)(w:YW):(part t xs off).run prog w=.ok v w:=by
 have a:(isAgg t).run prog w=.ok Z w:=by rcases b with rfl|rfl;exact isAgg3 w;exact isAgg2 w
 simp[part,a,c]
theorem NQ(a b c d:Int)(w:YW):(binOp .neq 65 (Ag #[I J a,I J b]) (Ag #[I J c,I J d])).run prog w=.ok (Bl (!((a==c)&&(b==d)))) w:=by
 have t:prog.underlying 65=O (.struct (prog.fieldsOf 65)):=zr;have q:prog.stoodInHeld 65=Z:=zr;have i:(prog.fieldsOf 65).toList.map (fun f=>(decide (f.name = "_"),f.type,f.offset))=[(Z,3,0),(Z,2,1)]:=zr;rw[run_neq_struct,run_equalIn_agg _ _ _ _ _ t q];generalize (prog.fieldsOf 65).toList=n at i;obtain⟨f,r,rfl⟩:∃f r,n=f::r:=by cases n with|nil=>simp at i|cons f r=>exact⟨f,r,rfl⟩
 obtain⟨g,r,rfl⟩:∃f s,r=f::s:=by cases r with|nil=>simp at i|cons f r=>exact⟨f,r,rfl⟩
 obtain rfl:r=[]:=by cases r with|nil=>rfl|cons f r=>simp at i
 simp only[map_cons,map_nil,List.cons.injEq,Prod.mk.injEq,and_true,decide_eq_false_iff_not]at i;obtain⟨⟨l,e,j⟩,m,h,k⟩:=i;have p1:=cR f.type #[I J a,I J b] f.offset (I J a) (by rw[j];rfl) (Zg e) w;have p2:=cR f.type #[I J c,I J d] f.offset (I J c) (by rw[j];rfl) (Zg e) w;have p3:=cR g.type #[I J a,I J b] g.offset (I J b) (by rw[k];rfl) (Zf h) w;have p4:=cR g.type #[I J c,I J d] g.offset (I J d) (by rw[k];rfl) (Zf h) w;have o:(Op.equalIn 9999 f.type (I J a) (I J c)).run prog w=.ok (a==c) w:=run_equalIn_int w 9998 f.type .i64 .i64 a c (by rw[e];exact underlying3);have p:(Op.equalIn 9999 g.type (I J b) (I J d)).run prog w=.ok (b==d) w:=run_equalIn_int w 9998 g.type .i64 .i64 b d (by rw[h];exact underlying2);simp only[Op.eqFields,l,m,ne_eq,not_false_eq_true,if_true,Sem.run_bind,p1,p2,p3,p4,o,p,Result.andThen_ok,Sem.run_ite,Sem.run_pure];cases hac:(a==c)<;>cases hbd:(b==d)<;>simp
theorem tm(op:BinOp)(x y:Operand)(xs a:YV)(w:YW):(eqGuard op 65 x y (.agg xs) (.agg a)).run prog w=.ok () w:=run_eqGuard_agg w op 65 x y xs a zr
theorem TA{a b:Int×Int}:((a.1==b.1)&&(a.2==b.2))=(a==b):=rfl
theorem MU (ao bo:YA) (c d:Nat) (a b:YL) (w:YW) (ha:InL w ao a) (hb:InL w bo b) (hn:a.length≤1000000∧b.length≤1000000) : Calls prog 229 #[S ao a.length c,S bo b.length d] w fun e w'=>e=Rt (Bl (a == b))∧Below w.heap.size w w':=by
 have hnI:(a.length:Int)≤1000000∧(b.length:Int)≤1000000:=zo;by_cases hl:a.length=b.length
 ·generalize hres:(a == b)=res;have HRES:=V hres;have HA:=V ha;have HB:=V hb;have HN:=V NQ;have HG:=V tm;rw[← hl];have hlI:((a.length:Int) != a.length)=Z:=zs;clear ha hb hres;go_enter func229,ntmps229;go_wp2;go_loopw [13] (fun i wr=>∃ k:Nat,i=I J k∧k≤a.length∧(a.drop k == b.drop k)=res∧Below w.heap.size w wr) (fun i _=>a.length-(intOf i).toNat);case atStart=>exact⟨0,rfl,Zq _,U HRES,Ze _ _⟩
  case round=>
   obtain⟨k,rfl,hk,hrun,hbw⟩:=hrel;have HBW:=V hbw;by_cases hlt:k<a.length
   ·obtain⟨x,hx⟩:∃ x,a[k]? = O x:=⟨_,Za hlt⟩;obtain⟨y,hy⟩:∃ y,b[k]? = O y:=⟨_,Za zo⟩;obtain⟨g,off,rfl,hgl,c1,c2⟩:=ju (HA.z hbw) hx;obtain⟨g',off',rfl,hgl',c3,c4⟩:=ju (HB.z hbw) hy;have hd1:a.drop k=x :: a.drop (k+1):=by obtain⟨h1,e⟩:=Zb.1 hx;rw[drop_eq_getElem_cons h1,e]
    have hd2:b.drop k=y :: b.drop (k+1):=by obtain⟨h1,e⟩:=Zb.1 hy;rw[drop_eq_getElem_cons h1,e]
    rw[hd1,hd2,cons_beq_cons]at hrun;have hltI:(k:Int)<a.length:=zo;have hne:=U HN x.1 x.2 y.1 y.2;rw[TA]at hne;have hgd:=U HG;have HRUN:=V hrun;have HBD:Hid (∀ n,Below w.heap.size w (wr.drewN n)):=fun n=>zS hbw n;obtain⟨x1,x2⟩:=x;obtain⟨y1,y2⟩:=y;generalize hxy:(((x1,x2):Int×Int) == (y1,y2))=q at *;simp only at c1 c2 c3 c4 hne;clear hrun hd1 hd2 hx hy hbw hxy;cases q with
    |true=>
     go_wp2;go_quiet (fail);go_wp2;go_roundw;case rel=>exact⟨k+1,by go_num,zo,by simpa using U HRUN,U HBD _⟩
     case measure=>exact zv
    |false=>go_wp2;go_quiet (fail);go_wp2;go_ret;have:=U HRUN;simp only[Bool.false_and]at this;rw[← this];exact⟨rfl,U HBD _⟩
   ·have hkk:k=a.length:=zo;subst hkk;rw[drop_length,hl,drop_length]at hrun;subst hrun;clear hbw;go_wp2;go_ret;exact⟨rfl,U HBW⟩
 ·have e:(a == b)=Z:=by
   cases hc:(a == b) with
   |false=>rfl
   |true=>exact absurd (congrArg length (eq_of_beq hc)) hl
  rw[e];have hlI:((a.length:Int) != b.length)=Y:=zp;clear ha hb e hl;go_enter func229,ntmps229;go_wp2;go_ret;exact⟨rfl,Ze _ _⟩
def isS(pat:YL)(short:YI)(row:YL):Option (YL):=if row==pat then O (short.map (fun p=>(p,(0:Int))))else X
theorem Sy(s z n:YA)(c pc o F t:Nat)(row a:YL)(short:YI)(w:YW)(l:InL w s row)(d:InL w z a)(m:bh w n short)(u:Blk w F #[S z a.length pc] 33)(j:Blk w t #[S n short.length o] 115)(x:row.length<=1000000/\a.length<=1000000/\short.length<=1000):Calls prog 228 #[S s row.length c,A (O ⟨F,0,X⟩),A (O ⟨t,0,X⟩)] w fun e w'=>aD w.heap.size w' (isS a short row) e/\Below w.heap.size w w':=by
 have B:=V (MU s z c pc row a w l d ⟨x.1,x.2.1⟩);have E:Hid (∀W,Below w.heap.size w W->Calls prog 202 #[S n short.length o] W fun e w'=>∃g,e=Rt (S (O ⟨g,0,X⟩) short.length short.length)/\w'.ownsRow W.heap.size 65 2 (S (O ⟨g,0,X⟩) short.length short.length) short.length (zc (short.map (fun p=>(p,(0:Int)))))/\Below W.heap.size W w'):=fun W v=>Jw n o short W (m.z v) x.2.2;have D:Hid (∀W,Below w.heap.size w W->Blk W t #[S n short.length o] 115):=fun W v=>j.z v j.lt;have c1:=u.u;have c2:=j.u;have K:=u.lt;have L:=j.lt;unfold isS;generalize H:(row==a)=q at *;clear l d m u j H;go_enter func228,ntmps228;go_wp2_with fail;refine B.m ?_;rintro e G ⟨rfl,h⟩;have y:=U D G h;have c3:=y.u;have M:=y.lt;have b:=V h;clear B h y D c1 c2 K L;cases q with
 |false=>go_wp2_with fail;go_ret2;exact⟨rfl,U b⟩
 |true=>go_wp2_with fail;refine(U E G b).m ?_;rintro e N ⟨g,rfl,f,k⟩;have i:=V f;have r:=V k;clear E f k;go_wp2_with fail;go_ret2;refine⟨⟨_,rfl,?_⟩,b.trans (r.m b.size)⟩;rw[length_map];exact zV i b.size
theorem AB(w:YW)(B:Nat)(e:TypeId)(v:Value)(n c:Nat)(xs:List Value)(a:w.ownsRow B 65 2 v n xs):(Builtin.append_ #[33,33] e #[v,S X 0 c]).run prog w=.ok v w:=by obtain⟨i,d,_⟩:=info_parts yJ;rcases a.2 with⟨rfl,rfl⟩|⟨g,cap,cur,rfl,_,_,b,_⟩;simp[Builtin.append_,run_underlying underlying33,sizeOf,typeInfo,d,Builtin.lenOf,Builtin.firstCells];simp[Builtin.append_,run_underlying underlying33,sizeOf,typeInfo,d,Builtin.lenOf,Builtin.firstCells,b,storeCells]
def yD(B:Nat)(w:YW)(v:Value)(l:YL):Prop:=w.ownsRow B 65 2 v l.length (zc l)
theorem yD.isIn{B:Nat}{w:YW}{b:YA}{n c:Nat}{l:YL}(h:yD B w (S b n c) l):InL w b l/\n=l.length:=by
 unfold yD at h;obtain⟨a,k,f⟩:=zu h;simp only[Zk]at f;obtain⟨rfl,rfl,rfl⟩:=f;refine⟨?_,rfl⟩;rcases h.2 with⟨d,m⟩|⟨g,cap,cur,e,_⟩;have:l.length=0:=by simp only[Zk]at d;exact d.2.1
 exact Zg (length_eq_zero_iff.1 this);simp only[Zk]at e;obtain⟨rfl,_,rfl⟩:=e;refine Zf ⟨g,0,rfl,(zC h (k:=g) rfl).1,fun j u i=>?_⟩;have:=ov h j u i;rw[cA]at this;exact this
theorem vz {w:YW} {ops:Array Oper} {rest:List Oper} {o:Oper} {a:Act} {Q:Exit→Act→World→Prop} (hgd:o.guard=X) (s x:Operand) (ho:o.op=.call { callee:=.builtin .append,args:=#[s,x],argTypes:=#[33,33] }) (B:Nat) (w0:YW) (v:Value) (l l2:YL) (ao:YA) (c:Nat) (hs:a.eval s=v) (hx:a.eval x=S ao l2.length c) (hown:yD B w v l) (hin:InL w ao l2) (hsm:l.length+l2.length≤1000000) (hb:Below B w0 w) (hB:B≤w.heap.size) (dst:Option Tmp) (hdst:o.dst=dst) (h:∀ ao' c' w',Hid (yD B w' (S ao' (l++l2).length c') (l++l2))→Hid (Below B w0 w')→wpList prog ops Q rest (a.put dst (S ao' (l++l2).length c')) w') : wpList prog ops Q (o :: rest) a w:=by
 subst hdst;obtain⟨iI,hiI,hzI0,hzI1,hzI2⟩:=info_parts yJ;unfold yD at hown;cases ao with
 |none=>
  obtain rfl:l2=[]:=by rcases hin with h0|⟨g,off,e,_⟩;exact h0;cases e
  refine wpList_plain hgd fun K hK=>?_;have hrun:=AB w B o.type v l.length c _ hown;obtain⟨a1,k1,hv⟩:=zu hown;have hfin:=h a1 k1 w (V (by rw[← append_nil l]at hown;rw[hv]at hown;simpa [yD] using hown)) (V hb);unfold Oper.wp;simp only[length_nil]at hx;simp[execOp,ho,resolve,invoke,builtin,hs,hx,hrun,Result.andThen];refine hK _ _ ?_;rw[hv];simpa using hfin
 |some ad=>
  have hnews:∀ j u,(zc l2)[j]? = O u→w.cell? (ad.add j)=O u:=by rcases hin with rfl|⟨g,off,e,_,h3⟩;intro j u hu;simp[zc]at hu;simp only[Zs]at e;subst e;intro j u hu;rw[cA];exact h3 j u hu
  refine wpList_append_own w hgd s x 33 ho B 65 iI _ 2 16 underlying33 hiI hzI0 hzI1 hzI2 rfl zd v l.length (zc l) hs hown ad l2.length c (zc l2) hx (yL l2) hnews (kP l2) zm zo hB ?_;intro v' w' hown' hgrow _;obtain⟨a1,k1,hv⟩:=zu hown';subst hv;have e:(l++l2).length=l.length+l2.length:=Zi;have:=h a1 k1 w' (V (by unfold yD;rw[e,eD];exact hown')) (V (hb.grown hgrow hB (fun j hj=>(zC hown hj).2)));rw[e]at this;exact this
theorem lq(w:YW)(cs:YV)(a:YI)(h:cs=(a.map (fun p=>Value.int .i64 p)).toArray)(T:TypeId):bh (w.alloc (C cs T)) (O ⟨w.heap.size,0,X⟩) a:=by refine Zf ⟨w.heap.size,rfl,(Blk.new w cs T).lt,fun j p b=>?_⟩;rw[(Blk.new w cs T).u,h];simp[b]
def aB(w:YW)(l:YL)(e:Ending)(w':YW):Prop:=∃ao c,e=Rt (S ao l.length c)/\yD w.heap.size w' (S ao l.length c) l/\Below w.heap.size w w'
theorem np(b:YA)(c:Nat)(a:YI)(w:YW)(j:bh w b a)(i:a.length<=1000):Calls prog 202 #[S b a.length c] w (aB w (a.map (fun p=>(p,(0:Int))))):=by refine(Jw b c a w j i).m ?_;rintro e w' ⟨g,rfl,f,h⟩;have d:(a.map (fun p=>(p,(0:Int)))).length=a.length:=length_map ..;exact⟨_,_,by rw[d],by unfold yD;rw[d];exact f,h⟩
theorem ue(b:YA)(c:Nat)(a:YI)(w:YW)(j:bh w b a)(i:a.length<=1000000):Calls prog 226 #[S b a.length c] w (aB w (a.map (fun p=>((0:Int),p)))):=by refine(Qz b c a w j i).m ?_;rintro e w' ⟨g,rfl,f,h⟩;have d:(a.map (fun p=>((0:Int),p))).length=a.length:=length_map ..;exact⟨_,_,by rw[d],by unfold yD;rw[d];exact f,h⟩
theorem yD.z{B:Nat}{w w':YW}{v:Value}{l:YL}(h:yD B w v l)(a:Below w.heap.size w w'):yD B w' v l:=by unfold yD at h ⊢;exact(zz.aB a).row h
theorem yD.K{B a:Nat}{w:YW}{v:Value}{l:YL}(h:yD B w v l)(b:a<=B):yD a w v l:=by unfold yD at h ⊢;exact zV h b
theorem KH(n:Int)(l:YA)(c:Nat)(a:YI)(w:YW)(u:bh w l a)(B:a.length<=1000):Calls prog 203 #[I J n,S l a.length c] w (aB w ((0,n)::a.map (fun p=>(p,(0:Int))))):=by have s:=V (ue (O ⟨w.heap.size,0,X⟩) 1 [n] (w.alloc (C #[I J n] 2)) (lq w _ [n] rfl _) zs);have t:Hid (∀W,Below w.heap.size w W->Calls prog 202 #[S l a.length c] W (aB W (a.map (fun p=>(p,(0:Int)))))):=fun W z=>np l c a W (u.z z) B;have b:=V (zB w (C #[I J n] 2));clear u;go_enter func203,ntmps203;go_wp2_with fail;refine s.m ?_;rintro e v ⟨E,c1,rfl,j,i⟩;have d:Hid (Below w.heap.size w v):=b.trans (i.m b.size);have h:=V (j.K b.size);clear s j i;go_wp2_with fail;refine(U t v d).m ?_;rintro e D ⟨x,c2,rfl,k,f⟩;have g:Hid (Below w.heap.size w D):=d.trans (f.m d.size);have q:=V (h.z f);have o:=V (k.isIn).1;clear t h k f;go_wp2_with (at_builtin;refine vz rfl (.tmp 7) (.tmp 9) rfl w.heap.size w _ _ (a.map (fun p=>(p,(0:Int)))) x c2 zf zf q o zp g g.size _ rfl ?_;intro y c3 F r m);go_ret;exact⟨y,c3,zs,by simpa using U r,U m⟩
theorem pE(n:Nat):(Builtin.zeroCells (Value.agg #[I J 0,I J 0]).cells n).size=n*2:=by simp[Builtin.zeroCells,Value.cells]
theorem Ht(n:Nat)(w:YW)(s:n<=1000000):Calls prog 238 #[S X 0 0,I J n] w (aB w []):=by
 have p:¬((n:Int)<0):=zo;have q:IntKind.i64.wrap ((n:Int)-0)=n:=zw;obtain⟨o,g,c,j,d⟩:=info_parts yJ;by_cases l:n=0
 ·subst l;go_enter func238,ntmps238;go_wp2;go_ret;exact⟨X,0,rfl,⟨rfl,Zg ⟨rfl,rfl⟩⟩,Ze _ _⟩
 ·have r:(n:Int)>0:=zo;have b:∀h,(Builtin.append_ #[33,3] h #[S X 0 0,I J n]).run prog w=_:=fun h=>Lib.run_append_nil_zeros w 33 3 h 65 o _ .i64 .i64 underlying33 underlying3 g c n zo zo zo (by rw[d];omega);have m:=grownCap_ge w n 0 65;have a:=grownCap_le_maxLen w n 0 65 zm;have k:=V b;generalize grownCap w n 0 65=G at *;have i:(G:Int)<=9223372036854775807:=by unfold maxLen at a;omega
  have f:Hid (yD w.heap.size (w.drew.alloc (C (Builtin.zeroCells (Value.agg #[I J 0,I J 0]).cells n++Builtin.zeroCells (Value.agg #[I J 0,I J 0]).cells (G-n)) 65)) (S (O ⟨w.heap.size,0,X⟩) 0 G) []):=by refine⟨rfl,Zf ⟨w.heap.size,G,_,rfl,Zc _,Blk.new w.drew _ _,Zq _,a,?_,by simp[zc]⟩⟩;rw[Array.size_append,pE,pE];omega
  have e:Hid (Below w.heap.size w (w.drew.alloc (C (Builtin.zeroCells (Value.agg #[I J 0,I J 0]).cells n++Builtin.zeroCells (Value.agg #[I J 0,I J 0]).cells (G-n)) 65))):=(zS (Ze _ _) 1).trans (zB w.drew _);clear b;go_enter func238,ntmps238;go_wp2_with (at_builtin;refine Lib.wpList_append_run _ rfl _ _ _ _ rfl _ _ rfl rfl _ _ (U k _) ?_);all_goals (go_ret;exact⟨_,_,rfl,U f,U e⟩)
def mZ(w:YW)(q:Nat)(rs:List (Option Addr×Nat×YL)):Prop:=q<w.heap.size/\∀j r,rs[j]? = O r->w.cell? ⟨q,j,X⟩=O (S r.1 r.2.2.length r.2.1)/\InL w r.1 r.2.2
theorem mZ.z{w w':YW}{q:Nat}{c:List (Option Addr×Nat×YL)}(h:mZ w q c)(a:Below w.heap.size w w'):mZ w' q c:=⟨by have:=a.size;have:=h.1;omega,fun j r b=>⟨by rw[a.u (by simpa using h.1)];exact(h.2 j r b).1,(h.2 j r b).2.z a⟩⟩
def qi(rs:List (Option Addr×Nat×YL)):YL:=rs.flatMap (fun r=>r.2.2)
theorem gF{a:List (Option Addr×Nat×YL)}{k:Nat}{r:Option Addr×Nat×YL}(h:a[k]? = O r):qi (a.take (k+1))=qi (a.take k)++r.2.2:=by unfold qi;rw[take_add_one,h,flatMap_append];simp
theorem Bd(a:List (Option Addr×Nat×YL))(k:Nat):(qi (a.take k)).length<=(qi a).length:=by
 have:qi a=qi (a.take k)++qi (a.drop k):=by unfold qi;rw[<-flatMap_append,take_append_drop]
 rw[this,Zi];omega
theorem uR(q cq:Nat)(a:List (Option Addr×Nat×YL))(w:YW)(L:mZ w q a)(hn:a.length<=1000)(hs:(qi a).length<=1000000):Calls prog 225 #[S (O ⟨q,0,X⟩) a.length cq] w (aB w (qi a)):=by
 have b0:(a.length:Int)<=1000:=zo;have H:=V L;have d0:=L.1;clear L;go_enter func225,ntmps225;go_wp2;go_loopw [3,11] (fun M i wr=>∃k:Nat,i=I J k/\k<=a.length/\M=I J ((qi (a.take k)).length:Nat)/\wr=w) (fun _ i _=>a.length-(intOf i).toNat);case atStart=>exact⟨0,rfl,Zq _,rfl,rfl⟩
 case round=>
  obtain⟨k,rfl,hk,rfl,R⟩:=hrel;obtain rfl:=R.symm;clear R;by_cases o:k<a.length
  ·obtain⟨r,g⟩:∃r,a[k]? = O r:=⟨_,Za o⟩;obtain⟨N,_⟩:=H.2 k r g;have v:(k:Int)<a.length:=zo;have p:=congrArg length (gF g);rw[Zi]at p;have K:=Bd a (k+1);have E:=V p;have Q:IntKind.i64.wrap (((qi (a.take k)).length:Int)+(r.2.2.length:Int))=((qi (a.take k)).length:Int)+(r.2.2.length:Int):=zw;have P:¬(((qi (a.take k)).length:Int)+(r.2.2.length:Int)<0):=zo;have l:((qi (a.take k)).length:Int)<=1000000:=zo;have a0:(r.2.2.length:Int)<=1000000:=zo;generalize (qi (a.take k)).length=m at *;generalize r.2.2.length=T at *;clear p K g;go_wp2;go_roundw;case rel=>exact⟨k+1,by go_num,zo,by rw[U E];first|rfl|go_num,trivial⟩
   case measure=>exact zv
  ·have n:k=a.length:=zo;subst n;rw[take_length];have s:=V (Ht (qi a).length w hs);go_wp2_with fail;refine s.m ?_;rintro e w1 ⟨a1,c1,rfl,x,l⟩;have F:=V x;have B:=V l;clear s x l;go_wp2;go_loopw [6,27] (fun M i W=>∃(k:Nat)(z:YA)(c:Nat),i=I J k/\k<=a.length/\M=S z (qi (a.take k)).length c/\yD w.heap.size W (S z (qi (a.take k)).length c) (qi (a.take k))/\Below w.heap.size w W) (fun _ i _=>a.length-(intOf i).toNat);case atStart=>exact⟨0,a1,c1,rfl,Zq _,rfl,U F,U B⟩
   case round=>
    obtain⟨k,z,c,rfl,hk,rfl,f,d⟩:=hrel;have b:=V f;have h:=V d;by_cases o:k<a.length
    ·obtain⟨r,g⟩:∃r,a[k]? = O r:=⟨_,Za o⟩;obtain⟨N,u⟩:=(H.z d).2 k r g;have c0:=(H.z d).1;have v:(k:Int)<a.length:=zo;have j:=V (gF g);have p:=congrArg length (gF g);rw[Zi]at p;have K:=Bd a (k+1);have y:(qi (a.take k)).length+r.2.2.length<=1000000:=zo;have t:=V u;generalize qi (a.take k)=l1 at *;obtain⟨ra,rc,T⟩:=r;simp only at N t j y;clear p K g f d u;go_wp2_with (at_builtin;refine vz rfl (.tmp 31) (.tmp 32) rfl w.heap.size w _ l1 T ra rc zf zf b t y h h.size _ rfl ?_;intro a3 c3 w3 G D);go_roundw;case rel=>refine⟨k+1,a3,c3,by go_num,zo,?_,?_,U D⟩;rw[U j];simp;rw[U j];exact U G
     case measure=>exact zv
    ·have n:k=a.length:=zo;subst n;rw[take_length]at b ⊢;clear f d;go_wp2;go_ret;exact⟨z,c,rfl,U b,U h⟩
def jd (l:YL):Nat→Int→Int
  | 0,k=>k
  | n + 1, k => match l[k.toNat]? with
    | some x=>if x.1=1 then jd l n x.2 else k
    | none=>k
theorem Qp(v:YA)(c:Nat)(l:YL)(k:Int)(w:YW)(m:InL w v l)(N:l.length<=1000000)(y:∀x∈l,x.1=1->0<=x.2/\x.2<l.length)(z:0<=k/\k<l.length):Calls prog 153 #[S v l.length c,I J k] w fun e w'=>e=Rt (I J (jd l l.length k))/\w'=w:=by
 have K:(l.length:Int)<=1000000:=zo;generalize b:jd l l.length k=res;have h:=V b;have p:=V m;have E:=V y;have q:=V z;clear m y b z;go_enter func153,ntmps153;go_wp2;go_loopw [1,7] (fun M i wr=>∃(n:Nat)(u:Int),i=I J n/\M=I J u/\n<=l.length/\(0<=u/\u<l.length)/\jd l (l.length-n) u=res/\wr=w) (fun _ i _=>l.length-(intOf i).toNat);case atStart=>exact⟨0,k,rfl,rfl,Zq _,U q,U h,rfl⟩
 case round=>
  obtain⟨n,u,rfl,rfl,L,P,a,D⟩:=hrel;obtain rfl:=D.symm;clear D;by_cases H:n<l.length
  ·obtain⟨t,rfl⟩:∃t:Nat,u=t:=⟨u.toNat,zo⟩;obtain⟨x,o⟩:∃x,l[t]? = O x:=⟨_,Za zo⟩;obtain⟨g,off,rfl,G,c1,c2⟩:=ju p o;have B:(n:Int)<l.length:=zo;have e:l.length-n=(l.length-(n+1))+1:=zo;rw[e]at a;unfold jd at a;simp only[Zr,o]at a;have f:=Zd o;by_cases d:x.1=1
   ·rw[if_pos d]at a;have s:=U E x f d;rw[d]at c1;have j:=V a;clear a o e f d;go_wp2;go_roundw;case rel=>exact⟨n+1,x.2,by go_num,rfl,zo,s,U j,trivial⟩
    case measure=>exact zv
   ·rw[if_neg d]at a;have F:(x.1 != 1)=Y:=by simpa using d
    subst a;clear o e f d;go_wp2;go_ret;exact⟨rfl,rfl⟩
  ·have r:n=l.length:=zo;subst r;rw[Nat.sub_self]at a;unfold jd at a;subst a;go_wp2;go_ret;exact⟨rfl,rfl⟩
def xD(nums:YI)(x:Int×Int):Int×Int:=if zT x.1=Y then(x.1,nums.getD x.2.toNat 0)else x
def kR(nums:YI)(row:YL):YL:=row.map (xD nums)
theorem IB(q cq c:Nat)(ao:YA)(nums:YI)(row:YL)(w:YW)(hq:pG w q nums)(P:InL w ao row)(hn:row.length<=1000000/\nums.length<=1000000)(hj:∀x∈row,zT x.1=Y->0<=x.2/\x.2<nums.length):Calls prog 157 #[S (O ⟨q,0,X⟩) nums.length cq,S ao row.length c] w (aB w (kR nums row)):=by
 have q0:(row.length:Int)<=1000000/\(nums.length:Int)<=1000000:=zo;have h0:=gS row.length zo;have o:=ug w row.length zo;have K:=zB w (C (madeCells #[I J 0,I J 0] (row.length*2)) 65);have t:=V o;have a0:=V K;have W:=V hq;have d0:=V P;have HJ:=V hj;obtain⟨f,hf⟩:∃f:Nat->Int×Int,f=fun i=>xD nums (row.getD i (0,0)):=⟨_,rfl⟩;have T:Hid (∀i x,row[i]? = O x->f i=xD nums x):=fun i x B=>by rw[hf];simp[getD,B]
 clear o K hq hf P hj;go_enter func157,ntmps157;go_wp2;go_loopw [13] (fun i wr=>∃k:Nat,i=I J k/\k<=row.length/\wr.ownsRow w.heap.size 65 2 (S (O ⟨w.heap.size,0,X⟩) row.length row.length) row.length (zc (fa f row.length k))/\Below w.heap.size w wr) (fun i _=>row.length-(intOf i).toNat);case atStart=>exact⟨0,rfl,Zq _,by rw[nT];exact U t,U a0⟩
 case round=>
  clear h0;obtain⟨k,rfl,hk,d,j⟩:=hrel;have G:=V d;have b0:=V j;by_cases y:k<row.length
  ·obtain⟨x,B⟩:∃x,row[k]? = O x:=⟨_,Za y⟩;obtain⟨g,off,rfl,p0,c1,c2⟩:=ju (d0.z j) B;have k0:(k:Int)<row.length:=zo;have L:Below w.heap.size w (wr.alloc (C #[I J x.1,I J x.2] 65)):=j.trans ((zB wr _).m j.size);have l:=V L;have E:=V (cN x.1 (wr.alloc (C #[I J x.1,I J x.2] 65)));have b:=zE d (C #[I J x.1,I J x.2] 65);have hX:=dQ f row.length k k y;have k1:=zD b (k*2) zo;have k2:=zD b (k*2+1) zo;rw[(zL _ _ _ hX).1]at k1;rw[(zL _ _ _ hX).2]at k2;have u:=yB b;have N:=(zC b (k:=w.heap.size) rfl).1;have h:=V b;have F:=V (nS f row.length k y);have r:=V (U T k x B);have HX:=V hX;have v:=U HJ x (Zd B);have m:=Blk.new wr #[I J x.1,I J x.2] 65;have l0:w.heap.size<wr.heap.size:=(zC d (k:=w.heap.size) rfl).1;have M:=m.u;have e0:=m.H;have g0:=m.lt;have c0:=V m;clear d j L B hX b m;have n0:=V W;go_wp2_with fail;refine E.m ?_;rintro e w1 ⟨rfl,Q⟩;rw[<-Q]at l k1 k2 u N h M e0 g0 c0;clear Q E c1 c2;by_cases n:zT x.1=Y
   ·have j0:=v n;obtain⟨D,z⟩:∃D:Nat,x.2=D:=⟨x.2.toNat,zo⟩;obtain⟨p,hp⟩:∃p,nums[D]? = O p:=⟨_,Za zo⟩;have o0:w1.cell? ⟨q,D,X⟩=O (I J p):=by rw[l.u (by simpa using W.1)];exact W.2 D p hp
    have r0:q<w1.heap.size:=by have:=W.1;have:=l.size;omega
    have s:Hid (f k=(x.1,p)):=by have:=U r;unfold xD at this;rw[if_pos n,z,Zr]at this;exact V (by simpa [getD,hp]using this)
    have m0:(D:Int)<nums.length:=zo;rw[n];rw[z]at M;generalize x.1=R at *;clear hp v r j0 z HJ T;go_wp2;go_roundw;case rel=>refine⟨k+1,by go_num,zo,?_,((l.setCell zp _).setCell (Zc _) _).setCell (Zc _) _⟩;have H:=qI (qI (zA h (a:=⟨wr.heap.size,1,X⟩) (by simp[Value.ownBlock];omega) (I J p)) (k*2) (I J R)) (k*2+1) (I J p);rw[fc _ k _ (U HX) R p]at H;rw[U F,U s];exact H
    case measure=>exact zv
   ·have i0:zT x.1=Z:=by simpa using n
    have s:Hid (f k=(x.1,x.2)):=by have:=U r;unfold xD at this;rw[if_neg n]at this;exact this
    rw[i0];generalize x.1=R at *;generalize x.2=xa at *;clear v r HJ T;go_wp2;go_roundw;case rel=>refine⟨k+1,by go_num,zo,?_,(l.setCell (Zc _) _).setCell (Zc _) _⟩;have H:=qI (qI h (k*2) (I J R)) (k*2+1) (I J xa);rw[fc _ k _ (U HX) R xa]at H;rw[U F,U s];exact H
    case measure=>exact zv
  ·have f0:k=row.length:=zo;subst f0;have he:=pW row (xD nums) f T;have HE:=V he;clear d j he;go_wp2;go_ret;have el:(kR nums row).length=row.length:=length_map ..;refine⟨O ⟨w.heap.size,0,X⟩,row.length,by rw[el];rfl,?_,U b0⟩;unfold yD;rw[el];unfold kR;rw[<-U HE];exact U G
def vr(b:List Bool):List Value:=b.map Value.bool
def xm(B:Nat)(w:YW)(g:Nat)(b:List Bool):Prop:=w.ownsRow B 4 1 (S (O ⟨g,0,X⟩) b.length b.length) b.length (vr b)
theorem LY:(prog.info? 4).map (fun i=>(i.zero,i.size,i.bytes))=O (O (Bl Z),1,1):=zr
theorem rM(n:Nat)(g:n<=17592186044416)(w:YW):(Instr.makeSlice 182 (I J (n:Int)) (I J (n:Int))).run prog w=.ok (S (O ⟨w.heap.size,0,X⟩) n n) (w.alloc (C (madeCells #[Bl Z] (n*1)) 4)):=by obtain⟨f,d,a,b,c⟩:=info_parts LY;have e:=run_make (P:=prog) w 182 4 f _ underlying182 d a .i64 .i64 n n zo (Int.le_refl _) (by rw[c];omega) zo;simp only[Zr,b]at e;exact e
theorem og(w:YW)(n:Nat)(a:n<=17592186044416):xm w.heap.size (w.alloc (C (madeCells #[Bl Z] (n*1)) 4)) w.heap.size (replicate n Z):=by
 have e:madeCells #[Bl Z] (n*1)=(vr (replicate n Z)).toArray:=by apply Array.ext';rw[Nat.mul_one,toList_madeCells_one];simp[vr]
 rw[e];refine⟨by simp[vr],Zf ⟨w.heap.size,n,_,zs,Zc _,Blk.new w _ _,zs,zm,by simp[vr],by simp[vr]⟩⟩
theorem xm.set{B:Nat}{w:YW}{g:Nat}{b:List Bool}(h:xm B w g b)(j:Nat)(v:Bool):xm B (w.setCell ⟨g,j,X⟩ (Bl v)) g (b.set j v):=by
 unfold xm at h ⊢;rw[length_set];have:=qI h j (Bl v);have e:vr (b.set j v)=(vr b).set j (Bl v):=by unfold vr;rw[map_set]
 rw[e];exact this
theorem xm.u{B:Nat}{w:YW}{g:Nat}{b:List Bool}(h:xm B w g b){j:Nat}{v:Bool}(a:b[j]? = O v):w.cell? ⟨g,j,X⟩=O (Bl v):=by unfold xm at h;have c:=(Zb.1 a).1;rw[zD h j zo];unfold vr;rw[Zn,a];rfl
theorem xm.H{B:Nat}{w:YW}{g:Nat}{b:List Bool}(h:xm B w g b)(j:Nat):w.frozen? ⟨g,j,X⟩=Z:=yB h j
theorem xm.lt{B:Nat}{w:YW}{g:Nat}{b:List Bool}(h:xm B w g b):g<w.heap.size/\B<=g:=zC h (k:=g) rfl
theorem xm.K{B a:Nat}{w:YW}{g:Nat}{b:List Bool}(h:xm B w g b)(c:a<=B):xm a w g b:=zV h c
theorem xm.alloc{B:Nat}{w:YW}{g:Nat}{b:List Bool}(h:xm B w g b)(o:Obj):xm B (w.alloc o) g b:=zE h o
def jx(b:List Bool)(i:Nat)(x:Int×Int):List Bool:=let c:=if zT x.1=Y then b.set x.2.toNat Y else b
 if zT x.1=Y\/(x.1=1\/x.1=4\/x.1=5)then c.set (i+1) Y else c
def qp (l:YL) (en:Nat):Nat→List Bool
  | 0=>((replicate (l.length+1) Z).set 0 Y).set en Y
  | k + 1 => match l[k]? with
    | some x=>jx (qp l en k) k x
    | none=>qp l en k
def kN(l:YL)(en:Nat):List Bool:=qp l en l.length
theorem GM(b:List Bool)(i:Nat)(x:Int×Int):(jx b i x).length=b.length:=by unfold jx;simp only;split<;>split<;>simp
theorem cC(l:YL)(en k:Nat):(qp l en k).length=l.length+1:=by
 induction k with
 |zero=>simp[qp]
 |succ k a=>unfold qp;split;rw[GM,a];exact a
theorem Ba(D:YA)(c en:Nat)(ce:Int)(l:YL)(w:YW)(j0:InL w D l)(hn:l.length<=100000)(H0:en<l.length)(hj:∀x∈l,zT x.1=Y->0<=x.2/\x.2<l.length):Calls prog 155 #[Ag #[S D l.length c,I J en,I J ce]] w fun e w'=>∃g,e=Rt (S (O ⟨g,0,X⟩) (kN l en).length (kN l en).length)/\xm w.heap.size w' g (kN l en)/\Below w.heap.size w w':=by
 have J0:(l.length:Int)<=100000:=zo;have D0:(en:Int)<l.length:=zo;have hP:=Blk.new w #[S D l.length c,I J en,I J ce] 73;have P:=zB w (C #[S D l.length c,I J en,I J ce] 73);have l0:=rM (l.length+1) zo;rw[show((l.length+1:Nat):Int)=(l.length:Int)+1 from zo]at l0;have E:=og (w.alloc (C #[S D l.length c,I J en,I J ce] 73)) (l.length+1) zo;have N:=P.trans ((zB (w.alloc (C #[S D l.length c,I J en,I J ce] 73)) (C (madeCells #[Bl Z] ((l.length+1)*1)) 4)).m P.size);have L:=hP.alloc (C (madeCells #[Bl Z] ((l.length+1)*1)) 4);have m0:(w.alloc (C #[S D l.length c,I J en,I J ce] 73)).heap.size=w.heap.size+1:=zs;rw[m0]at E;simp only[Nat.mul_one]at E N L;have p:=V E;have a0:=V N;have B:=V L;have q0:=V j0;have HJ:=V hj;clear hP P E N L j0 hj;go_enter func155,ntmps155;go_wp2_with fail;generalize (w.alloc (C #[S D l.length c,I J en,I J ce] 73)).alloc (C (madeCells #[Bl Z] (l.length+1)) 4)=W at *;have Q:=B.u;have R:=B.lt;have s0:W.cell? ⟨w.heap.size+1,0,X⟩=O (Bl Z):=p.u (j:=0) zs;have t0:W.cell? ⟨w.heap.size+1,en,X⟩=O (Bl Z):=p.u (j:=en) (by rw[getElem?_replicate,if_pos zo]);have w0:=p.H;have g0:=p.lt.1;clear l0 m0;go_cut []from 11 to 17 (fun wc=>∃n,wc=((W.setCell ⟨w.heap.size+1,0,X⟩ (Bl Y)).setCell ⟨w.heap.size+1,en,X⟩ (Bl Y)).drewN n)
 case first=>
  by_cases h0:en=0
  ·subst h0;go_region;all_goals go_wp2;go_meet;exact⟨_,rfl⟩
  ·go_region;all_goals go_wp2;go_meet;exact⟨_,rfl⟩
 case rest=>
  obtain⟨n,rfl⟩:=hcut;have o0:Hid (xm w.heap.size (((W.setCell ⟨w.heap.size+1,0,X⟩ (Bl Y)).setCell ⟨w.heap.size+1,en,X⟩ (Bl Y)).drewN n) (w.heap.size+1) (qp l en 0)):=by have:=((p.set 0 Y).set en Y).K (Nat.le_succ w.heap.size);exact this
  have r0:Hid (Below w.heap.size w (((W.setCell ⟨w.heap.size+1,0,X⟩ (Bl Y)).setCell ⟨w.heap.size+1,en,X⟩ (Bl Y)).drewN n)):=zS ((a0.setCell zs _).setCell zs _) n;have M:Blk (((W.setCell ⟨w.heap.size+1,0,X⟩ (Bl Y)).setCell ⟨w.heap.size+1,en,X⟩ (Bl Y)).drewN n) w.heap.size #[S D l.length c,I J en,I J ce] 73:=((B.far (a:=⟨w.heap.size+1,0,X⟩) zs _).far (a:=⟨w.heap.size+1,en,X⟩) zs _).drewN n;clear Q R s0 t0 w0 g0 p a0 B;generalize ((W.setCell ⟨w.heap.size+1,0,X⟩ (Bl Y)).setCell ⟨w.heap.size+1,en,X⟩ (Bl Y)).drewN n=W2 at *;have Q:=M.u;have R:=M.lt;clear M;go_wp2;go_loopw [20] (fun i wr=>∃k:Nat,i=I J k/\k<=l.length/\xm w.heap.size wr (w.heap.size+1) (qp l en k)/\Below w.heap.size w wr) (fun i _=>l.length-(intOf i).toNat);case atStart=>exact⟨0,rfl,Zq _,U o0,U r0⟩
  case round=>
   clear Q R;obtain⟨k,rfl,hk,h,q⟩:=hrel;have c0:=V h;have p0:=V q;by_cases B0:k<l.length
   ·obtain⟨x,hx⟩:∃x,l[k]? = O x:=⟨_,Za B0⟩;obtain⟨g,off,rfl,g0,c1,c2⟩:=ju (q0.z q) hx;have F0:(k:Int)<l.length:=zo;have K:Hid (qp l en (k+1)=jx (qp l en k) k x):=by show qp l en (k+1)=_;rw[qp,hx]
    have E0:=cC l en k;have k0:=U HJ x (Zd hx);obtain⟨m,x2⟩:=x;simp only at c1 c2 k0;have y:Hid (Below w.heap.size w (wr.alloc (C #[I J m,I J x2] 65))):=q.trans ((zB wr _).m q.size);have r:=V (fun W=>cN m W);have H:=V (fun W=>nX m W);have d:=V (h.alloc (C #[I J m,I J x2] 65));have d0:=Blk.new wr #[I J m,I J x2] 65;have G:=V d0;have I0:=h.lt.1;clear h q hx d0;generalize hb:qp l en k=b at *;clear hb;go_wp2_with fail;refine(U r _).m ?_;rintro e w1 ⟨rfl,n0⟩;rw[<-n0]at y d G;clear n0 c1 c2;have v0:=G.u;have C0:=G.lt;by_cases t:zT m=Y
    ·have K0:=k0 t;obtain⟨T,rfl⟩:∃T:Nat,x2=T:=⟨x2.toNat,zo⟩;obtain⟨v,hv⟩:∃v,b[T]? = O v:=⟨_,Za zo⟩;have u0:=d.u hv;have x0:=d.H;have y0:=d.lt.1;have G0:(T:Int)<(l.length:Int)+1:=zo;rw[t];clear hv;go_wp2_with fail;refine(U r _).m ?_;rintro e w2 ⟨rfl,f⟩;have z:Hid (xm w.heap.size w2 (w.heap.size+1) (b.set T Y)):=by rw[f];exact d.set T Y
     have b0:Hid (Below w.heap.size w w2):=by rw[f];exact y.setCell zs _
     obtain⟨v2,u⟩:∃v,(b.set T Y)[k+1]? = O v:=⟨_,Za (by rw[length_set];omega)⟩;have e0:=z.u u;have f0:=z.H;have i0:=z.lt.1;rw[t];clear f u0 x0 y0 v0 C0 r H u;go_wp2;go_roundw;case rel=>refine⟨k+1,by go_num,zo,?_,b0.setCell zs _⟩;rw[U K];unfold jx;simp only[t,if_true,true_or,Zr];exact z.set (k+1) Y
     case measure=>exact zv
    ·have F:zT m=Z:=by simpa using t
     rw[F];go_wp2_with fail;refine(U r _).m ?_;rintro e w2 ⟨rfl,f⟩;obtain rfl:=f.symm;clear f;rw[F];go_wp2_with fail;refine(U H _).m ?_;rintro e w2 ⟨rfl,f⟩;obtain rfl:=f.symm;clear f r H;by_cases o:m=1\/m=4\/m=5
     ·have s:decide (m=1\/m=4\/m=5)=Y:=decide_eq_true o;rw[s];obtain⟨v2,u⟩:∃v,b[k+1]? = O v:=⟨_,Za zo⟩;have e0:=d.u u;have f0:=d.H;have i0:=d.lt.1;clear u s;go_wp2;go_roundw;case rel=>refine⟨k+1,by go_num,zo,?_,y.setCell zs _⟩;rw[U K];unfold jx;simp only[F,o,or_true,if_true];exact d.set (k+1) Y
      case measure=>exact zv
     ·have s:decide (m=1\/m=4\/m=5)=Z:=decide_eq_false o;rw[s];clear s;go_wp2;go_roundw;case rel=>refine⟨k+1,by go_num,zo,?_,U y⟩;rw[U K];unfold jx;simp only[F,o];exact U d
      case measure=>exact zv
   ·have A0:k=l.length:=zo;subst A0;have el:(kN l en).length=l.length+1:=cC l en l.length;clear h q;go_wp2;go_ret;exact⟨w.heap.size+1,by rw[el];rfl,U c0,U p0⟩
def bW(row:YL)(op:Nat):Option (Int×Int×Int):=(kh 0 row (yj op)).map (fun n=>((op:Int),n,((yj op).length:Int)))
def qA(row:YL)(k:Nat):List (Int×Int×Int):=((range k).map (·+40)).filterMap (bW row)
def xc(row:YL):List (Int×Int×Int):=qA row 20
theorem pA(row:YL)(k:Nat):qA row (k+1)=qA row k++(bW row (k+40)).toList:=by unfold qA;rw[range_succ,map_append,filterMap_append];cases h:bW row (k+40)<;>simp[h]
theorem rF(row:YL)(k:Nat):(qA row k).length<=k:=by
 induction k with
 |zero=>simp[qA]
 |succ k a=>rw[pA,Zi];cases bW row (k+40)<;>simp<;>omega
def yY(l:List (Int×Int×Int)):List Value:=l.flatMap (fun x=>[I J x.1,I J x.2.1,I J x.2.2])
theorem hX(l:List (Int×Int×Int)):(yY l).length=l.length*3:=by
 induction l with
 |nil=>rfl
 |cons x l a=>show(yY (x::l)).length=_;unfold yY at a ⊢;simp only[flatMap_cons,Zi,length_cons,length_nil,a];omega
theorem tG:(prog.info? 211).map (fun i=>(i.zero,i.size,i.bytes))=O (O (Ag #[I J 0,I J 0,I J 0]),3,24):=zr
theorem DE(a b c:Int):∀u∈[Value.int .i64 a,I J b,I J c],u.oneCell'=Y:=by intro u d;simp at d;rcases d with rfl|rfl|rfl<;>rfl
theorem FC (ao:YA) (c:Nat) (row:YL) (w:YW) (hin:InL w ao row) (hr:row.length≤100000) : Calls prog 156 #[S ao row.length c] w fun e w'=>∃ v,e=Rt v∧w'.ownsRow w.heap.size 211 3 v (xc row).length (yY (xc row))∧Below w.heap.size w w':=by
 obtain⟨iP,hiP,hzP0,hzP1,hzP2⟩:=info_parts tG;have HIN:=V hin;clear hin;go_enter func156,ntmps156;go_wp2;go_loopw [3,4] (fun v i wr=>∃ (k:Nat) (a:YA) (n c:Nat),i=I J ((k+40:Nat):Int)∧v=S a n c∧n=(qA row k).length∧k≤20∧wr.ownsRow w.heap.size 211 3 (S a n c) n (yY (qA row k))∧Below w.heap.size w wr) (fun _ i _=>60-(intOf i).toNat);case atStart=>exact⟨0,X,0,0,rfl,rfl,rfl,zo,Zm _ _ _ _,Ze _ _⟩
 case round=>
  obtain⟨k,a,n,cc,rfl,rfl,hn,hk,hrow,hbw⟩:=hrel;have HROW:=V hrow;have HBW:=V hbw;have HN:=V hn;have hn20:n≤20:=by have:=rF row k;omega
  clear hn;by_cases hlt:k<20
  ·have hltI:(((k+40:Nat)):Int)≤59:=zo;obtain⟨op,hop⟩:∃ op,op=k+40:=⟨_,rfl⟩;have HSP:=V (nF op ⟨zo,zo⟩ wr);obtain⟨_,hl3,_⟩:=gB op zo zo;have hnx:=pA row k;rw[← hop]at hltI hnx ⊢;have hopI:(op:Int)+1=((k+1+40:Nat):Int):=zo;have HOP:=V hop;have HOPI:=V hopI;have HNX:=V hnx;clear hop hrow hbw hopI hnx;go_wp2_with fail;refine HSP.m ?_;rintro e w1 ⟨cs,rfl,hcs,hw1⟩;have hsz:cs.size=(yj op).length:=by have:=congrArg length hcs;simpa using this
   have hb1:Below wr.heap.size wr w1:=by rw[hw1];exact zB wr _
   have hq:pG w1 wr.heap.size (yj op):=by
    have hblk:Blk w1 wr.heap.size cs 3:=by rw[hw1];exact Blk.new wr _ _
    refine⟨hblk.lt,fun j p hj=>?_⟩;rw[hblk.u];have:cs.toList[j]? = O (I J p):=by rw[hcs,Zn,hj];rfl
    simpa using this
   have HNO:=V (Fs ao c wr.heap.size (yj op).length row (yj op) w1 ((HIN.z HBW).z hb1) hq hr zo);rw[hsz];have hlI:((yj op).length:Int)≤3:=zo;have hrow1:=(zz.aB hb1).row HROW;have HROW1:=V hrow1;have HBW1:=V (HBW.trans (hb1.m HBW.size));have hpa:bW row op=(kh 0 row (yj op)).map (fun n=>((op:Int),n,((yj op).length:Int))):=rfl;have HPA:=V hpa;clear hcs hw1 hsz hb1 hq HSP hrow1 hpa;generalize hres:kh 0 row (yj op)=res at HNO HPA;generalize hpl:(yj op).length=pl at *;clear hres hpl;go_wp2_with fail;refine HNO.m ?_;rintro e w2 ⟨rfl,hw2⟩;obtain rfl:=hw2.symm;clear hw2 HNO;cases res with
   |none=>
    unfold QI;go_wp2;go_roundw;case rel=>refine⟨k+1,a,n,cc,by rw[← U HOPI],rfl,?_,zo,?_,U HBW1⟩;rw[U HNX,U HPA];simpa using U HN;rw[U HNX,U HPA];simpa using U HROW1
    case measure=>exact zv
   |some nv=>
    unfold QI;have HW:=V (zE HROW1 (C #[I J op,I J nv,I J pl] 211));have HNB:=V (Blk.new w1 #[I J op,I J nv,I J pl] 211);have hBs:w.heap.size≤(w1.alloc (C #[I J op,I J nv,I J pl] 211)).heap.size:=by have:=HBW1.size;simp;omega
    have HBS:=V hBs;have HPL:Hid ((yY (qA row k)).length=n * 3):=by rw[hX,← U HN];exact V rfl
    clear hBs;go_wp2_with (at_builtin;refine wpList_append_lies _ rfl (.tmp 21) (.tmp 28) 209 rfl w.heap.size 211 iP _ 3 24 underlying209 hiP hzP0 hzP1 hzP2 rfl zd (S a n cc) n (yY (qA row k)) zf HW ⟨w1.heap.size,0,X⟩ 1 1 [I J op,I J nv,I J pl] zf rfl (World.news_of_block HNB) (DE _ _ _) zo zm zo HBS _ rfl ?_;intro g5 cap5 w5 hown hgrow hat hlt1;have HO:=V hown;have HG:=V hgrow;clear hown hgrow hat);go_roundw;case rel=>
     have e2:qA row (k+1)=qA row k++[((op:Int),nv,(pl:Int))]:=by rw[U HNX,U HPA];rfl
     refine⟨k+1,O ⟨g5,0,X⟩,n+1,cap5,by rw[← U HOPI],rfl,?_,zo,?_,?_⟩;rw[e2,Zi,← U HN];rfl;have ho:=U HO;have e3:yY (qA row (k+1))=yY (qA row k)++[I J op,I J nv,I J pl]:=by rw[e2];unfold yY;rw[flatMap_append];rfl
     rw[e3];exact ho;exact (HBW1.trans ((zB w1 _).m HBW1.size)).grown HG HBS (fun j hj=>(zC HROW1 hj).2)
    case measure=>exact zv
  ·have hk20:k=20:=zo;subst hk20;have hN:=U HN;subst hN;go_wp2;go_ret;exact⟨_,rfl,U HROW,U HBW⟩
end Go.Proofs.YtmeiikjpaepogaaGreatDoor
