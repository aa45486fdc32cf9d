/- Own. -/
import Derived.Test.YtmeiikjpaepogaaGreatDoorD16
open Option renaming some->O,none->X
open Bool renaming true->Y,false->Z
open Go.Value renaming int->I,slice->S,pointer->A,bool->Bl,string->Sr,tuple->Tu
open Go.Obj renaming cells->C
open Go.Ending renaming returned->Rt
open Go.IntKind renaming i64->J
set_option maxRecDepth 100000
set_option maxHeartbeats 4000000
namespace Go.Proofs.YtmeiikjpaepogaaGreatDoor
open Go Go.RowKit Go.Proofs.Tryz List
theorem Fv(B:Nat)(x:CX)(st:RS)(w:YW)(h:CpE B w x st)(j:Nat)(o0:j<zM st)(Q:zM st<4000)(p0:st.Q.length<3980):Calls prog 189 #[A (O ⟨x.b,0,X⟩),I J j] w fun e w'=>e=Rt (Tu #[])/\CpE B w' x (xn (yN (zQ st 1 0) j) (⟨#[101,108,115,101]⟩,0,zM st))/\zI w w'/\Below B w w':=by
 obtain⟨fw,fo,h⟩:=h.f;have u:Below w.heap.size w (w.alloc (C #[A (O ⟨x.b,0,X⟩)] 91)):=zb;have c:Blk (w.alloc (C #[A (O ⟨x.b,0,X⟩)] 91)) w.heap.size #[A (O ⟨x.b,0,X⟩)] 91:=zk;have R:=h.z u;have hB:=h.size;obtain⟨s0,vo,q⟩:=R.D;have hc:=q.u;have r0:=h.size0;have b0:x.b<w.heap.size:=zo;have i0:x.b<=w.heap.size:=zo;have c0:x.b<w.heap.size+1:=zo;have j0:x.b<=w.heap.size+1:=zo;have d0:x.b<w.heap.size+1+1:=zo;have k0:x.b<=w.heap.size+1+1:=zo;have e0:x.b<w.heap.size+1+1+1:=zo;have l0:x.b<=w.heap.size+1+1+1:=zo;have f0:x.b<w.heap.size+1+1+1+1:=zo;have m0:x.b<=w.heap.size+1+1+1+1:=zo;have g0:x.b<w.heap.size+1+1+1+1+1:=zo;have n0:x.b<=w.heap.size+1+1+1+1+1:=zo;unfold xH at hc;have g:=V (gZ B x st _ fw fo R 1 0 Q);have H0:=V R;have q0:(w.alloc (C #[A (O ⟨x.b,0,X⟩)] 91)).heap.size=w.heap.size+1:=zs;have a0:=c.u;have W:=V c;have G:=V u;clear q c u h R;generalize P:yI x st=T at *;have H:=V P;clear P;go_enter func189,ntmps189;go_wp2_with fail;generalize w.alloc (C #[A (O ⟨x.b,0,X⟩)] 91)=W0 at *;go_cut [4]from 5 to 22 (fun s4 wc=>uG B W0 x (zQ st 1 0) fw fo (zM st) s4 wc)
 case first=>go_region_law (first | (refine zN rfl 51 #[.const (I J 1)] #[3] rfl func51 eg dZ #[I J 1] zg (bC 1 _) ?_;rintro e y ⟨rfl,rfl⟩;refine⟨_,rfl,?_⟩) | (refine zN rfl 50 #[.tmp 8,.tmp 10] #[96,33] rfl func50 xS xR #[A (O ⟨T,0,X⟩),S (O ⟨w.heap.size+1+1+1,0,X⟩) 1 1] zg (U g _ (w.heap.size+1+1+1) zb zk) ?_;rintro e y ⟨rfl,o,m⟩;refine⟨_,rfl,?_⟩;have a:Blk y (w.heap.size+1) #[I J 0] 2:=o _ _ _ zk (Zf (Zg rfl));have M:=a.u;have N:=a.H;have HJ:=V a;clear a;have p:=V m;clear m o) | (refine zN rfl 50 #[.tmp 8,.tmp 10] #[96,33] rfl func50 xS xR #[A (O ⟨T,0,X⟩),S (O ⟨w.heap.size+1+1+1,0,X⟩) 1 1] zg (U g _ (w.heap.size+1+1+1) zb zk) ?_;rintro e y ⟨rfl,o,m⟩;refine⟨_,rfl,?_⟩;have a:Blk y (w.heap.size+1+1) #[I J 0] 2:=o _ _ _ zk (Zf (Zg rfl));have M:=a.u;have N:=a.H;have HJ:=V a;clear a;have p:=V m;clear m o) | (refine zN rfl 50 #[.tmp 8,.tmp 10] #[96,33] rfl func50 xS xR #[A (O ⟨T,0,X⟩),S (O ⟨w.heap.size+1+1,0,X⟩) 1 1] zg (U g _ (w.heap.size+1+1) zb zk) ?_;rintro e y ⟨rfl,o,m⟩;refine⟨_,rfl,?_⟩;have a:Blk y (w.heap.size+1+1+1) #[I J 0] 2:=o _ _ _ zk (Zf (Zg rfl));have M:=a.u;have N:=a.H;have HJ:=V a;clear a;have p:=V m;clear m o) | (refine zN rfl 50 #[.tmp 8,.tmp 10] #[96,33] rfl func50 xS xR #[A (O ⟨T,0,X⟩),S (O ⟨w.heap.size+1+1,0,X⟩) 1 1] zg (U g _ (w.heap.size+1+1) zb zk) ?_;rintro e y ⟨rfl,o,m⟩;refine⟨_,rfl,?_⟩;skip;have p:=V m;clear m o));all_goals go_wp2;go_meet;first | exact pJ p | exact pK zo (eI _ _ _) p HJ zo
 case rest=>obtain⟨jb,rfl,z,s,i,k⟩:=hcut;have c:=i _ _ _ W (Zg rfl);have K:=c.u;have t:=tc B x (zQ st 1 0) wc s.e j (by rw[vw];omega);rw[eC,U H]at t;have F:=V t;obtain⟨s1,t0,n⟩:=s.D;have v:=n.u;unfold xH at v;rw[eC,U H]at v;have p:=V (And.intro c (And.intro z (And.intro s (And.intro i k))));clear z s i k c a0 hc g t n;go_wp2_with fail;refine F.m ?_;rintro e w2 ⟨rfl,D,r,E⟩;obtain⟨c,z,s,i,k⟩:=U p;have d:=r _ _ _ c (Zg rfl);have l:=r _ _ _ z (Zf (Zg rfl));have L:=d.u;have H2:=V (And.intro d (And.intro l (And.intro D (And.intro r E))));clear c z s i k d l D r E K v F;go_wp2_with fail;obtain⟨d,l,D,r,E⟩:=U H2;refine(Ax B x (yN (zQ st 1 0) j) w2 D _ rfl (⟨#[101,108,115,101]⟩,0,zM st) ⟨_,d,Zf (Zg ⟨rfl,jb,l,rfl⟩)⟩ (by rw[(Rz _ _).2.2,(eI _ _ _).2.2];omega)).m ?_;rintro e w3 ⟨rfl,m1,m2,m3⟩;clear d l D r E L;go_wp2;go_end0;obtain⟨c,z,s,i,k⟩:=U p;obtain⟨d,l,D,r,E⟩:=U H2;exact⟨rfl,m1,(zI.aB G).trans (i.trans (r.trans m2)),(yf G zo).trans (k.trans (E.trans m3))⟩
theorem se:(f188.name == "runtime.NumGoroutine")=Z:=zr
theorem rW:f188.body.isNone=Z:=zr
theorem CpE.z{B:Nat}{w w':YW}{x:CX}{st:RS}(h:CpE B w x st)(a:Below w.heap.size w w'):CpE B w' x st:=by obtain⟨_,_,h⟩:=h.f;exact(h.z a).e
theorem CpE.size{B:Nat}{w:YW}{x:CX}{st:RS}(h:CpE B w x st):B<=w.heap.size:=by obtain⟨_,_,h⟩:=h.f;exact h.size
def RU(B:Nat)(w:YW)(x:CX)(st:RS)(v:Value)(e:Ending)(w':YW):Prop:=e=Rt v/\CpE B w' x st/\zI w w'/\Below B w w'
theorem PQ(B:Nat)(x:CX)(st:RS)(w:YW)(h:CpE B w x st)(n:Nat)(f:n<zM st):∀W:YW,Below w.heap.size w W->Calls prog 188 #[A (O ⟨yI x st,0,X⟩),I J n] W (RU B w x (yN st n) (Tu #[])):=by intro W a;refine(tc B x st W (h.z a) n f).m ?_;rintro e w' ⟨rfl,b,c,d⟩;exact⟨rfl,b,(zI.aB a).trans c,(yf a h.size).trans d⟩
def ji(B:Nat)(w:YW)(x:CX)(r:Option RS)(e:Ending)(w':YW):Prop:=e=Rt (Bl r.isSome)/\(∀st',r=O st'->CpE B w' x st')/\(r=X->w'=w)/\zI w w'/\Below B w w'
theorem ji.yes{B:Nat}{w:YW}{x:CX}{st:RS}{w':YW}(a:CpE B w' x st)(b:zI w w')(c:Below B w w'):ji B w x (O st) (Rt (Bl Y)) w':=⟨rfl,fun d e=>by cases e;exact a,fun e=>by(cases e),b,c⟩
theorem ji.no{B:Nat}{w:YW}{x:CX}:ji B w x X (Rt (Bl Z)) w:=⟨rfl,fun a e=>by(cases e),fun _=>rfl,zI.refl _,Ze _ _⟩
def dP(st:RS)(n:Nat)(tok:YB):Option RS:=if tok.toList==[116,104,101,110]then O (yN st n)
 else if tok.toList==[101,108,115,101]then O (xn (yN (zQ st 1 0) n) (⟨#[101,108,115,101]⟩,0,zM st))
 else X
def bz(st:RS)(n:Nat)(tok:YB):Option RS:=if tok.toList==[116,104,101,110]then O (yN st n)else X
theorem GS(B:Nat)(x:CX)(st:RS)(w:YW)(h:CpE B w x st)(u z n:Nat)(i:Blk w u #[A (O ⟨x.b,0,X⟩)] 91)(j:Blk w z #[I J n] 2)(a:YB)(y:n<zM st)(k:zM st<4000)(q:st.Q.length<3980):Calls prog 187 #[Sr a,A (O ⟨u,0,X⟩),A (O ⟨z,0,X⟩)] w (ji B w x (dP st n a)):=by
 obtain⟨fw,fo,v⟩:=h.f;have l:=V (PQ B x st w h n y);have m:=V (Fv B x st w h n y k q);obtain⟨M,N,d⟩:=v.D;have E:=d.u;unfold xH at E;have F:=i.u;have G:=j.u;clear d v h i j;generalize yI x st=H at *;unfold dP;by_cases c:(a.toList==[116,104,101,110])=Y
 ·rw[if_pos c];have o:=yV c;subst o;clear c;go_enter func187,ntmps187;go_wp2;go_region_law (refine zN rfl 188 #[.tmp 11,.tmp 12] #[96,2] rfl func188 se rW #[A (O ⟨H,0,X⟩),I J n] zg (U l _ zb) ?_;rintro e P ⟨rfl,c⟩;refine⟨_,rfl,?_⟩;have D:=V c;clear c);all_goals go_wp2;go_ret;obtain⟨r,s,t⟩:=U D;exact ji.yes r s t
 ·rw[if_neg c];by_cases g:(a.toList==[101,108,115,101])=Y
  ·rw[if_pos g];have p:=yV g;subst p;clear c g;go_enter func187,ntmps187;go_wp2_with fail;refine m.m ?_;rintro e Q ⟨rfl,r,s,t⟩;go_wp2;go_ret;exact ji.yes r s t
  ·rw[if_neg g];have K:(a.toList==[116,104,101,110])=Z:=by simpa using c
   have L:(a.toList==[101,108,115,101])=Z:=by simpa using g
   go_enter func187,ntmps187;go_wp2;go_ret;exact ji.no
theorem Di(B:Nat)(x:CX)(st:RS)(w:YW)(h:CpE B w x st)(l o n:Nat)(g:Blk w l #[A (O ⟨x.b,0,X⟩)] 91)(i:Blk w o #[I J n] 2)(a:YB)(t:n<zM st):Calls prog 216 #[Sr a,A (O ⟨l,0,X⟩),A (O ⟨o,0,X⟩)] w (ji B w x (bz st n a)):=by
 obtain⟨fw,fo,m⟩:=h.f;have j:=V (PQ B x st w h n t);obtain⟨E,F,d⟩:=m.D;have q:=d.u;unfold xH at q;have r:=g.u;have s:=i.u;clear d m h g i;generalize yI x st=u at *;unfold bz;by_cases c:(a.toList==[116,104,101,110])=Y
 ·rw[if_pos c];have k:=yV c;subst k;clear c;go_enter func216,ntmps216;go_wp2;go_region_law (refine zN rfl 188 #[.tmp 10,.tmp 11] #[96,2] rfl func188 se rW #[A (O ⟨u,0,X⟩),I J n] zg (U j _ zb) ?_;rintro e G ⟨rfl,c⟩;refine⟨_,rfl,?_⟩;have p:=V c;clear c);all_goals go_wp2;go_ret;obtain⟨v,y,z⟩:=U p;exact ji.yes v y z
 ·rw[if_neg c];have D:(a.toList==[116,104,101,110])=Z:=by simpa using c
  go_enter func216,ntmps216;go_wp2;go_ret;exact ji.no
end Go.Proofs.YtmeiikjpaepogaaGreatDoor
