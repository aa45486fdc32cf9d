/- Own. -/
import Derived.Test.YtmeiikjpaepogaaGreatDoorD15
import Derived.Test.YtmeiikjpaepogaaGreatDoorD12
import Derived.Maps.OwnSet
import Derived.Maps.Views
import Derived.Deep.CutRange
open Option renaming some->O,none->X
open Bool renaming true->Y,false->Z
open Go.Value renaming int->I,slice->S,pointer->A,bool->Bl,string->Sr,tuple->Tu,agg->Ag
open Go.Obj renaming cells->C
open Go.Ending renaming returned->Rt
open Go.IntKind renaming i64->J
set_option maxRecDepth 100000
set_option maxHeartbeats 8000000
namespace Go.Proofs.YtmeiikjpaepogaaGreatDoor
open Go Go.RowKit Go.Proofs.Tryz List
def cj(ea eb:Int)(sa sb ca cb:YI)(oa ob:YB):Bool:=ea==eb&&oa.toList==ob.toList&&decide (sa=sb)&&decide (ca=cb)
structure xe(w:YW)(b:Nat)(vS vC:Value)(ls lc:YI):Prop where
 s:w.ownsRow b 2 1 vS ls.length (zn ls)
 c:w.ownsRow b 2 1 vC lc.length (zn lc)
 R:ls.length<=17592186044416/\lc.length<=17592186044416
theorem xe.law{w w':YW}{b:Nat}{e d:Value}{ls lc:YI}(h:xe w b e d ls lc)(a:zz w w'):xe w' b e d ls lc:=⟨a.row h.s,a.row h.c,h.R⟩
theorem xe.z{w w':YW}{b:Nat}{c a:Value}{ls lc:YI}(h:xe w b c a ls lc)(d:Below w.heap.size w w'):xe w' b c a ls lc:=h.law (zz.aB d)
theorem lH(h i:Int)(f g a b:YI)(j k:YB)(D E:Int)(K L:Nat)(u r v t:Value)(w:YW)(p:xe w K u r f a)(q:xe w L v t g b):Calls prog 139 #[xX h u r j D,xX i v t k E] w fun e w'=>e=Rt (Bl (cj h i f g a b j k))/\Below w.heap.size w w':=by
 unfold xX;obtain⟨G,R,M⟩:=zu p.s;obtain⟨x,z,N⟩:=zu p.c;obtain⟨H,T,P⟩:=zu q.s;obtain⟨y,B,Q⟩:=zu q.c;subst M N P Q;have d:Below w.heap.size w ((w.alloc (C #[I J h,S G f.length R,S x a.length z,Sr j,I J D] 44)).alloc (C #[I J i,S H g.length T,S y b.length B,Sr k,I J E] 44)):=((Ze _ _).alloc (Zc _) _).alloc zs _;have l:=p.z d;have o:=q.z d;have W:=V (rN _ _ f g K L _ l.s o.s p.R.1 q.R.1);have H2:Hid (∀n,Calls prog 185 #[S x a.length z,S y b.length B] (((w.alloc (C #[I J h,S G f.length R,S x a.length z,Sr j,I J D] 44)).alloc (C #[I J i,S H g.length T,S y b.length B,Sr k,I J E] 44)).drewN n) fun e w'=>e=Rt (Bl (decide (a=b)))/\∃m,w'=(((w.alloc (C #[I J h,S G f.length R,S x a.length z,Sr j,I J D] 44)).alloc (C #[I J i,S H g.length T,S y b.length B,Sr k,I J E] 44)).drewN n).drewN m):=fun n=>rN _ _ a b K L _ l.c o.c p.R.2 q.R.2;have hu:cj h i f g a b j k=(h==i&&j.toList==k.toList&&decide (f=g)&&decide (a=b)):=rfl;rw[hu];generalize decide (f=g)=d1 at W ⊢;generalize decide (a=b)=d2 at H2 ⊢;have F:=V d;clear p q l o d hu;go_enter func139,ntmps139;go_wp2_with fail;refine W.m ?_;rintro e w1 ⟨rfl,n,rfl⟩;go_wp2_with fail;refine(U H2 n).m ?_;rintro e w1 ⟨rfl,m,rfl⟩;cases he:(h==i)
 ·go_wp2;go_ret;exact⟨jI (by simp[he]),F.trans ⟨rfl,rfl,rfl,Zc _,fun _ _=>rfl⟩⟩
 ·cases ho:(j.toList==k.toList)
  ·go_wp2;go_ret;exact⟨jI (by simp[ho]),F.trans ⟨rfl,rfl,rfl,Zc _,fun _ _=>rfl⟩⟩
  ·cases d1<;>cases d2;all_goals go_wp2;go_ret;exact⟨jI (by simp[he,ho]),F.trans ⟨rfl,rfl,rfl,Zc _,fun _ _=>rfl⟩⟩
theorem IE(x:Nat)(vc d0:Value)(t u v y fuel:Int)(i n:Int)(p z m r:YI)(j o:YB)(k q:Int)(ba bb:Nat)(g d h f:Value)(w:YW)(hx:Blk w x #[vc,d0,Bl Z,Bl Z] 129)(L:xe w ba g d p m)(M:xe w bb h f z r):Calls prog 71 #[A (O ⟨x,0,X⟩),Ag #[I J t,I J u,I J v,I J y],I J fuel,xX i g d j k,xX n h f o q] w fun e w'=>e=Rt (Bl (cj i n p z m r j o&&k==q))/\Below w.heap.size w w':=by
 have b:Below w.heap.size w (((w.alloc (C #[I J t,I J u,I J v,I J y] 39)).alloc (C #[I J i,g,d,Sr j,I J k] 44)).alloc (C #[I J n,h,f,Sr o,I J q] 44)):=(((Ze _ _).alloc (Zc _) _).alloc zs _).alloc zp _;have N:=V (lH i n p z m r j o k q ba bb g d h f _ (L.z b) (M.z b));obtain⟨P,k1,W⟩:=zu L.s;obtain⟨Q,k2,a0⟩:=zu L.c;obtain⟨a3,k3,b0⟩:=zu M.s;obtain⟨a4,k4,c0⟩:=zu M.c;subst W a0 b0 c0;unfold xX at *;generalize cj i n p z m r j o=sm at N ⊢;have HX:=V hx;have HB:=V b;have H:((w.alloc (C #[I J t,I J u,I J v,I J y] 39)).alloc (C #[I J i,S P p.length k1,S Q m.length k2,Sr j,I J k] 44)).heap.size=w.heap.size+2:=zs;have G:(w.alloc (C #[I J t,I J u,I J v,I J y] 39)).heap.size=w.heap.size+1:=zs;have R:=((Blk.new (w.alloc (C #[I J t,I J u,I J v,I J y] 39)) #[I J i,S P p.length k1,S Q m.length k2,Sr j,I J k] 44).alloc (C #[I J n,S a3 z.length k3,S a4 r.length k4,Sr o,I J q] 44));have T:=Blk.new ((w.alloc (C #[I J t,I J u,I J v,I J y] 39)).alloc (C #[I J i,S P p.length k1,S Q m.length k2,Sr j,I J k] 44)) #[I J n,S a3 z.length k3,S a4 r.length k4,Sr o,I J q] 44;rw[G]at R;rw[H]at T;have HA:=V R;have B:=V T;clear L M hx b R T G H;go_enter func71,ntmps71;go_wp2_with fail;refine N.m ?_;rintro e w1 ⟨rfl,a⟩;have K:=((((HX.alloc _).alloc _).alloc _).z a (by have:=HX.lt;simp;omega));have D:=HA.z a HA.lt;have E:=B.z a B.lt;have g0:=K.u;have e0:=D.u;have f0:=E.u;have F:Below w.heap.size w w1:=HB.trans (a.m zp);have l:=V F;clear N a K D E F;cases sm
 ·go_wp2;go_ret;exact⟨rfl,U l⟩
 ·cases ht:(k==q)
  ·go_wp2;go_ret;exact⟨jI (by simp[ht]),U l⟩
  ·go_wp2;go_ret;exact⟨jI (by simp[ht]),U l⟩
structure Prg where
 Env:World->Prop
 CodeIs:World->Nat->YL->Int->Int->Prop
 env:∀{w w':YW},Env w->Below w.heap.size w w'->Env w'
 law:∀{w w':YW} {c:Nat} {l:YL} {en ce:Int},CodeIs w c l en ce->zz w w'->CodeIs w' c l en ce
 list:∀(w:YW)(c:Nat) (l:YL) (en ce:Int),Env w->CodeIs w c l en ce->yX l->0<=en/\en<l.length ->
  Calls prog 19 #[A (O ⟨c,0,X⟩)] w fun e w'=>∃v,e=Rt (Tu #[v,I J en])/\w'.ownsRow w.heap.size 65 2 v l.length (zc l)/\Below w.heap.size w w'
 run:∀(w:YW)(c:Nat) (l:YL) (en ce l1 l2 l3 l4 fuel:Int),Env w->CodeIs w c l en ce->yX l->0<=en/\en<l.length->0<=ce/\ce<=1000->-3000<fuel/\fuel<3000 ->
  Calls prog 23 #[A (O ⟨c,0,X⟩),Ag #[I J l1,I J l2,I J l3,I J l4],I J fuel] w fun e w'=>∃er vS vC out st ls lc,e=Rt (xX er vS vC out st)/\xe w' w.heap.size vS vC ls lc/\(ls.length<=1000/\lc.length<=1000/\∀j,vS.ownBlock=O j->vC.ownBlock≠O j)/\Below w.heap.size w w'
 no:∀(w:YW)(s:YB)(er pl:Int),Env w->(2000<s.size/\er=1/\pl=0\/s.size<=2000/\(zH s).err=er/\(zH s).place=pl/\er≠0) ->
  Calls prog 18 #[Sr s,Ag #[Bl Z,Bl Z,Bl Z]] w fun e w'=>e=Rt (Tu #[A X,I J er,I J pl])/\Below w.heap.size w w'
 yes:∀(w:YW)(s:YB),Env w->s.size<=2000->(zH s).err=0 ->
  Calls prog 18 #[Sr s,Ag #[Bl Z,Bl Z,Bl Z]] w fun e w'=>∃c,e=Rt (Tu #[A (O ⟨c,0,X⟩),I J 0,I J 0])/\CodeIs w' c (yh (zH s)) (zH s).c0.length (zH s).cells/\Below w.heap.size w w'
theorem Cd.law{w w':YW}{p:Nat}{l:YL}{en ce:Int}(h:Cd w.heap.size w p l en ce)(a:zz w w'):Cd w'.heap.size w' p l en ce:=by obtain⟨g,cap,d,b,e,f,c⟩:=h;have:=a.size;exact⟨g,cap,d,a.D b,zo,zo,a.row c⟩
def bj(P:Prg)(w:YW)(q:Nat):Prop:=∃c p l en ce,Blk w q #[A (O ⟨c,0,X⟩),A (O ⟨p,0,X⟩),Bl Z,Bl Z] 129/\P.CodeIs w c l en ce/\Cd w.heap.size w p l en ce/\yX l/\(0<=en/\en<l.length)/\(0<=ce/\ce<=1000)
theorem Kp.law{B:Nat}{w W w':YW}{n:Nat}{v u:List Nat}{D x:Value}{q:Nat}{y z:Value}{H K:Nat}{mk:Int}{k:Nat}{E:List Nat}{L:Nat}{l m i:Value}(h:Kp B W w' n v u D x q y z H K mk k E L l m i)(t:Lw B W n v u D x)(a:zz w W)(g:Below B w W)(F:B<=w.heap.size)(M:w.heap.size<=q)(d:∀j,y.ownBlock=O j->w.heap.size<=j)(f:∀j,z.ownBlock=O j->w.heap.size<=j):zz w w'/\Below B w w':=by
 have c:zz w w':=by refine⟨h.still.os.trans a.os,h.still.tape.trans a.tape,h.still.output.trans a.output,Nat.le_trans a.size h.still.size,?_⟩;intro j cs T s o p r;have b:=a.block j cs T s o p r;have G:=s.lt;refine b.still h.still ?_;rintro(e|e|e|e);exact t.notfoot b o.symm p.symm r.symm e;omega;have:=d j e;omega;have:=f j e;omega
 refine⟨c,g.trans (h.still.z ?_ (by have:=a.size;omega))⟩;rintro j (e|e|e|e);exact(t.footlt e).1;omega;have:=d j e;omega;have:=f j e;omega
def lK(w:YW)(hs:List Nat)(q:Nat)(vi vn:Value):Prop:=∀x∈hs,x≠q/\∃mk vi' vn' ni nn,xw w x mk vi' vn' ni nn/\∀j,vi.ownBlock=O j\/vn.ownBlock=O j->vi'.ownBlock≠O j/\vn'.ownBlock≠O j
theorem yk.H{w W:YW}{g:List Nat}(h:yk w g)(l:zz w W){q:Nat}{i k:Value}(t:w.heap.size<=q)(b:∀j,i.ownBlock=O j->w.heap.size<=j)(c:∀j,k.ownBlock=O j->w.heap.size<=j):lK W g q i k:=by
 intro x p;obtain⟨mk,d,f,r,s,a⟩:=h x p;have o:=a.D.lt;refine⟨zo,mk,d,f,r,s,l.hold a,?_⟩;intro j n;have m:w.heap.size<=j:=by rcases n with e|e;exact b j e;exact c j e
 exact⟨fun e=>by have:=(zC a.is e).1;omega,fun e=>by have:=(zC a.ns e).1;omega⟩
theorem Kp.holds{B:Nat}{W w':YW}{D:Nat}{F n:List Nat}{H G:Value}{q:Nat}{v y:Value}{N P:Nat}{mk:Int}{k:Nat}{E:List Nat}{Q:Nat}{w z u:Value}(h:Kp B W w' D F n H G q v y N P mk k E Q w z u)(o:Lw B W D F n H G)(K:lK W n q v y){cs:YV}(c:Blk W q cs 134){L M:Nat}{xs R:List Value}(r:W.ownsRow 0 65 2 v L xs)(s:W.ownsRow 0 2 1 y M R):yk w' (n++E):=by intro x d;rcases Zo.1 d with d|d;obtain⟨p,t,i,l,f,g,a,m⟩:=K x d;refine⟨t,i,l,f,g,a.still h.still ?_ ?_ ?_⟩;rintro(e|e|e|e);exact o.notfoot a.D zd zd zd e;exact p e;exact zR a.D r zd e;exact zR a.D s zd e;rintro j b (e|e|e|e);exact o.notrow a.is zd zd zd b e;exact zR c a.is zd (by rw[b,e]);exact(m j (Zg e)).1 b;exact(m j (Zf e)).1 b;rintro j b (e|e|e|e);exact o.notrow a.ns zd zd zd b e;exact zR c a.ns zd (by rw[b,e]);exact(m j (Zg e)).2 b;exact(m j (Zf e)).2 b;obtain⟨i,l,f,g,a,_⟩:=h.all x d;exact⟨_,_,_,_,_,a⟩
theorem Al(P:Prg)(B bw:Nat)(ps E:List Nat)(vp vh:Value)(q:Nat)(w:YW)(a0:P.Env w)(hP:bj P w q)(h:Lw B w bw ps E vp vh)(hh:yk w E)(c0:E.length+4<=17592186044416):Calls prog 44 #[A (O ⟨bw,0,X⟩),A (O ⟨q,0,X⟩)] w fun e w'=>e=Rt (Bl Y)/\∃z D,Lw B w' bw ps z vp D/\yk w' z/\z.length=E.length+4/\zz w w'/\Below B w w':=by
 obtain⟨c,p,l,en,ce,hq,g,n0,y,W,x0⟩:=hP;have M:B<=w.heap.size:=by have:=h.K;have:=h.D.lt;omega
 have hc:=hq.u;have H:=V (P.list w c l en ce a0 g y W);have C0:=y.R;have d0:0<l.length:=by have:=W;omega
 obtain⟨gp,L,D0,Q,q0,y0,d⟩:=n0;have i0:=V Q;have s:=V d;have HL:=V h;have HH:=V hh;have HQ:=V hq;clear g y Q d h hh hq;go_enter func44,ntmps44;go_wp2_with fail;refine H.m ?_;rintro e m ⟨v,rfl,hv,a⟩;have e0:=HQ.z a HQ.lt;have N:=i0.z a q0;have f0:m.ownsRow 0 65 2 (S (O ⟨gp,0,X⟩) l.length L) l.length (zc l):=(zz.aB a).row s;obtain⟨gv,b,s0,A0,u0⟩:=hv.form d0;subst s0;have w0:=e0.u;have t0:=N.u;have HV:=V hv;have K:=V f0;have h0:=V a;have B0:(l.length:Int)<=5000:=zo;clear hc hv f0 a e0 N H;go_wp2;go_loopw [7,8] (fun ok i wr=>∃(k n:Nat),i=I J k/\k<=l.length/\ok=Bl Y/\wr=m.drewN n) (fun _ i _=>l.length-(intOf i).toNat);case atStart=>exact⟨0,0,rfl,Zq _,rfl,rfl⟩
 case round=>
  obtain⟨k,n,rfl,hk,rfl,rfl⟩:=hrel;by_cases p0:k<l.length
  ·obtain⟨x,hx⟩:∃x,l[k]? = O x:=⟨_,Za p0⟩;have k0:=zD HV (k*2) zo;have l0:=zD HV (k*2+1) zo;have a:=zD K (k*2) zo;have m0:=zD K (k*2+1) zo;rw[(zL _ _ _ hx).1]at k0 a;rw[(zL _ _ _ hx).2]at l0 m0;have v0:(k:Int)<l.length:=zo;clear hx;go_wp2;go_region;go_wp2;go_roundw;case rel=>exact⟨k+1,n+1,by go_num,zo,rfl,rfl⟩
   case measure=>exact zv
  ·have o0:k=l.length:=zo;subst o0;have a:=U h0;have u:=(HL.z a).drewN n;have T:Below w.heap.size w (m.drewN n):=zS a n;have f:=Blk.new (m.drewN n) #[S (O ⟨gv,0,X⟩) l.length b,S X 0 0,I J 0] 134;have r0:(m.drewN n).heap.size=m.heap.size:=rfl;have R:Below w.heap.size w ((m.drewN n).alloc (C #[S (O ⟨gv,0,X⟩) l.length b,S X 0 0,I J 0] 134)):=T.alloc (by have:=a.size;rw[r0];omega) _;have HK:=V (dV B bw ps E vp vh m.heap.size 0 _ (S X 0 0) l [] _ (u.alloc _) f (zV (zE (w:=m.drewN n) HV _) (Zq _)) (Zm _ _ _ _) zo zs c0);have G:=V (u.alloc (C #[S (O ⟨gv,0,X⟩) l.length b,S X 0 0,I J 0] 134));have r:=V R;have F:=V f;have j0:=V (zV (zE (w:=m.drewN n) HV (C #[S (O ⟨gv,0,X⟩) l.length b,S X 0 0,I J 0] 134)) (Zq _));have g0:w.heap.size<=m.heap.size:=a.size;clear u T f R a;go_wp2_with fail;refine HK.m ?_;rintro e w3 ⟨rfl,gl,qg,E0,F0,D,b0⟩;have o:=V b0;clear b0;go_wp2;go_ret;obtain⟨o1,o2⟩:=o.law (w:=w) G (zz.aB r) (r.m M) M g0 (fun j t=>by simp[Value.ownBlock]at t;omega) (fun j t=>by simp[Value.ownBlock]at t);have o3:=o.holds G (HH.H (zz.aB r) g0 (fun j t=>by simp[Value.ownBlock]at t;omega) (fun j t=>by simp[Value.ownBlock]at t)) F j0 (Zm _ _ _ _);exact⟨rfl,E++gl,D,o.lw,o3,by simp[o.len],o1,o2⟩
theorem lX(c:UInt8)(w:YW):Calls prog 141 #[.int .u8 c.toNat] w fun e w'=>e=Rt (Bl (vP c))/\w'=w:=by
 have f:vP c=(((c.toNat:Int)==32) || ((c.toNat:Int)==10)):=by
  unfold vP;have b:(c==32)=((c.toNat:Int)==32):=by rw[Bool.eq_iff_iff];simp only[beq_iff_eq];constructor;rintro rfl;rfl;intro h;apply UInt8.toNat_inj.1;have:(32:UInt8).toNat=32:=rfl;omega
  have d:(c==10)=((c.toNat:Int)==10):=by rw[Bool.eq_iff_iff];simp only[beq_iff_eq];constructor;rintro rfl;rfl;intro h;apply UInt8.toNat_inj.1;have:(10:UInt8).toNat=10:=rfl;omega
  rw[b,d]
 rw[f];generalize (c.toNat:Int)=z;by_cases g:z=32
 ·subst g;go_enter func141,ntmps141;go_wp2;go_ret;exact⟨rfl,rfl⟩
 ·by_cases a:z=10
  ·subst a;go_enter func141,ntmps141;go_wp2;go_ret;exact⟨rfl,rfl⟩
  ·go_enter func141,ntmps141;go_wp2;go_ret;exact⟨rfl,rfl⟩
theorem mR:(prog.info? 65).map (fun i=>i.size)=O 2:=zr
theorem bC(op:Int)(w:YW):Calls prog 51 #[I J op] w fun e w'=>e=Rt (Ag #[I J op,I J 0])/\w'=w.alloc (C #[I J op,I J 0] 65):=by go_enter func51,ntmps51;go_wp2;refine bodyPost_ret (results_cell_row (P:=prog) rfl _ _ w.heap.size 65 _ (0,0) _ rfl (Blk.new w _ _) underlying65 rfl mR) rfl ?_;exact⟨rfl,rfl⟩
theorem bg(op arg:Int)(w:YW):Calls prog 77 #[I J op,I J arg] w fun e w'=>e=Rt (Ag #[I J op,I J arg])/\w'=w.alloc (C #[I J op,I J arg] 65):=by go_enter func77,ntmps77;go_wp2;refine bodyPost_ret (results_cell_row (P:=prog) rfl _ _ w.heap.size 65 _ (0,0) _ rfl (Blk.new w _ _) underlying65 rfl mR) rfl ?_;exact⟨rfl,rfl⟩
theorem aK(d n:Nat)(a:YA)(cap:Nat)(w:YW)(h:Blk w d #[S a n cap] 140)(f:n<=100000):Calls prog 78 #[A (O ⟨d,0,X⟩)] w fun e w'=>e=Rt (I J n)/\w'=w:=by have c:=h.u;have b:(n:Int)<=100000:=zo;have g:IntKind.i64.wrap (n:Int)=n:=zw;go_enter func78,ntmps78;go_wp2;go_ret;exact⟨rfl,rfl⟩
theorem mN(B d q:Nat)(v:Value)(l:YL)(op arg:Int)(c1:Nat)(w:YW)(h:Blk w d #[v] 140)(n:w.ownsRow B 65 2 v l.length (zc l))(z:Blk w q #[I J op,I J arg] 65)(x:B<=w.heap.size)(hl:l.length<50000):Calls prog 50 #[A (O ⟨d,0,X⟩),S (O ⟨q,0,X⟩) 1 c1] w fun e w'=>e=Rt (I J l.length)/\∃g cap t,t.ownsRow B 65 2 (S (O ⟨g,0,X⟩) (l.length+1) cap) (l.length+1) (zc (l++[(op,arg)]))/\w.grownBy t v.ownBlock/\(v.ownBlock=O g\/g=w.heap.size)/\w'=t.setCell ⟨d,0,X⟩ (S (O ⟨g,0,X⟩) (l.length+1) cap):=by obtain⟨T,r,j,k,m⟩:=info_parts yJ;obtain⟨p,cap,R⟩:=zu n;subst R;have u:=V (aK d l.length p cap w h zo);have M:=h.u;have P:=h.H;have s:O d≠(Value.slice p l.length cap).ownBlock:=fun e=>zR h n zd e.symm;have K:=V n;have L:=V z;have F:=V x;have H:=V h;clear n z x h;go_enter func50,ntmps50;go_wp2_with fail;refine u.m ?_;rintro e w2 ⟨rfl,D⟩;obtain rfl:=D.symm;clear D u;go_wp2_with (at_builtin;refine wpList_append_lies _ rfl (.tmp 12) (.tmp 13) 33 rfl B 65 T _ 2 16 underlying33 r j k m rfl zd (S p l.length cap) l.length (zc l) zf K ⟨q,0,X⟩ 1 c1 [I J op,I J arg] zf rfl (World.news_of_block L) (by simp[Value.oneCell']) zo zm zo F _ rfl ?_;intro g f W b a i y;have c:=H.grown a s;have N:=c.u;have Q:=c.H;have o:=V b;have G:=V a;have E:=V i;clear b a i c M P);go_ret;refine⟨rfl,g,f,W,?_,U G,U E,rfl⟩;have:=U o;simpa [zc]using this
theorem vD(w:YW)(o:Obj)(cs:YV)(T:TypeId):Blk ((w.alloc o).alloc (C cs T)) (w.heap.size+1) cs T:=by have h:=Blk.new (w.alloc o) cs T;have e:(w.alloc o).heap.size=w.heap.size+1:=zs;rw[e]at h;exact h
theorem NP(op arg a:Int)(w:YW):Calls prog 150 #[Ag #[I J op,I J arg],I J a] w fun e w'=>e=Rt (Ag #[I J (qs a (op,arg)).1,I J (qs a (op,arg)).2])/\Below w.heap.size w w':=by go_enter func150,ntmps150;go_wp2_with fail;all_goals refine bodyPost_ret (results_cell_row (P:=prog) rfl _ _ (w.heap.size+1) 65 _ (0,0) _ rfl (vD w _ _ _) underlying65 rfl mR) rfl ?_;refine⟨?_,((Ze _ _).alloc (Zc _) _).alloc zs _⟩;rw[CJ];simp_all [sG]
end Go.Proofs.YtmeiikjpaepogaaGreatDoor
namespace Go.Proofs.YtmeiikjpaepogaaGreatDoor
open Go Go.RowKit Go.Maps Go.Proofs.Tryz List
def uX (v:Value):Option (DataW Unit×List MemPlace) :=
  match v with
  | .agg cs => match cs.toList with
    | [I J a,I J b]=>O (.agg [.lit (.int .i64 a),.lit (.int .i64 b)],[])
    | _=>X
  | _=>X
theorem EJ(a b:Int):uX (.agg #[I J a,I J b])=O (.agg [.lit (.int .i64 a),.lit (.int .i64 b)],[]):=rfl
theorem Cb{v:Value}{a b:Int}{d:List MemPlace}(h:uX v=O (.agg [.lit (.int .i64 a),.lit (.int .i64 b)],d)):v=.agg #[I J a,I J b]:=by
 unfold uX at h;split at h;rename_i cs;split at h;rename_i x y c;simp at h;obtain⟨⟨rfl,rfl⟩,_⟩:=h;have:cs=#[I J x,I J y]:=by apply Array.ext';simpa using c
 rw[this];cases h;cases h
theorem Gx:Keyed prog 9:=string_keyed underlying9
def jC(w:YW)(mp:Nat)(names:List (ByteArray×Int×Int)):Prop:=∃n D,w.ownsMap prog 9 uX mp n D/\n<=names.length/\IsMap D /\
  (∀s:YB,has D (.string s.data.toList)=(names.find? (fun x=>x.1==s)).isSome) /\
  ∀(s:YB)(x:ByteArray×Int×Int),names.find? (fun x=>x.1==s)=O x->∀z,D.atKey (.string s.data.toList) z=.agg [.lit (.int .i64 x.2.1),.lit (.int .i64 x.2.2)]
theorem jC.lt{w:YW}{mp:Nat}{names:List (ByteArray×Int×Int)}(h:jC w mp names):mp<w.heap.size:=by obtain⟨n,D,a,_⟩:=h;exact a.lt
theorem jC.to{w w':YW}{mp:Nat}{names:List (ByteArray×Int×Int)}(h:jC w mp names)(f:w'.heap[mp]? = w.heap[mp]?):jC w' mp names:=by obtain⟨n,D,⟨b,a,c,d⟩,e⟩:=h;exact⟨n,D,⟨b,a,by rw[f];exact c,d⟩,e⟩
theorem jC.notblk{w:YW}{mp:Nat}{names:List (ByteArray×Int×Int)}(h:jC w mp names){b:Nat}{cs:YV}{T:TypeId}(d:Blk w b cs T):mp≠b:=by rintro rfl;obtain⟨n,D,⟨e,a,c,_⟩,_⟩:=h;unfold Blk at d;rw[d]at c;simp at c
theorem jC.new(w:YW):jC (w.alloc (.map #[] 0)) w.heap.size []:=⟨0,.map [],World.ownsMap_made w _ _ _,Zc _,isMap_empty,fun s=>rfl,fun s x a=>by simp at a⟩
theorem lN{s t:YB}(h:s.data.toList=t.data.toList):s=t:=by cases s;cases t;simp at h ⊢;exact h
theorem Bb (s t:YB):(s == t)=Y↔s=t:=by
 cases s with
 |mk a=>
  cases t with
  |mk b=>show (a == b)=Y↔_;rw[beq_iff_eq];constructor;rintro rfl;rfl;intro e;injection e
theorem BV{s t:YB}(h:s≠t):(s==t)=Z:=by cases e:(s==t);rfl;exact absurd ((Bb s t).1 e) h
theorem Ef(s:YB):(s==s)=Y:=(Bb s s).2 rfl
theorem jC.put{w':YW}{mp:Nat}{names:List (ByteArray×Int×Int)}{n:Nat}{D:DataW Unit}(l:n<=names.length)(f:IsMap D)(j:∀s:YB,has D (.string s.data.toList)=(names.find? (fun x=>x.1==s)).isSome)(i:∀(s:YB)(x:ByteArray×Int×Int),names.find? (fun x=>x.1==s)=O x->∀z,D.atKey (.string s.data.toList) z=.agg [.lit (.int .i64 x.2.1),.lit (.int .i64 x.2.2)]){t:YB}{op arg:Int}(a:names.find? (fun x=>x.1==t)=X)(h:w'.ownsMap prog 9 uX mp (n+1) (D.put (.string t.data.toList) (.agg [.lit (.int .i64 op),.lit (.int .i64 arg)]))):jC w' mp (names++[(t,op,arg)]):=by refine⟨n+1,_,h,zp,f.put _ _,?_,?_⟩;intro s;by_cases e:s=t;subst e;rw[has_put_same f (k:=.string _) trivial,find?_append,a];simp[Ef];have c:Lit.string s.data.toList≠Lit.string t.data.toList:=fun b=>e (lN (by simpa using b));rw[has_put_other c,j s,find?_append];have:(t==s)=Z:=BV (fun b=>e b.symm);simp[this];intro s x d z;by_cases e:s=t;subst e;rw[find?_append,a]at d;have g:(s==s)=Y:=Ef s;simp[g]at d;subst d;rw[atKey_put_same f (k:=.string _) trivial];have c:Lit.string s.data.toList≠Lit.string t.data.toList:=fun b=>e (lN (by simpa using b));rw[atKey_put_other c];apply i s x;rw[find?_append]at d;have:(t==s)=Z:=BV (fun b=>e b.symm);simpa [this]using d
theorem Ja(w:YW):(zeroValue 65).run prog w=.ok (.agg #[I J 0,I J 0]) w:=by obtain⟨c,b,a,_,_⟩:=info_parts yJ;simp[zeroValue,typeInfo,b,a]
def me(names:List (ByteArray×Int×Int))(s:YB):Value:=match names.find? (fun x=>x.1==s)with|some x=>.agg #[I J x.2.1,I J x.2.2]|none=>.agg #[I J 0,I J 0]
theorem jC.look {w:YW} {mp:Nat} {names:List (ByteArray×Int×Int)} (h:jC w mp names) (s:YB) (hs:s.size≤2000) : (Instr.lookup 97 (.map (O mp)) (.string s) Y).run prog w=.ok (.tuple #[me names s,.bool (names.find? (fun x=>x.1 == s)).isSome]) w:=by
 obtain⟨n,D,h1,h2,h3,h4,h5⟩:=h;obtain⟨v,ps,hrun,hv⟩:=h1.look_ok Gx underlying97 (Ja w) (EJ 0 0) (WideMaps.keyOf_string_mk underlying9 (s:=s) zm);rw[hrun,h4 s];unfold me;cases hf:names.find? (fun x=>x.1 == s) with
 |some x=>rw[h5 s x hf]at hv;rw[Cb hv]
 |none=>
  have:has D (.string s.data.toList)=Z:=by rw[h4 s,hf];rfl
  rw[atKey_of_not_has this]at hv;rw[Cb hv]
theorem jC.update{w:YW}{mp:Nat}{names:List (ByteArray×Int×Int)}(h:jC w mp names)(t:YB)(l:t.size<=2000)(op arg:Int)(k:names.length<=10000)(a:names.find? (fun x=>x.1==t)=X):∃w',(Instr.mapUpdate 97 (.map (O mp)) (.string t) (.agg #[I J op,I J arg])).run prog w=.ok () w'/\jC w' mp (names++[(t,op,arg)])/\w.grownBy w' (O mp):=by obtain⟨n,D,d,e,f,g,i⟩:=h;obtain⟨w',c,b,j⟩:=d.update Gx underlying97 zm (WideMaps.keyOf_string_mk underlying9 (s:=t) zm) (EJ op arg);exact⟨w',c,jC.put e f g i a b,j⟩
end Go.Proofs.YtmeiikjpaepogaaGreatDoor
namespace Go.Proofs.YtmeiikjpaepogaaGreatDoor
open Go Go.RowKit Go.Proofs.Tryz List
def wW(s:YB)(k:Nat):Array Value:=#[Sr s,I J k]
theorem nC{w:YW}{r:Nat}{s:YB}{k:Nat}(h:Blk w r (wW s k) 192):YtmeiikjpaepogaaGreatDoor.cellInt w r 1=k:=by have:=h.u 1;simp[wW]at this;simp[YtmeiikjpaepogaaGreatDoor.cellInt,this,intOf]
theorem sH{w:YW}{r:Nat}{s:YB}{k:Nat}(h:Blk w r (wW s k) 192)(n a:Nat):Blk ((w.drewN n).setCell ⟨r,1,X⟩ (I J ((a:Nat):Int))) r (wW s a) 192:=by have:=(h.drewN n).set 1 (I J ((a:Nat):Int));simpa [wW]using this
theorem RZ{P:Prop}(zz0:P:=by
 obtain⟨a,D⟩:=l;have K:decide ((d:Int)<s.size)=Y:=by simpa using a
 have a0:=V D
 have x:Hid (∀W:YW,Calls prog 141 #[.int .u8 (s[d].toNat:Int)] W fun e w'=>e=Rt (Bl Z)/\w'=W):=fun W=>by
   have:=lX s[d] W
   rw[D]at this
   exact this
 clear D;go_wp2;go_quiet ((go_at_call 141;exact Calls.quiet_of_same (U x _)));go_wp2;go_roundw;case rel=>exact⟨d+1,zo,by rw[<-U y];unfold wN;rw[sN _ _ _ a (by simp[U a0])],by have:=sH q nq (d+1);simpa using this,(p.drewN nq).set (Zg rfl) _ _⟩
 case measure=>have G:=nC (sH q nq (d+1));rw[U F];simp only[Int.natCast_add,Int.cast_ofNat_Int]at G;rw[G];simp;omega):P:=zz0
theorem RY{P:Prop}(zz0:P:=by
 have g:wN s k=d:=by rw[<-U y];unfold wN;by_cases a:d<s.size;exact mw _ _ _ a (by simpa using fun e=>l ⟨a,e⟩);exact oM _ _ _ a
 have h0:k<=d:=by rw[<-g];exact(sO s (fun b=>!vP b) (s.size-k) k hk).1
 have E:=V g;clear g
 have x:Hid (∀(a:d<s.size)(W:YW),Calls prog 141 #[.int .u8 (s[d].toNat:Int)] W fun e w'=>e=Rt (Bl Y)/\w'=W):=fun a W=>by
   have:=lX s[d] W
   have e:vP s[d]=Y:=by simpa using fun e=>l ⟨a,e⟩
   rw[e]at this
   exact this
 clear l;have H:(decide (d<s.size)=Z)\/(d<s.size/\decide ((d:Int)<s.size)=Y):=by by_cases a:d<s.size;exact Zf ⟨a,by simpa using a⟩;exact Zg (by simpa using a)
 have g0:(k:Int)<=d:=zo;have f0:(d:Int)<=s.size:=zo;rcases H with K|⟨a,K⟩
 ·go_wp2;go_quiet (fail);go_wp2;go_quiet (fail);go_wp2_with fail;go_ret2;rw[U HK,U E];exact⟨rfl,(q.drewN _).drewN _,(p.drewN _).drewN _⟩
 ·go_wp2;go_quiet ((go_at_call 141;exact Calls.quiet_of_same (U x a _)));go_wp2;go_quiet (fail);go_wp2_with fail;go_ret2;rw[U HK,U E];exact⟨rfl,(q.drewN _).drewN _,(p.drewN _).drewN _⟩):P:=zz0
theorem IS(r:Nat)(s:YB)(v:Nat)(w:YW)(h:Blk w r (wW s v) 192)(e0:v<=s.size)(hs:s.size<=2000):Calls prog 73 #[A (O ⟨r,0,X⟩)] w fun e w'=>e=Rt (Tu #[Sr (s.extract (ki s v) (wN s (ki s v))),I J (ki s v)])/\Blk w' r (wW s (wN s (ki s v))) 192/\zU w w' (fun j=>j=r):=by
 have i0:(s.size:Int)<=2000:=zo;go_enter func73,ntmps73;go_wp2;go_loopw [] (fun wr=>∃k:Nat,k<=s.size/\ki s k=ki s v/\Blk wr r (wW s k) 192/\zU w wr (fun j=>j=r)) (fun wr=>s.size-(YtmeiikjpaepogaaGreatDoor.cellInt wr r 1).toNat);case atStart=>exact⟨v,e0,rfl,h,zU.refl _ _⟩
 case round=>
  clear h;obtain⟨k,hk,N,M,Q⟩:=hrel;have HS:=V N;have L:=nC M;have HM:=V L;have R:=V M;have z:=V Q;have hc:=M.u;have hf:=M.H;unfold wW at hc;clear N L M Q;by_cases u:∃c:k<s.size,vP s[k]=Y
  ·obtain⟨c,hg⟩:=u;have T:decide ((k:Int)<s.size)=Y:=by simpa using c
   have HG:=V hg
   have HI:Hid (∀W:YW,Calls prog 141 #[.int .u8 (s[k].toNat:Int)] W fun e w'=>e=Rt (Bl Y)/\w'=W):=fun W=>by
     have:=lX s[k] W
     rw[hg]at this
     exact this
   clear hg;go_wp2;go_quiet ((go_at_call 141;exact Calls.quiet_of_same (U HI _)));go_wp2;go_roundw;case rel=>exact⟨k+1,zo,by rw[<-U HS];unfold ki;rw[sN _ _ _ c (U HG)],by have:=sH R nq (k+1);simpa using this,(z.drewN nq).set (Zg rfl) _ _⟩
   case measure=>have G:=nC (sH R nq (k+1));rw[U HM];simp only[Int.natCast_add,Int.cast_ofNat_Int]at G;rw[G];simp;omega
  ·have t:ki s v=k:=by rw[<-U HS];unfold ki;by_cases c:k<s.size;exact mw _ _ _ c (by simpa using fun e=>u ⟨c,e⟩);exact oM _ _ _ c
   have HK:=V t;clear t
   have HI:Hid (∀(c:k<s.size)(W:YW),Calls prog 141 #[.int .u8 (s[k].toNat:Int)] W fun e w'=>e=Rt (Bl Z)/\w'=W):=fun c W=>by
     have:=lX s[k] W
     have e:vP s[k]=Z:=by simpa using fun e=>u ⟨c,e⟩
     rw[e]at this
     exact this
   clear u;have b0:(decide (k<s.size)=Z)\/(k<s.size/\decide ((k:Int)<s.size)=Y):=by by_cases c:k<s.size;exact Zf ⟨c,by simpa using c⟩;exact Zg (by simpa using c)
   rcases b0 with T|⟨c,T⟩
   ·go_wp2;go_quiet (fail);go_wp2;go_loopw [] (fun i=>∃d:Nat,d<=s.size/\wN s d=wN s k/\Blk i r (wW s d) 192/\zU w i (fun j=>j=r)) (fun i=>s.size-(YtmeiikjpaepogaaGreatDoor.cellInt i r 1).toNat);case atStart=>exact⟨k,hk,rfl,R.drewN nq,z.drewN nq⟩
    case round=>
     clear hc hf T;obtain⟨d,d0,n,f,o⟩:=hrel;have y:=V n;have m:=nC f;have F:=V m;have q:=V f;have p:=V o;have B:=f.u;have c0:=f.H;unfold wW at B;clear n m f o;by_cases l:∃a:d<s.size,vP s[d]=Z
     ·exact RZ
     ·exact RY
   ·go_wp2;go_quiet ((go_at_call 141;exact Calls.quiet_of_same (U HI c _)));go_wp2;go_loopw [] (fun i=>∃d:Nat,d<=s.size/\wN s d=wN s k/\Blk i r (wW s d) 192/\zU w i (fun j=>j=r)) (fun i=>s.size-(YtmeiikjpaepogaaGreatDoor.cellInt i r 1).toNat);case atStart=>exact⟨k,hk,rfl,R.drewN nq,z.drewN nq⟩
    case round=>
     clear hc hf T;obtain⟨d,d0,n,f,o⟩:=hrel;have y:=V n;have m:=nC f;have F:=V m;have q:=V f;have p:=V o;have B:=f.u;have c0:=f.H;unfold wW at B;clear n m f o;by_cases l:∃a:d<s.size,vP s[d]=Z
     ·exact RZ
     ·exact RY
structure CX where
 b:Nat
 r:Nat
 d:Nat
 m:Nat
 mp:Nat
def yI(x:CX)(st:RS):Nat:=if 0<=st.P then x.d else x.m
def xH(x:CX)(st:RS)(s0:Int)(vo:Value):Array Value:=#[A (O ⟨x.r,0,X⟩),I J st.place0,A (O ⟨x.d,0,X⟩),A (O ⟨x.m,0,X⟩),A (O ⟨yI x st,0,X⟩),I J s0,.map (O x.mp),I J st.cells,vo]
def jF(st:RS)(fs:List Value):List xL:=[⟨65,2,st.c0.length,zc st.c0⟩,⟨65,2,st.c1.length,zc st.c1⟩,⟨235,1,fs.length,fs⟩]
def zI(w w':YW):Prop:=∀(k:Nat)(cs:YV)(T:TypeId),Blk w k cs T->(T=91\/T=2\/T=9)->Blk w' k cs T
theorem zI.refl(w:YW):zI w w:=fun _ _ _ h _=>h
theorem zI.trans{a b c:YW}(h:zI a b)(k:zI b c):zI a c:=fun i cs T e d=>k i cs T (h i cs T e d) d
theorem zI.aB{w w':YW}(h:Below w.heap.size w w'):zI w w':=fun _ _ _ a _=>a.z h a.lt
theorem zI.ofStill{w w':YW}{F:Nat->Prop}(h:zU w w' F)(b:∀(k:Nat)(cs:YV)(T:TypeId),Blk w k cs T->(T=91\/T=2\/T=9)->¬F k):zI w w':=fun k cs T a c=>a.still h (b k cs T a c)
def fC (w:YW) (b:Nat) (f:Value) (o:ByteArray×Int×Int):Prop :=
  ∃ cb, Blk w cb #[A (O ⟨b, 0, X⟩)] 91 ∧
    ((o.1 = ⟨#[105, 102]⟩ ∧ ∃ jb, Blk w jb #[I J o.2.2] 2 ∧ f = .func (.func 187) #[] #[A (O ⟨cb, 0, X⟩), .pointer (O ⟨jb, 0, X⟩)]) ∨
     (o.1=⟨#[101,108,115,101]⟩∧∃ jb,Blk w jb #[I J o.2.2] 2∧f=.func (.func 216) #[] #[A (O ⟨cb,0,X⟩),A (O ⟨jb,0,X⟩)]) ∨
     (o.1=⟨#[98,101,103,105,110]⟩∧∃ sb,Blk w sb #[I J o.2.1] 2∧f=.func (.func 190) #[] #[A (O ⟨cb,0,X⟩),A (O ⟨sb,0,X⟩)]) ∨
     (o.1=⟨#[119,104,105,108,101]⟩∧∃ sb jb,Blk w sb #[I J o.2.1] 2∧Blk w jb #[I J o.2.2] 2∧f=.func (.func 217) #[] #[A (O ⟨cb,0,X⟩),A (O ⟨sb,0,X⟩),A (O ⟨jb,0,X⟩)]) ∨
     (o.1=⟨#[100,111]⟩∧∃ sb,Blk w sb #[I J o.2.1] 2∧f=.func (.func 192) #[] #[A (O ⟨cb,0,X⟩),A (O ⟨sb,0,X⟩)]))
theorem fC.box{w w':YW}{b:Nat}{f:Value}{o:ByteArray×Int×Int}(h:fC w b f o)(j:zI w w'):fC w' b f o:=by obtain⟨l,m,n⟩:=h;refine⟨l,j _ _ _ m (Zg rfl),?_⟩;have d:∀{k:Nat} {cs:YV},Blk w k cs 2->Blk w' k cs 2:=fun h=>j _ _ _ h (Zf (Zg rfl));rcases n with⟨e,g,a,c⟩|⟨e,g,a,c⟩|⟨e,i,a,c⟩|⟨e,i,g,a,c,p⟩|⟨e,i,a,c⟩;exact Zg ⟨e,g,d a,c⟩;exact Zf (Zg ⟨e,g,d a,c⟩);exact Zf (Zf (Zg ⟨e,i,d a,c⟩));exact Zf (Zf (Zf (Zg ⟨e,i,g,d a,d c,p⟩)));exact Zf (Zf (Zf (Zf ⟨e,i,d a,c⟩)))
def pH(w:YW)(b:Nat)(f:Value)(name:YB):Prop:=∃cb nb,Blk w cb #[A (O ⟨b,0,X⟩)] 91/\Blk w nb #[Sr name] 9/\f=.func (.func 218) #[] #[A (O ⟨cb,0,X⟩),A (O ⟨nb,0,X⟩)]
theorem pH.box{w w':YW}{b:Nat}{f:Value}{name:YB}(h:pH w b f name)(a:zI w w'):pH w' b f name:=by obtain⟨c,i,d,e,g⟩:=h;exact⟨c,i,a _ _ _ d (Zg rfl),a _ _ _ e (Zf (Zf rfl)),g⟩
structure jE(w:YW)(b:Nat)(st:RS)(fw fo:List Value):Prop where
 word:0<=st.P->∃f,fw=[f]/\pH w b f st.name
 none:st.P<0->fw=[]
 len:fo.length=st.Q.length
 each:∀(i:Nat)(f:Value)(o:ByteArray×Int×Int),fo[i]? = O f->st.Q[i]? = O o->fC w b f o
theorem jE.box{w w':YW}{b:Nat}{st:RS}{fw fo:List Value}(h:jE w b st fw fo)(d:zI w w'):jE w' b st fw fo:=⟨fun e=>by obtain⟨f,a,c⟩:=h.word e;exact⟨f,a,c.box d⟩,h.none,h.len,fun i f o a c=>(h.each i f o a c).box d⟩
structure Cp(B:Nat)(w:YW)(x:CX)(st:RS)(s0:Int)(vd vm vo:Value)(fw fo:List Value):Prop where
 D:Blk w x.b (xH x st s0 vo) 100
 rdr:Blk w x.r (wW st.s st.next) 192
 dp:Blk w x.d #[vd] 140
 mn:Blk w x.m #[vm] 140
 dm:x.d≠x.m
 K:B<=x.b/\B<=x.r/\B<=x.d/\B<=x.m/\B<=x.mp
 aD:yS B w [x.b,x.r,x.d,x.m,x.mp] [vd,vm,vo] (jF st (fw++fo))
 N:jC w x.mp st.N
 P:0<=st.P->s0=st.P
 things:jE w x.b st fw fo
 R:st.c0.length<=4000/\st.c1.length<=4000/\st.N.length<=4000/\st.Q.length<=4000/\st.s.size<=2000
def CpE(B:Nat)(w:YW)(x:CX)(st:RS):Prop:=∃s0 vd vm vo fw fo,Cp B w x st s0 vd vm vo fw fo
section
variable {B:Nat} {w w' w1:YW} {x:CX} {st:RS} {s0:Int} {vd vm vo:Value} {fw fo:List Value}
theorem Cp.od(h:Cp B w x st s0 vd vm vo fw fo):w.ownsRow B 65 2 vd st.c0.length (zc st.c0):=h.aD.own 0 vd _ rfl rfl
theorem Cp.om(h:Cp B w x st s0 vd vm vo fw fo):w.ownsRow B 65 2 vm st.c1.length (zc st.c1):=h.aD.own 1 vm _ rfl rfl
theorem Cp.oo(h:Cp B w x st s0 vd vm vo fw fo):w.ownsRow B 235 1 vo (fw++fo).length (fw++fo):=h.aD.own 2 vo _ rfl rfl
theorem Cp.size(h:Cp B w x st s0 vd vm vo fw fo):B<=w.heap.size:=by have:=h.K;have:=h.D.lt;omega
theorem Cp.z(h:Cp B w x st s0 vd vm vo fw fo)(a:Below w.heap.size w w'):Cp B w' x st s0 vd vm vo fw fo:=⟨h.D.z a h.D.lt,h.rdr.z a h.rdr.lt,h.dp.z a h.dp.lt,h.mn.z a h.mn.lt,h.dm,h.K,h.aD.below_all a,h.N.to (a.block _ h.N.lt),h.P,h.things.box (zI.aB a),h.R⟩
theorem Cp.drewN(h:Cp B w x st s0 vd vm vo fw fo)(n:Nat):Cp B (w.drewN n) x st s0 vd vm vo fw fo:=h.z (zS (Ze _ _) n)
theorem Cp.br(h:Cp B w x st s0 vd vm vo fw fo):x.b≠x.r:=fun e=>by
  have a:=h.D;have c:=h.rdr;rw[e]at a;unfold Blk at a c;rw[a]at c;simp at c
theorem Cp.bd(h:Cp B w x st s0 vd vm vo fw fo):x.b≠x.d:=fun e=>by
  have a:=h.D;have c:=h.dp;rw[e]at a;unfold Blk at a c;rw[a]at c;simp at c
theorem Cp.bm(h:Cp B w x st s0 vd vm vo fw fo):x.b≠x.m:=fun e=>by
  have a:=h.D;have c:=h.mn;rw[e]at a;unfold Blk at a c;rw[a]at c;simp at c
theorem Cp.rd(h:Cp B w x st s0 vd vm vo fw fo):x.r≠x.d:=fun e=>by
  have a:=h.rdr;have b:=h.dp;rw[e]at a;unfold Blk at a b;rw[a]at b;simp[wW]at b
theorem Cp.rm(h:Cp B w x st s0 vd vm vo fw fo):x.r≠x.m:=fun e=>by
  have a:=h.rdr;have b:=h.mn;rw[e]at a;unfold Blk at a b;rw[a]at b;simp[wW]at b
theorem Cp.mne(h:Cp B w x st s0 vd vm vo fw fo):x.mp≠x.b/\x.mp≠x.r/\x.mp≠x.d/\x.mp≠x.m:=⟨h.N.notblk h.D,h.N.notblk h.rdr,h.N.notblk h.dp,h.N.notblk h.mn⟩
theorem Cp.setB(h:Cp B w x st s0 vd vm vo fw fo)(i:Nat)(u:Value)(a:RS)(c:Int)(m:(xH x st s0 vo).setIfInBounds i u=xH x a c vo)(o:jF a (fw++fo)=jF st (fw++fo))(n:a.N=st.N)(d:a.s=st.s/\a.next=st.next)(p:0<=a.P->c=a.P)(l:jE w x.b a fw fo)(j:a.c0.length<=4000/\a.c1.length<=4000/\a.N.length<=4000/\a.Q.length<=4000/\a.s.size<=2000):Cp B (w.setCell ⟨x.b,i,X⟩ u) x a c vd vm vo fw fo:=by refine⟨?_,?_,h.dp.far (fun e=>h.bd e.symm) u,h.mn.far (fun e=>h.bm e.symm) u,h.dm,h.K,?_,?_,p,?_,j⟩;rw[<-m];exact h.D.set i u;rw[d.1,d.2];exact h.rdr.far (fun e=>h.br e.symm) u;rw[o];exact h.aD.set zs i u;rw[n];exact h.N.to (Below.heap_setCell _ _ _ _ h.mne.1);refine l.box (fun k cs T g l=>g.far ?_ u);intro e;simp at e;subst e;have f:=h.D;unfold Blk at f g;rw[g]at f;simp at f;have:=f.2;subst this;rcases l with e|e|e<;>exact absurd e zd
theorem Cp.read(h:Cp B w x st s0 vd vm vo fw fo)(k:Nat)(m:Blk w' x.r (wW st.s k) 192)(a:zU w w' (fun j=>j=x.r)):Cp B w' x {st with next:=k} s0 vd vm vo fw fo:=by
 refine⟨h.D.still a h.br,m,h.dp.still a (fun e=>h.rd e.symm),h.mn.still a (fun e=>h.rm e.symm),h.dm,h.K,?_,?_,h.P,?_,h.R⟩;exact h.aD.to (fun i v k q l g=>a.block k g (fun e=>h.aD.off i v x.r q zs (by rw[l,e])));exact h.N.to (a.block _ h.N.lt h.mne.2.1)
 have c:zI w w':=zI.ofStill a (fun k cs T c p e=>by
   subst e
   have b:=h.rdr
   unfold Blk at b c
   rw[c]at b
   simp at b
   have:=b.2
   subst this
   rcases p with e|e|e<;>exact absurd e zd)
 exact⟨fun n=>by obtain⟨f,b,d⟩:=h.things.word n;exact⟨f,b,d.box c⟩,h.things.none,h.things.len,fun i f o b d=>(h.things.each i f o b d).box c⟩
end
theorem cG(B:Nat)(x:CX)(st:RS)(w:YW)(h:CpE B w x st)(i:st.next<=st.s.size):Calls prog 48 #[A (O ⟨x.b,0,X⟩)] w fun e w'=>e=Rt (Sr (zF st).E)/\CpE B w' x (zF st)/\Below B w w':=by obtain⟨t,u,v,y,fw,fo,h⟩:=h;have j:=V (IS x.r st.s st.next w h.rdr i h.R.2.2.2.2);have l:=h.D.u;unfold xH at l;have d:=V h;clear h;go_enter func48,ntmps48;go_wp2_with fail;refine j.m ?_;rintro e z ⟨rfl,m,c⟩;have a:=d.read _ m c;have g:=a.D.u;have p:=a.D.H;unfold xH at g;have n:=V a;have f:=V c;clear m c a l j;go_wp2;go_ret;have a:=U n;have o:=a.setB 1 (I J (ki st.s st.next)) (zF st) t (by simp[xH,zF];rfl) rfl rfl ⟨rfl,rfl⟩ a.P ⟨a.things.word,a.things.none,a.things.len,a.things.each⟩ a.R;refine⟨rfl,⟨_,_,_,_,_,_,o⟩,?_⟩;exact(f.z (fun k q=>by rw[q];exact d.K.2.1) d.size).setCell d.K.1 _
section
variable {B:Nat} {w w' w1:YW} {x:CX} {st:RS} {s0:Int} {vd vm vo:Value} {fw fo:List Value}
theorem Cp.offb(h:Cp B w x st s0 vd vm vo fw fo)(i:Nat)(v:Value)(c:[vd,vm,vo][i]? = O v)(k:Nat)(a:k∈[x.b,x.r,x.d,x.m,x.mp]):O k≠v.ownBlock:=fun e=>h.aD.off i v k c a e.symm
theorem Cp.boxes(h:Cp B w x st s0 vd vm vo fw fo){F:Nat->Prop}(n:zU w w' F)(l:∀k,k<w.heap.size->F k->k=x.b\/k=x.r\/k=x.d\/k=x.m\/k=x.mp\/vd.ownBlock=O k\/vm.ownBlock=O k\/vo.ownBlock=O k):zI w w':=by
 refine zI.ofStill n (fun k cs T f g e=>?_)
 have no:∀(j:TypeId)(i:YV),Blk w k i j->j=T:=fun j i c=>by
   unfold Blk at f c
   rw[f]at c
   simp at c
   exact c.2.symm
 rcases l k f.lt e with rfl|rfl|rfl|rfl|rfl|e|e|e;have:=no _ _ h.D;subst this;rcases g with e|e|e<;>exact absurd e zd;have:=no _ _ h.rdr;subst this;rcases g with e|e|e<;>exact absurd e zd;have:=no _ _ h.dp;subst this;rcases g with e|e|e<;>exact absurd e zd;have:=no _ _ h.mn;subst this;rcases g with e|e|e<;>exact absurd e zd;exact h.N.notblk f rfl;rcases g with a|a|a<;>subst a<;>exact zR f h.od zd e;rcases g with a|a|a<;>subst a<;>exact zR f h.om zd e;rcases g with a|a|a<;>subst a<;>exact zR f h.oo zd e
theorem Cp.growD(h:Cp B w x st s0 vd vm vo fw fo){op arg:Int}{g cap:Nat}(q:st.c0.length<4000)(o:w.grownBy w1 vd.ownBlock)(j:w1.ownsRow B 65 2 (S (O ⟨g,0,X⟩) (st.c0.length+1) cap) (st.c0.length+1) (zc (st.c0++[(op,arg)])))(n:vd.ownBlock=O g\/g=w.heap.size):Cp B (w1.setCell ⟨x.d,0,X⟩ (S (O ⟨g,0,X⟩) (st.c0.length+1) cap)) x {st with c0:=st.c0++[(op,arg)]} s0 (S (O ⟨g,0,X⟩) (st.c0.length+1) cap) vm vo fw fo/\zI w (w1.setCell ⟨x.d,0,X⟩ (S (O ⟨g,0,X⟩) (st.c0.length+1) cap))/\Below B w (w1.setCell ⟨x.d,0,X⟩ (S (O ⟨g,0,X⟩) (st.c0.length+1) cap)):=by
 have a:zU w (w1.setCell ⟨x.d,0,X⟩ (S (O ⟨g,0,X⟩) (st.c0.length+1) cap)) (fun k=>k=x.d\/vd.ownBlock=O k):=zU.set (F:=fun k=>k=x.d\/vd.ownBlock=O k) (zU.grown (F:=fun k=>k=x.d\/vd.ownBlock=O k) (zU.refl w _) o (fun k c=>Zg (Zf c))) (Zg (Zg rfl)) _ _;have f:zI w (w1.setCell ⟨x.d,0,X⟩ (S (O ⟨g,0,X⟩) (st.c0.length+1) cap)):=h.boxes a (fun k _ e=>by rcases e with e|e;exact Zf (Zf (Zg e));exact Zf (Zf (Zf (Zf (Zf (Zg e))))));have off:∀k∈[x.b,x.r,x.d,x.m,x.mp],¬vd.ownBlock=O k:=fun k c e=>h.aD.off 0 vd k rfl c e;refine⟨⟨?_,?_,?_,?_,h.dm,h.K,?_,?_,h.P,?_,?_⟩,f,?_⟩;exact h.D.still a (fun e=>by rcases e with e|e;exact h.bd e;exact off x.b zs e);exact h.rdr.still a (fun e=>by rcases e with e|e;exact h.rd e;exact off x.r zs e);have:=(h.dp.grown o (fun e=>off x.d zs e.symm)).set 0 (S (O ⟨g,0,X⟩) (st.c0.length+1) cap);simpa only [Zt,set_cons_zero]using this;exact h.mn.still a (fun e=>by rcases e with e|e;exact h.dm e.symm;exact off x.m zs e);have i:∀b∈[x.b,x.r,x.d,x.m,x.mp],b<w.heap.size:=by intro b p;simp at p;rcases p with rfl|rfl|rfl|rfl|rfl;exact h.D.lt;exact h.rdr.lt;exact h.dp.lt;exact h.mn.lt;exact h.N.lt
 have:=(h.aD.grow 0 vd (S (O ⟨g,0,X⟩) (st.c0.length+1) cap) ⟨65,2,st.c0.length+1,zc (st.c0++[(op,arg)])⟩ rfl i o j (qG n (Zc _))).set (b:=x.d) zs 0 (S (O ⟨g,0,X⟩) (st.c0.length+1) cap);simpa [jF]using this;exact h.N.to (a.block _ h.N.lt (fun e=>by rcases e with e|e;exact h.mne.2.2.1 e;exact off x.mp zs e));have l:=h.things.box f;exact⟨l.word,l.none,l.len,l.each⟩;have:=h.R;simp;omega;exact a.z (fun k c=>by rcases c with rfl|c;exact h.K.2.2.1;exact(zC h.od c).2) h.size
theorem Cp.growM(h:Cp B w x st s0 vd vm vo fw fo){op arg:Int}{g cap:Nat}(q:st.c1.length<4000)(o:w.grownBy w1 vm.ownBlock)(j:w1.ownsRow B 65 2 (S (O ⟨g,0,X⟩) (st.c1.length+1) cap) (st.c1.length+1) (zc (st.c1++[(op,arg)])))(n:vm.ownBlock=O g\/g=w.heap.size):Cp B (w1.setCell ⟨x.m,0,X⟩ (S (O ⟨g,0,X⟩) (st.c1.length+1) cap)) x {st with c1:=st.c1++[(op,arg)]} s0 vd (S (O ⟨g,0,X⟩) (st.c1.length+1) cap) vo fw fo/\zI w (w1.setCell ⟨x.m,0,X⟩ (S (O ⟨g,0,X⟩) (st.c1.length+1) cap))/\Below B w (w1.setCell ⟨x.m,0,X⟩ (S (O ⟨g,0,X⟩) (st.c1.length+1) cap)):=by
 have a:zU w (w1.setCell ⟨x.m,0,X⟩ (S (O ⟨g,0,X⟩) (st.c1.length+1) cap)) (fun k=>k=x.m\/vm.ownBlock=O k):=zU.set (F:=fun k=>k=x.m\/vm.ownBlock=O k) (zU.grown (F:=fun k=>k=x.m\/vm.ownBlock=O k) (zU.refl w _) o (fun k c=>Zg (Zf c))) (Zg (Zg rfl)) _ _;have f:zI w (w1.setCell ⟨x.m,0,X⟩ (S (O ⟨g,0,X⟩) (st.c1.length+1) cap)):=h.boxes a (fun k _ e=>by rcases e with e|e;exact Zf (Zf (Zf (Zg e)));exact Zf (Zf (Zf (Zf (Zf (Zf (Zg e)))))));have off:∀k∈[x.b,x.r,x.d,x.m,x.mp],¬vm.ownBlock=O k:=fun k c e=>h.aD.off 1 vm k rfl c e;refine⟨⟨?_,?_,?_,?_,h.dm,h.K,?_,?_,h.P,?_,?_⟩,f,?_⟩;exact h.D.still a (fun e=>by rcases e with e|e;exact h.bm e;exact off x.b zs e);exact h.rdr.still a (fun e=>by rcases e with e|e;exact h.rm e;exact off x.r zs e);exact h.dp.still a (fun e=>by rcases e with e|e;exact h.dm e;exact off x.d zs e);have:=(h.mn.grown o (fun e=>off x.m zs e.symm)).set 0 (S (O ⟨g,0,X⟩) (st.c1.length+1) cap);simpa only [Zt,set_cons_zero]using this;have i:∀b∈[x.b,x.r,x.d,x.m,x.mp],b<w.heap.size:=by intro b p;simp at p;rcases p with rfl|rfl|rfl|rfl|rfl;exact h.D.lt;exact h.rdr.lt;exact h.dp.lt;exact h.mn.lt;exact h.N.lt
 have:=(h.aD.grow 1 vm (S (O ⟨g,0,X⟩) (st.c1.length+1) cap) ⟨65,2,st.c1.length+1,zc (st.c1++[(op,arg)])⟩ rfl i o j (qG n (Zc _))).set (b:=x.m) zs 0 (S (O ⟨g,0,X⟩) (st.c1.length+1) cap);simpa [jF]using this;exact h.N.to (a.block _ h.N.lt (fun e=>by rcases e with e|e;exact h.mne.2.2.2 e;exact off x.mp zs e));have l:=h.things.box f;exact⟨l.word,l.none,l.len,l.each⟩;have:=h.R;simp;omega;exact a.z (fun k c=>by rcases c with rfl|c;exact h.K.2.2.2.1;exact(zC h.om c).2) h.size
end
theorem tH:(prog.info? 235).map (fun i=>(i.zero,i.size,i.bytes))=O (O (Ag #[.nilFunc]),1,8):=zr
section
variable {B:Nat} {w w' w1:YW} {x:CX} {st:RS} {s0:Int} {vd vm vo:Value} {fw fo:List Value}
theorem Cp.lts(h:Cp B w x st s0 vd vm vo fw fo):∀b∈[x.b,x.r,x.d,x.m,x.mp],b<w.heap.size:=by intro b a;simp at a;rcases a with rfl|rfl|rfl|rfl|rfl;exact h.D.lt;exact h.rdr.lt;exact h.dp.lt;exact h.mn.lt;exact h.N.lt
theorem Cp.growO(h:Cp B w x st s0 vd vm vo fw fo){f:Value}{g cap:Nat}(t:w.grownBy w1 vo.ownBlock)(p:w1.ownsRow B 235 1 (S (O ⟨g,0,X⟩) ((fw++fo).length+1) cap) ((fw++fo).length+1) ((fw++fo)++[f]))(s:vo.ownBlock=O g\/g=w.heap.size)(o:ByteArray×Int×Int)(D:fC w x.b f o)(y:st.Q.length<4000):Cp B (w1.setCell ⟨x.b,8,X⟩ (S (O ⟨g,0,X⟩) ((fw++fo).length+1) cap)) x (xn st o) s0 vd vm (S (O ⟨g,0,X⟩) ((fw++fo).length+1) cap) fw (fo++[f])/\zI w (w1.setCell ⟨x.b,8,X⟩ (S (O ⟨g,0,X⟩) ((fw++fo).length+1) cap))/\Below B w (w1.setCell ⟨x.b,8,X⟩ (S (O ⟨g,0,X⟩) ((fw++fo).length+1) cap)):=by
 have a:zU w (w1.setCell ⟨x.b,8,X⟩ (S (O ⟨g,0,X⟩) ((fw++fo).length+1) cap)) (fun k=>k=x.b\/vo.ownBlock=O k):=zU.set (F:=fun k=>k=x.b\/vo.ownBlock=O k) (zU.grown (F:=fun k=>k=x.b\/vo.ownBlock=O k) (zU.refl w _) t (fun k l=>Zg (Zf l))) (Zg (Zg rfl)) _ _;have j:zI w (w1.setCell ⟨x.b,8,X⟩ (S (O ⟨g,0,X⟩) ((fw++fo).length+1) cap)):=h.boxes a (fun k _ e=>by rcases e with e|e;exact Zg e;exact Zf (Zf (Zf (Zf (Zf (Zf (Zf e)))))));have off:∀k∈[x.b,x.r,x.d,x.m,x.mp],¬vo.ownBlock=O k:=fun k l e=>h.aD.off 2 vo k rfl l e;refine⟨⟨?_,?_,?_,?_,h.dm,h.K,?_,?_,h.P,?_,?_⟩,j,?_⟩;have:=(h.D.grown t (fun e=>off x.b zs e.symm)).set 8 (S (O ⟨g,0,X⟩) ((fw++fo).length+1) cap);unfold xH at this;simp only[Zt,set_cons_succ,set_cons_zero]at this;exact this;exact h.rdr.still a (fun e=>by rcases e with e|e;exact h.br e.symm;exact off x.r zs e);exact h.dp.still a (fun e=>by rcases e with e|e;exact h.bd e.symm;exact off x.d zs e);exact h.mn.still a (fun e=>by rcases e with e|e;exact h.bm e.symm;exact off x.m zs e);have:=(h.aD.grow 2 vo (S (O ⟨g,0,X⟩) ((fw++fo).length+1) cap) ⟨235,1,(fw++fo).length+1,(fw++fo)++[f]⟩ rfl h.lts t p (qG s (Zc _))).set (b:=x.b) zs 8 (S (O ⟨g,0,X⟩) ((fw++fo).length+1) cap);have e:jF (xn st o) (fw++(fo++[f]))=(jF st (fw++fo)).set 2 ⟨235,1,(fw++fo).length+1,(fw++fo)++[f]⟩:=by unfold jF xn;rw[<-Zy];simp;omega
 rw[e];exact this;exact h.N.to (a.block _ h.N.lt (fun e=>by rcases e with e|e;exact h.mne.1 e;exact off x.mp zs e));have q:=h.things.box j;refine⟨q.word,q.none,by simp[xn,q.len],?_⟩;intro i z E n c;unfold xn at c;simp only at c;rcases Nat.lt_or_ge i fo.length with u|u;rw[Zu u]at n;rw[Zu (by rw[<-h.things.len];exact u)]at c;exact q.each i z E n c;have v:i=fo.length:=by have:=(Zb.1 n).1;simp at this;omega
 subst v;rw[Zw (Zc _),Nat.sub_self]at n;rw[h.things.len,Zw (Zc _),Nat.sub_self]at c;simp at n c;subst n c;exact D.box j;have:=h.R;simp[xn];omega;exact a.z (fun k l=>by rcases l with rfl|l;exact h.K.1;exact(zC h.oo l).2) h.size
end
theorem Mx(B:Nat)(x:CX)(st:RS)(w:YW)(h:CpE B w x st)(q:Nat)(f:Value)(n:f.oneCell'=Y)(o:ByteArray×Int×Int)(ho:fC w x.b f o)(D:Blk w q #[f] 235)(y:st.Q.length<3990):Calls prog 186 #[A (O ⟨x.b,0,X⟩),S (O ⟨q,0,X⟩) 1 1] w fun e w'=>e=Rt (Tu #[])/\CpE B w' x (xn st o)/\zI w w'/\Below B w w':=by
 obtain⟨iT,p,j,k,l⟩:=info_parts tH;obtain⟨s0,vd,vm,vo,fw,fo,h⟩:=h;obtain⟨P,Q,s⟩:=zu h.oo;subst s;have r:=h.offb 2 _ rfl x.b zs;have v:=h.D.u;have T:=h.D.H;unfold xH at v;have a0:(fw++fo).length<=3991:=by
  have h1:=h.things.len;have h2:fw.length<=1:=by by_cases hs:0<=st.P;obtain⟨f,e,_⟩:=h.things.word hs;rw[e];simp;rw[h.things.none zo];simp
  simp;omega
 have K:=V h.oo;have t:=V h.D;unfold xH at t;have N:=V h.size;have G:=V h;have M:=V D;clear h D;generalize u:(fw++fo).length=L at *;have H:=V u;clear u;go_enter func186,ntmps186;go_wp2_with (at_builtin;refine wpList_append_lies _ rfl (.tmp 8) (.tmp 9) 98 rfl B 235 iT _ 1 8 underlying98 p j k l rfl zd (S P L Q) L (fw++fo) zf K ⟨q,0,X⟩ 1 1 [f] zf rfl (World.news_of_block M) (by simpa using n) zo zm zo N _ rfl ?_;intro g cap w5 c a i z;have d:=t.grown a r;have R:=d.u;have W:=d.H;have m:=V c;have F:=V a;have E:=V i;clear c a i d v T);go_end0;obtain rfl:=H.symm;obtain⟨k1,k2,k3⟩:=G.growO F m E o ho zo;exact⟨rfl,⟨_,_,_,_,_,_,k1⟩,k2,k3⟩
section
variable {B:Nat} {w:YW} {x:CX} {st:RS} {s0:Int} {vd vm vo:Value} {fw fo:List Value}
theorem Cp.tellD{g k:Nat}(h:Cp B w x st s0 (S (O ⟨g,0,X⟩) st.c0.length k) vm vo fw fo)(n:Nat)(a:Int):Cp B (w.setCell ⟨g,n*2+1,X⟩ (I J a)) x {st with c0:=kU st.c0 n a} s0 (S (O ⟨g,0,X⟩) st.c0.length k) vm vo fw fo/\zI w (w.setCell ⟨g,n*2+1,X⟩ (I J a))/\Below B w (w.setCell ⟨g,n*2+1,X⟩ (I J a)):=by have c:zU w (w.setCell ⟨g,n*2+1,X⟩ (I J a)) (fun j=>j=g):=zU.set (F:=fun j=>j=g) (zU.refl w _) (Zg rfl) _ _;have off:∀j∈[x.b,x.r,x.d,x.m,x.mp],j≠g:=fun j l e=>h.aD.off 0 _ j rfl l (by rw[e];rfl);have f:=h.boxes c (fun j _ e=>by rw[e];exact Zf (Zf (Zf (Zf (Zf (Zg rfl))))));refine⟨⟨h.D.still c (off x.b zs),h.rdr.still c (off x.r zs),h.dp.still c (off x.d zs),h.mn.still c (off x.m zs),h.dm,h.K,?_,h.N.to (c.block _ h.N.lt (off x.mp zs)),h.P,?_,?_⟩,f,?_⟩;have:=h.aD.write 0 g st.c0.length k _ rfl rfl (n*2+1) (I J a);simpa [jF,xj,fm]using this;have i:=h.things.box f;exact⟨i.word,i.none,i.len,i.each⟩;have:=h.R;simpa [xj]using this;exact(Ze B w).setCell (zC h.od (k:=g) rfl).2 _
theorem Cp.tellM{g k:Nat}(h:Cp B w x st s0 vd (S (O ⟨g,0,X⟩) st.c1.length k) vo fw fo)(n:Nat)(a:Int):Cp B (w.setCell ⟨g,n*2+1,X⟩ (I J a)) x {st with c1:=kU st.c1 n a} s0 vd (S (O ⟨g,0,X⟩) st.c1.length k) vo fw fo/\zI w (w.setCell ⟨g,n*2+1,X⟩ (I J a))/\Below B w (w.setCell ⟨g,n*2+1,X⟩ (I J a)):=by have c:zU w (w.setCell ⟨g,n*2+1,X⟩ (I J a)) (fun j=>j=g):=zU.set (F:=fun j=>j=g) (zU.refl w _) (Zg rfl) _ _;have off:∀j∈[x.b,x.r,x.d,x.m,x.mp],j≠g:=fun j l e=>h.aD.off 1 _ j rfl l (by rw[e];rfl);have f:=h.boxes c (fun j _ e=>by rw[e];exact Zf (Zf (Zf (Zf (Zf (Zf (Zg rfl)))))));refine⟨⟨h.D.still c (off x.b zs),h.rdr.still c (off x.r zs),h.dp.still c (off x.d zs),h.mn.still c (off x.m zs),h.dm,h.K,?_,h.N.to (c.block _ h.N.lt (off x.mp zs)),h.P,?_,?_⟩,f,?_⟩;have:=h.aD.write 1 g st.c1.length k _ rfl rfl (n*2+1) (I J a);simpa [jF,xj,fm]using this;have i:=h.things.box f;exact⟨i.word,i.none,i.len,i.each⟩;have:=h.R;simpa [xj]using this;exact(Ze B w).setCell (zC h.om (k:=g) rfl).2 _
end
theorem GA:(f78.name == "runtime.NumGoroutine")=Z:=zr
theorem Gr:f78.body.isNone=Z:=zr
theorem Jj(d g k n j:Nat)(y:Int)(w:YW)(h:Blk w d #[S (O ⟨g,0,X⟩) n k] 140)(p:j<n)(i:n<=100000)(a:w.cell? ⟨g,j*2+1,X⟩=O (I J y))(c:w.frozen? ⟨g,j*2+1,X⟩=Z):Calls prog 188 #[A (O ⟨d,0,X⟩),I J j] w fun e w'=>e=Rt (Tu #[])/\∃m,w'=(w.setCell ⟨g,j*2+1,X⟩ (I J n)).drewN m:=by have b:Hid (∀m,Calls prog 78 #[A (O ⟨d,0,X⟩)] (w.drewN m) fun e w'=>e=Rt (I J n)/\w'=w.drewN m):=fun m=>aK d n _ k (w.drewN m) h i;have o:=h.u;have f:(j:Int)<n:=zo;have l:(n:Int)<=100000:=zo;clear h;go_enter func188,ntmps188;go_wp2;go_region_law (refine zN rfl 78 #[.tmp 9] #[96] rfl func78 GA Gr #[A (O ⟨d,0,X⟩)] ze (U b 1) ?_;rintro e q ⟨rfl,rfl⟩;refine⟨_,rfl,?_⟩);all_goals go_wp2;go_end0;exact⟨rfl,1,rfl⟩
theorem tc(B:Nat)(x:CX)(st:RS)(w:YW)(h:CpE B w x st)(n:Nat)(b:n<zM st):Calls prog 188 #[A (O ⟨yI x st,0,X⟩),I J n] w fun e w'=>e=Rt (Tu #[])/\CpE B w' x (yN st n)/\zI w w'/\Below B w w':=by obtain⟨r,s,t,u,fw,fo,h⟩:=h;unfold yI yN;unfold zM at b;have q:=h.R;by_cases p:0<=st.P;simp only[if_pos p]at b ⊢;obtain⟨g,k,f,_,_⟩:=h.od.form zo;subst f;obtain⟨y,i⟩:∃y,st.c0[n]? = O y:=⟨_,Za b⟩;have a:=zD h.od (n*2+1) zo;rw[(zL _ _ _ i).2]at a;refine(Jj x.d g k st.c0.length n y.2 w h.dp b zo a (yB h.od _)).m ?_;rintro e w' ⟨rfl,m,rfl⟩;obtain⟨j,l,o⟩:=h.tellD n st.c0.length;exact⟨rfl,⟨_,_,_,_,_,_,j.drewN m⟩,l.trans (fun _ _ _ c _=>c.drewN m),zS o m⟩;simp only[if_neg p]at b ⊢;obtain⟨g,k,f,_,_⟩:=h.om.form zo;subst f;obtain⟨y,i⟩:∃y,st.c1[n]? = O y:=⟨_,Za b⟩;have a:=zD h.om (n*2+1) zo;rw[(zL _ _ _ i).2]at a;refine(Jj x.m g k st.c1.length n y.2 w h.mn b zo a (yB h.om _)).m ?_;rintro e w' ⟨rfl,m,rfl⟩;obtain⟨j,l,o⟩:=h.tellM n st.c1.length;exact⟨rfl,⟨_,_,_,_,_,_,j.drewN m⟩,l.trans (fun _ _ _ c _=>c.drewN m),zS o m⟩
theorem xS:(f50.name == "runtime.NumGoroutine")=Z:=zr
theorem xR:f50.body.isNone=Z:=zr
theorem eg:(f51.name == "runtime.NumGoroutine")=Z:=zr
theorem dZ:f51.body.isNone=Z:=zr
theorem da:(f77.name == "runtime.NumGoroutine")=Z:=zr
theorem cX:f77.body.isNone=Z:=zr
def CpF(B:Nat)(w:YW)(x:CX)(st:RS)(fw fo:List Value):Prop:=∃s0 vd vm vo,Cp B w x st s0 vd vm vo fw fo
theorem CpF.e{B:Nat}{w:YW}{x:CX}{st:RS}{fw fo:List Value}(h:CpF B w x st fw fo):CpE B w x st:=by obtain⟨_,_,_,_,h⟩:=h;exact⟨_,_,_,_,_,_,h⟩
theorem CpE.f{B:Nat}{w:YW}{x:CX}{st:RS}(h:CpE B w x st):∃fw fo,CpF B w x st fw fo:=by obtain⟨_,_,_,_,_,_,h⟩:=h;exact⟨_,_,_,_,_,_,h⟩
section
variable {B:Nat} {w w' W0 w1:YW} {x:CX} {st st':RS} {s0:Int} {vd vm vo:Value} {fw fo:List Value}
theorem CpF.z(h:CpF B w x st fw fo)(a:Below w.heap.size w w'):CpF B w' x st fw fo:=by obtain⟨_,_,_,_,h⟩:=h;exact⟨_,_,_,_,h.z a⟩
theorem CpF.size(h:CpF B w x st fw fo):B<=w.heap.size:=by obtain⟨_,_,_,_,h⟩:=h;exact h.size
theorem CpF.D(h:CpF B w x st fw fo):∃a c,Blk w x.b (xH x st a c) 100:=by obtain⟨a,_,_,c,h⟩:=h;exact⟨a,c,h.D⟩
theorem CpF.things(h:CpF B w x st fw fo):jE w x.b st fw fo:=by obtain⟨_,_,_,_,h⟩:=h;exact h.things
theorem jE.as(h:jE w x.b st fw fo)(e:st'.P=st.P/\st'.name=st.name/\st'.Q=st.Q):jE w x.b st' fw fo:=⟨fun a=>by rw[e.1]at a;rw[e.2.1];exact h.word a,fun a=>h.none (by rw[e.1]at a;exact a),by rw[e.2.2];exact h.len,fun i f o d c=>h.each i f o d (by rw[e.2.2]at c;exact c)⟩
theorem eI(st:RS)(op arg:Int):(zQ st op arg).P=st.P/\(zQ st op arg).name=st.name/\(zQ st op arg).Q=st.Q:=by unfold zQ;split<;>exact⟨rfl,rfl,rfl⟩
theorem Rz(st:RS)(n:Nat):(yN st n).P=st.P/\(yN st n).name=st.name/\(yN st n).Q=st.Q:=by unfold yN;split<;>exact⟨rfl,rfl,rfl⟩
theorem Cp.boxset (h:Cp B w x st s0 vd vm vo fw fo) {jb:Nat} {cs:YV} {T:TypeId} (hq:Blk w jb cs T) (hT:T=91∨T=2∨T=9) (i:Nat) (v:Value) (ht:jE (w.setCell ⟨jb,i,X⟩ v) x.b st fw fo):Cp B (w.setCell ⟨jb,i,X⟩ v) x st s0 vd vm vo fw fo:=by
 have hst:zU w (w.setCell ⟨jb,i,X⟩ v) (fun k=>k=jb):=zU.set (F:=fun k=>k=jb) (zU.refl w _) (Zg rfl) _ _
 have no:∀ {k:Nat} {cs':YV} {T':TypeId},Blk w k cs' T'→(T'=T→False)→¬ (k=jb):=fun hb' hne e=>by
   subst e
   unfold Blk at hq hb'
   rw[hq]at hb'
   simp at hb'
   exact hne hb'.2.symm
 refine⟨h.D.still hst (no h.D ?_),h.rdr.still hst (no h.rdr ?_),h.dp.still hst (no h.dp ?_),h.mn.still hst (no h.mn ?_),h.dm,h.K,?_,h.N.to (hst.block _ h.N.lt (h.N.notblk hq)),h.P,ht,h.R⟩;rcases hT with e|e|e<;>subst e<;>decide;rcases hT with e|e|e<;>subst e<;>decide;rcases hT with e|e|e<;>subst e<;>decide;rcases hT with e|e|e<;>subst e<;>decide;refine h.aD.to (fun n u k hv hk hlt=>hst.block k hlt (fun e=>?_));subst e
 match n,hv with
 | 0, hv => obtain rfl : vd = u := by simpa using hv
            rcases hT with e|e|e<;>subst e<;>exact zR hq h.od zd hk
 | 1, hv => obtain rfl : vm = u := by simpa using hv
            rcases hT with e|e|e<;>subst e<;>exact zR hq h.om zd hk
 | 2, hv => obtain rfl : vo = u := by simpa using hv
            rcases hT with e|e|e<;>subst e<;>exact zR hq h.oo zd hk
 | n+3,hv=>simp at hv
theorem CpF.box(h:CpF B w1 x st' fw fo)(i:jE W0 x.b st fw fo)(e:st'.P=st.P/\st'.name=st.name/\st'.Q=st.Q)(d:zI W0 w1){c:Nat}{m:Value}{T:TypeId}(g:Blk w1 c #[m] T)(j:T=91\/T=2\/T=9)(n:W0.heap.size<=c)(v:Value):CpF B (w1.setCell ⟨c,0,X⟩ v) x st' fw fo/\zI W0 (w1.setCell ⟨c,0,X⟩ v)/\Blk (w1.setCell ⟨c,0,X⟩ v) c #[v] T:=by have a:zI W0 (w1.setCell ⟨c,0,X⟩ v):=fun k cs T f l=>(d k cs T f l).far (by have:=f.lt;simp;omega) v;obtain⟨_,_,_,_,h⟩:=h;exact⟨⟨_,_,_,_,h.boxset g j 0 v ((i.as e).box a)⟩,a,by simpa using g.set 0 v⟩
end
theorem World.size_up(w:YW)(o:Obj):(w.alloc o).heap.size=w.heap.size+1:=zs
theorem World.size_dr(w:YW):w.drew.heap.size=w.heap.size:=rfl
theorem World.size_drN(w:YW)(n:Nat):(w.drewN n).heap.size=w.heap.size:=rfl
theorem yP{B:Nat}{a w:YW}(h:Below B a w):Below B a w.drew:=⟨h.os,h.tape,h.output,h.size,h.block⟩
theorem Ee{a w:YW}(h:Below a.heap.size a w)(o:Obj):Below a.heap.size a (w.alloc o):=h.alloc h.size o
theorem gE{w:YW}{q:Nat}(cs:YV)(T:TypeId)(h:q=w.heap.size):Blk (w.alloc (C cs T)) q cs T:=by subst h;exact Blk.new w cs T
def Jd(B:Nat)(W:YW)(x:CX)(st:RS)(fw fo:List Value)(op arg:Int)(e:Ending)(w':YW):Prop:=e=Rt (I J (zM st))/\CpF B w' x (zQ st op arg) fw fo/\zI W w'/\Below B W w'
theorem PN(B:Nat)(x:CX)(st:RS)(w:YW)(fw fo:List Value)(h:CpF B w x st fw fo)(q:Nat)(op arg:Int)(c1:Nat)(l:Blk w q #[I J op,I J arg] 65)(a:zM st<4000):Calls prog 50 #[A (O ⟨yI x st,0,X⟩),S (O ⟨q,0,X⟩) 1 c1] w (Jd B w x st fw fo op arg):=by obtain⟨s,o,p,t,h⟩:=h;unfold Jd yI zM zQ;unfold zM at a;by_cases n:0<=st.P;simp only[if_pos n]at a ⊢;refine(mN B x.d q o st.c0 op arg c1 w h.dp h.od l h.size zo).m ?_;rintro e w' ⟨rfl,g,cap,r,b,f,c,rfl⟩;obtain⟨i,j,k⟩:=h.growD a f b c;exact⟨rfl,⟨_,_,_,_,i⟩,j,k⟩;simp only[if_neg n]at a ⊢;refine(mN B x.m q p st.c1 op arg c1 w h.mn h.om l h.size zo).m ?_;rintro e w' ⟨rfl,g,cap,r,b,f,c,rfl⟩;obtain⟨i,j,k⟩:=h.growM a f b c;exact⟨rfl,⟨_,_,_,_,i⟩,j,k⟩
def PL(B:Nat)(w W:YW)(x:CX)(st:RS)(fw fo:List Value)(op arg:Int)(e:Ending)(w':YW):Prop:=e=Rt (I J (zM st))/\zI W w'/\(CpF B w' x (zQ st op arg) fw fo/\jE w x.b st fw fo/\zI w w'/\Below B w w')
theorem gZ(B:Nat)(x:CX)(st:RS)(w:YW)(fw fo:List Value)(h:CpF B w x st fw fo)(op arg:Int)(c:zM st<4000):∀(W:YW)(q:Nat),Below w.heap.size w W->Blk W q #[I J op,I J arg] 65->Calls prog 50 #[A (O ⟨yI x st,0,X⟩),S (O ⟨q,0,X⟩) 1 1] W (PL B w W x st fw fo op arg):=by intro W q a i;refine(PN B x st W fw fo (h.z a) q op arg 1 i c).m ?_;rintro e w' ⟨rfl,f,d,g⟩;have l:=h.size;exact⟨rfl,d,f,h.things,(zI.aB a).trans d,Below.trans (b:=W) ⟨a.os,a.tape,a.output,a.size,fun k j=>a.block k zo⟩ g⟩
def uG(B:Nat)(w:YW)(x:CX)(st:RS)(fw fo:List Value)(n:Int)(s:Value)(wc:YW):Prop:=∃jb,s=A (O ⟨jb,0,X⟩)/\Blk wc jb #[I J n] 2/\CpF B wc x st fw fo/\zI w wc/\Below B w wc
section
variable {B:Nat} {w w1:YW} {x:CX} {st st':RS} {fw fo:List Value} {n:Int} {jb:Nat}
theorem pK(i:B<=w.heap.size)(e:st'.P=st.P/\st'.name=st.name/\st'.Q=st.Q)(h:CpF B w1 x st' fw fo/\jE w x.b st fw fo/\zI w w1/\Below B w w1)(j:Blk w1 jb #[I J 0] 2)(a:w.heap.size<=jb):uG B w x st' fw fo n (A (O ⟨jb,0,X⟩)) (w1.setCell ⟨jb,0,X⟩ (I J n)):=by obtain⟨c,d,f,g⟩:=h;obtain⟨k,l,m⟩:=c.box d e f j (Zf (Zg rfl)) a (I J n);exact⟨jb,rfl,m,k,l,g.setCell (Nat.le_trans i a) _⟩
theorem pJ(h:CpF B w1 x st' fw fo/\jE w x.b st fw fo/\zI w w1/\Below B w w1):uG B w x st' fw fo n (A (O ⟨w1.heap.size,0,X⟩)) (w1.alloc (C #[I J n] 2)):=by obtain⟨a,e,c,d⟩:=h;exact⟨_,rfl,Blk.new _ _ _,a.z ((Ze _ _).alloc (Zc _) _),c.trans (zI.aB ((Ze _ _).alloc (Zc _) _)),d.alloc a.size _⟩
end
theorem Ax(B:Nat)(x:CX)(st:RS)(wc:YW)(h:CpE B wc x st)(f:Value)(d:f.oneCell'=Y)(o:ByteArray×Int×Int)(g:fC wc x.b f o)(c:st.Q.length<3990):Calls prog 186 #[A (O ⟨x.b,0,X⟩),S (O ⟨wc.heap.size,0,X⟩) 1 1] (wc.alloc (C #[f] 235)) fun e w'=>e=Rt (Tu #[])/\CpE B w' x (xn st o)/\zI wc w'/\Below B wc w':=by have a:Below wc.heap.size wc (wc.alloc (C #[f] 235)):=(Ze _ _).alloc (Zc _) _;obtain⟨_,_,h⟩:=h.f;have n:=h.size;refine(Mx B x st _ (h.z a).e _ f d o (g.box (zI.aB a)) (Blk.new _ _ _) c).m ?_;rintro e w' ⟨rfl,i,j,l⟩;exact⟨rfl,i,(zI.aB a).trans j,Below.trans (b:=wc.alloc (C #[f] 235)) ⟨a.os,a.tape,a.output,a.size,fun k m=>a.block k zo⟩ l⟩
theorem Lh(B:Nat)(x:CX)(st:RS)(w:YW)(h:CpE B w x st)(y:zM st<4000)(a0:st.Q.length<3980):Calls prog 143 #[A (O ⟨x.b,0,X⟩)] w fun e w'=>e=Rt (Tu #[])/\CpE B w' x (xn (zQ st 2 0) (⟨#[105,102]⟩,0,zM st))/\zI w w'/\Below B w w':=by
 obtain⟨fw,fo,h⟩:=h.f;have p:Below w.heap.size w (w.alloc (C #[A (O ⟨x.b,0,X⟩)] 91)):=(Ze _ _).alloc (Zc _) _;have c:=Blk.new w #[A (O ⟨x.b,0,X⟩)] 91;have F:=h.z p;have hB:=h.size;obtain⟨s0,vo,o⟩:=F.D;have K:=o.u;have c0:x.b<w.heap.size:=by obtain⟨_,_,hb⟩:=h.D;exact hb.lt
 have L:x.b<w.heap.size+1:=zo;have M:x.b<=w.heap.size:=zo;have N:x.b<=w.heap.size+1:=zo;have P:x.b<=w.heap.size+1+1:=zo;have Q:x.b<=w.heap.size+1+1+1:=zo;have R:x.b<w.heap.size+1+1:=zo;have T:x.b<w.heap.size+1+1+1:=zo;have W:x.b<w.heap.size+1+1+1+1:=zo;unfold xH at K;have d:=V (gZ B x st _ fw fo F 2 0 y);have b0:(w.alloc (C #[A (O ⟨x.b,0,X⟩)] 91)).heap.size=w.heap.size+1:=zs;have G:=c.u;have D:=V c;have i:=V p;clear o c p h F;generalize yI x st=z at *;go_enter func143,ntmps143;go_wp2_with fail;generalize w.alloc (C #[A (O ⟨x.b,0,X⟩)] 91)=H at *;go_cut [2]from 3 to 14 (fun s2 wc=>uG B H x (zQ st 2 0) fw fo (zM st) s2 wc)
 case first=>go_region_law (first | (refine zN rfl 51 #[.const (I J 2)] #[3] rfl func51 eg dZ #[I J 2] zg (bC 2 _) ?_;rintro e q ⟨rfl,rfl⟩;refine⟨_,rfl,?_⟩) | (refine zN rfl 50 #[.tmp 6,.tmp 8] #[96,33] rfl func50 xS xR #[A (O ⟨z,0,X⟩),S (O ⟨w.heap.size+1+1+1,0,X⟩) 1 1] zg (U d _ (w.heap.size+1+1+1) zb zk) ?_;rintro e q ⟨rfl,m,l⟩;refine⟨_,rfl,?_⟩;have a:Blk q (w.heap.size+1) #[I J 0] 2:=m _ _ _ zk (Zf (Zg rfl));have u:=a.u;have v:=a.H;have E:=V a;clear a;have n:=V l;clear l m) | (refine zN rfl 50 #[.tmp 6,.tmp 8] #[96,33] rfl func50 xS xR #[A (O ⟨z,0,X⟩),S (O ⟨w.heap.size+1+1+1,0,X⟩) 1 1] zg (U d _ (w.heap.size+1+1+1) zb zk) ?_;rintro e q ⟨rfl,m,l⟩;refine⟨_,rfl,?_⟩;have a:Blk q (w.heap.size+1+1) #[I J 0] 2:=m _ _ _ zk (Zf (Zg rfl));have u:=a.u;have v:=a.H;have E:=V a;clear a;have n:=V l;clear l m) | (refine zN rfl 50 #[.tmp 6,.tmp 8] #[96,33] rfl func50 xS xR #[A (O ⟨z,0,X⟩),S (O ⟨w.heap.size+1+1,0,X⟩) 1 1] zg (U d _ (w.heap.size+1+1) zb zk) ?_;rintro e q ⟨rfl,m,l⟩;refine⟨_,rfl,?_⟩;have a:Blk q (w.heap.size+1+1+1) #[I J 0] 2:=m _ _ _ zk (Zf (Zg rfl));have u:=a.u;have v:=a.H;have E:=V a;clear a;have n:=V l;clear l m) | (refine zN rfl 50 #[.tmp 6,.tmp 8] #[96,33] rfl func50 xS xR #[A (O ⟨z,0,X⟩),S (O ⟨w.heap.size+1+1,0,X⟩) 1 1] zg (U d _ (w.heap.size+1+1) zb zk) ?_;rintro e q ⟨rfl,m,l⟩;refine⟨_,rfl,?_⟩;skip;have n:=V l;clear l m));all_goals go_wp2;go_meet;first | exact pJ n | exact pK zo (eI _ _ _) n E zo
 case rest=>obtain⟨jb,rfl,s,r,g,j⟩:=hcut;have c:=g _ _ _ D (Zg rfl);have t:=c.u;have n:=V (And.intro c (And.intro s (And.intro r (And.intro g j))));clear s r g j c G K d;go_wp2_with fail;obtain⟨c,s,r,g,j⟩:=U n;refine(Ax B x (zQ st 2 0) wc r.e _ rfl (⟨#[105,102]⟩,0,zM st) ⟨_,c,Zg ⟨rfl,jb,s,rfl⟩⟩ (by rw[(eI _ _ _).2.2];omega)).m ?_;rintro e w2 ⟨rfl,k1,k2,k3⟩;clear c s r g j t;go_wp2;go_end0;obtain⟨c,s,r,g,j⟩:=U n;exact⟨rfl,k1,(zI.aB i).trans (g.trans k2),Below.trans (b:=H) ⟨i.os,i.tape,i.output,i.size,fun k hk=>i.block k zo⟩ (j.trans k3)⟩
theorem Ct(B:Nat)(x:CX)(st:RS)(w:YW)(h:CpE B w x st):Calls prog 78 #[A (O ⟨yI x st,0,X⟩)] w fun e w'=>e=Rt (I J (zM st))/\w'=w:=by obtain⟨g,i,j,l,fw,fo,h⟩:=h;have f:=h.R;unfold yI zM;by_cases c:0<=st.P;simp only[if_pos c];obtain⟨a,k,b⟩:=zu h.od;subst b;exact aK x.d st.c0.length a k w h.dp zo;simp only[if_neg c];obtain⟨a,k,b⟩:=zu h.om;subst b;exact aK x.m st.c1.length a k w h.mn zo
theorem CpF.size0{B:Nat}{w:YW}{x:CX}{st:RS}{fw fo:List Value}(h:CpF B w x st fw fo):x.b<w.heap.size:=by obtain⟨_,_,a⟩:=h.D;exact a.lt
theorem yf{B C:Nat}{w w':YW}(h:Below C w w')(a:B<=C):Below B w w':=⟨h.os,h.tape,h.output,h.size,fun k b=>h.block k zo⟩
theorem eC(x:CX)(st:RS)(op arg:Int):yI x (zQ st op arg)=yI x st:=by unfold yI;rw[(eI st op arg).1]
structure mX(B:Nat)(w:YW)(pb q c:Nat)(ps:YI):Prop where
 box:Blk w pb #[S (O ⟨q,0,X⟩) ps.length c] 115
 low:pb<B/\q<B
 u:∀(j:Nat)(p:Int),ps[j]? = O p->w.cell? ⟨q,j,X⟩=O (I J p)
theorem mX.to{B:Nat}{w w':YW}{b q c:Nat}{d:YI}(h:mX B w b q c d)(a:Below B w w'):mX B w' b q c d:=⟨h.box.z a h.low.1,h.low,fun j p e=>by rw[a.u (by simpa using h.low.2)];exact h.u j p e⟩
theorem Jm(m:MS)(op arg:Int):(doS m op arg).C.length<=m.C.length+3:=by unfold doS;repeat' (first|refine lr (p:=fun z=>z.C.length<=m.C.length+3) ?_ ?_|((try simp only[Zi])<;>(try simp only[length_cons])<;>(try simp only[length_nil])<;>(try simp only[length_dropLast])<;>omega))
theorem py(arg op:Int)(r:YI)(m:MS):zW arg (op::r) m=if zJ m op=0 then zW arg r (doS m op arg)else(m,zJ m op):=rfl
theorem Hd(B b L:Nat)(vl:Value)(m:MS)(st:Int)(w w0:YW)(hw:Below B w0 w)(h:PmE B w b L vl m st)(D:MOk m)(arg x0 x1 x2:Int)(G:inI arg)(pb q c:Nat)(g:YI)(v:mX B w pb q c g)(k0:g.length<=3)(a0:∀x∈g,0<=x/\x<=32)(g0:L<B)(hE:∀op,op<33->AW B w0 b L op):Calls prog 123 #[A (O ⟨b,0,X⟩),I J arg,Ag #[I J x0,I J x1,I J x2],A (O ⟨pb,0,X⟩)] w (ye B w b L vl st (zW arg g m).1 (zW arg g m).2):=by
 have hb:=zB w (C #[I J x0,I J x1,I J x2] 171);have hB:=h.size;have Q:=v.to (hb.m hB);have c0:=v.box.u;have j0:=v.box.lt;have HA:=V v;have HB:=V hb;have HH:=V (h.z hb);have z:=V D;have HE:=V hE;have HW:=V hw;have b0:=V a0;have i0:(g.length:Int)<=3:=zo;generalize H:zW arg g m=res;have F:=V H;obtain⟨rm,re⟩:=res;clear h hb v Q D hE hw a0 H;go_enter func123,ntmps123;go_wp2;go_loopw [13] (fun i wr=>∃(k:Nat)(mk:MS),i=I J k/\k<=g.length/\PmE B wr b L vl mk st/\MOk mk/\zW arg (g.drop k) mk=(rm,re)/\xu w wr/\Below B w wr) (fun i _=>g.length-(intOf i).toNat);case atStart=>exact⟨0,m,rfl,Zq _,U HH,U z,U F,xu.aB HB,HB.m hB⟩
 case round=>
  obtain⟨k,mk,rfl,hk,D,l,a,r,f⟩:=hrel;clear HH z F c0;by_cases f0:k<g.length
  ·obtain⟨p,R⟩:∃p,g[k]? = O p:=⟨_,Za f0⟩;have T:=U b0 p (Zd R);obtain⟨s,rfl⟩:∃s:Nat,p=s:=⟨p.toNat,zo⟩;have n:=HA.to f;have l0:=n.u k s R;have m0:q<wr.heap.size:=by have:=n.low.2;have:=D.size;omega
   have h0:(k:Int)<g.length:=zo;have W:s<33:=zo;have y:(doS mk s arg).C.length<=2000:=by have:=Jm mk s arg;have:=l.C;have:=l.lims;omega
   have o:=V (Jn B b L vl mk st wr w0 (HW.trans f) D l s arg W G g0 (U HE s W) y);have j:g.drop k=(s:Int)::g.drop (k+1):=by obtain⟨d0,e⟩:=Zb.1 R;rw[drop_eq_getElem_cons d0,e]
   rw[j,py]at a;by_cases E:zJ mk s=0
   ·rw[if_pos E]at a;rw[if_pos E,E]at o;have d:=V a;have z:=V (iK mk l s arg zo G E);have u:=V r;have t:=V f;clear R T n y j E a D l r f;go_wp2_with fail;refine o.m ?_;rintro e w1 ⟨rfl,M,N,P⟩;have H1:=V M;have H2:=V N;have H3:=V P;clear M N P o;go_wp2;go_roundw;case rel=>exact⟨k+1,_,by go_num,zo,U H1,U z,U d,u.trans H2,t.trans H3⟩
    case measure=>exact zv
   ·rw[if_neg E]at a;rw[if_neg E]at o;have d:=V a;have u:=V r;have t:=V f;have n0:(zJ mk s==0)=Z:=by simpa using E
    clear R T n y j a D l r f E;generalize zJ mk s=er at *;go_wp2_with fail;refine o.m ?_;rintro e w1 ⟨rfl,M,N,P⟩;have H1:=V M;have H2:=V N;have H3:=V P;clear M N P o;go_wp2;go_ret;have K:=U d;simp only[Prod.mk.injEq]at K;obtain⟨rfl,rfl⟩:=K;exact⟨rfl,U H1,u.trans H2,t.trans H3⟩
  ·have e0:k=g.length:=zo;subst e0;rw[drop_length]at a;have HM:=V D;have u:=V r;have t:=V f;have d:=V a;clear D l a r f;go_wp2;go_ret;have K:=U d;unfold zW at K;simp only[Prod.mk.injEq]at K;obtain⟨rfl,rfl⟩:=K;exact⟨rfl,U HM,U u,U t⟩
structure sC(B:Nat)(w:YW)(tb:Nat):Prop where
 low:tb<B
 K:∀b op,op<33->AW B w b tb op
 supers:∀op,40<=op->op<60->∃pb q c,ev w tb (op*5) 0 0 0 0 (.func (.func 123) #[] #[A (O ⟨pb,0,X⟩)])/\mX B w pb q c (yj op)
theorem gB(op:Nat)(h:40<=op)(b:op<60):ya op=yj op/\(yj op).length<=3/\∀x∈yj op,0<=x/\x<=32:=by have:∀k:Fin 20,ya ((k.val+40:Nat):Int)=yj ((k.val+40:Nat):Int)/\(yj ((k.val+40:Nat):Int)).length<=3:=zd;have a:=this ⟨op-40,zo⟩;have e:op-40+40=op:=zo;simp only[e]at a;refine⟨a.1,a.2,?_⟩;rw[<-a.1];exact dE op
theorem TB(B b k:Nat)(o:Value)(m:MS)(st:Int)(w r:YW)(p:Below B r w)(g:sC B r k)(h:PmE B w b k o m st)(j:MOk m)(op:Nat)(arg:Int)(d:op<33\/40<=op/\op<60)(a:inI arg):Calls prog 124 #[A (O ⟨b,0,X⟩),Ag #[I J op,I J arg]] w (ye B w b k o st (zW arg (ya op) m).1 (zW arg (ya op) m).2):=by
 have H:=j.C;have G:=j.G;have F:=j.lims;have K:=h.size;rcases d with d|⟨l,f⟩;rw[tz op zo,py];have:=Jn B b k o m st w r p h j op arg d a g.low (g.K b op d) (by have:=Jm m op arg;omega);by_cases i:zJ m op=0;rw[if_pos i,i]at this;rw[if_pos i];exact this;rw[if_neg i]at this;rw[if_neg i];exact this;obtain⟨z,D,v⟩:=gB op l f;obtain⟨y,q,c,s,u⟩:=g.supers op l f;rw[z];have t:=fg arg a (yj op) m j v
 have:=CB B b k o m st w h op arg f g.low 0 0 0 123 #[A (O ⟨y,0,X⟩)] m.C [] (s.z p g.low) zo zo
   (by unfold du;simp only[length_nil,Int.ofNat_zero];rw[if_neg zo,if_neg zo,if_neg zo,if_neg zo]) zs zs func123 zr zr (zW arg (yj op) m).1 (zW arg (yj op) m).2 t.short
   (fun W E x=>Hd B b k o m st W r (p.trans x) E j arg 0 0 0 a y q c (yj op) (u.to (p.trans x)) D v g.low (g.K b))
 refine this.m ?_;intro e w' n;unfold pF at n;split at n;rename_i i;rw[i];exact n;rw[append_nil]at n;exact n
theorem Np{k:Prop} [Decidable k]{a b d e:MS}{c:YI}(f:a={d with aC:=c})(g:b={e with aC:=c}):(if k then a else b)={(if k then d else e)with aC:=c}:=by split<;>assumption
theorem MJ(m:MS)(c:YI)(op arg:Int)(a:op≠3)(b:op≠4):doS {m with aC:=c} op arg={doS m op arg with aC:=c}:=by unfold doS;simp only[if_neg a,if_neg b];repeat' (first|refine Np ?_ ?_|rfl)
theorem Qs{k:Prop} [Decidable k]{p:MS->Prop}{a b:MS}(c:p a)(d:p b):p (if k then a else b):=by split<;>assumption
theorem rE(op:Int)(h:op=1\/op=3\/op=4):ya op=[op]:=by rcases h with rfl|rfl|rfl<;>decide
theorem FN(m:MS):zJ m 1=0:=by unfold zJ;simp[zY,yt,show ¬((m.C.length:Int)<0)from zo,show ¬((m.G.length:Int)<0)from zo]
theorem BH(m:MS):zJ m 4=if m.aC.length=0 then 11 else 0:=by unfold zJ;simp[zY,yt,show ¬((m.C.length:Int)<0)from zo,show ¬((m.G.length:Int)<0)from zo]
theorem CN{l:YL}{m:MS}{a:Int}(h:l[m.pc.toNat]? = O (1,a)):yb l m=({m with pc:=a},0):=by unfold yb;rw[h];simp only;rw[rE 1 (Zg rfl)];unfold zW;rw[FN,if_pos rfl];rfl
theorem fX{l:YL}{m:MS}{a:Int}(h:l[m.pc.toNat]? = O (4,a)):yb l m=if m.aC.length=0 then({m with pc:=m.pc+1},11)else({m with aC:=m.aC.dropLast,pc:=zK m.aC},0):=by unfold yb;rw[h];simp only;rw[rE 4 (Zf (Zf rfl))];unfold zW;rw[BH];by_cases b:m.aC.length=0;simp only[if_pos b];rw[if_neg zo];simp only[if_neg b];rfl
end Go.Proofs.YtmeiikjpaepogaaGreatDoor
