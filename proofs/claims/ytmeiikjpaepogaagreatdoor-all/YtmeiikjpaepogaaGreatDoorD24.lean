/- Own. -/
import Derived.Test.YtmeiikjpaepogaaGreatDoorD23
import Derived.Test.YtmeiikjpaepogaaGreatDoorD21
open Option renaming some->O,none->X
open Bool renaming true->Y,false->Z
open Go.Value renaming int->I,slice->S,pointer->A,bool->Bl,string->Sr,tuple->Tu,agg->Ag
open Go.Obj renaming cells->C
open Go.Ending renaming returned->Rt
open Go.IntKind renaming i64->J
set_option maxRecDepth 100000
set_option maxHeartbeats 8000000
namespace Go.Proofs.YtmeiikjpaepogaaGreatDoor
open Go Go.RowKit Go.Proofs.Tryz List
section
variable {B:Nat} {w w' w1:YW} {x:CX} {st:RS} {hx:Nat} {s0:Int} {vd vm vo:Value} {fs fw fo:List Value}
theorem Cr.setC(h:Cr B w x st hx s0 vd vm vo fs)(c:Int):Cr B (w.setCell ⟨x.b,7,X⟩ (I J c)) x {st with cells:=c} hx s0 vd vm vo fs/\zI w (w.setCell ⟨x.b,7,X⟩ (I J c))/\Below B w (w.setCell ⟨x.b,7,X⟩ (I J c)):=by refine⟨⟨?_,h.rdr.far h.ne.1 _,h.dp.far h.ne.2.1 _,h.mn.far h.ne.2.2.1 _,h.dm,h.K,h.aD.set zs 7 _,h.N.to (Below.heap_setCell _ _ _ _ h.ne.2.2.2),h.R⟩,?_,(Ze B w).setCell h.K.1 _⟩;have:=h.D.set 7 (I J c);unfold jQ at this;simp only[Zt,set_cons_succ,set_cons_zero]at this;exact this;refine fun k cs T a d=>a.far ?_ _;intro e;simp at e;subst e;have:=Cr.bl h.D a;subst this;rcases d with e|e|e<;>exact absurd e zd
theorem Cr.bare(h:Cr B w x st x.m s0 vd vm vo [])(c:st.P<0)(a:st.Q=[]):CpE B w x st:=by
 have e:yI x st=x.m:=by unfold yI;exact if_neg zo
 refine⟨s0,vd,vm,vo,[],[],Cr.cp (fw:=[]) (fo:=[]) ?_ (fun h=>zo) ⟨fun h=>zo,fun _=>rfl,by rw[a];rfl,fun i f o b _=>by simp at b⟩⟩;rw[e];exact h
theorem CpE.bare(h:CpE B w x st)(l:st.P<0)(d:st.Q=[]):∃g i j a b,Cr B w x st x.m g i j (S a 0 b) []:=by
 obtain⟨g,i,j,n,fw,fo,h⟩:=h;obtain rfl:=h.things.none l;have c:fo=[]:=by have:=h.things.len;rw[d]at this;simpa using this
 subst c;obtain⟨a,b,f⟩:=zu h.oo;subst f;have e:yI x st=x.m:=by unfold yI;exact if_neg zo
 have k:=h.raw;rw[e]at k;exact⟨g,i,j,a,b,k⟩
end
theorem Dh(B:Nat)(x:CX)(st:RS)(w:YW)(h:CpE B w x st)(m:Nat)(H:Inv st m)(hm:m<3000)(W:st.P<0)(v:st.Q=[])(h0:st.err=0)(hB:6<=B)(hV:jt w)(hE:qR w)(o:jX (zF st)=Z)(a:(zF st).N.find? (fun x=>x.1==(zF st).E)=X):Calls prog 147 #[A (O ⟨x.b,0,X⟩),I J 2] w (xQ B w x (db (zF st) (zF st).E)):=by
 have HN:=V (cG B x st w h H.next);have g:(zF st).E.size<=2000:=by have:=qY st;have:=H.size;omega
 have t:=lB (zF st);rw[o]at t;have b0:0<=(zF st).cells/\(zF st).cells<=3000:=by have:=H.lens;unfold lens at this;show 0<=st.cells/\st.cells<=3000;omega
 have i:(zF st).N.length<4000:=by have:=H.lens;unfold lens at this;show st.N.length<4000;omega
 have HM:Hid (∀j,CpE B j x (zF st)->Below B w j->Calls prog 193 #[A (O ⟨x.b,0,X⟩),Sr (zF st).E] j (fun e w'=>e=Rt (Bl Y)/\Below j.heap.size j w')):=by intro j k hb;have:=dI B x (zF st) j k (zF st).E g (hV.low hB hb) (hE.low hB hb);rw[t]at this;exact this
 have K:(zF st).P<0:=W;have q:(zF st).Q=[]:=v;obtain⟨s0,vd,vm,Q,R,hr⟩:=h.bare W v;have hc:=hr.D.u;unfold jQ at hc;have E:(zF st).err=0:=h0;have P:=V E;have L:=V (And.intro K q);have D:=V (And.intro a (And.intro g i));clear h hr o t h0 E hV hE K q W v H a g i;generalize hu:zF st=u at *;clear hu;go_enter func147,ntmps147;go_wp2_with fail;refine HN.m ?_;rintro e j ⟨rfl,k,d⟩;have z:=V (U HM j k d);have H1:=V (And.intro k d);clear k d HM HN hc;go_wp2_with fail;refine z.m ?_;rintro e y ⟨rfl,s⟩;clear z;obtain⟨k,d⟩:=U H1;have h2:=k.z s;have p:Below B w y:=d.trans (yf s k.size);obtain⟨s0,vd,vm,Q,R,n⟩:=h2.bare L.1 L.2;obtain⟨a,g,i⟩:=U D;have r:=V (RN B x u y x.m s0 vd vm (S Q 0 R) [] n u.E 0 u.cells g i a);have F:=n.D.u;unfold jQ at F;have g0:=n.D.lt;have e0:x.b<y.heap.size+1:=zo;have f0:x.b<=y.heap.size:=zo;have H2:=V p;clear p h2 k d s n a g i H1 D;generalize G:u.cells=c at *;have N:=V G;clear G;have d0:IntKind.i64.wrap (c+1)=c+1:=zw;go_wp2;go_cut []from 8 to 62 (fun wd=>Cr B wd x {u with N:=u.N++[(u.E,0,c)],cells:=c} x.m s0 vd vm (S Q 0 R) []/\zI y wd/\Below B y wd)
 case first=>obtain⟨w3,a0,h3⟩:=U r (y.alloc (C #[I J 0,I J c] 65)).drew zb;have M:=V h3;clear h3 r;go_region_law (refine zN rfl 77 #[.const (I J 0),.tmp 36] #[3,2] rfl func77 da cX #[I J 0,I J c] ze (bg 0 c _) ?_;rintro e j ⟨rfl,rfl⟩;refine⟨_,rfl,?_⟩);all_goals go_wp2;go_meet;exact U M
 case rest=>
  obtain⟨f,_,l⟩:=hcut;have T:=f.D.u;have c0:=f.D.H;unfold jQ at T;have M:=V (And.intro f l);clear f l F r;go_wp2;go_ret;obtain⟨f,l⟩:=U M;obtain⟨k1,_,k3⟩:=f.setC (c+1);have e:db u u.E={u with N:=u.N++[(u.E,0,c)],cells:=c+1}:=by unfold db;rw[U N]
  rw[e];exact xQ.ok P (k1.bare L.1 L.2) (H2.trans (l.trans k3))
theorem En{u:RS}(h:(qe (zF u).E).isSome=Y)(t:YB):kx u t={zF u with N:=(zF u).N++[(t,0,qS (zF u).E)]}:=by unfold kx xt;rw[if_pos h]
theorem GW{u:RS}(h:(qe (zF u).E).isSome=Z)(b:u.err=0)(t:YB):(kx u t).err=3/\(kx u t).place=((zF u).place0:Int):=by have a:(zF u).err=0:=b;unfold kx xt yp;rw[if_neg (by rw[h];simp),if_pos a];exact⟨rfl,rfl⟩
theorem Dg(B:Nat)(x:CX)(st:RS)(w:YW)(h:CpE B w x st)(m:Nat)(D:Inv st m)(hm:m<3000)(hs:st.P<0)(z:st.Q=[])(h0:st.err=0)(hB:6<=B)(hV:jt w)(hE:qR w)(l:jX (zF st)=Z)(c:(zF st).N.find? (fun x=>x.1==(zF st).E)=X):Calls prog 147 #[A (O ⟨x.b,0,X⟩),I J 3] w (xQ B w x (kx (zF st) (zF st).E)):=by
 have HN:=V (cG B x st w h D.next);have f:(zF st).E.size<=2000:=by have:=qY st;have:=D.size;omega
 have o:(zF (zF st)).E.size<=2000:=by have:=qY (zF st);have:=(qL D).1.size;omega
 have y:=lB (zF st);rw[l]at y;have i:(zF st).N.length<4000:=by have:=D.lens;unfold lens at this;show st.N.length<4000;omega
 have P:(zF st).next<=(zF st).s.size:=(qL D).1.next;have HM:Hid (∀a,CpE B a x (zF st)->Below B w a->Calls prog 193 #[A (O ⟨x.b,0,X⟩),Sr (zF st).E] a (fun e w'=>e=Rt (Bl Y)/\Below a.heap.size a w')):=by intro a p hb;have:=dI B x (zF st) a p (zF st).E f (hV.low hB hb) (hE.low hB hb);rw[y]at this;exact this
 have G:Hid (∀a,CpE B a x (zF st)->Calls prog 48 #[A (O ⟨x.b,0,X⟩)] a fun e w'=>e=Rt (Sr (zF (zF st)).E)/\CpE B w' x (zF (zF st))/\Below B a w'):=fun a p=>cG B x (zF st) a p P;have k:Hid (∀a,Below B w a->Calls prog 76 #[Sr (zF (zF st)).E] a fun e w'=>e=Rt (Tu #[I J (qS (zF (zF st)).E),Bl (qe (zF (zF st)).E).isSome])/\Below a.heap.size a w'):=fun a hb=>bO _ a o (hE.low hB hb);have Q:(zF st).P<0:=hs;have n:(zF st).Q=[]:=z;obtain⟨s0,vd,vm,ao,co,hr⟩:=h.bare hs z;have hc:=hr.D.u;unfold jQ at hc;have M:(zF st).err=0:=h0;have E:=V M;have HS:=V (And.intro Q n);have K:=V (And.intro c (And.intro f i));clear h hr l y h0 M hV hE Q n hs z D c f i P o;generalize hu:zF st=u at *;clear hu;go_enter func147,ntmps147;go_wp2_with fail;refine HN.m ?_;rintro e a ⟨rfl,p,q⟩;have F:=V (U HM a p q);have T:=V (And.intro p q);clear p q HM HN hc;go_wp2_with fail;refine F.m ?_;rintro e w2 ⟨rfl,r⟩;have H:=V (U G w2 (T.1.z r));have H2:=V (T.2.trans (yf r T.1.size));clear F T r G;go_wp2_with fail;refine H.m ?_;rintro e w3 ⟨rfl,h3,t⟩;have g:=V (U k w3 (H2.trans t));have W:=V (And.intro h3 (H2.trans t));clear H h3 t H2 k;go_wp2_with fail;refine g.m ?_;rintro e R ⟨rfl,v⟩;have h4:=W.1.z v;have d:Below B w R:=W.2.trans (yf v W.1.size);clear g W v;cases hnum:(qe (zF u).E).isSome
 ·have HA:=V (And.intro h4.atIs d);have a0:=V (GW hnum E u.E);clear h4 d hnum;generalize qS (zF u).E=nv at *;go_wp2;go_ret;obtain⟨e1,e2⟩:=U a0;exact⟨by rw[e1];rfl,fun e=>by rw[e1]at e;exact absurd e zd,fun _=>⟨_,e2,HA.1⟩,HA.2⟩
 ·obtain⟨s0,vd,vm,ao,co,j⟩:=h4.bare HS.1 HS.2;obtain⟨c,f,i⟩:=U K;have L:=V (RN B x (zF u) R x.m s0 vd vm (S ao 0 co) [] j u.E 0 (qS (zF u).E) f i c);have c0:=j.D.u;unfold jQ at c0;have j0:=j.D.lt;have g0:x.b<R.heap.size+1:=zo;have i0:x.b<=R.heap.size:=zo;have HY:=V (En hnum u.E);have H4:=V d;clear d h4 j c f i K hnum;generalize N:qS (zF u).E=nv at *;have f0:=V N;clear N;go_wp2_with fail;obtain⟨w5,e0,h5⟩:=U L (R.alloc (C #[I J 0,I J nv] 65)).drew zb;have H5:=V h5;clear h5 L;go_region_law (refine zN rfl 77 #[.const (I J 0),.tmp 60] #[3,2] rfl func77 da cX #[I J 0,I J nv] ze (bg 0 nv _) ?_;rintro e a ⟨rfl,rfl⟩;refine⟨_,rfl,?_⟩);all_goals go_wp2;go_ret;obtain⟨d0,_,b0⟩:=U H5;rw[U HY];exact xQ.ok E (d0.bare HS.1 HS.2) (H4.trans b0)
theorem TK(B:Nat)(x:CX)(st:RS)(w:YW)(h:CpE B w x st)(t:YB)(o:Int)(j:zM st<4000)(n:st.err=0):Calls prog 75 #[A (O ⟨x.b,0,X⟩),Ag #[Sr t,I J 0,I J o]] w (xQ B w x (zQ st o 0)):=by have g:Below w.heap.size w (w.alloc (C #[Sr t,I J 0,I J o] 146)):=zb;have d:Blk (w.alloc (C #[Sr t,I J 0,I J o] 146)) w.heap.size #[Sr t,I J 0,I J o] 146:=Blk.new _ _ _;have u:=h.size;obtain⟨fw,fo,m⟩:=(h.z g).f;obtain⟨T,W,a⟩:=m.D;have v:=a.u;unfold xH at v;have z:=d.u;have E:=d.lt;have M:=a.lt;have i:=V (gZ B x st _ fw fo m o 0 j);have k:=V g;have l:=V (show(zQ st o 0).err=0 by unfold zQ;split<;>exact n);clear h g d a m n;generalize yI x st=F at *;go_enter func75,ntmps75;go_wp2_with fail;generalize w.alloc (C #[Sr t,I J 0,I J o] 146)=c at *;have G:x.b<c.heap.size+1:=zo;have H:x.b<=c.heap.size:=zo;have K:x.b<=c.heap.size+1:=zo;have L:x.b<c.heap.size+1+1:=zo;have y:w.heap.size<c.heap.size+1:=zo;have d:w.heap.size<=c.heap.size:=zo;have q:w.heap.size<=c.heap.size+1:=zo;have D:w.heap.size<c.heap.size+1+1:=zo;go_region_law (first | (refine zN rfl 51 #[.tmp 18] #[3] rfl func51 eg dZ #[I J o] ze (bC o _) ?_;rintro e Q ⟨rfl,rfl⟩;refine⟨_,rfl,?_⟩) | (refine zN rfl 50 #[.tmp 16,.tmp 20] #[96,33] rfl func50 xS xR #[A (O ⟨F,0,X⟩),S (O ⟨c.heap.size+1,0,X⟩) 1 1] ze (U i _ (c.heap.size+1) zb zk) ?_;rintro e Q ⟨rfl,s,p⟩;refine⟨_,rfl,?_⟩;have r:=V p;clear p s));all_goals go_wp2;go_ret;obtain⟨N,_,R,P⟩:=U r;exact xQ.ok l N.e ((yf k u).trans P)
theorem Nb(B:Nat)(x:CX)(w:YW)(k:B<=w.heap.size)(t:YB)(o:Int)(r:RS)(a:∀W:YW,Below w.heap.size w W->Calls prog 142 #[A (O ⟨x.b,0,X⟩)] W (xQ B W x r)):Calls prog 75 #[A (O ⟨x.b,0,X⟩),Ag #[Sr t,I J 4,I J o]] w (xQ B w x r):=by have c:Below w.heap.size w (w.alloc (C #[Sr t,I J 4,I J o] 146)):=zb;have f:=V (a _ c);have j:=V (yf c k);clear a c;go_enter func75,ntmps75;go_wp2_with fail;refine f.m ?_;rintro e l ⟨rfl,g,h,i⟩;have d:=V (And.intro g (And.intro h i));clear g h i f;go_wp2;go_ret;exact⟨rfl,d.1,d.2.1,j.trans d.2.2⟩
theorem Hr(B:Nat)(x:CX)(st:RS)(w:YW)(h:CpE B w x st)(t:YB)(o:Int)(a:zM st<4000)(f:st.err=0):Calls prog 75 #[A (O ⟨x.b,0,X⟩),Ag #[Sr t,I J 4,I J o]] w (xQ B w x (if 0<=st.P then zQ st 3 st.P else yp st 2)):=by refine Nb B x w h.size t o _ (fun W i=>?_);have g:=h.z i;by_cases c:0<=st.P;rw[if_pos c];refine(Of B x st _ g c a).m ?_;rintro e w' ⟨rfl,k,_,d⟩;exact xQ.ok (by unfold zQ;split<;>exact f) k d;rw[if_neg c];refine(Rc B x st _ g zo).m ?_;rintro e w' ⟨rfl,j,d⟩;exact xQ.fail f zd j.atIs d
theorem TJ(B:Nat)(x:CX)(st:RS)(w:YW)(h:CpE B w x st)(t:YB)(o:Int)(c:zM st<4000)(f:st.Q.length<3980)(j:st.err=0):Calls prog 75 #[A (O ⟨x.b,0,X⟩),Ag #[Sr t,I J 5,I J o]] w (xQ B w x (xn (zQ st 2 0) (⟨#[105,102]⟩,0,zM st))):=by have a:Below w.heap.size w (w.alloc (C #[Sr t,I J 5,I J o] 146)):=zb;have i:=V (Lh B x st _ (h.z a) c f);have m:=V (yf a h.size);have d:=V (show(xn (zQ st 2 0) (⟨#[105,102]⟩,0,zM st)).err=0 by unfold xn zQ;split<;>exact j);clear h a j;go_enter func75,ntmps75;go_wp2_with fail;refine i.m ?_;rintro e n ⟨rfl,k,_,l⟩;have g:=V (And.intro k l);clear k l i;go_wp2;go_ret;exact xQ.ok d g.1 (m.trans g.2)
theorem Na(B:Nat)(x:CX)(st:RS)(w:YW)(h:CpE B w x st)(t:YB)(o:Int)(d:st.Q.length<3980)(i:st.err=0):Calls prog 75 #[A (O ⟨x.b,0,X⟩),Ag #[Sr t,I J 6,I J o]] w (xQ B w x (xn st (⟨#[98,101,103,105,110]⟩,zM st,0))):=by have a:Below w.heap.size w (w.alloc (C #[Sr t,I J 6,I J o] 146)):=zb;have g:=V (DF B x st _ (h.z a) d);have l:=V (yf a h.size);have c:=V (show(xn st (⟨#[98,101,103,105,110]⟩,zM st,0)).err=0 from i);clear h a i;go_enter func75,ntmps75;go_wp2_with fail;refine g.m ?_;rintro e m ⟨rfl,j,_,k⟩;have f:=V (And.intro j k);clear j k g;go_wp2;go_ret;exact xQ.ok c f.1 (l.trans f.2)
theorem TI(B:Nat)(x:CX)(st:RS)(w:YW)(h:CpE B w x st)(t:YB)(o:Int)(c:zM st<4000)(f:st.Q.length<3980)(j:st.err=0):Calls prog 75 #[A (O ⟨x.b,0,X⟩),Ag #[Sr t,I J 7,I J o]] w (xQ B w x (xn (zQ st 6 0) (⟨#[100,111]⟩,(zM st:Int)+1,0))):=by have a:Below w.heap.size w (w.alloc (C #[Sr t,I J 7,I J o] 146)):=zb;have i:=V (Lg B x st _ (h.z a) c f);have m:=V (yf a h.size);have d:=V (show(xn (zQ st 6 0) (⟨#[100,111]⟩,(zM st:Int)+1,0)).err=0 by unfold xn zQ;split<;>exact j);clear h a j;go_enter func75,ntmps75;go_wp2_with fail;refine i.m ?_;rintro e n ⟨rfl,k,_,l⟩;have g:=V (And.intro k l);clear k l i;go_wp2;go_ret;exact xQ.ok d g.1 (m.trans g.2)
theorem Kz(B:Nat)(x:CX)(w:YW)(k:B<=w.heap.size)(t:YB)(o:Int)(r:RS)(a:∀W:YW,Below w.heap.size w W->Calls prog 146 #[A (O ⟨x.b,0,X⟩),Sr t] W (xQ B W x r)):Calls prog 75 #[A (O ⟨x.b,0,X⟩),Ag #[Sr t,I J 8,I J o]] w (xQ B w x r):=by have c:Below w.heap.size w (w.alloc (C #[Sr t,I J 8,I J o] 146)):=zb;have f:=V (a _ c);have j:=V (yf c k);clear a c;go_enter func75,ntmps75;go_wp2_with fail;refine f.m ?_;rintro e l ⟨rfl,g,h,i⟩;have d:=V (And.intro g (And.intro h i));clear g h i f;go_wp2;go_ret;exact⟨rfl,d.1,d.2.1,j.trans d.2.2⟩
theorem nV(B:Nat)(x:CX)(w:YW)(l:B<=w.heap.size)(t:YB)(k o:Int)(m:k=1\/k=2\/k=3)(r:RS)(a:∀W:YW,Below w.heap.size w W->Calls prog 147 #[A (O ⟨x.b,0,X⟩),I J k] W (xQ B W x r)):Calls prog 75 #[A (O ⟨x.b,0,X⟩),Ag #[Sr t,I J k,I J o]] w (xQ B w x r):=by have c:Below w.heap.size w (w.alloc (C #[Sr t,I J k,I J o] 146)):=zb;have f:=V (a _ c);have j:=V (yf c l);clear a c;rcases m with rfl|rfl|rfl;all_goals go_enter func75,ntmps75;go_wp2_with fail;refine f.m ?_;rintro e n ⟨rfl,g,h,i⟩;have d:=V (And.intro g (And.intro h i));clear g h i f;go_wp2;go_ret;exact⟨rfl,d.1,d.2.1,j.trans d.2.2⟩
theorem eP(s:YB)(l:List UInt8):(s.toList==l)=(s.data.toList==l):=by rw[Zv]
theorem PS{st:RS}(b:st.err=0)(a:¬(zP st).err=0):jX (zF st)=Y/\zP st=yp (zF st) 3:=by cases e:jX (zF st);unfold zP at a;rw[e]at a;exact absurd (show(zF st).err=0 from b) (by simpa using a);exact⟨rfl,by unfold zP;rw[e];rfl⟩
theorem mE(B:Nat)(x:CX)(st:RS)(w:YW)(h:CpE B w x st)(m:Nat)(j:Inv st m)(t:m<3000)(g:st.err=0)(l:6<=B)(o:jt w)(n:qR w)(k:Int)(s:k=1/\st.E.data.toList=[58]\/k=2/\st.E.data.toList=[118,97,114,105,97,98,108,101]\/k=3/\st.E.data.toList=[99,111,110,115,116,97,110,116]):Calls prog 147 #[A (O ⟨x.b,0,X⟩),I J k] w (xQ B w x (qt st)):=by
 unfold qt;rw[eP,eP,eP];have q:(st.E.data.toList==[59])=Z:=by rcases s with⟨_,e⟩|⟨_,e⟩|⟨_,e⟩<;>rw[e]<;>decide
 rw[q];simp only[Bool.false_eq_true,if_false];by_cases c:0<=st.P\/st.Q≠[];rw[if_pos c];exact Mn B x st w h k c g;rw[if_neg c];have f:st.P<0:=zo;have d:st.Q=[]:=by rcases Classical.em (st.Q=[])with e|e;exact e;exact absurd (Zf e) c
 by_cases a:(zP st).err=0;rw[if_neg (by simpa using a)];obtain⟨i,p,u,r,v⟩:=Ch j a;rw[p];rcases s with⟨rfl,e⟩|⟨rfl,e⟩|⟨rfl,e⟩;rw[e,if_pos zd];exact JW B x st w h m j f d g l o n i;rw[e,if_neg zd,if_pos zd];exact Dh B x st w h m j t f d g l o n i r;rw[e,if_neg zd,if_neg zd];exact Dg B x st w h m j t f d g l o n i r;rw[if_pos (by simpa using a)];obtain⟨i,p⟩:=PS g a;rw[p];exact PY B x st w h m j k f d g l o n i
theorem CpE.kinds{B:Nat}{w:YW}{x:CX}{st:RS}(h:CpE B w x st):∀o∈st.Q,o.1=⟨#[105,102]⟩\/o.1=⟨#[101,108,115,101]⟩\/o.1=⟨#[98,101,103,105,110]⟩\/o.1=⟨#[119,104,105,108,101]⟩\/o.1=⟨#[100,111]⟩:=by obtain⟨_,_,_,_,fw,fo,h⟩:=h;intro o g;obtain⟨i,a⟩:=getElem?_of_mem g;have d:=(Zb.1 a).1;obtain⟨f,c⟩:∃f,fo[i]? = O f:=⟨_,Za (by rw[h.things.len];exact d)⟩;obtain⟨j,_,b⟩:=h.things.each i f o c a;rcases b with⟨e,_⟩|⟨e,_⟩|⟨e,_⟩|⟨e,_⟩|⟨e,_⟩;exact Zg e;exact Zf (Zg e);exact Zf (Zf (Zg e));exact Zf (Zf (Zf (Zg e)));exact Zf (Zf (Zf (Zf e)))
theorem IP(st:RS)(l:List (ByteArray×Int×Int))(o:ByteArray×Int×Int)(b:o.1=⟨#[105,102]⟩\/o.1=⟨#[101,108,115,101]⟩\/o.1=⟨#[98,101,103,105,110]⟩\/o.1=⟨#[119,104,105,108,101]⟩\/o.1=⟨#[100,111]⟩):vM st l o=(kD {st with Q:=l} o st.E).getD (yp st 4):=by obtain⟨t,a,n⟩:=o;unfold vM kD dP bz wS wT dO;simp only[eP];generalize st.E.data.toList=c;simp only at b;by_cases d:c=[101,108,115,101];subst d;rcases b with rfl|rfl|rfl|rfl|rfl<;>rfl;by_cases e:c=[116,104,101,110];subst e;rcases b with rfl|rfl|rfl|rfl|rfl<;>rfl;by_cases f:c=[117,110,116,105,108];subst f;rcases b with rfl|rfl|rfl|rfl|rfl<;>rfl;by_cases g:c=[119,104,105,108,101];subst g;rcases b with rfl|rfl|rfl|rfl|rfl<;>rfl;by_cases h:c=[114,101,112,101,97,116];subst h;rcases b with rfl|rfl|rfl|rfl|rfl<;>rfl;by_cases i:c=[108,111,111,112];subst i;rcases b with rfl|rfl|rfl|rfl|rfl<;>rfl;have j:=beq_false_of_ne d;have k:=beq_false_of_ne e;have m:=beq_false_of_ne f;have p:=beq_false_of_ne g;have q:=beq_false_of_ne h;have r:=beq_false_of_ne i;simp only[j,k,m,p,q,r,Bool.false_eq_true,false_and,if_false];split;rfl;split;rfl;split;rfl;split<;>rfl
theorem OO{st:RS}{o:ByteArray×Int×Int}{e:YB}{r:RS}(h:kD st o e=O r):r.err=st.err:=by
 have c:∀(u:RS)(a b:Int),(zQ u a b).err=u.err:=fun u a b=>by unfold zQ;split<;>rfl
 have d:∀(u:RS)(n:Nat),(yN u n).err=u.err:=fun u n=>by unfold yN;split<;>rfl
 unfold kD dP bz wS wT dO at h;repeat' split at h
 all_goals first | (simp at h;done) | (obtain rfl:=Zl h;first|(rw[d,c];done)|(rw[d];done)|(rw[c];done)|(show(yN _ _).err=_;rw[d,c];done)|(show(zQ _ _ _).err=_;rw[c];done))
theorem AV.took{B:Nat}{w:YW}{x:CX}{st R:RS}{r:Option RS}(c:st.err=0)(g:R=r.getD (yp st 4))(he:∀s,r=O s->s.err=0){e:Ending}{w':YW}(h:AV B w x st.place0 r e w'):xQ B w x R e w':=by
 obtain⟨a,d,f,_,b⟩:=h;subst g;cases r with
 |none=>subst a;exact xQ.fail c zd (f rfl) b
 |some s=>subst a;exact xQ.ok (he s rfl) (d s rfl) b
theorem nP{st:RS}(a:xr st.E.toList=Z)(b:xM st.E=Y)(c:(st.E.toList==[105,102])=Z)(d:(st.E.toList==[98,101,103,105,110])=Z)(e:(st.E.toList==[100,111])=Z):yd st=match st.Q.getLast? with|none=>yp st 4|some x=>vM st st.Q.dropLast x:=by unfold yd qx;simp only[a,b,c,d,e,Bool.false_eq_true,if_false,if_true];rfl
theorem LD(st:RS)(o:ByteArray×Int×Int)(a:YB)(b:a.data.toList=[59]):kD st o a=X:=by unfold kD dP bz wS wT dO;simp only[eP,b];split;rfl;split;rfl;split;rfl;split<;>rfl
theorem JV(B:Nat)(x:CX)(st:RS)(w:YW)(h:CpE B w x st)(m:Nat)(y:Inv st m)(L:m<3000)(G:jq st)(j:st.err=0)(v:st.E.data.toList=[59]\/(xr st.E.toList=Z/\xM st.E=Y/\(st.E.toList==[105,102])=Z/\(st.E.toList==[98,101,103,105,110])=Z/\(st.E.toList==[100,111])=Z)):Calls prog 146 #[A (O ⟨x.b,0,X⟩),Sr st.E] w (xQ B w x (yd st)):=by
 have F:=y.lens;unfold lens at F;have p:zM st<4000:=by unfold zM;split<;>omega
 rcases Zz st.Q with a|⟨l,o,a⟩
 ·
   by_cases z:0<=st.P
   · obtain⟨M,H,K⟩:=G.word z
     refine(Bi B x st w h z a st.E zo zo H K).m (fun e w' k=>?_)
     refine k.took j ?_ ?_
     · rcases v with d|⟨f,q,r,t,u⟩
       · have c:(st.E.toList==[59])=Y:=by rw[eP,d];rfl
         have i:xr st.E.toList=Y:=by rw[Zv,d];rfl
         unfold yd qt
         rw[i,c]
         simp only[if_true]
         rw[if_neg (by rintro(e|e);omega;exact e a)]
         rfl
       · have c:(st.E.toList==[59])=Z:=by
           cases e:(st.E.toList==[59])
           · rfl
           · unfold xr at f;rw[e]at f;simp at f
         rw[nP f q r t u,c,a]
         rfl
     · intro s g
       split at g
       · obtain rfl:=Zl g
         unfold vW zQ
         split<;>exact j
       · simp at g
   · refine(uP B x st w h zo a st.E).m (fun e w' k=>?_)
     refine k.took j ?_ (fun s e=>by simp at e)
     rcases v with d|⟨f,q,r,t,u⟩
     · have c:(st.E.toList==[59])=Y:=by rw[eP,d];rfl
       have i:xr st.E.toList=Y:=by rw[Zv,d];rfl
       unfold yd qt
       rw[i,c]
       simp only[if_true]
       rw[if_pos (Zg zo)]
       rfl
     · rw[nP f q r t u,a]
       rfl
 rw[concat_eq_append]at a;have n:o∈st.Q:=by rw[a];simp
 refine(uQ B x st w h l o a (y.Q o n) st.E p zo).m (fun e w' k=>?_);refine k.took j ?_ (fun s e=>by rw[OO e];exact j);rcases v with d|⟨f,q,r,t,u⟩;have c:(st.E.toList==[59])=Y:=by rw[eP,d];rfl
 have i:xr st.E.toList=Y:=by rw[Zv,d];rfl
 rw[LD _ _ _ d];unfold yd qt;rw[i,c];simp only[if_true];rw[if_pos (Zf (by rw[a];simp))];rfl;rw[nP f q r t u];have D:st.Q.getLast? = O o:=by rw[a];simp
 have E:st.Q.dropLast=l:=by rw[a];simp
 rw[D,E];exact IP st l o (h.kinds o n)
theorem GP(B:Nat)(x:CX)(st:RS)(w:YW)(h:CpE B w x st)(m:Nat)(E:Inv st m)(F:m<3000)(hn:jq st)(s:st.err=0)(L:6<=B)(N:jt w)(M:qR w)(y:ByteArray×Int×Int)(P:xV st.E=O y):Calls prog 75 #[A (O ⟨x.b,0,X⟩),Ag #[Sr y.1,I J y.2.1,I J y.2.2]] w (xQ B w x (yd st)):=by
 obtain⟨v,g⟩:=Qw P;have z:=E.lens;unfold lens at z;have p:zM st<4000:=by unfold zM;split<;>omega
 have u:=h.size;obtain⟨t,k,o⟩:=y;simp only at v;have j:st.E.data.toList=t.data.toList:=by rw[v]
 have i:st.E.toList=t.data.toList:=by rw[Zv,j]
 unfold Aj at g;simp only at g ⊢;by_cases Q:k=0;rw[SA P Q];subst Q;exact TK B x st w h t o p s;rw[if_neg Q]at g;have r:∀{l:List UInt8},t.data.toList=l->xr l=Y->yd st=qt st:=fun n e2=>by unfold yd;rw[i,n,e2];rfl
 by_cases G:k=1;rw[if_pos G]at g;have n:t.data.toList=[58]:=by simpa using g
 rw[r n rfl];exact nV B x w u t k o (Zg G) _ (fun W q=>mE B x st W (h.z q) m E F s L (N.z q) (M.z q) k (Zg ⟨G,by rw[j,n]⟩));rw[if_neg G]at g;by_cases H:k=2;rw[if_pos H]at g;have n:t.data.toList=[118,97,114,105,97,98,108,101]:=by simpa using g
 rw[r n rfl];exact nV B x w u t k o (Zf (Zg H)) _ (fun W q=>mE B x st W (h.z q) m E F s L (N.z q) (M.z q) k (Zf (Zg ⟨H,by rw[j,n]⟩)));rw[if_neg H]at g;by_cases K:k=3;rw[if_pos K]at g;have n:t.data.toList=[99,111,110,115,116,97,110,116]:=by simpa using g
 rw[r n rfl];exact nV B x w u t k o (Zf (Zf K)) _ (fun W q=>mE B x st W (h.z q) m E F s L (N.z q) (M.z q) k (Zf (Zf ⟨K,by rw[j,n]⟩)));rw[if_neg K]at g;by_cases R:k=4;rw[Qt hn P R];subst R;exact Hr B x st w h t o p s;rw[if_neg R]at g;by_cases T:k=5;rw[if_pos T]at g;have n:t.data.toList=[105,102]:=by simpa using g
 have D:yd st=xn (zQ st 2 0) (⟨#[105,102]⟩,0,zM st):=by unfold yd xM qx;rw[wL,j,i,n];rfl
 rw[D];subst T;exact TJ B x st w h t o p zo s;rw[if_neg T]at g;by_cases k6:k=6;rw[if_pos k6]at g;have n:t.data.toList=[98,101,103,105,110]:=by simpa using g
 have D:yd st=xn st (⟨#[98,101,103,105,110]⟩,zM st,0):=by unfold yd xM qx;rw[wL,j,i,n];rfl
 rw[D];subst k6;exact Na B x st w h t o zo s;rw[if_neg k6]at g;by_cases k7:k=7;rw[if_pos k7]at g;have n:t.data.toList=[100,111]:=by simpa using g
 have D:yd st=xn (zQ st 6 0) (⟨#[100,111]⟩,(zM st:Int)+1,0):=by unfold yd xM qx;rw[wL,j,i,n];rfl
 rw[D];subst k7;exact TI B x st w h t o p zo s;rw[if_neg k7]at g;simp only[Bool.and_eq_true,beq_iff_eq,Bool.or_eq_true,Bool.not_eq_true']at g;obtain⟨k8,g⟩:=g;subst k8;refine Kz B x w u t o _ (fun W q=>?_);rw[<-v];refine JV B x st W (h.z q) m E F hn s ?_;rcases g with e|⟨⟨⟨⟨⟨a,b⟩,c⟩,d⟩,e⟩,f⟩;exact Zg (by rw[j,e]);refine Zf ⟨by rw[i];exact c,?_,by rw[i];exact d,by rw[i];exact e,by rw[i];exact f⟩;unfold xM;rw[wL,j,a,i];unfold oD at b;rw[b];rfl
theorem OM(B:Nat)(x:CX)(w:YW)(s:B<=w.heap.size)(t:YB)(y:ByteArray×Int×Int)(k:xV t=O y)(o:jt w)(r:RS)(a:∀W:YW,Below w.heap.size w W->Calls prog 75 #[A (O ⟨x.b,0,X⟩),Ag #[Sr y.1,I J y.2.1,I J y.2.2]] W (xQ B W x r)):Calls prog 49 #[A (O ⟨x.b,0,X⟩),Sr t] w (xQ B w x r):=by
 have g:=V (dD t w o);have q:di t=Ag #[Sr y.1,I J y.2.1,I J y.2.2]:=by unfold di;rw[k]
 have p:(xV t).isSome=Y:=by rw[k];rfl
 rw[q,p]at g;obtain⟨v,z,D⟩:=y;have j:=V a;simp only at j g;clear a q p k o;go_enter func49,ntmps49;go_wp2_with fail;refine g.m ?_;rintro e u ⟨rfl,f⟩;have d:=V f;clear f g;go_wp2_with fail;have c:Below w.heap.size w (u.alloc (C #[Sr v,I J z,I J D] 146)):=d.alloc (by have:=d.size;omega) _;have i:=V c;refine(U j _ c).m ?_;rintro e E ⟨rfl,l,m,n⟩;have h:=V (And.intro l (And.intro m n));clear l m n j c;go_wp2;go_ret;exact⟨rfl,h.1,h.2.1,(yf i s).trans h.2.2⟩
theorem Ry(B:Nat)(x:CX)(st:RS)(w:YW)(h:CpE B w x st)(t:YB)(u:t.size<=2000)(v:xV t=X)(H:(qe t).isSome=Y)(G:jt w)(F:qR w)(o:zM st<4000)(D:st.err=0):Calls prog 49 #[A (O ⟨x.b,0,X⟩),Sr t] w (xQ B w x (zQ st 0 (qS t))):=by
 have q:=V (dD t w G);have L:di t=Ag #[Sr ⟨#[]⟩,I J 0,I J 0]:=by unfold di;rw[v]
 have K:(xV t).isSome=Z:=by rw[v];rfl
 rw[L,K]at q;have g:Hid (∀c,Below w.heap.size w c->Calls prog 76 #[Sr t] c fun e w'=>e=Rt (Tu #[I J (qS t),Bl Y])/\Below c.heap.size c w'):=by intro c P;have:=bO t c u (F.z P);rw[H]at this;exact this
 have z:=V h;have r:=V (show(zQ st 0 (qS t)).err=0 by unfold zQ;split<;>exact D);clear L K v G F H h D;generalize qS t=y at *;go_enter func49,ntmps49;go_wp2_with fail;refine q.m ?_;rintro e c ⟨rfl,m⟩;have i:=V m;clear m q;go_wp2_with fail;have d:Below w.heap.size w (c.alloc (C #[Sr ⟨#[]⟩,I J 0,I J 0] 146)):=i.alloc (by have:=i.size;omega) _;refine(U g _ d).m ?_;rintro e k ⟨rfl,n⟩;have j:Below w.heap.size w k:=d.trans (yf n (by have:=d.size;omega));obtain⟨fw,fo,s⟩:=(z.z j).f;obtain⟨s0,vo,a⟩:=s.D;have Q:=a.u;unfold xH at Q;have c0:=a.lt;have l:=V (gZ B x st _ fw fo s 0 y o);have p:=V (yf j z.size);have T:x.b<k.heap.size+1:=zo;have W:x.b<=k.heap.size:=zo;have a0:x.b<=k.heap.size+1:=zo;have b0:x.b<k.heap.size+1+1:=zo;clear d n j s a g i;generalize yI x st=R at *;go_wp2;go_region_law (first | (refine zN rfl 77 #[.const (I J 0),.tmp 30] #[3,2] rfl func77 da cX #[I J 0,I J y] ze (bg 0 y _) ?_;rintro e c ⟨rfl,rfl⟩;refine⟨_,rfl,?_⟩) | (refine zN rfl 50 #[.tmp 29,.tmp 32] #[96,33] rfl func50 xS xR #[A (O ⟨R,0,X⟩),S (O ⟨k.heap.size+1,0,X⟩) 1 1] ze (U l _ (k.heap.size+1) zb zk) ?_;rintro e c ⟨rfl,N,E⟩;refine⟨_,rfl,?_⟩;have M:=V E;clear E N));all_goals go_wp2;go_ret;obtain⟨k1,_,k2,k3⟩:=U M;exact xQ.ok r k1.e (p.trans k3)
theorem Gl(B:Nat)(x:CX)(st:RS)(w:YW)(h:CpE B w x st)(t:YB)(r:t.size<=2000)(v:xV t=X)(F:(qe t).isSome=Z)(E:jt w)(z:qR w)(M:st.err=0)(c:st.N.find? (fun x=>x.1==t)=X):Calls prog 49 #[A (O ⟨x.b,0,X⟩),Sr t] w (xQ B w x (yp st 2)):=by
 have u:=V (dD t w E);have H:di t=Ag #[Sr ⟨#[]⟩,I J 0,I J 0]:=by unfold di;rw[v]
 have G:(xV t).isSome=Z:=by rw[v];rfl
 rw[H,G]at u;have g:Hid (∀i,Below w.heap.size w i->Calls prog 76 #[Sr t] i fun e w'=>e=Rt (Tu #[I J (qS t),Bl Z])/\Below i.heap.size i w'):=by intro i N;have:=bO t i r (z.z N);rw[F]at this;exact this
 have y:=V h;have l:=V c;clear H G v E z F h c;generalize qS t=W at *;go_enter func49,ntmps49;go_wp2_with fail;refine u.m ?_;rintro e i ⟨rfl,n⟩;have j:=V n;clear n u;go_wp2_with fail;have d:Below w.heap.size w (i.alloc (C #[Sr ⟨#[]⟩,I J 0,I J 0] 146)):=j.alloc (by have:=j.size;omega) _;refine(U g _ d).m ?_;rintro e R ⟨rfl,o⟩;have k:Below w.heap.size w R:=d.trans (yf o (by have:=d.size;omega));have m:=y.z k;have p:=m.N.look t r;have s:=V (yf k y.size);clear d o k g j;have q:me st.N t=Ag #[I J 0,I J 0]:=by unfold me;rw[U l]
 rw[q,U l]at p;have K:=V (m.z ((Ze _ _).alloc (Zc _) (C #[I J 0,I J 0] 65))).atIs;obtain⟨fw,fo,D⟩:=m.f;obtain⟨s0,vo,a⟩:=D.D;have P:=a.u;unfold xH at P;have Q:=a.lt;have L:=V m.size;clear m D a q;generalize yI x st=T at *;simp only[Option.isSome_none]at p;go_wp2;go_ret;exact xQ.fail (er:=2) M zd K (s.alloc L _)
theorem DQ(B:Nat)(x:CX)(st:RS)(w:YW)(h:CpE B w x st)(t:YB)(L:t.size<=2000)(W:xV t=X)(hn:(qe t).isSome=Z)(hV:jt w)(hE:qR w)(H:zM st<4000)(h0:st.err=0)(y:ByteArray×Int×Int)(d:st.N.find? (fun x=>x.1==t)=O y):Calls prog 49 #[A (O ⟨x.b,0,X⟩),Sr t] w (xQ B w x (zQ st y.2.1 y.2.2)):=by
 obtain⟨y1,r,s⟩:=y;have Q:=V (dD t w hV);have hv:di t=Ag #[Sr ⟨#[]⟩,I J 0,I J 0]:=by unfold di;rw[W]
 have hs:(xV t).isSome=Z:=by rw[W];rfl
 rw[hv,hs]at Q;have l:Hid (∀j,Below w.heap.size w j->Calls prog 76 #[Sr t] j fun e w'=>e=Rt (Tu #[I J (qS t),Bl Z])/\Below j.heap.size j w'):=by intro j hb;have:=bO t j L (hE.z hb);rw[hn]at this;exact this
 have HH:=V h;have z:=V d;clear hv hs W hV hE hn h d;generalize qS t=nv at *;go_enter func49,ntmps49;go_wp2_with fail;refine Q.m ?_;rintro e j ⟨rfl,E⟩;have m:=V E;clear E Q;go_wp2_with fail;have g:Below w.heap.size w (j.alloc (C #[Sr ⟨#[]⟩,I J 0,I J 0] 146)):=m.alloc (by have:=m.size;omega) _;refine(U l _ g).m ?_;rintro e k ⟨rfl,F⟩;have o:Below w.heap.size w k:=g.trans (yf F (by have:=g.size;omega));have n:=HH.z o;have q:=n.N.look t L;have N:=V (yf o HH.size);clear g F o l m;have K:me st.N t=Ag #[I J r,I J s]:=by unfold me;rw[U z]
 rw[K,U z]at q;have p:Below k.heap.size k (k.alloc (C #[I J r,I J s] 65)):=zb;have i:Blk (k.alloc (C #[I J r,I J s] 65)) k.heap.size #[I J r,I J s] 65:=Blk.new _ _ _;have h3:=n.z p;have P:=V (N.trans (yf p n.size));obtain⟨b0,a0,D⟩:=n.f;obtain⟨s2,j0,a⟩:=D.D;have G:=a.u;unfold xH at G;have M:=a.lt;obtain⟨fw,fo,T⟩:=h3.f;obtain⟨s0,vo,c⟩:=T.D;have hc:=c.u;unfold xH at hc;have i0:=c.lt;have d0:=i.u;have e0:=i.lt;have v:=V (gZ B x st _ fw fo T r s H);have R:=V (show(zQ st r s).err=0 by unfold zQ;split<;>exact h0);simp only[Option.isSome_some]at q;clear n h3 T c D a p i K h0;generalize yI x st=hx at *;go_wp2_with fail;generalize k.alloc (C #[I J r,I J s] 65)=u at *;have f0:x.b<u.heap.size+1:=zo;have g0:x.b<=u.heap.size:=zo;have c0:k.heap.size<u.heap.size+1:=zo;have i:k.heap.size<=u.heap.size:=zo;clear G M q;go_region_law (refine zN rfl 50 #[.tmp 48,.tmp 50] #[96,33] rfl func50 xS xR #[A (O ⟨hx,0,X⟩),S (O ⟨u.heap.size,0,X⟩) 1 1] ze (U v _ u.heap.size zb zk) ?_;rintro e j ⟨rfl,n,h1⟩;refine⟨_,rfl,?_⟩;have H1:=V h1;clear h1 n);all_goals go_wp2;go_ret;obtain⟨k1,_,k2,k3⟩:=U H1;exact xQ.ok R k1.e (P.trans k3)
theorem My (B:Nat) (x:CX) (st:RS) (w:YW) (h:CpE B w x st) (m:Nat) (hi:Inv st m) (hm:m<3000) (hn:jq st) (h0:st.err=0) (hB:6≤B) (hV:jt w) (hE:qR w) : Calls prog 49 #[A (O ⟨x.b,0,X⟩),Sr st.E] w (xQ B w x (yd st)):=by
 have hl:=hi.lens;unfold lens at hl;have hlen:zM st<4000:=by unfold zM;split<;>omega
 have hsz:st.E.size≤2000:=by rw[hi.E,ByteArray.size_extract];have:=hi.size;omega
 cases hy:xV st.E with
 |some y=>exact OM B x w h.size st.E y hy hV _ (fun W hW=>GP B x st W (h.z hW) m hi hm hn h0 hB (hV.z hW) (hE.z hW) y hy)
 |none=>
  rw[Nq hy];cases hnum:(qe st.E).isSome;simp only[Bool.false_eq_true,if_false];cases hf:st.N.find? (fun x=>x.1 == st.E) with
  |none=>exact Gl B x st w h st.E hsz hy hnum hV hE h0 hf
  |some y=>exact DQ B x st w h st.E hsz hy hnum hV hE hlen h0 y hf
  simp only[if_true];exact Ry B x st w h st.E hsz hy hnum hV hE hlen h0
theorem yT:(prog.info? 73).map (fun i=>i.size)=O 3:=zr
theorem RM:(f79.name == "runtime.NumGoroutine")=Z:=zr
theorem RF:f79.body.isNone=Z:=zr
theorem Us{P:Prop}(zz0:P:=by
 have e:tmps[p]?.getD undef=A (O ⟨g,0,X⟩):=by simpa using k
 simp only[results,h];simp[e,asAddr,run_loadVar_row w g t a cs c d i l f j]):P:=zz0
theorem bE{P:Program}{b:Func}{p u v:Tmp}{a:TypeId}(h:b.results=#[.cell p a,.tmp u,.tmp v])(tmps:YV)(w:YW)(g:Nat)(t:TypeId)(cs:YV)(c:Nat×Nat)(d:TypeDesc)(k:tmps.getD p undef=A (O ⟨g,0,X⟩))(i:w.heap[g]? = O (C cs t c))(l:P.underlying a=O d)(f:(match d with|.struct _|.array _ _=>Y|_=>Z)=Y)(j:(P.info? a).map (·.size)=O cs.size):(results b tmps).run P w=.ok (Tu #[.agg cs,tmps.getD u undef,tmps.getD v undef]) w:=Us
theorem xE{w:YW}{b:Nat}{cs:YV}{T:TypeId}{g i j c d e:Value}(h:Blk w b cs T)(a:cs=#[g,i,j]):Blk (((w.setCell ⟨b,0,X⟩ c).setCell ⟨b,1,X⟩ d).setCell ⟨b,2,X⟩ e) b #[c,d,e] T:=by subst a;have f:=((h.set 0 c).set 1 d).set 2 e;simpa only [Zt,set_cons_succ,set_cons_zero]using f
theorem mC.int{w:YW}{x:CX}{p:Nat}(h:mC w x p):YtmeiikjpaepogaaGreatDoor.cellInt w x.b 1=p:=by obtain⟨r,d,m,a,mp,e,c,f,h⟩:=h;have:=h.u 1;simp at this;simp[YtmeiikjpaepogaaGreatDoor.cellInt,this,intOf]
def fy(B:Nat)(x:CX)(w:YW)(s:YB)(st:RS)(wr:YW):Prop:=∃m:Nat,CpE B wr x st/\Inv st m/\m<=st.place0/\st.err=0/\jq st/\st.s=s/\je (al st) st=bX s/\Below B w wr
theorem Mu{B:Nat}{x:CX}{w wr d:YW}{s:YB}{st:RS}(h:fy B x w s st wr)(a:st.E.toList.isEmpty=Z)(he:(yd st).err=0)(i:CpE B d x (zF (yd st)))(p:Below B wr d):fy B x w s (zF (yd st)) d/\s.size-(YtmeiikjpaepogaaGreatDoor.cellInt d x.b 1).toNat<s.size-(YtmeiikjpaepogaaGreatDoor.cellInt wr x.b 1).toNat:=by obtain⟨m,n,f,j,l,r,c,q,e⟩:=h;obtain⟨g,t,v,k⟩:=eJ f j a;refine⟨⟨m+1,i,g,t,he,fQ (SF f r),by rw[k,c],by rw[<-Am f j a l he];exact q,e.trans p⟩,?_⟩;rw[i.atIs.int,n.atIs.int];have u:=g.place;have o:=g.next;rw[k,c]at o;simp only[Zr];omega
theorem Ms{B:Nat}{x:CX}{w wr:YW}{s:YB}{st:RS}(h:fy B x w s st wr)(a:st.E.toList.isEmpty=Z)(he:(yd st).err≠0):zH s=yd st:=by
 obtain⟨m,i,j,k,c,l,g,f,d⟩:=h;have b:bX s=yd st:=by rw[<-f,Fk a c he]
 unfold zH;rw[b,if_neg (fun e=>he e.1)]
theorem Mv{B:Nat}{x:CX}{w wr:YW}{s:YB}{st:RS}(h:fy B x w s st wr)(a:st.E.toList.isEmpty=Y)(f:0<=st.P\/st.Q≠[]):(zH s).err=4/\(zH s).place=(st.place0:Int):=by
 obtain⟨m,i,j,k,b,l,g,e,d⟩:=h;have c:bX s=st:=by rw[<-e];exact qX _ (Zg a)
 unfold zH;rw[c,if_pos ⟨b,f⟩];unfold yp;rw[if_pos b];exact⟨rfl,rfl⟩
theorem Mr{B:Nat}{x:CX}{w wr:YW}{s:YB}{st:RS}(h:fy B x w s st wr)(a:st.E.toList.isEmpty=Y)(b:¬(0<=st.P\/st.Q≠[])):zH s=st/\st.P<0/\st.Q=[]:=by
 obtain⟨m,j,k,l,i,n,g,f,d⟩:=h;have c:bX s=st:=by rw[<-f];exact qX _ (Zg a)
 unfold zH;rw[c,if_neg (fun e=>b e.2)];refine⟨rfl,zo,?_⟩;rcases Classical.em (st.Q=[])with e|e;exact e;exact absurd (Zf e) b
theorem tV{st:RS}:0<(yh st).length:=by unfold yh;rw[Zi];exact Nat.succ_pos _
theorem Nh{st:RS}:st.c0++(st.c1++[(5,0)]).map (qs st.c0.length)=yh st:=by unfold yh;simp[qs]
theorem qD{P:Program}{b:Func}{p:Tmp}{a:TypeId}(h:b.results=#[.cell p a])(tmps:YV)(w:YW)(g:Nat)(t:TypeId)(cs:YV)(c:Nat×Nat)(d:TypeDesc)(j:tmps.getD p undef=A (O ⟨g,0,X⟩))(f:w.heap[g]? = O (C cs t c))(k:P.underlying a=O d)(e:(match d with|.struct _|.array _ _=>Y|_=>Z)=Y)(i:(P.info? a).map (·.size)=O cs.size) :
    (results b tmps).run P w=.ok (.agg cs) w:=results_cell_row h tmps w g t cs c d j f k e i
theorem Es(B:Nat)(x:CX)(st:RS)(wc:YW)(h:CpE B wc x {st with c1:=st.c1++[(5,0)]}):Calls prog 52 #[A (O ⟨x.b,0,X⟩)] wc fun e w'=>∃g cap,e=Rt (Ag #[S (O ⟨g,0,X⟩) (yh st).length cap,I J st.c0.length,I J st.cells])/\w'.ownsRow wc.heap.size 65 2 (S (O ⟨g,0,X⟩) (yh st).length cap) (yh st).length (zc (yh st))/\Below wc.heap.size wc w':=by
 obtain⟨s5,i0,j0,k0,d0,b0,a⟩:=h;have k:=a.R;obtain⟨o,t,s⟩:=zu a.od;subst s;have R:Hid (∀W:YW,Below wc.heap.size wc W->Calls prog 79 #[A (O ⟨x.d,0,X⟩),A (O ⟨x.m,0,X⟩)] W fun e w'=>∃g cap,e=Rt (S (O ⟨g,0,X⟩) (yh st).length cap)/\w'.ownsRow W.heap.size 65 2 (S (O ⟨g,0,X⟩) (yh st).length cap) (yh st).length (zc (yh st))/\Below W.heap.size W w'):=by
  intro W z;have j:=a.z z;refine(Qu B x.d x.m _ _ st.c0 (st.c1++[(5,0)]) W j.dp j.mn j.od j.om k.1 k.2.1).m ?_;rintro e w' ⟨v,rfl,D,k2⟩;rw[Nh]at D;have el:st.c0.length+(st.c1++[(5,0)]).length=(yh st).length:=by unfold yh;simp<;>omega
  rw[el]at D;obtain⟨g,cap,rfl,_,_⟩:=D.form tV;exact⟨g,cap,rfl,D,k2⟩
 have p:Below wc.heap.size wc (wc.alloc (C #[S X 0 0,I J 0,I J 0] 73)):=zb;have T:=Blk.new wc #[S X 0 0,I J 0,I J 0] 73;have hS:∀W:YW,Below wc.heap.size wc W->W.cell? ⟨x.b,2,X⟩=O (A (O ⟨x.d,0,X⟩))/\W.cell? ⟨x.b,3,X⟩=O (A (O ⟨x.m,0,X⟩))/\W.cell? ⟨x.b,7,X⟩=O (I J st.cells)/\W.cell? ⟨x.d,0,X⟩=O (S o st.c0.length t):=by intro W z;have y:=(a.z z).D.u;have N:=(a.z z).dp.u;unfold xH at y;exact⟨y 2,y 3,y 7,N 0⟩
 have H:=V hS;have c:=V p;have u:=V T;have g0:(st.c0.length:Int)<=4000:=by have:=k.1;simp at this;omega
 clear a p T hS k;generalize q:yh st=fl at *;have a0:=V q;generalize st.c0.length=cl at *;generalize st.cells=ce at *;clear q;go_enter func52,ntmps52;go_wp2_with fail;generalize wc.alloc (C #[S X 0 0,I J 0,I J 0] 73)=w at *;have K:=V (U H w.drew (yP c));have F:=V (U R w.drew (yP c));clear R;go_region_held_law (fun w'=>w'.cell? ⟨x.b,2,X⟩=O (A (O ⟨x.d,0,X⟩))/\w'.cell? ⟨x.b,3,X⟩=O (A (O ⟨x.m,0,X⟩))/\w'.cell? ⟨x.b,7,X⟩=O (I J ce)/\w'.cell? ⟨x.d,0,X⟩=O (S o cl t)) (first|exact U M _ _ _|exact U L|exact U K) ((refine zN rfl 79 #[.tmp 6,.tmp 10] #[96,96] rfl func79 RM RF #[A (O ⟨x.d,0,X⟩),A (O ⟨x.m,0,X⟩)] zh (by exact U F) ?_;rintro e w4 ⟨g,cap,rfl,r,l⟩;have i:=(yP c).trans (l.m (by have:=c.size;exact this));have L:=V (U H w4 i);have M:=V (fun y0 y1 y2=>U H (((w4.setCell ⟨wc.heap.size,0,X⟩ y0).setCell ⟨wc.heap.size,1,X⟩ y1).setCell ⟨wc.heap.size,2,X⟩ y2) (((i.setCell (Zc _) y0).setCell (Zc _) y1).setCell (Zc _) y2));have f:=(u.z (yP (Ze _ _)) u.lt).z l u.lt;have e0:=f.u;have f0:=f.H;have h0:=f.lt;have G:=V f;have n:=V r;have E:=V i;clear r l i f;refine⟨_,rfl,?_⟩));all_goals
  go_wp2;refine bodyPost_ret (qD (P:=prog) rfl _ _ wc.heap.size 73 _ (0,0) _ rfl (xE G rfl) underlying73 rfl yT) rfl ?_;have Q:(Value.slice (O ⟨g,0,X⟩) fl.length cap).ownBlock≠O wc.heap.size:=fun e=>by have N:=(zC n e).2;have h4:=u.lt;have h3:w.drew.heap.size=w.heap.size:=rfl;rw[h3]at N;omega
  refine⟨g,cap,rfl,?_,((E.setCell (Zc _) _).setCell (Zc _) _).setCell (Zc _) _⟩;exact zV (zA (zA (zA n Q _) Q _) Q _) c.size
def Sc (w:YW) (s:YB) (e:Ending) (w':YW):Prop :=
  (((zH s).err ≠ 0 ∧ e = Rt (Tu #[Ag #[S X 0 0, I J 0, I J 0], I J (zH s).err, I J (zH s).place])) ∨
   ((zH s).err=0∧∃ v,e=Rt (Tu #[Ag #[v,I J (zH s).c0.length,I J (zH s).cells],I J 0,I J 0])∧w'.ownsRow w.heap.size 65 2 v (yh (zH s)).length (zc (yh (zH s)))))∧Below w.heap.size w w'
theorem Mt(s:YB)(w:YW)(b:2000<s.size):Calls prog 34 #[Sr s] w fun e w'=>e=Rt (Tu #[Ag #[S X 0 0,I J 0,I J 0],I J 1,I J 0])/\Below w.heap.size w w':=by have a:(2000:Int)<s.size:=zo;go_enter func34,ntmps34;go_wp2;refine bodyPost_ret (bE (P:=prog) rfl _ _ w.heap.size 73 _ (0,0) _ rfl (Blk.new w _ _) underlying73 rfl yT) rfl ?_;refine⟨rfl,?_⟩;exact(Ze _ _).alloc (Zc _) _
theorem tQ(s:YB)(w:YW)(hs:s.size<=2000)(hV:jt w)(hE:qR w):Calls prog 34 #[Sr s] w (Sc w s):=by
 have h':(s.size:Int)<=2000:=zo;have d1:decide ((2000:Int)<(s.size:Int))=Z:=zp;have v:Below w.heap.size w (w.alloc (C #[S X 0 0,I J 0,I J 0] 73)):=zb;have F:=V (Ao s (w.alloc (C #[S X 0 0,I J 0,I J 0] 73)) hs);have J0:=V (Blk.new w #[S X 0 0,I J 0,I J 0] 73);have K:=V v;have HV:=V (hV.z v);have HE:=V (hE.z v);have h6:6<=(w.alloc (C #[S X 0 0,I J 0,I J 0] 73)).heap.size:=(hV.z v).2;have H6:=V h6;have g0:(w.alloc (C #[S X 0 0,I J 0,I J 0] 73)).heap.size=w.heap.size+1:=zs;have q:=V g0;clear v hV hE h6 g0;go_enter func34,ntmps34;go_wp2_with fail;generalize w.alloc (C #[S X 0 0,I J 0,I J 0] 73)=l at *;refine F.m ?_;rintro e w1 ⟨x,rfl,n,t0⟩;have k0:=V (cG l.heap.size x (yU s) w1 n (eM s hs).next);have i0:=V t0;clear n t0 F;go_wp2_with fail;refine k0.m ?_;rintro e B ⟨rfl,h2,u0⟩;have z:fy l.heap.size x l s (zF (yU s)) B:=⟨0,h2,(qL (eM s hs)).1,Zq _,rfl,fQ (QH s),rfl,rfl,i0.trans u0⟩;have u:=V z;clear h2 u0 k0 i0 z;generalize zF (yU s)=st0 at *;go_wp2;go_loopw [6] (fun tk wr=>∃st,tk=Sr st.E/\fy l.heap.size x l s st wr) (fun _ wr=>s.size-(YtmeiikjpaepogaaGreatDoor.cellInt wr x.b 1).toNat);case atStart=>exact⟨st0,rfl,U u⟩
 case round=>
  clear u;obtain⟨st,rfl,hrel⟩:=hrel;have k:=V hrel;obtain⟨m,n,D,hm,h0,hn,d0,hl,c⟩:=hrel;have Q:m<3000:=by have:=D.place;have:=D.next;have:=D.size;omega
  have d:Blk wr w.heap.size #[S X 0 0,I J 0,I J 0] 73:=J0.z c (by have:=U q;omega);have N:=V d;cases hne:st.E.toList.isEmpty
  ·have HT:=V (My l.heap.size x st wr n m D Q hn h0 H6 (HV.low H6 c) (HE.low H6 c));have A0:=(cK D).next;have m0:Hid (∀B,CpE l.heap.size B x (yd st)->Calls prog 48 #[A (O ⟨x.b,0,X⟩)] B fun e w'=>e=Rt (Sr (zF (yd st)).E)/\CpE l.heap.size w' x (zF (yd st))/\Below l.heap.size B w'):=fun B h2=>cG l.heap.size x (yd st) B h2 A0;have l0:=V hne;have D0:=V c;clear n D hm h0 hn d0 hl c A0 d;go_wp2_with fail;refine HT.m ?_;rintro e B ⟨rfl,k1,k2,k3⟩;clear HT;by_cases he:(yd st).err=0
   ·have HC:=V (k1 he);have M:=V he;have HK:=V k3;clear k1 k2 k3;rw[he];clear he;go_wp2_with fail;refine(U m0 B HC).m ?_;rintro e w3 ⟨rfl,k4,k5⟩;have j0:=V (Mu k l0 M k4 (HK.trans k5));clear k4 k5;go_wp2;go_roundw;case rel=>exact⟨_,rfl,j0.1⟩
    case measure=>exact j0.2
   ·obtain⟨p,hp,K0⟩:=k2 he;have a:=V (Ms k l0 he);have HP:=V hp;have M:=V he;obtain⟨ar,ad,am,Y0,Z0,a1,ac,b1,o⟩:=K0;have g:Blk B w.heap.size #[S X 0 0,I J 0,I J 0] 73:=N.z k3 (by have:=U q;omega);have f1:=o.u;have M0:=g.u;have N0:=g.H;have y0:x.b≠w.heap.size:=fun e=>by rw[e]at o;exact absurd (Cr.bl o g) zd
    have o0:=V g;have t:=V (D0.trans k3);have g1:((yd st).err==0)=Z:=by simpa using he
    clear k1 k2 k3 hp g o he m0;generalize H:(yd st).err=er at *;have E:=V H;clear H;go_wp2;go_region_law (fail);all_goals go_wp2;refine bodyPost_ret (bE (P:=prog) rfl _ _ w.heap.size 73 _ (0,0) _ rfl (xE o0 rfl) underlying73 rfl yT) rfl ?_;refine⟨Zg ⟨by rw[U a,U E];exact U M,?_⟩,?_⟩;rw[U a,U HP,U E];rfl;have hb:=K.trans (yf t (by have:=U q;omega));exact yP (((hb.setCell (Zc _) _).setCell (Zc _) _).setCell (Zc _) _)
  ·by_cases ho:0<=st.P\/st.Q≠[]
   ·have HO:=V (Mv k hne ho);obtain⟨s0,vd,vm,vo,fw,fo,i⟩:=n;obtain⟨ao,co,O0⟩:=zu i.oo;subst O0;have hL:=i.openLen;have i1:0<(fw++fo).length:=by rcases ho with e|e;obtain⟨f,e,_⟩:=i.things.word e;rw[e];simp;have:=length_pos_iff.2 e;have n:=i.things.len;simp;omega
    have hc:=i.D.u;unfold xH at hc;have M0:=d.u;have N0:=d.H;have y0:x.b≠w.heap.size:=fun e=>by have hb:=i.D;rw[e]at hb;exact absurd (Cr.bl hb d) zd
    have t:=V c;clear i D hm h0 hn d0 hl c d ho;generalize (fw++fo).length=L at *;have j1:(0:Int)<L:=zo;go_wp2;go_region_law (fail);all_goals go_wp2;refine bodyPost_ret (bE (P:=prog) rfl _ _ w.heap.size 73 _ (0,0) _ rfl (xE N rfl) underlying73 rfl yT) rfl ?_;obtain⟨e1,e2⟩:=U HO;refine⟨Zg ⟨by rw[e1];decide,?_⟩,?_⟩;rw[e1,e2];rfl;have hb:=K.trans (yf t (by have:=U q;omega));exact yP (((hb.setCell (Zc _) _).setCell (Zc _) _).setCell (Zc _) _)
   ·obtain⟨G,f0,b0⟩:=Mr k hne ho;have a:=V G;have HH:=V n;have a0:=D.lens;unfold lens at a0;have r0:st.err=0:=h0;have G0:=V r0;obtain⟨fw,fo,hF⟩:=n.f;have e0:yI x st=x.m:=by unfold yI;rw[if_neg zo]
    have eh:zM st=st.c1.length:=by unfold zM;rw[if_neg zo]
    have ep:zQ st 5 0={st with c1:=st.c1++[(5,0)]}:=by unfold zQ;rw[if_neg zo]
    have r:=V (gZ l.heap.size x st wr fw fo hF 5 0 (by rw[eh];omega));rw[e0]at r;obtain⟨s0,vd,vm,ao,co,hr⟩:=n.bare f0 b0;have hc:=hr.D.u;unfold jQ at hc;have m1:=hr.D.lt;have P0:x.b<wr.heap.size+1:=zo;have Q0:x.b<=wr.heap.size:=zo;have R0:x.b<=wr.heap.size+1:=zo;have S0:x.b<wr.heap.size+1+1:=zo;have l1:=d.lt;have t:=V c;have X0:=V (And.intro f0 b0);have H0:=V ep;clear n D hm h0 r0 hn d0 hl c d ho hF hr G e0 eh ep f0 b0;go_wp2;go_cut []from 8 to 67 (fun wc=>CpE l.heap.size wc x {st with c1:=st.c1++[(5,0)]}/\Below l.heap.size wr wc)
    case first=>go_region_law (first | (refine zN rfl 51 #[.const (I J 5)] #[3] rfl func51 eg dZ #[I J 5] ze (bC 5 _) ?_;rintro e w1 ⟨rfl,rfl⟩;refine⟨_,rfl,?_⟩) | (refine zN rfl 50 #[.tmp 45,.tmp 47] #[96,33] rfl func50 xS xR #[A (O ⟨x.m,0,X⟩),S (O ⟨wr.heap.size+1,0,X⟩) 1 1] ze (U r _ (wr.heap.size+1) zb zk) ?_;rintro e w1 ⟨rfl,h2,n⟩;refine⟨_,rfl,?_⟩;have H1:=V n;clear n h2));all_goals go_wp2;go_meet;obtain⟨k1,_,k2,k3⟩:=U H1;rw[U H0]at k1;exact⟨k1.e,k3⟩
    case rest=>obtain⟨h5,T⟩:=hcut;have n0:=V (Es l.heap.size x st wc h5);have y:Blk wc w.heap.size #[S X 0 0,I J 0,I J 0] 73:=N.z T (by have:=U q;omega);have p0:=V y;have C0:=V (t.trans T);have B0:=y.lt;clear h5 y T hc P0 Q0 R0 S0 r;generalize x0:yh st=fl at *;have I0:=V x0;clear x0;generalize w0:st.c0.length=cl at *;have F0:=V w0;clear w0;generalize v0:st.cells=ce at *;have E0:=V v0;clear v0;go_wp2_with fail;refine n0.m ?_;rintro e w6 ⟨gj,q0,rfl,R,h8⟩;have h:=p0.z h8 B0;have T0:=h.u;have U0:=h.H;have V0:=h.lt;have j:=V h;have H7:=V (And.intro R h8);clear R h8 h n0;go_wp2;refine bodyPost_ret (bE (P:=prog) rfl _ _ w.heap.size 73 _ (0,0) _ rfl (xE j rfl) underlying73 rfl yT) rfl ?_;obtain⟨R,h8⟩:=U H7;have g0:=U q;have W:=K.trans (yf C0 zo);have L0:Below w.heap.size w w6:=W.trans (yf h8 W.size);refine⟨Zf ⟨by rw[U a];exact U G0,S (O ⟨gj,0,X⟩) fl.length q0,?_,?_⟩,?_⟩;rw[U a,U F0,U E0];rfl;rw[U a,U I0];have:=zV R W.size;exact zA (zA (zA this (fun e=>zR j R zd e) _) (fun e=>zR j R zd e) _) (fun e=>zR j R zd e) _;exact((L0.setCell (Zc _) _).setCell (Zc _) _).setCell (Zc _) _
theorem Fa(n:Nat)(en ce:Int)(w:YW):Calls prog 56 #[I J n,I J en,I J ce] w fun e w'=>e=Rt (Bl (aQ n en ce))/\w'=w:=by
 cases hs:aQ n en ce
 ·unfold aQ at hs;have a:=of_decide_eq_false hs;by_cases c1:(n:Int)<1
  ·clear hs a;go_enter func56,ntmps56;go_wp2;go_ret;exact⟨rfl,rfl⟩
  by_cases c2:(5000:Int)<n
  ·clear hs a;go_enter func56,ntmps56;go_wp2;go_ret;exact⟨rfl,rfl⟩
  by_cases c3:en<0
  ·clear hs a;go_enter func56,ntmps56;go_wp2;go_ret;exact⟨rfl,rfl⟩
  by_cases c4:(n:Int)<=en
  ·clear hs a;go_enter func56,ntmps56;go_wp2;go_ret;exact⟨rfl,rfl⟩
  by_cases b:ce<0
  ·clear hs a;go_enter func56,ntmps56;go_wp2;go_ret;exact⟨rfl,rfl⟩
  ·have c:1000<ce:=zo;have d:decide (ce<=1000)=Z:=zp;clear hs a;go_enter func56,ntmps56;go_wp2;go_ret;exact⟨rfl,rfl⟩
 ·unfold aQ at hs;have a:=of_decide_eq_true hs;have c1:(1:Int)<=n:=zo;have c2:(n:Int)<=5000:=zo;have c3:0<=en:=zo;have c4:en<n:=zo;have b:0<=ce:=zo;have c:ce<=1000:=zo;have d:decide (ce<=1000)=Y:=zp;clear hs a;go_enter func56,ntmps56;go_wp2;go_ret;exact⟨rfl,rfl⟩
theorem Bv(op:Int)(w:YW):Calls prog 88 #[I J op] w fun e w'=>e=Rt (Bl (opS op))/\w'=w:=by
 by_cases c1:op<0
 ·have:opS op=Z:=by unfold opS;simp;omega
  rw[this];have c2:decide (op<=59)=Y:=zp;go_enter func88,ntmps88;go_wp2;go_ret;exact⟨rfl,rfl⟩
 by_cases c2:op<=32
 ·have:opS op=Y:=by unfold opS;simp;omega
  rw[this];go_enter func88,ntmps88;go_wp2;go_ret;exact⟨rfl,rfl⟩
 by_cases c3:op<40
 ·have:opS op=Z:=by unfold opS;simp;omega
  rw[this];go_enter func88,ntmps88;go_wp2;go_ret;exact⟨rfl,rfl⟩
 by_cases c4:op<=59
 ·have:opS op=Y:=by unfold opS;simp;omega
  rw[this];have a:decide (op<=59)=Y:=zp;go_enter func88,ntmps88;go_wp2;go_ret;exact⟨rfl,rfl⟩
 ·have:opS op=Z:=by unfold opS;simp;omega
  rw[this];have a:decide (op<=59)=Z:=zp;go_enter func88,ntmps88;go_wp2;go_ret;exact⟨rfl,rfl⟩
theorem cN(op:Int)(w:YW):Calls prog 89 #[I J op] w fun e w'=>e=Rt (Bl (zT op))/\w'=w:=by
 have a:∀(b:Bool),zT op=b->(Calls prog 89 #[I J op] w fun e w'=>e=Rt (Bl b)/\w'=w)->Calls prog 89 #[I J op] w fun e w'=>e=Rt (Bl (zT op))/\w'=w:=fun b h k=>by rw[h];exact k
 by_cases c:op=1\/op=2\/op=3\/op=7
 ·refine a Y (by unfold zT;simp;omega) ?_;rcases c with rfl|rfl|rfl|rfl;all_goals go_enter func89,ntmps89;go_wp2;go_ret;exact⟨rfl,rfl⟩
 ·refine a Z (by unfold zT;simp;omega) ?_;have d:(op==1)=Z:=by simpa using(fun e=>c (Zg e):¬op=1)
  have f:(op==2)=Z:=by simpa using(fun e=>c (Zf (Zg e)):¬op=2)
  have g:(op==3)=Z:=by simpa using(fun e=>c (Zf (Zf (Zg e))):¬op=3)
  have i:(op==7)=Z:=by simpa using(fun e=>c (Zf (Zf (Zf e))):¬op=7)
  clear a;go_enter func89,ntmps89;go_wp2;go_ret;exact⟨rfl,rfl⟩
theorem nX(op:Int)(w:YW):Calls prog 90 #[I J op] w fun e w'=>e=Rt (Bl (!decide (op=1\/op=4\/op=5)))/\w'=w:=by
 by_cases c:op=1\/op=4\/op=5
 ·rw[decide_eq_true c];rcases c with rfl|rfl|rfl;all_goals go_enter func90,ntmps90;go_wp2;go_ret;exact⟨rfl,rfl⟩
 ·rw[decide_eq_false c];have a:(op==1)=Z:=by simpa using(fun e=>c (Zg e):¬op=1)
  have b:(op==4)=Z:=by simpa using(fun e=>c (Zf (Zg e)):¬op=4)
  have d:(op==5)=Z:=by simpa using(fun e=>c (Zf (Zf e)):¬op=5)
  have f:(op != 1)=Y:=by rw[bne,a];rfl
  have g:(op != 4)=Y:=by rw[bne,b];rfl
  have h:(op != 5)=Y:=by rw[bne,d];rfl
  clear c;go_enter func90,ntmps90;go_wp2;go_ret;exact⟨rfl,rfl⟩
end Go.Proofs.YtmeiikjpaepogaaGreatDoor
