/- Own. -/
import Derived.Test.YtmeiikjpaepogaaGreatDoorD22
import Derived.Test.YtmeiikjpaepogaaGreatDoorD19
import Derived.Deep.CutRange
open Option renaming some->O,none->X
open Bool renaming true->Y,false->Z
open Go.Value renaming int->I,slice->S,pointer->A,bool->Bl,string->Sr,tuple->Tu,agg->Ag
open Go.Obj renaming cells->C
open Go.Ending renaming returned->Rt
open Go.IntKind renaming i64->J
set_option maxRecDepth 100000
set_option maxHeartbeats 4000000
namespace Go.Proofs.YtmeiikjpaepogaaGreatDoor
open Go Go.RowKit Go.Proofs.Tryz List
theorem El(b c:Nat)(w:YW)(a:YB)(d:(a.toList==[59])=Z):Calls prog 218 #[Sr a,A (O ⟨b,0,X⟩),A (O ⟨c,0,X⟩)] w (fun e w'=>e=Rt (Bl Z)/\w'=w):=by go_enter func218,ntmps218;go_wp2;go_ret;exact⟨rfl,rfl⟩
theorem Bh(B:Nat)(x:CX)(st:RS)(w:YW)(f:Nat)(g:Int)(i j k:Value)(h:Cr B w x st f g i j k [])(c:YB):Calls prog 146 #[A (O ⟨x.b,0,X⟩),Sr c] w (fun e w'=>e=Rt (I J 4)/\w'=w):=by obtain⟨l,m,a⟩:=zu h.oo;subst a;have d:=h.D.u;unfold jQ at d;clear h;go_enter func146,ntmps146;go_wp2;go_ret;exact⟨rfl,rfl⟩
theorem Cr.pop{B:Nat}{w:YW}{x:CX}{st:RS}{i:Nat}{l:Int}{n o f:Value}{a:List Value}{g k m:Nat}(q:(a++[f]).length=m)(h:Cr B w x st i l n o (S (O ⟨g,0,X⟩) m k) (a++[f])):Cr B (w.setCell ⟨x.b,8,X⟩ (S (O ⟨g,0,X⟩) a.length k)) x st i l n o (S (O ⟨g,0,X⟩) a.length k) a/\zI w (w.setCell ⟨x.b,8,X⟩ (S (O ⟨g,0,X⟩) a.length k))/\Below B w (w.setCell ⟨x.b,8,X⟩ (S (O ⟨g,0,X⟩) a.length k)):=by subst q;have c:=bV h.oo a.length zs;have p:(a++[f]).take (a.length*1)=a:=zs;rw[p]at c;refine⟨⟨?_,h.rdr.far h.ne.1 _,h.dp.far h.ne.2.1 _,h.mn.far h.ne.2.2.1 _,h.dm,h.K,?_,h.N.to (Below.heap_setCell _ _ _ _ h.ne.2.2.2),h.R⟩,?_,(Ze B w).setCell h.K.1 _⟩;have:=h.D.set 8 (S (O ⟨g,0,X⟩) a.length k);unfold jQ at this;simp only[Zt,set_cons_succ,set_cons_zero]at this;exact this;have:=(h.aD.grow 2 _ (S (O ⟨g,0,X⟩) a.length k) ⟨235,1,a.length,a⟩ rfl h.lts (World.grownBy.refl _ _) c (Zg rfl)).set (b:=x.b) zs 8 (S (O ⟨g,0,X⟩) a.length k);simpa [jF]using this;refine fun j cs T d r=>d.far ?_ _;intro e;simp at e;subst e;have:=Cr.bl h.D d;subst this;rcases r with e|e|e<;>exact absurd e zd
theorem ng(B:Nat)(x:CX)(st:RS)(w:YW)(hx:Nat)(s0:Int)(vd vm vo:Value)(F:FuncId)(cap:YV)(f:List Value)(h:Cr B w x st hx s0 vd vm vo (f++[.func (.func F) #[] cap]))(o:YB)(hl:f.length < 4000){D:Func}(c0:prog.funcs[F]? = O D)(b0:(D.name == "runtime.NumGoroutine")=Z)(K:D.body.isNone=Z)(R:Bool→World→Prop)(i:∀(W:YW)(v:Value),Cr B W x st hx s0 vd vm v f→zI w W→Below B w W→Calls prog F (#[Sr o]++cap) W (fun e w'=>∃b,e=Rt (Bl b)∧R b w')):Calls prog 146 #[A (O ⟨x.b,0,X⟩),Sr o] w (fun e w'=>∃b,e=Rt (I J (if b=Y then 0 else 4))∧R b w'):=by
 have n0:∀(a:Addr)(W:YW),(store a (.func (.func F) #[] cap)).run prog W=stored prog W a (.func (.func F) #[] cap) .plain:=fun a W=>run_store _ _ _ _ _ rfl;have P:Hid (∀(W:YW),(callFunc F (#[Sr o]++cap)).run prog W=.ok (.enter F (#[Sr o]++cap)) W):=by
  intro W;have T:D.name≠ "runtime.NumGoroutine":=by simpa using b0
  have M:D.body≠X:=by intro e;rw[e]at K;cases K
  simp[callFunc,c0,T,M]
 have HC:=V i;clear i;obtain⟨g,k,hv,e0,f0⟩:=h.oo.form zs;subst hv;have j:=zD h.oo f.length zs;have hc:=h.D.u;have r0:=h.D.lt;have p0:x.b<w.heap.size+1:=zo;have q0:x.b<=w.heap.size:=zo;have g0:g<w.heap.size+1:=zo;have i0:f.length+1<=k:=by have:=(vG h.oo).1;simp at this;omega
 have h0:g<=w.heap.size:=zo;unfold jQ at hc;have z:(f++[Value.func (.func F) #[] cap]).length=f.length+1:=zs;have ei:(f++[Value.func (.func F) #[] cap])[f.length]? = O (Value.func (.func F) #[] cap):=zs;rw[z]at hc;rw[ei]at j;have HR:=V h;clear h z ei;generalize hn:f.length=n at *;have HN:=V hn;clear hn;have o0:IntKind.i64.wrap (n:Int)=n:=zw;have j0:(0:Int)<=n:=zo;have k0:(n:Int)<(n:Int)+1:=zo;have l0:(n:Int)<=k:=zo;have m0:n<=k:=zo;go_enter func146,ntmps146;go_wp2;go_cut [5]from 12 to 42 (fun s5 wc=>∃L,s5=A (O ⟨L,0,X⟩)/\Blk wc L #[.func (.func F) #[] cap] 235/\Below w.heap.size w wc)
 case first=>go_region_law (fail);all_goals go_wp2;go_meet;first | exact⟨_,rfl,Blk.drew (Blk.new _ _ _),yP ((Ze _ _).alloc (Zc _) _)⟩ | exact⟨_,rfl,Blk.new _ _ _,yP ((Ze _ _).alloc (Zc _) _)⟩ | trace_state
 case rest=>
  obtain⟨L,rfl,s,q⟩:=hcut;have m:=HR.z q;have r:=m.D.u;have a0:=m.D.H;unfold jQ at r;have G:=s.u;have HT:=V s;have t:=V q;have u:=V m;have z:(f++[Value.func (.func F) #[] cap]).length=n+1:=by simp[U HN]
  rw[z]at r;clear s q m hc j z;go_wp2;go_cut []from 12 to 42 (fun N=>Cr B N x st hx s0 vd vm (S (O ⟨g,0,X⟩) n k) f/\zI wc N/\Below B wc N/\Blk N L #[.func (.func F) #[] cap] 235)
  case first=>
   go_region_law (fail);all_goals
    go_wp2;go_meet;obtain⟨k1,k2,k3⟩:=u.pop rfl
    have d0:L≠x.b:=fun e=>by
      have T:=u.D
      have M:=U HT
      rw[e]at M
      exact absurd (Cr.bl T M) zd
    rw[U HN]at k1 k2 k3;exact⟨k1.z (yP (Ze _ _)),k2,yP k3,(HT.far d0 _).drew⟩
  case rest=>
   obtain⟨l,d,c,p⟩:=hcut;have H:=p.u;have Q:=V (And.intro l (And.intro d c));clear l d c p r a0 G;go_wp2_with fail;rw[U P];obtain⟨l,d,c⟩:=U Q;have E:=yf t HR.size;refine(U HC _ _ l ((zI.aB t).trans d) (E.trans c)).m ?_;rintro e w3 ⟨b,rfl,hR⟩;have y:=V hR;clear hR l d c E H;cases b
   ·go_wp2;go_ret;exact⟨Z,rfl,U y⟩
   ·go_wp2;go_ret;exact⟨Y,rfl,U y⟩
theorem Pr:(f187.name == "runtime.NumGoroutine")=Z:=zr
theorem OV:f187.body.isNone=Z:=zr
theorem Pw:(f216.name == "runtime.NumGoroutine")=Z:=zr
theorem Pa:f216.body.isNone=Z:=zr
theorem Ps:(f190.name == "runtime.NumGoroutine")=Z:=zr
theorem OW:f190.body.isNone=Z:=zr
theorem Px:(f217.name == "runtime.NumGoroutine")=Z:=zr
theorem Pb:f217.body.isNone=Z:=zr
theorem Pt:(f192.name == "runtime.NumGoroutine")=Z:=zr
theorem OX:f192.body.isNone=Z:=zr
theorem Py:(f218.name == "runtime.NumGoroutine")=Z:=zr
theorem Pd:f218.body.isNone=Z:=zr
def kD(u:RS)(o:ByteArray×Int×Int)(tok:YB):Option RS:=if o.1=⟨#[105,102]⟩then dP u o.2.2.toNat tok
 else if o.1=⟨#[101,108,115,101]⟩then bz u o.2.2.toNat tok
 else if o.1=⟨#[98,101,103,105,110]⟩then wS u o.2.1 tok
 else if o.1=⟨#[119,104,105,108,101]⟩then wT u o.2.1 o.2.2.toNat tok
 else dO u o.2.1 tok
def mC(w:YW)(x:CX)(p:Nat):Prop:=∃(r d m hx mp:Nat)(s0 c:Int)(vo:Value),Blk w x.b #[A (O ⟨r,0,X⟩),I J p,A (O ⟨d,0,X⟩),A (O ⟨m,0,X⟩),A (O ⟨hx,0,X⟩),I J s0,.map (O mp),I J c,vo] 100
theorem Cr.atIs{B:Nat}{w:YW}{x:CX}{st:RS}{b:Nat}{c:Int}{d e f:Value}{a:List Value}(h:Cr B w x st b c d e f a):mC w x st.place0:=⟨_,_,_,_,_,_,_,_,h.D⟩
theorem Cp.atIs{B:Nat}{w:YW}{x:CX}{st:RS}{a:Int}{b c d:Value}{fw fo:List Value}(h:Cp B w x st a b c d fw fo):mC w x st.place0:=h.raw.atIs
theorem CpE.atIs{B:Nat}{w:YW}{x:CX}{st:RS}(h:CpE B w x st):mC w x st.place0:=by obtain⟨_,_,_,_,_,_,h⟩:=h;exact h.atIs
def AV(B:Nat)(w:YW)(x:CX)(p:Nat)(r:Option RS)(e:Ending)(w':YW):Prop:=e=Rt (I J (if r.isSome=Y then 0 else 4))/\(∀st',r=O st'->CpE B w' x st')/\(r=X->mC w' x p)/\zI w w'/\Below B w w'
theorem cF(B:Nat)(x:CX)(st u:RS)(w:YW)(d:Int)(i j D:Value)(F:FuncId)(cap:YV)(fw fo:List Value)(h:Cr B w x st (yI x st) d i j D (fw++fo++[.func (.func F) #[] cap]))(K:0≤st.P→d=st.P)(z:yI x u=yI x st∧u.P=st.P)(G:u.place0=st.place0)(H:∀(W:YW)(v:Value),Cr B W x st (yI x st) d i j v (fw++fo)→Cr B W x u (yI x st) d i j v (fw++fo))(L:jE w x.b u fw fo)(c:YB)(y:(fw++fo).length < 4000){k:Func}(t:prog.funcs[F]? = O k)(q:(k.name == "runtime.NumGoroutine")=Z)(s:k.body.isNone=Z)(r:Option RS)(a:∀W:YW,CpE B W x u→zI w W→Calls prog F (#[Sr c]++cap) W (ji B W x r)):Calls prog 146 #[A (O ⟨x.b,0,X⟩),Sr c] w (AV B w x st.place0 r):=by
 refine(ng B x st w (yI x st) d i j D F cap (fw++fo) h c y t q s (fun b w'=>b=r.isSome/\(∀g,r=O g->CpE B w' x g)/\(r=X->mC w' x st.place0)/\zI w w'/\Below B w w') ?_).m ?_;intro W v E p y;have f:CpE B W x u:=by refine⟨d,i,j,v,fw,fo,Cr.cp ?_ (fun h=>by rw[z.2]at h ⊢;exact K h) (L.box p)⟩;rw[z.1];exact H W v E
 refine(a W f p).m ?_;rintro e w' ⟨rfl,m,l,n,o⟩;exact⟨_,rfl,rfl,m,fun e=>by rw[l e,<-G];exact f.atIs,p.trans n,y.trans o⟩;rintro e w' ⟨b,rfl,rfl,m,l,n,o⟩;exact⟨rfl,m,l,n,o⟩
theorem uQ(B:Nat)(x:CX)(st:RS)(w:YW)(h:CpE B w x st)(l:List (ByteArray×Int×Int))(o:ByteArray×Int×Int)(he:st.Q=l++[o])(y:gN (zM st) o)(c:YB)(p:zM st<4000)(z:st.Q.length<3980):Calls prog 146 #[A (O ⟨x.b,0,X⟩),Sr c] w (AV B w x st.place0 (kD {st with Q:=l} o c)):=by
 obtain⟨G,H,K,R,fw,fo,h⟩:=h;have m:=h.things.len;rw[he]at m;obtain⟨g,f,rfl⟩:∃g f,fo=g++[f]:=by rcases Zz fo with e|⟨a,b,e⟩;rw[e]at m;simp at m;exact⟨a,b,by rw[e];simp⟩
 have s:g.length=l.length:=by simpa using m
 have b0:=h.things.each l.length f o (by rw[<-s];simp) (by rw[he];simp);have c0:fw.length<=1:=by by_cases hs:0<=st.P;obtain⟨f,e,_⟩:=h.things.word hs;rw[e];simp;rw[h.things.none zo];simp
 have M:jE w x.b {st with Q:=l} fw g:=by refine⟨h.things.word,h.things.none,s,fun i f' o' h1 h2=>?_⟩;have T:=(Zb.1 h1).1;have a0:=(Zb.1 h2).1;exact h.things.each i f' o' (by rw[Zu T];exact h1) (by rw[he,Zu a0];exact h2)
 have j:=h.raw;rw[<-Zy]at j;have d:(fw++g).length<4000:=by simp;rw[he]at z;simp at z;omega
 have r:∀(W:YW)(v:Value),Cr B W x st (yI x st) G H K v (fw++g)->Cr B W x {st with Q:=l} (yI x st) G H K v (fw++g):=fun W v k =>
   ⟨k.D,k.rdr,k.dp,k.mn,k.dm,k.K,k.aD,k.N,by have:=k.R;rw[he]at this;simp at this ⊢;omega⟩
 have E:l.length<3980:=by rw[he]at z;simp at z;omega
 obtain⟨L,q,F⟩:=b0;have hn:((o.2.2.toNat:Nat):Int)=o.2.2:=by have:=y.2.1;omega
 rcases F with⟨e,P,D,rfl⟩|⟨e,P,D,rfl⟩|⟨e,Q,t,rfl⟩|⟨e,Q,P,t,D,rfl⟩|⟨e,Q,t,rfl⟩;refine cF B x st {st with Q:=l} w G H K R _ _ fw g j h.P ⟨rfl,rfl⟩ rfl r M c d func187 Pr OV _ (fun W u n=>?_);have N:o.2.2<zM st:=y.2.2 (Zg (by rw[e];simp[ByteArray.toList,ByteArray.toList.loop,ByteArray.size,ByteArray.get!]));rw[<-hn]at D;have er:kD {st with Q:=l} o c=dP {st with Q:=l} o.2.2.toNat c:=by unfold kD;rw[if_pos e]
 rw[er];exact GS B x {st with Q:=l} W u L P o.2.2.toNat (n _ _ _ q (Zg rfl)) (n _ _ _ D (Zf (Zg rfl))) c (by show o.2.2.toNat<zM st;omega) p E;refine cF B x st {st with Q:=l} w G H K R _ _ fw g j h.P ⟨rfl,rfl⟩ rfl r M c d func216 Pw Pa _ (fun W u n=>?_);have N:o.2.2<zM st:=y.2.2 (Zf (Zg (by rw[e];simp[ByteArray.toList,ByteArray.toList.loop,ByteArray.size,ByteArray.get!])));rw[<-hn]at D;have er:kD {st with Q:=l} o c=bz {st with Q:=l} o.2.2.toNat c:=by unfold kD;rw[if_neg (by rw[e];decide),if_pos e]
 rw[er];exact Di B x {st with Q:=l} W u L P o.2.2.toNat (n _ _ _ q (Zg rfl)) (n _ _ _ D (Zf (Zg rfl))) c (by show o.2.2.toNat<zM st;omega);refine cF B x st {st with Q:=l} w G H K R _ _ fw g j h.P ⟨rfl,rfl⟩ rfl r M c d func190 Ps OW _ (fun W u n=>?_);have er:kD {st with Q:=l} o c=wS {st with Q:=l} o.2.1 c:=by unfold kD;rw[if_neg (by rw[e];decide),if_neg (by rw[e];decide),if_pos e]
 rw[er];exact Bg B x {st with Q:=l} W u L Q o.2.1 (n _ _ _ q (Zg rfl)) (n _ _ _ t (Zf (Zg rfl))) c p E;refine cF B x st {st with Q:=l} w G H K R _ _ fw g j h.P ⟨rfl,rfl⟩ rfl r M c d func217 Px Pb _ (fun W u n=>?_);have N:o.2.2<zM st:=y.2.2 (Zf (Zf (by rw[e];simp[ByteArray.toList,ByteArray.toList.loop,ByteArray.size,ByteArray.get!])));rw[<-hn]at D;have er:kD {st with Q:=l} o c=wT {st with Q:=l} o.2.1 o.2.2.toNat c:=by unfold kD;rw[if_neg (by rw[e];decide),if_neg (by rw[e];decide),if_neg (by rw[e];decide),if_pos e]
 rw[er];exact Bj B x {st with Q:=l} W u L Q P o.2.2.toNat o.2.1 (n _ _ _ q (Zg rfl)) (n _ _ _ t (Zf (Zg rfl))) (n _ _ _ D (Zf (Zg rfl))) c p (by show o.2.2.toNat<zM st;omega);refine cF B x st {st with Q:=l} w G H K R _ _ fw g j h.P ⟨rfl,rfl⟩ rfl r M c d func192 Pt OX _ (fun W u n=>?_);have er:kD {st with Q:=l} o c=dO {st with Q:=l} o.2.1 c:=by unfold kD;rw[if_neg (by rw[e];decide),if_neg (by rw[e];decide),if_neg (by rw[e];decide),if_neg (by rw[e];decide)]
 rw[er];exact GR B x {st with Q:=l} W u L Q o.2.1 (n _ _ _ q (Zg rfl)) (n _ _ _ t (Zf (Zg rfl))) c p
theorem Bi(B:Nat)(x:CX)(st:RS)(w:YW)(h:CpE B w x st)(m:0<=st.P)(k:st.Q=[])(a:YB)(i:st.c0.length<4000)(u:st.N.length<4000)(j:st.N.find? (fun x=>x.1==st.name)=X)(y:st.name.size<=2000):Calls prog 146 #[A (O ⟨x.b,0,X⟩),Sr a] w (AV B w x st.place0 (if a.toList==[59]then O (vW st)else X)):=by
 obtain⟨N,G,H,M,fw,fo,h⟩:=h;obtain rfl:=h.P m;obtain⟨f,rfl,z,F,r,t,rfl⟩:=h.things.word m;have s:fo=[]:=by have:=h.things.len;rw[k]at this;simpa using this
 subst s;have L:yI x st=x.d:=by unfold yI;rw[if_pos m]
 have g:=h.raw;rw[L]at g;refine(ng B x st w x.d st.P G H M _ _ [] g a zs func218 Py Pd (fun b w'=>b=(if a.toList==[59]then O (vW st)else X).isSome/\(∀c,(if a.toList==[59]then O (vW st)else X)=O c->CpE B w' x c)/\((if a.toList==[59]then O (vW st)else X)=X->mC w' x st.place0)/\zI w w'/\Below B w w') ?_).m ?_;intro W v D l E;by_cases n:(a.toList==[59])=Y;simp only[if_pos n];have e:=yV n;subst e;refine(Dj B x st W G H v D z F (l _ _ _ r (Zg rfl)) (l _ _ _ t (Zf (Zf rfl))) m k i u j y).m ?_;rintro e w' ⟨rfl,o,p,q⟩;exact⟨_,rfl,rfl,fun c e=>by cases e;exact o,fun e=>(by cases e),l.trans p,E.trans q⟩;simp only[if_neg n];refine(El z F W a (by simpa using n)).m ?_;rintro e w' ⟨rfl,rfl⟩;exact⟨_,rfl,rfl,fun c e=>(by cases e),fun _=>D.atIs,l,E⟩;rintro e w' ⟨b,rfl,rfl,o,K,p,q⟩;exact⟨rfl,o,K,p,q⟩
theorem uP(B:Nat)(x:CX)(st:RS)(w:YW)(h:CpE B w x st)(f:st.P<0)(d:st.Q=[])(a:YB):Calls prog 146 #[A (O ⟨x.b,0,X⟩),Sr a] w (AV B w x st.place0 X):=by
 obtain⟨g,j,k,l,fw,fo,h⟩:=h;obtain rfl:=h.things.none f;have c:fo=[]:=by have:=h.things.len;rw[d]at this;simpa using this
 subst c;refine(Bh B x st w (yI x st) g j k l h.raw a).m ?_;rintro e w' ⟨rfl,rfl⟩;exact⟨rfl,fun i e=>(by cases e),fun _=>h.atIs,zI.refl _,Ze _ _⟩
theorem Ib(s:YB):∃a b c,di s=Ag #[Sr a,I J b,I J c]:=by unfold di;split;exact⟨_,_,_,rfl⟩;exact⟨_,_,_,rfl⟩
theorem Hy(names:List (ByteArray×Int×Int))(s:YB):∃a b,me names s=Ag #[I J a,I J b]:=by unfold me;split;exact⟨_,_,rfl⟩;exact⟨_,_,rfl⟩
theorem CpE.N{B:Nat}{w:YW}{x:CX}{st:RS}(h:CpE B w x st):jC w x.mp st.N:=by obtain⟨_,_,_,_,_,_,h⟩:=h;exact h.N
theorem dI(B:Nat)(x:CX)(st:RS)(w:YW)(h:CpE B w x st)(a:YB)(E:a.size<=2000)(D:jt w)(y:qR w):Calls prog 193 #[A (O ⟨x.b,0,X⟩),Sr a] w (fun e w'=>e=Rt (Bl (!a.toList.isEmpty&&!(xV a).isSome&&!(qe a).isSome&&!(st.N.find? (fun x=>x.1==a)).isSome))/\Below w.heap.size w w'):=by obtain⟨R,T,W,q⟩:=Ib a;obtain⟨la,lb,p⟩:=Hy st.N a;have t:=V (dD a w D);rw[q]at t;have H:=V h;have G:=V y;clear h y D q;generalize n:(xV a).isSome=bm at *;generalize o:(qe a).isSome=M at *;generalize m:(st.N.find? (fun x=>x.1==a)).isSome=L at *;generalize N:a.toList.isEmpty=K at *;have s:=V o;have r:=V m;have F:=V n;clear n o m;go_enter func193,ntmps193;go_wp2_with fail;refine t.m ?_;rintro e w1 ⟨rfl,k⟩;have i:=V k;clear k t;go_wp2_with fail;have d:Below w.heap.size w (w1.alloc (C #[Sr R,I J T,I J W] 146)):=i.alloc (by have:=i.size;omega) _;refine(bO a _ E (G.z d)).m ?_;rw[U s];rintro e w2 ⟨rfl,l⟩;have g:Below w.heap.size w w2:=d.trans (yf l (by have:=d.size;omega));have u:=H.z g;have v:=u.N.look a E;rw[p,U r]at v;obtain⟨fw,fo,z⟩:=u.f;obtain⟨s0,vo,c⟩:=z.D;have P:=c.u;unfold xH at P;have Q:=c.lt;have j:=V g;clear d l g u z c p;generalize qS a=nv at *;cases K<;>cases bm<;>cases M<;>cases L;all_goals go_wp2;go_ret;exact⟨rfl,j.alloc (by have:=j.size;omega) _⟩
theorem DD(s:YB)(w:YW):Calls prog 72 #[Sr s] w (fun e w'=>e=Rt (A (O ⟨w.heap.size,0,X⟩))/\w'=w.alloc (C (wW s 0) 192)):=by unfold wW;go_enter func72,ntmps72;go_wp2;go_ret;exact⟨rfl,rfl⟩
theorem KK(w:YW):(Instr.makeMap 97 X).run prog w=.ok (.map (O w.heap.size)) (w.alloc (.map #[] 0)):=by simp[Instr.makeMap]
theorem Ao(s:YB)(w:YW)(r:s.size<=2000):Calls prog 47 #[Sr s] w (fun e w'=>∃x:CX,e=Rt (A (O ⟨x.b,0,X⟩))/\CpE w.heap.size w' x (yU s)/\Below w.heap.size w w'):=by
 have n:=KK;go_enter func47,ntmps47;go_wp2_with fail;refine(DD s _).m ?_;rintro e u ⟨rfl,rfl⟩;go_wp2;go_ret;refine⟨⟨w.heap.size+1+1+1+1,w.heap.size+1,w.heap.size+1+1,w.heap.size,w.heap.size+1+1+1⟩,rfl,⟨0,S X 0 0,S X 0 0,S X 0 0,[],[],?_⟩,?_⟩;refine⟨?_,?_,?_,?_,?_,?_,?_,?_,?_,?_,?_⟩;exact gE _ _ zs;exact(((gE _ _ zs).alloc _).alloc _).alloc _;exact((gE _ _ zs).alloc _).alloc _;exact((((gE _ _ rfl).alloc _).alloc _).alloc _).alloc _;simp only;omega;simp only;omega;refine⟨?_,?_,?_,rfl⟩;intro i v t a c;match i,a,c with
 |0,a,c=>simp[jF,yU]at a c;subst a c;exact Zm _ _ _ _
 |1,a,c=>simp[jF,yU]at a c;subst a c;exact Zm _ _ _ _
 |2,a,c=>simp[jF,yU]at a c;subst a c;exact Zm _ _ _ _
 |i+3,a,c=>simp at a
 intro i j v v' k a p d m;match i,a with
 |0,a=>simp at a;subst a;simp[Value.ownBlock]at d
 |1,a=>simp at a;subst a;simp[Value.ownBlock]at d
 |2,a=>simp at a;subst a;simp[Value.ownBlock]at d
 |i+3,a=>simp at a
 intro i v b a q d;match i,a with
 |0,a=>simp at a;subst a;simp[Value.ownBlock]at d
 |1,a=>simp at a;subst a;simp[Value.ownBlock]at d
 |2,a=>simp at a;subst a;simp[Value.ownBlock]at d
 |i+3,a=>simp at a
 have g:=jC.new (((w.alloc (C #[S X 0 0] 140)).alloc (C (wW s 0) 192)).alloc (C #[S X 0 0] 140));rw[World.size_up,World.size_up,World.size_up]at g;exact g.to (Below.heap_alloc _ _ _ g.lt);intro h;simp[yU]at h;exact⟨fun h=>by simp[yU]at h,fun _=>rfl,by simp[yU],fun i f o l _=>by simp at l⟩;simp[yU];omega;exact zb
theorem jt.low{B:Nat}{w w':YW}(h:jt w)(e:6<=B)(a:Below B w w'):jt w':=by obtain⟨⟨T,b,c⟩,d⟩:=h;exact⟨⟨T,b,by rw[a.block _ zo];exact c⟩,by have:=a.size;omega⟩
theorem qR.low{B:Nat}{w w':YW}(h:qR w)(g:6<=B)(a:Below B w w'):qR w':=Ur
def xQ(B:Nat)(w:YW)(x:CX)(r:RS)(e:Ending)(w':YW):Prop:=e=Rt (I J r.err)/\(r.err=0->CpE B w' x r)/\(r.err≠0->∃p:Nat,r.place=p/\mC w' x p)/\Below B w w'
theorem xQ.fail{B:Nat}{w w':YW}{x:CX}{st:RS}{er:Int}(a:st.err=0)(he:er≠0)(h:mC w' x st.place0)(b:Below B w w'):xQ B w x (yp st er) (Rt (I J er)) w':=by unfold yp;rw[if_pos a];exact⟨rfl,fun e=>absurd e he,fun _=>⟨_,rfl,h⟩,b⟩
theorem xQ.ok{B:Nat}{w w':YW}{x:CX}{st:RS}(a:st.err=0)(h:CpE B w' x st)(b:Below B w w'):xQ B w x st (Rt (I J 0)) w':=⟨by rw[a],fun _=>h,fun e=>absurd a e,b⟩
theorem Cp.openLen{B:Nat}{w:YW}{x:CX}{st:RS}{b:Int}{c d g:Value}{fw fo:List Value}(h:Cp B w x st b c d g fw fo):(fw++fo).length<=4001:=by
 have i:=h.things.len;have j:fw.length<=1:=by by_cases a:0<=st.P;obtain⟨f,e,_⟩:=h.things.word a;rw[e];simp;rw[h.things.none zo];simp
 have:=h.R;simp;omega
theorem Mn(B:Nat)(x:CX)(st:RS)(w:YW)(h:CpE B w x st)(k:Int)(c:0<=st.P\/st.Q≠[])(g:st.err=0):Calls prog 147 #[A (O ⟨x.b,0,X⟩),I J k] w (xQ B w x (yp st 4)):=by
 obtain⟨q,r,s,t,fw,fo,h⟩:=h;obtain⟨l,m,d⟩:=zu h.oo;subst d;have o:=h.openLen;have p:0<(fw++fo).length:=by rcases c with e|e;obtain⟨f,e,_⟩:=h.things.word e;rw[e];simp;have:=length_pos_iff.2 e;have n:=h.things.len;simp;omega
 have a:=V h.atIs;have i:=h.D.u;unfold xH at i;clear h;generalize (fw++fo).length=L at *;have j:(0:Int)<L:=zo;go_enter func147,ntmps147;go_wp2;go_ret;exact xQ.fail g zd a (Ze _ _)
theorem PY(B:Nat)(x:CX)(st:RS)(w:YW)(h:CpE B w x st)(m:Nat)(H:Inv st m)(k:Int)(L:st.P<0)(p:st.Q=[])(y:st.err=0)(z:6<=B)(E:jt w)(D:qR w)(f:jX (zF st)=Y):Calls prog 147 #[A (O ⟨x.b,0,X⟩),I J k] w (xQ B w x (yp (zF st) 3)):=by
 have v:=V (cG B x st w h H.next);have q:(zF st).E.size<=2000:=by have:=qY st;have:=H.size;omega
 have g:=lB (zF st);rw[f]at g;have t:Hid (∀c,CpE B c x (zF st)->Below B w c->Calls prog 193 #[A (O ⟨x.b,0,X⟩),Sr (zF st).E] c (fun e w'=>e=Rt (Bl Z)/\Below c.heap.size c w')):=by intro c d F;have:=dI B x (zF st) c d (zF st).E q (E.low z F) (D.low z F);rw[g]at this;exact this
 obtain⟨Q,R,T,W,fw,fo,h⟩:=h;obtain rfl:=h.things.none L;have o:fo=[]:=by have:=h.things.len;rw[p]at this;simpa using this
 subst o;obtain⟨N,P,r⟩:=zu h.oo;subst r;have G:=h.D.u;unfold xH at G;have i:(zF st).err=0:=y;have l:=V i;clear h f g y i E D;generalize M:zF st=u at *;clear M;go_enter func147,ntmps147;go_wp2_with fail;refine v.m ?_;rintro e c ⟨rfl,d,a⟩;have n:=V (U t c d a);have K:=V (And.intro d a);clear d a t v G;go_wp2_with fail;refine n.m ?_;rintro e w2 ⟨rfl,j⟩;have s:=V j;clear j;go_wp2;go_ret;obtain⟨d,a⟩:=U K;exact xQ.fail l zd ((d.z s).atIs) (a.trans (yf s d.size))
theorem JW(B:Nat)(x:CX)(st:RS)(w:YW)(h:CpE B w x st)(m:Nat)(N:Inv st m)(P:st.P<0)(l:st.Q=[])(E:st.err=0)(G:6<=B)(K:jt w)(H:qR w)(f:jX (zF st)=Z):Calls prog 147 #[A (O ⟨x.b,0,X⟩),I J 1] w (xQ B w x (wx (zF st) (zF st).E)):=by
 have z:=V (cG B x st w h N.next);have q:(zF st).E.size<=2000:=by have:=qY st;have:=N.size;omega
 have g:=lB (zF st);rw[f]at g;have y:Hid (∀a,CpE B a x (zF st)->Below B w a->Calls prog 193 #[A (O ⟨x.b,0,X⟩),Sr (zF st).E] a (fun e w'=>e=Rt (Bl Y)/\Below a.heap.size a w')):=by intro a d L;have:=dI B x (zF st) a d (zF st).E q (K.low G L) (H.low G L);rw[g]at this;exact this
 have D:Hid (∀a,CpE B a x (zF st)->Calls prog 194 #[A (O ⟨x.b,0,X⟩),Sr (zF st).E] a fun e w'=>e=Rt (Tu #[])/\CpE B w' x (wx (zF st) (zF st).E)/\zI a w'/\Below B a w'):=fun a d=>Fw B x (zF st) a d _ P l;obtain⟨s0,vd,vm,vo,fw,fo,h⟩:=h;obtain rfl:=h.things.none P;have p:fo=[]:=by have:=h.things.len;rw[l]at this;simpa using this
 subst p;obtain⟨T,W,r⟩:=zu h.oo;subst r;have M:=h.D.u;unfold xH at M;have i:(wx (zF st) (zF st).E).err=0:=E;have n:=V i;clear h f g E i K H;generalize Q:zF st=u at *;clear Q;go_enter func147,ntmps147;go_wp2_with fail;refine z.m ?_;rintro e a ⟨rfl,d,c⟩;have o:=V (U y a d c);have s:=V (And.intro d c);clear d c y z M;go_wp2_with fail;refine o.m ?_;rintro e R ⟨rfl,j⟩;have t:=V j;clear j;go_wp2_with fail;refine(U D R (s.1.z t)).m ?_;rintro e w3 ⟨rfl,F,_,k⟩;have v:=V (And.intro F k);clear F k D;go_wp2;go_ret;obtain⟨d,c⟩:=U s;exact xQ.ok n v.1 ((c.trans (yf t d.size)).trans v.2)
end Go.Proofs.YtmeiikjpaepogaaGreatDoor
