/- Own. -/
import Derived.Deep.CutRange
import Derived.Test.YtmeiikjpaepogaaGreatDoorD08
import Derived.Test.YtmeiikjpaepogaaGreatDoorD03
import Derived.Test.YtmeiikjpaepogaaGreatDoorD10
import Derived.Deep.OwnRows
import Derived.Maps.AppendAt
open Option renaming some->O,none->X
open Bool renaming true->Y,false->Z
open Go.Value renaming int->I,slice->S,pointer->A,bool->Bl,string->Sr,tuple->Tu,agg->Ag
open Go.Obj renaming cells->C
open Go.Ending renaming returned->Rt
open Go.IntKind renaming i64->J
set_option maxRecDepth 100000
set_option maxHeartbeats 4000000
namespace Go.Proofs.YtmeiikjpaepogaaGreatDoor
open Go Go.RowKit Go.Proofs.Tryz List
theorem Po:(prog.info? 2).map (fun i=>(i.zero,i.size,i.bytes))=O (O (I J 0),1,8):=zr
theorem KL(n:Nat)(mk:Int):zc (qU n mk)++[I J (-1),I J (-mk)]=zc (qU (n+1) mk):=by unfold qU zc;rw[replicate_succ',flatMap_append];rfl
theorem KN(n:Nat)(mk:Int):jR n mk++[I J (-mk)]=jR (n+1) mk:=by unfold jR;rw[replicate_succ']
theorem KM(n m:Nat)(mk:Int)(h:n<=m):(zc (qU m mk)).take (n*2)=zc (qU n mk):=by
 obtain⟨d,rfl⟩:∃d,m=n+d:=⟨m-n,zo⟩;have e:zc (qU (n+d) mk)=zc (qU n mk)++zc (qU d mk):=by unfold qU zc;rw[<-replicate_append_replicate,flatMap_append]
 have a:(zc (qU n mk)).length=n*2:=by unfold qU zc;rw[length_flatMap];simp
 rw[e,<-a,take_left]
theorem KP(n m:Nat)(mk:Int)(h:n<=m):(jR m mk).take (n*1)=jR n mk:=by unfold jR;rw[take_replicate];congr 1;omega
theorem Ac{w w':YW}{v:Nat}{mk:Int}{s f o:Value}{c d n g cap H:Nat}(h:xw w v mk f o d n)(q:w.ownsRow 0 65 2 s c (zc (qU c mk)))(m:w'.ownsRow 0 65 2 (S (O ⟨g,0,X⟩) (c+1) cap) (c+1) (zc (qU (c+1) mk)))(r:w.grownBy w' s.ownBlock)(p:s=S (O ⟨g,0,X⟩) c cap\/g=H/\∀k,k<w.heap.size->w'.heap[k]? = w.heap[k]?)(z:d<=c):xw w' v mk f o d n:=by
 have B:=zR h.D q zd;refine⟨h.D.grown r (fun e=>B e.symm),?_,?_,h.bd,h.R⟩;rcases p with rfl|⟨_,j⟩;by_cases e:f.ownBlock=O g;obtain⟨x,D,i⟩:=zu h.is;subst i;cases x with
 |none=>simp[Value.ownBlock]at e
 |some a=>have b:=h.is.2;rcases b with⟨y,_⟩|⟨E,c1,t,u,_⟩;simp at y;simp only[Zk,Zs,true_and]at u;obtain⟨rfl,rfl⟩:=u;simp[Value.ownBlock]at e;subst e;exact As zd h.is q m zo (KM _ _ _ zo)
 exact wa h.is r (fun k l i=>e (by rw[l];simpa [Value.ownBlock]using i));exact yR h.is (fun k _ l=>j k l);exact wa h.ns r (fun k l i=>wJ h.ns q zd l i.symm)
theorem Ad{w w':YW}{v:Nat}{mk:Int}{o s f:Value}{c n d g cap H:Nat}(h:xw w v mk o f n d)(q:w.ownsRow 0 2 1 s c (jR c mk))(m:w'.ownsRow 0 2 1 (S (O ⟨g,0,X⟩) (c+1) cap) (c+1) (jR (c+1) mk))(r:w.grownBy w' s.ownBlock)(p:s=S (O ⟨g,0,X⟩) c cap\/g=H/\∀k,k<w.heap.size->w'.heap[k]? = w.heap[k]?)(z:d<=c):xw w' v mk o f n d:=by
 have B:=zR h.D q zd;refine⟨h.D.grown r (fun e=>B e.symm),?_,?_,h.bd,h.R⟩;exact wa h.is r (fun k l i=>wJ h.is q zd l i.symm);rcases p with rfl|⟨_,j⟩;by_cases e:f.ownBlock=O g;obtain⟨x,D,i⟩:=zu h.ns;subst i;cases x with
 |none=>simp[Value.ownBlock]at e
 |some a=>have b:=h.ns.2;rcases b with⟨y,_⟩|⟨E,c1,t,u,_⟩;simp at y;simp only[Zk,Zs,true_and]at u;obtain⟨rfl,rfl⟩:=u;simp[Value.ownBlock]at e;subst e;exact As zd h.ns q m zo (KP _ _ _ zo)
 exact wa h.ns r (fun k l i=>e (by rw[l];simpa [Value.ownBlock]using i));exact yR h.ns (fun k _ l=>j k l)
theorem xw.alloc{w:YW}{q:Nat}{mk:Int}{c d:Value}{a b:Nat}(h:xw w q mk c d a b)(o:Obj):xw (w.alloc o) q mk c d a b:=⟨h.D.alloc o,zE h.is o,zE h.ns o,h.bd,h.R⟩
theorem xw.still{w w':YW}{F:Nat->Prop}{q:Nat}{mk:Int}{b c:Value}{d e:Nat}(h:xw w q mk b c d e)(a:zU w w' F)(i:¬F q)(f:∀k,b.ownBlock=O k->¬F k)(g:∀k,c.ownBlock=O k->¬F k):xw w' q mk b c d e:=⟨h.D.still a i,bK h.is a f,bK h.ns a g,h.bd,h.R⟩
theorem xw.far{w:YW}{q:Nat}{mk:Int}{i j:Value}{f g:Nat}(h:xw w q mk i j f g){b:Nat}{cs:YV}(d:Blk w b cs 134)(a:q≠b)(c:Nat)(u:Value):xw (w.setCell ⟨b,c,X⟩ u) q mk i j f g:=⟨h.D.far a u,zA h.is (fun e=>zR d h.is zd e) u,zA h.ns (fun e=>zR d h.ns zd e) u,h.bd,h.R⟩
theorem KI(q:Nat)(mk:Int)(vi vn:Value)(f u:Nat)(w:YW)(h:xw w q mk vi vn f u)(r0:f<8796093022208)(s0:u<8796093022208):Calls prog 134 #[A (O ⟨q,0,X⟩)] w fun e w'=>∃q2 a0 b0,e=Rt (A (O ⟨q2,0,X⟩))/\w.heap.size<=q2/\xw w' q2 mk a0 b0 (f+1) (u+1)/\(∀k,a0.ownBlock=O k->vi.ownBlock=O k\/w.heap.size<=k)/\(∀k,b0.ownBlock=O k->vn.ownBlock=O k\/w.heap.size<=k)/\zU w w' (fun k=>vi.ownBlock=O k\/vn.ownBlock=O k)/\∀q' z B r s,xw w q' mk z B r s->r<=f->s<=u->xw w' q' mk z B r s:=by
 obtain⟨iI,h0,N,P,Q⟩:=info_parts yJ;obtain⟨iN,i0,R,T,W⟩:=info_parts Po;have hc:=h.D.u;have o0:=h.D.lt;have j0:=h.bd;have hw:IntKind.i64.wrap (-mk)=-mk:=zw;have u0:=zR h.D h.is zd;have v0:=zR h.D h.ns zd;have x:=V (zE (zE h.is (C #[S X 0 0,S X 0 0,I J mk] 134)) (C #[I J (-1),I J (-mk)] 65));have d0:=V ((h.alloc (C #[S X 0 0,S X 0 0,I J mk] 134)).alloc (C #[I J (-1),I J (-mk)] 65));have c0:=V ((Blk.new w #[S X 0 0,S X 0 0,I J mk] 134).alloc (C #[I J (-1),I J (-mk)] 65));have g0:=V (Blk.new (w.alloc (C #[S X 0 0,S X 0 0,I J mk] 134)) #[I J (-1),I J (-mk)] 65);have L:vi.ownBlock≠O w.heap.size:=fun e=>by have:=(zC h.is e).1;omega
 have HH:=V h;clear h;go_enter func134,ntmps134;go_upto_region 4 with(at_builtin;refine gX _ rfl (.tmp 20) (.tmp 23) 33 rfl 0 65 iI _ 2 16 underlying33 h0 N P Q rfl zd vi f (zc (qU f mk)) zf (U x) ⟨w.heap.size+1,0,X⟩ 1 1 [I J (-1),I J (-mk)] zf rfl (by have:=World.news_of_block (U g0);simpa using this) (by simp[Value.oneCell']) zo zm zo (Zq _) _ rfl ?_;intro g cap w5 c b d H;rw[KL]at c;have h5:=Ac (U d0) (U x) c b d (Zc _);have o:=c0.grown b (fun e=>L e.symm);have p0:=h5.D.u;have k0:=o.u;have m0:=o.H;have F:=V c;have HG:=V b;have HA:=V d;have H5:=V h5;have j:=V o;clear c b d h5 o hc);have t0:w.heap.size≠q:=zo;have K:vn.ownBlock≠O w.heap.size:=fun e=>by have:=(zC HH.ns e).1;omega
 have M:w.heap.size+2<=w5.heap.size:=by have:=HG.size;simpa using this
 have m:=V (zE (zA H5.ns K (S (O ⟨g,0,X⟩) (f+1) cap) (a:=⟨w.heap.size,0,X⟩)) (C #[I J (-mk)] 2));have f0:=V (Blk.new (w5.setCell ⟨w.heap.size,0,X⟩ (S (O ⟨g,0,X⟩) (f+1) cap)) #[I J (-mk)] 2);have e0:=V ((H5.far (U j) zo 0 (S (O ⟨g,0,X⟩) (f+1) cap)).alloc (C #[I J (-mk)] 2));have E:=V ((j.set 0 (S (O ⟨g,0,X⟩) (f+1) cap)).alloc (C #[I J (-mk)] 2));simp only[Zt,set_cons_zero]at E;go_wp2_with (at_builtin;refine gX _ rfl (.tmp 31) (.tmp 33) 42 rfl 0 2 iN _ 1 8 underlying42 i0 R T W rfl zd vn u (jR u mk) zf (U m) ⟨w5.heap.size,0,X⟩ 1 1 [I J (-mk)] zf rfl (by have:=World.news_of_block (U f0);simpa using this) (by simp[Value.oneCell']) zo zm zo (Zq _) _ rfl ?_;intro g2 t w7 c b d H;rw[KN]at c;have h7:=Ad (U e0) (U m) c b d (Zc _);have p:=E.grown b (fun e=>K e.symm);have l0:=p.u;have n0:=p.H;have y:=V c;have v:=V b;have D:=V d;have H7:=V h7;have l:=V p;clear c b d h7 p);go_ret;have n:=wa (zE (zA (U F) (zR (U j) (U F) zd) (S (O ⟨g,0,X⟩) (f+1) cap) (a:=⟨w.heap.size,0,X⟩)) (C #[I J (-mk)] 2)) (U v);have n:=n (fun k i e=>wJ (zE (zA (U F) (zR (U j) (U F) zd) (S (O ⟨g,0,X⟩) (f+1) cap) (a:=⟨w.heap.size,0,X⟩)) (C #[I J (-mk)] 2)) (U m) zd i e.symm);have G:=l.set 1 (S (O ⟨g2,0,X⟩) (u+1) t);simp only[Zt,set_cons_succ,set_cons_zero]at G;refine⟨w.heap.size,S (O ⟨g,0,X⟩) (f+1) cap,S (O ⟨g2,0,X⟩) (u+1) t,rfl,Zc _,?_,?_,?_,?_,?_⟩;exact⟨G,zA n (zR (U l) n zd) _,zA (U y) (zR (U l) (U y) zd) _,j0,zo⟩;intro k i;simp only[Value.ownBlock,Zs]at i;rcases U HA with e|⟨e,_⟩;left;rw[e,<-i];rfl;right;rw[<-i,e];simp;omega;intro k i;simp only[Value.ownBlock,Zs]at i;rcases U D with e|⟨e,_⟩;left;rw[e,<-i];rfl;right;have M:=HG.size;rw[<-i,e];simp at M ⊢;omega;refine zU.set (zU.grown (zU.alloc (zU.set (zU.grown (zU.alloc (zU.alloc (zU.refl w _) _) _) (U HG) ?_) ?_ _ _) _) (U v) ?_) ?_ _ _;exact fun k i=>Zg (Zg i);exact Zf (Zc _);exact fun k i=>Zg (Zf i);exact Zf (Zc _);intro q' z B r s h' h1 h2;have q0:=h'.D.lt;have k1:=Ac ((h'.alloc (C #[S X 0 0,S X 0 0,I J mk] 134)).alloc (C #[I J (-1),I J (-mk)] 65)) (U x) (U F) (U HG) (U HA) h1;have k2:=(k1.far (U j) zo 0 (S (O ⟨g,0,X⟩) (f+1) cap)).alloc (C #[I J (-mk)] 2);exact(Ad k2 (U m) (U y) (U v) (U D) h2).far (U l) zo _ _
theorem qI{w:YW}{base:Nat}{e:TypeId}{size:Nat}{g n cap:Nat}{xs:List Value}(h:w.ownsRow base e size (S (O ⟨g,0,X⟩) n cap) n xs)(j:Nat)(u:Value):(w.setCell ⟨g,j,X⟩ u).ownsRow base e size (S (O ⟨g,0,X⟩) n cap) n (xs.set j u):=by
 have m:yS base w [] [S (O ⟨g,0,X⟩) n cap] [⟨e,size,n,xs⟩]:=by
  refine⟨?_,?_,fun _ _ _ _ l=>by simp at l,rfl⟩;intro i v s a d;match i,(Zb.1 a).1 with
  |0,_=>simp at a d;subst a d;exact h
  intro i j v v' k a c _ _;have f:=(Zb.1 a).1;have b:=(Zb.1 c).1;simp at f b;omega
 have b:=m.write 0 g n cap _ rfl rfl j u;exact b.own 0 _ _ rfl rfl
theorem No(a r:YL)(x y:Int×Int)(k:Nat)(e:a.length=k):((zc (a++x::r)).set (k*2) (I J y.1)).set (k*2+1) (I J y.2)=zc (a++y::r):=by
 subst e;induction a with
 |nil=>simp[zc]
 |cons z a b=>have c:(z::a).length*2=a.length*2+2:=zp;rw[c];simp only[zc,cons_append,flatMap_cons,nil_append]at b ⊢;have d:a.length*2+2+1=(a.length*2+1)+2:=zo;rw[d];simp only[set_cons_succ];rw[b]
theorem eX{α:Type}(l:List α)(k:Nat)(h:k<l.length):∃x,l.drop k=x::l.drop (k+1):=⟨_,drop_eq_getElem_cons h⟩
theorem lA(k:Nat)(mk:Int):(qU k mk).length=k:=by simp[qU]
theorem NF(l:YL)(k:Nat)(mk:Int)(h:k<l.length):((zc (qU k mk++l.drop k)).set (k*2) (I J (-1))).set (k*2+1) (I J (-mk))=zc (qU (k+1) mk++l.drop (k+1)):=by
 obtain⟨x,a⟩:=eX l k h;rw[a,No (qU k mk) _ x (-1,-mk) k (lA k mk)];have e:qU (k+1) mk=qU k mk++[(-1,-mk)]:=by unfold qU;rw[replicate_succ']
 rw[e,Zy];rfl
theorem KO(l:YI)(k:Nat)(mk:Int)(h:k<l.length):(jR k mk++zn (l.drop k)).set k (I J (-mk))=jR (k+1) mk++zn (l.drop (k+1)):=by
 obtain⟨x,b⟩:=eX l k h;have e:jR (k+1) mk=jR k mk++[I J (-mk)]:=by unfold jR;rw[replicate_succ']
 have a:(jR k mk).length=k:=by simp[jR]
 rw[b,e,Zy];unfold zn;rw[map_cons,set_append_right _ _ zo,a,Nat.sub_self];rfl
theorem NG(q:Nat)(mk:Int)(P Q:Value)(a:YL)(b:YI)(w:YW)(d:Blk w q #[P,Q,I J mk] 134)(c:w.ownsRow 0 65 2 P a.length (zc a))(f:w.ownsRow 0 2 1 Q b.length (zn b))(e0:0<=mk/\mk<=1152921504606846976)(c0:a.length<=17592186044416)(d0:b.length<=17592186044416):Calls prog 133 #[A (O ⟨q,0,X⟩)] w fun e w'=>e=Rt (Tu #[])/\xw w' q mk P Q a.length b.length/\zU w w' (fun k=>P.ownBlock=O k\/Q.ownBlock=O k):=by
 have f0:=zR d c zd;have g0:=zR d f zd;have H:∀k,P.ownBlock=O k->Q.ownBlock≠O k:=fun k hk=>wJ c f zd hk;have T:=d.u;have hw:IntKind.i64.wrap (-mk)=-mk:=zw;have j0:(a.length:Int)<=17592186044416:=zo;have k0:(b.length:Int)<=17592186044416:=zo;obtain⟨p,s,h0⟩:=zu c;obtain⟨r,t,i0⟩:=zu f;subst h0 i0;have F:=V d;have HI:=V c;have HN:=V f;have E:=V H;clear c f d c0 d0 H;go_enter func133,ntmps133;go_wp2;go_loopw [3] (fun i wr=>∃k:Nat,i=I J k/\k<=a.length/\Blk wr q #[S p a.length s,S r b.length t,I J mk] 134/\wr.ownsRow 0 65 2 (S p a.length s) a.length (zc (qU k mk++a.drop k))/\wr.ownsRow 0 2 1 (S r b.length t) b.length (zn b)/\zU w wr (fun k=>(Value.slice p a.length s).ownBlock=O k\/(Value.slice r b.length t).ownBlock=O k)) (fun i _=>a.length-(intOf i).toNat);case atStart=>exact⟨0,rfl,Zq _,U F,U HI,U HN,zU.refl _ _⟩
 case round=>
  obtain⟨k,rfl,hk,m,c,f,z⟩:=hrel;have hc:=m.u;have B:=V m;have h:=V c;have j:=V f;have D:=V z;clear T;by_cases K:k<a.length
  ·obtain⟨g,cap,M,_,b0⟩:=c.form zo;simp only[Zk,true_and]at M;obtain⟨rfl,rfl⟩:=M;have u:=zD c (k*2) zo;have W:=zD c (k*2+1) zo;have a0:=yB c (k*2);have l0:=yB c (k*2+1);obtain⟨x,N⟩:=eX a k K;have l:(qU k mk++a.drop k)[k]? = O x:=by rw[N,Zw (by rw[lA];exact Zc _),lA,Nat.sub_self];rfl
   rw[(zL _ _ _ l).1]at u;rw[(zL _ _ _ l).2]at W;have L:(k:Int)<a.length:=zo;have v:g≠q:=fun e=>f0 (by rw[<-e];rfl);have n:q≠g:=fun e=>v e.symm;clear m c f z N l;go_wp2;go_roundw;case rel=>refine⟨k+1,by go_num,zo,(B.far n _).far n _,?_,?_,?_⟩;rw[<-NF a k mk K];exact qI (qI h _ _) _ _;have R:(Value.slice r b.length t).ownBlock≠O g:=U E g rfl;exact zA (zA j R _) R _;exact(D.set (Zg (Zg rfl)) _ _).set (Zg (Zg rfl)) _ _
   case measure=>exact zv
  ·have y:k=a.length:=zo;subst y;rw[drop_length,append_nil]at h;clear m c f z;obtain⟨wo,rfl⟩:∃wo:YW,wo=wr:=⟨_,rfl⟩;go_wp2;go_loopw [4] (fun i wr=>∃k:Nat,i=I J k/\k<=b.length/\Blk wr q #[S p a.length s,S r b.length t,I J mk] 134/\wr.ownsRow 0 65 2 (S p a.length s) a.length (zc (qU a.length mk))/\wr.ownsRow 0 2 1 (S r b.length t) b.length (jR k mk++zn (b.drop k))/\zU w wr (fun k=>(Value.slice p a.length s).ownBlock=O k\/(Value.slice r b.length t).ownBlock=O k)) (fun i _=>b.length-(intOf i).toNat);case atStart=>exact⟨0,rfl,Zq _,U B,U h,U j,U D⟩
   case round=>
    obtain⟨k,rfl,hk,m,c,f,z⟩:=hrel;clear hc;have hc:=m.u;clear B h j D;have B:=V m;have h:=V c;have j:=V f;have D:=V z;by_cases o:k<b.length
    ·obtain⟨g,cap,M,_,b0⟩:=f.form zo;simp only[Zk,true_and]at M;obtain⟨rfl,rfl⟩:=M;have u:=zD f k zo;have a0:=yB f k;obtain⟨x,N⟩:=eX b k o;have l:(jR k mk++zn (b.drop k))[k]? = O (I J x):=by rw[N,Zw (by simp[jR])];simp[jR,zn]
     rw[l]at u;have L:(k:Int)<b.length:=zo;have v:g≠q:=fun e=>g0 (by rw[<-e];rfl);have n:q≠g:=fun e=>v e.symm;clear m c f z N l;go_wp2;go_roundw;case rel=>refine⟨k+1,by go_num,zo,B.far n _,?_,?_,?_⟩;have R:(Value.slice p a.length s).ownBlock≠O g:=fun e=>U E g e rfl;exact zA h R _;rw[<-KO b k mk o];exact qI j _ _;exact D.set (Zg (Zf rfl)) _ _
     case measure=>exact zv
    ·have y:k=b.length:=zo;subst y;rw[drop_length]at j;have G:=U j;rw[show zn []=[]from rfl,append_nil]at G;clear m c f z;go_wp2;go_end0;exact⟨rfl,⟨U B,U h,G,e0,zo⟩,U D⟩
theorem aG(b:Nat)(op arg:Int)(w:YW)(P:World->Prop)(a:op=21\/op=22\/op=23\/op=24\/op=25\/op=26\/op=27\/op=29\/op=30\/op=31\/op=32)(h:Calls prog 215 #[A (O ⟨b,0,X⟩),I J op] w fun e w'=>e=Rt (Tu #[])/\P w'):Calls prog 184 #[A (O ⟨b,0,X⟩),I J op,I J arg] w fun e w'=>e=Rt (Tu #[])/\P w':=by have c:=V h;clear h;(repeat' rcases a with rfl|a);all_goals go_enter func184,ntmps184;go_wp2_with fail;refine c.m ?_;rintro e f ⟨rfl,d⟩;go_wp2;go_end0;exact⟨rfl,d⟩
theorem lT(t:Int):(yA t).length<=26:=by unfold yA;have:=Hi 25 t.natAbs;split;simp;omega;omega
theorem Uq{P:Prop}(zz0:P:=by
 obtain⟨a5,k5,d⟩:=zu h.o5;obtain⟨a6,k6,G⟩:=zu h.o6;obtain⟨a7,k7,H⟩:=zu h.o7;obtain⟨a8,k8,K⟩:=zu h.o8;subst d;subst G;subst H;subst K;have v:=h.D.u;unfold yx at v;have hl:=h.lims;have D:=h.R;have s1:(m.C.length:Int)<=1000:=zo;have s2:(m.G.length:Int)<=1000:=zo;have s3:(m.aC.length:Int)<=1000:=zo;have s4:(m.cells.length:Int)<=1000:=zo;have s5:(m.out.size:Int)<=1000:=zo;have l1:m.ls<=1000:=zo;have l3:m.lc<=1000:=zo;have l4:m.lo<=1000:=zo;have a0:(m.out.size:Int)<=m.lo:=zo;clear hl D;have s:=V (fun n=>uW t (w.drewN n) (h.ints.1 t (by rw[a];simp)));have c:(⟨(yA t).toArray⟩:YB).size=(yA t).length:=by simp[ByteArray.size]
 have f:(yA t).length<=26:=lT t;generalize (⟨(yA t).toArray⟩:YB)=R at s c;generalize (yA t).length=g at c f W;have p:(R++(⟨#[32]⟩:YB)).size=g+1:=by rw[ByteArray.size_append,c];rfl
 have c0:(g:Int)<=26:=zo;have u:=V h.D;unfold yx at u;have o:=h.D.lt;have HN:Hid (∀w,Calls prog 209 #[I J 32] w fun e w'=>e=Rt (Tu #[I J 1,I J (-1)])/\w'=w):=fun w=>cP 32 w;have HA:Hid (∀w,Calls prog 210 #[I J 32] w fun e w'=>e=Rt (Tu #[I J 0,I J 0])/\w'=w):=fun w=>cB 32 w;have T:m.C.length=l.length+1:=by rw[a];simp
 obtain⟨g5,e0,d,_,_⟩:=h.o5.form zo;simp only[Zk,true_and]at d;obtain⟨rfl,rfl⟩:=d;have hx:=zD h.o5 l.length zo;have q:inI t:=h.ints.1 t (by rw[a];simp);unfold inI at q;obtain⟨E,F⟩:=q;rw[a,ja]at hx;rw[T]at v s1;have b0:((l.length:Int)+1)<=1000:=zo;clear a T;simp only[Int.natCast_add,Int.cast_ofNat_Int]at s1;go_enter func183,ntmps183;go_wp2_with fail;refine(U HN _).m ?_;rintro e w2 ⟨rfl,r⟩;obtain rfl:=r.symm;clear r;go_wp2_with fail;refine(U HA _).m ?_;rintro e w2 ⟨rfl,r⟩;obtain rfl:=r.symm;clear r;go_wp2;go_quiet (fail);go_wp2;go_quiet (fail);go_wp2;go_quiet (fail);go_wp2_with fail;refine(U s _).m ?_;rintro e w3 ⟨rfl,i⟩;have k:=vq i;have j:=u.z k o;have x:=j.u;have y:¬9223372036854775807<g+1:=zo;have z:(m.out.size:Int)+((g:Int)+1)<=9223372036854775807:=zo;clear v j i s u hx E F;go_wp2;go_quiet (fail);clear p y z c f x;generalize R++(⟨#[32]⟩:YB)=dd;have d0:(m.out.size:Int)+((g:Int)+1)=(m.out.size:Int)+g+1:=zo;go_wp2;go_ret;exact⟨rfl,dh k _⟩):P:=zz0
theorem BJ(B b:Nat)(m:MS)(L M N Q:Value)(w:YW)(h:Mc B w b m L M N Q)(l:YI)(t:Int)(a:m.C=l++[t])(W:(m.out.size:Int)+(yA t).length+1<=m.lo):Calls prog 183 #[A (O ⟨b,0,X⟩),I J 32] w fun e w'=>e=Rt (I J 0)/\Below w.heap.size w w':=Uq
theorem Ix(B b:Nat)(m:MS)(L M N Q:Value)(w:YW)(h:Mc B w b m L M N Q)(l:YI)(t:Int)(a:m.C=l++[t])(W:m.lo<(m.out.size:Int)+(yA t).length+1):Calls prog 183 #[A (O ⟨b,0,X⟩),I J 32] w fun e w'=>e=Rt (I J 14)/\Below w.heap.size w w':=Uq
def xZ(m:MS):Int:=m.C.getLast?.getD 0
def zJ(m:MS)(op:Int):Int:=if(m.C.length:Int)<(zY op).1 then 7
 else if 0<(zY op).2/\m.ls<m.C.length+(zY op).2 then 8
 else if(m.G.length:Int)<(yt op).1 then 9
 else if 0<(yt op).2/\m.la<m.G.length+(yt op).2 then 10
 else if op=3 then(if m.lc<=m.aC.length then 11 else 0)
 else if op=4 then(if m.aC.length=0 then 11 else 0)
 else if op=29\/op=30 then(if xZ m<0\/(m.cells.length:Int)<=xZ m then 12 else 0)
 else if op=12\/op=13 then(if xZ m=0 then 13 else 0)
 else if op=31 then(if m.lo<(m.out.size:Int)+1 then 14 else 0)
 else if op=32 then(if m.lo<(m.out.size:Int)+(yA (xZ m)).length+1 then 14 else 0)
 else 0
theorem yW{P:Program}{f:FuncId}{b:YV}{w:YW}{x:Int}{y:Int}(a:x=y)(h:Calls P f b w fun e w'=>e=Rt (I J x)/\∃n,w'=w.drewN n):Calls P f b w fun e w'=>e=Rt (I J y)/\Below w.heap.size w w':=by subst a;refine h.m ?_;rintro e w' ⟨rfl,n,rfl⟩;exact⟨rfl,dh (Ze _ _) n⟩
theorem fY(m:MS)(h:1<=m.C.length):∃l,m.C=l++[xZ m]:=by rcases Zz m.C with e|⟨l,t,e⟩;rw[e]at h;simp at h;rw[concat_eq_append]at e;exact⟨l,by rw[e];simp[xZ,e]⟩
theorem Iv(B b:Nat)(m:MS)(op:Int)(w:YW)(h:McE B w b m):Calls prog 183 #[A (O ⟨b,0,X⟩),I J op] w fun e w'=>e=Rt (I J (zJ m op))/\Below w.heap.size w w':=by
 obtain⟨c,d,f,g,h⟩:=h;by_cases c1:(m.C.length:Int)<(zY op).1;exact yW (by rw[zJ,if_pos c1]) (DN B b m c d f g op w h c1);by_cases c2:0<(zY op).2/\m.ls<m.C.length+(zY op).2;exact yW (by rw[zJ,if_neg c1,if_pos c2]) (FR B b m c d f g op w h zo c2.1 c2.2);by_cases c3:(m.G.length:Int)<(yt op).1;exact yW (by rw[zJ,if_neg c1,if_neg c2,if_pos c3]) (Iy B b m c d f g op w h zo zo c3);by_cases c4:0<(yt op).2/\m.la<m.G.length+(yt op).2;exact yW (by rw[zJ,if_neg c1,if_neg c2,if_neg c3,if_pos c4]) (FQ B b m c d f g op w h zo zo zo c4.1 c4.2);have x:zJ m op=if op=3 then(if m.lc<=m.aC.length then 11 else 0)else if op=4 then(if m.aC.length=0 then 11 else 0)else if op=29\/op=30 then(if xZ m<0\/(m.cells.length:Int)<=xZ m then 12 else 0)else if op=12\/op=13 then(if xZ m=0 then 13 else 0)else if op=31 then(if m.lo<(m.out.size:Int)+1 then 14 else 0)else if op=32 then(if m.lo<(m.out.size:Int)+(yA (xZ m)).length+1 then 14 else 0)else 0:=by rw[zJ,if_neg c1,if_neg c2,if_neg c3,if_neg c4]
 rw[x];clear x;by_cases v:op=3;subst v;by_cases k:m.lc<=m.aC.length;exact yW (by simp[k]) (FO B b m c d f g w h k);exact yW (by simp[k]) (Ay B b m c d f g w h zo);by_cases o4:op=4;subst o4;by_cases k:m.aC.length=0;exact yW (by simp only[k];rfl) (IA B b m c d f g w h k);exact yW (by simp only[k];rfl) (BL B b m c d f g w h zo);by_cases p:op=29;subst p;have u:(2:Int)<=m.C.length:=by have:(zY 29).1=2:=rfl;omega
 obtain⟨l,a⟩:=fY m zo;have i:1<=l.length:=by have:=congrArg length a;simp at this;omega
 generalize xZ m=t at a ⊢;by_cases k:t<0;exact yW (by simp[k]) (sY B b m c d f g w h l t a i k);by_cases j:(m.cells.length:Int)<=t;exact yW (by simp[k,j]) (sX B b m c d f g w h l t a i zo j);exact yW (by simp[k,j]) (uo B b m c d f g w h l t a i zo zo);by_cases q:op=30;subst q;have u:(1:Int)<=m.C.length:=by have:(zY 30).1=1:=rfl;omega
 obtain⟨l,a⟩:=fY m zo;generalize xZ m=t at a ⊢;by_cases k:t<0;exact yW (by simp[k]) (sW B b m c d f g w h l t a k);by_cases j:(m.cells.length:Int)<=t;exact yW (by simp[k,j]) (sV B b m c d f g w h l t a zo j);exact yW (by simp[k,j]) (um B b m c d f g w h l t a zo zo);by_cases n:op=12;subst n;have u:(2:Int)<=m.C.length:=by have:(zY 12).1=2:=rfl;omega
 obtain⟨l,a⟩:=fY m zo;have i:1<=l.length:=by have:=congrArg length a;simp at this;omega
 generalize xZ m=t at a ⊢;by_cases k:t=0;exact yW (by simp[k]) (Iw B b m c d f g w h l t a i k);exact yW (by simp[k]) (BI B b m c d f g w h l t a i k);by_cases o:op=13;subst o;have u:(2:Int)<=m.C.length:=by have:(zY 13).1=2:=rfl;omega
 obtain⟨l,a⟩:=fY m zo;have i:1<=l.length:=by have:=congrArg length a;simp at this;omega
 generalize xZ m=t at a ⊢;by_cases k:t=0;exact yW (by simp[k]) (Iz B b m c d f g w h l t a i k);exact yW (by simp[k]) (BK B b m c d f g w h l t a i k);by_cases r:op=31;subst r;have u:(1:Int)<=m.C.length:=by have:(zY 31).1=1:=rfl;omega
 obtain⟨l,a⟩:=fY m zo;generalize xZ m=t at a ⊢;by_cases k:m.lo<(m.out.size:Int)+1;exact yW (by simp[k]) (FP B b m c d f g w h l t a k);exact yW (by simp[k]) (Az B b m c d f g w h l t a zo);by_cases s:op=32;subst s;have u:(1:Int)<=m.C.length:=by have:(zY 32).1=1:=rfl;omega
 obtain⟨l,a⟩:=fY m zo;generalize xZ m=t at a ⊢;by_cases k:m.lo<(m.out.size:Int)+(yA t).length+1;simpa [k]using Ix B b m c d f g w h l t a k;simpa [k]using BJ B b m c d f g w h l t a zo;exact yW (by simp[v,o4,p,q,n,o,r,s]) (Lu B b m c d f g op w h zo zo zo zo (by simp[v,o4,p,q,n,o,r,s]))
theorem lE(m:MS)(op:Int)(h:zJ m op=0):(zY op).1<=m.C.length/\(0<(zY op).2->m.C.length+(zY op).2<=m.ls)/\(yt op).1<=m.G.length/\(0<(yt op).2->m.G.length+(yt op).2<=m.la)/\(op=3->(m.aC.length:Int)<m.lc)/\(op=4->0<m.aC.length)/\(op=29\/op=30->0<=xZ m/\xZ m<m.cells.length)/\(op=12\/op=13->xZ m≠0)/\(op=31->(m.out.size:Int)+1<=m.lo)/\(op=32->(m.out.size:Int)+(yA (xZ m)).length+1<=m.lo):=by unfold zJ at h;by_cases c1:(m.C.length:Int)<(zY op).1;rw[if_pos c1]at h;omega;rw[if_neg c1]at h;by_cases c2:0<(zY op).2/\m.ls<m.C.length+(zY op).2;rw[if_pos c2]at h;omega;rw[if_neg c2]at h;by_cases c3:(m.G.length:Int)<(yt op).1;rw[if_pos c3]at h;omega;rw[if_neg c3]at h;by_cases c4:0<(yt op).2/\m.la<m.G.length+(yt op).2;rw[if_pos c4]at h;omega;rw[if_neg c4]at h;refine⟨zo,zo,zo,zo,?_,?_,?_,?_,?_,?_⟩;rintro rfl;simp only[reduceIte]at h;split at h<;>omega;rintro rfl;simp only[Int.reduceEq,reduceIte]at h;split at h<;>omega;intro e;rw[if_neg zo,if_neg zo,if_pos e]at h;split at h<;>omega;intro e;rw[if_neg zo,if_neg zo,if_neg zo,if_pos e]at h;split at h<;>omega;intro e;rw[if_neg zo,if_neg zo,if_neg zo,if_neg zo,if_pos e]at h;split at h<;>omega;intro e;rw[if_neg zo,if_neg zo,if_neg zo,if_neg zo,if_neg zo,if_pos e]at h;split at h<;>omega
def zK(l:YI):Int:=l.getLast?.getD 0
theorem ae(l:YI)(x:Int):zK (l++[x])=x:=by simp[zK]
theorem JN(m:MS):xZ m=zK m.C:=rfl
theorem vU(l:YI)(h:1<=l.length):l=l.dropLast++[zK l]:=by rcases Zz l with e|⟨k,t,e⟩;rw[e]at h;simp at h;rw[concat_eq_append]at e;rw[e];simp[zK]
theorem wD(l:YI)(h:2<=l.length):l=l.dropLast.dropLast++[zK l.dropLast,zK l]:=by
 have a:=vU l zo;have b:=vU l.dropLast zp
 calc l=l.dropLast++[zK l]:=a
   _=(l.dropLast.dropLast++[zK l.dropLast])++[zK l]:=by rw[<-b]
   _=_:=zs
theorem UH(l:YI)(h:3<=l.length):l=l.dropLast.dropLast.dropLast++[zK l.dropLast.dropLast,zK l.dropLast,zK l]:=by
 have a:=wD l zo;have b:=vU l.dropLast.dropLast zp
 calc l=l.dropLast.dropLast++[zK l.dropLast,zK l]:=a
   _=(l.dropLast.dropLast.dropLast++[zK l.dropLast.dropLast])++[zK l.dropLast,zK l]:=by rw[<-b]
   _=_:=zs
def doS(m:MS)(op arg:Int):MS:=let s:=m.C
 let t:=zK s
 let u:=zK s.dropLast
 let v:=zK s.dropLast.dropLast
 let x:=zK m.G.dropLast
 let y:=zK m.G
 if op=0 then {m with C:=s++[arg]}
 else if op=1 then {m with pc:=arg}
 else if op=2 then(if t=0 then {m with C:=s.dropLast,pc:=arg}else {m with C:=s.dropLast})
 else if op=3 then {m with aC:=m.aC++[m.pc],pc:=arg}
 else if op=4 then {m with aC:=m.aC.dropLast,pc:=zK m.aC}
 else if op=5 then {m with aE:=Y}
 else if op=6 then {m with C:=s.dropLast.dropLast,G:=m.G++[u,t]}
 else if op=7 then(if wrap64 (y+1)=x then {m with G:=m.G.dropLast.dropLast}else {m with G:=m.G.dropLast.dropLast++[x,wrap64 (y+1)],pc:=arg})
 else if op=8\/op=28 then {m with C:=s++[y]}
 else if op=17 then {m with C:=s.dropLast++[-1-t]}
 else if op=18 then {m with C:=s.dropLast++[wrap64 (-t)]}
 else if 9<=op/\op<=20 then {m with C:=s.dropLast.dropLast++[yQ op u t]}
 else if op=21 then {m with C:=s++[t]}
 else if op=22 then {m with C:=s.dropLast}
 else if op=23 then {m with C:=s.dropLast.dropLast++[t,u]}
 else if op=24 then {m with C:=s++[u]}
 else if op=25 then {m with C:=s.dropLast.dropLast.dropLast++[u,t,v]}
 else if op=26 then {m with C:=s.dropLast,G:=m.G++[t]}
 else if op=27 then {m with C:=s++[y],G:=m.G.dropLast}
 else if op=29 then {m with C:=s.dropLast.dropLast,cells:=m.cells.set t.toNat u}
 else if op=30 then {m with C:=s.dropLast++[m.cells[t.toNat]?.getD 0]}
 else if op=31 then {m with C:=s.dropLast,out:=m.out++strOfNums [t%256]}
 else {m with C:=s.dropLast,out:=m.out++⟨(yA t).toArray⟩++⟨#[32]⟩}
theorem TC(B b:Nat)(m:MS)(op arg:Int)(w:YW)(h:McE B w b m)(a:inI arg)(q:0<=op/\op<=32)(t:zJ m op=0):Calls prog 184 #[A (O ⟨b,0,X⟩),I J op,I J arg] w fun e w'=>e=Rt (Tu #[])/\McE B w' b (doS m op arg)/\Below B w w':=by
 obtain⟨c,i,d,u,F,G,r,s,H,n⟩:=lE m op t;clear t;rw[JN]at r s n;have z:=h.R;have x:m.ls<=1000/\m.la<=1000/\m.lc<=1000:=by obtain⟨_,_,_,_,y⟩:=id h;have:=y.lims;omega
 have j:op=0\/op=1\/op=2\/op=3\/op=4\/op=5\/op=6\/op=7\/op=8\/op=9\/op=10\/op=11\/op=12\/op=13\/op=14\/op=15\/op=16\/op=17\/op=18\/op=19\/op=20\/op=21\/op=22\/op=23\/op=24\/op=25\/op=26\/op=27\/op=28\/op=29\/op=30\/op=31\/op=32:=zo;clear q;(repeat' rcases j with rfl|j);have g:(0:Int)<=m.C.length:=c;have f:(0:Int)<=m.G.length:=d;have l:(m.C.length:Int)+1<=m.ls:=i zd;exact TD B b m arg w h a zo;have g:(0:Int)<=m.C.length:=c;have f:(0:Int)<=m.G.length:=d;exact Sl B b m arg w h a;have g:(1:Int)<=m.C.length:=c;have f:(0:Int)<=m.G.length:=d;by_cases k:zK m.C=0;rw[show doS m 2 arg={m with C:=m.C.dropLast,pc:=arg}from if_pos k];exact EC B b m arg _ _ w h a (vU m.C zo) (by simpa using k);rw[show doS m 2 arg={m with C:=m.C.dropLast}from if_neg k];exact Hl B b m arg _ _ w h a (vU m.C zo) (by simpa using k);have g:(0:Int)<=m.C.length:=c;have f:(0:Int)<=m.G.length:=d;exact Sj B b m arg w h a (by have:=F rfl;omega);have g:(0:Int)<=m.C.length:=c;have f:(0:Int)<=m.G.length:=d;exact TE B b m arg _ _ w h a (vU m.aC (G rfl));have g:(0:Int)<=m.C.length:=c;have f:(0:Int)<=m.G.length:=d;exact Sk B b m arg w h a;have g:(2:Int)<=m.C.length:=c;have f:(0:Int)<=m.G.length:=d;have v:(m.G.length:Int)+2<=m.la:=u zd;exact Uz B b m arg _ _ _ w h a (wD m.C zo) zo;have g:(0:Int)<=m.C.length:=c;have f:(2:Int)<=m.G.length:=d;by_cases k:wrap64 (zK m.G+1)=zK m.G.dropLast;rw[show doS m 7 arg={m with G:=m.G.dropLast.dropLast}from if_pos k];exact Hm B b m arg _ _ _ w h a (wD m.G zo) (by simpa using k);rw[show doS m 7 arg={m with G:=m.G.dropLast.dropLast++[zK m.G.dropLast,wrap64 (zK m.G+1)],pc:=arg}from if_neg k];exact Kr B b m arg _ _ _ w h a (wD m.G zo) (by simpa using k);have g:(0:Int)<=m.C.length:=c;have f:(1:Int)<=m.G.length:=d;have l:(m.C.length:Int)+1<=m.ls:=i zd;exact Qi B b m arg _ _ w h a (vU m.G zo) zo;have g:(2:Int)<=m.C.length:=c;have f:(0:Int)<=m.G.length:=d;exact jy 9 B b m arg _ _ _ w h a (wD m.C zo) zo zo;have g:(2:Int)<=m.C.length:=c;have f:(0:Int)<=m.G.length:=d;exact jy 10 B b m arg _ _ _ w h a (wD m.C zo) zo zo;have g:(2:Int)<=m.C.length:=c;have f:(0:Int)<=m.G.length:=d;exact jy 11 B b m arg _ _ _ w h a (wD m.C zo) zo zo;have g:(2:Int)<=m.C.length:=c;have f:(0:Int)<=m.G.length:=d;exact jy 12 B b m arg _ _ _ w h a (wD m.C zo) (fun _=>s zo) zo;have g:(2:Int)<=m.C.length:=c;have f:(0:Int)<=m.G.length:=d;exact jy 13 B b m arg _ _ _ w h a (wD m.C zo) (fun _=>s zo) zo;have g:(2:Int)<=m.C.length:=c;have f:(0:Int)<=m.G.length:=d;exact jy 14 B b m arg _ _ _ w h a (wD m.C zo) zo zo;have g:(2:Int)<=m.C.length:=c;have f:(0:Int)<=m.G.length:=d;exact jy 15 B b m arg _ _ _ w h a (wD m.C zo) zo zo;have g:(2:Int)<=m.C.length:=c;have f:(0:Int)<=m.G.length:=d;exact jy 16 B b m arg _ _ _ w h a (wD m.C zo) zo zo;have g:(1:Int)<=m.C.length:=c;have f:(0:Int)<=m.G.length:=d;exact MP B b m arg _ _ w h a (vU m.C zo);have g:(1:Int)<=m.C.length:=c;have f:(0:Int)<=m.G.length:=d;exact MQ B b m arg _ _ w h a (vU m.C zo);have g:(2:Int)<=m.C.length:=c;have f:(0:Int)<=m.G.length:=d;exact jy 19 B b m arg _ _ _ w h a (wD m.C zo) zo zo;have g:(2:Int)<=m.C.length:=c;have f:(0:Int)<=m.G.length:=d;exact jy 20 B b m arg _ _ _ w h a (wD m.C zo) zo zo;have g:(1:Int)<=m.C.length:=c;have f:(0:Int)<=m.G.length:=d;have l:(m.C.length:Int)+1<=m.ls:=i zd;exact aG b _ arg w _ zo (QF B b m _ _ w h (vU m.C zo) zo);have g:(1:Int)<=m.C.length:=c;have f:(0:Int)<=m.G.length:=d;exact aG b _ arg w _ zo (NL B b m _ _ w h (vU m.C zo));have g:(2:Int)<=m.C.length:=c;have f:(0:Int)<=m.G.length:=d;exact aG b _ arg w _ zo (NO B b m _ _ _ w h (wD m.C zo));have g:(2:Int)<=m.C.length:=c;have f:(0:Int)<=m.G.length:=d;have l:(m.C.length:Int)+1<=m.ls:=i zd;exact aG b _ arg w _ zo (NN B b m _ _ _ w h (wD m.C zo) zo);have g:(3:Int)<=m.C.length:=c;have f:(0:Int)<=m.G.length:=d;exact aG b _ arg w _ zo (QG B b m _ _ _ _ w h (UH m.C zo));have g:(1:Int)<=m.C.length:=c;have f:(0:Int)<=m.G.length:=d;have v:(m.G.length:Int)+1<=m.la:=u zd;exact aG b _ arg w _ zo (KS B b m _ _ w h (vU m.C zo) zo);have g:(0:Int)<=m.C.length:=c;have f:(1:Int)<=m.G.length:=d;have l:(m.C.length:Int)+1<=m.ls:=i zd;exact aG b _ arg w _ zo (NK B b m _ _ w h (vU m.G zo) zo);have g:(0:Int)<=m.C.length:=c;have f:(1:Int)<=m.G.length:=d;have l:(m.C.length:Int)+1<=m.ls:=i zd;exact Sm B b m arg _ _ w h a (vU m.G zo) zo;have g:(2:Int)<=m.C.length:=c;have f:(0:Int)<=m.G.length:=d;obtain⟨D,E⟩:=r zo;have p:((zK m.C).toNat:Int)=zK m.C:=zo;have o:=wD m.C zo;refine aG b _ arg w _ zo (KU B b m m.C.dropLast.dropLast (zK m.C.dropLast) (zK m.C).toNat w h (by rw[p];exact o) zo);have g:(1:Int)<=m.C.length:=c;have f:(0:Int)<=m.G.length:=d;obtain⟨D,E⟩:=r zo;have p:((zK m.C).toNat:Int)=zK m.C:=zo;have o:=vU m.C zo;refine aG b _ arg w _ zo (KT B b m m.C.dropLast (m.cells[(zK m.C).toNat]?.getD 0) (zK m.C).toNat w h (by rw[p];exact o) ?_);rw[Za zo];rfl;have g:(1:Int)<=m.C.length:=c;have f:(0:Int)<=m.G.length:=d;exact aG b _ arg w _ zo (NM B b m _ _ w h (vU m.C zo) (H rfl));have g:(1:Int)<=m.C.length:=c;have f:(0:Int)<=m.G.length:=d;exact aG b _ arg w _ zo (QE B b m _ _ w h (vU m.C zo) (n rfl))
def zW(arg:Int):YI->MS->MS×Int
 |[],m=>(m,0)
 |op::r,m=>if zJ m op=0 then zW arg r (doS m op arg)else(m,zJ m op)
def yb(l:YL)(m:MS):MS×Int:=match l[m.pc.toNat]? with
 |some x=>zW x.2 (ya x.1) {m with pc:=m.pc+1}
 |none=>(m,0)
theorem TL{c:Prop} [Decidable c]{a b d e:MS}{k:List (Nat×Array Value×TypeId)}(f:a={d with ks:=k})(g:b={e with ks:=k}):(if c then a else b)={(if c then d else e)with ks:=k}:=by split<;>assumption
theorem ML(m:MS)(k:List (Nat×Array Value×TypeId))(op arg:Int):doS {m with ks:=k} op arg={doS m op arg with ks:=k}:=by unfold doS;repeat' (first|apply TL|rfl)
theorem MK(m:MS)(op arg:Int):(doS m op arg).ks=m.ks:=by
 have h:(doS {m with ks:=m.ks} op arg).ks=m.ks:=by rw[ML]
 exact h
theorem tw(arg:Int)(a:YI)(m:MS)(k:List (Nat×Array Value×TypeId)):zW arg a {m with ks:=k}=({(zW arg a m).1 with ks:=k},(zW arg a m).2):=by
 induction a generalizing m with
 |nil=>rfl
 |cons op r c=>have b:zJ {m with ks:=k} op=zJ m op:=rfl;unfold zW;rw[b,ML,c];split<;>rfl
theorem dE(op:Int):∀x∈ya op,0<=x/\x<=32:=by
 unfold ya;split;rename_i y c;have a:=mem_of_find?_eq_some c;have:∀y∈qQ,∀x∈y.2,0<=x/\x<=32:=by unfold qQ;simp
 exact this y a;split;intro x b;simp at b;omega;simp
theorem Fz(op:Int):(ya op).length<=3:=by
 unfold ya;split;rename_i y b;have a:=mem_of_find?_eq_some b;have:∀y∈qQ,y.2.length<=3:=by unfold qQ;simp
 exact this y a;split<;>simp
theorem Ll(op:Int)(h:0<=op/\op<=32\/40<=op/\op<=59):1<=(ya op).length:=by
 unfold ya;split;rename_i y d;have b:=mem_of_find?_eq_some d;have:∀y∈qQ,1<=y.2.length:=by unfold qQ;simp
 exact this y b;rename_i c;rcases h with h|h;rw[if_pos h];simp;exfalso;have a:op=40\/op=41\/op=42\/op=43\/op=44\/op=45\/op=46\/op=47\/op=48\/op=49\/op=50\/op=51\/op=52\/op=53\/op=54\/op=55\/op=56\/op=57\/op=58\/op=59:=zo;(repeat' rcases a with rfl|a)<;>simp[qQ]at c
theorem McE.tag{B:Nat}{w w':YW}{b:Nat}{m:MS}(h:McE B w b m)(e:Below w.heap.size w w'){q:Nat}{cs:YV}{T:TypeId}(g:Blk w' q cs T)(i:w.heap.size<=q):McE B w' b {m with ks:=(q,cs,T)::m.ks}:=by obtain⟨_,_,_,_,h⟩:=h;have f:=h.D.lt;refine⟨_,_,_,_,⟨h.D.z e h.D.lt,h.K,?_,h.lims,h.R,h.ints,?_,?_⟩⟩;refine(h.aD.more (bs':=b::q::m.ks.map (fun x=>x.1)) ?_).below_all e;intro c d;simp only[mem_cons]at d ⊢;rcases d with d|d|d;exact Zg (Zg d);exact Zf zo;exact Zg (Zf d);intro x a;rcases mem_cons.1 a with rfl|a;exact g;exact(h.kept x a).z e (h.kept x a).lt;intro x a;rcases mem_cons.1 a with rfl|a;simp only;omega;exact h.kne x a
theorem McE.untag{B:Nat}{w:YW}{b:Nat}{m:MS}{x y:Nat×Array Value×TypeId}{k:List (Nat×Array Value×TypeId)}(h:McE B w b {m with ks:=x::y::k}):McE B w b {m with ks:=k}:=by obtain⟨_,_,_,_,h⟩:=h;refine⟨_,_,_,_,⟨h.D,h.K,?_,h.lims,h.R,h.ints,?_,?_⟩⟩;refine h.aD.more ?_;intro c a;simp only[mem_cons,map_cons]at a ⊢;rcases a with a|a;exact Zg (Zg a);exact Zg (Zf (Zf (Zf a)));exact fun z d=>h.kept z (mem_cons_of_mem _ (mem_cons_of_mem _ d));exact fun z d=>h.kne z (mem_cons_of_mem _ (mem_cons_of_mem _ d))
def Cd(B:Nat)(w:YW)(p:Nat)(l:YL)(en ce:Int):Prop:=∃g cap vH,Blk w p #[S (O ⟨g,0,X⟩) l.length cap,I J en,I J ce,vH] 137/\p<B/\g<B/\w.ownsRow 0 65 2 (S (O ⟨g,0,X⟩) l.length cap) l.length (zc l)
theorem Cd.z{B:Nat}{w w':YW}{p:Nat}{l:YL}{en ce:Int}(h:Cd B w p l en ce)(b:Below B w w'):Cd B w' p l en ce:=by obtain⟨g,cap,i,c,a,d,e⟩:=h;refine⟨g,cap,i,c.z b a,a,d,yR e ?_⟩;intro k f _;simp[Value.ownBlock]at f;exact b.block k zo
theorem Gf{B:Nat}{w:YW}{b:Nat}{m mk:MS}{x y:Nat×Array Value×TypeId}{arg e:Int}{a:YI}(i:zW arg a {m with ks:=x::y::m.ks}=(mk,e))(h:McE B w b mk):McE B w b (zW arg a m).1/\e=(zW arg a m).2:=by
 have c:=tw arg a m (x::y::m.ks);have f:(zW arg a m).1.ks=m.ks:=by have:=tw arg a m m.ks;have g:({m with ks:=m.ks}:MS)=m:=rfl;rw[g]at this;have:=congrArg (fun z:MS×Int=>z.1.ks) this;simpa using this
 rw[i]at c;simp only[Prod.mk.injEq]at c;obtain⟨rfl,rfl⟩:=c;refine⟨?_,rfl⟩;have d:=h.untag;generalize zW arg a m=z at *;obtain⟨j,k⟩:=z;simp only at d f ⊢;rw[<-f]at d;exact d
theorem Pq:(f184.name == "runtime.NumGoroutine")=Z:=zr
theorem OU:f184.body.isNone=Z:=zr
theorem TZ(B b:Nat)(m:MS)(l:YL)(en ce:Int)(w:YW)(h:McE B w b m)(M0:Cd B w m.p l en ce)(a0:yX l)(x0:0<=m.pc/\m.pc<l.length):Calls prog 138 #[A (O ⟨b,0,X⟩)] w fun e w'=>e=Rt (I J (yb l m).2)/\McE B w' b (yb l m).1/\Below B w w':=by
 obtain⟨f,o⟩:∃f:Nat,m.pc=f:=⟨m.pc.toNat,zo⟩;have P0:f<l.length:=zo;obtain⟨x,hx⟩:∃x,l[f]? = O x:=⟨_,Za P0⟩;have D:=a0.ins x (Zd hx);have g1:=a0.R;have e0:yb l m=zW x.2 (ya x.1) {m with pc:=m.pc+1}:=by unfold yb;rw[o,Zr,hx]
 rw[e0];have HS:=V e0;have m0:=V D.2.1;have f1:=Ll x.1 D.1;have R0:=Fz x.1;have S0:=V (dE x.1);clear D e0 a0;obtain⟨v5,v6,v7,v8,h⟩:=h;obtain⟨g,cap,vH,hP,e1,a1,a⟩:=M0;have C0:=zD a (f*2) zo;have D0:=zD a (f*2+1) zo;rw[(zL _ _ _ hx).1]at C0;rw[(zL _ _ _ hx).2]at D0;have F:=hP.u;have hc:=h.D.u;have hf:=h.D.H;unfold yx at hc;rw[o]at hc;have V0:(f:Int)<l.length:=zo;have b1:(f:Int)<=5000:=zo;have c1:(l.length:Int)<=5000:=zo;have Z0:=h.D.lt;have W0:=hP.lt;have U0:=(zC a (k:=g) rfl).1;have i1:IntKind.i64.wrap ((f:Int)+1)=(f:Int)+1:=zw;have K0:=V x0;have L0:=V hx;have HH:=V h;have g0:=V o;clear x0 hx h o a hP;go_enter func138,ntmps138;go_wp2;go_region;go_wp2_with fail;have h:=U HH;have o:=U g0;have q0:McE B (w.setCell ⟨b,10,X⟩ (I J ((f:Int)+1))) b {m with pc:=m.pc+1}:=⟨_,_,_,_,h.field 10 _ _ (by simp[yx,o]) rfl h.lims h.R h.ints⟩;have A0:(w.setCell ⟨b,10,X⟩ (I J ((f:Int)+1))).heap.size=w.heap.size:=by simp[World.setCell]
 have P:=Blk.new (w.setCell ⟨b,10,X⟩ (I J ((f:Int)+1))) #[I J x.1,I J x.2] 65;rw[A0]at P;have f0:=q0.tag (w':=((w.setCell ⟨b,10,X⟩ (I J ((f:Int)+1))).alloc (C #[I J x.1,I J x.2] 65)).drew) ((Ze _ _).alloc (Zc _) _).drew P.drew zo;have Q:Below B w ((w.setCell ⟨b,10,X⟩ (I J ((f:Int)+1))).alloc (C #[I J x.1,I J x.2] 65)).drew:=(((Ze B w).setCell h.K _).alloc (by have:=h.K;omega) _).drew;have l0:B<=((w.setCell ⟨b,10,X⟩ (I J ((f:Int)+1))).alloc (C #[I J x.1,I J x.2] 65)).drew.heap.size:=by have:=h.K;show B<=(World.alloc _ _).heap.size;simp;omega
 clear hc hf F C0 D0 P q0 h o;generalize ((w.setCell ⟨b,10,X⟩ (I J ((f:Int)+1))).alloc (C #[I J x.1,I J x.2] 65)).drew=W1 at f0 Q l0 ⊢;refine(mj x.1 W1).m ?_;rintro e w2 ⟨v,rfl,a,j⟩;have d0:=a.2;rcases d0 with⟨_,h0⟩|⟨N,cp,cur,rfl,r0,L,w0,p0,N0,z⟩;omega;have B0:=f0.tag j (q:=N) (cs:=cur) (T:=3) L r0;have K:Below B w w2:=Q.trans ⟨j.os,j.tape,j.output,j.size,fun k hk=>j.block k zo⟩;have o0:∀(k:Nat)(op:Int),(ya x.1)[k]? = O op->cur[k]? = O (Value.int .i64 op):=by
  intro k op r;have hk:k<(ya x.1).length:=(Zb.1 r).1;have H:(cur.toList.take ((ya x.1).length*1))[k]? = O (I J op):=by rw[z,Zn,r];rfl
  rw[getElem?_take_of_lt zo]at H;simpa using H
 have H0:=V o0;have Y0:Hid ((ya x.1).length<=3):=R0;generalize M:ya x.1=E at *;have i0:=V M;have X0:(E.length:Int)<=3:=zo;clear Q j l0 f0 a z N0 p0 w0 L o0 r0 K0 L0 HH g0 HS M;go_wp2;go_loopw [5] (fun i wr=>∃(k:Nat)(mk:MS),i=I J k/\k<=E.length/\McE B wr b mk/\mk.ks=(N,cur,3)::(w.heap.size,#[I J x.1,I J x.2],65)::m.ks/\zW x.2 (E.drop k) mk=zW x.2 E {m with pc:=m.pc+1,ks:=(N,cur,3)::(w.heap.size,#[I J x.1,I J x.2],65)::m.ks}/\Below B w wr) (fun i _=>E.length-(intOf i).toNat);case atStart=>exact⟨0,_,rfl,Zq _,B0,rfl,rfl,K⟩
 case round=>
  clear B0 K;obtain⟨k,mk,rfl,hk,⟨u5,u6,u7,u8,hm⟩,W,d,u⟩:=hrel;by_cases t0:k<E.length
  ·obtain⟨op,r⟩:∃op,E[k]? = O op:=⟨_,Za t0⟩;have c:=hm.kept;rw[W]at c;have b0:Blk wr N cur 3:=c (N,cur,3) (mem_cons_self ..);have y:=b0.u k;rw[U H0 k op r]at y;have c0:Blk wr w.heap.size #[I J x.1,I J x.2] 65:=c (w.heap.size,#[I J x.1,I J x.2],65) (mem_cons_of_mem _ (mem_cons_self ..));have E0:=c0.u;have y0:=b0.lt;have j0:B<=wr.heap.size:=by have:=hm.K;have:=hm.D.lt;omega
   have R:E.drop k=op::E.drop (k+1):=by obtain⟨s0,rfl⟩:=Zb.1 r;exact drop_eq_getElem_cons s0
   rw[R]at d;have s:=U S0 op (Zd r);have Q0:(k:Int)<E.length:=zo;have HR:=V (Iv B b mk op wr ⟨_,_,_,_,hm⟩);have G:=V d;have HM:=V hm;have I0:=V W;clear d c b0 W hm r;go_wp2_with fail;refine HR.m ?_;rintro e w3 ⟨rfl,t⟩;have u0:=McE.z ⟨_,_,_,_,U HM⟩ t;have T0:=c0.z t c0.lt;by_cases hz:zJ mk op=0
   ·have HD:Hid (∀n,Calls prog 184 #[A (O ⟨b,0,X⟩),I J op,I J x.2] (w3.drewN n) fun e w'=>e=Rt (Tu #[])/\McE B w' b (doS mk op x.2)/\Below B (w3.drewN n) w'):=fun n=>TC B b mk op x.2 (w3.drewN n) (by obtain⟨_,_,_,_,h3⟩:=u0;exact⟨_,_,_,_,h3.drewN n⟩) m0 s hz;have F0:=T0.u;have d1:w3.cell? ⟨N,k,X⟩=O (I J op):=by have:N<wr.heap.size:=y0;rw[t.u (by simpa using this)];exact y
    go_wp2;go_region_law (refine zN rfl 184 #[.tmp 45,.tmp 49,.tmp 51] #[185,3,2] rfl func184 Pq OU #[A (O ⟨b,0,X⟩),I J op,I J x.2] ze (U HD _) ?_;rintro e w4 ⟨rfl,v0,n0⟩;refine⟨_,rfl,?_⟩;have J0:=V v0;have G0:=V (vq n0);clear v0 n0);all_goals
     go_wp2;go_roundw;case rel=>refine⟨k+1,doS mk op x.2,by go_num,zo,U J0,by rw[MK];exact U I0,?_,(u.trans (t.m j0)).trans G0⟩;have hr:=U G;rw[zW,if_pos hz]at hr;exact hr
     case measure=>exact zv
   ·have j1:(zJ mk op==0)=Z:=by simpa using hz
    go_wp2;go_ret;have hr:=U G;rw[zW,if_neg hz]at hr;obtain⟨H,h2⟩:=Gf (m:={m with pc:=m.pc+1}) hr.symm u0;rw[<-U i0]at H h2;exact⟨xO h2,H,u.trans (t.m j0)⟩
  ·have O0:k=E.length:=zo;subst O0;go_wp2;go_ret;rw[drop_length,zW]at d;obtain⟨H,h2⟩:=Gf (m:={m with pc:=m.pc+1}) d.symm ⟨_,_,_,_,hm⟩;rw[<-U i0]at H h2;exact⟨xO h2,H,u⟩
structure gd(l:YL)(m:MS):Prop where
 pc:0<=m.pc/\m.pc<l.length
 aC:∀c∈m.aC,0<=c/\c<l.length
theorem lr{c:Prop} [Decidable c]{p:MS->Prop}{a b:MS}(d:p a)(e:p b):p (if c then a else b):=by split<;>assumption
theorem MM(m:MS)(op arg:Int)(h:op≠1/\op≠2/\op≠3/\op≠4/\op≠5/\op≠7):(doS m op arg).pc=m.pc/\(doS m op arg).aC=m.aC:=by obtain⟨a,b,c,d,e,f⟩:=h;unfold doS;simp only[if_neg a,if_neg b,if_neg c,if_neg d,if_neg e,if_neg f];repeat' (first|refine lr (p:=fun z=>z.pc=m.pc/\z.aC=m.aC) ?_ ?_|exact⟨rfl,rfl⟩)
theorem Uy(m:MS)(op arg:Int):(doS m op arg).p=m.p:=by unfold doS;repeat' (first|refine lr (p:=fun z=>z.p=m.p) ?_ ?_|rfl)
theorem Lj(arg:Int)(a:YI)(m:MS):(zW arg a m).1.p=m.p:=by
 induction a generalizing m with
 |nil=>rfl
 |cons op r b=>unfold zW;split;rw[b,Uy];rfl
theorem Tm(l:YL)(m:MS):(yb l m).1.p=m.p:=by unfold yb;split;rw[Lj];rfl
theorem Io(arg:Int)(a:YI)(m:MS)(h:∀op∈a,op≠1/\op≠2/\op≠3/\op≠4/\op≠5/\op≠7):(zW arg a m).1.pc=m.pc/\(zW arg a m).1.aC=m.aC:=by
 induction a generalizing m with
 |nil=>exact⟨rfl,rfl⟩
 |cons op r e=>unfold zW;split;have b:=e (doS m op arg) (fun o d=>h o (mem_cons_of_mem _ d));have c:=MM m op arg (h op (mem_cons_self ..));exact⟨b.1.trans c.1,b.2.trans c.2⟩;exact⟨rfl,rfl⟩
theorem Iq(op:Int)(h:40<=op):∀x∈ya op,x≠1/\x≠2/\x≠3/\x≠4/\x≠5/\x≠7:=by
 unfold ya;split;rename_i y b;have a:=mem_of_find?_eq_some b;have:∀y∈qQ,∀x∈y.2,x≠1/\x≠2/\x≠3/\x≠4/\x≠5/\x≠7:=by unfold qQ;simp
 exact this y a;rw[if_neg zo];simp
theorem tz(op:Int)(h:0<=op/\op<=32):ya op=[op]:=by
 unfold ya;split;rename_i y a;have b:=mem_of_find?_eq_some a;have c:=find?_some a;have:∀y∈qQ,40<=y.1:=by unfold qQ;simp
 have:=this y b;simp at c;omega;rw[if_pos h]
theorem Gm(l:YI)(h:0<l.length):zK l∈l:=by have:=vU l zo;rw[this,ae];simp
theorem pP{l:YI}{x:Int}(h:x∈l.dropLast):x∈l:=dropLast_subset l h
theorem Ge(l:YL)(m:MS)(B:yX l)(h:gd l m)(he:(yb l m).2=0):(yb l m).1.aE=Y\/gd l (yb l m).1:=by
 obtain⟨k,p⟩:∃k:Nat,m.pc=k:=⟨m.pc.toNat,by have:=h.pc;omega⟩;have q:k<l.length:=by have:=h.pc;omega
 obtain⟨x,u⟩:∃x,l[k]? = O x:=⟨_,Za q⟩;have f:=B.ins x (Zd u);have t:yb l m=zW x.2 (ya x.1) {m with pc:=m.pc+1}:=by unfold yb;rw[p,Zr,u]
 rw[t]at he ⊢;have d:x.1≠1->x.1≠4->x.1≠5->m.pc+1<l.length:=by
  intro L M N;obtain⟨y,v,G⟩:=B.last;have D:k≠l.length-1:=by rintro rfl;rw[getLast?_eq_getElem?]at v;rw[u]at v;obtain rfl:=Zl v;omega
  omega
 rcases f.1 with E|F;rw[tz x.1 E]at he ⊢;unfold zW at he ⊢;by_cases n:zJ {m with pc:=m.pc+1} x.1=0;rw[if_pos n]at he ⊢;unfold zW at he ⊢;simp only;have a:=h.aC;have r:=h.pc;obtain⟨P,Q,R,T,W,K,z7,z8,z9,H⟩:=lE _ _ n;have b:x.1=1\/x.1=2\/x.1=3\/x.1=7->0<=x.2/\x.2<l.length:=by intro e;refine f.2.2 ?_;unfold zT;rcases e with e|e|e|e<;>simp[e]
 by_cases o:x.1=1;right;have e:doS {m with pc:=m.pc+1} x.1 x.2={m with pc:=x.2}:=by rw[o];rfl
 rw[e];exact⟨b (Zg o),a⟩;by_cases w:x.1=2;right;have i:=d zo zo zo;have s:=b (Zf (Zg w));rw[w];show gd l (if zK m.C=0 then {m with C:=m.C.dropLast,pc:=x.2}else {m with C:=m.C.dropLast,pc:=m.pc+1});split;exact⟨s,a⟩;exact⟨⟨zp,i⟩,a⟩;by_cases z:x.1=3;right;have i:=d zo zo zo;have e:doS {m with pc:=m.pc+1} x.1 x.2={m with aC:=m.aC++[m.pc+1],pc:=x.2}:=by rw[z];rfl
 rw[e];refine⟨b (Zf (Zf (Zg z))),?_⟩;intro c g;simp only[Zo,mem_singleton]at g;rcases g with g|rfl;exact a c g;omega;by_cases o4:x.1=4;right;have e:doS {m with pc:=m.pc+1} x.1 x.2={m with aC:=m.aC.dropLast,pc:=zK m.aC}:=by rw[o4];rfl
 rw[e];refine⟨a _ (Gm _ (K o4)),fun c g=>a c (pP g)⟩;by_cases o5:x.1=5;left;rw[o5];rfl;by_cases o7:x.1=7;right;have i:=d zo zo zo;have s:=b (Zf (Zf (Zf o7)));rw[o7];show gd l (if wrap64 (zK m.G+1)=zK m.G.dropLast then {m with G:=m.G.dropLast.dropLast,pc:=m.pc+1}else {m with G:=m.G.dropLast.dropLast++[zK m.G.dropLast,wrap64 (zK m.G+1)],pc:=x.2});split;exact⟨⟨zp,i⟩,a⟩;exact⟨s,a⟩;right;have j:=MM {m with pc:=m.pc+1} x.1 x.2 ⟨o,w,z,o4,o5,o7⟩;have i:=d o o4 o5;refine⟨?_,?_⟩;rw[j.1];simp only;omega;rw[j.2];exact a;rw[if_neg n]at he;exact absurd he n;right;have j:=Io x.2 (ya x.1) {m with pc:=m.pc+1} (Iq x.1 F.1);have i:=d zo zo zo;have r:=h.pc;refine⟨?_,?_⟩;rw[j.1];simp only;omega;rw[j.2];exact h.aC
def zO(l:YL):Nat->Int->MS->MS×Int×Int
 |0,s,m=>if m.aE then(m,0,s)else(m,15,s)
 |f+1,s,m=>if m.aE then(m,0,s)else if(yb l m).2=0 then zO l f (s+1) (yb l m).1 else((yb l m).1,(yb l m).2,s+1)
def fG(st:RS):Prop:=2*st.cells<=st.place0
theorem jM(st:RS)(op arg:Int):(zQ st op arg).cells=st.cells:=by unfold zQ;split<;>rfl
theorem oV(st:RS)(n:Nat):(yN st n).cells=st.cells:=by unfold yN;split<;>rfl
theorem wB(st:RS)(e:Int):(yp st e).cells=st.cells:=by unfold yp;split<;>rfl
theorem bJ(st:RS):(zP st).cells=st.cells:=by unfold zP;split;rw[wB];rfl;rfl
theorem GV(st:RS)(l:List (ByteArray×Int×Int))(x:ByteArray×Int×Int):(vM st l x).cells=st.cells:=by unfold vM;simp only;split;show(yN _ _).cells=_;rw[oV,jM];split;rw[oV];split;rw[jM];split;show(zQ _ _ _).cells=_;rw[jM];split;rw[oV,jM];split;rw[jM];rw[wB]
theorem Dm(st:RS):(qx st).cells=st.cells:=by unfold qx;simp only;split;show(zQ _ _ _).cells=_;rw[jM];split;rfl;split;show(zQ _ _ _).cells=_;rw[jM];split;rw[wB];rw[GV]
theorem Dt(st:RS):(qO st).cells=st.cells:=by unfold qO;split;rw[jM];split;rw[jM];split;split;rw[jM];rfl;split;rw[jM];rw[wB]
theorem Ex(st:RS):(qt st).cells=st.cells\/(qt st).cells=st.cells+1/\(st.E.toList==[118,97,114,105,97,98,108,101])=Y:=by unfold qt;split;split;left;rw[wB];left;show(zQ _ _ _).cells=_;rw[jM];split;left;rw[wB];split;left;rw[bJ];split;left;show(zP st).cells=_;rw[bJ];split;right;refine⟨?_,za⟩;show(zP st).cells+1=_;rw[bJ];left;show(xt (zP st)).cells=_;unfold xt;split;exact bJ st;rw[wB];exact bJ st
theorem KF{st:RS}{m:Nat}(h:Inv st m)(c:fG st):2*(yd st).cells<=st.next:=by
 have f:=h.place;unfold fG at c;unfold yd;split;rcases Ex st with e|⟨e,d⟩;rw[e];omega;have a:st.E.size=8:=by
  have b:st.E.toList=[118,97,114,105,97,98,108,101]:=by simpa using d
  have:=ku st.E;rw[b]at this;simpa using this.symm
 rw[h.E,ByteArray.size_extract]at a;have:=h.next;rw[e];omega;split;rw[Dm];omega;rw[Dt];omega
theorem KJ (f:Nat):∀ {st:RS} {m:Nat},Inv st m→m≤st.place0→fG st→2 * (je f st).cells≤2000:=by
 induction f with
 |zero=>intro st m h hm hc;have h1:=h.place;have h2:=h.next;have h3:=h.size;unfold fG at hc;unfold je;omega
 |succ f ih=>
  intro st m h hm hc;have h1:=h.place;have h2:=h.next;have h3:=h.size;unfold je;split;unfold fG at hc;omega;rename_i hno;have hne:st.E.toList.isEmpty=Z:=by cases e:st.E.toList.isEmpty;rfl;exact absurd (Zg e) hno
  have hi:=KF h hc;have hr:=eJ h hm hne;have ha:=nI h;unfold fi;split;refine ih hr.1 hr.2.1 ?_;unfold fG;have hs:=(qL (cK h)).2;have hn:=ha.2;show 2 * (yd st).cells≤_;omega;rename_i he;rw[qX _ (Zf he)];omega
theorem MR(s:YB)(b:s.size<=2000):(zH s).cells<=1000:=by have a:=qL (eM s b);have k:=KJ (al (zF (yU s))) a.1 (Zq _) (by unfold fG;show(0:Int)<=_;omega);unfold zH;split;rw[wB];show(je _ _).cells<=_;omega;show(je _ _).cells<=_;omega
def cf(x:Int):Prop:=1<=x/\x<=1000
def xG(ls la lc lo:Int):Prop:=cf ls/\cf la/\cf lc/\cf lo
def zZ(p:Nat)(ls la lc lo en ce:Int):MS:=⟨p,ls,la,lc,lo,[],[],[],replicate ce.toNat 0,⟨#[]⟩,en,Z,[]⟩
theorem lV{ls la lc lo:Int}{k:Nat}(h:∀(j:Nat)(v:Int),j<k->[ls,la,lc,lo][j]? = O v->cf v){v:Int}(d:[ls,la,lc,lo][k]? = O v)(a:cf v):∀(j:Nat)(v:Int),j<k+1->[ls,la,lc,lo][j]? = O v->cf v:=by intro j u e b;rcases Nat.lt_or_ge j k with c|c;exact h j u c b;have:j=k:=zo;subst this;rw[d]at b;obtain rfl:=Zl b;exact a
theorem Qn{ls la lc lo:Int}(h:∀(j:Nat)(v:Int),j<4->[ls,la,lc,lo][j]? = O v->cf v):xG ls la lc lo:=⟨h 0 ls zo rfl,h 1 la zo rfl,h 2 lc zo rfl,h 3 lo zo rfl⟩
theorem Ro(p:Nat)(ls la lc lo:Int)(w:YW)(d:¬xG ls la lc lo):Calls prog 137 #[A (O ⟨p,0,X⟩),Ag #[I J ls,I J la,I J lc,I J lo]] w fun e w'=>e=Rt (Tu #[A X,Bl Z])/\Below w.heap.size w w':=by
 have l:Below w.heap.size w ((w.alloc (C #[I J ls,I J la,I J lc,I J lo] 39)).alloc (C #[I J ls,I J la,I J lc,I J lo] 230)):=((Ze _ _).alloc (Zc _) _).alloc zs _;have b:=V l;have f:=V d;clear l d;go_enter func137,ntmps137;go_wp2;go_loop [7] (fun i=>∃k:Nat,k<=4/\i=I J k/\∀(j:Nat)(v:Int),j<k->[ls,la,lc,lo][j]? = O v->cf v) (fun i=>4-(intOf i).toNat);case atStart=>exact⟨0,zo,rfl,fun j v m=>zo⟩
 case round=>
  obtain⟨k,n,rfl,c⟩:=hrel;have a:=V c;clear c;obtain rfl|rfl|rfl|rfl|rfl:k=0\/k=1\/k=2\/k=3\/k=4:=zo
  ·by_cases g:ls<1
   ·go_wp2_with fail;go_ret2;exact⟨rfl,U b⟩
   ·by_cases h:1000<ls
    ·go_wp2_with fail;go_ret2;exact⟨rfl,U b⟩
    ·go_wp2;go_round;case rel=>exact⟨1,zo,rfl,lV a rfl ⟨zo,zo⟩⟩
     case measure=>simp[intOf]
  ·by_cases g:la<1
   ·go_wp2_with fail;go_ret2;exact⟨rfl,U b⟩
   ·by_cases h:1000<la
    ·go_wp2_with fail;go_ret2;exact⟨rfl,U b⟩
    ·go_wp2;go_round;case rel=>exact⟨2,zo,rfl,lV a rfl ⟨zo,zo⟩⟩
     case measure=>simp[intOf]
  ·by_cases g:lc<1
   ·go_wp2_with fail;go_ret2;exact⟨rfl,U b⟩
   ·by_cases h:1000<lc
    ·go_wp2_with fail;go_ret2;exact⟨rfl,U b⟩
    ·go_wp2;go_round;case rel=>exact⟨3,zo,rfl,lV a rfl ⟨zo,zo⟩⟩
     case measure=>simp[intOf]
  ·by_cases g:lo<1
   ·go_wp2_with fail;go_ret2;exact⟨rfl,U b⟩
   ·by_cases h:1000<lo
    ·go_wp2_with fail;go_ret2;exact⟨rfl,U b⟩
    ·go_wp2;go_round;case rel=>exact⟨4,zo,rfl,lV a rfl ⟨zo,zo⟩⟩
     case measure=>simp[intOf]
  exact absurd (Qn a) f
theorem Cm(c:Nat):(madeCells #[Value.int .i64 0] c).toList=zn (replicate c 0):=by unfold madeCells zn;apply ext_getElem?;intro i;simp[getElem?_replicate];by_cases h:i<c;simp[h,Nat.mod_one];simp[h]
theorem Hz (W:YW) (B p:Nat) (ls la lc lo en:Int) (c:Nat) (hB:B≤W.heap.size) (hc:c≤1000) (hl:xG ls la lc lo) : McE B ((W.alloc (C (madeCells #[I J 0] c) 2)).alloc (C #[A (O ⟨p,0,X⟩),I J ls,I J la,I J lc,I J lo,S X 0 0,S X 0 0,S X 0 0,S (O ⟨W.heap.size,0,X⟩) c c,Sr ⟨#[]⟩,I J en,Bl Z] 189)).drew (W.heap.size+1) (zZ p ls la lc lo en c):=by
 have hs1:(W.alloc (C (madeCells #[I J 0] c) 2)).heap.size=W.heap.size+1:=zs;have hrow:((W.alloc (C (madeCells #[I J 0] c) 2)).alloc (C #[A (O ⟨p,0,X⟩),I J ls,I J la,I J lc,I J lo,S X 0 0,S X 0 0,S X 0 0,S (O ⟨W.heap.size,0,X⟩) c c,Sr ⟨#[]⟩,I J en,Bl Z] 189)).drew.ownsRow B 2 1 (S (O ⟨W.heap.size,0,X⟩) c c) c (zn (replicate c 0)):=by refine⟨by simp[zn],Zf ⟨W.heap.size,c,madeCells #[I J 0] c,rfl,hB,((Blk.new W _ _).alloc _).drew,Zc _,zm,by rw[size_madeCells];omega,?_⟩⟩;rw[Cm,take_of_length_le (by simp[zn])]
 have hb:=Blk.new (W.alloc (C (madeCells #[I J 0] c) 2)) #[A (O ⟨p,0,X⟩),I J ls,I J la,I J lc,I J lo,S X 0 0,S X 0 0,S X 0 0,S (O ⟨W.heap.size,0,X⟩) c c,Sr ⟨#[]⟩,I J en,Bl Z] 189;rw[hs1]at hb;refine⟨S X 0 0,S X 0 0,S X 0 0,S (O ⟨W.heap.size,0,X⟩) c c,⟨hb.drew,zo,⟨?_,?_,?_,rfl⟩,?_,?_,?_,?_,?_⟩⟩;intro i v t hv ht;have hi:i<4:=(Zb.1 hv).1;match i,hi with
 |0,_=>simp[jT,zZ,zn]at hv ht;subst hv ht;exact Zm _ _ _ _
 |1,_=>simp[jT,zZ,zn]at hv ht;subst hv ht;exact Zm _ _ _ _
 |2,_=>simp[jT,zZ,zn]at hv ht;subst hv ht;exact Zm _ _ _ _
 |3, _=>simp only[jT,zZ,getElem?_cons_succ,getElem?_cons_zero,Zs,Zr,length_replicate]at hv ht;subst hv ht;exact hrow
 intro i j v v' k hv hv' hk hk';have hi:i<4:=(Zb.1 hv).1;have hj:j<4:=(Zb.1 hv').1;match i,hi with
 |0,_=>simp at hv;subst hv;simp[Value.ownBlock]at hk
 |1,_=>simp at hv;subst hv;simp[Value.ownBlock]at hk
 |2,_=>simp at hv;subst hv;simp[Value.ownBlock]at hk
 |3, _=>
  match j,hj with
  |0,_=>simp at hv';subst hv';simp[Value.ownBlock]at hk'
  |1,_=>simp at hv';subst hv';simp[Value.ownBlock]at hk'
  |2,_=>simp at hv';subst hv';simp[Value.ownBlock]at hk'
  |3,_=>rfl
 intro i v b hv hb e;simp[zZ]at hb;subst hb;have hi:i<4:=(Zb.1 hv).1;match i,hi with
 |0,_=>simp at hv;subst hv;simp[Value.ownBlock]at e
 |1,_=>simp at hv;subst hv;simp[Value.ownBlock]at e
 |2,_=>simp at hv;subst hv;simp[Value.ownBlock]at e
 |3,_=>simp at hv;subst hv;simp[Value.ownBlock]at e
 exact hl;have h4:=hl.2.2.2;unfold cf at h4;have h0:(⟨#[]⟩:YB).size=0:=rfl;simp[zZ,h0];omega;refine⟨by simp[zZ],by simp[zZ],?_⟩;intro x hx;simp[zZ]at hx;rw[hx.2];exact jK zo zo;simp[zZ];simp[zZ]
theorem OI(p:Nat)(ls la lc lo:Int)(l:YL)(en ce:Int)(w:YW)(n:Cd w.heap.size w p l en ce)(s:0<=ce/\ce<=1000)(d:xG ls la lc lo):Calls prog 137 #[A (O ⟨p,0,X⟩),Ag #[I J ls,I J la,I J lc,I J lo]] w fun e w'=>∃b,e=Rt (Tu #[A (O ⟨b,0,X⟩),Bl Y])/\McE w.heap.size w' b (zZ p ls la lc lo en ce)/\Below w.heap.size w w':=by
 obtain⟨g,cap,E,m,z,t,f⟩:=n;obtain⟨c,rfl⟩:∃c:Nat,ce=c:=⟨ce.toNat,zo⟩;have B:=m.u;have o:Below w.heap.size w ((w.alloc (C #[I J ls,I J la,I J lc,I J lo] 39)).alloc (C #[I J ls,I J la,I J lc,I J lo] 230)):=((Ze _ _).alloc (Zc _) _).alloc zs _;have q:=V o;have v:=run_make_row' (P:=prog) 42 2 (I J 0) 8 underlying42 af rfl .i64 .i64 c zo zo;have a:=V d;have x:p<w.heap.size+1:=zo;have y:p<w.heap.size+1+1:=zo;have r:=((((m.alloc (C #[I J ls,I J la,I J lc,I J lo] 39)).alloc (C #[I J ls,I J la,I J lc,I J lo] 230)).alloc (C (madeCells #[I J 0] c) 2)).drew).u;clear o d f m;go_enter func137,ntmps137;go_wp2;go_loop [7] (fun i=>∃k:Nat,k<=4/\i=I J k) (fun i=>4-(intOf i).toNat);case atStart=>exact⟨0,zo,rfl⟩
 case round=>
  obtain⟨k,D,rfl⟩:=hrel;obtain rfl|rfl|rfl|rfl|rfl:k=0\/k=1\/k=2\/k=3\/k=4:=zo
  ·have h:¬ls<1:=by have:=a.1.1;omega
   have j:¬1000<ls:=by have:=a.1.2;omega
   go_wp2;go_round;case rel=>exact⟨1,zo,rfl⟩
   case measure=>simp[intOf]
  ·have h:¬la<1:=by have:=a.2.1.1;omega
   have j:¬1000<la:=by have:=a.2.1.2;omega
   go_wp2;go_round;case rel=>exact⟨2,zo,rfl⟩
   case measure=>simp[intOf]
  ·have h:¬lc<1:=by have:=a.2.2.1.1;omega
   have j:¬1000<lc:=by have:=a.2.2.1.2;omega
   go_wp2;go_round;case rel=>exact⟨3,zo,rfl⟩
   case measure=>simp[intOf]
  ·have h:¬lo<1:=by have:=a.2.2.2.1;omega
   have j:¬1000<lo:=by have:=a.2.2.2.2;omega
   go_wp2;go_round;case rel=>exact⟨4,zo,rfl⟩
   case measure=>simp[intOf]
  ·go_wp2;go_region;go_wp2_with fail;go_ret2;refine⟨w.heap.size+1+1+1,rfl,?_,?_⟩;have u:=Hz ((w.alloc (C #[I J ls,I J la,I J lc,I J lo] 39)).alloc (C #[I J ls,I J la,I J lc,I J lo] 230)) w.heap.size p ls la lc lo en c zp zo a;simpa using u;refine((q.alloc ?_ _).alloc ?_ _).drew<;>simp<;>omega
def byteCells(s:YB):List Value:=s.toList.map (fun c=>Value.int .u8 c.toNat)
def yC(tb:Nat)(vl:Value)(m:MS)(st:Int)(vS vA vC vE vO:Value):Array Value:=#[A (O ⟨tb,0,X⟩),I J m.ls,I J m.la,I J m.lc,I J m.lo,vl,I J m.pc,I J st,Bl m.aE,vS,vA,vC,vE,vO]
def xx(m:MS):List xL:=[⟨2,1,m.C.length,zn m.C⟩,⟨2,1,m.G.length,zn m.G⟩,⟨3,1,m.aC.length,zn m.aC⟩,⟨2,1,m.cells.length,zn m.cells⟩,⟨5,1,m.out.size,byteCells m.out⟩]
structure MOk(m:MS):Prop where
 lims:(1<=m.ls/\m.ls<=1000)/\(1<=m.la/\m.la<=1000)/\(1<=m.lc/\m.lc<=1000)/\(1<=m.lo/\m.lo<=1000)
 C:(m.C.length:Int)<=m.ls
 G:(m.G.length:Int)<=m.la
 aC:(m.aC.length:Int)<=m.lc
 cells:m.cells.length<=1000
 out:(m.out.size:Int)<=m.lo
 ints:(∀x∈m.C,inI x)/\(∀x∈m.G,inI x)/\(∀x∈m.cells,inI x)
structure Pm(B:Nat)(w:YW)(b tb:Nat)(vl:Value)(m:MS)(st:Int)(vS vA vC vE vO:Value):Prop where
 D:Blk w b (yC tb vl m st vS vA vC vE vO) 122
 K:B<=b
 aD:yS B w [b] [vS,vA,vC,vE,vO] (xx m)
def PmE(B:Nat)(w:YW)(b tb:Nat)(vl:Value)(m:MS)(st:Int):Prop:=∃vS vA vC vE vO,Pm B w b tb vl m st vS vA vC vE vO
section
variable {B:Nat} {w w' w1:YW} {b tb:Nat} {vl:Value} {m:MS} {st:Int} {vS vA vC vE vO:Value}
theorem Pm.oS(h:Pm B w b tb vl m st vS vA vC vE vO):w.ownsRow B 2 1 vS m.C.length (zn m.C):=h.aD.own 0 vS _ rfl rfl
theorem Pm.oA(h:Pm B w b tb vl m st vS vA vC vE vO):w.ownsRow B 2 1 vA m.G.length (zn m.G):=h.aD.own 1 vA _ rfl rfl
theorem Pm.oC(h:Pm B w b tb vl m st vS vA vC vE vO):w.ownsRow B 3 1 vC m.aC.length (zn m.aC):=h.aD.own 2 vC _ rfl rfl
theorem Pm.oE(h:Pm B w b tb vl m st vS vA vC vE vO):w.ownsRow B 2 1 vE m.cells.length (zn m.cells):=h.aD.own 3 vE _ rfl rfl
theorem Pm.oO(h:Pm B w b tb vl m st vS vA vC vE vO):w.ownsRow B 5 1 vO m.out.size (byteCells m.out):=h.aD.own 4 vO _ rfl rfl
theorem Pm.size(h:Pm B w b tb vl m st vS vA vC vE vO):B<=w.heap.size:=by have:=h.K;have:=h.D.lt;omega
theorem Pm.off(h:Pm B w b tb vl m st vS vA vC vE vO)(i:Nat)(v:Value)(a:[vS,vA,vC,vE,vO][i]? = O v):O b≠v.ownBlock:=fun e=>h.aD.off i v b a zs e.symm
theorem Pm.z(h:Pm B w b tb vl m st vS vA vC vE vO)(a:Below w.heap.size w w'):Pm B w' b tb vl m st vS vA vC vE vO:=⟨h.D.z a h.D.lt,h.K,h.aD.below_all a⟩
theorem PmE.z(h:PmE B w b tb vl m st)(a:Below w.heap.size w w'):PmE B w' b tb vl m st:=by obtain⟨_,_,_,_,_,h⟩:=h;exact⟨_,_,_,_,_,h.z a⟩
theorem PmE.size(h:PmE B w b tb vl m st):B<=w.heap.size:=by obtain⟨_,_,_,_,_,h⟩:=h;exact h.size
theorem PmE.lt(h:PmE B w b tb vl m st):b<w.heap.size:=by obtain⟨_,_,_,_,_,h⟩:=h;exact h.D.lt
def xu(w w':YW):Prop:=∀(k:Nat)(cs:YV)(T:TypeId),Blk w k cs T->(T=171\/T=65)->Blk w' k cs T
theorem xu.refl(w:YW):xu w w:=fun _ _ _ h _=>h
theorem xu.trans{a b c:YW}(h:xu a b)(k:xu b c):xu a c:=fun i cs T e d=>k i cs T (h i cs T e d) d
theorem xu.aB{w w':YW}(h:Below w.heap.size w w'):xu w w':=fun _ _ _ a _=>a.z h a.lt
theorem fE{w:YW}{k:Nat}{cs b:YV}{T c:TypeId}(h:Blk w k cs T)(a:Blk w k b c):T=c:=by unfold Blk at h a;rw[h]at a;simp at a;exact a.2
theorem Oh{m:MS}{i:Nat}{s:xL}(h:(xx m)[i]? = O s):s.e=2\/s.e=3\/s.e=5:=by
 match i,h with
 |0,h=>simp[xx]at h;subst h;exact Zg rfl
 |1,h=>simp[xx]at h;subst h;exact Zg rfl
 |2,h=>simp[xx]at h;subst h;exact Zf (Zg rfl)
 |3,h=>simp[xx]at h;subst h;exact Zg rfl
 |4,h=>simp[xx]at h;subst h;exact Zf (Zf rfl)
 |i+5,h=>simp[xx]at h
theorem Pm.keeps(h:Pm B w b tb vl m st vS vA vC vE vO){F:Nat->Prop}(q:zU w w' F)(l:∀k,F k->k=b\/∃(i:Nat)(v:Value),[vS,vA,vC,vE,vO][i]? = O v/\v.ownBlock=O k):xu w w':=by
 intro k cs T c g;refine c.still q (fun e=>?_);rcases l k e with rfl|⟨i,v,j,n⟩;have:=fE h.D c;subst this;rcases g with e|e<;>exact absurd e zd;have o:=h.aD.len;have f:i<(xx m).length:=by rw[<-o];exact(Zb.1 j).1
 have p:=Oh (Za f);refine zR c (h.aD.own i v _ j (Za f)) (fun e=>?_) n;rcases g with d|d<;>rcases p with a|a|a<;>rw[d,a]at e<;>exact absurd e zd
theorem Pm.field(h:Pm B w b tb vl m st vS vA vC vE vO)(c:Nat)(u:Value)(d:MS)(a:Int)(f:(yC tb vl m st vS vA vC vE vO).setIfInBounds c u=yC tb vl d a vS vA vC vE vO)(g:xx d=xx m):Pm B (w.setCell ⟨b,c,X⟩ u) b tb vl d a vS vA vC vE vO/\xu w (w.setCell ⟨b,c,X⟩ u)/\Below B w (w.setCell ⟨b,c,X⟩ u):=by refine⟨⟨?_,h.K,?_⟩,h.keeps (F:=fun k=>k=b) (zU.set (F:=fun k=>k=b) (zU.refl w _) (Zg rfl) _ _) (fun k e=>Zg e),(Ze B w).setCell h.K _⟩;rw[<-f];exact h.D.set c u;rw[g];exact h.aD.set zs c u
theorem Pm.grow(h:Pm B w b tb vl m st vS vA vC vE vO)(i c:Nat)(v v':Value)(d:xL)(s:MS)(z t u x y:Value)(j:[vS,vA,vC,vE,vO][i]? = O v)(a:w.grownBy w1 v.ownBlock)(f:w1.ownsRow B d.e d.size v' d.n d.xs)(l:v'.ownBlock=v.ownBlock\/∃g,v'.ownBlock=O g/\w.heap.size<=g)(D:(yC tb vl m st vS vA vC vE vO).setIfInBounds c v'=yC tb vl s st z t u x y)(r:[vS,vA,vC,vE,vO].set i v'=[z,t,u,x,y])(G:(xx m).set i d=xx s):Pm B (w1.setCell ⟨b,c,X⟩ v') b tb vl s st z t u x y/\xu w (w1.setCell ⟨b,c,X⟩ v')/\Below B w (w1.setCell ⟨b,c,X⟩ v'):=by
 have p:=h.D.lt;have q:zU w (w1.setCell ⟨b,c,X⟩ v') (fun k=>k=b\/v.ownBlock=O k):=zU.set (F:=fun k=>k=b\/v.ownBlock=O k) (zU.grown (F:=fun k=>k=b\/v.ownBlock=O k) (zU.refl w _) a (fun k o=>Zg (Zf o))) (Zg (Zg rfl)) _ _;refine⟨⟨?_,h.K,?_⟩,h.keeps q (fun k e=>by rcases e with e|e;exact Zg e;exact Zf ⟨i,v,j,e⟩),?_⟩;rw[<-D];exact(h.D.grown a (h.off i v j)).set c v';rw[<-r,<-G];exact(h.aD.grow i v v' d j (by simp;exact p) a f l).set (b:=b) zs c v';refine((Ze B w).grown a h.size ?_).setCell h.K _;intro k o;have H:=h.aD.len;have E:i<(xx m).length:=by rw[<-H];exact(Zb.1 j).1
 exact(zC (h.aD.own i v _ j (Za E)) o).2
end
theorem qW(l:YI):(zn l).length=l.length:=by simp[zn]
theorem mH(l:YI):∀u∈zn l,u.oneCell'=Y:=by intro u a;simp[zn]at a;obtain⟨x,_,rfl⟩:=a;rfl
theorem cJ(l r:YI):zn (l++r)=zn l++zn r:=by simp[zn]
theorem yr{B:Nat}{a w:YW}(h:Below B a w):Below B a w.drew:=⟨h.os,h.tape,h.output,h.size,h.block⟩
theorem ud{v v':Value}{w:YW}(h:v'.ownBlock=v.ownBlock\/v'.ownBlock=O w.heap.size):v'.ownBlock=v.ownBlock\/∃g,v'.ownBlock=O g/\w.heap.size<=g:=by rcases h with h|h;exact Zg h;exact Zf ⟨_,h,Zc _⟩
def wk(w:YW)(q:Nat)(news:YI):Prop:=∀j u,(zn news)[j]? = O u->w.cell? ((⟨q,0,X⟩:Addr).add j)=O u
theorem wk.new(w:YW)(x:Int)(T:TypeId):wk (w.alloc (C #[I J x] T)) w.heap.size [x]:=World.news_of_block (Blk.new w _ T)
theorem wk.two(w:YW)(x y:Int)(T:TypeId):wk (w.alloc (C #[I J x,I J y] T)) w.heap.size [x,y]:=World.news_of_block (Blk.new w _ T)
def qh(B:Nat)(w:YW)(b tb:Nat)(vl:Value)(m:MS)(st:Int)(v:Value)(e:Ending)(w':YW):Prop:=e=Rt v/\PmE B w' b tb vl m st/\xu w w'/\Below B w w'
theorem wH(B b F:Nat)(G:Value)(m:MS)(st:Int)(w:YW)(h:PmE B w b F G m st)(q k c:Nat)(a:YI)(y:a.length=k)(E:wk w q a)(z:m.C.length<=2000/\k<=10):Calls prog 158 #[A (O ⟨b,0,X⟩),S (O ⟨q,0,X⟩) k c] w (qh B w b F G {m with C:=m.C++a} st (Tu #[])):=by
 obtain⟨i0,hi,p,r,s⟩:=info_parts af;obtain⟨vS,vA,vC,vE,vO,h⟩:=h;obtain⟨R,kS,o⟩:=zu h.oS;subst o;have l:=h.off 0 _ rfl;have x:=h.D.u;have W:=h.D.H;unfold yC at x;have N:=V h.oS;have t:=V h.D;unfold yC at t;have Q:=V h.size;have L:=V h;have P:=V E;have M:Hid ((zn a).length=k*1):=by show(zn a).length=k*1;rw[qW,y,Nat.mul_one]
 have i:=V (mH a);clear h E;go_enter func158,ntmps158;go_wp2_with (at_builtin;refine wpList_append_own_at _ rfl (.tmp 8) (.tmp 9) 42 rfl B 2 i0 _ 1 8 underlying42 hi p r s rfl zd (S R m.C.length kS) m.C.length (zn m.C) zf N ⟨q,0,X⟩ k c (zn a) zf M P i zm zo Q ?_;intro v5 w5 e d _ g;obtain⟨u,v,n⟩:=zu e;subst n;have f:=t.grown d l;have T:=f.u;have a0:=f.H;have j:=V e;have K:=V d;have H:=V g;clear e d g f x W);go_end0;have D:=U j;rw[<-cJ]at D;obtain⟨k1,k2,k3⟩:=L.grow 0 9 _ (S u (m.C.length+k) v) ⟨2,1,m.C.length+k,zn (m.C++a)⟩ {m with C:=m.C++a} (S u (m.C.length+k) v) vA vC vE vO rfl K D (ud H) (by simp[yC]) rfl (by simp[xx,y]);exact⟨rfl,⟨_,_,_,_,_,k1⟩,k2,k3⟩
theorem tA(B b F:Nat)(G:Value)(m:MS)(st:Int)(w:YW)(h:PmE B w b F G m st)(q k c:Nat)(a:YI)(y:a.length=k)(E:wk w q a)(z:m.G.length<=2000/\k<=10):Calls prog 159 #[A (O ⟨b,0,X⟩),S (O ⟨q,0,X⟩) k c] w (qh B w b F G {m with G:=m.G++a} st (Tu #[])):=by
 obtain⟨i0,hi,p,r,s⟩:=info_parts af;obtain⟨vS,vA,vC,vE,vO,h⟩:=h;obtain⟨R,kS,o⟩:=zu h.oA;subst o;have l:=h.off 1 _ rfl;have x:=h.D.u;have W:=h.D.H;unfold yC at x;have N:=V h.oA;have t:=V h.D;unfold yC at t;have Q:=V h.size;have L:=V h;have P:=V E;have M:Hid ((zn a).length=k*1):=by show(zn a).length=k*1;rw[qW,y,Nat.mul_one]
 have i:=V (mH a);clear h E;go_enter func159,ntmps159;go_wp2_with (at_builtin;refine wpList_append_own_at _ rfl (.tmp 8) (.tmp 9) 42 rfl B 2 i0 _ 1 8 underlying42 hi p r s rfl zd (S R m.G.length kS) m.G.length (zn m.G) zf N ⟨q,0,X⟩ k c (zn a) zf M P i zm zo Q ?_;intro v5 w5 e d _ g;obtain⟨u,v,n⟩:=zu e;subst n;have f:=t.grown d l;have T:=f.u;have a0:=f.H;have j:=V e;have K:=V d;have H:=V g;clear e d g f x W);go_end0;have D:=U j;rw[<-cJ]at D;obtain⟨k1,k2,k3⟩:=L.grow 1 10 _ (S u (m.G.length+k) v) ⟨2,1,m.G.length+k,zn (m.G++a)⟩ {m with G:=m.G++a} vS (S u (m.G.length+k) v) vC vE vO rfl K D (ud H) (by simp[yC]) rfl (by simp[xx,y]);exact⟨rfl,⟨_,_,_,_,_,k1⟩,k2,k3⟩
theorem CD(B b o:Nat)(p:Value)(m:MS)(st:Int)(w:YW)(h:PmE B w b o p m st)(l:YI)(x:Int)(he:m.G=l++[x])(t:m.G.length<=1000):Calls prog 161 #[A (O ⟨b,0,X⟩)] w fun e w'=>e=Rt (I J x)/\Below w.heap.size w w':=by
 obtain⟨D,u,v,y,z,h⟩:=h;have f:m.G.length=l.length+1:=by rw[he];simp
 obtain⟨g,k,rfl,r,d⟩:=h.oA.form zo;have c:=h.oA;have a:=h.D;unfold yC at a;rw[f]at a c;have j:=zD c l.length zo;rw[he,ja]at j;have i:(l.length:Int)<=1000:=zo;have s:(l.length:Int)+1<=k:=by have:=(vG c).1;omega
 have q:=a.u;have n:=a.lt;clear a c h;go_enter func161,ntmps161;go_wp2;go_region;go_wp2;go_ret;exact⟨rfl,yr (Ze _ _)⟩
theorem Aw(B b o:Nat)(p:Value)(m:MS)(st:Int)(w:YW)(h:PmE B w b o p m st)(l r:YI)(he:m.G=l++r)(Q:0<r.length)(R:m.G.length<=1000):Calls prog 160 #[A (O ⟨b,0,X⟩),I J r.length] w (qh B w b o p {m with G:=l} st (Tu #[])):=by
 obtain⟨G,T,D,E,F,h⟩:=h;have v:m.G.length=l.length+r.length:=by rw[he];simp
 obtain⟨g,k,rfl,N,s⟩:=h.oA.form zo;have a:=bV h.oA l.length zo;rw[he,vZ]at a;obtain⟨e,f,i⟩:=h.grow 1 10 _ (S (O ⟨g,0,X⟩) l.length k) ⟨2,1,l.length,zn l⟩ {m with G:=l} G (S (O ⟨g,0,X⟩) l.length k) D E F rfl (World.grownBy.refl _ _) a (Zg rfl) (by simp[yC]) rfl (by simp[xx]);have P:(l.length:Int)+r.length<=k:=by have:=(vG h.oA).1;omega
 have d:=h.D;unfold yC at d;rw[v]at d;have L:=d.u;have M:=d.H;have q:=V (And.intro e (And.intro f i));clear d h a e f i;generalize u:l.length=n at *;generalize y:r.length=c at *;have H:(n:Int)<=1000:=zo;have K:(c:Int)<=1000:=zo;have t:(n:Int)<=k:=zo;have z:IntKind.i64.wrap ((n:Int)+c-c)=n:=zw;have j:(n:Int)+c-c=n:=zo;have x:((n+c:Nat):Int)=(n:Int)+c:=zo;go_enter func160,ntmps160;go_wp2;go_region;go_wp2;go_end0;obtain⟨e,f,i⟩:=U q;exact⟨rfl,⟨_,_,_,_,_,e.z (yr (Ze _ _))⟩,f,yr i⟩
theorem mm(B b l:Nat)(n:Value)(m:MS)(st:Int)(w:YW)(h:PmE B w b l n m st)(k:Int)(p:m.cells.length<=1000):Calls prog 167 #[A (O ⟨b,0,X⟩),I J k] w fun e w'=>e=Rt (Bl (decide (0<=k)&&decide (k<m.cells.length)))/\w'=w:=by
 obtain⟨u,q,r,s,t,h⟩:=h;obtain⟨o,c,i⟩:=zu h.oE;subst i;have f:=h.D.u;unfold yC at f;have g:(m.cells.length:Int)<=1000:=zo;have j:IntKind.i64.wrap (m.cells.length:Int)=m.cells.length:=zw;clear h;by_cases a:0<=k
 ·by_cases d:k<m.cells.length
  ·have e:(decide (0<=k)&&decide (k<(m.cells.length:Int)))=Y:=by simp[a,d]
   rw[e];clear e;go_enter func167,ntmps167;go_wp2;go_ret;exact⟨rfl,rfl⟩
  ·have e:(decide (0<=k)&&decide (k<(m.cells.length:Int)))=Z:=by simp[d]
   rw[e];clear e;go_enter func167,ntmps167;go_wp2;go_ret;exact⟨rfl,rfl⟩
 ·have e:(decide (0<=k)&&decide (k<(m.cells.length:Int)))=Z:=by simp[a]
  rw[e];clear e;go_enter func167,ntmps167;go_wp2;go_ret;exact⟨rfl,rfl⟩
theorem mI(t g n:Int)(w:YW):Calls prog 207 #[Ag #[I J t,I J g],I J n] w fun e w'=>e=Rt (Bl (decide (n<t)))/\w'=w.alloc (C #[I J t,I J g] 107):=by
 by_cases h:n<t
 ·go_enter func207,ntmps207;go_wp2;go_ret;exact⟨jI (by simp[h]),rfl⟩
 ·go_enter func207,ntmps207;go_wp2;go_ret;exact⟨jI (by simp[h]),rfl⟩
theorem Ut{P:Prop}(zz0:P:=by
 have d:IntKind.i64.wrap (n-t)=n-t:=zw;have f:IntKind.i64.wrap (n-t+g)=n-t+g:=zw;by_cases h:l<n-t+g
 ·go_enter func208,ntmps208;go_wp2;go_ret;exact⟨jI (by simp[h]),rfl⟩
 ·go_enter func208,ntmps208;go_wp2;go_ret;exact⟨jI (by simp[h]),rfl⟩):P:=zz0
theorem Ah(t g n l:Int)(w:YW)(b:0<=n/\n<=2000)(c:0<=t/\t<=10)(a:0<=g/\g<=10):Calls prog 208 #[Ag #[I J t,I J g],I J n,I J l] w fun e w'=>e=Rt (Bl (decide (l<n-t+g)))/\w'=w.alloc (C #[I J t,I J g] 107):=Ut
end Go.Proofs.YtmeiikjpaepogaaGreatDoor
