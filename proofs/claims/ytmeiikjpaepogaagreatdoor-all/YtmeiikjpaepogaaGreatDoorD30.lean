/- Own. -/
import Derived.Test.YtmeiikjpaepogaaGreatDoorD27
import Derived.Deep.RegionHeldLaw
open Option renaming some->O,none->X
open Bool renaming true->Y,false->Z
open Go.Value renaming int->I,slice->S,pointer->A,bool->Bl,tuple->Tu
open Go.Obj renaming cells->C
open Go.Ending renaming returned->Rt
open Go.IntKind renaming i64->J
set_option maxRecDepth 100000
set_option maxHeartbeats 32000000
namespace Go.Proofs.YtmeiikjpaepogaaGreatDoor
open Go Go.RowKit Go.Proofs.Tryz List
def CdH(B:Nat)(w:YW)(p:Nat)(l:YL)(en ce:Int)(he:YI):Prop:=∃g cap vH,Blk w p #[S (O ⟨g,0,X⟩) l.length cap,I J en,I J ce,vH] 137/\p<B/\g<B/\w.ownsRow 0 65 2 (S (O ⟨g,0,X⟩) l.length cap) l.length (zc l)/\w.ownsRow 0 3 1 vH he.length (he.map (Value.int .i64))
theorem CdH.cd{B:Nat}{w:YW}{p:Nat}{l:YL}{en ce:Int}{he:YI}(h:CdH B w p l en ce he):Cd B w p l en ce:=by obtain⟨g,cap,e,a,b,c,d,_⟩:=h;exact⟨g,cap,e,a,b,c,d⟩
theorem CdH.law{w w':YW}{p:Nat}{l:YL}{en ce:Int}{he:YI}(h:CdH w.heap.size w p l en ce he)(a:zz w w'):CdH w'.heap.size w' p l en ce he:=by obtain⟨g,cap,e,b,f,i,c,d⟩:=h;have:=a.size;exact⟨g,cap,e,a.D b,zo,zo,a.row c,a.row d⟩
structure Tl(B:Nat)(w:YW)(q:Nat)(L:YL)(en ce:Int)(vL vH:Value):Prop where
 D:Blk w q #[vL,I J en,I J ce,vH] 137
 K:B<=q
 aD:yS B w [q] [vL] [⟨65,2,L.length,zc L⟩]
section
variable {B:Nat} {w:YW} {q:Nat} {L:YL} {en ce:Int} {vL vH:Value}
theorem Tl.alloc(h:Tl B w q L en ce vL vH)(o:Obj):Tl B (w.alloc o) q L en ce vL vH:=⟨h.D.alloc o,h.K,h.aD.alloc o⟩
theorem Tl.oL(h:Tl B w q L en ce vL vH):w.ownsRow B 65 2 vL L.length (zc L):=h.aD.own 0 vL _ rfl rfl
theorem Tl.far(h:Tl B w q L en ce vL vH):O q≠vL.ownBlock:=fun e=>h.aD.off 0 vL q rfl zs e.symm
theorem Tl.lts(h:Tl B w q L en ce vL vH):∀k∈[q],k<w.heap.size:=by intro k a;simp at a;subst a;exact h.D.lt
theorem Tl.growL{e:YW}(h:Tl B w q L en ce vL vH){xs:YL}{v':Value}(c:w.grownBy e vL.ownBlock)(a:e.ownsRow B 65 2 v' (L.length+xs.length) (zc L++zc xs))(d:v'.ownBlock=vL.ownBlock\/∃g,v'.ownBlock=O g/\w.heap.size<=g):Tl B (e.setCell ⟨q,0,X⟩ v') q (L++xs) en ce v' vH:=by refine⟨?_,h.K,?_⟩;have:=(h.D.grown c h.far).set 0 v';simpa using this;have:=(h.aD.grow 0 vL v' ⟨65,2,L.length+xs.length,zc L++zc xs⟩ rfl h.lts c a d).set (b:=q) zs 0 v';simpa [zc]using this
theorem Tl.setFar (h:Tl B w q L en ce vL vH) (n c:Nat) (u:Value) (h1:n≠q) (h3:vL.ownBlock≠O n):Tl B (w.setCell ⟨n,c,X⟩ u) q L en ce vL vH :=
  ⟨h.D.far (a:=⟨n,c,X⟩) (fun e=>h1 e.symm) u,h.K,h.aD.to (fun i v k hv e _=>Below.heap_setCell _ _ _ _ (fun e2=>by
    have hi:=(Zb.1 hv).1
    match i,hi with
    | 0, _ =>
      simp at hv
      subst hv
      exact h3 (by rw[e,e2])))⟩
end
theorem LN(l:YL)(k:Nat)(a:k<l.length):(qb l).take (k+1)=(qb l).take k++[aU l k]:=by refine take_one _ _ _ ?_;unfold qb;rw[Zn,getElem?_range a];rfl
theorem Tl.cdH{B:Nat}{w:YW}{q:Nat}{L:YL}{en ce:Int}{e b:Value}{he:YI}(h:Tl B w q L en ce e b)(a:0<L.length)(d:w.ownsRow 0 3 1 b he.length (he.map (Value.int .i64))):CdH w.heap.size w q L en ce he:=by obtain⟨g,cap,rfl,_,c⟩:=h.oL.form a;exact⟨g,cap,b,h.D,h.D.lt,c,zV h.oL (Zq _),d⟩
theorem pB(w:YW)(p:Nat)(l:YL)(en ce:Int)(he:YI)(h:CdH w.heap.size w p l en ce he)(p0:0<l.length)(hl:l.length<=5000):Calls prog 65 #[A (O ⟨p,0,X⟩)] w fun e w'=>∃q,e=Rt (A (O ⟨q,0,X⟩))/\CdH w'.heap.size w' q (qb l) en ce he/\Below w.heap.size w w':=by
 obtain⟨iI,A0,t0,u0,v0⟩:=info_parts yJ;obtain⟨g,cap,vH,h1,h2,h3,G,h5⟩:=h;obtain⟨F,W,rfl⟩:=zu h5;have hc:=h1.u;have O0:(l.length:Int)<=5000:=zo;have HP:=V h1;have HR:=V G;have HH:=V h5;clear G h5;go_enter func65,ntmps65;go_wp2;go_region;go_wp2_with fail;have H:Tl w.heap.size (w.alloc (C #[S X 0 0,I J en,I J ce,S F he.length W] 137)).drew w.heap.size [] en ce (S X 0 0) (S F he.length W):=by refine⟨(Blk.new w _ _).drew,Zc _,?_⟩;have h0:yS w.heap.size (w.alloc (C #[S X 0 0,I J en,I J ce,S F he.length W] 137)).drew [w.heap.size] [] []:=⟨fun i v s hv=>by simp at hv,fun i j v v' k hv=>by simp at hv,fun i v b hv=>by simp at hv,rfl⟩;exact h0.nil _ _
 have K:Below w.heap.size w (w.alloc (C #[S X 0 0,I J en,I J ce,S F he.length W] 137)).drew:=((Ze _ _).alloc (Zc _) _).drew;generalize (w.alloc (C #[S X 0 0,I J en,I J ce,S F he.length W] 137)).drew=w0 at H K ⊢;have d0:=V H;have a0:=V K;clear H K;generalize hq:w.heap.size=q at *;have D:=V hq;clear hq;go_loopw [4] (fun i wr=>∃(k:Nat)(vL:Value),i=I J k/\k<=l.length/\Tl q wr q ((qb l).take k) en ce vL (S F he.length W)/\Below q w wr) (fun i _=>l.length-(intOf i).toNat);case atStart=>exact⟨0,_,rfl,Zq _,U d0,U a0⟩
 case round=>
  clear d0 a0;obtain⟨k,vL,rfl,hk,a,o⟩:=hrel;have N:=(HP.z o zo).u;have t:p<wr.heap.size:=by have:=o.size;have:=U D;omega
  have N0:(k:Int)<=5000:=zo;by_cases n0:k<l.length
  ·have I0:(k:Int)<l.length:=zo;obtain⟨x,hx⟩:∃x,l[k]? = O x:=⟨_,Za n0⟩;have r:g<wr.heap.size:=by have:=o.size;have:=U D;omega
   have Q:=zD HR (k*2) zo;have R:=zD HR (k*2+1) zo;rw[(zL _ _ _ hx).1]at Q;rw[(zL _ _ _ hx).2]at R;rw[<-o.u zp]at Q R;have e0:=V (LN l k n0);have r0:aU l k=if x.1=3/\(∃y,l[k+1]? = O y/\y.1=4)then(1,x.2)else x:=by
    unfold aU;rw[hx];cases hy:l[k+1]? with
    |none=>simp
    |some y=>simp
   have u:=V r0;have d:Blk (wr.alloc (C #[I J x.1,I J x.2] 65)) wr.heap.size #[I J x.1,I J x.2] 65:=Blk.new wr _ _;have B:=a.alloc (C #[I J x.1,I J x.2] 65);have q0:q<=wr.heap.size:=by have:=o.size;have:=U D;omega
   have f:Below q w (wr.alloc (C #[I J x.1,I J x.2] 65)):=o.alloc q0 _;have f0:wr.heap.size≠q:=by have:=a.D.lt;omega
   have g0:vL.ownBlock≠O wr.heap.size:=fun e=>by
     have:=(zC a.oL e).1
     omega
   go_upto_region 6 with fail;generalize wr.alloc (C #[I J x.1,I J x.2] 65)=wy at d B f ⊢;generalize wr.heap.size=nb at d f0 g0 q0 ⊢;clear N Q R a o t r r0;have N:=(HP.z f (by have:=U D;omega)).u;have t:p<wy.heap.size:=by have:=f.size;have:=U D;omega
   have r:g<wy.heap.size:=by have:=f.size;have:=U D;omega
   have l0:=d.u;have o0:=d.lt;have y0:=d.H;have P:(∃c:Bool,aU l k=(if c=Y then(1,x.2)else x)/\((x.1==3)=Z/\c=Z\/(x.1==3)=Y/\¬(k:Int)+1<l.length/\c=Z\/(x.1==3)=Y/\(k:Int)+1<l.length/\∃n:Int,wy.cell? ⟨g,(k+1)*2,X⟩=O (I J n)/\(n==4)=c)):=by by_cases h3:x.1=3;by_cases m0:k+1<l.length;obtain⟨y,hy⟩:∃y,l[k+1]? = O y:=⟨_,Za m0⟩;have T:=zD HR ((k+1)*2) zo;rw[(zL _ _ _ hy).1]at T;rw[<-f.u (by simp;have:=U D;omega)]at T;refine⟨y.1==4,?_,Zf (Zf ⟨by simpa using h3,zo,y.1,T,rfl⟩)⟩;rw[U u];by_cases G:y.1=4;rw[if_pos ⟨h3,y,hy,G⟩,if_pos (by simpa using G)];rw[if_neg (by rintro⟨_,z,hz,E0⟩;rw[hy]at hz;obtain rfl:=Zl hz;exact G E0),if_neg (by simpa using G)];refine⟨Z,?_,Zf (Zg ⟨by simpa using h3,zo,rfl⟩)⟩;rw[U u,if_neg (by rintro⟨_,z,hz,_⟩;exact m0 (Zb.1 hz).1)];rfl;refine⟨Z,?_,Zg ⟨by simpa using h3,rfl⟩⟩;rw[U u,if_neg (fun h=>h3 h.1)];rfl
   obtain⟨c,k0,M⟩:=P;have b0:=V k0;clear k0 u;go_cut [60]from 20 to 71 (fun F0 wz=>F0=Bl c/\wz=wy)
   case first=>rcases M with⟨q1,rfl⟩|⟨q1,q2,rfl⟩|⟨q1,q2,n,q3,q4⟩;all_goals go_wp2;go_meet;exact⟨by simp[*],rfl⟩
   case rest=>
    obtain⟨rfl,rfl⟩:=hcut;go_upto_if 60 with fail;go_cut []from 20 to 71 (fun wz=>∃n,aU l k=(n,x.2)/\Blk wz nb #[I J n,I J x.2] 65/\Tl q wz q ((qb l).take k) en ce vL (S F he.length W)/\Below q w wz)
    case first=>
     clear M;cases c
     ·go_wp2;go_meet;exact⟨x.1,U b0,d,B,f⟩
     ·go_wp2;go_meet;exact⟨1,U b0,by have:=d.set 0 (I J 1);simpa using this,B.setFar nb 0 _ f0 g0,f.setCell (by show q<=nb;omega) _⟩
    case rest=>
     clear N t r l0 o0 y0 d B f M;obtain⟨n,s0,hN,a,o⟩:=hcut;have l0:=hN.u;have o0:=hN.lt;have K0:=a.D.u;have M0:=a.D.H;have P0:=a.D.lt;have HB:=V a.D;have D0:=a.far;have C0:((qb l).take k).length<=5000:=by rw[length_take];omega
     have c0:Hid ((qb l).take (k+1)=(qb l).take k++[(n,x.2)]):=by show(qb l).take (k+1)=(qb l).take k++[(n,x.2)];rw[U e0,s0]
     clear e0 s0;generalize (qb l).take k=ll at a C0 c0;have HW:=V (zE a.oL (C #[I J n,I J x.2] 65));have x0:Hid (q<=(wc.alloc (C #[I J n,I J x.2] 65)).drew.heap.size):=by have:=a.K;show q<=(wc.alloc _).heap.size;simp;omega
     go_wp2;go_region_law (refine step_append_lies _ rfl (.tmp 66) (.tmp 68) 33 rfl q 65 iI _ 2 16 underlying33 A0 t0 u0 v0 rfl zd vL ll.length (zc ll) zf HW ⟨wc.heap.size,0,X⟩ 1 1 [I J n,I J x.2] zf rfl (World.news_of_block (Blk.new wc _ _)) (jL _ _) zo zm zo x0 _ rfl ?_;intro g2 G0 w2 E m i0 H0;have L:=(HB.alloc _).drew.grown m D0;have J0:=L.u;have L0:=L.H;have HO:=V E;have HG:=V m;have HA:=V i0;clear E m i0 L);all_goals
      go_wp2;go_roundw;case rel=>have hg:=a.growL (xs:=[(n,x.2)]) (xU HG) HO (qG HA zs);rw[<-U c0]at hg;refine⟨k+1,_,by go_num,zo,hg,?_⟩;exact o.trans ((xh (by have:=a.K;omega) (fun k hk=>(zC a.oL hk).2) HG).setCell (p:=⟨q,0,X⟩) a.K _)
      case measure=>exact zv
  ·go_wp2;go_ret;have B0:(qb l).take k=qb l:=take_of_length_le (by rw[my];omega);rw[B0]at a;have j0:Below w.heap.size w wr:=by rw[U D];exact o
   refine⟨q,rfl,a.cdH (by rw[my];exact p0) ((zz.aB j0).row HH),by first|exact j0|exact o⟩
def dR (he:YI) (b:List Bool):Nat→List Bool
  | 0=>b
  | k + 1 => match he[k]? with
    | some h=>(dR he b k).set h.toNat Y
    | none=>dR he b k
def aN(b:List Bool)(i:Nat)(x:Int×Int):List Bool:=let c:=if zT x.1=Y then b.set x.2.toNat Y else b
 if(zT x.1=Y\/x.1=4\/x.1=5)/\i+1<b.length then c.set (i+1) Y else c
def bY (l:YL) (he:YI):Nat→List Bool
  | 0=>dR he ((replicate l.length Z).set 0 Y) he.length
  | k + 1 => match l[k]? with
    | some x=>aN (bY l he k) k x
    | none=>bY l he k
def rbS(l:YL)(he:YI):List Bool:=bY l he l.length
theorem tX(he:YI)(b:List Bool)(k:Nat):(dR he b k).length=b.length:=by
 induction k with
 |zero=>rfl
 |succ k a=>unfold dR;split;rw[length_set,a];exact a
theorem Lr(b:List Bool)(i:Nat)(x:Int×Int):(aN b i x).length=b.length:=by unfold aN;simp only;split<;>split<;>simp
theorem uk(l:YL)(he:YI)(k:Nat):(bY l he k).length=l.length:=by
 induction k with
 |zero=>unfold bY;rw[tX];simp
 |succ k a=>unfold bY;split;rw[Lr,a];exact a
theorem DJ(w:YW)(p:Nat)(l:YL)(en ce:Int)(he:YI)(h:CdH w.heap.size w p l en ce he)(t0:0<l.length)(hl:l.length<=5000)(M0:he.length<=5000)(q0:∀x∈he,0<=x/\x<l.length)(hj:∀x∈l,zT x.1=Y->0<=x.2/\x.2<l.length):Calls prog 135 #[A (O ⟨p,0,X⟩)] w fun e w'=>∃g,e=Rt (S (O ⟨g,0,X⟩) (rbS l he).length (rbS l he).length)/\xm w.heap.size w' g (rbS l he)/\Below w.heap.size w w':=by
 obtain⟨g,cap,vH,h1,h2,h3,h4,P⟩:=h;obtain⟨aH,kH,rfl⟩:=zu P;have hc:=h1.u;have O0:(l.length:Int)<=5000:=zo;have N0:(1:Int)<=l.length:=zo;have L0:(he.length:Int)<=5000:=zo;have G0:=rM l.length zo;have Q:=og w l.length zo;have R:=zB w (C (madeCells #[Bl Z] (l.length*1)) 4);simp only[Nat.mul_one]at Q R G0;have u:=V Q;have f0:=V R;have HP:=V h1;have HR:=V h4;have HH:=V P;have x0:=V q0;have HJ:=V hj;clear h4 P q0 hj Q R;have B0:(w.alloc (C (madeCells #[Bl Z] l.length) 4)).cell? ⟨w.heap.size,0,X⟩=O (Bl Z):=u.u (j:=0) (by rw[getElem?_replicate,if_pos t0]);go_enter func135,ntmps135;go_upto_region 2 with fail;generalize w.alloc (C (madeCells #[Bl Z] l.length) 4)=W at *;have C0:=u.H;have E0:=u.lt.1;go_wp2_with fail;have i0:Hid (xm w.heap.size (W.setCell ⟨w.heap.size,0,X⟩ (Bl Y)) w.heap.size (dR he ((replicate l.length Z).set 0 Y) 0)):=u.set 0 Y;have g0:Hid (Below w.heap.size w (W.setCell ⟨w.heap.size,0,X⟩ (Bl Y))):=f0.setCell zs _;clear C0 B0 u f0 hc E0;go_loopw [4] (fun i wr=>∃k:Nat,i=I J k/\k<=he.length/\xm w.heap.size wr w.heap.size (dR he ((replicate l.length Z).set 0 Y) k)/\Below w.heap.size w wr) (fun i _=>he.length-(intOf i).toNat);case atStart=>exact⟨0,rfl,Zq _,U i0,U g0⟩
 case round=>
  clear i0 g0;obtain⟨k,rfl,hk,F,o⟩:=hrel;have a0:=(HP.z o zo).u;have G:p<wr.heap.size:=by have:=o.size;omega
  have s:=tX he ((replicate l.length Z).set 0 Y) k;rw[length_set,length_replicate]at s;by_cases d0:k<he.length
  ·obtain⟨x,K⟩:∃x,he[k]? = O x:=⟨_,Za d0⟩;have s0:(k:Int)<he.length:=zo;have H0:=U x0 x (Zd K);obtain⟨d,rfl⟩:∃d:Nat,x=d:=⟨x.toNat,zo⟩;obtain⟨gH,I0,v0,_,D0⟩:=HH.form zo;simp only[Zk,true_and]at v0;obtain⟨rfl,rfl⟩:=v0;have n:=zD HH k zo;rw[Zn,K]at n;rw[<-o.u (by simpa using D0)]at n;simp only[Option.map_some]at n;have J0:gH<wr.heap.size:=by have:=o.size;omega
   have m:Hid (dR he ((replicate l.length Z).set 0 Y) (k+1)=(dR he ((replicate l.length Z).set 0 Y) k).set d Y):=by show dR he ((replicate l.length Z).set 0 Y) (k+1)=_;rw[dR,K];simp
   generalize dR he ((replicate l.length Z).set 0 Y) k=b at *;obtain⟨v,hv⟩:∃v,b[d]? = O v:=⟨_,Za zo⟩;have j0:=F.u hv;have l0:=F.H;have o0:=F.lt.1;have u0:(d:Int)<b.length:=zo;clear hv K;go_wp2;go_roundw;case rel=>refine⟨k+1,by go_num,zo,?_,o.setCell zs _⟩;rw[U m];exact F.set d Y
   case measure=>exact zv
  ·have c0:k=he.length:=zo;subst c0;have HO:=V F;have h0:=V o;clear o F s;go_wp2;go_loopw [5] (fun i wr=>∃k:Nat,i=I J k/\k<=l.length/\xm w.heap.size wr w.heap.size (bY l he k)/\Below w.heap.size w wr) (fun i _=>l.length-(intOf i).toNat);case atStart=>exact⟨0,rfl,Zq _,U HO,U h0⟩
   case round=>
    clear HO h0 a0 G;obtain⟨k,rfl,hk,F,o⟩:=hrel;have a0:=(HP.z o zo).u;have G:p<wr.heap.size:=by have:=o.size;omega
    have s:=uk l he k;by_cases d0:k<l.length
    ·obtain⟨x,K⟩:∃x,l[k]? = O x:=⟨_,Za d0⟩;have s0:(k:Int)<l.length:=zo;have n0:g<wr.heap.size:=by have:=o.size;omega
     have n:=zD HR (k*2) zo;have L:=zD HR (k*2+1) zo;rw[(zL _ _ _ K).1]at n;rw[(zL _ _ _ K).2]at L;rw[<-o.u zp]at n L;have r0:=U HJ x (Zd K);have m:Hid (bY l he (k+1)=aN (bY l he k) k x):=by show bY l he (k+1)=_;rw[bY,K]
     obtain⟨q,x2⟩:=x;simp only at n L r0;have r:Hid (Below w.heap.size w (wr.alloc (C #[I J q,I J x2] 65))):=o.trans ((zB wr _).m o.size);have y0:=V (fun W=>mi q W);have c:=V (F.alloc (C #[I J q,I J x2] 65));have z:=V (Blk.new wr #[I J q,I J x2] 65);have K0:=F.lt.1;have T:wr.heap.size≠w.heap.size:=zo;clear F o K;generalize A0:bY l he k=b at *;clear A0;go_wp2_with fail;refine(U y0 _).m ?_;rintro e w1 ⟨rfl,w0⟩;rw[<-w0]at r c z;clear w0 n L a0 G n0;have b0:=z.u;have e0:=z.lt;by_cases E:zT q=Y
     ·have H0:=r0 E;obtain⟨d,rfl⟩:∃d:Nat,x2=d:=⟨x2.toNat,zo⟩;obtain⟨v,hv⟩:∃v,b[d]? = O v:=⟨_,Za zo⟩;have j0:=c.u hv;have l0:=c.H;have o0:=c.lt.1;have u0:(d:Int)<b.length:=zo;have t:Hid (xm w.heap.size (w1.setCell ⟨w.heap.size,d,X⟩ (Bl Y)) w.heap.size (b.set d Y)):=c.set d Y;have y:Hid (Below w.heap.size w (w1.setCell ⟨w.heap.size,d,X⟩ (Bl Y))):=r.setCell zs _;have f:=V (z.far (a:=⟨w.heap.size,d,X⟩) T (Bl Y));rw[E];clear hv;go_upto_region 14 with fail;generalize w1.setCell ⟨w.heap.size,d,X⟩ (Bl Y)=w2 at t y f ⊢;clear j0 l0 o0 b0 e0 c r z;by_cases F0:k+1<l.length
      ·obtain⟨v2,H⟩:∃v,(b.set d Y)[k+1]? = O v:=⟨_,Za (by rw[length_set];omega)⟩;have k0:=t.u H;have m0:=t.H;have p0:=t.lt.1;have B:(k:Int)+1<b.length:=zo;have b0:=f.u;have e0:=f.lt;clear H;go_wp2;go_roundw;case rel=>refine⟨k+1,by go_num,zo,?_,y.setCell zs _⟩;rw[U m];unfold aN;simp only[E,if_true,true_or,true_and,Zr];rw[if_pos zo];exact t.set (k+1) Y
       case measure=>exact zv
      ·have B:¬(k:Int)+1<b.length:=zo;have b0:=f.u;have e0:=f.lt;go_wp2;go_roundw;case rel=>refine⟨k+1,by go_num,zo,?_,U y⟩;rw[U m];unfold aN;simp only[E,if_true,true_or,true_and,Zr];rw[if_neg zo];exact U t
       case measure=>exact zv
     ·have D:zT q=Z:=by simpa using E
      rw[D];have M:(q==4)=Y\/(q==4)=Z:=by cases (q==4)<;>simp
      have N:(q==5)=Y\/(q==5)=Z:=by cases (q==5)<;>simp
      by_cases F0:k+1<l.length
      ·obtain⟨v2,H⟩:∃v,b[k+1]? = O v:=⟨_,Za zo⟩;have k0:=c.u H;have m0:=c.H;have p0:=c.lt.1;have B:(k:Int)+1<b.length:=zo;clear H;rcases M with M|M
       ·have h4:q=4:=by simpa using M
        go_wp2;go_roundw;case rel=>refine⟨k+1,by go_num,zo,?_,r.setCell zs _⟩;rw[U m];unfold aN;simp only[D,Bool.false_eq_true,if_false,false_or];rw[if_pos ⟨Zg h4,zo⟩];exact c.set (k+1) Y
        case measure=>exact zv
       ·rcases N with N|N
        ·have P:q=5:=by simpa using N
         go_wp2;go_roundw;case rel=>refine⟨k+1,by go_num,zo,?_,r.setCell zs _⟩;rw[U m];unfold aN;simp only[D,Bool.false_eq_true,if_false,false_or];rw[if_pos ⟨Zf P,zo⟩];exact c.set (k+1) Y
         case measure=>exact zv
        ·have h4:¬q=4:=by simpa using M
         have P:¬q=5:=by simpa using N
         go_wp2;go_roundw;case rel=>refine⟨k+1,by go_num,zo,?_,U r⟩;rw[U m];unfold aN;simp only[D,Bool.false_eq_true,if_false,false_or];rw[if_neg (by rintro⟨e|e,_⟩;exact h4 e;exact P e)];exact U c
         case measure=>exact zv
      ·have B:¬(k:Int)+1<b.length:=zo;rcases M with M|M<;>rcases N with N|N;all_goals
        go_wp2;go_roundw;case rel=>refine⟨k+1,by go_num,zo,?_,U r⟩;rw[U m];unfold aN;simp only[D,Bool.false_eq_true,if_false,false_or];rw[if_neg (by rintro⟨_,e⟩;omega)];exact U c
        case measure=>exact zv
    ·have c0:k=l.length:=zo;subst c0;go_wp2;go_ret;refine⟨w.heap.size,by rw[<-s];rfl,F,o⟩
def dU(row:YL)(k:Nat)(ps:YI):Nat->Bool
 |0=>Y
 |j+1=>dU row k ps j&&((row.getD (k+j) (0,0)).1==ps.getD j 0)
def gQ(row:YL)(b:YI)(i:Nat)(op:Int):YI:=if(ya op).length<=i/\dU row (i-(ya op).length) (ya op) (ya op).length=Y/\b.getD (i-(ya op).length) 0+1<b.getD i 0 then b.set i (b.getD (i-(ya op).length) 0+1)else b
def jJ(row:YL)(b:YI)(i:Nat):Nat->List Int
 |0=>b
 |n+1=>gQ row (jJ row b i n) i ((40+n:Nat):Int)
def qf(row:YL):Nat->List Int
 |0=>replicate (row.length+1) 0
 |i+1=>jJ row ((qf row i).set (i+1) ((qf row i).getD i 0+1)) (i+1) 20
def sJ(row:YL):Int:=(qf row row.length).getD row.length 0
theorem Lx(row:YL)(b:YI)(i:Nat)(op:Int):(gQ row b i op).length=b.length:=by unfold gQ;split;simp;rfl
theorem rJ(row:YL)(b:YI)(i n:Nat):(jJ row b i n).length=b.length:=by
 induction n with
 |zero=>rfl
 |succ n a=>unfold jJ;rw[Lx,a]
theorem FU(row:YL)(i:Nat):(qf row i).length=row.length+1:=by
 induction i with
 |zero=>unfold qf;simp
 |succ i a=>unfold qf;rw[rJ,length_set,a]
def bp(n:Nat)(b:YI):Prop:=∀x∈b,0<=x/\x<=n
theorem bp.get{n:Nat}{b:YI}(h:bp n b)(i:Nat):0<=b.getD i 0/\b.getD i 0<=n:=by
 rw[Zj];cases e:b[i]? with
 |none=>simp
 |some y=>exact h y (Zd e)
theorem bp.set{n:Nat}{b:YI}(h:bp n b)(i:Nat)(v:Int)(c:0<=v/\v<=n):bp n (b.set i v):=by intro x d;rcases mem_or_eq_of_mem_set d with a|rfl;exact h x a;exact c
theorem bp.m{n m:Nat}{b:YI}(h:bp n b)(c:n<=m):bp m b:=fun x a=>by have:=h x a;omega
theorem FT{row:YL}{n:Nat}{b:YI}(h:bp n b)(i:Nat)(op:Int):bp n (gQ row b i op):=by unfold gQ;split;rename_i d;have a:=h.get i;have c:=h.get (i-(ya op).length);exact h.set i _ zo;exact h
theorem tE{row:YL}{n:Nat}{b:YI}(h:bp n b)(i m:Nat):bp n (jJ row b i m):=by
 induction m with
 |zero=>exact h
 |succ m a=>unfold jJ;exact FT a i _
theorem Ly(row:YL)(i:Nat):bp i (qf row i):=by
 induction i with
 |zero=>intro x a;unfold qf at a;have:=eq_of_mem_replicate a;omega
 |succ i b=>unfold qf;refine tE ((b.m zo).set _ _ ?_) _ _;have:=b.get i;omega
theorem getD_some{α:Type}{l:List α}{i:Nat}{d:α}(h:i<l.length):l[i]? = O (l.getD i d):=by rw[Zj,Za h];rfl
theorem xP.K{B a:Nat}{w:YW}{g:Nat}{b:YI}(h:xP B w g b)(c:a<=B):xP a w g b:=zV h c
theorem xP.drewN{B:Nat}{w:YW}{g:Nat}{b:YI}(h:xP B w g b)(n:Nat):xP B (w.drewN n) g b:=(zz.aB (zS (Ze _ _) n)).row h
theorem NZ(n:Nat)(h:n<20):1<=(ya ((40+n:Nat):Int)).length/\(ya ((40+n:Nat):Int)).length<=3:=by have:∀k:Fin 20,1<=(ya ((40+k.val:Nat):Int)).length/\(ya ((40+k.val:Nat):Int)).length<=3:=zd;exact this ⟨n,h⟩
theorem DK(ao:YA)(c:Nat)(row:YL)(w:YW)(k0:InL w ao row)(hl:row.length<=5000):Calls prog 182 #[S ao row.length c] w fun e w'=>e=Rt (I J (sJ row))/\Below w.heap.size w w':=by
 have U0:(row.length:Int)<=5000:=zo;have N:=mu (row.length+1) zo;rw[show((row.length+1:Nat):Int)=(row.length:Int)+1 from zo]at N;have K:=mg w (row.length+1) zo;have l:=zB w (C (madeCells #[I J 0] ((row.length+1)*1)) 3);simp only[Nat.mul_one]at K l N;have a0:=V K;have c0:=V l;have p0:=V k0;clear K l k0;go_enter func182,ntmps182;go_wp2_with fail;generalize w.alloc (C (madeCells #[I J 0] (row.length+1)) 3)=W at *;clear N;go_loopw [4] (fun v wr=>∃i:Nat,v=I J ((i:Int)+1)/\i<=row.length/\xP w.heap.size wr w.heap.size (qf row i)/\Below w.heap.size w wr) (fun v _=>row.length+1-(intOf v).toNat);case atStart=>exact⟨0,rfl,Zq _,U a0,U c0⟩
 case round=>
  clear a0 c0;obtain⟨i,rfl,hi,p,L⟩:=hrel;have B:=FU row i;have P:=Ly row i;by_cases W0:i<row.length
  ·have M0:(i:Int)+1<=row.length:=zo;have g0:=p.u (getD_some (d:=0) (show i<(qf row i).length from zo));have h0:=p.u (getD_some (d:=0) (show i+1<(qf row i).length from zo));have i0:=p.H;have M:=p.lt.1;have u0:=P.get i;have s:((qf row i).length:Int)=row.length+1:=zo;have f0:Hid (xP w.heap.size (wr.setCell ⟨w.heap.size,i+1,X⟩ (I J ((qf row i).getD i 0+1))) w.heap.size (jJ row ((qf row i).set (i+1) ((qf row i).getD i 0+1)) (i+1) 0)):=p.set (i+1) _;have d0:Hid (Below w.heap.size w (wr.setCell ⟨w.heap.size,i+1,X⟩ (I J ((qf row i).getD i 0+1)))):=L.setCell zs _;have s0:Hid (bp (i+1) ((qf row i).set (i+1) ((qf row i).getD i 0+1))):=(P.m zo).set _ _ zo;have q0:Hid (((qf row i).set (i+1) ((qf row i).getD i 0+1)).length=row.length+1):=by show((qf row i).set (i+1) ((qf row i).getD i 0+1)).length=row.length+1;rw[length_set,B]
   have r0:Hid (qf row (i+1)=jJ row ((qf row i).set (i+1) ((qf row i).getD i 0+1)) (i+1) 20):=rfl;clear p L P;generalize (qf row i).getD i 0=v0 at *;go_wp2_with fail;generalize (qf row i).set (i+1) (v0+1)=t at *;generalize wr.setCell ⟨w.heap.size,i+1,X⟩ (I J (v0+1))=W1 at *;clear g0 h0 i0 M u0 s B;go_loopw [5] (fun v wr=>∃n:Nat,v=I J ((40+n:Nat):Int)/\n<=20/\xP w.heap.size wr w.heap.size (jJ row t (i+1) n)/\Below w.heap.size w wr) (fun v _=>60-(intOf v).toNat);case atStart=>exact⟨0,rfl,zo,U f0,U d0⟩
   case round=>
    clear f0 d0;obtain⟨n,rfl,hn,p,L⟩:=hrel;have N0:((40+n:Nat):Int)=40+n:=zo;by_cases G0:n<20
    ·obtain⟨X0,Y0⟩:=NZ n G0;have e0:=V (mj ((40+n:Nat):Int) wr);have a:Hid (jJ row t (i+1) (n+1)=gQ row (jJ row t (i+1) n) (i+1) ((40+n:Nat):Int)):=rfl;have E0:(jJ row t (i+1) n).length=row.length+1:=by rw[rJ];exact U q0
     have D:bp (i+1) (jJ row t (i+1) n):=tE s0 _ _;generalize jJ row t (i+1) n=b at *;have HO:=V p;have G:=V L;have z:=V D;clear p L D;have V0:((40+n:Nat):Int)<=59:=zo;unfold gQ at a;generalize Z0:ya ((40+n:Nat):Int)=f at *;go_wp2_with fail;refine e0.m ?_;rintro e E ⟨v,rfl,hv,l⟩;obtain⟨gp,kp,rfl,R0,j0⟩:=hv.form zo;have o:=V (HO.z l);have q:Hid (Below w.heap.size w E):=G.trans (l.m G.size);have HV:=V hv;have L0:(f.length:Int)<=3:=zo;have F0:(1:Int)<=f.length:=zo;clear hv l e0 HO G;by_cases hk:f.length<=i+1
     ·obtain⟨k,S0⟩:∃k:Nat,k+f.length=i+1:=⟨i+1-f.length,zo⟩;have m0:(i:Int)+1-f.length=k:=zo;have A0:i+1-f.length=k:=zo;rw[A0]at a;have r:¬((i:Int)+1-f.length<0):=zo;go_wp2_with fail;first|rw[m0]|skip
      clear m0 r;go_loopw [8,9] (fun vi vj wr=>∃(j m:Nat),vi=Bl (dU row k f j)/\vj=I J j/\j<=f.length/\wr=E.drewN m) (fun _ vj _=>f.length-(intOf vj).toNat);case atStart=>exact⟨0,0,rfl,rfl,Zq _,rfl⟩
      case round=>
       obtain⟨j,m,rfl,rfl,hj,rfl⟩:=hrel;by_cases D0:j<f.length
       ·have B0:(j:Int)<f.length:=zo;obtain⟨x,hx⟩:∃x,row[k+j]? = O x:=⟨_,Za zo⟩;obtain⟨y,hy⟩:∃y,f[j]? = O y:=⟨_,Za D0⟩;obtain⟨g,off,rfl,w0,c1,c2⟩:=ju (p0.z q) hx;have Q:=zD HV j zo;rw[Zn,hy]at Q;simp only[Option.map_some]at Q;obtain⟨R,n0⟩:∃R:Nat,k+j=R:=⟨_,rfl⟩;rw[n0]at c1;have I0:(k:Int)+(j:Int)=(R:Int):=zo;have J0:(R:Int)<row.length:=zo;have K0:IntKind.i64.wrap (R:Int)=R:=zw;have P0:(E.drewN m).cell? ⟨g,off+R*2,X⟩=O (I J x.1):=c1;have O0:(E.drewN m).cell? ⟨gp,j,X⟩=O (I J y):=Q;have H0:g<(E.drewN m).heap.size:=w0;have x0:gp<(E.drewN m).heap.size:=j0;have HN:Hid (dU row k f (j+1)=(dU row k f j&&(x.1==y))):=by show dU row k f (j+1)=_;rw[dU,Zj,hx,Zj,hy];rfl
        clear c2 hx hy;generalize l0:dU row k f j=bi at *;clear l0;go_wp2_with fail;cases bi;all_goals
         go_quiet (fail);go_wp2;go_roundw;case rel=>exact⟨j+1,_,by first|(rw[U HN];rfl)|(rw[U HN];simp;done),by go_num,zo,by first|rfl|exact(qZ _ _ _)⟩
         case measure=>exact zv
       ·have C0:j=f.length:=zo;subst C0;have B0:¬((f.length:Int)<f.length):=zo;have Q0:=o.u (getD_some (d:=0) (show k<b.length from zo));have g0:=o.u (getD_some (d:=0) (show i+1<b.length from zo));have i0:=o.H;have M:=o.lt.1;have b1:=z.get k;have a1:=z.get (i+1);have T0:(k:Int)<row.length+1:=zo;have F:Hid (∀T,Below w.heap.size w (E.drewN T)):=fun T=>zS q T;have H:Hid (∀T,xP w.heap.size (E.drewN T) w.heap.size b):=fun T=>o.drewN T;generalize b.getD k 0=vk at *;generalize b.getD (i+1) 0=vi at *;generalize dU row k f f.length=bi at *;have d1:IntKind.i64.wrap (vk+1)=vk+1:=zw;cases bi
        ·have HE:Hid (jJ row t (i+1) (n+1)=b):=by have e:=U a;rw[if_neg (by rintro⟨_,h,_⟩;cases h)]at e;exact e
         clear a;go_wp2;go_quiet (fail);go_wp2;go_roundw;case rel=>exact⟨n+1,by go_num,zo,by rw[U HE];exact U H _,U F _⟩
         case measure=>exact zv
        ·by_cases u:vk+1<vi
         ·have g1:decide (vk+1<vi)=Y:=decide_eq_true u;have HE:Hid (jJ row t (i+1) (n+1)=b.set (i+1) (vk+1)):=by have e:=U a;rw[if_pos ⟨hk,rfl,u⟩]at e;exact e
          clear a;go_wp2;go_quiet (fail);go_wp2;go_roundw;case rel=>exact⟨n+1,by go_num,zo,by rw[U HE];exact(U H _).set (i+1) _,(U F _).setCell (Zc _) _⟩
          case measure=>exact zv
         ·have g1:decide (vk+1<vi)=Z:=decide_eq_false u;have HE:Hid (jJ row t (i+1) (n+1)=b):=by have e:=U a;rw[if_neg (by rintro⟨_,_,h⟩;exact u h)]at e;exact e
          clear a;go_wp2;go_quiet (fail);go_wp2;go_roundw;case rel=>exact⟨n+1,by go_num,zo,by rw[U HE];exact U H _,U F _⟩
          case measure=>exact zv
     ·have r:(i:Int)+1-f.length<0:=zo;go_wp2;go_roundw;case rel=>refine⟨n+1,by go_num,zo,?_,U q⟩;rw[U a,if_neg (by rintro⟨h,_⟩;omega)];exact U o
      case measure=>exact zv
    ·have o0:n=20:=zo;subst o0;go_wp2;go_roundw;case rel=>refine⟨i+1,by go_num,zo,?_,L⟩;rw[U r0];exact p
     case measure=>exact zv
  ·have y0:i=row.length:=zo;subst y0;have t0:=p.u (getD_some (d:=0) (show row.length<(qf row row.length).length from zo));have M:=p.lt.1;have s:((qf row row.length).length:Int)=row.length+1:=zo;go_wp2;go_ret;refine⟨xO ?_,L⟩;unfold sJ;first|rfl|(rw[Zj,Za zo];rfl)
def Jf(l:YL)(b:List Bool)(now:YI):Prop:=∀f t:Nat,f<t->t<=l.length->(f=0\/b.getD f Z=Y)->(t=l.length\/b.getD t Z=Y)->(∀x,f<x->x<t->b.getD x Z=Z)->now.getD t 0-now.getD f 0=sJ ((l.drop f).take (t-f))
theorem xm.at'{B:Nat}{w w':YW}{g:Nat}{b:List Bool}(h:xm B w g b)(a:Below w.heap.size w w'):xm B w' g b:=(zz.aB a).row h
theorem InL.ofOwn{B:Nat}{w:YW}{g cap:Nat}{l:YL}(h:w.ownsRow B 65 2 (S (O ⟨g,0,X⟩) l.length cap) l.length (zc l)):InL w (O ⟨g,0,X⟩) l:=by refine Zf ⟨g,0,rfl,(zC h (k:=g) rfl).1,fun j u b=>?_⟩;have a:=(Zb.1 b).1;rw[yL]at a;rw[Nat.zero_add,zD h j zo];exact b
theorem FM(B:Nat)(w:YW)(p:Nat)(l:YL)(en ce:Int)(h:Cd B w p l en ce)(N0:0<l.length)(hl:l.length<=5000)(gb o:Nat)(b:List Bool)(k:YI)(all:Int)(q:xm B w gb b)(n:xP B w o k)(k0:b.length=l.length)(s0:k.length=l.length+1)(u0:∀x∈k.set l.length all,-1<=x/\x<=5000)(t0:Jf l b (k.set l.length all)):Calls prog 136 #[A (O ⟨p,0,X⟩),S (O ⟨gb,0,X⟩) l.length l.length,S (O ⟨o,0,X⟩) (l.length+1) (l.length+1),I J all] w fun e w'=>e=Rt (Bl Y)/\Below B w w':=by
 obtain⟨g,cap,vH,H,h2,h3,h4⟩:=h;have E0:=n.lt;have R0:=q.lt;have F0:gb≠o:=by intro e;subst e;obtain⟨_,_,_,G,_,Q,_⟩:=q.2.resolve_left (fun e=>by simp at e);obtain⟨_,_,_,f1,_,f2,_⟩:=n.2.resolve_left (fun e=>by simp at e);simp only[Zk,Zs,Addr.mk.injEq,and_true]at G f1;obtain⟨rfl,_⟩:=G;obtain⟨rfl,_⟩:=f1;rw[Q]at f2;simp at f2
 have I0:l.length<=cap:=by obtain⟨_,_,_,G,_,_,e3,_⟩:=h4.2.resolve_left (fun e=>by simp at e);simp only[Zk,true_and]at G;obtain⟨_,rfl⟩:=G;exact e3
 have T0:(l.length:Int)<=5000:=zo;have S0:(1:Int)<=l.length:=zo;have hc:=H.u;have M0:=H.lt;have y0:=n.u (getD_some (d:=0) (show l.length<k.length from zo));have C0:=n.H;have e0:Hid (xP B (w.setCell ⟨o,l.length,X⟩ (I J all)) o (k.set l.length all)):=n.set _ _;have b0:Hid (xm B (w.setCell ⟨o,l.length,X⟩ (I J all)) gb b):=zA q (by simp[Value.ownBlock];exact F0) _ (a:=⟨o,l.length,X⟩);have i0:Hid (Below B w (w.setCell ⟨o,l.length,X⟩ (I J all))):=(Ze _ _).setCell E0.2 _;have HP:=V H;have x0:=V (InL.ofOwn h4);have f0:=V t0
 have g0:Hid (∀i,-1<=(k.set l.length all).getD i 0/\(k.set l.length all).getD i 0<=5000):=fun i=>by
   rw[Zj]
   cases e:(k.set l.length all)[i]? with
   | none=>simp
   | some y=>exact u0 y (Zd e)
 have L:(k.set l.length all).length=l.length+1:=by rw[length_set];exact s0
 have E:=V k0;have F:=V L;clear t0 u0 h4 q n k0 s0 L;go_enter func136,ntmps136;go_wp2_with fail;generalize w.setCell ⟨o,l.length,X⟩ (I J all)=W at *;generalize k.set l.length all=nw at *;clear hc y0 C0;go_loopw [9,10] (fun vf vt wr=>∃f t:Nat,vf=I J f/\vt=I J t/\f<t/\t<=l.length+1/\(f=0\/b.getD f Z=Y\/f=l.length)/\(∀x,f<x->x<t->b.getD x Z=Z)/\xP B wr o nw/\xm B wr gb b/\Below B w wr) (fun _ vt _=>l.length+2-(intOf vt).toNat);case atStart=>exact⟨0,1,rfl,rfl,zo,zo,Zg rfl,fun x H h2=>zo,U e0,U b0,U i0⟩
 case round=>
  clear e0 b0 i0;obtain⟨f,t,rfl,rfl,D0,X0,hf,hx,n,q,K⟩:=hrel;have n0:=(HP.z K h2).u;have G0:p<wr.heap.size:=by have:=K.size;omega
  by_cases W0:t=l.length+1
  ·have T:¬((t:Int)<=l.length):=zo;go_wp2;go_ret;exact⟨rfl,K⟩
  ·have T:(t:Int)<=l.length:=zo;have L0:=q.lt.1;by_cases m:t<l.length/\b.getD t Z=Z
   ·have v0:(t:Int)<l.length:=zo;have r:=q.u (getD_some (d:=Z) (show t<b.length by have:=U E;omega));rw[m.2]at r;go_wp2;go_roundw;case rel=>refine⟨f,t+1,rfl,by go_num,zo,zo,hf,fun x H h2=>?_,n,q,K⟩;by_cases e:x=t;rw[e];exact m.2;exact hx x H zo
    case measure=>exact zv
   ·have D:t=l.length\/b.getD t Z=Y:=by
     by_cases e:t=l.length;exact Zg e;right;cases Q:b.getD t Z with
     |true=>rfl
     |false=>exact absurd ⟨zo,Q⟩ m
    have B0:f=0\/b.getD f Z=Y:=by rcases hf with e|e|e;exact Zg e;exact Zf e;omega
    have A0:=U f0 f t D0 zo B0 D hx;have q0:InL wr (O ⟨g,0+f*2,X⟩) ((l.drop f).take (t-f)):=by
     have r0:InL wr (O ⟨g,0,X⟩) l:=by rcases U x0 with e|⟨g',O0,G,Q,e3⟩;exact Zg e;simp only[Zs,Addr.mk.injEq,and_true]at G;obtain⟨rfl,rfl⟩:=G;exact Zf ⟨g,0,rfl,by have:=K.size;omega,fun j u hj=>by rw[K.u (by simpa using h3)];exact e3 j u hj⟩
     exact(InL.drop r0 f).take (t-f)
    have H0:((l.drop f).take (t-f)).length=t-f:=by rw[length_take,length_drop];omega
    have v:=V (DK (O ⟨g,0+f*2,X⟩) (cap-f) ((l.drop f).take (t-f)) wr q0 zo);rw[H0]at v;generalize sJ ((l.drop f).take (t-f))=fw at *;have a0:=n.u (getD_some (d:=0) (show t<nw.length by have:=U F;omega));have R:=n.u (getD_some (d:=0) (show f<nw.length by have:=U F;omega));have Q0:=U g0 t;have P0:=U g0 f;have z:=V n;have c0:=V q;have s:=V K;have K0:(f:Int)<=t:=zo;have V0:(t:Int)<=cap:=zo;have h0:=V D;generalize nw.getD t 0=nt at *;generalize nw.getD f 0=nf at *;have hw:IntKind.i64.wrap (nt-nf)=nt-nf:=zw;have J0:(nt-nf != fw)=Z:=by rw[bne_eq_false_iff_eq];exact A0
    have HX:Hid (∀x,f<x->x<t->b.getD x Z=Z):=hx
    have r:t<l.length->wr.cell? ⟨gb,t,X⟩=O (Bl Y):=fun U0=>by
      have e:=q.u (getD_some (d:=Z) (show t<b.length by have:=U E;omega))
      rcases D with Q|Q
      · omega
      · rw[Q]at e;exact e
    rw[Nat.zero_add]at v;have o0:=a0;have m0:=R;have d0:Hid (∀w',Below wr.heap.size wr w'->w'.cell? ⟨o,t,X⟩=O (I J nt)/\w'.cell? ⟨o,f,X⟩=O (I J nf)):=fun w' j0=>⟨by rw[j0.u (by simpa using n.lt.1)];exact a0,by rw[j0.u (by simpa using n.lt.1)];exact R⟩;clear hx hf D q0 n K f0 a0 R o0 m0 q;by_cases w0:t<l.length
    ·have v0:(t:Int)<l.length:=zo;have l0:=r w0;clear r;go_wp2_with fail;refine v.m ?_;rintro e w1 ⟨rfl,c⟩;obtain⟨k1,k2⟩:=U d0 w1 c;have p0:=(z.z c).lt.1;have N:=V (z.z c);have M:=V (c0.at' c);have P:Hid (Below B w w1):=s.trans (c.m (by have:=s.size;omega));clear c l0 n0;go_wp2;go_quiet (fail);go_wp2;go_roundw;case rel=>
      first|((repeat apply Exists.intro);refine⟨?_,rfl⟩)|skip
      refine⟨t,t+1,rfl,by go_num,zo,zo,?_,fun x H h2=>zo,N.drewN _,(zz.aB (zS (Ze _ _) _)).row M,zS P _⟩;rcases U h0 with e|e;exact Zf (Zf e);exact Zf (Zg e)
     case measure=>exact zv
    ·have v0:¬(t:Int)<l.length:=zo;clear r;go_wp2_with fail;refine v.m ?_;rintro e w1 ⟨rfl,c⟩;obtain⟨k1,k2⟩:=U d0 w1 c;have p0:=(z.z c).lt.1;have N:=V (z.z c);have M:=V (c0.at' c);have P:Hid (Below B w w1):=s.trans (c.m (by have:=s.size;omega));clear c n0;go_wp2;go_quiet (fail);go_wp2;go_roundw;case rel=>
      first|((repeat apply Exists.intro);refine⟨?_,rfl⟩)|skip
      refine⟨t,t+1,rfl,by go_num,zo,zo,?_,fun x H h2=>zo,N.drewN _,(zz.aB (zS (Ze _ _) _)).row M,zS P _⟩;rcases U h0 with e|e;exact Zf (Zf e);exact Zf (Zg e)
     case measure=>exact zv
def atS(L:YL):Nat->Nat
 |0=>0
 |i+1=>atS L i+(ya (L.getD i (0,0)).1).length
def vR(n:Nat)(L:YL):Nat->List Int
 |0=>replicate n (-1)
 |i+1=>(vR n L i).set (atS L i) i
theorem oq(n:Nat)(L:YL)(i:Nat):(vR n L i).length=n:=by
 induction i with
 |zero=>simp[vR]
 |succ i a=>unfold vR;rw[length_set,a]
theorem KY(n:Nat)(L:YL)(i:Nat):∀x∈vR n L i,-1<=x/\x<=i:=by
 induction i with
 |zero=>intro x a;have:=eq_of_mem_replicate a;omega
 |succ i b=>intro x a;unfold vR at a;rcases mem_or_eq_of_mem_set a with h|rfl;have:=b x h;omega;omega
structure ew(l:YL)(b:List Bool)(en:Nat)(L:YL)(en':Int):Prop where
 part:∀(i:Nat)(x:Int×Int),L[i]? = O x->1<=(ya x.1).length/\atS L i+(ya x.1).length<=l.length
 same:∀(i:Nat)(x:Int×Int),L[i]? = O x->∀(k:Nat)(p:Int)(y:Int×Int),(ya x.1)[k]? = O p->l[atS L i+k]? = O y->y.1=p/\(0<k->b.getD (atS L i+k) Z=Z)/\(y.1=0->y.2=x.2)/\((ya x.1).length=1->zT y.1=Z->y.2=x.2)
 whole:atS L L.length=l.length
 entry:(vR (l.length+1) L L.length).getD en 0=en'
 N:∀(i:Nat)(y:Int×Int),l[i]? = O y->zT y.1=Y->(0<=y.2/\y.2<l.length)/\∃(q:Nat)(x:Int×Int),(vR (l.length+1) L L.length).getD i 0=q/\L[q]? = O x/\(vR (l.length+1) L L.length).getD y.2.toNat 0=x.2
 least:Jf l b ((vR (l.length+1) L L.length).set l.length L.length)
theorem rI(w:YW)(p:Nat)(l:YL)(en:Nat)(ce:Int)(he:YI)(h:CdH w.heap.size w p l en ce he)(t0:0<l.length)(hl:l.length<=5000)(B2:en<l.length)(k1:he.length<=5000)(j1:∀x∈he,0<=x/\x<l.length)(hj:∀x∈l,zT x.1=Y->0<=x.2/\x.2<l.length)(aL:YA)(cL:Nat)(L:YL)(m0:Int)(l1:InL w aL L)(r2:L.length<=5000)(r1:ew l (rbS l he) en L m0):Calls prog 69 #[A (O ⟨p,0,X⟩),S aL L.length cL,I J m0] w fun e w'=>e=Rt (Bl Y)/\Below w.heap.size w w':=by
 have v0:=V (DJ w p l en ce he h t0 hl k1 j1 hj);have b1:=uk l he l.length;have e0:(rbS l he).length=l.length:=b1;rw[e0]at v0;have H:=V r1;have O0:=V h.cd;have R0:=V l1;have G2:(l.length:Int)<=5000:=zo;have o0:(1:Int)<=l.length:=zo;have q2:(L.length:Int)<=5000:=zo;have M0:=V e0;generalize rbS l he=b at *;clear h j1 hj l1 r1 b1 e0 k1;go_enter func69,ntmps69;go_wp2_with fail;refine v0.m ?_;rintro e w1 ⟨gb,rfl,w0,M⟩;have Z0:=O0.z M;obtain⟨g,cap,vH,n0,T1,L1,a1⟩:=Z0;have N:=n0.u;have f:=n0.lt;have G0:=mu (l.length+1) zo;rw[show((l.length+1:Nat):Int)=(l.length:Int)+1 from zo]at G0;have x0:=mg w1 (l.length+1) zo;have o:=zB w1 (C (madeCells #[I J 0] ((l.length+1)*1)) 3);simp only[Nat.mul_one]at x0 o G0;have HP:=V (n0.z o f);have HR:=V ((zz.aB o).row a1);have HB:=V (w0.at' o);have T0:=V (x0.K M.size);have HW:Hid (Below w.heap.size w (w1.alloc (C (madeCells #[I J 0] (l.length+1)) 3))):=M.trans (o.m M.size);have M1:w.heap.size<=w1.heap.size:=M.size;have a2:gb<w1.heap.size:=w0.lt.1;clear w0 M n0 a1 x0 o v0 O0;go_wp2_with fail;generalize w1.alloc (C (madeCells #[I J 0] (l.length+1)) 3)=W at *;generalize h1:w1.heap.size=z at *;clear N f G0 h1;have a0:Hid (∀wr,Below z W wr->Blk wr p #[S (O ⟨g,0,X⟩) l.length cap,I J en,I J ce,vH] 137/\xm w.heap.size wr gb b/\(∀j,j<l.length*2->wr.cell? ⟨g,j,X⟩=(zc l)[j]?)/\g<wr.heap.size/\Below w.heap.size w wr/\wr.ownsRow 0 65 2 (S (O ⟨g,0,X⟩) l.length cap) l.length (zc l)):=by intro wr B;have hR:=U HR;refine⟨HP.z B zo,yR HB (fun k e _=>B.block k (by simp[Value.ownBlock]at e;omega)),fun j hj=>?_,by have:=B.size;have:=(zC hR (k:=g) rfl).1;omega,HW.trans (B.m M1),yR hR (fun k e _=>B.block k (by simp[Value.ownBlock]at e;omega))⟩;rw[B.u zp,zD hR j hj]
 have U0:Hid (xP w.heap.size W z (replicate (l.length+1) 0)):=U T0;clear T0 HP HR HB HW;go_loopw [9] (fun v wr=>∃(k:Nat)(nl:YI),v=I J k/\k<=l.length+1/\nl.length=l.length+1/\(∀j,j<k->nl[j]? = O (-1))/\xP w.heap.size wr z nl/\Below z W wr) (fun v _=>l.length+1-(intOf v).toNat);case atStart=>exact⟨0,_,rfl,Zq _,zs,fun j hj=>zo,U U0,Ze _ _⟩
 case round=>
  clear U0;obtain⟨k,nl,rfl,hk,H0,f0,r,B⟩:=hrel;by_cases H2:k<l.length+1
  ·have k2:(k:Int)<l.length+1:=zo;have x2:=r.u (getD_some (d:=0) (show k<nl.length from zo));have e1:=r.H;have D:=r.lt.1;go_wp2;go_roundw;case rel=>refine⟨k+1,nl.set k (-1),by go_num,zo,by rw[length_set];exact H0,fun j F2=>?_,r.set k (-1),B.setCell (Zc _) _⟩;by_cases e:k=j;subst e;rw[getElem?_set_self zo];rw[getElem?_set_ne e];exact f0 j zo
   case measure=>exact zv
  ·have R1:k=l.length+1:=zo;subst R1;have u0:nl=vR (l.length+1) L 0:=by unfold vR;refine ext_getElem? (fun j=>?_);by_cases F0:j<l.length+1;rw[f0 j F0,getElem?_replicate,if_pos F0];rw[getElem?_eq_none zo,getElem?_eq_none zp]
   rw[u0]at r;have G:=V r;have T:=V B;clear r B f0 u0 H0;have o1:¬((l.length:Int)+1<l.length+1):=zo;go_wp2;go_loopw [10,11] (fun va vi wr=>∃i:Nat,va=I J (atS L i)/\vi=I J i/\i<=L.length/\xP w.heap.size wr z (vR (l.length+1) L i)/\Below z W wr) (fun _ vi _=>L.length-(intOf vi).toNat);case atStart=>exact⟨0,rfl,rfl,Zq _,U G,U T⟩
   case round=>
    clear G T;obtain⟨i,rfl,rfl,hi,r,B⟩:=hrel;by_cases O1:i<L.length
    ·obtain⟨x,hx⟩:∃x,L[i]? = O x:=⟨_,Za O1⟩;have N1:(i:Int)<L.length:=zo;obtain⟨J2,K2⟩:=H.part i x hx;have i0:=H.same i x hx;have q0:atS L (i+1)=atS L i+(ya x.1).length:=by show atS L i+(ya (L.getD i (0,0)).1).length=_;rw[Zj,hx];rfl
     have t1:=V q0;have C1:=V i0;have B1:Hid (vR (l.length+1) L (i+1)=(vR (l.length+1) L i).set (atS L i) i):=rfl;have I2:=oq (l.length+1) L i;generalize vR (l.length+1) L i=nw at *;generalize atS L i=a at *;clear q0 i0;have t2:(a:Int)<l.length+1:=zo;have H1:=r.u (getD_some (d:=0) (show a<nw.length from zo));have e1:=r.H;have D:=r.lt.1;have G:Hid (xP w.heap.size (wr.setCell ⟨z,a,X⟩ (I J i)) z (nw.set a i)):=r.set a i;have C0:Below z W (wr.setCell ⟨z,a,X⟩ (I J i)):=B.setCell (Zc _) _;have T:=V C0;clear r B;go_upto_region 12 with fail;generalize wr.setCell ⟨z,a,X⟩ (I J i)=w2 at *;clear H1 e1 D;obtain⟨gL,oL,B0,s0,c1,c2⟩:=ju (R0.z (U a0 w2 C0).2.2.2.2.1) hx;subst B0;have X0:=V (mj x.1 w2);have N0:=V c2;clear C0 hx c2;generalize U1:ya x.1=R at *;clear U1;go_wp2_with fail;refine X0.m ?_;rintro e Q ⟨v,rfl,hv,b0⟩;obtain⟨gp,kp,rfl,C2,i1⟩:=hv.form zo;have HV:=V hv;have j0:=V (G.z b0);have c0:Below z W Q:=T.trans (b0.m (by have:=G.lt.1;omega));have L0:=V c0;obtain⟨hP,K,t,D,hW,A0⟩:=U a0 Q c0;have N:=hP.u;have f:=hP.lt;have u1:Hid (Q.cell? ⟨gL,oL+i*2+1,X⟩=O (I J x.2)):=by show Q.cell? _=_;rw[b0.u (by simpa using s0)];exact U N0
     have f1:gL<Q.heap.size:=by have:=b0.size;omega
     have m2:(1:Int)<=R.length:=zo;have n2:(a:Int)+R.length<=l.length:=zo;have l2:((R.length:Int)==0)=Z:=by rw[beq_eq_false_iff_ne];omega
     clear hv b0 c0 hW K t A0 c1 G T X0 N0;go_wp2;go_loopw [13] (fun vj wr=>∃j:Nat,vj=I J j/\j<=R.length/\Below Q.heap.size Q wr) (fun vj _=>R.length-(intOf vj).toNat);case atStart=>exact⟨0,rfl,Zq _,Ze _ _⟩
     case round=>
      clear N f hP D;obtain⟨j,rfl,F0,d0⟩:=hrel;have D0:Below z W wr:=L0.trans (d0.m (by have:=j0.lt.1;omega));by_cases n1:j<R.length
      ·have E2:(j:Int)<R.length:=zo;obtain⟨pj,I0⟩:∃y,R[j]? = O y:=⟨_,Za n1⟩;obtain⟨y,hy⟩:∃y,l[a+j]? = O y:=⟨_,Za zo⟩;obtain⟨s1,s2,s3,s4⟩:=U C1 j pj y I0 hy;subst s1;obtain⟨kj,p1⟩:∃kj:Nat,a+j=kj:=⟨_,rfl⟩;have h2:(a:Int)+(j:Int)=(kj:Int):=zo;have i2:(kj:Int)<l.length:=zo;have j2:IntKind.i64.wrap (kj:Int)=kj:=zw;obtain⟨hP,K,t,D,hW,A0⟩:=U a0 wr D0;have y1:=t (kj*2) zo;have y2:=t (kj*2+1) zo;rw[p1]at hy s2;rw[(zL _ _ _ hy).1]at y1;rw[(zL _ _ _ hy).2]at y2;have N:=hP.u;have f:=hP.lt;have o:=zB wr (C #[I J y.1,I J y.2] 65);have s:Below Q.heap.size Q (wr.alloc (C #[I J y.1,I J y.2] 65)):=d0.trans (o.m d0.size);have y0:=Blk.new wr #[I J y.1,I J y.2] 65;have k0:=V (fun W=>mi y.1 W);go_upto_region 19 with fail;generalize wr.alloc (C #[I J y.1,I J y.2] 65)=w5 at *;generalize wr.heap.size=nb at *;clear o hP K t D hW A0 N f y1 y2 D0 d0 hy;have A2:=y0.u;have H0:=y0.lt;go_wp2_with fail;refine(U k0 _).m ?_;rintro e w6 ⟨rfl,P⟩;obtain rfl:=P.symm;clear P k0;have M2:w5.cell? ⟨gp,j,X⟩=O (I J y.1):=by have e:=zD HV j zo;rw[Zn,I0]at e;rw[s.u (by simpa using i1)];exact e
       have u2:w5.cell? ⟨gL,oL+i*2+1,X⟩=O (I J x.2):=by rw[s.u (by simpa using f1)];exact U u1
       have d2:gp<w5.heap.size:=by have:=s.size;omega
       have Y1:gL<w5.heap.size:=by have:=s.size;omega
       have E:0<j->w5.cell? ⟨gb,kj,X⟩=O (Bl Z):=fun h0=>by
         have F1:=(U a0 w5 (L0.trans (s.m (by have:=j0.lt.1;omega)))).2.1
         have e:=F1.u (getD_some (d:=Z) (show kj<b.length by have:=U M0;omega))
         rw[s2 h0]at e
         exact e
       have Z1:gb<w5.heap.size:=by have:=s.size;have:=j0.lt.1;omega
       have Q0:Hid (∀n,Below Q.heap.size Q (w5.drewN n)):=fun n=>zS s n;clear I0 s2 s y0;have Y0:∀n,Below Q.heap.size Q (w5.drewN n):=U Q0;have u:=V Y0;clear Y0 Q0;have g0:(y.1 != y.1)=Z:=zs;by_cases o0:R.length=1
       ·have E0:j=0:=zo;subst E0;have q1:((R.length:Int)==1)=Y:=by rw[beq_iff_eq];omega
        have e4:=s4 o0;have p2:=V o0;clear E o0 s4;by_cases c:y.1=0
        ·have ga:(y.2 != x.2)=Z:=by rw[bne_eq_false_iff_eq];exact s3 c
         have gy:(y.1==0)=Y:=by simpa using c
         have E1:zT y.1=Z:=by rw[c];rfl
         rw[E1];clear s3 e4;go_wp2;go_quiet (fail);go_wp2;go_roundw;case rel=>
          first|((repeat apply Exists.intro);refine⟨?_,rfl⟩)|skip
          exact⟨0+1,by go_num,zo,U u _⟩
         case measure=>exact zv
        ·have gy:(y.1==0)=Z:=by simpa using c
         cases hnm:zT y.1
         ·have ga:(y.2 != x.2)=Z:=by rw[bne_eq_false_iff_eq];exact e4 hnm
          clear s3 e4;go_wp2;go_quiet (fail);go_wp2;go_roundw;case rel=>
           first|((repeat apply Exists.intro);refine⟨?_,rfl⟩)|skip
           exact⟨0+1,by go_num,zo,U u _⟩
          case measure=>exact zv
         ·clear s3 e4;go_wp2;go_quiet (fail);go_wp2;go_roundw;case rel=>
           first|((repeat apply Exists.intro);refine⟨?_,rfl⟩)|skip
           exact⟨0+1,by go_num,zo,U u _⟩
          case measure=>exact zv
       ·have q1:((R.length:Int)==1)=Z:=by rw[beq_eq_false_iff_ne];omega
        clear s4;by_cases E0:j=0
        ·subst E0;clear E;by_cases c:y.1=0
         ·have ga:(y.2 != x.2)=Z:=by rw[bne_eq_false_iff_eq];exact s3 c
          have gy:(y.1==0)=Y:=by simpa using c
          clear s3;go_wp2;go_quiet (fail);go_wp2;go_roundw;case rel=>
           first|((repeat apply Exists.intro);refine⟨?_,rfl⟩)|skip
           exact⟨0+1,by go_num,zo,U u _⟩
          case measure=>exact zv
         ·have gy:(y.1==0)=Z:=by simpa using c
          clear s3;go_wp2;go_quiet (fail);go_wp2;go_roundw;case rel=>
           first|((repeat apply Exists.intro);refine⟨?_,rfl⟩)|skip
           exact⟨0+1,by go_num,zo,U u _⟩
          case measure=>exact zv
        ·have m1:0<j:=zo;have e2:(0:Int)<j:=zo;have D2:decide (0<j)=Y:=decide_eq_true m1;have v2:=E zo;clear E;by_cases c:y.1=0
         ·have ga:(y.2 != x.2)=Z:=by rw[bne_eq_false_iff_eq];exact s3 c
          have gy:(y.1==0)=Y:=by simpa using c
          clear s3;go_wp2;go_quiet (fail);go_wp2;go_roundw;case rel=>
           first|((repeat apply Exists.intro);refine⟨?_,rfl⟩)|skip
           exact⟨j+1,by go_num,zo,U u _⟩
          case measure=>exact zv
         ·have gy:(y.1==0)=Z:=by simpa using c
          clear s3;go_wp2;go_quiet (fail);go_wp2;go_roundw;case rel=>
           first|((repeat apply Exists.intro);refine⟨?_,rfl⟩)|skip
           exact⟨j+1,by go_num,zo,U u _⟩
          case measure=>exact zv
      ·have Q1:j=R.length:=zo;subst Q1;go_wp2;go_roundw;case rel=>
        first|((repeat apply Exists.intro);refine⟨?_,rfl⟩)|skip
        refine⟨i+1,by rw[U t1];go_num,by go_num,zo,?_,D0⟩;rw[U B1];exact j0.z d0
       case measure=>exact zv
    ·have P1:i=L.length:=zo;subst P1;have N1:¬((L.length:Int)<L.length):=zo;obtain⟨hP,K,t,D,hW,p0⟩:=U a0 wr B;have N:=hP.u;have f:=hP.lt;have F:=H.whole;have r0:=H.entry;have k0:=V H.N;have S0:=V H.least;have l0:=V (oq (l.length+1) L L.length);have A1:=V (KY (l.length+1) L L.length);generalize vR (l.length+1) L L.length=nw at *;rw[F];have I1:=r.u (getD_some (d:=0) (show en<nw.length by have:=U l0;omega));rw[r0]at I1;have X1:(en:Int)<l.length+1:=zo;have g1:((l.length:Int)!=l.length)=Z:=zs;have g2:(m0 != m0)=Z:=zs;have b2:=r.lt.1;have P0:=V t;have W0:=V r;have v1:=V (R0.z hW)
     have x1:Hid (∀m,Calls prog 136 #[A (O ⟨p,0,X⟩),S (O ⟨gb,0,X⟩) l.length l.length,S (O ⟨z,0,X⟩) (l.length+1) (l.length+1),I J L.length] (wr.drewN m) fun e w'=>e=Rt (Bl Y)/\Below w.heap.size (wr.drewN m) w'):=fun m=>by
       have d1:Below (wr.heap.size) wr (wr.drewN m):=zS (Ze _ _) m
       refine FM w.heap.size (wr.drewN m) p l en ce ⟨g,cap,vH,hP.drewN m,T1,L1,(zz.aB d1).row p0⟩ t0 hl gb z b nw L.length (K.at' d1) (r.drewN m) M0 l0 (fun x hx=>?_) S0
       rcases mem_or_eq_of_mem_set hx with h|rfl
       · have:=U A1 x h
         omega
       · omega
     have D1:=V hW;clear F r0 t r hW K p0 B S0;go_wp2;go_loopw [16] (fun v W1=>∃(k m:Nat),v=I J k/\k<=l.length/\W1=wr.drewN m) (fun v _=>l.length-(intOf v).toNat);case atStart=>exact⟨0,0,rfl,Zq _,rfl⟩
     case round=>
      obtain⟨k,m,rfl,hk,rfl⟩:=hrel;by_cases S1:k<l.length
      ·have o1:(k:Int)<l.length:=zo;obtain⟨y,hy⟩:∃y,l[k]? = O y:=⟨_,Za S1⟩;have y1:=U P0 (k*2) zo;have y2:=U P0 (k*2+1) zo;rw[(zL _ _ _ hy).1]at y1;rw[(zL _ _ _ hy).2]at y2;have V0:=V (fun W=>mi y.1 W);cases hnm:zT y.1
       ·go_wp2_with fail;refine(U V0 _).m ?_;rintro e w6 ⟨rfl,P⟩;subst P;rw[hnm];go_wp2;go_quiet (fail);go_wp2;go_roundw;case rel=>
         first|((repeat apply Exists.intro);refine⟨?_,rfl⟩)|skip
         exact⟨k+1,_,by go_num,zo,by first|rfl|exact(qZ _ _ _)⟩
        case measure=>exact zv
       ·obtain⟨V1,q,x,hq,hx,K0⟩:=U k0 k y hy hnm;obtain⟨un,J0⟩:∃un:Nat,y.2=un:=⟨y.2.toNat,zo⟩;rw[J0,Zr]at K0;rw[J0]at y2;have J1:=W0.u (getD_some (d:=0) (show k<nw.length by have:=U l0;omega));have K1:=W0.u (getD_some (d:=0) (show un<nw.length by have:=U l0;omega));rw[hq]at J1;rw[K0]at K1;obtain⟨gL,oL,B0,s0,c1,c2⟩:=ju v1 hx;subst B0;have L2:(q:Int)<L.length:=by have:=(Zb.1 hx).1;omega
        have o2:(un:Int)<l.length+1:=zo;have f2:(k:Int)<l.length+1:=zo;have g3:(x.2 != x.2)=Z:=zs;clear hq K0 hx J0 V1 c1;go_wp2_with fail;refine(U V0 _).m ?_;rintro e w6 ⟨rfl,P⟩;subst P;rw[hnm];go_wp2;go_quiet (fail);go_wp2;go_roundw;case rel=>
         first|((repeat apply Exists.intro);refine⟨?_,rfl⟩)|skip
         exact⟨k+1,_,by go_num,zo,by first|rfl|exact(qZ _ _ _)⟩
        case measure=>exact zv
      ·have o1:¬((k:Int)<l.length):=zo;go_wp2_with fail;refine(U x1 m).m ?_;rintro e w7 ⟨rfl,G1⟩;go_wp2;go_ret;exact⟨rfl,(zS D1 m).trans G1⟩
theorem Su{row:YL}(h:row.length=4):∃a b c d,row=[a,b,c,d]:=by
 match row,h with
 |[a,b,c,d],_=>exact⟨a,b,c,d,rfl⟩
theorem GQ{row:YL}(h:row.length≠4):qN row=X:=by unfold qN;split;exact absurd rfl h;rfl
theorem Dc:(f227.name == "runtime.NumGoroutine")=Z:=zr
theorem CW:f227.body.isNone=Z:=zr
theorem sg:(f226.name == "runtime.NumGoroutine")=Z:=zr
theorem rY:f226.body.isNone=Z:=zr
theorem sf:(f202.name == "runtime.NumGoroutine")=Z:=zr
theorem rX:f202.body.isNone=Z:=zr
theorem Pz:(f225.name == "runtime.NumGoroutine")=Z:=zr
theorem Pe:f225.body.isNone=Z:=zr
theorem Pu:(f198.name == "runtime.NumGoroutine")=Z:=zr
theorem OY:f198.body.isNone=Z:=zr
theorem kk{P:Program}{k:Array Oper}{o:Oper}{a:Act}{w:YW}{K:Act→World→Prop}{Q:Exit→Act→World→Prop}{E:Prop}(j:o.guard=X)(f:FuncId)(args:Array Operand)(g:Array TypeId)(r:o.op=.call {callee:=.value (.func f),args:=args,argTypes:=g}){i:Func}(p:P.funcs[f]? = O i)(q:(i.name == "runtime.NumGoroutine")=Z)(l:i.body.isNone=Z)(b:YV)(c:args.map a.eval=b){R:Ending→World→Prop}(d:Tmp)(n:o.dst=O d)(m:Calls P f b w R)(h:∀e w',R e w'→∃v,e=Rt v∧K (a.put (O d) v) w'):if Region.wanted o (yielded k a.tmps)=Y then Oper.wp P o a w K Q else E:=by rw[←n]at h;exact zN j f args g r p q l b c m h
def sD(B:Nat)(r:Option (YL))(s9 s8:Value)(w':YW):Prop:=match r with
 |none=>s9=S X 0 0/\s8=Bl Z
 |some l=>∃a c,s9=S a l.length c/\s8=Bl Y/\yD B w' (S a l.length c) l
theorem sD.K{B b:Nat}{r:Option (YL)}{e d:Value}{w':YW}(h:sD B r e d w')(j:b<=B):sD b r e d w':=by
 cases r with
 |none=>exact h
 |some l=>obtain⟨a,c,f,g,i⟩:=h;exact⟨a,c,f,g,i.K j⟩
theorem aD.tup{B:Nat}{w':YW}{r:Option (YL)}{e:Ending}(h:aD B w' r e):∃a n c b,e=Rt (Tu #[S a n c,Bl b])/\sD B r (S a n c) (Bl b) w':=by
 cases r with
 |none=>exact⟨X,0,0,Z,h,rfl,rfl⟩
 |some l=>obtain⟨v,rfl,d⟩:∃v,e=Rt (Tu #[v,Bl Y])/\w'.ownsRow B 65 2 v l.length (zc l):=h;obtain⟨a,c,rfl⟩:=zu d;exact⟨a,l.length,c,Y,rfl,a,c,rfl,rfl,d⟩
@[irreducible] def rkF (a2 c2 j:Int):Option (YL):=yH [(0,a2),(0,c2),(j,0)]
theorem FV(a c2 j:Int):rkF a c2 j=yH [(0,a),(0,c2),(j,0)]:=by unfold rkF;rfl
def gG(a1 c1 a2 c2:Int)(lk:Option (Int×Int)):Option (YL):=if a1=0/\c1=0 then(match lk with
 |some q=>(rkF a2 c2 q.1).map (fun s=>s++[(q.2,0)])
 |none=>X)else X
theorem Mo(c d a e c1 c2 b f:Int):qN [(c,d),(a,e),(c1,c2),(b,f)]=gG c c1 d c2 (wE a b):=by
 unfold qN gG;simp only;split;cases wE a b with
 |none=>rfl
 |some q=>simp only;rw[FV]
 rfl
def Ux(W:YW)(r:Option (YL))(s9 s8:Value)(wc:YW):Prop:=sD W.heap.size r s9 s8 wc/\Below W.heap.size W wc
abbrev ChS(g off:Nat)(a2 c2:Int)(w':YW):Prop:=w'.cell? ⟨g,off+1,X⟩=O (I J a2)/\w'.cell? ⟨g,off+4+1,X⟩=O (I J c2)/\g<w'.heap.size
theorem ChS.z{g off:Nat}{c c2:Int}{V b:YW}(h:ChS g off c c2 V)(a:Below V.heap.size V b):ChS g off c c2 b:=by obtain⟨e,f,d⟩:=h;exact⟨by rw[a.u (by simpa using d)];exact e,by rw[a.u (by simpa using d)];exact f,by have:=a.size;omega⟩
theorem RC{V:YW}{q:Nat}{a c:Int}{T:TypeId}(h:Blk V q #[I J a,I J c] T):bh V (O ⟨q,0,X⟩) [a,c]:=by
 refine Zf ⟨q,rfl,h.lt,fun i p b=>?_⟩;rw[h.u];match i,b with
 |0,b=>simpa using b
 |1,b=>simpa using b
 |i+2,b=>simp at b
theorem SM{V:YW}{q:Nat}{a:Int}{T:TypeId}(h:Blk V q #[I J a] T):bh V (O ⟨q,0,X⟩) [a]:=by
 refine Zf ⟨q,rfl,h.lt,fun i p b=>?_⟩;rw[h.u];match i,b with
 |0,b=>simpa using b
 |i+1,b=>simp at b
theorem QA(a c2:Int)(V:YW)(q:Nat)(h:Blk V q #[I J a,I J c2] 2):Calls prog 226 #[S (O ⟨q,0,X⟩) 2 2] V (aB V [(0,a),(0,c2)]):=ue (O ⟨q,0,X⟩) 2 [a,c2] V (RC h) zs
theorem Jx(j:Int)(V:YW)(q:Nat)(h:Blk V q #[I J j] 3):Calls prog 202 #[S (O ⟨q,0,X⟩) 1 1] V (aB V [(j,0)]):=np (O ⟨q,0,X⟩) 1 [j] V (SM h) zs
theorem Kd(b c2 j:Int)(V:YW)(d f:YA)(g h:Nat)(i:InL V d [(0,b),(0,c2)])(k:InL V f [(j,0)]):Calls prog 225 #[S (O ⟨V.heap.size,0,X⟩) 2 2] (V.alloc (C #[S d 2 g,S f 1 h] 33)) fun e w'=>∃a c,e=Rt (S a 3 c)/\InL w' a [(0,b),(0,c2),(j,0)]/\Below V.heap.size V w':=by have:=uR V.heap.size 2 [(d,g,[(0,b),(0,c2)]),(f,h,[(j,0)])] _ (oG V d f g h [(0,b),(0,c2)] [(j,0)] i k 33) zs (by simp[qi]);refine this.m ?_;rintro e w' ⟨a,c,rfl,m,l⟩;exact⟨a,c,rfl,m.isIn.1,(zB V _).trans (l.m (zB V _).size)⟩
theorem Lt(d o:Nat)(n:Value)(b c2 j:Int)(m:Option (YL))(i:rkF b c2 j=m)(V:YW)(a:YA)(c:Nat)(q:wi V d o n)(r:Lib.TabIs prog V "internal/strconv.uint64pow10" .u64 Lib.pow10Tab)(h:InL V a [(0,b),(0,c2),(j,0)])(f:inI b)(g:inI c2):Calls prog 198 #[A (O ⟨d,0,X⟩),S a 3 c] V fun e w'=>aD V.heap.size w' m e∧Below V.heap.size V w':=by
 rw[<-i,FV];generalize l:[(0,b),(0,c2),(j,0)]=row at *;have p:row.length=3:=by rw[<-l];rfl
 have:=rH d o n a c row V q r h zo zo (fun x k=>by
   rw[<-l]at k
   simp at k
   rcases k with rfl|rfl|rfl
   · exact f
   · exact g
   · exact qy)
 rw[p]at this;exact this
theorem gh (fb tb : Nat) (rv : Value) (ao : Option Addr) (c : Nat) (row : List (Int × Int)) (w : World) (hf : wi w fb tb rv) (ht : Lib.TabIs prog w "internal/strconv.uint64pow10" .u64 Lib.pow10Tab) (hin : InL w ao row) (hn : row.length ≤ 1000) (hi : ∀ x ∈ row, inI x.2) : Calls prog 199 #[A (O ⟨fb,0,X⟩),S ao row.length c] w fun e w'=>aD w.heap.size w' (qN row) e∧Below w.heap.size w w':=by
 have hnI:(row.length:Int)≤1000:=zo;by_cases h4:row.length=4
 ·obtain⟨⟨a1,a2⟩,⟨b1,b2⟩,⟨c1,c2⟩,⟨d1,d2⟩,rfl⟩:=Su h4;obtain⟨g,off,rfl,hgl,k1,k2⟩:=ju hin (k:=0) (x:=(a1,a2)) rfl;obtain⟨g',off',e',_,k3,k4⟩:=ju hin (k:=1) (x:=(b1,b2)) rfl;simp only[Zs,Addr.mk.injEq,and_true]at e';obtain⟨rfl,rfl⟩:=e';obtain⟨g',off',e',_,k5,k6⟩:=ju hin (k:=2) (x:=(c1,c2)) rfl;simp only[Zs,Addr.mk.injEq,and_true]at e';obtain⟨rfl,rfl⟩:=e';obtain⟨g',off',e',_,k7,k8⟩:=ju hin (k:=3) (x:=(d1,d2)) rfl;simp only[Zs,Addr.mk.injEq,and_true]at e';obtain⟨rfl,rfl⟩:=e';simp only[Nat.zero_mul,Nat.add_zero,Nat.one_mul,Nat.reduceMul]at k1 k2 k3 k4 k5 k6 k7 k8;have hlen:(([(a1,a2),(b1,b2),(c1,c2),(d1,d2)]:YL).length)=4:=rfl;rw[hlen];have hai:inI a2:=hi (a1,a2) zs;have hci:inI c2:=hi (c1,c2) zs;rw[Mo];clear hin h4 hn hnI hlen hi;by_cases ha:a1=0
  ·subst ha;by_cases hc:c1=0
   ·subst hc;have HL:=V (fun W=>Qy b1 d1 W);have HLS:=V (fun j o (h:wE b1 d1=O (j,o))=>nZ h);generalize wE b1 d1=lk at *;have HF:=V hf;have HTA:=V ht;have HLK:Hid (w.drew.cell? ⟨g,off+2,X⟩=O (I J b1)∧w.drew.cell? ⟨g,off+6,X⟩=O (I J d1)):=⟨k3,k7⟩;cases lk with
    |none=>
     unfold KG at HL;have hcn:gG 0 0 a2 c2 X=X:=rfl;rw[hcn];clear hf ht hcn;go_enter func199,ntmps199;go_wp2;go_cut [6,7,8] from 27 to 39 (fun s6 s7 s8 wc=>s6=I J 0∧s7=I J 0∧s8=Bl Z∧∃ n,wc=w.drewN n)
     case first=>go_region_held_law (fun w'=>w'.cell? ⟨g,off+2,X⟩=O (I J b1)∧w'.cell? ⟨g,off+6,X⟩=O (I J d1)) (first|with_reducible assumption|exact U HLK) (first|(refine kk rfl 227 #[.tmp 31,.tmp 35] #[3,3] rfl func227 Dc CW #[I J b1,I J d1] zl 36 rfl (U HL _) ?_;rintro e wu ⟨rfl,hwu⟩;subst hwu;refine⟨_,rfl,?_⟩));all_goals go_wp2;go_meet;exact⟨rfl,rfl,rfl,_,rfl⟩
     case rest=>obtain⟨rfl,rfl,rfl,n,rfl⟩:=hcut;go_wp2_with fail;go_ret2;exact⟨rfl,zS (Ze _ _) n⟩
    |some q=>
     obtain⟨j,o⟩:=q;unfold KG at HL;have hjo:=U HLS j o rfl;have hcs:gG 0 0 a2 c2 (O (j,o))=(rkF a2 c2 j).map (fun s=>s++[(o,0)]):=rfl;rw[hcs];generalize hrk:rkF a2 c2 j=rk;have HRKE:=V hrk;generalize hcr:rk.map (fun s=>s++[(o,(0:Int))])=cr;have HCR:=V hcr;clear hf ht hcs hrk hcr;go_enter func199,ntmps199;go_wp2;go_cut [6,7,8] from 27 to 39 (fun s6 s7 s8 wc=>s6=I J j∧s7=I J o∧s8=Bl Y∧∃ n,wc=w.drewN n)
     case first=>go_region_held_law (fun w'=>w'.cell? ⟨g,off+2,X⟩=O (I J b1)∧w'.cell? ⟨g,off+6,X⟩=O (I J d1)) (first|with_reducible assumption|exact U HLK) (first|(refine kk rfl 227 #[.tmp 31,.tmp 35] #[3,3] rfl func227 Dc CW #[I J b1,I J d1] zl 36 rfl (U HL _) ?_;rintro e wu ⟨rfl,hwu⟩;subst hwu;refine⟨_,rfl,?_⟩));all_goals go_wp2;go_meet;exact⟨rfl,rfl,rfl,_,rfl⟩
     case rest=>
      obtain⟨rfl,rfl,rfl,n,hwc⟩:=hcut;obtain⟨W,hW⟩:∃ W:YW,W=wc:=⟨_,rfl⟩;rw[← hW]at hwc ⊢;have HBW:Hid (Below w.heap.size w W):=by rw[hwc];exact zS (Ze _ _) n
      have q2:W.cell? ⟨g,off+1,X⟩=O (I J a2):=by rw[hwc];exact k2
      have q6:W.cell? ⟨g,off+4+1,X⟩=O (I J c2):=by rw[hwc];exact k6
      have hgW:g<W.heap.size:=by have:=HBW.size;omega
      clear hW hwc k1 k2 k3 k4 k5 k6 k7 k8 HL hgl;have HS0:Hid (ChS g off a2 c2 W.drew):=⟨q2,q6,hgW⟩;have HSD1:Hid (∀ o,ChS g off a2 c2 (W.alloc o).drew):=fun o=>ChS.z (V:=W) ⟨q2,q6,hgW⟩ (yr (zB W o));have HSD2:Hid (∀ o o',ChS g off a2 c2 ((W.alloc o).alloc o').drew):=fun o o'=>ChS.z (V:=W) ⟨q2,q6,hgW⟩ (yr (yG W o o'));have HSB:Hid (∀ V V',ChS g off a2 c2 V→Below V.heap.size V V'→ChS g off a2 c2 V'):=fun V V' h hb=>h.z hb;have HSB2:=HSB;have HSA:Hid (∀ V o,ChS g off a2 c2 V→ChS g off a2 c2 (V.alloc o)):=fun V o h=>h.z (zB V o);have HLI:=V (QA a2 c2);have HOP:=V (Jx j);have HCC:=V (Kd a2 c2 j)
      have HRK:Hid (∀ (V:YW) (a:YA) (c:Nat),Below W.heap.size W V→InL V a [(0,a2),(0,c2),(j,0)]→Calls prog 198 #[A (O ⟨fb,0,X⟩),S a 3 c] V fun e w'=>aD V.heap.size w' rk e∧Below V.heap.size V w'):=fun V a c hV hin=>by
        have hbV:Below w.heap.size w V:=HBW.trans (hV.m HBW.size)
        exact Lt fb tb rv a2 c2 j rk (U HRKE) V a c (HF.z hbV) (Lib.tabBelow_of_tabIs (U HTA) V hbV) hin hai hci
      have HOO:=V (fun V:World=>Jx o (V.alloc (C #[I J o] 3)) V.heap.size (Blk.new V _ _));go_wp2;go_cut [9,8] from 40 to 61 (fun s9 s8 wc=>Ux W rk s9 s8 wc)
      case first=>
       go_region_held_law (fun w'=>w'.cell? ⟨g,off+1,X⟩=O (I J a2)∧w'.cell? ⟨g,off+4+1,X⟩=O (I J c2)∧g<w'.heap.size) (first|with_reducible exact U HS0|with_reducible exact U HSD1 _|with_reducible exact U HSD2 _ _|with_reducible assumption|with_reducible exact U HSA _ _ za) (first
         | (refine kk rfl 226 #[.tmp 52] #[42] rfl func226 sg rY #[S (O ⟨W.heap.size,0,X⟩) 2 2] zh 53 rfl (U HLI _ _ zk) ?_;rintro e wu ⟨ax,cx,rfl,hox,hbx⟩;have HOX:=V hox;have hsu:=U HSB _ wu za hbx;have HBL:Hid (Below W.heap.size W wu):=Below.trans zb (hbx.m zj);have HJ:Hid (Blk wu (W.heap.size+1) #[I J j] 3):=Blk.z zk hbx zj;clear hox hbx;refine⟨_,rfl,?_⟩)
         | (refine kk rfl 226 #[.tmp 52] #[42] rfl func226 sg rY #[S (O ⟨W.heap.size+1,0,X⟩) 2 2] zh 53 rfl (U HLI _ _ zk) ?_;rintro e wu ⟨ax,cx,rfl,hox,hbx⟩;have HOX:=V hox;have hsu:=U HSB _ wu za hbx;have HBL:Hid (Below W.heap.size W wu):=Below.trans zb (hbx.m zj);have HJ:Hid (Blk wu W.heap.size #[I J j] 3):=Blk.z zk hbx zj;clear hox hbx;refine⟨_,rfl,?_⟩)
         | (refine kk rfl 226 #[.tmp 52] #[42] rfl func226 sg rY #[S (O ⟨W.heap.size,0,X⟩) 2 2] zh 53 rfl (U HLI _ _ zk) ?_;rintro e wu ⟨ax,cx,rfl,hox,hbx⟩;have HOX:=V hox;have hsu:=U HSB _ wu za hbx;have HBL:Hid (Below W.heap.size W wu):=Below.trans zb (hbx.m zj);clear hox hbx;refine⟨_,rfl,?_⟩)
         | (refine kk rfl 202 #[.tmp 55] #[115] rfl func202 sf rX #[S (O ⟨W.heap.size+1,0,X⟩) 1 1] zh 56 rfl (U HOP _ _ (U HJ)) ?_;rintro e wv ⟨ay,cy,rfl,hoy,hby⟩;have HXV:=V (HOX.isIn.1.z hby);have HYV:=V hoy.isIn.1;have hsv:=U HSB _ wv za hby;have HBO:Hid (Below W.heap.size W wv):=HBL.trans (hby.m HBL.size);clear hoy hby;refine⟨_,rfl,?_⟩)
         | (refine kk rfl 202 #[.tmp 55] #[115] rfl func202 sf rX #[S (O ⟨W.heap.size,0,X⟩) 1 1] zh 56 rfl (U HOP _ _ (U HJ)) ?_;rintro e wv ⟨ay,cy,rfl,hoy,hby⟩;have HXV:=V (HOX.isIn.1.z hby);have HYV:=V hoy.isIn.1;have hsv:=U HSB _ wv za hby;have HBO:Hid (Below W.heap.size W wv):=HBL.trans (hby.m HBL.size);clear hoy hby;refine⟨_,rfl,?_⟩)
         | (refine kk rfl 202 #[.tmp 55] #[115] rfl func202 sf rX #[S (O ⟨wu.heap.size,0,X⟩) 1 1] zh 56 rfl (U HOP _ _ zk) ?_;rintro e wv ⟨ay,cy,rfl,hoy,hby⟩;have HXV:=V ((HOX.isIn.1.z (zB wu _)).z hby);have HYV:=V hoy.isIn.1;have hsv:=U HSB _ wv za hby;have HBO:Hid (Below W.heap.size W wv):=(HBL.trans ((zB wu _).m HBL.size)).trans (hby.m (by have:=HBL.size;simp;omega));clear hoy hby;refine⟨_,rfl,?_⟩)
         | (refine kk rfl 225 #[.tmp 57] #[273] rfl func225 Pz Pe #[S (O ⟨wv.heap.size,0,X⟩) 2 2] zh 58 rfl (U HCC wv ax ay cx cy (U HXV) (U HYV)) ?_;rintro e wz ⟨az,cz,rfl,hiz,hbz⟩;have HIZ:=V hiz;have hsz:=U HSB2 _ wz hsv hbz;have HBZ:Hid (Below W.heap.size W wz):=HBO.trans (hbz.m HBO.size);clear hiz hbz;refine⟨_,rfl,?_⟩)
         | (refine kk rfl 198 #[.tmp 43,.tmp 58] #[156,33] rfl func198 Pu OY #[A (O ⟨fb,0,X⟩),S az 3 cz] zh 59 rfl (U HRK wz az cz (U HBZ) (U HIZ)) ?_;rintro e wq ⟨hout,hbq⟩;obtain⟨a9,n9,c9,b9,rfl,hr9⟩:=aD.tup hout;have HR9:=V (sD.K hr9 HBZ.size);have hsq:=U HSB2 _ wq hsz hbq;have HBQ:Hid (Below W.heap.size W wq):=HBZ.trans (hbq.m HBZ.size);clear hout hbq hr9;refine⟨_,rfl,?_⟩))
       all_goals go_wp2;go_meet;exact⟨U HR9,U HBQ⟩
      case rest=>
       obtain⟨htup,hbc⟩:=hcut;obtain⟨W3,hW3⟩:∃ W3:YW,W3=wc:=⟨_,rfl⟩;rw[← hW3]at htup hbc ⊢;have HB3:Hid (Below w.heap.size w W3):=HBW.trans (hbc.m HBW.size);have HBC:=V hbc;clear hW3 hbc;cases rk with
       |none=>obtain⟨rfl,rfl⟩:=htup;have hcr:cr=X:=HCR.symm;subst hcr;go_wp2_with fail;go_ret2;exact⟨rfl,U HB3⟩
       |some nl=>
        obtain⟨a5,c5,rfl,rfl,ho5⟩:=htup;have hcr:cr=O (nl++[(o,0)]):=HCR.symm;subst hcr;have HO5:=V ho5;have HNL:Hid (nl.length≤1000):=by have:=fh (row:=[(0,a2),(0,c2),(j,0)]) (s:=nl) (by rw[← FV];exact U HRKE);show _≤_;simp at this;omega
        have HOC:=V (U HOO W3);have HBX:=V (zB W3 (C #[I J o] 3));clear ho5;go_wp2_with fail;refine HOC.m ?_;rintro e W5 ⟨a6,c6,rfl,ho6,hb6⟩;have hb35:Below W3.heap.size W3 W5:=HBX.trans (hb6.m HBX.size);have HO6:=V (HO5.z hb35);have HI6:=V ho6.isIn.1;have HBN:Hid (Below W.heap.size W W5):=HBC.trans (hb35.m HBC.size);clear ho6 hb6 hb35 HOC;go_wp2_with (at_builtin;refine vz rfl (.tmp 64) (.tmp 67) rfl W.heap.size W _ nl [(o,0)] a6 c6 zf zf (U HO6) (U HI6) (by have:=U HNL;simp;omega) (U HBN) HBN.size _ rfl ?_;intro a7 c7 w7 HO7 HB7);go_ret2;refine⟨⟨S a7 (nl++[(o,0)]).length c7,zs,yD.K (U HO7) HBW.size⟩,HBW.trans (HB7.m HBW.size)⟩
   ·have hcn:gG 0 c1 a2 c2 (wE b1 d1)=X:=by unfold gG;rw[if_neg (by simp[hc])]
    rw[hcn];have hc':(c1 != 0)=Y:=by simpa using hc
    clear hf ht hc hcn;go_enter func199,ntmps199;go_wp2_with fail;go_ret2;exact⟨rfl,Ze _ _⟩
  ·have hcn:gG a1 c1 a2 c2 (wE b1 d1)=X:=by unfold gG;rw[if_neg (by simp[ha])]
   rw[hcn];have ha':(a1 != 0)=Y:=by simpa using ha
   clear hf ht ha hcn;go_enter func199,ntmps199;go_wp2_with fail;go_ret2;exact⟨rfl,Ze _ _⟩
 ·rw[GQ h4];have h4':((row.length:Int) != 4)=Y:=zp;clear hf ht hin hi h4;go_enter func199,ntmps199;go_wp2_with fail;go_ret2;exact⟨rfl,Ze _ _⟩
end Go.Proofs.YtmeiikjpaepogaaGreatDoor
