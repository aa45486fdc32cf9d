/- Own. -/
import Derived.Test.YtmeiikjpaepogaaGreatDoorD32
open Option renaming some->O,none->X
open Bool renaming true->Y,false->Z
open Go.Value renaming int->I,slice->S,pointer->A,bool->Bl,string->Sr,tuple->Tu
open Go.Obj renaming cells->C
open Go.Ending renaming returned->Rt
open Go.IntKind renaming i64->J
set_option maxRecDepth 100000
set_option maxHeartbeats 16000000
namespace Go.Proofs.YtmeiikjpaepogaaGreatDoor
open Go Go.RowKit Go.Proofs.Tryz List
theorem bj.o{w:YW}{q:Nat}(h:bj wV w q):jc w q:=by obtain⟨c,p,l,en,ce,b,d,f,a,i,g⟩:=h;obtain⟨e,rfl⟩:∃e:Nat,en=e:=⟨en.toNat,zo⟩;exact⟨c,p,Z,Z,l,e,ce,l,e,b,d,f,⟨a,a⟩,⟨zo,zo⟩,g,fun _ _=>⟨rfl,rfl⟩,fun _ h=>(by cases h),⟨kf.refl _,au.refl _⟩⟩
theorem dB(B bw:Nat)(ps hs:List Nat)(vp vh:Value)(w:YW)(h:Lw B w bw ps hs vp vh)(hh:yk w hs)(hp:yK w ps)(h2:hs.length+8<=17592186044416)(f t su:Bool)(n:Int)(s:YB)(ao:YA)(c:Nat)(l:YL)(en ce l1 l2 l3 l4 fu:Int)(D:InL w ao l)(hi:∀x∈l,inI x.2)(W1:l.length<=8796093021960):Calls prog 42 #[A (O ⟨bw,0,X⟩),opV 2 n s f t su (S ao l.length c) en ce l1 l2 l3 l4 fu] w (fun e w'=>e=Rt (Bl Y)/\qv B w bw hs w'):=by
 have n1:B<=w.heap.size:=by have:=h.K;have:=h.D.lt;omega
 have n0:Below w.heap.size w (w.alloc (C (opC 2 n s f t su (S ao l.length c) en ce l1 l2 l3 l4 fu) 63)):=zB w _;have q0:(w.alloc (C (opC 2 n s f t su (S ao l.length c) en ce l1 l2 l3 l4 fu) 63)).heap.size=w.heap.size+1:=zs;have k0:=Blk.new w (opC 2 n s f t su (S ao l.length c) en ce l1 l2 l3 l4 fu) 63;have M:=D.z n0;obtain⟨N,hN⟩:∃N,N=l.length+8:=⟨_,rfl⟩;obtain⟨ZC,m0⟩:∃ZC,ZC=(zc (replicate N ((0:Int),(0:Int)))).toArray:=⟨_,rfl⟩
 have X1:∀W:YW,(Instr.makeSlice 33 (I J ((l.length:Int)+8)) (I J ((l.length:Int)+8))).run prog W=.ok (S (O ⟨W.heap.size,0,X⟩) N N) (W.alloc (C ZC 65)):=fun W=>by
   have hr:=gS N zo W
   rw[DX,<-m0]at hr
   have e:((N:Nat):Int)=(l.length:Int)+8:=zo
   rw[e]at hr
   exact hr
 have i2:(l.length:Int)<=8796093021960:=zo;unfold opV;unfold opC at n0 q0 k0 M;generalize R1:w.alloc (C #[I J 2,I J n,Sr s,Bl f,Bl t,Bl su,S ao l.length c,I J en,I J ce,I J l1,I J l2,I J l3,I J l4,I J fu] 63 )=W0 at *;have Q0:=zB W0 (C ZC 65);have hZ:Blk (W0.alloc (C ZC 65)) (w.heap.size+1) (zc (replicate N ((0:Int),(0:Int)))).toArray 65:=by have h0:=Blk.new W0 ZC 65;rw[q0]at h0;rw[<-m0];exact h0
 have D0:=M.z Q0;have HZ:=V hZ;have w0:=V D0;have A0:Below (w.heap.size+1) W0 (W0.alloc (C ZC 65)):=by rw[<-q0];exact Q0
 have Z0:=V A0;have i1:=V k0;have S1:=k0.u;have F1:=V n0;have O1:=V q0;have I1:=V M;have HN:=V hN;have p2:=V m0;have HL:=V h;have HH:=V hh;have HP:=V hp;have HI:=V hi;have v2:w.heap.size<W0.heap.size:=zo;clear n0 k0 M D0 hZ Q0 A0 h hh hp D hi hN m0;go_enter func42,ntmps42;go_upto_region 1 with fail;clear R1;go_wp2_with (refine sy rfl (.tmp 17) (.tmp 19) rfl l ao c (w.heap.size+1) N HN zf zf HZ w0 (w.heap.size+1) W0 Z0 (Zc _) (O 20) rfl ?_;intro p s0 O0;have I0:=V O0;clear O0);have g:Blk p (w.heap.size+1) (zc (jf l)).toArray 65:=U s0;have l0:=i1.z I0 (Nat.lt_succ_self _);have B0:Below w.heap.size w p:=F1.trans (I0.m (Nat.le_succ _));have A1:w.heap.size+2<=p.heap.size:=g.lt;have q1:Below p.heap.size p p.drew:=yP (Ze _ _);have b1:=V (Cg (O ⟨w.heap.size+1,0,X⟩) N l en ce p.drew (Fe g.drew))
 have hS:∀W,Below p.heap.size p W->W.cell? ⟨w.heap.size,6,X⟩=O (S ao l.length c)/\W.cell? ⟨w.heap.size,7,X⟩=O (I J en)/\W.cell? ⟨w.heap.size,8,X⟩=O (I J ce):=fun W hW=>by
   have:=(l0.z hW l0.lt).u
   exact⟨this 6,this 7,this 8⟩
 have HS:=V hS;have m1:=V (hS _ q1);have L0:=V g;have o2:=V l0;have u0:=V B0;have v0:Hid (InL p ao l):=by rcases U I1 with e|⟨g1,off,e1,e2,e3⟩;exact Zg e;have h1:=U O1;exact Zf ⟨g1,off,e1,zo,fun j u hj=>by rw[I0.u zp];exact e3 j u hj⟩
 have r2:(N:Int)=(l.length:Int)+8:=by have:=U HN;omega
 have g2:(l.length:Int)<=N:=zo;have V1:l.length<=N:=zo;have k2:w.heap.size<p.heap.size:=zo;have r1:w.heap.size+1<p.heap.size:=zo;clear g l0 B0 hS q1 S1 HZ w0 Z0 i1 s0 X1;simp only[Act.put,Zt,set_cons_succ,set_cons_zero];go_wp2;go_cut [6,7]from 12 to 111 (fun s6 s7 wc=>∃po er,s6=A po/\s7=I J er/\hY p.drew l en ce (Rt (Tu #[A po,I J er])) wc)
 case first=>go_region_held_law (fun w'=>w'.cell? ⟨w.heap.size,6,X⟩=O (S ao l.length c)/\w'.cell? ⟨w.heap.size,7,X⟩=O (I J en)/\w'.cell? ⟨w.heap.size,8,X⟩=O (I J ce)) (first|with_reducible exact U P1|with_reducible exact U m1) ((refine AH rfl 20 #[.tmp 26,.tmp 28,.tmp 30] #[33,3,3] rfl func20 Gz Gq #[S (O ⟨w.heap.size+1,0,X⟩) l.length N,I J en,I J ce] zl (R:=hY p.drew l en ce) 31 rfl (by exact U b1) ?_;rintro e w3 d;obtain⟨po,er,rfl,d⟩:=d.shape;have P1:=V (U HS w3 ((yP (Ze _ _)).trans d.2));have H:=V d;clear d;refine⟨_,rfl,?_⟩));all_goals go_wp2;go_meet;refine⟨po,er,?_,?_,U H⟩;all_goals first|rfl|(simp;done)
 case rest=>
  obtain⟨po,er,rfl,rfl,d⟩:=hcut;obtain⟨w3,rfl⟩:∃w3:YW,w3=wc:=⟨_,rfl⟩;have r:Below p.heap.size p w3:=(yP (Ze _ _)).trans d.2;obtain⟨s4,s5,s6⟩:=U HS w3 r;have k1:=V (tC ao c l en ce w3 (v0.z r));have H:=V d;have r0:=V r;have m2:w.heap.size<w3.heap.size:=by have:=r.size;omega
  clear d r b1 m1;go_wp2_with fail;refine k1.m ?_;rintro e b i0;obtain⟨Z1,q2,rfl,i0⟩:=i0.shape;have Y1:w.heap.size+2<=p.drew.heap.size:=A1;obtain⟨rfl,v1,T0⟩:=tp (w:=w) H i0 Y1;have x0:=i0.2;have v:Below p.heap.size p b:=r0.trans (x0.m r0.size);obtain⟨q4,q5,q6⟩:=U HS b v;have K1:=V v1;have Q:=V v;have M1:=V T0;have n2:w.heap.size<b.heap.size:=by have:=v.size;omega
  have f2:w.heap.size+1<b.heap.size:=by have:=v.size;omega
  clear i0 v1 x0 v k1 H s4 s5 s6;go_upto_region 5 with fail;go_cut [10]from 12 to 111 (fun b2 wc=>b2=Bl Y/\wc=b)
  case first=>rcases T0 with⟨rfl,rfl⟩|⟨c',p',rfl,rfl,_⟩;all_goals go_wp2;go_meet;exact⟨rfl,rfl⟩
  case rest=>
   obtain⟨rfl,hw⟩:=hcut;obtain rfl:=hw.symm;clear hw T0;have H0:=CG HN W1 (L0.z Q r1);have q:=V H0;have c1:=V (v0.z Q);have d2:(N:Int)<=8796093022000:=zo;clear H0;go_wp2;go_loopw [10,11] (fun ok i wr=>∃(k m:Nat),i=I J k/\k<=N/\ok=Bl Y/\wr=b.drewN m) (fun _ i _=>N-(intOf i).toNat);case atStart=>exact⟨0,0,rfl,Zq _,rfl,rfl⟩
   case round=>
    obtain⟨k,m,rfl,hk,rfl,rfl⟩:=hrel;by_cases u2:k<N
    ·have j2:(k:Int)<N:=zo;have o1:=U HN;by_cases D:k<l.length
     ·have t1:(k:Int)<l.length:=zo;obtain⟨x,P⟩:∃x,l[k]? = O x:=⟨_,Za D⟩;have G:(jf l)[k]? = O x:=by rw[Fm l D];exact P
      have M0:=zD q (k*2) zo;have N0:=zD q (k*2+1) zo;rw[(zL _ _ _ G).1]at M0;rw[(zL _ _ _ G).2]at N0;rcases U c1 with e0|⟨g1,off,rfl,t2,L⟩;rw[e0]at D;simp at D;obtain⟨s2,O0⟩:=fL L P;clear P G L o1;go_wp2;go_region;go_wp2;go_roundw;case rel=>exact⟨k+1,m+1,by go_num,zo,rfl,rfl⟩
      case measure=>exact zv
     ·have t1:¬(k:Int)<l.length:=zo;have T1:(l.length:Int)<=k:=zo;have G:(jf l)[k]? = O (0,0):=Co l zo zo;have M0:=zD q (k*2) zo;have N0:=zD q (k*2+1) zo;rw[(zL _ _ _ G).1]at M0;rw[(zL _ _ _ G).2]at N0;clear G o1;go_wp2;go_region;go_wp2;go_roundw;case rel=>exact⟨k+1,m+1,by go_num,zo,rfl,rfl⟩
      case measure=>exact zv
    ·have U1:k=N:=zo;subst U1;have K:Below w.heap.size w b:=u0.trans (Q.m u0.size);have S0:=(HL.z K).drewN m;have R0:Below w.heap.size w (b.drewN m):=zS K m;have B1:(b.drewN m).heap.size=b.heap.size:=rfl;have b0:=Blk.new (b.drewN m) #[S (O ⟨w.heap.size+1,0,X⟩) k k,S X 0 0,I J 0] 134;have P0:Below (b.drewN m).heap.size (b.drewN m) ((b.drewN m).alloc (C #[S (O ⟨w.heap.size+1,0,X⟩) k k,S X 0 0,I J 0] 134)):=zB _ _;have C0:Below w.heap.size w ((b.drewN m).alloc (C #[S (O ⟨w.heap.size+1,0,X⟩) k k,S X 0 0,I J 0] 134)):=R0.trans (P0.m R0.size);have j0:(b.drewN m).ownsRow 0 65 2 (S (O ⟨w.heap.size+1,0,X⟩) k k) k (zc (jf l)):=U q;have U0:=zE j0 (C #[S (O ⟨w.heap.size+1,0,X⟩) k k,S X 0 0,I J 0] 134);have G0:((b.drewN m).alloc (C #[S (O ⟨w.heap.size+1,0,X⟩) k k,S X 0 0,I J 0] 134)).ownsRow 0 65 2 (S (O ⟨w.heap.size+1,0,X⟩) k k) (jf l).length (zc (jf l)):=by rw[gM,<-U HN];exact U0
     have E0:cw w l en ce ((b.drewN m).alloc (C #[S (O ⟨w.heap.size+1,0,X⟩) k k,S X 0 0,I J 0] 134)) (A po) (A Z1) er:=(K1.longer (zS (Ze _ _) m)).longer P0;have HK:=V (Cj B bw ps hs vp vh b.heap.size 0 (S (O ⟨w.heap.size+1,0,X⟩) k k) (S X 0 0) (jf l) [] _ (S0.alloc _) b0 G0 (Zm _ _ _ _) (by rw[gM];omega) zs zo);have J0:=V (S0.alloc (C #[S (O ⟨w.heap.size+1,0,X⟩) k k,S X 0 0,I J 0] 134));have t0:=V b0;have j1:=V U0;have d1:=V E0;have T:=V C0;have D1:w.heap.size<=b.heap.size:=K.size;clear K S0 R0 b0 P0 C0 j0 U0 G0 E0 B1 q4 q5 q6;go_wp2_with fail;refine HK.m ?_;rintro e w5 ⟨rfl,gl,qg,x2,y2,V0,E⟩;have C1:∀j,(Value.slice (O ⟨w.heap.size+1,0,X⟩) k k).ownBlock=O j->w.heap.size<=j:=fun j hj=>by simp[Value.ownBlock]at hj;omega
     have F0:∀j,(Value.slice X 0 0).ownBlock=O j->w.heap.size<=j:=fun j hj=>by simp[Value.ownBlock]at hj
     obtain⟨a,y⟩:=E.law (w:=w) J0 (zz.aB T) (T.m n1) n1 D1 C1 F0;have o0:=E.holds J0 (HH.H (zz.aB T) D1 C1 F0) t0 j1 (Zm _ _ _ _);have g0:=d1.kept E J0 t0 j1;have p0:=E.lw;have F:(hs++gl).length<=hs.length+8:=by simp[E.len]
     rcases U M1 with⟨rfl,rfl⟩|⟨c',p',rfl,rfl,E1⟩
     ·have a1:Hid (qv B w bw hs w5):=⟨ps,hs++gl,vp,V0,p0,HP.law a,o0,F,a,y⟩;clear E a y o0 g0 p0 HK;go_wp2;go_ret;exact⟨rfl,U a1⟩
     ·have y1:=Blk.new w5 #[A (O ⟨c',0,X⟩),A (O ⟨p',0,X⟩),Bl Z,Bl Z] 129;have a0:Below w5.heap.size w5 (w5.alloc (C #[A (O ⟨c',0,X⟩),A (O ⟨p',0,X⟩),Bl Z,Bl Z] 129)):=zB _ _;have w1:=((g0.longer a0).player E1 HI y1).o;have L1:=V w1;have X0:=V (iG B bw ps (hs++gl) vp V0 w5.heap.size _ (p0.alloc (C #[A (O ⟨c',0,X⟩),A (O ⟨p',0,X⟩),Bl Z,Bl Z] 129)));have d0:zz w (w5.alloc (C #[A (O ⟨c',0,X⟩),A (O ⟨p',0,X⟩),Bl Z,Bl Z] 129)):=a.trans (zz.aB a0);have Q1:B<=w5.heap.size:=by have:=y.size;omega
      have y0:Below B w (w5.alloc (C #[A (O ⟨c',0,X⟩),A (O ⟨p',0,X⟩),Bl Z,Bl Z] 129)):=y.trans (a0.m Q1);have s1:=o0.law (zz.aB a0);have K0:=V d0;have Y0:=V y0;have H1:=V s1;have f1:=V F;clear E a y o0 g0 p0 y1 a0 w1 d0 y0 s1 F HK;go_wp2_with fail;refine X0.m ?_;rintro e w7 ⟨rfl,a2,c2,x1,u1,f0,p1⟩;have J1:=V u1;have z:=V f0;have G1:=V p1;have N1:=V x1;clear u1 f0 p1 x1 X0;go_wp2;go_ret;have c0:zz w w7:=K0.trans z;refine⟨rfl,a2,hs++gl,c2,V0,U J1,?_,H1.law z,U f1,c0,Y0.trans G1⟩;intro x P;rcases U N1 with e|e;rw[e]at P;exact(HP.law c0) x P;rw[e]at P;rcases Zo.1 P with P|P;exact(HP.law c0) x P;simp at P;subst P;exact L1.law z
end Go.Proofs.YtmeiikjpaepogaaGreatDoor
