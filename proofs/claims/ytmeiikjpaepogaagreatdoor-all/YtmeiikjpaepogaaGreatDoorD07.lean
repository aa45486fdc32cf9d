/- Own. -/
import Derived.Test.YtmeiikjpaepogaaGreatDoorD06
open Option renaming some->O,none->X
open Bool renaming true->Y,false->Z
open Go.Value renaming int->I,slice->S,pointer->A,bool->Bl,tuple->Tu
open Go.Obj renaming cells->C
open Go.Ending renaming returned->Rt
open Go.IntKind renaming i64->J
set_option maxRecDepth 100000
set_option maxHeartbeats 8000000
namespace Go.Proofs.YtmeiikjpaepogaaGreatDoor
open Go Go.RowKit Go.Proofs.Tryz List
theorem McE.R{B:Nat}{w:YW}{b:Nat}{m:MS}(h:McE B w b m):m.C.length<=1000/\m.G.length<=1000/\m.aC.length<=1000/\m.cells.length<=1000/\m.out.size<=1000/\(m.out.size:Int)<=m.lo:=by obtain⟨_,_,_,_,h⟩:=h;exact h.R
theorem McE.ints{B:Nat}{w:YW}{b:Nat}{m:MS}(h:McE B w b m):(∀x∈m.C,inI x)/\(∀x∈m.G,inI x)/\(∀x∈m.cells,inI x):=by obtain⟨_,_,_,_,h⟩:=h;exact h.ints
theorem McE.drewN{B:Nat}{w:YW}{b:Nat}{m:MS}(h:McE B w b m)(n:Nat):McE B (w.drewN n) b m:=by obtain⟨_,_,_,_,h⟩:=h;exact⟨_,_,_,_,h.drewN n⟩
theorem McE.K{B:Nat}{w:YW}{b:Nat}{m:MS}(h:McE B w b m):B<=b:=by obtain⟨_,_,_,_,h⟩:=h;exact h.K
theorem McE.at{B:Nat}{w:YW}{b:Nat}{m:MS}(h:McE B w b m)(k:Int):McE B (w.setCell ⟨b,10,X⟩ (I J k)) b {m with pc:=k}:=by obtain⟨_,_,_,_,h⟩:=h;exact⟨_,_,_,_,h.field 10 (I J k) _ (by simp[yx]) rfl h.lims h.R h.ints⟩
theorem McE.halt{B:Nat}{w:YW}{b:Nat}{m:MS}(h:McE B w b m):McE B (w.setCell ⟨b,11,X⟩ (Bl Y)) b {m with aE:=Y}:=by obtain⟨_,_,_,_,h⟩:=h;exact⟨_,_,_,_,h.field 11 (Bl Y) _ (by simp[yx]) rfl h.lims h.R h.ints⟩
theorem vq{B n:Nat}{w w':YW}(h:Below B (w.drewN n) w'):Below B w w':=Below.trans (b:=w.drewN n) ⟨rfl,rfl,rfl,Zc _,fun _ _=>rfl⟩ h
theorem Db:(f212.name == "runtime.NumGoroutine")=Z:=zr
theorem CV:f212.body.isNone=Z:=zr
theorem TD(B b:Nat)(m:MS)(arg:Int)(w:YW)(h:McE B w b m)(a:inI arg)(g:m.C.length<1000):Calls prog 184 #[A (O ⟨b,0,X⟩),I J 0,I J arg] w fun e w'=>e=Rt (Tu #[])/\McE B w' b {m with C:=m.C++[arg]}/\Below B w w':=by have d:=V (wF B b m arg w h a g);go_enter func184,ntmps184;go_wp2_with fail;refine d.m ?_;rintro e i ⟨rfl,f,c⟩;clear d;go_wp2;go_end0;exact⟨rfl,f,c⟩
theorem Sl(B b:Nat)(m:MS)(arg:Int)(w:YW)(h:McE B w b m)(a:inI arg)  : Calls prog 184 #[A (O ⟨b,0,X⟩),I J 1,I J arg] w fun e w'=>e=Rt (Tu #[])/\McE B w' b {m with pc:=arg}/\Below B w w':=by have f:=h;obtain⟨n,o,p,q,c⟩:=f;have j:=c.D.u;have l:=c.D.H;have k:=c.D.lt;unfold yx at j;clear c;have d:=a;unfold inI at d;obtain⟨g,i⟩:=d;go_enter func184,ntmps184;go_wp2;go_end0;exact⟨rfl,h.at arg,(Ze B w).setCell h.K _⟩
theorem Sk(B b:Nat)(m:MS)(arg:Int)(w:YW)(h:McE B w b m)(a:inI arg)  : Calls prog 184 #[A (O ⟨b,0,X⟩),I J 5,I J arg] w fun e w'=>e=Rt (Tu #[])/\McE B w' b {m with aE:=Y}/\Below B w w':=by have f:=h;obtain⟨n,o,p,q,c⟩:=f;have j:=c.D.u;have l:=c.D.H;have k:=c.D.lt;unfold yx at j;clear c;have d:=a;unfold inI at d;obtain⟨g,i⟩:=d;go_enter func184,ntmps184;go_wp2;go_end0;exact⟨rfl,h.halt,(Ze B w).setCell h.K _⟩
theorem EC(B b:Nat)(m:MS)(arg:Int)(l:YI)(x:Int)(w:YW)(h:McE B w b m)(a:inI arg)(he:m.C=l++[x])(t:(x==0)=Y):Calls prog 184 #[A (O ⟨b,0,X⟩),I J 2,I J arg] w fun e w'=>e=Rt (Tu #[])/\McE B w' b {m with C:=l,pc:=arg}/\Below B w w':=by have i:=V (jw B b m w h l x he);have c:inI x:=h.ints.1 x (by rw[he];simp);unfold inI at c;obtain⟨q,r⟩:=c;go_enter func184,ntmps184;go_wp2_with fail;refine i.m ?_;rintro e D ⟨rfl,f,g⟩;clear i;obtain⟨u,v,y,z,d⟩:=id f;have o:=d.D.u;have s:=d.D.H;have p:=d.D.lt;unfold yx at o;clear d;have j:=a;unfold inI at j;obtain⟨k,n⟩:=j;go_wp2;go_end0;exact⟨rfl,f.at arg,g.setCell f.K _⟩
theorem Hl(B b:Nat)(m:MS)(arg:Int)(l:YI)(x:Int)(w:YW)(h:McE B w b m)(a:inI arg)(he:m.C=l++[x])(t:(x==0)=Z):Calls prog 184 #[A (O ⟨b,0,X⟩),I J 2,I J arg] w fun e w'=>e=Rt (Tu #[])/\McE B w' b {m with C:=l}/\Below B w w':=by have g:=V (jw B b m w h l x he);have c:inI x:=h.ints.1 x (by rw[he];simp);unfold inI at c;obtain⟨q,r⟩:=c;go_enter func184,ntmps184;go_wp2_with fail;refine g.m ?_;rintro e D ⟨rfl,i,f⟩;clear g;obtain⟨u,v,y,z,d⟩:=id i;have o:=d.D.u;have s:=d.D.H;have p:=d.D.lt;unfold yx at o;clear d;have j:=a;unfold inI at j;obtain⟨k,n⟩:=j;go_wp2;go_end0;exact⟨rfl,i,f⟩
theorem Sj(B b:Nat)(m:MS)(arg:Int)(w:YW)(h:McE B w b m)(i:inI arg)(M:m.aC.length<1000):Calls prog 184 #[A (O ⟨b,0,X⟩),I J 3,I J arg] w fun e w'=>e=Rt (Tu #[])/\McE B w' b {m with aC:=m.aC++[m.pc],pc:=arg}/\Below B w w':=by
 obtain⟨R,T,v,W,h⟩:=h;obtain⟨P,K,o,p,q⟩:=info_parts eQ;have N:=h.D.lt;have F:=h.D.u;have Q:=h.D.H;unfold yx at F;have r:=V h.D;unfold yx at r;have n:=h.ne 2 v rfl;have t:=i;unfold inI at t;obtain⟨D,E⟩:=t;have z:=V (zE h.o7 (C #[I J m.pc] 3));have f:B<=(w.alloc (C #[I J m.pc] 3)).drew.heap.size:=by have:=h.K;show B<=(w.alloc _).heap.size;simp;omega
 have l:=V f;clear f;go_enter func184,ntmps184;go_wp2;go_region_law (refine step_append_lies _ rfl (.tmp 45) (.tmp 50) 115 rfl B 3 P _ 1 8 underlying115 K o p q rfl zd v m.aC.length (zn m.aC) zf z ⟨w.heap.size,0,X⟩ 1 1 [I J m.pc] zf rfl (World.news_of_block (Blk.new w _ _)) (ky _) zo zm zo l _ rfl ?_;intro g cap w3 c a j u;have d:=(r.alloc _).drew.grown a n;have G:=d.u;have H:=d.H;have y:=V c;have s:=V a;have x:=V j;clear c a j d);all_goals go_wp2;go_end0;refine⟨rfl,McE.at ⟨_,_,_,_,h.grow7 M (xU s) y x zs⟩ arg,?_⟩;exact((xh (by have:=h.K;omega) (fun k L=>(zC h.o7 L).2) s).setCell h.K _).setCell h.K _
theorem Up{P:Prop}(zz0:P:=by
 have _:=a;have j:inI x:=h.ints.2.1 x (by rw[he];simp);have q:=V (fun n=>wF B b m x (w.drewN n) (h.drewN n) j o);obtain⟨E,F,G,H,c⟩:=id h;have t:m.G.length=l.length+1:=by rw[he];simp
 obtain⟨g,k,rfl,z,s⟩:=c.o6.form zo;have d:=c.D;unfold yx at d;have i:=c.o6;rw[t]at d i;have v:=zD i l.length zo;rw[he,ja]at v;have D:(l.length:Int)<=1000:=by have:=c.R;omega
 have u:IntKind.i64.wrap (l.length:Int)=l.length:=zw;have p:(l.length:Int)<l.length+1:=zo;have y:=d.u;clear c d i;go_enter func184,ntmps184;go_wp2;go_region_law (refine zN rfl 212 #[.tmp 171,.tmp 183] #[185,2] rfl func212 Db CV #[A (O ⟨b,0,X⟩),I J x] ze (U q _) ?_;rintro e K ⟨rfl,r,f⟩;refine⟨_,rfl,?_⟩);all_goals go_wp2;go_end0;exact⟨rfl,r,vq f⟩):P:=zz0
theorem Qi(B b:Nat)(m:MS)(arg:Int)(l:YI)(x:Int)(w:YW)(h:McE B w b m)(a:inI arg)(he:m.G=l++[x])(o:m.C.length<1000):Calls prog 184 #[A (O ⟨b,0,X⟩),I J 8,I J arg] w fun e w'=>e=Rt (Tu #[])/\McE B w' b {m with C:=m.C++[x]}/\Below B w w':=Up
theorem Sm(B b:Nat)(m:MS)(arg:Int)(l:YI)(x:Int)(w:YW)(h:McE B w b m)(a:inI arg)(he:m.G=l++[x])(o:m.C.length<1000):Calls prog 184 #[A (O ⟨b,0,X⟩),I J 28,I J arg] w fun e w'=>e=Rt (Tu #[])/\McE B w' b {m with C:=m.C++[x]}/\Below B w w':=Up
theorem TE(B b:Nat)(m:MS)(arg:Int)(l:YI)(x:Int)(w:YW)(h:McE B w b m)(c:inI arg)(he:m.aC=l++[x]):Calls prog 184 #[A (O ⟨b,0,X⟩),I J 4,I J arg] w fun e w'=>e=Rt (Tu #[])/\McE B w' b {m with aC:=l,pc:=x}/\Below B w w':=by
 have _:=c;obtain⟨v,y,z,D,h⟩:=h;have n:m.aC.length=l.length+1:=by rw[he];simp
 obtain⟨g,k,rfl,s,i⟩:=h.o7.form zo;have a:=h.D;have j:=a.lt;unfold yx at a;have d:=h.o7;rw[n]at a d;have p:=zD d l.length zo;rw[he,ja]at p;have u:(l.length:Int)<=1000:=by have:=h.R;omega
 have t:(l.length:Int)+1<=k:=by have:=(vG d).1;omega
 have o:IntKind.i64.wrap (l.length:Int)=l.length:=zw;have q:=a.u;have r:=a.H;clear a d;go_enter func184,ntmps184;go_wp2;go_region;go_wp2;go_region;go_wp2;go_end0;have f:=h.field 10 (I J x) {m with pc:=x} (by simp[yx]) rfl h.lims h.R h.ints;exact⟨rfl,⟨_,_,_,_,((f.cut7 l [x] he rfl).drew).drew⟩,((((Ze B w).setCell h.K _).setCell h.K _).drew).drew⟩
theorem MP(B b:Nat)(m:MS)(arg:Int)(l:YI)(x:Int)(w:YW)(h:McE B w b m)(a:inI arg)(he:m.C=l++[x]):Calls prog 184 #[A (O ⟨b,0,X⟩),I J 17,I J arg] w fun e w'=>e=Rt (Tu #[])/\McE B w' b {m with C:=l++[(-1-x)]}/\Below B w w':=by
 have d:=V (jw B b m w h l x he);have c:inI x:=h.ints.1 x (by rw[he];simp);unfold inI at c;obtain⟨n,o⟩:=c;have q:m.C.length=l.length+1:=by rw[he];simp
 have k:l.length<1000:=by have:=h.R;omega
 go_enter func184,ntmps184;go_wp2_with fail;refine d.m ?_;rintro e p ⟨rfl,i,f⟩;clear d;have d:=V (wF B b _ (-1-x) p i (by unfold inI;first|omega|(unfold wrap64;omega)) k);go_wp2_with fail;refine d.m ?_;rintro e r ⟨rfl,j,g⟩;go_wp2;go_end0;have _:=a;exact⟨rfl,j,f.trans g⟩
theorem MQ(B b:Nat)(m:MS)(arg:Int)(l:YI)(x:Int)(w:YW)(h:McE B w b m)(a:inI arg)(he:m.C=l++[x]):Calls prog 184 #[A (O ⟨b,0,X⟩),I J 18,I J arg] w fun e w'=>e=Rt (Tu #[])/\McE B w' b {m with C:=l++[(wrap64 (-x))]}/\Below B w w':=by
 have d:=V (jw B b m w h l x he);have c:inI x:=h.ints.1 x (by rw[he];simp);unfold inI at c;obtain⟨n,o⟩:=c;have q:m.C.length=l.length+1:=by rw[he];simp
 have k:l.length<1000:=by have:=h.R;omega
 go_enter func184,ntmps184;go_wp2_with fail;refine d.m ?_;rintro e p ⟨rfl,i,f⟩;clear d;have d:=V (wF B b _ (wrap64 (-x)) p i (by unfold inI;first|omega|(unfold wrap64;omega)) k);go_wp2_with fail;refine d.m ?_;rintro e r ⟨rfl,j,g⟩;go_wp2;go_end0;have _:=a;exact⟨rfl,j,f.trans g⟩
theorem wO(x:Int):inI (wrap64 x):=by unfold inI wrap64;omega
theorem Bc(o:BinOp)(a b:Int):inI (bits o .i64 a b):=by
 have c:∀n,inI (IntKind.i64.wrap n):=fun n=>by rw[IntKind.wrap_i64];unfold inI;omega
 unfold bits;exact c _
theorem Gp(c:Bool):inI (dG c):=by unfold inI dG;split<;>omega
theorem cV(op a b:Int)(e:op=12\/op=13->b≠0)(f:op=9\/op=10\/op=11\/op=12\/op=13\/op=14\/op=15\/op=16\/op=19\/op=20)(g:inI a)(i:inI b):inI (yQ op a b):=by
 have j:=fun e c=>pM a b e c g i
 have d:b≠0->(a.tmod b).natAbs<b.natAbs:=fun h=>by
   rw[Int.natAbs_tmod]
   exact Nat.mod_lt _ zo
 unfold inI at g i;unfold yQ;(repeat' rcases f with rfl|f);all_goals simp only[Int.reduceEq,reduceIte]
 exact wO _;exact wO _;exact wO _;have c:=e (Zg rfl);unfold dw;split;exact wO _;have k:=j c za;unfold inI;split<;>omega;have c:=e (Zf rfl);unfold fe;split;unfold inI;omega;have k:=j c za;have l:=d c;unfold inI;split<;>omega;exact Bc _ _ _;exact Bc _ _ _;exact Bc _ _ _;exact Gp _;exact Gp _
theorem jy(op:Int)(B b:Nat)(m:MS)(arg:Int)(l:YI)(x y:Int)(w:YW)(h:McE B w b m)(f:inI arg)(he:m.C=l++[x,y])(o:op=12\/op=13->y≠0)(c:op=9\/op=10\/op=11\/op=12\/op=13\/op=14\/op=15\/op=16\/op=19\/op=20):Calls prog 184 #[A (O ⟨b,0,X⟩),I J op,I J arg] w fun e w'=>e=Rt (Tu #[])/\McE B w' b {m with C:=l++[yQ op x y]}/\Below B w w':=by
 have _:=f;have a:=V (jw B b m w h (l++[x]) y (by rw[he];simp));have k:inI x:=h.ints.1 x (by rw[he];simp);have n:inI y:=h.ints.1 y (by rw[he];simp);have F:m.C.length=l.length+2:=by rw[he];simp
 have D:l.length<1000:=by have:=h.R;omega
 have j:inI (yQ op x y):=cV op x y o c k n;have r:Hid (∀d,Calls prog 214 #[I J op,I J x,I J y] d fun e w'=>e=Rt (I J (yQ op x y))/\w'=d):=fun d=>To op x y d c o k n;generalize yQ op x y=z at j r ⊢;clear o;(repeat' rcases c with rfl|c);all_goals go_enter func184,ntmps184;go_wp2_with fail;refine a.m ?_;rintro e E ⟨rfl,s,g⟩;clear a;have a:=V (jw B b _ E s l x rfl);go_wp2_with fail;refine a.m ?_;rintro e d ⟨rfl,u,i⟩;clear a s;have p:=g.trans i;clear g i;have a:=V (wF B b _ z d u j D);go_wp2_with fail;refine(U r d).m ?_;rintro e G ⟨rfl,t⟩;obtain rfl:=t.symm;clear t;go_wp2_with fail;refine a.m ?_;rintro e H ⟨rfl,v,q⟩;go_wp2;go_end0;exact⟨rfl,v,p.trans q⟩
theorem dh{B:Nat}{w w':YW}(h:Below B w w')(n:Nat):Below B w (w'.drewN n):=⟨h.os,h.tape,h.output,h.size,h.block⟩
theorem Mc.grow6n{B:Nat}{w i:YW}{b:Nat}{m:MS}{j f k l:Value}(h:Mc B w b m j f k l){x:Int}(q:inI x){n g cap H:Nat}(p:m.G.length=n)(a:n<1000)(e:w.grownBy i f.ownBlock)(c:i.ownsRow B 2 1 (S (O ⟨g,0,X⟩) (n+1) cap) (n+1) (zn m.G++[I J x]))(d:f.ownBlock=O g\/g=H)(o:w.heap.size<=H):Mc B (i.setCell ⟨b,6,X⟩ (S (O ⟨g,0,X⟩) (n+1) cap)) b {m with G:=m.G++[x]} j (S (O ⟨g,0,X⟩) (n+1) cap) k l:=by subst p;exact h.grow6 q a e c d o
theorem Uz(B b:Nat)(m:MS)(arg:Int)(l:YI)(x y:Int)(w:YW)(h:McE B w b m)(t:inI arg)(he:m.C=l++[x,y])(hl:m.G.length+2<=1000):Calls prog 184 #[A (O ⟨b,0,X⟩),I J 6,I J arg] w fun e w'=>e=Rt (Tu #[])/\McE B w' b {m with C:=l,G:=m.G++[x,y]}/\Below B w w':=by
 have _:=t;obtain⟨i0,hi,z,D,E⟩:=info_parts af;have r:=V (jw B b m w h (l++[x]) y (by rw[he];simp));have M:inI x:=h.ints.1 x (by rw[he];simp);have N:inI y:=h.ints.1 y (by rw[he];simp);go_enter func184,ntmps184;go_wp2_with fail;refine r.m ?_;rintro e w1 ⟨rfl,W,u⟩;clear r;have r:=V (jw B b _ w1 W l x rfl);go_wp2_with fail;refine r.m ?_;rintro e P ⟨rfl,d,v⟩;clear r W;have G:=u.trans v;clear u v;obtain⟨v5,v6,v7,v8,d⟩:=d;have f0:=d.D.lt;have hc:=d.D.u;have hf:=d.D.H;unfold yx at hc;have Q:=V d.D;unfold yx at Q;have L:=d.ne 1 v6 rfl;have HW:=V (zE d.o6 (C #[I J x] 2));have s:B<=(P.alloc (C #[I J x] 2)).heap.size:=by have:=d.K;simp;omega
 have F:=V s;clear s;go_wp2_with (first|(at_builtin;(refine wpList_append_lies _ rfl (.tmp 104) (.tmp 106) 42 rfl B 2 i0 _ 1 8 underlying42 hi z D E rfl zd v6 m.G.length (zn m.G) zf HW ⟨P.heap.size,0,X⟩ 1 1 [I J x] zf rfl (World.news_of_block (Blk.new P _ _)) (ky _) zo zm zo F _ rfl ?_;intro g cap w5 c a i a0;have o:=(Q.alloc _).grown a L;have c0:=o.u;have d0:=o.H;have f:=d.grow6n (n:=m.G.length) M rfl zo (qj a) c i zs;have j:=G.trans ((xk (by have:=d.K;omega) (fun k K=>(zC d.o6 K).2) a).setCell d.K (p:=⟨b,6,X⟩) (S (O ⟨g,0,X⟩) (m.G.length+1) cap));have f:=V f;have j:=V j;clear c a i o))|(at_builtin;(refine wpList_append_lies _ rfl (.tmp 114) (.tmp 116) 42 rfl B 2 i0 _ 1 8 underlying42 hi z D E rfl zd (S (O ⟨g,0,X⟩) (m.G.length+1) cap) (m.G.length+1) (zn (m.G++[x])) zf (by have:=zE f.o6 (C #[I J y] 2);simpa using this) ⟨_,0,X⟩ 1 1 [I J y] zf rfl (World.news_of_block (Blk.new _ _ _)) (ky _) zo zm zo (by have:=f.K;have:=f.D.lt;simp at this ⊢;omega) _ rfl ?_;intro g2 T w6 c a i b0;have q:=(f.D.alloc _).grown a (f.ne 1 _ rfl);have H:=q.u;have e0:=q.H;unfold yx at H;have HO:=V c;have R:=V a;have HA:=V i;clear c a i q)));go_end0;have h4:=f.grow6n (n:=m.G.length+1) N zs zo (qj R) HO HA zs;simp only[Zy,cons_append,nil_append]at h4;refine⟨rfl,⟨_,_,_,_,h4⟩,?_⟩;exact j.trans ((xk (by have:=f.K;have:=f.D.lt;omega) (fun k K=>(zC f.o6 K).2) R).setCell d.K _)
theorem Mc.write6{B:Nat}{w:YW}{b:Nat}{m:MS}{f i j:Value}{g k n:Nat}(h:Mc B w b m f (S (O ⟨g,0,X⟩) n k) i j)(l r:YI)(x y:Int)(he:m.G=l++x::r)(q:inI y):Mc B (w.setCell ⟨g,l.length,X⟩ (I J y)) b {m with G:=l++y::r} f (S (O ⟨g,0,X⟩) n k) i j:=by have o:b≠g:=fun e=>h.ne 1 _ rfl (by rw[e];rfl);have p:∀x∈m.ks,x.1≠g:=fun x d e=>h.aD.off 1 _ x.1 rfl (mem_cons_of_mem _ (mem_map_of_mem d)) (by rw[e];rfl);refine⟨?_,h.K,?_,h.lims,by have:=h.R;rw[he]at this;simp at this ⊢;omega,⟨h.ints.1,fun z c=>?_,h.ints.2.2⟩,fun x d=>(h.kept x d).far (p x d) _,h.kne⟩;exact h.D.far o _;have:=h.aD.write 1 g n k _ rfl rfl l.length (I J y);simpa [jT,he,zn]using this;have a:=h.ints.2.1 z;rw[he]at a;simp at c a;rcases c with c|rfl|c;exact a (Zg c);exact q;exact a (Zf (Zf c))
theorem Hm(B b:Nat)(m:MS)(arg:Int)(l:YI)(x y:Int)(w:YW)(h:McE B w b m)(d:inI arg)(he:m.G=l++[x,y])(F:(wrap64 (y+1)==x)=Y):Calls prog 184 #[A (O ⟨b,0,X⟩),I J 7,I J arg] w fun e w'=>e=Rt (Tu #[])/\McE B w' b {m with G:=l}/\Below B w w':=by
 obtain⟨P,Q,R,T,h⟩:=h;have p:m.G.length=l.length+2:=by rw[he];simp
 obtain⟨g,k,rfl,v,z⟩:=h.o6.form zo;have E:b≠g:=fun e=>h.ne 1 _ rfl (by rw[e];rfl);have a:=h.D;have D:=a.lt;unfold yx at a;have c:=h.o6;rw[p]at a c;have q:=zD c l.length zo;have r:=zD c (l.length+1) zo;rw[he]at q r;have i:(zn (l++[x,y]))[l.length]? = O (I J x):=by simp[zn]
 have j:(zn (l++[x,y]))[l.length+1]? = O (I J y):=by simp[zn]
 rw[i]at q;rw[j]at r;clear i j;have N:(l.length:Int)<=998:=by have:=h.R;omega
 have M:(l.length:Int)+2<=k:=by have:=(vG c).1;omega
 have f:inI y:=h.ints.2.1 y (by rw[he];simp);unfold inI at f;obtain⟨G,H⟩:=f;have o:=d;unfold inI at o;obtain⟨s,t⟩:=o;have K:=a.u;have L:=a.H;have u:=yB c;clear a c;go_enter func184,ntmps184;go_wp2;go_quiet (fail);go_wp2;go_end0;have n:=h.write6 (l++[x]) [] y (wrap64 (y+1)) (by rw[he];simp) (wO _);simp only[Zi,length_cons,length_nil,Nat.zero_add]at n;exact⟨rfl,⟨_,_,_,_,(n.drewN _).cut6 l [x,wrap64 (y+1)] zs (by simp[p])⟩,(dh ((Ze B w).setCell v _) _).setCell h.K _⟩
theorem Kr(B b:Nat)(m:MS)(arg:Int)(l:YI)(x y:Int)(w:YW)(h:McE B w b m)(d:inI arg)(he:m.G=l++[x,y])(F:(wrap64 (y+1)==x)=Z):Calls prog 184 #[A (O ⟨b,0,X⟩),I J 7,I J arg] w fun e w'=>e=Rt (Tu #[])/\McE B w' b {m with G:=l++[x,wrap64 (y+1)],pc:=arg}/\Below B w w':=by
 obtain⟨P,Q,R,T,h⟩:=h;have D:m.G.length=l.length+2:=by rw[he];simp
 obtain⟨g,k,rfl,u,v⟩:=h.o6.form zo;have E:b≠g:=fun e=>h.ne 1 _ rfl (by rw[e];rfl);have a:=h.D;have z:=a.lt;unfold yx at a;have c:=h.o6;rw[D]at a c;have p:=zD c l.length zo;have q:=zD c (l.length+1) zo;rw[he]at p q;have i:(zn (l++[x,y]))[l.length]? = O (I J x):=by simp[zn]
 have j:(zn (l++[x,y]))[l.length+1]? = O (I J y):=by simp[zn]
 rw[i]at p;rw[j]at q;clear i j;have N:(l.length:Int)<=998:=by have:=h.R;omega
 have M:(l.length:Int)+2<=k:=by have:=(vG c).1;omega
 have f:inI y:=h.ints.2.1 y (by rw[he];simp);unfold inI at f;obtain⟨G,H⟩:=f;have o:=d;unfold inI at o;obtain⟨r,s⟩:=o;have K:=a.u;have L:=a.H;have t:=yB c;clear a c;go_enter func184,ntmps184;go_wp2;go_quiet (fail);go_wp2;go_end0;have n:=h.write6 (l++[x]) [] y (wrap64 (y+1)) (by rw[he];simp) (wO _);simp only[Zi,length_cons,length_nil,Nat.zero_add,Zy,cons_append,nil_append]at n;exact⟨rfl,McE.at ⟨_,_,_,_,n.drewN _⟩ arg,(dh ((Ze B w).setCell u _) _).setCell h.K _⟩
end Go.Proofs.YtmeiikjpaepogaaGreatDoor
