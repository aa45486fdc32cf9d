/- Own. -/
import Derived.Test.YtmeiikjpaepogaaGreatDoorD16
open Option renaming some->O,none->X
open Go.Value renaming int->I,slice->S,pointer->A,tuple->Tu
open Go.Obj renaming cells->C
open Go.Ending renaming returned->Rt
open Go.IntKind renaming i64->J
set_option maxRecDepth 100000
set_option maxHeartbeats 4000000
namespace Go.Proofs.YtmeiikjpaepogaaGreatDoor
open Go Go.RowKit Go.Proofs.Tryz List
theorem DG(B:Nat)(x:CX)(st:RS)(w:YW)(h:CpE B w x st)(s:Int)(D:zM st<4000)(i0:st.Q.length<3980):Calls prog 191 #[A (O ⟨x.b,0,X⟩),I J s] w fun e w'=>e=Rt (Tu #[])/\CpE B w' x (xn (zQ st 2 0) (⟨#[119,104,105,108,101]⟩,s,zM st))/\zI w w'/\Below B w w':=by
 obtain⟨fw,fo,h⟩:=h.f;have o:Below w.heap.size w ((w.alloc (C #[A (O ⟨x.b,0,X⟩)] 91)).alloc (C #[I J s] 2)):=zb;have c:Blk ((w.alloc (C #[A (O ⟨x.b,0,X⟩)] 91)).alloc (C #[I J s] 2)) w.heap.size #[A (O ⟨x.b,0,X⟩)] 91:=zk;have d:Blk ((w.alloc (C #[A (O ⟨x.b,0,X⟩)] 91)).alloc (C #[I J s] 2)) (w.heap.size+1) #[I J s] 2:=zk;have E:=h.z o;have hB:=h.size;obtain⟨s0,vo,n⟩:=E.D;have M:=n.u;have k0:=h.size0;have N:x.b<w.heap.size:=zo;have a0:x.b<=w.heap.size:=zo;have P:x.b<w.heap.size+1:=zo;have b0:x.b<=w.heap.size+1:=zo;have Q:x.b<w.heap.size+1+1:=zo;have c0:x.b<=w.heap.size+1+1:=zo;have R:x.b<w.heap.size+1+1+1:=zo;have d0:x.b<=w.heap.size+1+1+1:=zo;have T:x.b<w.heap.size+1+1+1+1:=zo;have e0:x.b<=w.heap.size+1+1+1+1:=zo;have W:x.b<w.heap.size+1+1+1+1+1:=zo;have f0:x.b<=w.heap.size+1+1+1+1+1:=zo;unfold xH at M;have g:=V (gZ B x st _ fw fo E 2 0 D);have H0:=V E;have j0:((w.alloc (C #[A (O ⟨x.b,0,X⟩)] 91)).alloc (C #[I J s] 2)).heap.size=w.heap.size+1+1:=zs;have L:=c.u;have G:=V c;have t:=V o;have K:=V d;clear d;clear n c o h E;generalize z:yI x st=F at *;have g0:=V z;clear z;go_enter func191,ntmps191;go_wp2_with fail;generalize (w.alloc (C #[A (O ⟨x.b,0,X⟩)] 91)).alloc (C #[I J s] 2)=W0 at *;go_cut [4]from 5 to 16 (fun s4 wc=>uG B W0 x (zQ st 2 0) fw fo (zM st) s4 wc)
 case first=>go_region_law (first | (refine zN rfl 51 #[.const (I J 2)] #[3] rfl func51 eg dZ #[I J 2] zg (bC 2 _) ?_;rintro e p ⟨rfl,rfl⟩;refine⟨_,rfl,?_⟩) | (refine zN rfl 50 #[.tmp 8,.tmp 10] #[96,33] rfl func50 xS xR #[A (O ⟨F,0,X⟩),S (O ⟨w.heap.size+1+1+1+1,0,X⟩) 1 1] zg (U g _ (w.heap.size+1+1+1+1) zb zk) ?_;rintro e p ⟨rfl,l,k⟩;refine⟨_,rfl,?_⟩;have a:Blk p (w.heap.size+1+1) #[I J 0] 2:=l _ _ _ zk (Zf (Zg rfl));have v:=a.u;have y:=a.H;have H:=V a;clear a;have m:=V k;clear k l) | (refine zN rfl 50 #[.tmp 8,.tmp 10] #[96,33] rfl func50 xS xR #[A (O ⟨F,0,X⟩),S (O ⟨w.heap.size+1+1+1+1,0,X⟩) 1 1] zg (U g _ (w.heap.size+1+1+1+1) zb zk) ?_;rintro e p ⟨rfl,l,k⟩;refine⟨_,rfl,?_⟩;have a:Blk p (w.heap.size+1+1+1) #[I J 0] 2:=l _ _ _ zk (Zf (Zg rfl));have v:=a.u;have y:=a.H;have H:=V a;clear a;have m:=V k;clear k l) | (refine zN rfl 50 #[.tmp 8,.tmp 10] #[96,33] rfl func50 xS xR #[A (O ⟨F,0,X⟩),S (O ⟨w.heap.size+1+1+1,0,X⟩) 1 1] zg (U g _ (w.heap.size+1+1+1) zb zk) ?_;rintro e p ⟨rfl,l,k⟩;refine⟨_,rfl,?_⟩;have a:Blk p (w.heap.size+1+1+1+1) #[I J 0] 2:=l _ _ _ zk (Zf (Zg rfl));have v:=a.u;have y:=a.H;have H:=V a;clear a;have m:=V k;clear k l) | (refine zN rfl 50 #[.tmp 8,.tmp 10] #[96,33] rfl func50 xS xR #[A (O ⟨F,0,X⟩),S (O ⟨w.heap.size+1+1+1,0,X⟩) 1 1] zg (U g _ (w.heap.size+1+1+1) zb zk) ?_;rintro e p ⟨rfl,l,k⟩;refine⟨_,rfl,?_⟩;skip;have m:=V k;clear k l));all_goals go_wp2;go_meet;first | exact pJ m | exact pK zo (eI _ _ _) m H zo
 case rest=>obtain⟨jb,rfl,r,q,i,j⟩:=hcut;have c:=i _ _ _ G (Zg rfl);have d:=i _ _ _ K (Zf (Zg rfl));have u:=c.u;have m:=V (And.intro c (And.intro r (And.intro q (And.intro i (And.intro j d)))));clear r q i j c L M g d;go_wp2_with fail;obtain⟨c,r,q,i,j,d⟩:=U m;refine(Ax B x (zQ st 2 0) wc q.e _ rfl (⟨#[119,104,105,108,101]⟩,s,zM st) ⟨_,c,Zf (Zf (Zf (Zg ⟨rfl,_,jb,d,r,rfl⟩)))⟩ (by rw[(eI _ _ _).2.2];omega)).m ?_;rintro e w2 ⟨rfl,k1,k2,k3⟩;clear c r q i j u d;go_wp2;go_end0;obtain⟨c,r,q,i,j,d⟩:=U m;exact⟨rfl,k1,(zI.aB t).trans (i.trans k2),(yf t zo).trans (j.trans k3)⟩
theorem Rj(B:Nat)(w:YW)(b c:Nat):xT B w b c 31 121 #[]:=by
 refine fV B w b c 31 _ _ zo ?_;intro W k m st arg l r n j o i h g a;obtain⟨x,rfl⟩:=rp g;rw[Array.append_empty];by_cases f:m.lo<(m.out.size:Int)+1;have d:xd m (31:Nat)=14:=by simp[xd,f]
 rw[d,if_neg zo];exact Eu B b c k _ st W j arg _ _ _ a.2.2.2.2 f;have d:xd m (31:Nat)=0:=by simp[xd,f]
 have e:doS m (31:Nat) arg={m with C:=l,out:=m.out++strOfNums [x%256]}:=by simp[doS,h,zK]
 rw[d,if_pos rfl,e];exact MB B b c k _ st W j arg _ _ _ a.2.2.2.2 (by show(m.out.size:Int)+1<=m.lo;omega)
theorem Te(B:Nat)(w:YW)(b g:Nat)(a:Lib.TabBelow prog B w "internal/strconv.uint64pow10" .u64 Lib.pow10Tab):xT B w b g 32 122 #[]:=by
 refine fV B w b g 32 _ _ zo ?_;intro W q m st arg l r o p s n c j d;obtain⟨x,rfl⟩:=rp j;have f:inI x:=s.ints.1 x (by rw[c];simp);have k:xZ m=x:=by simp[xZ,c]
 rw[Array.append_empty];by_cases i:m.lo<(m.out.size:Int)+(yA x).length+1;have h:xd m (32:Nat)=14:=by simp[xd,k,i]
 rw[h,if_neg zo];exact Hc B b g q _ st W p arg _ _ _ f.1 f.2 (a.on o) d.2.2.2.2 i;have h:xd m (32:Nat)=0:=by simp[xd,k,i]
 have e:doS m (32:Nat) arg={m with C:=l,out:=m.out++fK x}:=by simp[doS,c,zK,fK,ByteArray.append_assoc]
 rw[h,if_pos rfl,e];exact Qc B b g q _ st W p arg _ _ _ f.1 f.2 (a.on o) d.2.2.2.2 (by show(m.out.size:Int)+(yA x).length+1<=m.lo;omega)
theorem Ow(B:Nat)(w:YW)(b d:Nat):xT B w b d 30 120 #[]:=by
 refine fV B w b d 30 _ _ zo ?_;intro W p m st arg l r q o s j c h a;obtain⟨x,rfl⟩:=rp h;have i:xZ m=x:=by simp[xZ,c]
 rw[Array.append_empty];by_cases g:x<0\/(m.cells.length:Int)<=x;have f:xd m (30:Nat)=12:=by simp[xd,i,g]
 rw[f,if_neg zo];exact Dq B b d p _ st W o arg _ _ _ a.2.2.2.1 g;have f:xd m (30:Nat)=0:=by simp[xd,i,g]
 obtain⟨k,rfl⟩:∃k:Nat,x=k:=⟨x.toNat,zo⟩;have n:k<m.cells.length:=zo;have e:doS m (30:Nat) arg={m with C:=l++[m.cells[k]]}:=by simp[doS,c,zK,n]
 rw[f,if_pos rfl,e];exact Ki B b d p _ st W o arg k _ _ _ ⟨a.2.2.2.1,a.1⟩ (Za n)
theorem Oz(B:Nat)(w:YW)(b f:Nat):xT B w b f 29 119 #[]:=by
 refine fV B w b f 29 _ _ zo ?_;intro W p m st arg l r u o v n a i d;obtain⟨x,y,rfl⟩:=ub i;have j:xZ m=y:=by simp[xZ,a]
 have c:m.C.dropLast=l++[x]:=by rw[a,show l++[x,y]=(l++[x])++[y]from zs,Zx]
 have q:m.C.dropLast.dropLast=l:=by rw[c,Zx]
 have s:zK m.C=y:=by simp[a,zK]
 have t:zK m.C.dropLast=x:=by rw[c,ae]
 rw[Array.append_empty];by_cases h:y<0\/(m.cells.length:Int)<=y;have g:xd m (29:Nat)=12:=by simp[xd,j,h]
 rw[g,if_neg zo];exact Dr B b f p _ st W o arg _ _ _ d.2.2.2.1 h;have g:xd m (29:Nat)=0:=by simp[xd,j,h]
 obtain⟨k,rfl⟩:∃k:Nat,y=k:=⟨y.toNat,zo⟩;have e:doS m (29:Nat) arg={m with C:=l,cells:=m.cells.set k x}:=by simp[doS,q,s,t]
 rw[g,if_pos rfl,e];exact Kl B b f p _ st W o arg _ k _ d.2.2.2.1 (by show k<m.cells.length;omega)
theorem Rn(B:Nat)(w:YW)(b j:Nat):xT B w b j 7 98 #[]:=by
 refine jz B w b j 7 _ _ zo (fun m=>by simp[xd]) ?_;intro W u m st arg l r v s z n c f i d;obtain rfl:=nY f;rw[append_nil]at c;have t:2<=m.G.length:=by have:(m.G.length:Int)>=2:=i;omega
 obtain⟨a,x,y,g⟩:∃a x y,m.G=a++[x,y]:=by refine⟨m.G.take (m.G.length-2),?_⟩;obtain⟨x,y,h⟩:=ub (r:=m.G.drop (m.G.length-2)) zp;exact⟨x,y,by rw[<-h,take_append_drop]⟩
 have k:m.G.dropLast=a++[x]:=by rw[g,show a++[x,y]=(a++[x])++[y]from zs,Zx]
 have o:m.G.dropLast.dropLast=a:=by rw[k,Zx]
 have p:zK m.G=y:=by simp[g,zK]
 have q:zK m.G.dropLast=x:=by rw[k,ae]
 have e:doS m (7:Nat) arg=if wrap64 (y+1)=x then {m with C:=l,G:=a}else {m with C:=l,G:=a++[x,wrap64 (y+1)],pc:=arg}:=by simp[doS,o,p,q,<-c]
 rw[e,Array.append_empty];exact ME B b j u _ st W s arg _ _ _ a x y g d.2
end Go.Proofs.YtmeiikjpaepogaaGreatDoor
