/- Own. -/
import Derived.Test.YtmeiikjpaepogaaGreatDoorD25
open Option renaming some->O,none->X
open Bool renaming true->Y,false->Z
open Go.Value renaming int->I,slice->S,pointer->A,bool->Bl,agg->Ag
open Go.Obj renaming cells->C
open Go.Ending renaming returned->Rt
open Go.IntKind renaming i64->J
set_option maxRecDepth 100000
set_option maxHeartbeats 8000000
namespace Go.Proofs.YtmeiikjpaepogaaGreatDoor
open Go Go.RowKit Go.Proofs.Tryz List
theorem gz(c n:Int)(a:1<=n):0<=gx c n/\gx c n<n:=by unfold gx;split;exact⟨Int.emod_nonneg _ zo,Int.emod_lt_of_pos _ zo⟩;exact⟨Int.emod_nonneg _ zo,Int.emod_lt_of_pos _ zo⟩
def AY(cs:YV):Prop:=∃kind n s b0 b1 b2 ao m c en ce l1 l2 l3 l4 fu,cs=opC kind n s b0 b1 b2 (S ao m c) en ce l1 l2 l3 l4 fu/\inI n
def vJ(w:YW)(v:Value)(n:Nat):Prop:=∃ao cap,v=S ao n cap/\∀k,k<n->∃g off cs,ao=O ⟨g,off,X⟩/\g<w.heap.size/\AY cs/\∀i,i<14->w.cell? ⟨g,off+k*14+i,X⟩=cs[i]?
theorem vJ.z{w w':YW}{v:Value}{n:Nat}(h:vJ w v n)(a:Below w.heap.size w w'):vJ w' v n:=by obtain⟨b,cap,rfl,h⟩:=h;refine⟨b,cap,rfl,fun k l=>?_⟩;obtain⟨g,off,cs,c,d,e,f⟩:=h k l;refine⟨g,off,cs,c,by have:=a.size;omega,e,fun i j=>?_⟩;rw[a.u (by simpa using d)];exact f i j
theorem NB(w:YW):Lw w.heap.size (w.alloc (C #[S X 0 0,S X 0 0] 70)) w.heap.size [] [] (S X 0 0) (S X 0 0):=by
 refine⟨Blk.new _ _ _,Zc _,⟨?_,?_,?_,rfl⟩,zs⟩;intro i v t a c;match i,(Zb.1 a).1 with
 |0,_=>simp[bD]at a c;subst a c;exact Zm _ _ _ _
 |1,_=>simp[bD]at a c;subst a c;exact Zm _ _ _ _
 intro i j v v' k a f d;match i,(Zb.1 a).1 with
 |0,_=>simp at a;subst a;simp[Value.ownBlock]at d
 |1,_=>simp at a;subst a;simp[Value.ownBlock]at d
 intro i v b a _ e;match i,(Zb.1 a).1 with
 |0,_=>simp at a;subst a;simp[Value.ownBlock]at e
 |1,_=>simp at a;subst a;simp[Value.ownBlock]at e
theorem bu.z{w w':YW}{e:Nat}(h:bu w e)(c:Below w.heap.size w w'):bu w' e:=by obtain⟨cs,d,f,g⟩:=h;exact⟨cs,d.z c d.lt,f.keep (js.aB c),fun op a b=>(g op a b).keep (js.aB c)⟩
theorem ld(op:Nat)(h:op<33):(0<=(yc op).1/\(yc op).1<=3)/\(0<=(yc op).2/\(yc op).2<=3):=by
 have e:yc op=(((yq op).1:Int),((yq op).2.1:Int)):=by unfold yc;rw[if_pos zo,Zr]
 have:=Ce op h;rw[e];simp only;omega
def lZ(k:Int×Int)(c:Int×Int):Int×Int:=(max k.1 c.1+(c.2-c.1),max k.2 (c.2-c.1)-(c.2-c.1))
def qu (row:YL):Nat→Int×Int
  | 0=>(0,0)
  | n + 1 => match row[n]? with
    | some x=>lZ (qu row n) (yc x.1)
    | none=>qu row n
def bI(row:YL):Int×Int:=qu row row.length
theorem px(row:YL)(h:∀x∈row,0<=x.1/\x.1<=32)(n:Nat):(0<=(qu row n).1/\(qu row n).1<=3*n)/\(0<=(qu row n).2/\(qu row n).2<=3*n):=by
 induction n with
 |zero=>simp[qu]
 |succ n c=>unfold qu;split;rename_i x a;have b:=h x (Zd a);have e:x.1=((x.1.toNat:Nat):Int):=zo;have:=ld x.1.toNat zo;rw[<-e]at this;unfold lZ;simp only;omega;next=>omega
def wi(w:YW)(fb tb:Nat)(rv:Value):Prop:=Blk w fb #[A (O ⟨tb,0,X⟩),rv] 203/\bu w tb
theorem wi.z{w w':YW}{a d:Nat}{c:Value}(h:wi w a d c)(b:Below w.heap.size w w'):wi w' a d c:=⟨h.1.z b h.1.lt,h.2.z b⟩
theorem si:(f248.name == "runtime.NumGoroutine")=Z:=zr
theorem rZ:f248.body.isNone=Z:=zr
theorem IX:(prog.info? 277).map (fun i=>i.size)=O 2:=zr
theorem Ai(fb D:Nat)(rv:Value)(ao:YA)(c:Nat)(row:YL)(w:YW)(hf:wi w fb D rv)(T:InL w ao row)(hn:row.length<=100000)(r:∀x∈row,0<=x.1/\x.1<=32):Calls prog 240 #[A (O ⟨fb,0,X⟩),S ao row.length c] w fun e w'=>e=Rt (Ag #[I J (bI row).1,I J (bI row).2])/\Below w.heap.size w w':=by
 have K0:(row.length:Int)<=100000:=zo;have M:=yG w (C #[I J 0,I J 0] 277) (C #[I J 0,I J 0] 277);have a0:=vD w (C #[I J 0,I J 0] 277) #[I J 0,I J 0] 277;have c0:Blk ((w.alloc (C #[I J 0,I J 0] 277)).alloc (C #[I J 0,I J 0] 277)) w.heap.size #[I J 0,I J 0] 277:=(Blk.new w _ _).alloc _;have d0:=V M;have g0:=V a0;have i0:=V c0;have HF:=V hf;have f0:=V T;have p:=V r;clear M a0 c0 hf T r;go_enter func240,ntmps240;go_wp2;go_loopw [12] (fun i wr=>∃k:Nat,i=I J k/\k<=row.length/\Blk wr (w.heap.size+1) #[I J (qu row k).1,I J (qu row k).2] 277/\Blk wr w.heap.size #[I J 0,I J 0] 277/\Below w.heap.size w wr) (fun i _=>row.length-(intOf i).toNat);case atStart=>exact⟨0,rfl,Zq _,U g0,U i0,U d0⟩
 case round=>
  obtain⟨k,rfl,hk,l,d,o⟩:=hrel;have y:=V l;have z:=V d;have m:=V o;by_cases u0:k<row.length
  ·obtain⟨x,hx⟩:∃x,row[k]? = O x:=⟨_,Za u0⟩;obtain⟨g,off,rfl,G0,c1,c2⟩:=ju (f0.z o) hx;have x0:(k:Int)<row.length:=zo;have w0:=U p x (Zd hx);have K:Hid (qu row (k+1)=lZ (qu row k) (yc x.1)):=by show qu row (k+1)=_;rw[qu,hx]
   have v0:=px row p k;obtain⟨x1,x2⟩:=x;simp only at c1 c2 w0 K;obtain⟨op,rfl⟩:∃op:Nat,x1=op:=⟨x1.toNat,zo⟩;have n0:=ld op zo;have R:=Blk.new wr #[I J op,I J x2] 65;have N:Below wr.heap.size wr (wr.alloc (C #[I J op,I J x2] 65)):=zB wr _;have G:=V R;have u:=V N;have H:Hid (∀W,Below wr.heap.size wr W->wi W fb D rv):=fun W L=>(HF.z m).z L;have v:Hid (∀W,Below wr.heap.size wr W->Calls prog 248 #[A (O ⟨D,0,X⟩),I J op] W fun e w'=>e=Rt (Ag #[I J (yc op).1,I J (yc op).2])/\Below W.heap.size W w'):=fun W L=>uN D op W (U H W L).2 (Zg zo);clear l d o hx R N;generalize r0:qu row k=kt at *;clear r0;generalize o0:yc op=ct at *;clear o0;obtain⟨k1,k2⟩:=kt;obtain⟨t,gv⟩:=ct;simp only at v0 n0 v y;have B:=(U H _ u).1;have l0:=B.u;have s0:=B.lt;go_wp2_with fail;generalize k0:wr.alloc (C #[I J op,I J x2] 65)=h at *;have p0:=G.u;have b0:=G.lt;have y0:wr.heap.size<h.heap.size:=b0;have f:Hid (∀W,Below h.heap.size h W->Calls prog 248 #[A (O ⟨D,0,X⟩),I J op] W fun e w'=>e=Rt (Ag #[I J t,I J gv])/\Below W.heap.size W w'):=fun W L=>U v W (u.trans (L.m zo));clear k0 B c1 c2;go_cut [8]from 13 to 42 (fun s8 wc=>∃q,s8=A (O ⟨q,0,X⟩)/\Blk wc q #[I J t,I J gv] 107/\h.heap.size<=q/\Below h.heap.size h wc)
   case first=>go_region_law (first | (refine zN rfl 248 #[.tmp 19,.tmp 21] #[82,3] rfl func248 si rZ #[A (O ⟨D,0,X⟩),I J op] zg (U f _ zb) ?_;rintro e w1 ⟨rfl,E⟩;refine⟨_,rfl,?_⟩;have j:Blk w1 h.heap.size #[I J 0,I J 0] 107:=Blk.z zk E zs;have A0:=j.u;have D0:=j.H;have H0:=j.lt;have HJ:=V j;clear j;have F:Hid (Below h.heap.size h w1):=Below.trans zb (E.m zs);clear E) | (refine zN rfl 248 #[.tmp 19,.tmp 21] #[82,3] rfl func248 si rZ #[A (O ⟨D,0,X⟩),I J op] zg (U f _ zb) ?_;rintro e w1 ⟨rfl,E⟩;refine⟨_,rfl,?_⟩;have F:Hid (Below h.heap.size h w1):=Below.trans zb (E.m zs);clear E));all_goals go_wp2;go_meet;first | exact⟨_,rfl,Blk.new _ _ _,F.size,F.trans ((zB _ _).m F.size)⟩ | exact⟨_,rfl,rV HJ rfl,Zc _,(F.setCell (Zc _) _).setCell (Zc _) _⟩
   case rest=>
    obtain⟨q,rfl,hq,L0,Q⟩:=hcut;obtain⟨w3,rfl⟩:∃w3:YW,w3=wc:=⟨_,rfl⟩;have n:Below wr.heap.size wr w3:=u.trans (Q.m zo);have b:=y.z n y.lt;have s:=z.z n z.lt;have B0:=hq.u;have I0:=hq.lt;have m0:=b.u;have E0:=b.H;have t0:=b.lt;have h0:=V b;have j0:=V s;have e0:Hid (Below w.heap.size w w3):=m.trans (n.m m.size);clear hq Q n b s l0 s0 p0 b0 v f;go_wp2;go_roundw;case rel=>refine⟨k+1,by go_num,zo,?_,((j0.far (a:=⟨w.heap.size+1,0,X⟩) zs _).far (a:=⟨w.heap.size+1,1,X⟩) zs _),(e0.setCell zs _).setCell zs _⟩;rw[U K];exact rV h0 rfl
    case measure=>exact zv
  ·have q0:k=row.length:=zo;subst q0;have m0:=l.u;have t0:=l.lt;have C0:=d.u;have F0:=d.H;have J0:=d.lt;clear l d o;go_wp2;refine bodyPost_ret (results_cell_row (P:=prog) rfl _ _ w.heap.size 277 _ (0,0) _ rfl (rV z rfl) underlying277 rfl IX) rfl ?_;exact⟨rfl,(m.setCell (Zc _) _).setCell (Zc _) _⟩
def iS(B:Nat)(w:YW)(v:Value)(l:YL):Prop:=w.ownsRow B 107 2 v l.length (zc l)
theorem iS.z{B:Nat}{w w':YW}{v:Value}{l:YL}(h:iS B w v l)(a:Below w.heap.size w w'):iS B w' v l:=by unfold iS at h ⊢;exact(zz.aB a).row h
theorem iS.pairs{B:Nat}{w:YW}{d:YA}{n c:Nat}{l:YL}(h:iS B w (S d n c) l):df w d l:=by
 unfold iS at h;obtain⟨a,k,i⟩:=zu h;simp only[Zk]at i;obtain⟨rfl,rfl,rfl⟩:=i;rcases h.2 with⟨f,j⟩|⟨g,cap,cur,e,_⟩;have:l.length=0:=by simp only[Zk]at f;exact f.2.1
 exact Zg (length_eq_zero_iff.1 this);simp only[Zk]at e;obtain⟨rfl,_,rfl⟩:=e;refine Zf ⟨g,rfl,(zC h (k:=g) rfl).1,fun k x b=>?_⟩;have m:k<l.length:=(Zb.1 b).1;have c1:=zD h (k*2) zo;have c2:=zD h (k*2+1) zo;rw[(zL _ _ _ b).1]at c1;rw[(zL _ _ _ b).2]at c2;exact⟨c1,c2⟩
theorem Gu:(prog.info? 107).map (fun i=>(i.zero,i.size,i.bytes))=O (O (Ag #[I J 0,I J 0]),2,16):=zr
def yv(row:YL):YL:=row.map (fun x=>yc x.1)
theorem BX(a b:YL):yv (a++b)=yv a++yv b:=map_append ..
theorem JY{row:YL}{k:Nat}{x:Int×Int}(h:row[k]? = O x):yv (row.take (k+1))=yv (row.take k)++[yc x.1]:=by rw[take_add_one,h,BX];rfl
theorem lO(row:YL):(yv row).length=row.length:=length_map ..
theorem pt(fb H q cq:Nat)(rv:Value)(d:List (Option Addr×Nat×YL))(w:YW)(hf:wi w fb H rv)(hq:mZ w q d)(hn:d.length<=100)(hs:(qi d).length<=1000)(u:∀x∈qi d,0<=x.1/\x.1<=32):Calls prog 246 #[A (O ⟨fb,0,X⟩),S (O ⟨q,0,X⟩) d.length cq] w fun e w'=>∃m c,e=Rt (S m (yv (qi d)).length c)/\iS w.heap.size w' (S m (yv (qi d)).length c) (yv (qi d))/\Below w.heap.size w w':=by
 obtain⟨iI,q0,h0,i0,j0⟩:=info_parts Gu;have K0:(d.length:Int)<=100:=zo;have HF:=V hf;have HQ:=V hq;have R:=V u;have L0:=hq.1;clear hf hq u;go_enter func246,ntmps246;go_wp2;go_loopw [5,12] (fun lv i wr=>∃(k:Nat)(m:YA)(c:Nat),i=I J k/\k<=d.length/\lv=S m (yv (qi (d.take k))).length c/\iS w.heap.size wr (S m (yv (qi (d.take k))).length c) (yv (qi (d.take k)))/\Below w.heap.size w wr) (fun _ i _=>d.length-(intOf i).toNat);case atStart=>exact⟨0,X,0,rfl,Zq _,rfl,⟨rfl,Zg ⟨rfl,rfl⟩⟩,Ze _ _⟩
 case round=>
  obtain⟨k,m,c,rfl,hk,rfl,b,f⟩:=hrel;have a:=V b;have h:=V f;by_cases v0:k<d.length
  ·obtain⟨r,E⟩:∃r,d[k]? = O r:=⟨_,Za v0⟩;obtain⟨hc,l⟩:=(HQ.z f).2 k r E;have x0:=(HQ.z f).1;have D0:(k:Int)<d.length:=zo;have y:=V (gF E);have e1:=congrArg length (gF E);rw[Zi]at e1;have e2:=Bd d (k+1);have f0:∀x∈r.2.2,0<=x.1/\x.1<=32:=fun x F=>U R x (mem_flatMap.2 ⟨r,Zd E,F⟩);have T:=V f0;have p:=V l;have s:=V (HQ.2 k r E).2;have t0:(yv (qi (d.take k))).length+r.2.2.length<=1000:=by rw[lO];omega
   obtain⟨ra,rc,row⟩:=r;simp only at hc p s y T t0;generalize o0:qi (d.take k)=D at *;have M0:(row.length:Int)<=1000:=zo;obtain⟨w0,g0⟩:∃w0:YW,w0=wr:=⟨_,rfl⟩;rw[g0.symm]at a h p hc x0 ⊢;clear e1 e2 E b f l f0 o0 g0;go_wp2;go_loopw [5,18] (fun lv i wr=>∃(j:Nat)(m:YA)(c:Nat),i=I J j/\j<=row.length/\lv=S m (yv D++yv (row.take j)).length c/\iS w.heap.size wr (S m (yv D++yv (row.take j)).length c) (yv D++yv (row.take j))/\Below w.heap.size w wr/\InL wr ra row) (fun _ i _=>row.length-(intOf i).toNat);case atStart=>exact⟨0,m,c,rfl,Zq _,by simp[yv],by simpa [yv]using U a,U h,U p⟩
   case round=>
    obtain⟨j,m,c,rfl,hj,rfl,b,f,l⟩:=hrel;have a:=V b;have h:=V f;have p:=V l;by_cases u0:j<row.length
    ·obtain⟨x,F⟩:∃x,row[j]? = O x:=⟨_,Za u0⟩;obtain⟨g,off,rfl,G0,c1,c2⟩:=ju l F;have B0:(j:Int)<row.length:=zo;have A0:=U T x (Zd F);have Q:=V (JY F);have H0:(yv D++yv (row.take j)).length<1000:=by rw[Zi,lO (row.take j),length_take];omega
     obtain⟨x1,x2⟩:=x;simp only at c1 c2 A0 Q;obtain⟨op,rfl⟩:∃op:Nat,x1=op:=⟨x1.toNat,zo⟩;have d0:Below wr.heap.size wr (wr.alloc (C #[I J op,I J x2] 65)):=zB wr _;have L:=V (Blk.new wr #[I J op,I J x2] 65);have v:=V d0;have P:Hid (∀W,Below wr.heap.size wr W->wi W fb H rv):=fun W hW=>(HF.z h).z hW;have M:Hid (∀W,Below wr.heap.size wr W->Calls prog 248 #[A (O ⟨H,0,X⟩),I J op] W fun e w'=>e=Rt (Ag #[I J (yc op).1,I J (yc op).2])/\Below W.heap.size W w'):=fun W hW=>uN H op W (U P W hW).2 (Zg zo);clear b f F d0 l;generalize e0:yv D++yv (row.take j)=G at *;have k0:=V e0;generalize p0:yc op=ct at *;clear p0 e0;obtain⟨t,z⟩:=ct;simp only at M;have B:=(U P _ v).1;have E0:=B.u;have I0:=B.lt;have y0:=h.size;go_wp2_with fail;generalize m0:wr.alloc (C #[I J op,I J x2] 65)=W0 at *;have F0:=L.u;have J0:=L.lt;have N:Hid (∀W,Below W0.heap.size W0 W->Calls prog 248 #[A (O ⟨H,0,X⟩),I J op] W fun e w'=>e=Rt (Ag #[I J t,I J z])/\Below W.heap.size W w'):=fun W hW=>U M W (v.trans (hW.m zo));clear m0 B c1 c2;go_region_law (first | (refine zN rfl 248 #[.tmp 26,.tmp 28] #[82,3] rfl func248 si rZ #[A (O ⟨H,0,X⟩),I J op] zg (U N _ zb) ?_;rintro e K ⟨rfl,h1⟩;refine⟨_,rfl,?_⟩;have H1:Hid (Below W0.heap.size W0 K):=Below.trans zb (h1.m zs);clear h1;have H2:Hid (Below wr.heap.size wr K):=v.trans (H1.m zo);have l0:=V (zE (a.z H2) (C #[I J t,I J z] 107));have N0:=H2.size;have a0:Hid (w.heap.size<=(K.alloc (C #[I J t,I J z] 107)).heap.size):=V zp) | (refine step_append_lies _ rfl (.tmp 22) (.tmp 30) 288 rfl w.heap.size 107 iI _ 2 16 underlying288 q0 h0 i0 j0 rfl zd (S m G.length c) G.length (zc G) zf l0 ⟨K.heap.size,0,X⟩ 1 1 [I J t,I J z] zf rfl (World.news_of_block (Blk.new K _ _)) (jL t z) zo zm zo a0 _ rfl ?_;intro g5 b0 w5 o n n0 C0;have HO:=V o;have HG:=V n;clear o n n0));all_goals
      go_wp2;go_roundw;case rel=>
       have e5:yv D++yv (row.take (j+1))=G++[(t,z)]:=by rw[U Q,<-Zy,U k0]
       have el:(G++[(t,z)]).length=G.length+1:=zs;have c0:Below w.heap.size w w5:=((h.trans (H2.m y0)).trans ((zB K _).m zo)).grown HG a0 (fun j hj=>(zC a hj).2);refine⟨j+1,O ⟨g5,0,X⟩,b0,by go_num,zo,?_,?_,?_,?_⟩;rw[e5,el];rw[e5,el];unfold iS;rw[el,eD];exact U HO;exact c0;exact s.z c0
      case measure=>exact zv
    ·have r0:j=row.length:=zo;subst r0;rw[take_length,<-BX]at a ⊢;clear b f l;go_wp2;go_roundw;case rel=>refine⟨k+1,m,c,by go_num,zo,?_,?_,U h⟩;rw[U y];rw[U y];exact U a
     case measure=>exact zv
  ·have s0:k=d.length:=zo;subst s0;rw[take_length]at a ⊢;clear b f;go_wp2;go_ret;exact⟨m,c,rfl,U a,U h⟩
def eZ(k:Int×Int)(old short next:YL):Bool:=(range (3*(old.length+next.length)+1)).all fun i=>(range (3*(old.length+next.length)+1)).all fun j=>iX (yv (old++next)) (yv (short++next)) (k.1+i) (k.1+i+(k.2+j))
theorem Ec(n:Nat)(f:Nat->Bool):(range (n+1)).all f=((range n).all f&&f n):=by rw[range_succ,all_append];simp
theorem BU{n i:Nat}{f:Nat->Bool}(h:i<n)(a:f i=Z):(range n).all f=Z:=by
 cases e:(range n).all f with
 |false=>rfl
 |true=>have:=all_eq_true.1 e i (mem_range.2 h);rw[a]at this;cases this
theorem oG(w:YW)(a b:YA)(c d:Nat)(g h:YL)(k:InL w a g)(l:InL w b h)(T:TypeId):mZ (w.alloc (C #[S a g.length c,S b h.length d] T)) w.heap.size [(a,c,g),(b,d,h)]:=by
 have i:=Blk.new w #[S a g.length c,S b h.length d] T;have f:=zB w (C #[S a g.length c,S b h.length d] T);refine⟨i.lt,fun j r e=>?_⟩;rw[i.u];match j,e with
 |0,e=>simp at e;subst e;exact⟨rfl,k.z f⟩
 |1,e=>simp at e;subst e;exact⟨rfl,l.z f⟩
 |j+2,e=>simp at e
theorem tf{row:YL}(h:∀x∈row,0<=x.1/\x.1<=32):∀x∈yv row,(0<=x.1/\x.1<=10)/\(0<=x.2/\x.2<=10):=by intro x a;obtain⟨y,b,rfl⟩:=mem_map.1 a;have c:=h y b;have e:y.1=((y.1.toNat:Nat):Int):=zo;have:=ld y.1.toNat zo;rw[<-e]at this;omega
theorem Bt (fb tb:Nat) (rv:Value) (k1 k2:Int) (ao so no:YA) (ac sc nc:Nat) (old short next:YL) (w:YW) (hf:wi w fb tb rv) (ha:InL w ao old) (hs:InL w so short) (hx:InL w no next) (hn:old.length+next.length≤50∧short.length+next.length≤50) (hk:(0≤k1∧k1≤500000)∧(0≤k2∧k2≤500000)) (hoa:∀ x∈old,0≤x.1∧x.1≤32) (hos:∀ x∈short,0≤x.1∧x.1≤32) (hox:∀ x∈next,0≤x.1∧x.1≤32) : Calls prog 239 #[A (O ⟨fb,0,X⟩),Ag #[I J k1,I J k2],S ao old.length ac,S so short.length sc,S no next.length nc] w fun e w'=>e=Rt (Bl (eZ (k1,k2) old short next))∧Below w.heap.size w w':=by
 have hb0:=zB w (C #[I J k1,I J k2] 277);have hkb:=Blk.new w #[I J k1,I J k2] 277;have eb:qi [(ao,ac,old),(no,nc,next)]=old++next:=by simp[qi]
 have ea:qi [(so,sc,short),(no,nc,next)]=short++next:=by simp[qi]
 have HC1:Hid (∀ W,Below w.heap.size w W→Calls prog 246 #[A (O ⟨fb,0,X⟩),S (O ⟨W.heap.size,0,X⟩) 2 2] (W.alloc (C #[S ao old.length ac,S no next.length nc] 33)) fun e w'=>∃ ao' c',e=Rt (S ao' (yv (old++next)).length c')∧df w' ao' (yv (old++next))∧Below W.heap.size W w'):=fun W hW=>by
   have hbW:=zB W (C #[S ao old.length ac,S no next.length nc] 33)
   have:=pt fb tb W.heap.size 2 rv [(ao,ac,old),(no,nc,next)] _ ((hf.z hW).z hbW) (oG W ao no ac nc old next (ha.z hW) (hx.z hW) 33) zs (by rw[eb,Zi];omega) (by rw[eb];intro x hx';rcases Zo.1 hx' with h|h;exact hoa x h;exact hox x h)
   rw[eb]at this
   refine this.m ?_
   rintro e w' ⟨a',c',rfl,h1,h2⟩
   exact⟨a',c',rfl,h1.pairs,hbW.trans (h2.m hbW.size)⟩
 have HC2:Hid (∀ W,Below w.heap.size w W→Calls prog 246 #[A (O ⟨fb,0,X⟩),S (O ⟨W.heap.size,0,X⟩) 2 2] (W.alloc (C #[S so short.length sc,S no next.length nc] 33)) fun e w'=>∃ ao' c',e=Rt (S ao' (yv (short++next)).length c')∧df w' ao' (yv (short++next))∧Below W.heap.size W w'):=fun W hW=>by
   have hbW:=zB W (C #[S so short.length sc,S no next.length nc] 33)
   have:=pt fb tb W.heap.size 2 rv [(so,sc,short),(no,nc,next)] _ ((hf.z hW).z hbW) (oG W so no sc nc short next (hs.z hW) (hx.z hW) 33) zs (by rw[ea,Zi];omega) (by rw[ea];intro x hx';rcases Zo.1 hx' with h|h;exact hos x h;exact hox x h)
   rw[ea]at this
   refine this.m ?_
   rintro e w' ⟨a',c',rfl,h1,h2⟩
   exact⟨a',c',rfl,h1.pairs,hbW.trans (h2.m hbW.size)⟩
 have hsb:∀ x∈yv (old++next),(0≤x.1∧x.1≤10)∧(0≤x.2∧x.2≤10):=tf (fun x hx'=>by rcases Zo.1 hx' with h|h;exact hoa x h;exact hox x h);have hsa:∀ x∈yv (short++next),(0≤x.1∧x.1≤10)∧(0≤x.2∧x.2≤10):=tf (fun x hx'=>by rcases Zo.1 hx' with h|h;exact hos x h;exact hox x h);have hlb:(yv (old++next)).length=old.length+next.length:=by rw[lO,Zi]
 have hla:(yv (short++next)).length=short.length+next.length:=by rw[lO,Zi]
 unfold eZ;rw[← hlb];have hl50:(yv (old++next)).length≤50:=zo;have hl51:(yv (short++next)).length≤50:=zo;have HSB:=V hsb;have HSA:=V hsa;have HB0:=V hb0;have HKB:=V hkb;clear hf ha hs hx hoa hos hox eb ea hsb hsa hlb hla hb0 hkb hn;generalize yv (old++next)=b at *;generalize yv (short++next)=a at *;simp only;generalize hP:(fun (i j:Nat)=>iX b a (k1+i) (k1+i+(k2+j)))=P;have HPE:Hid (∀ i j:Nat,P i j=iX b a (k1+i) (k1+i+(k2+j))):=fun i j=>by rw[← hP]
 have e2:((range (3 * b.length+1)).all fun i=>(range (3 * b.length+1)).all fun j=>iX b a (k1+i) (k1+i+(k2+j)))=(range (3 * b.length+1)).all (fun i=>(range (3 * b.length+1)).all (P i)):=by rw[← hP]
 rw[e2];clear hP e2;have hsz:(w.alloc (C #[I J k1,I J k2] 277)).heap.size=w.heap.size+1:=zs;have hc1:=U HC1 _ HB0;rw[hsz]at hc1;have HC1':=V hc1;clear hc1 HC1;generalize hres:((range (3 * b.length+1)).all (fun i=>(range (3 * b.length+1)).all (P i)))=res;have HRES:=V hres;clear hres;go_enter func239,ntmps239;go_wp2_with fail;refine HC1'.m ?_;rintro e w1 ⟨bo,bc,rfl,hpb,hb1⟩;have hkb1:=Blk.z HKB hb1 zs;have hbw1:Below w.heap.size w w1:=HB0.trans (hb1.m zo);have HK1:=V hkb1;have HBW1:=V hbw1;have HPB:=V hpb;have HC2':=V (U HC2 w1 hbw1);clear hpb hb1 hkb1 hbw1 HC1' HC2 HKB HB0;go_wp2_with fail;refine HC2'.m ?_;rintro e w2 ⟨aa,ac2,rfl,hpa,hb2⟩;have hkb2:=HK1.z hb2 HK1.lt;have HBW2:Hid (Below w.heap.size w w2):=HBW1.trans (hb2.m HBW1.size);have HPB2:=V (HPB.z hb2);have HPA:=V hpa;have HK2:=V hkb2;have hck:=hkb2.u;have hlk:=hkb2.lt;clear hpa hb2 hkb2 HC2' HK1 HPB HBW1;have hbI:(b.length:Int)≤50:=zo;have hm3:IntKind.i64.wrap (3 * (b.length:Int))=3 * (b.length:Int):=zw;go_wp2;go_loopw [14] (fun v wr=>∃ i:Nat,v=I J (k1+i)∧i≤3 * b.length+1∧(range i).all (fun i=>(range (3 * b.length+1)).all (P i))=Y∧Below w2.heap.size w2 wr) (fun v _=>(3 * b.length+1)-(intOf v-k1).toNat);case atStart=>exact⟨0,zs,Zq _,rfl,Ze _ _⟩
 case round=>
  obtain⟨i,rfl,hi,hall,hbw⟩:=hrel;have HBW:=V hbw;have HALL:=V hall;have hk3:=HK2.z hbw HK2.lt;have hck3:=hk3.u;have hlk3:=hk3.lt;clear hck hlk hall hbw hk3;by_cases hlt:i<3 * b.length+1
  ·have hg:(k1+i:Int)≤k1+3 * (b.length:Int):=zo;obtain⟨w0,hw0⟩:∃ w0:YW,w0=wr:=⟨_,rfl⟩;rw[hw0.symm]at HBW hck3 hlk3 ⊢;clear hw0;go_wp2;go_loopw [15] (fun v wr=>∃ j:Nat,v=I J (k2+j)∧j≤3 * b.length+1∧(range j).all (P i)=Y∧Below w2.heap.size w2 wr) (fun v _=>(3 * b.length+1)-(intOf v-k2).toNat);case atStart=>exact⟨0,zs,Zq _,rfl,U HBW⟩
   case round=>
    obtain⟨j,rfl,hj,hallj,hbw⟩:=hrel;have HBJ:=V hbw;have HALJ:=V hallj;have hk4:=HK2.z hbw HK2.lt;have hck4:=hk4.u;have hlk4:=hk4.lt;clear hck3 hlk3 hallj hbw hk4;by_cases hltj:j<3 * b.length+1
    ·have hgj:(k2+j:Int)≤k2+3 * (b.length:Int):=zo;have HAL:=V (Hu bo aa bc ac2 b a (k1+i) (k1+i+(k2+j)) wr (HPB2.z HBJ) (HPA.z HBJ) ⟨hl50,hl51⟩ HSB HSA zo);rw[← U HPE i j]at HAL;generalize hpij:P i j=pij at *;have HPIJ:=V hpij;clear hpij;go_wp2_with fail;refine HAL.m ?_;rintro e w3 ⟨rfl,hb3⟩;have HB3:Hid (Below w2.heap.size w2 w3):=HBJ.trans (hb3.m HBJ.size);clear HAL hb3 hck4 hlk4;cases pij with
     |true=>
      go_wp2;go_roundw;case rel=>exact⟨j+1,by go_num,zo,by rw[Ec,U HALJ,U HPIJ];rfl,U HB3⟩
      case measure=>exact zv
     |false=>go_wp2;go_ret;refine⟨?_,HBW2.trans (HB3.m HBW2.size)⟩;rw[← U HRES,BU hlt (BU hltj (U HPIJ))];rfl
    ·have hjj:j=3 * b.length+1:=zo;subst hjj;have hgj:¬ (k2+((3 * b.length+1:Nat):Int)≤k2+3 * (b.length:Int)):=zo;go_wp2;go_roundw;case rel=>exact⟨i+1,by go_num,zo,by rw[Ec,U HALL,U HALJ];rfl,U HBJ⟩
     case measure=>exact zv
  ·have hii:i=3 * b.length+1:=zo;subst hii;have hg:¬ (k1+((3 * b.length+1:Nat):Int)≤k1+3 * (b.length:Int)):=zo;go_wp2;go_ret;refine⟨?_,HBW2.trans (HBW.m HBW2.size)⟩;rw[← U HRES,U HALL];rfl
def xz(row:YL):MS×Int×Int:=zO (row++[(5,0)]) (row.length+1) 0 (zZ 0 1000 1000 1000 1000 0 0)
def yH(row:YL):Option (YL):=if(row.getD 0 (0,0)).1≠0\/row.all kL=Z then X
 else if(xz row).2.1≠0\/row.length<=(xz row).1.C.length then X
 else O ((xz row).1.C.map (fun p=>((0:Int),p)))
theorem SX{row:YL}(h:row.all kL=Y)(d:∀x∈row,inI x.2)(f:row.length<=1000):yX (row++[(5,0)]):=by refine⟨fun x a=>?_,⟨(5,0),zs,Zf (Zf rfl)⟩,zp⟩;rcases Zo.1 a with a|a;have c:=all_eq_true.1 h x a;have e:x.1=0\/9<=x.1/\x.1<=25:=of_decide_eq_true c;refine⟨zo,d x a,fun b=>?_⟩;exfalso;unfold zT at b;simp only[Bool.or_eq_true,beq_iff_eq]at b;omega;simp at a;subst a;exact⟨zs,by unfold inI;simp,fun b=>by simp[zT]at b⟩
theorem Ff{B:Nat}{w:YW}{b:YA}{n k:Nat}{l:YI}(h:w.ownsRow B 2 1 (S b n k) l.length (zn l)):bh w b l/\n=l.length:=by
 obtain⟨a,c,i⟩:=zu h;simp only[Zk]at i;obtain⟨rfl,rfl,rfl⟩:=i;refine⟨?_,rfl⟩;rcases h.2 with⟨d,o⟩|⟨g,cap,cur,e,_⟩;have:l.length=0:=by simp only[Zk]at d;exact d.2.1
 exact Zg (length_eq_zero_iff.1 this);simp only[Zk]at e;obtain⟨rfl,_,rfl⟩:=e;refine Zf ⟨g,rfl,(zC h (k:=g) rfl).1,fun j p f=>?_⟩;have m:j<l.length:=(Zb.1 f).1;rw[zD h j zo];unfold zn;rw[Zn,f];rfl
def qN(row:YL):Option (YL):=match row with
 |[a,b,c,d]=>if a.1=0/\c.1=0 then(match wE b.1 d.1 with
   |some (j,o)=>(yH [(0,a.2),(0,c.2),(j,0)]).map (fun s=>s++[(o,0)])
   |none=>X)else X
 |_=>X
def kz:List (YL->Option (YL)):=[yH,qN,jl,
 isS [(23,0),(23,0)] [],isS [(25,0),(25,0),(25,0)] [],isS [(17,0),(17,0)] [],isS [(18,0),(18,0)] [],isS [(21,0),(22,0)] [],isS [(24,0),(22,0)] [],
 isS [(21,0),(23,0)] [21],isS [(18,0),(9,0)] [10],isS [(18,0),(10,0)] [9],isS [(23,0),(9,0)] [9],isS [(23,0),(11,0)] [11],isS [(23,0),(14,0)] [14],
 isS [(23,0),(15,0)] [15],isS [(23,0),(16,0)] [16],isS [(23,0),(19,0)] [19],isS [(0,0),(9,0)] [],isS [(0,0),(10,0)] [],isS [(0,1),(11,0)] [],
 isS [(0,1),(12,0)] [],isS [(0,-1),(14,0)] [],isS [(0,0),(15,0)] [],isS [(0,0),(16,0)] []]
theorem fM{a:YL}{short:YI}{row s:YL}(h:isS a short row=O s):row=a/\s=short.map (fun p=>(p,(0:Int))):=by
 unfold isS at h;split at h;next e=>exact⟨by simpa using e,(Zl h).symm⟩
 cases h
theorem fh{row s:YL}(h:yH row=O s):s.length<row.length:=by unfold yH at h;split at h;cases h;split at h;cases h;rename_i a;obtain rfl:=Zl h;rw[length_map];omega
theorem Bf{row s:YL}(h:qN row=O s):s.length<row.length:=by
 unfold qN at h;split at h;rename_i a b c d;split at h;split at h;rename_i j o _;cases hr:yH [(0,a.2),(0,c.2),(j,0)]with
 |none=>rw[hr]at h;cases h
 |some t=>rw[hr]at h;obtain rfl:=Zl h;have:=fh hr;simp at this ⊢;omega
 cases h;cases h;cases h
theorem Bo{row s:YL}(h:jl row=O s):s.length<row.length:=by unfold jl at h;split at h;split at h;split at h<;>(obtain rfl:=Zl h;simp);cases h;cases h
theorem oI{r:YL->Option (YL)}(a:r∈kz){row s:YL}(h:r row=O s):s.length<row.length:=by unfold kz at a;simp only[mem_cons,not_mem_nil,or_false]at a;rcases a with rfl|rfl|rfl|a;exact fh h;exact Bf h;exact Bo h;(repeat' rcases a with rfl|a) <;>(obtain⟨rfl,rfl⟩:=fM h;simp)
def fj(row next:YL)(size:Nat)(r:YL->Option (YL)):Option (YL):=match r (row.drop (row.length-size))with
 |some s=>if eZ (bI (row.take (row.length-size))) (row.drop (row.length-size)) s next=Y then O s else X
 |none=>X
def wg(row next:YL)(size:Nat):Option (YL):=kz.findSome? (fj row next size)
def ql(row next:YL):Option (YL×Nat):=((range (min 6 row.length-1)).map (·+2)).findSome? (fun n=>(wg row next n).map (fun s=>(s,n)))
theorem ER {α β:Type} {f:α→Option β} {l:List α} {k:Nat} {x:α} {y:β} (hx:l[k]? = O x) (hy:f x=O y) (h:∀ i z,i<k→l[i]? = O z→f z=X):l.findSome? f=O y:=by
 induction l generalizing k with
 |nil=>simp at hx
 |cons a l ih=>
  rw[findSome?_cons];cases k with
  |zero=>simp at hx;subst hx;rw[hy]
  |succ k=>rw[h 0 a zo rfl];exact ih (k:=k) (by simpa using hx) (fun i z hi hz=>h (i+1) z zo (by simpa using hz))
theorem Cf{α β:Type}{f:α->Option β}{l:List α}(h:∀(i:Nat)(z:α),l[i]? = O z->f z=X):l.findSome? f=X:=by rw[findSome?_eq_none_iff];intro x b;obtain⟨i,a⟩:=getElem?_of_mem b;exact h i x a
theorem IK{row next s:YL}{size:Nat}(g:2<=size)(h:size<=min 6 row.length)(f:wg row next size=O s)(d:∀n,2<=n->n<size->wg row next n=X):ql row next=O (s,size):=by
 unfold ql;have e:((range (min 6 row.length-1)).map (·+2))[size-2]? = O size:=by rw[Zn,getElem?_range zo];simp;omega
 refine ER e (by rw[f];rfl) (fun i z j c=>?_);rw[Zn]at c;obtain⟨y,b,rfl⟩:=Option.map_eq_some_iff.1 c;have a:=(Zb.1 b).1;rw[getElem?_range (by simpa using a)]at b;obtain rfl:=Zl b;rw[d (i+2) zo zo];rfl
theorem Gc{row next:YL}(d:∀n,2<=n->n<=min 6 row.length->wg row next n=X):ql row next=X:=by unfold ql;refine Cf (fun i z c=>?_);rw[Zn]at c;obtain⟨y,b,rfl⟩:=Option.map_eq_some_iff.1 c;have a:=(Zb.1 b).1;rw[getElem?_range (by simpa using a)]at b;obtain rfl:=Zl b;simp at a;rw[d (i+2) zo zo];rfl
theorem bM{row next s:YL}{size:Nat}(h:ql row next=O (s,size)):2<=size/\size<=row.length/\s.length<size:=by unfold ql at h;obtain⟨n,f,j⟩:=exists_of_findSome?_eq_some h;obtain⟨i,c,rfl⟩:=mem_map.1 f;have c:=mem_range.1 c;obtain⟨t,d,e⟩:=Option.map_eq_some_iff.1 j;simp only[Prod.mk.injEq]at e;obtain⟨rfl,rfl⟩:=e;unfold wg at d;obtain⟨r,g,a⟩:=exists_of_findSome?_eq_some d;unfold fj at a;split at a;rename_i k b;split at a;obtain rfl:=Zl a;have:=oI g b;rw[length_drop]at this;omega;cases a;cases a
def xb (next:YL):Nat→YL→YL
  | 0,row=>row
  | n + 1, row => match ql row next with
    | some (s,size)=>xb next n (row.take (row.length-size)++s)
    | none=>row
def xg (row:YL):Nat→YL
  | 0=>[]
  | k + 1 => match row[k]? with
    | some x=>xb ((row.drop (k+1)).take 1) ((xg row k).length+1) (xg row k++[x])
    | none=>xg row k
theorem Gb(next:YL)(n:Nat)(row:YL):(xb next n row).length<=row.length:=by
 induction n generalizing row with
 |zero=>exact Zc _
 |succ n b=>unfold xb;split;rename_i s size a;have c:=bM a;refine Nat.le_trans (b _) ?_;rw[Zi,length_take];omega;exact Zc _
theorem ij(row:YL)(k:Nat):(xg row k).length<=k:=by
 induction k with
 |zero=>simp[xg]
 |succ k a=>unfold xg;split;refine Nat.le_trans (Gb _ _ _) ?_;rw[Zi];simp;exact a;omega
def yu(x:Int×Int):Prop:=(0<=x.1/\x.1<=32)/\inI x.2
theorem oJ(l:YL)(b:∀x∈l,inI x.2)(n:Nat):∀(s:Int)(m:MS),MOk m->MOk (zO l n s m).1:=by
 have step:∀m,MOk m->MOk (yb l m).1:=by
  intro m a;unfold yb;split;next x c=>exact fg x.2 (b x (Zd c)) _ _ (a.pc _) (dE _)
  exact a
 induction n with
 |zero=>intro s m a;unfold zO;split<;>exact a
 |succ n d=>intro s m a;unfold zO;split;exact a;split;exact d _ _ (step m a);exact step m a
theorem lD{row s:YL}(b:∀x∈row,inI x.2)(h:yH row=O s):∀x∈s,yu x:=by
 unfold yH at h;split at h;cases h;split at h;cases h;obtain rfl:=Zl h;intro x a;obtain⟨p,d,rfl⟩:=mem_map.1 a;have c:MOk (zZ 0 1000 1000 1000 1000 0 0):=eN 0 1000 1000 1000 1000 0 0 zo (by unfold xG cf;omega)
 have:=(oJ (row++[(5,0)]) (fun x a=>by
   rcases Zo.1 a with h|h
   · exact b x h
   · simp at h;subst h;exact qy) (row.length+1) 0 _ c).ints.1 p d
 exact⟨zs,this⟩
theorem nZ{a b j o:Int}(h:wE a b=O (j,o)):(9<=j/\j<=25)/\(9<=o/\o<=25):=by unfold wE at h;split at h;simp at h;omega;split at h;simp at h;omega;split at h;cases h;split at h;simp at h;omega;cases h
theorem tg{row s:YL}(f:∀x∈row,inI x.2)(h:qN row=O s):∀x∈s,yu x:=by
 unfold qN at h;split at h;rename_i a b c d;split at h;split at h;rename_i j o i;cases hr:yH [(0,a.2),(0,c.2),(j,0)]with
 |none=>rw[hr]at h;cases h
 |some t=>rw[hr]at h;obtain rfl:=Zl h;intro x e;rcases Zo.1 e with e|e;refine lD (fun y g=>?_) hr x e;simp at g;rcases g with rfl|rfl|rfl;exact f a zs;exact f c zs;exact qy;simp at e;subst e;have:=nZ i;exact⟨zp,qy⟩
 cases h;cases h;cases h
theorem th{row s:YL}(d:∀x∈row,inI x.2)(h:jl row=O s):∀x∈s,yu x:=by unfold jl at h;split at h;rename_i a b;split at h;split at h;obtain rfl:=Zl h;intro x c;simp at c;obtain rfl:=Zl h;intro x c;simp at c;subst c;exact⟨zs,d b zs⟩;cases h;cases h
theorem TQ{short:YI}(h:∀p∈short,0<=p/\p<=32):∀x∈short.map (fun p=>(p,(0:Int))),yu x:=by intro x b;obtain⟨p,a,rfl⟩:=mem_map.1 b;exact⟨h p a,qy⟩
theorem JH{r:YL->Option (YL)}(a:r∈kz){row s:YL}(b:∀x∈row,inI x.2)(h:r row=O s):∀x∈s,yu x:=by unfold kz at a;simp only[mem_cons,not_mem_nil,or_false]at a;rcases a with rfl|rfl|rfl|a;exact lD b h;exact tg b h;exact th b h;(repeat' rcases a with rfl|a) <;>(obtain⟨_,rfl⟩:=fM h;exact TQ zs)
theorem mP{row next s:YL}{size:Nat}(d:∀x∈row,yu x)(h:ql row next=O (s,size)):∀x∈s,yu x:=by unfold ql at h;obtain⟨n,j,g⟩:=exists_of_findSome?_eq_some h;obtain⟨t,c,e⟩:=Option.map_eq_some_iff.1 g;simp only[Prod.mk.injEq]at e;obtain⟨rfl,rfl⟩:=e;unfold wg at c;obtain⟨r,f,a⟩:=exists_of_findSome?_eq_some c;unfold fj at a;split at a;rename_i k b;split at a;obtain rfl:=Zl a;exact JH f (fun x i=>(d x (mem_of_mem_drop i)).2) b;cases a;cases a
theorem IG(next:YL)(n:Nat)(row:YL)(a:∀x∈row,yu x):∀x∈xb next n row,yu x:=by
 induction n generalizing row with
 |zero=>exact a
 |succ n d=>unfold xb;split;rename_i s size b;refine d _ (fun x c=>?_);rcases Zo.1 c with h|h;exact a x (mem_of_mem_take h);exact mP a b x h;exact a
theorem pO(row:YL)(c:∀x∈row,yu x)(k:Nat):∀x∈xg row k,yu x:=by
 induction k with
 |zero=>intro x a;simp[xg]at a
 |succ k b=>unfold xg;split;rename_i x a;refine IG _ _ _ (fun y d=>?_);rcases Zo.1 d with h|h;exact b y h;simp at h;subst h;exact c _ (Zd a);exact b
abbrev wj(P:Int->Prop)(l:YL):Prop:=∀x∈l,zT x.1=Y->P x.2
abbrev bQ(m:Nat)(l:YL):Prop:=∀x∈l,zT x.1=Y->0<=x.2/\x.2<m
theorem tW {l:YL} (hj:∀ x∈l,x.1=1→0≤x.2∧x.2<l.length) (n:Nat) (k:Int) (hk:0≤k∧k<l.length):0≤jd l n k∧jd l n k<l.length:=by
 induction n generalizing k with
 |zero=>exact hk
 |succ n ih=>
  unfold jd;split;rename_i x hx;split;next h1=>exact ih x.2 (hj x (Zd hx) h1)
  exact hk;exact hk
def jg (l:YL) (i:Nat):YL:=match l[i]? with
  | none=>l
  | some x=>if zT x.1=Y then
      (let l1 := l.set i (x.1, jd l l.length x.2)
       let e:=l1.getD (jd l l.length x.2).toNat (0,0)
       if x.1=1∧(e.1=4∨e.1=5) then l1.set i e else l1)
    else l
def vg(l:YL):Nat->YL
 |0=>l
 |k+1=>jg (vg l k) k
def OJ(l:YL):YL:=vg l l.length
theorem tF(l:YL)(i:Nat):(jg l i).length=l.length:=by unfold jg;split;rfl;split;simp only;split<;>simp;rfl
theorem gU(l:YL)(k:Nat):(vg l k).length=l.length:=by
 induction k with
 |zero=>rfl
 |succ k a=>unfold vg;rw[tF,a]
theorem AJ{l:YL}(h:bQ l.length l)(i:Nat):bQ l.length (jg l i):=by
 have j:∀x∈l,x.1=1->0<=x.2/\x.2<l.length:=fun x c e=>h x c (by rw[e];rfl);unfold jg;split;exact h;rename_i x c;split;rename_i k;have g:=tW j l.length x.2 (h x (Zd c) k);have f:bQ l.length (l.set i (x.1,jd l l.length x.2)):=by intro y d a;rcases mem_or_eq_of_mem_set d with b|rfl;exact h y b a;exact g
 simp only;split;rename_i he;intro y d a;rcases mem_or_eq_of_mem_set d with b|rfl;exact f y b a;exfalso;rcases he.2 with e|e<;>(rw[e]at a;revert a;decide);exact f;exact h
theorem Rp{l:YL}(h:bQ l.length l)(k:Nat):bQ l.length (vg l k):=by
 induction k with
 |zero=>exact h
 |succ k a=>have:=AJ (l:=vg l k) (by rw[gU];exact a) k;rw[gU]at this;exact this
def yE(op:Int):Bool:=!decide (op=1\/op=4\/op=5)
def xN(l:YL)(r:List Bool)(t:YI)(a:Int):List Bool×List Int:=if r.getD a.toNat Z=Y then(r,t)else match l[a.toNat]? with
 |none=>(r,t)
 |some x=>(r.set a.toNat Y,t++(if zT x.1=Y then [x.2]else [])++(if yE x.1=Y then [a+1]else []))
def dr (l:YL):Nat→List Bool→YI→List Bool
  | 0,r,_=>r
  | n + 1, r, t => match t.getLast? with
    | none=>r
    | some a=>dr l n (xN l r t.dropLast a).1 (xN l r t.dropLast a).2
def jm(l:YL)(en:Nat):List Bool:=dr l (3*l.length+1) (replicate l.length Z) [(en:Int)]
def bL(r:List Bool)(t:YI):Nat:=3*r.count Z+t.length
theorem Bm (r:List Bool) (k:Nat) (h:r[k]? = O Z):(r.set k Y).count Z+1=r.count Z:=by
 induction r generalizing k with
 |nil=>simp at h
 |cons x r ih=>
  cases k with
  |zero=>simp at h;subst h;simp
  |succ k=>have:=ih k (by simpa using h);cases x<;>simp<;>omega
theorem oz{l:YL}{r:List Bool}{t:YI}{a:Int}(f:0<=a/\a<l.length)(e:r.length=l.length):bL (xN l r t a).1 (xN l r t a).2<bL r (t++[a])/\(xN l r t a).1.length=l.length:=by
 unfold xN bL;split;simp;omega;rename_i b;have c:a.toNat<r.length:=zo;have d:r[a.toNat]? = O Z:=by rw[Za c];rw[Zj,Za c]at b;simpa using b
 have g:=Bm r a.toNat d;split;simp;omega;simp only[Zi,length_cons,length_nil,length_set];refine⟨?_,e⟩;split<;>split<;>simp<;>omega
theorem FK{l:YL}{r:List Bool}{t:YI}{a:Int}(f:bQ l.length l)(e:∀k x,l[k]? = O x->yE x.1=Y->k+1<l.length)(g:0<=a/\a<l.length)(c:∀y∈t,0<=y/\y<(l.length:Int)):∀y∈(xN l r t a).2,0<=y/\y<(l.length:Int):=by unfold xN;split;exact c;split;exact c;rename_i x d;intro y b;simp only[Zo]at b;rcases b with(b|b)|b;exact c y b;revert b;split;rename_i h;intro b;simp at b;subst b;exact f x (Zd d) h;intro b;simp at b;revert b;split;rename_i h;intro b;simp at b;have:=e _ _ d h;omega;intro b;simp at b
def vV(f:Nat×YL->Nat×YL)(bs:List (Nat×YL))(k:Nat):List (Nat×YL):=(bs.take k).map f++bs.drop k
theorem iw(f:Nat×YL->Nat×YL)(a:List (Nat×YL)):vV f a 0=a:=by simp[vV]
theorem mh(f:Nat×YL->Nat×YL)(a:List (Nat×YL)):vV f a a.length=a.map f:=by simp[vV]
theorem ND(f:Nat×YL->Nat×YL)(a:List (Nat×YL))(k:Nat):(vV f a k).length=a.length:=by unfold vV;rw[Zi,length_map,length_take,length_drop];omega
theorem fO(f:Nat×YL->Nat×YL)(a:List (Nat×YL))(k:Nat)(h:k<a.length):(vV f a k)[k]? = a[k]?:=by unfold vV;rw[Zw zp,getElem?_drop];congr 1;simp;omega
theorem iu(f:Nat×YL->Nat×YL){a:List (Nat×YL)}{k:Nat}{b:Nat×YL}(h:a[k]? = O b):vV f a (k+1)=(vV f a k).set k (f b):=by have d:=(Zb.1 h).1;apply ext_getElem?;intro i;by_cases e:i=k;subst e;rw[getElem?_set_self (by rw[ND];exact d)];unfold vV;rw[Zu zp,Zn,getElem?_take_of_lt zo,h];rfl;rw[getElem?_set_ne (fun c=>e c.symm)];unfold vV;by_cases g:i<k;rw[Zu zp,Zu zp,Zn,Zn,getElem?_take_of_lt zo,getElem?_take_of_lt zo];rw[Zw zp,Zw zp,getElem?_drop,getElem?_drop];congr 1;simp;omega
def ym(r:List Bool)(b:Nat×YL):Nat×YL:=if r.getD b.1 Z=Y then b else(b.1,[])
def xB(b:Nat×YL):Nat×YL:=if b.2.getLast? = O (1,((b.1+b.2.length:Nat):Int))then(b.1,b.2.dropLast)else b
abbrev Pc:=Int×Int×Int
theorem rQ(op:Nat)(h:40<=op)(b:op<60):2<=(yj op).length/\(yj op).length<=3:=by have:∀k:Fin 20,2<=(yj ((k.val+40:Nat):Int)).length/\(yj ((k.val+40:Nat):Int)).length<=3:=zd;have a:=this ⟨op-40,zo⟩;have e:op-40+40=op:=zo;simp only[e]at a;exact a
theorem cS{row:YL}{p:Pc}(h:p∈xc row):2<=p.2.2/\p.2.2<=3/\p.2.2<=row.length:=by
 unfold xc qA at h;obtain⟨op,a,he⟩:=mem_filterMap.1 h;obtain⟨i,b,rfl⟩:=mem_map.1 a;have b:=mem_range.1 b;unfold bW at he;obtain⟨n,c,rfl⟩:=Option.map_eq_some_iff.1 he;obtain⟨d,e⟩:=rQ (i+40) zo zo;have f:¬row.length<(yj ((i+40:Nat):Int)).length:=fun h=>by rw[tu _ _ _ h]at c;cases c
 simp only;omega
def kJ(sz:YI)(b:Pc×Int)(p:Pc):Pc×Int:=if sz.getD p.2.2.toNat 0+1<b.2 then(p,sz.getD p.2.2.toNat 0+1)else b
def xy(t:List (Pc×Int)):YI:=t.map Prod.snd++[0]
def xK(x:Int×Int)(r:YL)(t:List (Pc×Int))(k:Nat):Pc×Int:=((xc (x::r)).take k).foldl (kJ (0::xy t)) ((x.1,x.2,1),(xy t).getD 0 0+1)
def few:YL->List (Pc×Int)
 |[]=>[]
 |x::r=>xK x r (few r) (xc (x::r)).length::few r
theorem vF(r:YL):(few r).length=r.length:=by
 induction r with
 |nil=>rfl
 |cons x r a=>simp[few,a]
theorem gg{x:Int×Int}{r:YL}{t:List (Pc×Int)}{k:Nat}{p:Pc}(h:(xc (x::r))[k]? = O p):xK x r t (k+1)=kJ (0::xy t) (xK x r t k) p:=by unfold xK;rw[take_add_one,h,foldl_append];rfl
def ib(m:Nat)(b:Pc×Int):Prop:=(1<=b.1.2.2/\b.1.2.2<=3/\b.1.2.2<=m)/\(0<=b.2/\b.2<=m)
theorem oP(t:List (Pc×Int))(m:Nat)(c:∀b∈t,ib m b)(j:Nat):0<=(xy t).getD j 0/\(xy t).getD j 0<=m:=by
 rw[Zj];cases e:(xy t)[j]? with
 |none=>simp
 |some y=>simp only[Option.getD_some];have:=Zd e;unfold xy at this;rcases Zo.1 this with h|h;obtain⟨b,a,rfl⟩:=mem_map.1 h;exact(c b a).2;simp at h;subst h;omega
theorem ib.m{m a:Nat}{b:Pc×Int}(h:ib m b)(e:m<=a):ib a b:=by obtain⟨c,d⟩:=h;exact⟨zo,zo⟩
theorem pI (x:Int×Int) (r:YL) (t:List (Pc×Int)) (hl:t.length=r.length) (ht:∀ b∈t,ib r.length b) (k:Nat):ib (r.length+1) (xK x r t k):=by
 induction k with
 |zero=>have:=oP t r.length ht 0;unfold xK ib;simp only[take_zero,foldl_nil];omega
 |succ k ih=>
  cases e:(xc (x :: r))[k]? with
  |none=>
   have:xK x r t (k+1)=xK x r t k:=by unfold xK;rw[take_add_one,e];simp
   rw[this];exact ih
  |some p=>
   rw[gg e];have hp:=cS (Zd e);unfold kJ;split;rename_i hlt;have hd:(0 :: xy t).getD p.2.2.toNat 0=(xy t).getD (p.2.2.toNat-1) 0:=by obtain⟨q,hq⟩:∃ q,p.2.2.toNat=q+1:=⟨p.2.2.toNat-1,zo⟩;rw[hq];rfl
   have:=oP t r.length ht (p.2.2.toNat-1);rw[hd]at hlt;rw[hd];have h2:=ih.2;simp only[length_cons]at hp;exact⟨by simp only;omega,by simp only;omega⟩;exact ih
theorem pU(r:YL):∀b∈few r,ib r.length b:=by
 induction r with
 |nil=>intro b a;simp[few]at a
 |cons x r c=>intro b a;unfold few at a;rw[length_cons];rcases mem_cons.1 a with rfl|a;exact pI x r _ (vF r) c _;exact(c b a).m zo
def xp (best:List Pc):Nat→Nat→YL
  | 0,_=>[]
  | n + 1, i => match best[i]? with
    | some p=>(p.1,p.2.1) :: xp best n (i+p.2.2.toNat)
    | none=>[]
def xf(row:YL):YL:=xp ((few row).map Prod.fst) row.length 0
theorem Au(a:List Pc)(n i:Nat):(xp a n i).length<=n:=by
 induction n generalizing i with
 |zero=>simp[xp]
 |succ n b=>unfold xp;split;rw[length_cons];have:=b (i+(by assumption:Pc).2.2.toNat);omega;simp
abbrev Blo:=Nat×YL
def kI(bs:List Blo)(x:Int×Int):List Blo:=match bs.getLast? with
 |some b=>bs.dropLast++[(b.1,b.2++[x])]
 |none=>bs
theorem kr(a:List Blo)(b:Blo)(x:Int×Int):kI (a++[b]) x=a++[(b.1,b.2++[x])]:=by simp[kI]
def vB(bs:List Blo)(b:Bool)(k:Nat)(x:Int×Int):List Blo:=kI (if b=Y then bs++[(k,[])]else bs) x
def xv (l:YL) (beg:List Bool):Nat→List Blo
  | 0=>[]
  | k + 1 => match l[k]? with
    | some x=>vB (xv l beg k) (beg.getD k Z) k x
    | none=>xv l beg k
def zt(l:YL)(en:Nat):List Blo:=xv l (kN l en) l.length
theorem dg (l:YL) (en k:Nat):(qp l en k).getD 0 Z=Y:=by
 have set_head:∀ (b:List Bool) (j:Nat),b.getD 0 Z=Y→(b.set j Y).getD 0 Z=Y:=by
  intro b j hb;cases b with
  |nil=>simp at hb
  |cons x b=>
   cases j with
   |zero=>rfl
   |succ j=>simpa using hb
 induction k with
 |zero=>unfold qp;refine set_head _ _ ?_;rw[replicate_succ];rfl
 |succ k ih=>unfold qp;split;unfold jx;simp only;split<;>split;exact set_head _ _ (set_head _ _ ih);exact set_head _ _ ih;exact set_head _ _ ih;exact ih;exact ih
theorem GJ{a:List Blo}{x:Int×Int}{b:Blo}(h:b∈kI a x):b∈a\/∃c∈a,b=(c.1,c.2++[x]):=by rcases Zz a with rfl|⟨t,c,rfl⟩;simp[kI]at h;rw[concat_eq_append]at h ⊢;rw[kr]at h;rcases Zo.1 h with h|h;exact Zg (by simp[h]);exact Zf ⟨c,zs,by simpa using h⟩
theorem JQ{a:List Blo}{x:Int×Int}(d:a≠[]):kI a x≠[]/\(kI a x).flatMap (·.2)=a.flatMap (·.2)++[x]/\∀b∈kI a x,(b∈a.dropLast)\/b.2≠[]:=by rcases Zz a with rfl|⟨t,c,rfl⟩;exact absurd rfl d;rw[concat_eq_append,kr];refine⟨zs,zs,fun b h=>?_⟩;rcases Zo.1 h with h|h;exact Zg (by simpa using h);simp at h;subst h;exact Zf zs
structure iE(l:YL)(k:Nat)(bs:List Blo):Prop where
  flat:bs.flatMap (·.2)=l.take k
  full:∀b∈bs,b.2≠[]
  low:∀b∈bs,b.1<l.length
  some:0<k->bs≠[]
theorem ic (l:YL) (beg:List Bool) (h0:beg.getD 0 Z=Y) (k:Nat) (hk:k≤l.length):iE l k (xv l beg k):=by
 induction k with
 |zero=>exact⟨by simp[xv],by simp[xv],by simp[xv],zo⟩
 |succ k ih=>
  have ih:=ih zo;obtain⟨x,hx⟩:∃ x,l[k]? = O x:=⟨_,Za zo⟩;have e:xv l beg (k+1)=vB (xv l beg k) (beg.getD k Z) k x:=by rw[xv,hx]
  rw[e];unfold vB;have hne:(if beg.getD k Z=Y then xv l beg k++[(k,[])] else xv l beg k)≠[]:=by
   split;simp;rename_i hb;cases k with
   |zero=>exact absurd h0 hb
   |succ k=>exact ih.some zo
  obtain⟨a1,a2,a3⟩:=JQ (x:=x) hne;refine⟨?_,?_,?_,fun _=>a1⟩;rw[a2,take_add_one,hx];congr 1;split<;>simp[ih.flat];intro b hb;rcases a3 b hb with h|h;refine ih.full b ?_;revert h;split;intro h;simpa using h;exact fun h=>dropLast_subset _ h;exact h;intro b hb;rcases GJ hb with h|⟨c,h,rfl⟩;revert h;split;intro h;rcases Zo.1 h with h|h;exact ih.low b h;simp at h;subst h;simp;omega;exact ih.low b;simp only;revert h;split;intro h;rcases Zo.1 h with h|h;exact ih.low c h;simp at h;subst h;simp;omega;exact ih.low c
theorem iE.len{l:YL}{k:Nat}{a:List Blo}(h:iE l k a):a.length<=k:=by
 have:∀cs:List Blo,(∀b∈cs,b.2≠[])->cs.length<=(cs.flatMap (·.2)).length:=by
  intro cs;induction cs with
  |nil=>intro _;simp
  |cons b cs g=>intro e;have d:=g (fun c f=>e c (by simp[f]));have i:=length_pos_iff.2 (e b zs);rw[flatMap_cons,Zi,length_cons];omega
 have d:=this a h.full;rw[h.flat,length_take]at d;omega
theorem iE.row{l:YL}{k:Nat}{a:List Blo}(h:iE l k a){b:Blo}(f:b∈a):b.2.length<=k:=by
 have:∀cs:List Blo,b∈cs->b.2.length<=(cs.flatMap (·.2)).length:=by
  intro cs;induction cs with
  |nil=>intro h;simp at h
  |cons c cs g=>intro d;rw[flatMap_cons,Zi];rcases mem_cons.1 d with rfl|d;omega;have:=g d;omega
 have e:=this a f;rw[h.flat,length_take]at e;omega
abbrev LBl:=Nat×Option Addr×Nat×YL
def LBl.blo(r:LBl):Blo:=(r.1,r.2.2.2)
def qw(rs:List LBl):List Value:=rs.flatMap (fun r=>[I J r.1,S r.2.1 r.2.2.2.length r.2.2.1])
theorem Eg(a b:List LBl):qw (a++b)=qw a++qw b:=by unfold qw;rw[flatMap_append]
theorem wQ (l:List LBl) (i:Nat) (r:LBl) (h:l[i]? = O r) : (qw l)[i * 2]? = O (I J r.1)∧(qw l)[i * 2+1]? = O (S r.2.1 r.2.2.2.length r.2.2.1):=by
 induction l generalizing i with
 |nil=>simp at h
 |cons y l ih=>
  cases i with
  |zero=>simp at h;subst h;simp[qw]
  |succ i=>simp only[getElem?_cons_succ]at h;have:=ih i h;simp only[qw,flatMap_cons]at *;have e1:(i+1) * 2=i * 2+2:=zo;rw[e1];exact this
theorem Jk (l:List LBl) (k:Nat) (r:LBl) (hx:l[k]? = O r) (a:YA) (c:Nat) (row:YL):(qw l).set (k * 2+1) (S a row.length c)=qw (l.set k (r.1,a,c,row)):=by
 induction l generalizing k with
 |nil=>simp at hx
 |cons y l ih=>
  cases k with
  |zero=>simp at hx;subst hx;rfl
  |succ k=>have e:(k+1) * 2=k * 2+1+1:=zo;rw[e];have:=ih k (by simpa using hx);unfold qw at this ⊢;simp only[flatMap_cons,set_cons_succ];rw[← this];rfl
theorem Fu(f:Int)(a:YA)(n c:Nat):∀u∈[Value.int .i64 f,S a n c],u.oneCell'=Y:=by intro u b;simp at b;rcases b with rfl|rfl<;>rfl
theorem IV:(prog.info? 161).map (fun i=>(i.zero,i.size,i.bytes))=O (O (Ag #[I J 0,S X 0 0]),2,32):=zr
def jn(lg M:Nat)(w:YW)(r:LBl):Prop:=r.2.2.2.length<=r.2.2.1/\(r.2.2.2=[]\/∃g off,r.2.1=O ⟨g,off,X⟩/\g<M/\g≠lg/\∀j u,(zc r.2.2.2)[j]? = O u->w.cell? ⟨g,off+j,X⟩=O u)
theorem jn.isIn{c M:Nat}{w:YW}{r:LBl}(h:jn c M w r)(f:M<=w.heap.size):InL w r.2.1 r.2.2.2:=by rcases h.2 with h|⟨g,off,a,d,e,b⟩;exact Zg h;exact Zf ⟨g,off,a,zo,b⟩
theorem jn.z{b M:Nat}{w w':YW}{r:LBl}(h:jn b M w r)(f:Below M w w'):jn b M w' r:=by refine⟨h.1,?_⟩;rcases h.2 with h|⟨g,off,c,a,d,e⟩;exact Zg h;exact Zf ⟨g,off,c,a,d,fun j u i=>by rw[f.u a];exact e j u i⟩
theorem jn.up{b M a:Nat}{w:YW}{r:LBl}(h:jn b M w r)(i:M<=a):jn b a w r:=by refine⟨h.1,?_⟩;rcases h.2 with h|⟨g,off,c,f,d,e⟩;exact Zg h;exact Zf ⟨g,off,c,zo,d,e⟩
theorem jn.set{a M:Nat}{w:YW}{r:LBl}(h:jn a M w r)(i:Nat)(u:Value):jn a M (w.setCell ⟨a,i,X⟩ u) r:=by refine⟨h.1,?_⟩;rcases h.2 with h|⟨g,off,c,d,b,e⟩;exact Zg h;refine Zf ⟨g,off,c,d,b,fun j x f=>?_⟩;have:=e j x f;unfold World.cell? at this ⊢;rw[Below.heap_setCell _ _ _ _ b];exact this
theorem jn.grown{a lg' M:Nat}{w w':YW}{r:LBl}(h:jn a M w r)(l:M<=w.heap.size)(i:w.grownBy w' (O a))(m:lg'=a\/w.heap.size<=lg'):jn lg' M w' r:=by refine⟨h.1,?_⟩;rcases h.2 with h|⟨g,off,b,c,d,f⟩;exact Zg h;refine Zf ⟨g,off,b,c,zo,fun j x k=>i.u (f j x k) ?_⟩;intro e;exact d (Zl e)
theorem jn.ofIn{e:Nat}{w:YW}{f c:Nat}{a:YA}{row:YL}(h:InL w a row)(k:row.length<=c)(b:∀g off,a=O ⟨g,off,X⟩->g≠e):jn e w.heap.size w (f,a,c,row):=by refine⟨k,?_⟩;rcases h with h|⟨g,off,d,i,j⟩;exact Zg h;exact Zf ⟨g,off,d,i,b g off d,j⟩
theorem yD.cap{B:Nat}{w:YW}{a:YA}{n c:Nat}{l:YL}(h:yD B w (S a n c) l):l.length<=c:=by obtain⟨_,rfl⟩:=h.isIn;rcases h.2 with⟨_,e⟩|⟨g,cap,cur,e,_,_,b,_⟩;omega;simp only[Zk]at e;omega
theorem jn.ofOwn{b M:Nat}{w:YW}{f n c:Nat}{a:YA}{row:YL}(h:yD M w (S a n c) row)(d:b<M):jn b w.heap.size w (f,a,c,row):=by refine jn.ofIn h.isIn.1 h.cap (fun g off e=>?_);subst e;have:=(zC h (k:=g) rfl).2;omega
def jh(B:Nat)(w:YW)(lg lc:Nat)(rs:List LBl):Prop:=w.ownsRow B 161 2 (S (O ⟨lg,0,X⟩) rs.length lc) rs.length (qw rs)/\∀r∈rs,jn lg w.heap.size w r
theorem jh.z{B:Nat}{w w':YW}{b lc:Nat}{c:List LBl}(h:jh B w b lc c)(a:Below w.heap.size w w'):jh B w' b lc c:=⟨(zz.aB a).row h.1,fun r d=>((h.2 r d).z a).up a.size⟩
theorem jh.lt{B:Nat}{w:YW}{a lc:Nat}{b:List LBl}(h:jh B w a lc b):a<w.heap.size/\B<=a:=zC h.1 (k:=a) rfl
theorem jh.K{B a:Nat}{w:YW}{b lc:Nat}{c:List LBl}(h:jh B w b lc c)(d:a<=B):jh a w b lc c:=⟨zV h.1 d,h.2⟩
theorem jh.cells{B:Nat}{w:YW}{b lc:Nat}{c:List LBl}(h:jh B w b lc c){k:Nat}{r:LBl}(a:c[k]? = O r):w.cell? ⟨b,k*2,X⟩=O (I J r.1)/\w.cell? ⟨b,k*2+1,X⟩=O (S r.2.1 r.2.2.2.length r.2.2.1)/\InL w r.2.1 r.2.2.2/\r.2.2.2.length<=r.2.2.1:=by have f:=(Zb.1 a).1;obtain⟨d,e⟩:=wQ c k r a;refine⟨?_,?_,(h.2 r (Zd a)).isIn (Zc _),(h.2 r (Zd a)).1⟩;rw[zD h.1 (k*2) zo];exact d;rw[zD h.1 (k*2+1) zo];exact e
theorem jh.set{B:Nat}{w:YW}{d lc:Nat}{e:List LBl}(h:jh B w d lc e){k:Nat}{r:LBl}(n:e[k]? = O r)(a:YA)(c:Nat)(row:YL)(f:InL w a row)(b:row.length<=c)(i:∀g off,a=O ⟨g,off,X⟩->g≠d):jh B (w.setCell ⟨d,k*2+1,X⟩ (S a row.length c)) d lc (e.set k (r.1,a,c,row)):=by
 have l:(w.setCell ⟨d,k*2+1,X⟩ (S a row.length c)).heap.size=w.heap.size:=by simp[World.setCell]
 refine⟨?_,fun o j=>?_⟩;have:=qI h.1 (k*2+1) (S a row.length c);rw[Jk e k r n a c row]at this;rw[length_set];exact this;rw[l];rcases mem_or_eq_of_mem_set j with m|rfl;exact(h.2 o m).set _ _;exact(jn.ofIn f b i).set _ _
def jo(s:List Int×Int)(b:Blo):List Int×Int:=(s.1.set b.1 s.2,s.2+b.2.length)
def yO(bs:List Blo)(n k:Nat):List Int×Int:=(bs.take k).foldl jo (replicate n 0,0)
theorem Ij{a:List Blo}{n k:Nat}{b:Blo}(h:a[k]? = O b):yO a n (k+1)=jo (yO a n k) b:=by unfold yO;rw[take_add_one,h,foldl_append];rfl
theorem Ie(a:List Blo)(s:List Int×Int):(a.foldl jo s).1.length=s.1.length/\(a.foldl jo s).2=s.2+((a.flatMap (·.2)).length:Nat):=by
 induction a generalizing s with
 |nil=>simp
 |cons b a e=>rw[foldl_cons];obtain⟨c,d⟩:=e (jo s b);refine⟨by rw[c];simp[jo],?_⟩;rw[d,flatMap_cons,Zi];simp only[jo];omega
theorem ot(a:List Blo)(n k:Nat):(yO a n k).1.length=n/\(yO a n k).2=(((a.take k).flatMap (·.2)).length:Nat):=by unfold yO;have:=Ie (a.take k) (replicate n 0,0);simpa using this
theorem iL(a:List Blo)(k:Nat):((a.take k).flatMap (·.2)).length<=(a.flatMap (·.2)).length:=by
 have:a.flatMap (·.2)=(a.take k).flatMap (·.2)++(a.drop k).flatMap (·.2):=by rw[<-flatMap_append,take_append_drop]
 rw[this,Zi];omega
theorem Ig(a:List Blo)(m:Int)(s:List Int×Int)(g:0<=s.2)(d:s.2+((a.flatMap (·.2)).length:Nat)<=m)(h:∀x∈s.1,0<=x/\x<=m):∀x∈(a.foldl jo s).1,0<=x/\x<=m:=by
 induction a generalizing s with
 |nil=>exact h
 |cons b a f=>rw[flatMap_cons,Zi]at d;rw[foldl_cons];refine f _ (by simp only[jo];omega) (by simp only[jo];omega) (fun x e=>?_);rcases mem_or_eq_of_mem_set e with c|rfl;exact h x c;omega
def jS(nums:YI)(bs:List Blo)(k:Nat):YL:=(bs.take k).flatMap (fun b=>kR nums b.2)
theorem Hx{nums:YI}{a:List Blo}{k:Nat}{b:Blo}(h:a[k]? = O b):jS nums a (k+1)=jS nums a k++kR nums b.2:=by unfold jS;rw[take_add_one,h,flatMap_append];simp
theorem Ak(nums:YI)(a:List Blo)(k:Nat):(jS nums a k).length=((a.take k).flatMap (·.2)).length:=by
 unfold jS;generalize a.take k=t;induction t with
 |nil=>rfl
 |cons b t c=>rw[flatMap_cons,flatMap_cons,Zi,Zi,c];simp[kR]
def yw(n en:Nat)(bs:List Blo):YL×Nat:=(jS (yO bs n bs.length).1 bs bs.length,((yO bs n bs.length).1.getD en 0).toNat)
theorem La(a:List Blo)(n k:Nat):∀x∈(yO a n k).1,0<=x/\x<=((a.flatMap (·.2)).length:Nat):=by unfold yO;refine Ig (a.take k) _ _ zs ?_ ?_;have:=iL a k;simp only;omega;intro x b;have:=eq_of_mem_replicate b;omega
theorem mJ(n en:Nat)(a:List Blo):(yw n en a).1.length=(a.flatMap (·.2)).length:=by unfold yw;rw[Ak,take_length]
theorem cO{op:Int}(h:op=0\/9<=op):zT op=Z:=by unfold zT;have a:op≠1:=zo;have b:op≠2:=zo;have c:op≠3:=zo;have d:op≠7:=zo;simp[a,b,c,d]
theorem ry{P:Int->Prop}{a b:YL}(c:wj P a)(d:wj P b):wj P (a++b):=by intro x e;rcases Zo.1 e with h|h;exact c x h;exact d x h
theorem mo{P:Int->Prop}{row s:YL}(h:yH row=O s):wj P s:=by unfold yH at h;split at h;cases h;split at h;cases h;obtain rfl:=Zl h;intro x b a;obtain⟨p,c,rfl⟩:=mem_map.1 b;rw[cO (Zg rfl)]at a;cases a
theorem Be{P:Int->Prop}{row s:YL}(h:qN row=O s):wj P s:=by
 unfold qN at h;split at h;rename_i a b c d;split at h;split at h;rename_i j o g;cases hr:yH [(0,a.2),(0,c.2),(j,0)]with
 |none=>rw[hr]at h;cases h
 |some t=>rw[hr]at h;obtain rfl:=Zl h;refine ry (mo hr) (fun x f e=>?_);simp at f;subst f;have:=nZ g;rw[cO (Zf this.2.1)]at e;cases e
 cases h;cases h;cases h
theorem Bn{P:Int->Prop}{row s:YL}(e:wj P row)(h:jl row=O s):wj P s:=by unfold jl at h;split at h;rename_i a b;split at h;rename_i d;split at h;obtain rfl:=Zl h;intro x c;simp at c;obtain rfl:=Zl h;intro x c _;simp at c;subst c;exact e b zs (by rw[d.2];rfl);cases h;cases h
theorem NU{P:Int->Prop}{short:YI}(h:∀p∈short,9<=p):wj P (short.map (fun p=>(p,(0:Int)))):=by intro x c a;obtain⟨p,b,rfl⟩:=mem_map.1 c;rw[cO (Zf (h p b))]at a;cases a
theorem LA{P:Int->Prop}{r:YL->Option (YL)}(a:r∈kz){row s:YL}(b:wj P row)(h:r row=O s):wj P s:=by unfold kz at a;simp only[mem_cons,not_mem_nil,or_false]at a;rcases a with rfl|rfl|rfl|a;exact mo h;exact Be h;exact Bn b h;(repeat' rcases a with rfl|a) <;>(obtain⟨_,rfl⟩:=fM h;exact NU zs)
theorem BO{P:Int->Prop}(next:YL)(n:Nat)(row:YL)(b:wj P row):wj P (xb next n row):=by
 induction n generalizing row with
 |zero=>exact b
 |succ n i=>unfold xb;split;rename_i s size c;refine i _ (ry (fun x f=>b x (mem_of_mem_take f)) ?_);unfold ql at c;obtain⟨n,j,c⟩:=exists_of_findSome?_eq_some c;obtain⟨t,g,e⟩:=Option.map_eq_some_iff.1 c;simp only[Prod.mk.injEq]at e;obtain⟨rfl,rfl⟩:=e;unfold wg at g;obtain⟨r,h,a⟩:=exists_of_findSome?_eq_some g;unfold fj at a;split at a;rename_i k d;split at a;obtain rfl:=Zl a;exact LA h (fun x f=>b x (mem_of_mem_drop f)) d;cases a;cases a;exact b
theorem pN{P:Int->Prop}(row:YL)(d:wj P row)(k:Nat):wj P (xg row k):=by
 induction k with
 |zero=>intro x a;simp[xg]at a
 |succ k c=>unfold xg;split;rename_i x a;refine BO _ _ _ (ry c (fun y b=>?_));simp at b;subst b;exact d _ (Zd a);exact c
abbrev PrS:=YL×Nat
structure yl(p:PrS):Prop where
 ins:∀x∈p.1,((0<=x.1/\x.1<=32)/\(-9223372036854775808<=x.2/\x.2<=9223372036854775807))/\(zT x.1=Y->0<=x.2/\x.2<p.1.length)
 last:∀k x,p.1[k]? = O x->yE x.1=Y->k+1<p.1.length
 R:p.1.length<=5000
 entry:p.2<p.1.length
theorem yl.N{p:PrS}(h:yl p):bQ p.1.length p.1:=fun x a=>(h.ins x a).2
theorem yl.K{p:PrS}(h:yl p):∀x∈p.1,yu x:=fun x a=>⟨(h.ins x a).1.1,(h.ins x a).1.2⟩
theorem wR{l:YL}{en:Nat}:iE l l.length (zt l en):=ic l (kN l en) (dg l en l.length) l.length (Zc _)
def xA(row:YL):YL:=xg row row.length
def aR(p:PrS):PrS:=yw p.1.length p.2 ((zt p.1 p.2).map (fun b=>(b.1,xA b.2)))
def bN(p:PrS):PrS:=(OJ p.1,p.2)
def gT(p:PrS):PrS:=yw p.1.length p.2 ((zt p.1 p.2).map (ym (jm p.1 p.2)))
def nE(p:PrS):PrS:=yw p.1.length p.2 ((zt p.1 p.2).map xB)
def wM(p:PrS):PrS:=yw p.1.length p.2 ((zt p.1 p.2).map (fun b=>(b.1,xf b.2)))
def wU(p:PrS):PrS:=nE (gT (bN (aR p)))
theorem dC(f:Blo->Blo)(c:∀b,(f b).2.length<=b.2.length)(a:List Blo):((a.map f).flatMap (·.2)).length<=(a.flatMap (·.2)).length:=by
 induction a with
 |nil=>simp
 |cons b a d=>rw[map_cons,flatMap_cons,flatMap_cons,Zi,Zi];have:=c b;omega
theorem nh(f:Blo->Blo)(c:∀b,(f b).2.length<=b.2.length)(p:PrS):(yw p.1.length p.2 ((zt p.1 p.2).map f)).1.length<=p.1.length:=by rw[mJ];have:=dC f c (zt p.1 p.2);have a:=(wR (l:=p.1) (en:=p.2)).flat;rw[take_length]at a;rw[a]at this;exact this
theorem OE(p:PrS):(aR p).1.length<=p.1.length:=nh _ (fun b=>ij b.2 b.2.length) p
theorem OF(p:PrS):(gT p).1.length<=p.1.length:=nh _ (fun b=>by unfold ym;split<;>simp) p
theorem OG(p:PrS):(nE p).1.length<=p.1.length:=nh _ (fun b=>by unfold xB;split<;>simp) p
theorem SL(p:PrS):(wU p).1.length<=p.1.length:=by unfold wU;have d:=OG (gT (bN (aR p)));have c:=OF (bN (aR p));have b:(bN (aR p)).1.length=(aR p).1.length:=gU _ _;have a:=OE p;omega
structure Tz(p:PrS):Prop where
 p0:yl p
 p1:yl (aR p)
 p2:yl (bN (aR p))
 p3:yl (gT (bN (aR p)))
 p4:yl (wU p)
def aI:Nat->PrS->PrS
 |0,p=>p
 |n+1,p=>if(wU p).1.length=p.1.length then wU p else aI n (wU p)
def kM(bs:List Blo):Prop:=∀i b,bs[i]? = O b->b.1=((bs.take i).flatMap (·.2)).length
theorem tl{a:List Blo}{b:Blo}(h:kM a)(f:b.1=(a.flatMap (·.2)).length):kM (a++[b]):=by
 intro i c d;by_cases g:i<a.length;rw[Zu g]at d;rw[take_append_of_le_length zo];exact h i c d;have e:i=a.length:=by have:=(Zb.1 d).1;simp at this;omega
 subst e;simp at d;subst d;simp only[take_left'];exact f
theorem mG{a:List Blo}{b:Blo}(h:kM (a++[b])):kM a/\b.1=(a.flatMap (·.2)).length:=by refine⟨fun i c d=>?_,?_⟩;have e:=(Zb.1 d).1;have:=h i c (by rw[Zu e];exact d);rw[take_append_of_le_length zo]at this;exact this;have:=h a.length b zs;simpa using this
theorem AZ{a:List Blo}{x:Int×Int}(h:kM a):kM (kI a x):=by rcases Zz a with rfl|⟨t,c,rfl⟩;simpa [kI]using h;rw[concat_eq_append]at h ⊢;rw[kr];obtain⟨b,d⟩:=mG h;exact tl b d
theorem iY (l:YL) (beg:List Bool) (h0:beg.getD 0 Z=Y) (k:Nat) (hk:k≤l.length):kM (xv l beg k):=by
 induction k with
 |zero=>intro i b hb;simp[xv]at hb
 |succ k ih=>
  have ih:=ih zo;obtain⟨x,hx⟩:∃ x,l[k]? = O x:=⟨_,Za zo⟩;have e:xv l beg (k+1)=vB (xv l beg k) (beg.getD k Z) k x:=by rw[xv,hx]
  rw[e];unfold vB;refine AZ ?_;split;refine tl ih ?_;rw[(ic l beg h0 k zo).flat,length_take];simp only;omega;exact ih
theorem GI{d:List Blo}{x:Int×Int}{j:Nat}(h:∃b∈d,b.1=j):∃b∈kI d x,b.1=j:=by rcases Zz d with rfl|⟨t,c,rfl⟩;simp at h;rw[concat_eq_append]at h ⊢;rw[kr];obtain⟨b,e,rfl⟩:=h;rcases Zo.1 e with a|a;exact⟨b,by simp[a],rfl⟩;simp at a;subst a;exact⟨_,Zo.2 (Zf (mem_singleton.2 rfl)),rfl⟩
theorem Mm (l:YL) (beg:List Bool) (k j:Nat) (hk:k≤l.length) (hj:j<k) (hb:beg.getD j Z=Y):∃ b∈xv l beg k,b.1=j:=by
 induction k with
 |zero=>omega
 |succ k ih=>
  obtain⟨x,hx⟩:∃ x,l[k]? = O x:=⟨_,Za zo⟩;have e:xv l beg (k+1)=vB (xv l beg k) (beg.getD k Z) k x:=by rw[xv,hx]
  rw[e];unfold vB;refine GI ?_;by_cases hjk:j=k;subst hjk;rw[if_pos hb];exact⟨(j,[]),zs,rfl⟩;obtain⟨b,h1,h2⟩:=ih zo zo;split;exact⟨b,Zo.2 (Zg h1),h2⟩;exact⟨b,h1,h2⟩
theorem tt (bs cs:List Blo) (s:List Int×Int) (n:Nat) (hs:s.1.length=n) (hlow:∀ b∈bs,b.1<n) (hd:bs.Pairwise (fun a b=>a.1≠b.1)) (i:Nat) (b:Blo) (hb:bs[i]? = O b) (hc:cs=bs.take i) : (bs.foldl jo s).1[b.1]? = O (s.2+((cs.flatMap (·.2)).length:Nat)):=by
 subst hc;induction bs generalizing s i with
 |nil=>simp at hb
 |cons a bs ih=>
  rw[foldl_cons];have hd2:=pairwise_cons.1 hd;cases i with
  |zero=>
   simp at hb;subst hb;have keep:∀ (cs:List Blo) (t:List Int×Int) (v:Int),(∀ c∈cs,c.1≠a.1)→t.1[a.1]? = O v→(cs.foldl jo t).1[a.1]? = O v:=by
    intro cs;induction cs with
    |nil=>intro t v _ h;exact h
    |cons c cs ih2=>intro t v hne h;rw[foldl_cons];refine ih2 _ v (fun d hd=>hne d (by simp[hd])) ?_;simp only[jo];rw[getElem?_set_ne (hne c zs)];exact h
   refine keep bs _ _ (fun c hc=>(hd2.1 c hc).symm) ?_;simp only[jo];rw[getElem?_set_self (by rw[hs];exact hlow a zs)];simp
  |succ i=>have:=ih (jo s a) (by simp[jo,hs]) (fun c hc=>hlow c (by simp[hc])) hd2.2 i (by simpa using hb);rw[this];rw[take_succ_cons,flatMap_cons,Zi];simp only[jo];congr 1;omega
theorem jN(b:List Bool)(i j:Nat)(h:b.getD j Z=Y):(b.set i Y).getD j Z=Y:=by
 rw[Zj]at h ⊢;by_cases e:i=j;subst e;have a:i<b.length:=by refine Nat.lt_of_not_le (fun c=>?_);rw[getElem?_eq_none c]at h;simp at h
 rw[getElem?_set_self a];rfl;rw[getElem?_set_ne e];exact h
theorem dK(b:List Bool)(i:Nat)(h:i<b.length):(b.set i Y).getD i Z=Y:=by rw[Zj,getElem?_set_self h];rfl
theorem Ed(b:List Bool)(i:Nat)(x:Int×Int)(j:Nat)(h:b.getD j Z=Y):(jx b i x).getD j Z=Y:=by unfold jx;simp only;split<;>split;exact jN _ _ _ (jN _ _ _ h);exact jN _ _ _ h;exact jN _ _ _ h;exact h
theorem nM(l:YL)(en k m j:Nat)(a:k<=m)(h:(qp l en k).getD j Z=Y):(qp l en m).getD j Z=Y:=by
 induction m with
 |zero=>obtain rfl:k=0:=zo;exact h
 |succ m b=>by_cases e:k=m+1;subst e;exact h;have:=b zo;unfold qp;split;exact Ed _ _ _ _ this;exact this
theorem bx(l:YL)(en:Nat)(h:en<l.length):(kN l en).getD en Z=Y:=by refine nM l en 0 l.length en (Zq _) ?_;unfold qp;exact dK _ _ zp
theorem td(l:YL)(en:Nat)(x:Int×Int)(d:x∈l)(c:zT x.1=Y)(f:0<=x.2/\x.2<l.length):(kN l en).getD x.2.toNat Z=Y:=by
 obtain⟨k,a⟩:=getElem?_of_mem d;have b:=(Zb.1 a).1;refine nM l en (k+1) l.length _ zo ?_;have e:qp l en (k+1)=jx (qp l en k) k x:=by rw[qp,a]
 rw[e];unfold jx;simp only[c,if_true,true_or];refine jN _ _ _ (dK _ _ ?_);rw[cC];omega
theorem uK(l:YL)(en k:Nat)(x:Int×Int)(a:l[k]? = O x)(d:zT x.1=Y\/yE x.1=Z):(kN l en).getD (k+1) Z=Y:=by
 have c:=(Zb.1 a).1;refine nM l en (k+1) l.length _ zo ?_;have e:qp l en (k+1)=jx (qp l en k) k x:=by rw[qp,a]
 rw[e];unfold jx;simp only;have b:zT x.1=Y\/(x.1=1\/x.1=4\/x.1=5):=by rcases d with h|h;exact Zg h;refine Zf ?_;unfold yE at h;rw[Bool.not_eq_false']at h;exact of_decide_eq_true h
 rw[if_pos b];refine dK _ _ ?_;split;rw[length_set,cC];omega;rw[cC];omega
theorem dA(nums:YI)(a:List Blo):jS nums a a.length=(a.flatMap (·.2)).map (xD nums):=by
 unfold jS;rw[take_length];induction a with
 |nil=>rfl
 |cons b a c=>rw[flatMap_cons,flatMap_cons,map_append,c];rfl
theorem pY{c:List Blo}(h:kM c)(l:∀b∈c,b.2≠[]):c.Pairwise (fun a b=>a.1≠b.1):=by
 rw[pairwise_iff_getElem];intro i j f n m;have o:=h i c[i] (Za f);have p:=h j c[j] (Za n);have q:((c.take i).flatMap (·.2)).length<((c.take j).flatMap (·.2)).length:=by
  have e:c.take j=c.take i++(c.drop i).take (j-i):=by rw[<-take_add];congr 1;omega
  rw[e,flatMap_append,Zi];have g:(c.drop i).take (j-i)=c[i]::(c.drop (i+1)).take (j-i-1):=by rw[drop_eq_getElem_cons f];obtain⟨d,k⟩:∃d,j-i=d+1:=⟨j-i-1,zo⟩;rw[k,take_succ_cons];rfl
  rw[g,flatMap_cons,Zi];have:=length_pos_iff.2 (l c[i] (getElem_mem f));omega
 omega
def tL(bs cs:List Blo)(t:Int):Prop:=∃(i j:Nat)(b c:Blo),bs[i]? = O b/\(b.1:Int)=t/\i<=j/\cs[j]? = O c/\c.2≠[]
theorem Fh{l:YL}{g:List Blo}{f:Blo->Blo}(m:∀b,(f b).1=b.1)(u:kM g)(v:∀b∈g,b.2≠[])(w:∀b∈g,b.1<l.length){t:Int}(D:tL g (g.map f) t):0<=(yO (g.map f) l.length (g.map f).length).1.getD t.toNat 0/\(yO (g.map f) l.length (g.map f).length).1.getD t.toNat 0<(((g.map f).flatMap (·.2)).length:Nat):=by
 obtain⟨i,j,b,c,x,rfl,p,k,q⟩:=D;have n:(g.map f).Pairwise (fun a b=>a.1≠b.1):=by rw[pairwise_map];exact(pY u v).imp (fun h=>by rw[m,m];exact h)
 have o:(g.map f)[i]? = O (f b):=by rw[Zn,x];rfl
 have:=tt (g.map f) ((g.map f).take i) (replicate l.length 0,0) l.length zs (fun c k=>by
   obtain⟨d,y,rfl⟩:=mem_map.1 k
   rw[m]
   exact w d y) n i (f b) o rfl
 unfold yO;rw[take_length];rw[m]at this;rw[Zr,Zj,this];simp only[Option.getD_some];have B:(((g.map f).take i).flatMap (·.2)).length<((g.map f).flatMap (·.2)).length:=by
  have z:=(Zb.1 k).1;have e:g.map f=(g.map f).take j++c::(g.map f).drop (j+1):=by have r:=drop_eq_getElem_cons z;have s:=(Zb.1 k).2;rw[s]at r;rw[<-r,take_append_drop]
  have E:(((g.map f).take i).flatMap (·.2)).length<=(((g.map f).take j).flatMap (·.2)).length:=by have:=iL ((g.map f).take j) i;rw[take_take,Nat.min_eq_left p]at this;exact this
  have F:((g.map f).flatMap (·.2)).length=(((g.map f).take j).flatMap (·.2)).length+c.2.length+(((g.map f).drop (j+1)).flatMap (·.2)).length:=by
   conv=>lhs;rw[e]
   rw[flatMap_append,flatMap_cons,Zi,Zi];omega
  have:=length_pos_iff.2 q;omega
 omega
theorem Ck{l:YL}(h:∀y,l.getLast? = O y->yE y.1=Z):∀(k:Nat)(x:Int×Int),l[k]? = O x->yE x.1=Y->k+1<l.length:=by
 intro k x b a;have c:=(Zb.1 b).1;refine Nat.lt_of_le_of_ne c (fun e=>?_);have:l.getLast? = O x:=by rw[getLast?_eq_getElem?];rw[show l.length-1=k from zo];exact b
 rw[h x this]at a;cases a
theorem eB{l:YL}(h:∀(k:Nat)(x:Int×Int),l[k]? = O x->yE x.1=Y->k+1<l.length):∀y,l.getLast? = O y->yE y.1=Z:=by
 intro y a;rw[getLast?_eq_getElem?]at a;cases e:yE y.1 with
 |false=>rfl
 |true=>have b:=h _ _ a e;have c:=(Zb.1 a).1;omega
theorem lF(nums:YI)(x:Int×Int):(xD nums x).1=x.1:=by unfold xD;split<;>rfl
theorem Bw{p:PrS}(G:yl p){f:Blo->Blo}(D:∀b,(f b).1=b.1)(s:∀b,(f b).2.length<=b.2.length)(j:∀b∈zt p.1 p.2,∀y∈(f b).2,yu y)(u:∀b∈zt p.1 p.2,∀y∈(f b).2,zT y.1=Y->tL (zt p.1 p.2) ((zt p.1 p.2).map f) y.2)(q:tL (zt p.1 p.2) ((zt p.1 p.2).map f) p.2)(i:∀y,(((zt p.1 p.2).map f).flatMap (·.2)).getLast? = O y->yE y.1=Z):yl (yw p.1.length p.2 ((zt p.1 p.2).map f)):=by
 have d:=wR (l:=p.1) (en:=p.2);have r:kM (zt p.1 p.2):=iY p.1 (kN p.1 p.2) (dg p.1 p.2 p.1.length) p.1.length (Zc _);have num:=fun {t:Int} (K:tL (zt p.1 p.2) ((zt p.1 p.2).map f) t)=>Fh (l:=p.1) D r d.full d.low K;have g:=mJ p.1.length p.2 ((zt p.1 p.2).map f);have E:=nh f s p;have H:=G.R;have k:(yw p.1.length p.2 ((zt p.1 p.2).map f)).1=(((zt p.1 p.2).map f).flatMap (·.2)).map (xD (yO ((zt p.1 p.2).map f) p.1.length ((zt p.1 p.2).map f).length).1):=dA _ _;refine⟨fun x w=>?_,?_,zo,?_⟩;rw[k]at w;obtain⟨y,o,rfl⟩:=mem_map.1 w;obtain⟨c,B,m⟩:=mem_flatMap.1 o;obtain⟨b,v,rfl⟩:=mem_map.1 B;have a:=j b v y m;rw[lF];by_cases n:zT y.1=Y;have F:=num (u b v y m n);have e:(xD (yO ((zt p.1 p.2).map f) p.1.length ((zt p.1 p.2).map f).length).1 y).2=(yO ((zt p.1 p.2).map f) p.1.length ((zt p.1 p.2).map f).length).1.getD y.2.toNat 0:=by unfold xD;rw[if_pos n]
 rw[e];exact⟨⟨a.1,zo⟩,fun _=>zo⟩;have e:xD (yO ((zt p.1 p.2).map f) p.1.length ((zt p.1 p.2).map f).length).1 y=y:=by unfold xD;rw[if_neg n]
 rw[e];exact⟨⟨a.1,a.2⟩,fun h=>absurd h n⟩;refine Ck (fun y o=>?_);rw[k,getLast?_map]at o;obtain⟨z,L,rfl⟩:=Option.map_eq_some_iff.1 o;rw[lF];exact i z L;have:=num q;rw[Zr]at this;unfold yw at g ⊢;simp only at g ⊢;omega
structure fA(l:YL)(en:Nat)(r:List Bool)(t:YI):Prop where
 len:r.length=l.length
 low:∀y∈t,0<=y/\y<(l.length:Int)
 N:∀k x,l[k]? = O x->r.getD k Z=Y->zT x.1=Y->r.getD x.2.toNat Z=Y\/x.2∈t
 goes:∀k x,l[k]? = O x->r.getD k Z=Y->yE x.1=Y->r.getD (k+1) Z=Y\/((k+1:Nat):Int)∈t
 entry:r.getD en Z=Y\/(en:Int)∈t
theorem fA.step{l:YL}{en:Nat}{r:List Bool}{t:YI}{a:Int}(w:bQ l.length l)(v:∀k x,l[k]? = O x->yE x.1=Y->k+1<l.length)(h:fA l en r (t++[a])):fA l en (xN l r t a).1 (xN l r t a).2:=by
 have s:=h.low a zs;have f:=FK (r:=r) (t:=t) w v s (fun y p=>h.low y (Zo.2 (Zg p)));have d:=(oz (t:=t) s h.len).2;have o:a.toNat<r.length:=by rw[h.len];omega
 by_cases m:r.getD a.toNat Z=Y;have e:xN l r t a=(r,t):=by unfold xN;rw[if_pos m]
 rw[e]at f d ⊢;refine⟨d,f,fun k x i g j=>?_,fun k x i g j=>?_,?_⟩;rcases h.N k x i g j with b|b;exact Zg b;rcases Zo.1 b with c|c;exact Zf c;simp at c;rw[c];exact Zg m;rcases h.goes k x i g j with b|b;exact Zg b;rcases Zo.1 b with c|c;exact Zf c;simp at c;left;rw[<-c]at m;simpa using m;rcases h.entry with b|b;exact Zg b;rcases Zo.1 b with c|c;exact Zf c;simp at c;left;rw[<-c]at m;simpa using m;obtain⟨z,q⟩:∃z,l[a.toNat]? = O z:=⟨_,Za zo⟩;have e:xN l r t a=(r.set a.toNat Y,t++(if zT z.1=Y then [z.2]else [])++(if yE z.1=Y then [a+1]else [])):=by unfold xN;rw[if_neg m,q]
 rw[e]at f d ⊢;simp only at f d ⊢;have old:∀{y:Int},y∈t++[a]->(r.set a.toNat Y).getD y.toNat Z=Y\/y∈t++(if zT z.1=Y then [z.2]else [])++(if yE z.1=Y then [a+1]else []):=by intro y p;rcases Zo.1 p with c|c;exact Zf (by simp[c]);simp at c;rw[c];exact Zg (dK _ _ o)
 have n:∀{k:Nat},(r.set a.toNat Y).getD k Z=Y->k=a.toNat\/r.getD k Z=Y:=by intro k g;by_cases e:k=a.toNat;exact Zg e;rw[Zj,getElem?_set_ne (fun u=>e u.symm),<-Zj]at g;exact Zf g
 refine⟨d,f,fun k x i g j=>?_,fun k x i g j=>?_,?_⟩;rcases n g with rfl|g;rw[q]at i;obtain rfl:=Zl i;exact Zf (by simp[j]);rcases h.N k x i g j with b|b;exact Zg (jN _ _ _ b);exact old b;rcases n g with rfl|g;rw[q]at i;obtain rfl:=Zl i;refine Zf ?_;have:((a.toNat+1:Nat):Int)=a+1:=zo;rw[this];simp[j];rcases h.goes k x i g j with b|b;exact Zg (jN _ _ _ b);have:=old b;rwa [Zr]at this;rcases h.entry with b|b;exact Zg (jN _ _ _ b);have:=old b;rwa [Zr]at this
theorem Iu {l:YL} {en:Nat} (hn:bQ l.length l) (hg:∀ k x,l[k]? = O x→yE x.1=Y→k+1<l.length) (n:Nat):∀ (r:List Bool) (t:YI),fA l en r t→bL r t≤n→fA l en (dr l n r t) []:=by
 induction n with
 |zero=>
  intro r t h hm;have:t=[]:=by unfold bL at hm;exact length_eq_zero_iff.1 zo
  subst this;exact h
 |succ n ih=>intro r t h hm;unfold dr;rcases Zz t with rfl|⟨u,a,rfl⟩;exact h;rw[concat_eq_append]at h hm ⊢;simp only[getLast?_append,getLast?_singleton,Option.some_or,Zx];have hl:=oz (t:=u) (h.low a zs) h.len;exact ih _ _ (h.step hn hg) zo
theorem dF{p:PrS}(b:yl p):fA p.1 p.2 (jm p.1 p.2) []:=by refine Iu b.N b.last _ _ _ ⟨zs,fun y c=>?_,fun k x _ a=>?_,fun k x _ a=>?_,Zf zs⟩ ?_;simp at c;have:=b.entry;omega;exfalso;rw[Zj,getElem?_replicate]at a;split at a<;>simp at a;exfalso;rw[Zj,getElem?_replicate]at a;split at a<;>simp at a;unfold bL;simp
theorem GO (l:YL) (beg:List Bool) (h0:beg.getD 0 Z=Y) (k:Nat) (hk:k≤l.length):∀ b∈xv l beg k,∀ m,0<m→m<b.2.length→beg.getD (b.1+m) Z=Z:=by
 induction k with
 |zero=>intro b hb;simp[xv]at hb
 |succ k ih=>
  have ih:=ih zo;obtain⟨x,hx⟩:∃ x,l[k]? = O x:=⟨_,Za zo⟩;have e:xv l beg (k+1)=vB (xv l beg k) (beg.getD k Z) k x:=by rw[xv,hx]
  rw[e];unfold vB;have fine:=ic l beg h0 k zo;have firsts:=iY l beg h0 k zo;cases hb:beg.getD k Z with
  |true=>rw[if_pos rfl,kr];intro b hb m h1 h2;rcases Zo.1 hb with h|h;exact ih b h m h1 h2;simp at h;subst h;simp at h2;omega
  |false=>rw[if_neg zs];rcases Zz (xv l beg k) with h|⟨t,c,h⟩;rw[h];intro b hb;simp[kI]at hb;rw[concat_eq_append]at h;rw[h]at ih fine firsts ⊢;rw[kr];intro b hb2 m h1 h2;rcases Zo.1 hb2 with h3|h3;exact ih b (by simp[h3]) m h1 h2;simp at h3;subst h3;simp at h2 ⊢;by_cases hm:m<c.2.length;simpa using ih c zs m h1 hm;have hc:=(mG firsts).2;have hfl:=congrArg length fine.flat;rw[flatMap_append,Zi,length_take]at hfl;simp only[flatMap_cons,flatMap_nil,append_nil]at hfl;have:c.1+m=k:=zo;rw[this];simpa using hb
theorem jY{l:YL}{c:List Blo}(a:c.flatMap (·.2)=l)(h:kM c){i:Nat}{b:Blo}(d:c[i]? = O b){m:Nat}(k:m<b.2.length):l[b.1+m]? = b.2[m]?:=by
 have j:=(Zb.1 d).1;have e:c=c.take i++b::c.drop (i+1):=by have f:=drop_eq_getElem_cons j;have g:=(Zb.1 d).2;rw[g]at f;rw[<-f,take_append_drop]
 rw[<-a];conv=>lhs;rw[e]
 rw[flatMap_append,flatMap_cons,h i b d,Zw zo,Zu zo];congr 1;omega
structure nG(p:PrS)(bs:List Blo):Prop where
  flat:bs.flatMap (·.2)=p.1
  firsts:kM bs
  full:∀b∈bs,b.2≠[]
  low:∀b∈bs,b.1<p.1.length
  some:bs≠[]
  has:∀j,j<p.1.length->(kN p.1 p.2).getD j Z=Y->∃b∈bs,b.1=j
  inner:∀b∈bs,∀m,0<m->m<b.2.length->(kN p.1 p.2).getD (b.1+m) Z=Z
theorem xF{p:PrS}(e:yl p):nG p (zt p.1 p.2):=by have b:=dg p.1 p.2 p.1.length;have a:=wR (l:=p.1) (en:=p.2);have he:=e.entry;exact⟨by have:=a.flat;rwa [take_length]at this,iY p.1 _ b p.1.length (Zc _),a.full,a.low,a.some zo,fun j d c=>Mm p.1 _ p.1.length j (Zc _) d c,GO p.1 _ b p.1.length (Zc _)⟩
def iV(l:YL)(t:Int):Prop:=∃z∈l,zT z.1=Y/\z.2=t
theorem qF{p:PrS}(c:yl p){t:Int}(d:iV p.1 t):0<=t/\t.toNat<p.1.length/\(kN p.1 p.2).getD t.toNat Z=Y:=by obtain⟨z,b,a,rfl⟩:=d;have:=(c.ins z b).2 a;exact⟨this.1,zo,td p.1 p.2 z b a this⟩
theorem eE{p:PrS}{d:List Blo}(k:nG p d){f:Blo->Blo}{c:Blo}(h:(d.map f).getLast? = O c)(g:c.2≠[]){t:Int}(o:0<=t)(n:t.toNat<p.1.length)(a:(kN p.1 p.2).getD t.toNat Z=Y):tL d (d.map f) t:=by obtain⟨b,e,l⟩:=k.has t.toNat n a;obtain⟨i,j⟩:=getElem?_of_mem e;have m:=(Zb.1 j).1;rw[getLast?_eq_getElem?]at h;exact⟨i,_,b,c,j,zo,zp,h,g⟩
theorem wC{cs:List Blo}{c:Blo}(a:cs.getLast? = O c)(b:c.2≠[]):(cs.flatMap (·.2)).getLast? = c.2.getLast?:=by
 rcases Zz cs with rfl|⟨t,d,rfl⟩;simp at a;rw[concat_eq_append]at a ⊢;simp at a;subst a;rw[flatMap_append,flatMap_singleton,getLast?_append];cases h:d.2.getLast? with
 |none=>rw[getLast?_eq_none_iff]at h;exact absurd h b
 |some y=>rfl
theorem OH{p:PrS}(k:yl p):yl (nE p):=by
 have d:=xF k;have n:∀b y,y∈(xB b).2->y∈b.2:=by intro b y a;unfold xB at a;split at a;exact dropLast_subset _ a;exact a
 obtain⟨t,c,q⟩:∃t c,zt p.1 p.2=t++[c]:=by rcases Zz (zt p.1 p.2)with h|⟨t,c,h⟩;exact absurd h d.some;exact⟨t,c,by rw[h,concat_eq_append]⟩
 have g:c∈zt p.1 p.2:=by rw[q];simp
 have m:(zt p.1 p.2).getLast? = O c:=by rw[q];simp
 have s:c.1+c.2.length=p.1.length:=by have l:=d.firsts;have o:=congrArg length d.flat;rw[q]at l o;rw[(mG l).2,<-o,flatMap_append,Zi];simp
 have i:c.2.getLast? = p.1.getLast?:=by rw[<-d.flat];exact(wC m (d.full c g)).symm
 have r:xB c=c:=by
  unfold xB;rw[if_neg];intro h;have v:=mem_of_getLast? h;have l:(1,((c.1+c.2.length:Nat):Int))∈p.1:=by rw[<-d.flat];exact mem_flatMap.2 ⟨c,g,v⟩
  have:=(k.ins _ l).2 rfl;simp only at this;omega
 have f:((zt p.1 p.2).map xB).getLast? = O c:=by rw[getLast?_map,m,Option.map_some,r]
 have j:∀b∈zt p.1 p.2,∀y∈(xB b).2,y∈p.1:=fun b e y a=>by
   rw[<-d.flat]
   exact mem_flatMap.2 ⟨b,e,n b y a⟩
 refine Bw k (fun b=>by unfold xB;split<;>rfl) (fun b=>by unfold xB;split<;>simp) (fun b e y a=>k.K y (j b e y a)) (fun b e y a w=>?_) ?_ ?_;obtain⟨l,o,u⟩:=qF k ⟨y,j b e y a,w,rfl⟩;exact eE d f (d.full c g) l o u;have he:=k.entry;exact eE d f (d.full c g) zo (by rw[Zr];exact he) (by rw[Zr];exact bx p.1 p.2 he);intro y a;rw[wC f (d.full c g),i]at a;exact eB k.last y a
theorem vx {p:PrS} (hp:yl p) {bs:List Blo} (hb:nG p bs) {i:Nat} {b:Blo} (hi:bs[i]? = O b) (hr:(jm p.1 p.2).getD b.1 Z=Y) (m:Nat) (hm:m<b.2.length):(jm p.1 p.2).getD (b.1+m) Z=Y:=by
 have inv:=dF hp;induction m with
 |zero=>exact hr
 |succ m ih=>
  have ih:=ih zo;have e:=jY hb.flat hb.firsts hi (m:=m) zo;obtain⟨x,hx⟩:∃ x,b.2[m]? = O x:=⟨_,Za zo⟩;rw[hx]at e;have hin:=hb.inner b (Zd hi) (m+1) zo hm;have hg:yE x.1=Y:=by
   cases hg:yE x.1 with
   |true=>rfl
   |false=>have:=uK p.1 p.2 (b.1+m) x e (Zf hg);rw[show b.1+m+1=b.1+(m+1) from zo,hin]at this;cases this
  rcases inv.goes _ _ e ih hg with h|h;exact h;simp at h
theorem gC{r:List Bool}{b:Blo}{y:Int×Int}(h:y∈(ym r b).2):r.getD b.1 Z=Y/\y∈b.2:=by
 unfold ym at h;split at h;next a=>exact⟨a,h⟩
 simp at h
theorem ru{p:PrS}{d:List Blo}(f:nG p d){r:List Bool}{t:Int}(k:0<=t)(h:t.toNat<p.1.length)(c:(kN p.1 p.2).getD t.toNat Z=Y)(j:r.getD t.toNat Z=Y):tL d (d.map (ym r)) t:=by obtain⟨b,a,e⟩:=f.has t.toNat h c;obtain⟨i,g⟩:=getElem?_of_mem a;refine⟨i,i,b,ym r b,g,zo,Zc _,by rw[Zn,g];rfl,?_⟩;unfold ym;rw[e,if_pos j];exact f.full b a
theorem EU {cs:List Blo} {y:Int×Int} (h:(cs.flatMap (·.2)).getLast? = O y):∃ (i:Nat) (c:Blo),cs[i]? = O c∧c.2.getLast? = O y∧∀ (j:Nat) (d:Blo),i<j→cs[j]? = O d→d.2=[]:=by
 generalize hn:cs.length=n;induction n generalizing cs with
 |zero=>have:=length_eq_zero_iff.1 hn;subst this;simp at h
 |succ n ih=>
  rcases Zz cs with rfl|⟨t,d,rfl⟩;simp at h;rw[concat_eq_append]at h hn ⊢;by_cases hd:d.2=[];have h2:(t.flatMap (·.2)).getLast? = O y:=by rw[flatMap_append,flatMap_singleton,hd,append_nil]at h;exact h
  obtain⟨i,c,h3,h4,h5⟩:=ih h2 (by simpa using hn);have hi:=(Zb.1 h3).1;refine⟨i,c,by rw[Zu hi];exact h3,h4,fun j e hj he=>?_⟩;by_cases hjt:j<t.length;rw[Zu hjt]at he;exact h5 j e hj he;have:j=t.length:=by have:=(Zb.1 he).1;simp at this;omega
  subst this;simp at he;subst he;exact hd;refine⟨t.length,d,zs,?_,fun j e hj he=>?_⟩;rw[wC (c:=d) zs hd]at h;exact h;have:=(Zb.1 he).1;simp at this;omega
theorem CM {p:PrS} (hp:yl p):yl (gT p):=by
 have hb:=xF hp;have inv:=dF hp
 have hmem:∀ b∈zt p.1 p.2,∀ y∈(ym (jm p.1 p.2) b).2,y∈p.1:=fun b hbm y hy=>by
   rw[← hb.flat]
   exact mem_flatMap.2 ⟨b,hbm,(gC hy).2⟩
 refine Bw hp (fun b=>by unfold ym;split<;>rfl) (fun b=>by unfold ym;split<;>simp) (fun b hbm y hy=>hp.K y (hmem b hbm y hy)) (fun b hbm y hy hn=>?_) ?_ ?_;obtain⟨h1,h2,h3⟩:=qF hp ⟨y,hmem b hbm y hy,hn,rfl⟩;obtain⟨hr,hy2⟩:=gC hy;obtain⟨i,hi⟩:=getElem?_of_mem hbm;obtain⟨m,hm⟩:=getElem?_of_mem hy2;have hml:=(Zb.1 hm).1;have ha:=vx hp hb hi hr m hml;have e:=jY hb.flat hb.firsts hi hml;rw[hm]at e;rcases inv.N _ _ e ha hn with h|h;exact ru hb h1 h2 h3 h;simp at h;have he:=hp.entry;rcases inv.entry with h|h;exact ru hb zo (by rw[Zr];exact he) (by rw[Zr];exact bx p.1 p.2 he) (by rw[Zr];exact h);simp at h;intro y hy;obtain⟨i,c,h1,h2,h3⟩:=EU hy;rw[Zn]at h1;obtain⟨b,hi,rfl⟩:=Option.map_eq_some_iff.1 h1;have hym:=mem_of_getLast? h2;obtain⟨hr,_⟩:=gC hym;have eb:ym (jm p.1 p.2) b=b:=by unfold ym;rw[if_pos hr]
 rw[eb]at h2;cases hg:yE y.1 with
 |false=>rfl
 |true=>
  exfalso;have hfull:=length_pos_iff.2 (hb.full b (Zd hi));rw[getLast?_eq_getElem?]at h2;have ha:=vx hp hb hi hr (b.2.length-1) zo;have e:=jY hb.flat hb.firsts hi (m:=b.2.length-1) zo;rw[h2]at e;have hk:=hp.last _ _ e hg;rcases inv.goes _ _ e ha hg with h|h;have hil:=(Zb.1 hi).1;have hnx:i+1<(zt p.1 p.2).length:=by
   refine Nat.lt_of_le_of_ne hil (fun en=>?_);have hfl:=congrArg length hb.flat;have e2:zt p.1 p.2=(zt p.1 p.2).take i++[b]:=by have e1:=drop_eq_getElem_cons hil;rw[(Zb.1 hi).2,drop_of_length_le (by omega:(zt p.1 p.2).length≤i+1)]at e1;rw[← e1,take_append_drop]
   rw[e2,flatMap_append,Zi,← hb.firsts i b hi,flatMap_singleton]at hfl;omega
  have hd:=Za hnx;have hfd:=hb.firsts (i+1) _ hd;rw[take_add_one,hi,flatMap_append,Zi,← hb.firsts i b hi]at hfd;simp only[Option.toList_some,flatMap_singleton]at hfd;have hempty:=h3 (i+1) (ym (jm p.1 p.2) (zt p.1 p.2)[i+1]) zo (by rw[Zn,hd];rfl);have e3:ym (jm p.1 p.2) (zt p.1 p.2)[i+1]=(zt p.1 p.2)[i+1]:=by unfold ym;rw[if_pos];rw[hfd];rw[show b.1+(b.2.length-1)+1=b.1+b.2.length from zo]at h;exact h
  rw[e3]at hempty;exact hb.full _ (getElem_mem hnx) hempty;simp at h
theorem LJ{l:YL}{en:Nat}(d:yl (l,en))(i:Nat):yl (jg l i,en):=by
 have u:=tF l i;have p:=AJ d.N i;have j:(∀x∈jg l i,(0<=x.1/\x.1<=32)/\(-9223372036854775808<=x.2/\x.2<=9223372036854775807))/\(∀(k:Nat)(x:Int×Int),(jg l i)[k]? = O x->yE x.1=Y->∃y,l[k]? = O y/\yE y.1=Y):=by
  have w:∀x∈l,x.1=1->0<=x.2/\x.2<l.length:=fun x a e=>(d.ins x a).2 (by rw[e];rfl);unfold jg;split;exact⟨fun x a=>(d.ins x a).1,fun k x a f=>⟨x,a,f⟩⟩;rename_i x a;split;rename_i q;have h:=Zd a;have f:=tW w l.length x.2 ((d.ins x h).2 q);have r:=d.R;simp only at r;have n:∀y∈l.set i (x.1,jd l l.length x.2),(0<=y.1/\y.1<=32)/\(-9223372036854775808<=y.2/\y.2<=9223372036854775807):=by intro y c;rcases mem_or_eq_of_mem_set c with m|rfl;exact(d.ins y m).1;exact⟨(d.ins x h).1.1,by simp only;omega⟩
  have m:∀(k:Nat)(y:Int×Int),(l.set i (x.1,jd l l.length x.2))[k]? = O y->yE y.1=Y->∃z,l[k]? = O z/\yE z.1=Y:=by intro k y c b;by_cases e:i=k;subst e;rw[getElem?_set_self (Zb.1 a).1]at c;obtain rfl:=Zl c;exact⟨x,a,b⟩;rw[getElem?_set_ne e]at c;exact⟨y,c,b⟩
  simp only;split;rename_i he;have g:(jd l l.length x.2).toNat<(l.set i (x.1,jd l l.length x.2)).length:=by rw[length_set];omega
  have o:(l.set i (x.1,jd l l.length x.2)).getD (jd l l.length x.2).toNat (0,0)∈l.set i (x.1,jd l l.length x.2):=by rw[Zj,Za g];exact getElem_mem g
  generalize (l.set i (x.1,jd l l.length x.2)).getD (jd l l.length x.2).toNat (0,0)=e at *;refine⟨fun y c=>?_,fun k y c b=>?_⟩;rcases mem_or_eq_of_mem_set c with v|rfl;exact n y v;exact n _ o;by_cases t:i=k;subst t;rw[getElem?_set_self (by rw[length_set];exact(Zb.1 a).1)]at c;obtain rfl:=Zl c;exfalso;rcases he.2 with s|s<;>(rw[s]at b;revert b;decide);rw[getElem?_set_ne t]at c;exact m k y c b;exact⟨n,m⟩;exact⟨fun x a=>(d.ins x a).1,fun k x a f=>⟨x,a,f⟩⟩
 have B:=d.R;have he:=d.entry;simp only at B he;refine⟨fun x a=>⟨j.1 x a,fun q=>?_⟩,fun k x a f=>?_,by simp only;omega,by simp only;omega⟩;have:=p x a q;simp only at this ⊢;omega;obtain⟨y,c,b⟩:=j.2 k x a f;have:=d.last k y c b;simp only at this ⊢;omega
theorem rP{p:PrS}(a:yl p):yl (bN p):=by
 have:∀k,yl (vg p.1 k,p.2):=by
  intro k;induction k with
  |zero=>exact a
  |succ k b=>exact LJ b k
 exact this _
theorem rj{op:Int}(h:op=0\/op=2\/9<=op):yE op=Y:=by unfold yE;have:¬(op=1\/op=4\/op=5):=zo;rw[decide_eq_false this];rfl
theorem Fi{a b j o:Int}(h:wE a b=O (j,o)):9<=b:=by unfold wE at h;split at h;omega;split at h;omega;split at h;cases h;split at h;omega;cases h
theorem Ok{r:YL->Option (YL)}(i:r∈kz){row s:YL}(h:r row=O s){x:Int×Int}(f:row.getLast? = O x):yE x.1=Y:=by
 unfold kz at i;simp only[mem_cons,not_mem_nil,or_false]at i;rcases i with rfl|rfl|rfl|i;unfold yH at h;split at h;cases h;rename_i m;have g:row.all kL=Y:=by
  cases e:row.all kL with
  |true=>rfl
  |false=>exact absurd (Zf e) m
 have:=all_eq_true.1 g x (mem_of_getLast? f);unfold kL at this;have:=of_decide_eq_true this;exact rj zo;unfold qN at h;split at h;rename_i a b c d;split at h;split at h;rename_i j o l;simp at f;subst f;exact rj (Zf (Zf (Fi l)));cases h;cases h;cases h;unfold jl at h;split at h;rename_i a b;split at h;rename_i k;simp at f;subst f;exact rj (Zf (Zg k.2));cases h;cases h;(repeat' rcases i with rfl|i) <;>(obtain⟨rfl,_⟩:=fM h;simp at f;subst f;rfl)
theorem DP {row next:YL} {x:Int×Int} (hx:row.getLast? = O x) (hg:yE x.1=Z):ql row next=X:=by
 cases h:ql row next with
 |none=>rfl
 |some q=>
  obtain⟨s,size⟩:=q;exfalso;have hs:=bM h;unfold ql at h;obtain⟨n,hn,hs2⟩:=exists_of_findSome?_eq_some h;obtain⟨t,ht,e⟩:=Option.map_eq_some_iff.1 hs2;simp only[Prod.mk.injEq]at e;obtain⟨rfl,rfl⟩:=e;unfold wg at ht;obtain⟨r,hr,hq⟩:=exists_of_findSome?_eq_some ht;unfold fj at hq;split at hq;rename_i s' hs';have hl:(row.drop (row.length-n)).getLast? = O x:=by rw[getLast?_drop,if_neg zo];exact hx
  rw[Ok hr hs' hl]at hg;cases hg;cases hq
theorem DO{next:YL}(n:Nat){row:YL}{x:Int×Int}(b:row.getLast? = O x)(a:yE x.1=Z):xb next n row=row:=by
 cases n with
 |zero=>rfl
 |succ n=>unfold xb;rw[DP b a]
theorem EV{row:YL}{x:Int×Int}(a:row.getLast? = O x)(b:yE x.1=Z):(xA row).getLast? = O x:=by unfold xA;rw[getLast?_eq_getElem?]at a;have d:=(Zb.1 a).1;obtain⟨k,c⟩:∃k,row.length=k+1:=⟨row.length-1,zo⟩;rw[c]at a ⊢;rw[Nat.add_sub_cancel]at a;unfold xg;rw[a];simp only;rw[DO _ (x:=x) zs b];simp
theorem fJ(l row:YL)(h:∀x∈row,x∈l):∀y∈xA row,zT y.1=Y->iV l y.2:=pN (P:=iV l) row (fun x b a=>⟨x,h x b,a,rfl⟩) row.length
theorem mx{p:PrS}(m:yl p):yl (aR p):=by
 have j:=xF m;obtain⟨t,c,r⟩:∃t c,zt p.1 p.2=t++[c]:=by rcases Zz (zt p.1 p.2)with h|⟨t,c,h⟩;exact absurd h j.some;exact⟨t,c,by rw[h,concat_eq_append]⟩
 have o:c∈zt p.1 p.2:=by rw[r];simp
 have n:(zt p.1 p.2).getLast? = O c:=by rw[r];simp
 have f:c.2.getLast? = p.1.getLast?:=by rw[<-j.flat];exact(wC n (j.full c o)).symm
 obtain⟨z,s⟩:∃z,c.2.getLast? = O z:=by
  cases e:c.2.getLast? with
  |none=>rw[getLast?_eq_none_iff]at e;exact absurd e (j.full c o)
  |some z=>exact⟨z,rfl⟩
 have q:yE z.1=Z:=eB m.last z (by rw[<-f];exact s);have k:=EV s q;have d:((zt p.1 p.2).map (fun b=>(b.1,xA b.2))).getLast? = O (c.1,xA c.2):=by rw[getLast?_map,n];rfl
 have l:(c.1,xA c.2).2≠[]:=by intro e;simp only at e;rw[e]at k;simp at k
 have g:∀b∈zt p.1 p.2,∀y∈b.2,y∈p.1:=fun b a y i=>by
   rw[<-j.flat]
   exact mem_flatMap.2 ⟨b,a,i⟩
 refine Bw m (fun _=>rfl) (fun b=>ij b.2 b.2.length) (fun b a y i=>pO b.2 (fun x D=>m.K x (g b a x D)) b.2.length y i) (fun b a y i B=>?_) ?_ ?_;obtain⟨u,v,w⟩:=qF m (fJ p.1 b.2 (g b a) y i B);exact eE j d l u v w;have he:=m.entry;exact eE j d l zo (by rw[Zr];exact he) (by rw[Zr];exact bx p.1 p.2 he);intro y i;rw[wC d l,k]at i;obtain rfl:=Zl i;exact q
theorem fR{p:PrS}(a:yl p):Tz p:=⟨a,mx a,rP (mx a),CM (rP (mx a)),OH (CM (rP (mx a)))⟩
theorem LL(op:Nat)(h:40<=op)(b:op<60):∀p∈yj op,yE p=Y:=by have:∀k:Fin 20,∀p∈yj ((k.val+40:Nat):Int),yE p=Y:=zd;have a:=this ⟨op-40,zo⟩;have e:op-40+40=op:=zo;simp only[e]at a;exact a
theorem rD {n:Int} {row:YL} {ps:YI} {v:Int} (h:kh n row ps=O v):∀ (j:Nat) (p:Int),ps[j]? = O p→∃ x:Int×Int,row[j]? = O x∧x.1=p:=by
 induction ps generalizing n row with
 |nil=>intro j p hj;simp at hj
 |cons q ps ih=>
  cases row with
  |nil=>cases h
  |cons x r=>
   unfold kh at h;split at h;rename_i hx;intro j p hj;cases j with
   |zero=>simp at hj;exact⟨x,rfl,by rw[hx,hj]⟩
   |succ j=>exact ih h j p (by simpa using hj)
   cases h
theorem QJ {n:Int} {row:YL} {ps:YI} {v:Int} (hn:inI n) (hr:∀ x∈row,inI x.2) (h:kh n row ps=O v):inI v:=by
 induction ps generalizing n row with
 |nil=>unfold kh at h;obtain rfl:=Zl h;exact hn
 |cons q ps ih=>
  cases row with
  |nil=>cases h
  |cons x r=>unfold kh at h;split at h;refine ih ?_ (fun y hy=>hr y (by simp[hy])) h;split;exact hr x zs;exact hn;cases h
theorem CA{row:YL}{p:Pc}(h:p∈xc row)(g:∀x∈row,inI x.2):(40<=p.1/\p.1<=59)/\inI p.2.1/\∀j:Nat,j<p.2.2.toNat->∃x:Int×Int,row[j]? = O x/\yE x.1=Y:=by unfold xc qA at h;obtain⟨op,b,he⟩:=mem_filterMap.1 h;obtain⟨i,c,rfl⟩:=mem_map.1 b;have c:=mem_range.1 c;unfold bW at he;obtain⟨n,d,rfl⟩:=Option.map_eq_some_iff.1 he;refine⟨by simp only;omega,QJ qy g d,fun j a=>?_⟩;simp only[Zr]at a;have f:=Za a;obtain⟨x,k,e⟩:=rD d j _ f;refine⟨x,k,?_⟩;rw[e];exact LL (i+40) zo zo _ (getElem_mem a)
theorem GN (x:Int×Int) (r:YL) (t:List (Pc×Int)) (k:Nat):(xK x r t k).1=(x.1,x.2,1)∨(xK x r t k).1∈xc (x :: r):=by
 induction k with
 |zero=>exact Zg rfl
 |succ k ih=>
  cases e:(xc (x :: r))[k]? with
  |none=>
   have:xK x r t (k+1)=xK x r t k:=by unfold xK;rw[take_add_one,e];simp
   rw[this];exact ih
  |some p=>rw[gg e];unfold kJ;split;exact Zf (Zd e);exact ih
theorem TH (row:YL) (i:Nat) (x:Int×Int) (h:row[i]? = O x):∃ b,(few row)[i]? = O b∧(b.1=(x.1,x.2,1)∨b.1∈xc (row.drop i)):=by
 induction row generalizing i with
 |nil=>simp at h
 |cons y r ih=>
  cases i with
  |zero=>simp at h;subst h;exact⟨_,rfl,GN y r (few r) _⟩
  |succ i=>obtain⟨b,h1,h2⟩:=ih i (by simpa using h);exact⟨b,by unfold few;simpa using h1,by simpa using h2⟩
theorem nu{row:YL}{i n:Nat}{x:Int×Int}(h:row[i]? = O x):∃p:Pc,((few row).map Prod.fst)[i]? = O p/\xp ((few row).map Prod.fst) (n+1) i=(p.1,p.2.1)::xp ((few row).map Prod.fst) n (i+p.2.2.toNat)/\(p=(x.1,x.2,1)\/p∈xc (row.drop i)):=by obtain⟨b,a,c⟩:=TH row i x h;refine⟨b.1,by rw[Zn,a];rfl,?_,c⟩;rw[xp];rw[Zn,a];rfl
theorem ow (row:YL) (hr:∀ x∈row,yu x) (n i:Nat):∀ y∈xp ((few row).map Prod.fst) n i,y∈row∨((40≤y.1∧y.1≤59)∧inI y.2):=by
 induction n generalizing i with
 |zero=>intro y hy;simp[xp]at hy
 |succ n ih=>
  cases e:row[i]? with
  |none=>
   intro y hy;have:((few row).map Prod.fst)[i]? = X:=by rw[List.getElem?_eq_none_iff]at e ⊢;rw[length_map,vF];exact e
   unfold xp at hy;rw[this]at hy;simp at hy
  |some x=>obtain⟨p,_,h2,h3⟩:=nu (n:=n) e;rw[h2];intro y hy;rcases mem_cons.1 hy with rfl|hy;rcases h3 with rfl|h3;exact Zg (Zd e);have:=CA h3 (fun z hz=>(hr z (mem_of_mem_drop hz)).2);exact Zf ⟨this.1,this.2.1⟩;exact ih _ y hy
theorem Oa (row:YL) (hr:∀ x∈row,yu x) {z:Int×Int} (hz:row.getLast? = O z) (hg:yE z.1=Z) (n i:Nat) (hi:i<row.length) (hn:row.length-i≤n):(xp ((few row).map Prod.fst) n i).getLast? = O z:=by
 have hzl:row[row.length-1]? = O z:=by rw[← getLast?_eq_getElem?];exact hz
 induction n generalizing i with
 |zero=>omega
 |succ n ih=>
  obtain⟨x,hx⟩:∃ x,row[i]? = O x:=⟨_,Za hi⟩;obtain⟨p,h1,h2,h3⟩:=nu (n:=n) hx;rw[h2];rcases h3 with rfl|h3;by_cases hend:i+1=row.length;have e:xp ((few row).map Prod.fst) n (i+((x.1,x.2,(1:Int)):Pc).2.2.toNat)=[]:=by
   cases n with
   |zero=>rfl
   |succ n=>unfold xp;rw[getElem?_eq_none];rw[length_map,vF];simp only[Int.toNat_one];omega
  rw[e];rw[show row.length-1=i from zo,hx]at hzl;obtain rfl:=Zl hzl;rfl;have:=ih (i+1) zo zo;rw[getLast?_cons];simp only[Int.toNat_one];rw[this];rfl;have hpp:=cS h3;have hop:=CA h3 (fun z hz=>(hr z (mem_of_mem_drop hz)).2);rw[length_drop]at hpp;have hlt:i+p.2.2.toNat<row.length:=by refine Nat.lt_of_le_of_ne zo (fun e=>?_);obtain⟨y,hy,hgy⟩:=hop.2.2 (p.2.2.toNat-1) zo;rw[getElem?_drop,show i+(p.2.2.toNat-1)=row.length-1 from zo,hzl]at hy;obtain rfl:=Zl hy;rw[hgy]at hg;cases hg
  have:=ih (i+p.2.2.toNat) hlt zo;rw[getLast?_cons,this];rfl
theorem Ns{p:PrS}(q:yl p){f:Blo->Blo}(H:∀b,(f b).1=b.1)(u:∀b,(f b).2.length<=b.2.length)(n:∀b∈zt p.1 p.2,∀y∈(f b).2,y∈p.1\/((40<=y.1/\y.1<=59)/\inI y.2)){c:Blo}(i:((zt p.1 p.2).map f).getLast? = O c){z:Int×Int}(w:c.2.getLast? = O z)(s:yE z.1=Z):yX (yw p.1.length p.2 ((zt p.1 p.2).map f)).1/\(yw p.1.length p.2 ((zt p.1 p.2).map f)).2<(yw p.1.length p.2 ((zt p.1 p.2).map f)).1.length:=by
 have m:=xF q;have k:c.2≠[]:=by intro e;rw[e]at w;simp at w
 have num:=fun {t:Int} (N:tL (zt p.1 p.2) ((zt p.1 p.2).map f) t)=>Fh (l:=p.1) H m.firsts m.full m.low N;have g:=mJ p.1.length p.2 ((zt p.1 p.2).map f);have K:=nh f u p;have M:=q.R;have o:(yw p.1.length p.2 ((zt p.1 p.2).map f)).1=(((zt p.1 p.2).map f).flatMap (·.2)).map (xD (yO ((zt p.1 p.2).map f) p.1.length ((zt p.1 p.2).map f).length).1):=dA _ _;refine⟨⟨fun x B=>?_,?_,zo⟩,?_⟩;rw[o]at B;obtain⟨y,P,rfl⟩:=mem_map.1 B;obtain⟨d,G,v⟩:=mem_flatMap.1 P;obtain⟨b,r,rfl⟩:=mem_map.1 G;rw[lF];rcases n b r y v with h|h;have a:=q.K y h;by_cases j:zT y.1=Y;obtain⟨D,E,F⟩:=qF q ⟨y,h,j,rfl⟩;have L:=num (eE m i k D E F);have e:(xD (yO ((zt p.1 p.2).map f) p.1.length ((zt p.1 p.2).map f).length).1 y).2=(yO ((zt p.1 p.2).map f) p.1.length ((zt p.1 p.2).map f).length).1.getD y.2.toNat 0:=by unfold xD;rw[if_pos j]
 rw[e];exact⟨Zg a.1,by unfold inI;omega,fun _=>zo⟩;have e:xD (yO ((zt p.1 p.2).map f) p.1.length ((zt p.1 p.2).map f).length).1 y=y:=by unfold xD;rw[if_neg j]
 rw[e];exact⟨Zg a.1,a.2,fun h=>absurd h j⟩;have j:zT y.1=Z:=cO (Zf zo);have e:xD (yO ((zt p.1 p.2).map f) p.1.length ((zt p.1 p.2).map f).length).1 y=y:=by unfold xD;rw[j];rfl
 rw[e,j];exact⟨Zf h.1,h.2,fun h=>by cases h⟩;refine⟨xD _ z,by rw[o,getLast?_map,wC i k,w];rfl,?_⟩;rw[lF];unfold yE at s;rw[Bool.not_eq_false']at s;exact of_decide_eq_true s;have he:=q.entry;have:=num (eE m i k (t:=p.2) zo (by rw[Zr];exact he) (by rw[Zr];exact bx p.1 p.2 he));rw[Zr]at this;unfold yw at g ⊢;simp only at g ⊢;omega
theorem LK{p:PrS}(l:yl p):yX (wM p).1/\(wM p).2<(wM p).1.length:=by
 have i:=xF l;obtain⟨t,c,r⟩:∃t c,zt p.1 p.2=t++[c]:=by rcases Zz (zt p.1 p.2)with h|⟨t,c,h⟩;exact absurd h i.some;exact⟨t,c,by rw[h,concat_eq_append]⟩
 have f:c∈zt p.1 p.2:=by rw[r];simp
 have j:(zt p.1 p.2).getLast? = O c:=by rw[r];simp
 have g:c.2.getLast? = p.1.getLast?:=by rw[<-i.flat];exact(wC j (i.full c f)).symm
 obtain⟨z,s⟩:∃z,c.2.getLast? = O z:=by
  cases e:c.2.getLast? with
  |none=>rw[getLast?_eq_none_iff]at e;exact absurd e (i.full c f)
  |some z=>exact⟨z,rfl⟩
 have n:yE z.1=Z:=eB l.last z (by rw[<-g];exact s)
 have a:∀b∈zt p.1 p.2,∀y∈b.2,y∈p.1:=fun b d y q=>by
   rw[<-i.flat]
   exact mem_flatMap.2 ⟨b,d,q⟩
 have k:((zt p.1 p.2).map (fun b=>(b.1,xf b.2))).getLast? = O (c.1,xf c.2):=by rw[getLast?_map,j];rfl
 have m:=length_pos_iff.2 (i.full c f);refine Ns l (fun _=>rfl) (fun _=>Au _ _ _) (fun b d y q=>?_) k (z:=z) ?_ n;rcases ow b.2 (fun x o=>l.K x (a b d x o)) _ _ y q with h|h;exact Zg (a b d y h);exact Zf h;exact Oa c.2 (fun x o=>l.K x (a c f x o)) s n c.2.length 0 m zo
theorem SS{p:PrS}(h:yl p):yX p.1:=by
 refine⟨fun x a=>⟨Zg (h.ins x a).1.1,(h.ins x a).1.2,(h.ins x a).2⟩,?_,h.R⟩;have he:=h.entry;obtain⟨z,b⟩:∃z,p.1.getLast? = O z:=by rw[getLast?_eq_getElem?];exact⟨_,Za zo⟩
 refine⟨z,b,?_⟩;have:=eB h.last z b;unfold yE at this;rw[Bool.not_eq_false']at this;exact of_decide_eq_true this
theorem Sf{l:YL}{en:Nat}(h:yX l)(e:∀x∈l,x.1<=32)(he:en<l.length):yl (l,en):=by refine⟨fun x b=>?_,Ck (fun y c=>?_),h.R,he⟩;have a:=h.ins x b;have g:=e x b;exact⟨⟨zo,a.2.1⟩,a.2.2⟩;obtain⟨z,f,d⟩:=h.last;rw[f]at c;obtain rfl:=Zl c;unfold yE;rw[decide_eq_true d];rfl
theorem my(l:YL):(qb l).length=l.length:=by unfold qb;simp
theorem Gk(l:YL)(k:Nat)(x:Int×Int)(a:l[k]? = O x):(x.1=3/\(∃y,l[k+1]? = O y/\y.1=4)/\(qb l)[k]? = O (1,x.2))\/(qb l)[k]? = O x:=by
 have b:=(Zb.1 a).1;have e:(qb l)[k]? = O (aU l k):=by unfold qb;rw[Zn,getElem?_range b];rfl
 unfold aU at e;rw[a]at e;cases hy:l[k+1]? with
 |none=>rw[hy]at e;exact Zf e
 |some y=>rw[hy]at e;simp only at e;by_cases h:x.1=3/\y.1=4;rw[if_pos h]at e;exact Zg ⟨h.1,⟨y,rfl,h.2⟩,e⟩;rw[if_neg h]at e;exact Zf e
theorem iR{p:PrS}(h:yl p):yl (qb p.1,p.2):=by
 have j:=my p.1;have l:=h.R;have he:=h.entry;have at':∀(k:Nat)(y:Int×Int),(qb p.1)[k]? = O y->∃x:Int×Int,p.1[k]? = O x/\(y=x\/x.1=3/\y=(1,x.2)):=by intro k y b;have i:=(Zb.1 b).1;obtain⟨x,c⟩:∃x,p.1[k]? = O x:=⟨_,Za zo⟩;refine⟨x,c,?_⟩;rcases Gk p.1 k x c with⟨a,_,d⟩|d;rw[b]at d;exact Zf ⟨a,Zl d⟩;rw[b]at d;exact Zg (Zl d)
 refine⟨fun y b=>?_,fun k y b f=>?_,by simp only;omega,by simp only;omega⟩;obtain⟨k,i⟩:=getElem?_of_mem b;obtain⟨x,c,e⟩:=at' k y i;have a:=h.ins x (Zd c);simp only[j];rcases e with rfl|⟨g,rfl⟩;exact a;exact⟨⟨zs,a.1.2⟩,fun _=>a.2 (by rw[g];rfl)⟩;obtain⟨x,c,e⟩:=at' k y b;simp only[j];rcases e with rfl|⟨g,rfl⟩;exact h.last k y c f;exfalso;have a:yE (1:Int)=Z:=zd;simp only[a]at f;cases f
theorem Nc(n:Nat):∀p:PrS,yl p->yl (aI n p):=by
 induction n with
 |zero=>intro p h;exact h
 |succ n a=>intro p h;unfold aI;split;exact(fR h).p4;exact a _ (fR h).p4
def cm(p:PrS):PrS:=(qb p.1,p.2)
def gq(p:PrS):PrS:=aI (p.1.length+1) p
def yy(f t s:Bool)(p:PrS):PrS:=let p1:=if t=Y then cm p else p
 let p2:=if f=Y then gq p1 else p1
 if s=Y then wM p2 else p2
theorem nW{p:PrS}(h:yl p):yl (gq p):=Nc _ p h
theorem fv{f t s:Bool}{p:PrS}(h:yl p):yX (yy f t s p).1/\(yy f t s p).2<(yy f t s p).1.length:=by
 have b:yl (if t=Y then cm p else p):=by split;exact iR h;exact h
 have a:yl (if f=Y then gq (if t=Y then cm p else p)else(if t=Y then cm p else p)):=by split;exact nW b;exact b
 unfold yy;simp only;split;exact LK a;exact⟨SS a,a.entry⟩
end Go.Proofs.YtmeiikjpaepogaaGreatDoor
