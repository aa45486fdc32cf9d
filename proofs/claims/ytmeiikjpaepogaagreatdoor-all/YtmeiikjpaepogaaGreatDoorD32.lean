/- Own. -/
import Derived.Test.YtmeiikjpaepogaaGreatDoorD31
open Option renaming some->O,none->X
open Bool renaming true->Y,false->Z
open Go.Value renaming int->I,slice->S,pointer->A,bool->Bl,string->Sr,tuple->Tu,agg->Ag
open Go.Obj renaming cells->C
open Go.Ending renaming returned->Rt
open Go.IntKind renaming i64->J
set_option maxRecDepth 100000
set_option maxHeartbeats 8000000
namespace Go.Proofs.YtmeiikjpaepogaaGreatDoor
open Go Go.RowKit Go.Proofs.Tryz List
inductive qT (l:YL):Int->Int->Prop
  | refl (a:Int):qT l a a
  | jump {a b:Int} {x:Int×Int}:l[a.toNat]? = O x->x.1=1->qT l x.2 b->qT l a b
theorem Aa (l:YL) (n:Nat):∀ k:Int,qT l k (jd l n k):=by
 induction n with
 |zero=>intro k;exact qT.refl k
 |succ n ih=>
  intro k;unfold jd;split;rename_i x hx;split;next h1=>exact qT.jump hx h1 (ih x.2)
  exact qT.refl k;exact qT.refl k
theorem Cs(m:MS)(op a b:Int)(h:zT op=Y):doS m op b=doS m op a\/((doS m op a).pc=a/\doS m op b={doS m op a with pc:=b}):=by
 have c:op=1\/op=2\/op=3\/op=7:=by unfold zT at h;simp at h;omega
 rcases c with rfl|rfl|rfl|rfl;exact Zf ⟨rfl,rfl⟩;show(if zK m.C=0 then _ else _)=(if zK m.C=0 then _ else _)\/((if zK m.C=0 then _ else _:MS).pc=a/\(if zK m.C=0 then _ else _:MS)={(if zK m.C=0 then _ else _:MS)with pc:=b});by_cases h:zK m.C=0;simp only[if_pos h];simp;simp only[if_neg h];simp;exact Zf ⟨rfl,rfl⟩;show(if wrap64 (zK m.G+1)=zK m.G.dropLast then _ else _)=(if wrap64 (zK m.G+1)=zK m.G.dropLast then _ else _)\/((if wrap64 (zK m.G+1)=zK m.G.dropLast then _ else _:MS).pc=a/\(if wrap64 (zK m.G+1)=zK m.G.dropLast then _ else _:MS)={(if wrap64 (zK m.G+1)=zK m.G.dropLast then _ else _:MS)with pc:=b});by_cases h:wrap64 (zK m.G+1)=zK m.G.dropLast;simp only[if_pos h];simp;simp only[if_neg h];simp
theorem CO{l a:YL}{m:MS}(h:a[m.pc.toNat]? = l[m.pc.toNat]?):yb a m=yb l m:=by unfold yb;rw[h]
structure na(l l':YL)(i:Nat)(m m':MS):Prop where
 rest:m'={m with pc:=m'.pc}
 pc:m.aE=Y\/qT l m.pc m'.pc\/(∃(g:Int)(e:Int×Int),m'.pc.toNat=i/\l'[i]? = O e/\(e.1=4\/e.1=5)/\qT l m.pc g/\l[g.toNat]? = O e)
theorem JL {l l':YL} {i:Nat} {x:Int×Int} {y:Int×Int} (hx:l[i]? = O x) (hn:zT x.1=Y) (hl:l'=l.set i y) (hy:(∃ g,y=(x.1,g)∧qT l x.2 g)∨(x.1=1∧(y.1=4∨y.1=5)∧∃ g:Int,qT l x.2 g∧l[g.toNat]? = O y)) (k:Nat) : ∀ (m m':MS) (o:Obs),qc l m k o→na l l' i m m'→∃ k',k'≤k∧qc l' m' k' o:=by
 have hil:=(Zb.1 hx).1;have hi':l'[i]? = O y:=by rw[hl,getElem?_set_self hil]
 have ho':∀ j,j≠i→l'[j]? = l[j]?:=fun j hj=>by rw[hl,getElem?_set_ne (fun h=>hj h.symm)]
 have hb:0≤x.1∧x.1≤32:=by unfold zT at hn;simp at hn;omega
 induction k using Nat.strongRecOn with
 |ind k ih=>
  intro m m' o he hr;obtain⟨hrest,hpc⟩:=hr;by_cases hh:m.aE=Y;cases he with
  |halt _=>
   have e:((0:Int),m.C,m.cells,m.out)=(0,m'.C,m'.cells,m'.out):=by rw[hrest]
   rw[e];exact⟨0,Zc _,qc.halt (by rw[hrest];exact hh)⟩
  |err h1 _=>rw[hh]at h1;cases h1
  |step h1 _ _=>rw[hh]at h1;cases h1
  have hf:m.aE=Z:=by simpa using hh
  have hf':m'.aE=Z:=by rw[hrest];exact hf
  have wait:∀ (z:Int×Int),l[m.pc.toNat]? = O z→z.1=1→(na l l' i { m with pc:=z.2 } m')→∃ k',k'≤k∧qc l' m' k' o:=by
   intro z hz h1 hrel;obtain⟨z1,z2⟩:=z;simp only at h1;subst h1;have hs:=CN hz;cases he with
   |halt h1=>rw[hf]at h1;cases h1
   |err _ h1=>rw[hs]at h1;exact absurd rfl h1
   |@step _ k1 _ _ _ h2=>rw[hs]at h2;obtain⟨k',hk,hE⟩:=ih k1 zo _ m' o h2 hrel;exact⟨k',zo,hE⟩
  rcases hpc with h|hch|⟨g,e,hg1,hg2,hg3,hch,hg4⟩;exact absurd h hh;generalize hq:m'.pc=q at hch;generalize hq0:m.pc=q0 at hch;cases hch with
  |refl=>
   have hmm:m'=m:=by rw[hrest,hq,← hq0]
   subst hmm;clear hq;by_cases hi:m'.pc.toNat=i;have hx1:l[m'.pc.toNat]? = O x:=by rw[hi];exact hx
   have hy1:l'[m'.pc.toNat]? = O y:=by rw[hi];exact hi'
   rcases hy with ⟨g,rfl,hg⟩|⟨h1,h2,g,h3,h4⟩;have e1:=jA hx1;have e2:=jA hy1;rw[qP _ _ hb]at e1;rw[qP _ _ (by exact hb)]at e2;simp only at e2;by_cases h0:zJ { m' with pc:=m'.pc+1 } x.1=0;rw[if_pos h0]at e1 e2;cases he with
   |halt h1=>rw[hf]at h1;cases h1
   |err _ h1=>rw[e1]at h1;exact absurd rfl h1
   |@step _ k1 _ _ _ h2=>
    rw[e1]at h2;have hrel:na l l' i (doS { m' with pc:=m'.pc+1 } x.1 x.2) (doS { m' with pc:=m'.pc+1 } x.1 g):=by rcases Cs { m' with pc:=m'.pc+1 } x.1 x.2 g hn with e|⟨ea,eb⟩;rw[e];exact⟨rfl,Zf (Zg (qT.refl _))⟩;rw[eb];exact⟨rfl,Zf (Zg (by rw[ea];exact hg))⟩
    obtain⟨k',hk,hE⟩:=ih k1 zo _ _ o h2 hrel;refine⟨k'+1,zo,qc.step hf (by rw[e2]) (by rw[e2];exact hE)⟩
   rw[if_neg h0]at e1 e2;have e3:yb l' m'=yb l m':=by rw[e1,e2]
   cases he with
   |halt h1=>rw[hf]at h1;cases h1
   |err _ h1=>rw[← e3]at h1 ⊢;exact⟨1,Zc _,qc.err hf h1⟩
   |step _ h1 _=>rw[e1]at h1;exact absurd h1 h0
   refine wait x hx1 h1 ⟨rfl,Zf (Zf ⟨g,y,hi,hi',h2,h3,h4⟩)⟩;have e3:yb l' m'=yb l m':=CO (ho' _ hi);cases he with
   |halt h1=>rw[hf]at h1;cases h1
   |err _ h1=>rw[← e3]at h1 ⊢;exact⟨1,Zc _,qc.err hf h1⟩
   |@step _ k1 _ _ h1 h2=>obtain⟨k',hk,hE⟩:=ih k1 zo _ _ o h2 ⟨rfl,Zf (Zg (qT.refl _))⟩;exact⟨k'+1,zo,qc.step hf (by rw[e3];exact h1) (by rw[e3];exact hE)⟩
  |@jump _ _ z hz h1 hc=>exact wait z (by rw[hq0];exact hz) h1 ⟨hrest,Zf (Zg (by rw[hq];exact hc))⟩
  generalize hq0:m.pc=q0 at hch;cases hch with
  |refl=>
   have hx1:l[m.pc.toNat]? = O e:=by rw[hq0];exact hg4
   have hy1:l'[m'.pc.toNat]? = O e:=by rw[hg1];exact hg2
   obtain⟨e1,e2⟩:=e;rcases hg3 with h4|h4;simp only at h4;subst h4;have s1:=fX hx1;have s2:=fX hy1;have hcc:m'.aC=m.aC:=by rw[hrest]
   rw[hcc]at s2;by_cases hc:m.aC.length=0;rw[if_pos hc]at s1 s2;cases he with
   |halt h1=>rw[hf]at h1;cases h1
   |err _ h1=>
    have e:((yb l m).2,([]:YI),([]:YI),(yb l m).1.out)=((yb l' m').2,[],[],(yb l' m').1.out):=by rw[s1,s2,hrest]
    rw[e];exact⟨1,Zc _,qc.err hf' (by rw[s2];simp)⟩
   |step _ h1 _=>rw[s1]at h1;simp at h1
   rw[if_neg hc]at s1 s2;cases he with
   |halt h1=>rw[hf]at h1;cases h1
   |err _ h1=>rw[s1]at h1;exact absurd rfl h1
   |@step _ k1 _ _ _ h2=>
    have e3:yb l' m'=yb l m:=by rw[s1,s2,hrest]
    obtain⟨k',hk,hE⟩:=ih k1 zo _ _ o h2 ⟨rfl,Zf (Zg (qT.refl _))⟩;exact⟨k'+1,zo,qc.step hf' (by rw[s2]) (by rw[e3];exact hE)⟩
   simp only at h4;subst h4;have s1:=jA hx1;have s2:=jA hy1
   have r5:∀ z:MS,zJ z 5=0:=fun z=>by
     unfold zJ
     simp[zY,yt,show ¬ ((z.C.length:Int)<0) from zo,show ¬ ((z.G.length:Int)<0) from zo]
   rw[qP _ _ zs,r5,if_pos rfl]at s1;rw[qP _ _ zs,r5,if_pos rfl]at s2;have d5:∀ z:MS,doS z 5 e2={ z with aE:=Y }:=fun z=>rfl;simp only[d5]at s1 s2;cases he with
   |halt h1=>rw[hf]at h1;cases h1
   |err _ h1=>rw[s1]at h1;exact absurd rfl h1
   |@step _ k1 _ _ _ h2=>obtain⟨k',hk,hE⟩:=ih k1 zo _ (yb l' m').1 o h2 ⟨by rw[s1,s2,hrest],Zg (by rw[s1])⟩;exact⟨k'+1,zo,qc.step hf' (by rw[s2]) hE⟩
  |@jump _ _ z hz h1 hc=>exact wait z (by rw[hq0];exact hz) h1 ⟨hrest,Zf (Zf ⟨g,e,hg1,hg2,hg3,hc,hg4⟩)⟩
theorem Rr (l:YL) (i:Nat) (k:Nat) (m:MS) (o:Obs) (h:qc l m k o):∃ k',k'≤k∧qc (jg l i) m k' o:=by
 unfold jg;cases hx:l[i]? with
 |none=>exact⟨k,Zc _,h⟩
 |some x=>
  simp only;have hil:=(Zb.1 hx).1;by_cases hn:zT x.1=Y;rw[if_pos hn];have hch:=Aa l l.length x.2;generalize jd l l.length x.2=g at hch;split;rename_i hc;rw[set_set];refine JL hx hn rfl (Zf ⟨hc.1,hc.2,g,hch,?_⟩) k m m o h ⟨rfl,Zf (Zg (qT.refl _))⟩;have hgi:g.toNat≠i:=by intro e;have:=hc.2;rw[e,Zj,getElem?_set_self hil]at this;simp only[Option.getD_some]at this;have h1:=hc.1;omega
  have hgl:g.toNat<l.length:=by refine Nat.lt_of_not_le (fun hle=>?_);have:=hc.2;rw[Zj,getElem?_eq_none (by simpa using hle)]at this;simp at this
  rw[Zj,getElem?_set_ne (fun h=>hgi h.symm),Za hgl];rfl;exact JL hx hn rfl (Zg ⟨g,rfl,hch⟩) k m m o h ⟨rfl,Zf (Zg (qT.refl _))⟩;rw[if_neg hn];exact⟨k,Zc _,h⟩
theorem TW(p:PrS):kf p (bN p):=by
 intro k o m _ _ _ h;have a:∀n:Nat,∃b,b<=k/\qc (vg p.1 n) {m with pc:=p.2} b o:=by
  intro n;induction n with
  |zero=>exact⟨k,Zc _,h⟩
  |succ n e=>obtain⟨f,i,c⟩:=e;obtain⟨g,j,d⟩:=Rr _ n f _ o c;exact⟨g,zo,d⟩
 exact a p.1.length
theorem nN(v:BitVec 64):IntKind.i64.wrap (v.toNat:Int)=v.toInt:=by have h:=v.isLt;rw[BitVec.toInt_eq_toNat_cond];unfold IntKind.wrap;simp only[IntKind.signed,IntKind.bits,Bool.true_and];split<;>split<;>(simp at *;omega)
theorem uJ(a b:Int):bits .and .i64 a b=(BitVec.ofInt 64 a &&& BitVec.ofInt 64 b).toInt:=nN _
theorem DY(a b:Int):bits .or .i64 a b=(BitVec.ofInt 64 a ||| BitVec.ofInt 64 b).toInt:=nN _
theorem AU(a b:Int):bits .xor .i64 a b=(BitVec.ofInt 64 a ^^^ BitVec.ofInt 64 b).toInt:=nN _
theorem tZ{u:Int}(h:inI u):(BitVec.ofInt 64 u).toInt=u:=by unfold inI at h;rw[BitVec.toInt_ofInt];unfold Int.bmod;simp only;split<;>omega
theorem Mh(a b:Int):bits .and .i64 a b=bits .and .i64 b a:=by rw[uJ,uJ,BitVec.and_comm]
theorem QP(a b:Int):bits .or .i64 a b=bits .or .i64 b a:=by rw[DY,DY,BitVec.or_comm]
theorem PK(a b:Int):bits .xor .i64 a b=bits .xor .i64 b a:=by rw[AU,AU,BitVec.xor_comm]
theorem JS(a b c:Int):bits .and .i64 (bits .and .i64 a b) c=bits .and .i64 a (bits .and .i64 b c):=by simp only[uJ,BitVec.ofInt_toInt,BitVec.and_assoc]
theorem NV(a b c:Int):bits .or .i64 (bits .or .i64 a b) c=bits .or .i64 a (bits .or .i64 b c):=by simp only[DY,BitVec.ofInt_toInt,BitVec.or_assoc]
theorem Me(a b c:Int):bits .xor .i64 (bits .xor .i64 a b) c=bits .xor .i64 a (bits .xor .i64 b c):=by simp only[AU,BitVec.ofInt_toInt,BitVec.xor_assoc]
theorem PR{a:Int}(h:inI a):bits .and .i64 a (-1)=a:=by rw[uJ,show BitVec.ofInt 64 (-1)=BitVec.allOnes 64 from zd,BitVec.and_allOnes,tZ h]
theorem SO{a:Int}(h:inI a):bits .or .i64 a 0=a:=by rw[DY,show BitVec.ofInt 64 0=0#64 from zd,BitVec.or_zero,tZ h]
theorem RT{a:Int}(h:inI a):bits .xor .i64 a 0=a:=by rw[AU,show BitVec.ofInt 64 0=0#64 from zd,BitVec.xor_zero,tZ h]
theorem Tx{a b:Int}(h:(a-b)%18446744073709551616=0):wrap64 a=wrap64 b:=by unfold wrap64;omega
theorem RQ(a:Int):∃k:Int,wrap64 a=a+18446744073709551616*k:=by unfold wrap64;exact⟨-((a+9223372036854775808) / 18446744073709551616),zo⟩
theorem AT(a b:Int):wrap64 (wrap64 a*b)=wrap64 (a*b):=by obtain⟨k,c⟩:=RQ a;refine Tx ?_;rw[c,Int.add_mul,show a*b+18446744073709551616*k*b-a*b=18446744073709551616*(k*b)by rw[Int.mul_assoc];omega];omega
theorem Md(a b:Int):wrap64 (a*wrap64 b)=wrap64 (a*b):=by rw[Int.mul_comm,AT,Int.mul_comm]
theorem BT{a:Int}(h:inI a):wrap64 a=a:=by unfold inI at h;unfold wrap64;omega
theorem SC{f g j o:Int}(h:wE f g=O (j,o))(u a c:Int):yQ g (yQ f u a) c=yQ o u (yQ j a c):=by
 unfold wE at h;split at h;rename_i b;obtain⟨rfl,rfl⟩:=b;simp only[Zs,Prod.mk.injEq]at h;obtain⟨rfl,rfl⟩:=h;show wrap64 (wrap64 (u-a)-c)=wrap64 (u-wrap64 (a+c));unfold wrap64;omega;split at h;rename_i b;rcases b with⟨rfl,rfl⟩|⟨rfl,rfl⟩;simp only[Zs,Prod.mk.injEq]at h;obtain⟨rfl,rfl⟩:=h;show wrap64 (wrap64 (u-a)+c)=wrap64 (u-wrap64 (a-c));unfold wrap64;omega;simp only[Zs,Prod.mk.injEq]at h;obtain⟨rfl,rfl⟩:=h;show wrap64 (wrap64 (u+a)-c)=wrap64 (u+wrap64 (a-c));unfold wrap64;omega;split at h;cases h;rename_i d;have d:f=g:=by simpa using d
 subst d;split at h;rename_i e;simp only[Zs,Prod.mk.injEq]at h;obtain⟨rfl,rfl⟩:=h;rcases e with rfl|rfl|rfl|rfl|rfl;show wrap64 (wrap64 (u+a)+c)=wrap64 (u+wrap64 (a+c));unfold wrap64;omega;show wrap64 (wrap64 (u*a)*c)=wrap64 (u*wrap64 (a*c));rw[AT,Md,Int.mul_assoc];exact JS u a c;exact NV u a c;exact Me u a c;cases h
theorem Sg{u:Int}:dw u 1=u:=by unfold dw;rw[if_neg zo];simp
theorem iZ(op:Int)(h:0<=op/\op<=32):yc op=((zY op).1,(zY op).1+(zY op).2):=by have:∀k:Fin 33,yc ((k.val:Nat):Int)=((zY ((k.val:Nat):Int)).1,(zY ((k.val:Nat):Int)).1+(zY ((k.val:Nat):Int)).2):=zd;have a:=this ⟨op.toNat,zo⟩;simp only at a;rwa [show((op.toNat:Nat):Int)=op from zo]at a
theorem pr(op:Int):0<=(yc op).1/\(yc op).1<=3/\0<=(yc op).2/\(yc op).2<=3:=by by_cases h:0<=op/\op<=32;have:∀k:Fin 33,0<=(yc ((k.val:Nat):Int)).1/\(yc ((k.val:Nat):Int)).1<=3/\0<=(yc ((k.val:Nat):Int)).2/\(yc ((k.val:Nat):Int)).2<=3:=zd;have a:=this ⟨op.toNat,zo⟩;simp only at a;rwa [show((op.toNat:Nat):Int)=op from zo]at a;unfold yc;rw[if_neg h];simp
def wA(m:MS)(op:Int):Int:=if(m.G.length:Int)<(yt op).1 then 9
 else if 0<(yt op).2/\m.la<m.G.length+(yt op).2 then 10
 else if op=3 then(if m.lc<=m.aC.length then 11 else 0)
 else if op=4 then(if m.aC.length=0 then 11 else 0)
 else if op=29\/op=30 then(if xZ m<0\/(m.cells.length:Int)<=xZ m then 12 else 0)
 else if op=12\/op=13 then(if xZ m=0 then 13 else 0)
 else if op=31 then(if m.lo<(m.out.size:Int)+1 then 14 else 0)
 else if op=32 then(if m.lo<(m.out.size:Int)+(yA (xZ m)).length+1 then 14 else 0)
 else 0
theorem dt(m:MS)(c:(m.C.length:Int)<=m.ls)(op:Int)(h:0<=op/\op<=32):zJ m op=if(m.C.length:Int)<(yc op).1 then 7 else if m.ls<m.C.length-(yc op).1+(yc op).2 then 8 else wA m op:=by
 have e:zJ m op=if(m.C.length:Int)<(zY op).1 then 7 else if 0<(zY op).2/\m.ls<m.C.length+(zY op).2 then 8 else wA m op:=rfl
 rw[e,iZ op h];dsimp only;by_cases a:(m.C.length:Int)<(zY op).1;rw[if_pos a,if_pos a];rw[if_neg a,if_neg a];by_cases b:0<(zY op).2/\m.ls<m.C.length+(zY op).2;rw[if_pos b,if_pos zo];rw[if_neg b,if_neg zo]
theorem Bq(m:MS)(op arg:Int)(h:0<=op/\op<=32)(b:(zY op).1<=(m.C.length:Int)):((doS m op arg).C.length:Int)=m.C.length-(yc op).1+(yc op).2/\(doS m op arg).ls=m.ls:=by
 rw[iZ op h];have a:op=0\/op=1\/op=2\/op=3\/op=4\/op=5\/op=6\/op=7\/op=8\/op=9\/op=10\/op=11\/op=12\/op=13\/op=14\/op=15\/op=16\/op=17\/op=18\/op=19\/op=20\/op=21\/op=22\/op=23\/op=24\/op=25\/op=26\/op=27\/op=28\/op=29\/op=30\/op=31\/op=32:=zo;clear h;(repeat' rcases a with rfl|a);all_goals (simp[zY]at b;simp[doS,zY])
 all_goals (first|omega|(split<;>simp<;>omega))
abbrev qB(r:YL)(m:MS):Int×Int:=xl m.ls (yv r) m.C.length 0
theorem gm(lim:Int)(c:Int×Int)(r:YL)(v i:Int):xl lim (c::r) v i=if v<c.1 then(7,i+1)else if lim<v-c.1+c.2 then(8,i+1)else xl lim r (v+(c.2-c.1)) (i+1):=rfl
theorem gI(lim:Int)(r:YL):∀(v i:Int),xl lim r v i=((xl lim r v 0).1,(xl lim r v 0).2+i):=by
 induction r with
 |nil=>intro v i;simp[xl]
 |cons c r a=>intro v i;unfold xl;split;simp;omega;split;simp;omega;rw[a _ (i+1),a _ (0+1)];simp;omega
theorem uZ(lim:Int)(a b:YL):∀(v:Int),xl lim (a++b) v 0=if(xl lim a v 0).1=0 then((xl lim b (v+(a.map (fun c=>c.2-c.1)).sum) 0).1,(xl lim b (v+(a.map (fun c=>c.2-c.1)).sum) 0).2+a.length)else xl lim a v 0:=by
 induction a with
 |nil=>intro v;simp[xl]
 |cons c a f=>intro v;rw[cons_append,gm,gm];by_cases d:v<c.1;simp only[if_pos d];rfl;by_cases e:lim<v-c.1+c.2;simp only[if_neg d,if_pos e];rfl;simp only[if_neg d,if_neg e];rw[gI lim (a++b),gI lim a,f];simp only[map_cons,sum_cons,length_cons];rw[show v+(c.2-c.1+(a.map (fun c=>c.2-c.1)).sum)=v+(c.2-c.1)+(a.map (fun c=>c.2-c.1)).sum from zo];split;simp;omega;rfl
theorem Ku(r:YL)(h:∀c∈r,0<=c.1/\c.1<=3/\0<=c.2/\c.2<=3):∀(v v' b a:Int),(v=v'\/(3*r.length<=v/\3*r.length<=v'))->(b=a\/(3*r.length<=b/\3*r.length<=a))->xl (v+b) r v 0=xl (v'+a) r v' 0:=by
 induction r with
 |nil=>intro v v' b a _ _;simp[xl]
 |cons c r m=>intro v v' b a j k;have n:=h c zs;simp only[length_cons]at j k;rw[gm,gm];by_cases i:v<c.1;have f:v'<c.1:=zo;rw[if_pos i,if_pos f];have f:¬v'<c.1:=zo;rw[if_neg i,if_neg f];by_cases g:v+b<v-c.1+c.2;have e:v'+a<v'-c.1+c.2:=zo;rw[if_pos g,if_pos e];have e:¬v'+a<v'-c.1+c.2:=zo;rw[if_neg g,if_neg e];rw[gI (v+b),gI (v'+a)];have:=m (fun d l=>h d (by simp[l])) (v+(c.2-c.1)) (v'+(c.2-c.1)) (b-(c.2-c.1)) (a-(c.2-c.1)) zo zo;rw[show v+(c.2-c.1)+(b-(c.2-c.1))=v+b from zo,show v'+(c.2-c.1)+(a-(c.2-c.1))=v'+a from zo]at this;rw[this]
theorem Ej(r:YL):∀c∈yv r,0<=c.1/\c.1<=3/\0<=c.2/\c.2<=3:=by intro c a;unfold yv at a;obtain⟨x,_,rfl⟩:=mem_map.1 a;exact pr x.1
theorem MW{k:Int×Int}{old short next:YL}(h:eZ k old short next=Y)(n:short.length<=old.length)(m:MS)(e:k.1<=m.C.length)(f:k.2<=m.ls-m.C.length)(g:0<=k.1/\0<=k.2):(qB (short++next) m).1=(qB (old++next) m).1/\(qB (short++next) m).2<=(qB (old++next) m).2:=by
 unfold eZ at h;rw[all_eq_true]at h;have h:=fun i d=>all_eq_true.1 (h i d);let a:Nat:=3*(old.length+next.length);let i:Nat:=min (m.C.length-k.1.toNat) a;let j:Nat:=min ((m.ls-m.C.length).toNat-k.2.toNat) a;have b:=h i (mem_range.2 (by show min _ _<_;omega)) j (mem_range.2 (by show min _ _<_;omega));unfold iX at b;rw[Bool.and_eq_true,beq_iff_eq,decide_eq_true_iff]at b;have far:∀r:YL,r.length<=old.length+next.length->xl (k.1+i+(k.2+j)) (yv r) (k.1+i) 0=qB r m:=by
  intro r l;have c:(yv r).length=r.length:=by unfold yv;simp
  have:=Ku (yv r) (Ej r) (k.1+i) m.C.length (k.2+j) (m.ls-m.C.length) (by rw[c];show _=_\/_;simp only[i,a];omega) (by rw[c];simp only[j,a];omega);rw[this];unfold qB;rw[show(m.C.length:Int)+(m.ls-m.C.length)=m.ls from zo]
 rw[far _ zs,far _ zp]at b;exact⟨b.1.symm,b.2⟩
theorem Nt (row:YL) (hb:∀ x∈row,yu x) (m:MS) (hm:MOk m) (h0:(zG row m).2.1=0) (n:Nat) (hn:n≤row.length):(zG (row.take n) m).2.1=0∧(qu row n).1≤(zG (row.take n) m).1.C.length∧(qu row n).2≤(zG (row.take n) m).1.ls-(zG (row.take n) m).1.C.length∧0≤(qu row n).1∧0≤(qu row n).2:=by
 induction n with
 |zero=>have:=hm.C;simp only[take_zero,zG,qu];exact⟨trivial,zo,zo,zo,zo⟩
 |succ n ih=>
  obtain⟨i0,i1,i2,i3,i4⟩:=ih zo;obtain⟨x,hx⟩:∃ x,row[n]? = O x:=⟨_,Za zo⟩;have hxb:=hb x (Zd hx);have hm1:=nD (row.take n) m (fun y hy=>(hb y (mem_of_mem_take hy)).2) hm;have e:row.take (n+1)=row.take n++[x]:=by rw[take_add_one,hx];rfl
  have e1:(zG (row.take (n+1)) m).2.1=0:=by have e2:=wX (row.take (n+1)) (row.drop (n+1)) m;rw[take_append_drop]at e2;refine Classical.byContradiction (fun hne=>?_);rw[if_neg hne]at e2;rw[e2]at h0;exact hne h0
  rw[e,wX,if_pos i0]at e1 ⊢;simp only at e1 ⊢;generalize zG (row.take n) m=z at i0 i1 i2 hm1 e1 ⊢;have hr:zJ z.1 x.1=0:=by refine Classical.byContradiction (fun hne=>?_);rw[zG,qP x z.1 hxb.1,if_neg hne]at e1;simp only at e1;rw[if_neg hne]at e1;exact hne e1
  have hs:(zG [x] z.1).1=doS z.1 x.1 x.2:=by rw[zG,qP x z.1 hxb.1,if_pos hr];rfl
  have hm1s:=hm1.C;have hcs:=pr x.1;have h7:=dt z.1 hm1s x.1 hxb.1;rw[hr]at h7;have hu:¬ (z.1.C.length:Int)<(yc x.1).1:=by intro h;rw[if_pos h]at h7;omega
  rw[if_neg hu]at h7;have ho:¬ z.1.ls<z.1.C.length-(yc x.1).1+(yc x.1).2:=by intro h;rw[if_pos h]at h7;omega
  have hl:=Bq z.1 x.1 x.2 hxb.1 (by have:=iZ x.1 hxb.1;rw[this]at hu;simp only at hu;omega);refine⟨e1,?_⟩;rw[hs,hl.1,hl.2,qu,hx];unfold lZ;simp only;omega
theorem kK{m:MS}{op:Int}(h:zJ m op=0):(zY op).1<=(m.C.length:Int):=by unfold zJ at h;split at h;cases h;omega
def bR:YL->MS->Prop
 |[],_=>True
 |x::r,m=>(zJ m x.1=0\/zJ m x.1=7\/zJ m x.1=8)/\(zJ m x.1=0->bR r (doS m x.1 x.2))
theorem MV(m:MS)(op:Int):wA m op≠7/\wA m op≠8:=by unfold wA;refine⟨?_,?_⟩<;>(repeat' split)<;>omega
theorem Si(m:MS)(op arg:Int)(c:0<=op)(h:op<=25):(doS m op arg).out=m.out:=by
 by_cases b:0<=op
 ·have a:op=0\/op=1\/op=2\/op=3\/op=4\/op=5\/op=6\/op=7\/op=8\/op=9\/op=10\/op=11\/op=12\/op=13\/op=14\/op=15\/op=16\/op=17\/op=18\/op=19\/op=20\/op=21\/op=22\/op=23\/op=24\/op=25:=zo;clear h b;(repeat' rcases a with rfl|a);all_goals first|rfl|(simp[doS];done)|(simp[doS];split<;>rfl)
 exact absurd c b
theorem Jl (r:YL):∀ m:MS,(∀ x∈r,yu x∧x.1≤25)→MOk m→bR r m → ((qB r m).1≠0→(zG r m).2.1=(qB r m).1∧((zG r m).2.2:Int)=(qB r m).2)∧((qB r m).1=0→(zG r m).2.1=0)∧(zG r m).1.out=m.out:=by
 induction r with
 |nil=>intro m _ _ _;exact⟨fun h=>absurd rfl h,fun _=>rfl,rfl⟩
 |cons x r ih=>
  intro m hb hm hn;obtain⟨hx,hx25⟩:=hb x zs;obtain⟨h1,h2⟩:=hn;have hre:=dt m hm.C x.1 hx.1;have ef:qB (x :: r) m=if (m.C.length:Int)<(yc x.1).1 then (7,0+1) else if m.ls<m.C.length-(yc x.1).1+(yc x.1).2 then (8,0+1) else xl m.ls (yv r) (m.C.length+((yc x.1).2-(yc x.1).1)) (0+1):=rfl
  rw[ef,zG,qP x m hx.1];by_cases h7:(m.C.length:Int)<(yc x.1).1;rw[if_pos h7]at hre;simp only[if_pos h7,hre];simp;rw[if_neg h7]at hre;simp only[if_neg h7];by_cases h8:m.ls<m.C.length-(yc x.1).1+(yc x.1).2;rw[if_pos h8]at hre;simp only[if_pos h8,hre];simp;rw[if_neg h8]at hre;simp only[if_neg h8];have hx0:zJ m x.1=0:=by have:=MV m x.1;omega
  simp only[hx0,if_true];have hmk:=iK m hm x.1 x.2 hx.1 hx.2 hx0;obtain⟨l1,l2⟩:=Bq m x.1 x.2 hx.1 (kK hx0);have i:=ih (doS m x.1 x.2) (fun y hy=>hb y (by simp[hy])) hmk (h2 hx0);have e:xl m.ls (yv r) (m.C.length+((yc x.1).2-(yc x.1).1)) (0+1)=((qB r (doS m x.1 x.2)).1,(qB r (doS m x.1 x.2)).2+1):=by rw[gI];unfold qB;rw[l1,l2];rw[show (m.C.length:Int)-(yc x.1).1+(yc x.1).2=m.C.length+((yc x.1).2-(yc x.1).1) from zo];rfl
  rw[e];simp only;obtain⟨i1,i2,i3⟩:=i;exact⟨fun hne=>⟨(i1 hne).1,by have:=(i1 hne).2;push_cast;omega⟩,i2,by rw[i3];exact Si m x.1 x.2 hx.1.1 hx25⟩
theorem SZ(r:YL):∀m:MS,(∀x∈r,yu x)->(zG r m).2.1=0->((zG r m).1.C.length:Int)=m.C.length+((yv r).map (fun c=>c.2-c.1)).sum/\(zG r m).1.ls=m.ls:=by
 induction r with
 |nil=>intro m _ _;simp[zG,yv]
 |cons x r i=>intro m d a;have e:=d x zs;rw[zG,qP x m e.1]at a ⊢;by_cases b:zJ m x.1=0;simp only[if_pos b,if_true]at a ⊢;obtain⟨j,k⟩:=Bq m x.1 x.2 e.1 (kK b);obtain⟨g,h⟩:=i _ (fun y f=>d y (by simp[f])) a;refine⟨?_,h.trans k⟩;rw[g,j];have:((yv (x::r)).map (fun c=>c.2-c.1)).sum=((yc x.1).2-(yc x.1).1)+((yv r).map (fun c=>c.2-c.1)).sum:=rfl;rw[this];omega;simp only[if_neg b]at a;exact absurd a b
structure ko(old short:YL):Prop where
 calm:∀m,MOk m->bR old m/\bR short m
 K:(∀x∈old,yu x/\x.1<=25)/\(∀x∈short,yu x/\x.1<=25)
 same:∀m,MOk m->(zG old m).2.1=0->(zG short m).2.1=0->(zG short m).1=(zG old m).1
theorem QO{x:Int×Int}(f:yu x){m:MS}(e:MOk m)(h:(qB [x] m).1≠0):(qB [x] m).1=zJ m x.1/\zJ m x.1≠0/\(qB [x] m).2=1:=by
 have a:=dt m e.C x.1 f.1;have d:qB [x] m=if(m.C.length:Int)<(yc x.1).1 then(7,0+1)else if m.ls<m.C.length-(yc x.1).1+(yc x.1).2 then(8,0+1)else(0,0+1):=rfl
 rw[d]at h ⊢;by_cases b:(m.C.length:Int)<(yc x.1).1;rw[if_pos b]at a ⊢;rw[a];simp;rw[if_neg b]at a h ⊢;by_cases c:m.ls<m.C.length-(yc x.1).1+(yc x.1).2;rw[if_pos c]at a ⊢;rw[a];simp;rw[if_neg c]at h;exact absurd rfl h
theorem NR{a:YL}{x:Int×Int}{tail:YL}{m:MS}(n:MOk m)(f:∀y∈a,yu y)(i:yu x)(b:(zG a m).2.1=0)(g:(qB a m).1=0)(h:(qB (a++[x]) m).1≠0):(zG (a++(x::tail)) m).2.1=(qB (a++[x]) m).1/\((zG (a++(x::tail)) m).2.2:Int)=(qB (a++[x]) m).2/\(zG (a++(x::tail)) m).1.out=(zG a m).1.out:=by
 have j:yv (a++[x])=yv a++yv [x]:=by unfold yv;simp
 obtain⟨q,r⟩:=SZ a m f b;have e:qB (a++[x]) m=((qB [x] (zG a m).1).1,(qB [x] (zG a m).1).2+a.length):=by
  unfold qB at g ⊢;rw[j,uZ,if_pos g,q,r];have:(yv a).length=a.length:=by unfold yv;simp
  rw[this]
 have c:=nD a m (fun y p=>(f y p).2) n;rw[e]at h ⊢;simp only at h ⊢;obtain⟨k,d,l⟩:=QO i c h;rw[wX,if_pos b,zG,qP x _ i.1,if_neg d];simp only[if_neg d];have o:=(iA a m).1 b;exact⟨k.symm,by rw[l,o];push_cast;omega,trivial⟩
theorem IC {nxt:Int} {ahead old short next tail:YL} (hb:∀ x∈ahead++(old++(next++tail)),yu x) (hr:ko old short) (hl:short.length≤old.length) (hn:next.length≤1) (hf:eZ (bI ahead) old short next=Y):jj nxt (ahead++(old++(next++tail))) (ahead++(short++(next++tail))):=by
 intro m hm _ _;rw[wX ahead,wX ahead];by_cases ha:(zG ahead m).2.1=0;simp only[if_pos ha];have hba:∀ x∈ahead,yu x:=fun x hx=>hb x (by simp[hx]);have hm1:=nD ahead m (fun y hy=>(hba y hy).2) hm;obtain⟨k0,k1,k2,k3,k4⟩:=Nt ahead hba m hm ha ahead.length (Zc _);rw[take_length]at k1 k2;obtain⟨f1,f2⟩:=MW hf hl (zG ahead m).1 k1 k2 ⟨k3,k4⟩;generalize (zG ahead m).1=m1 at *;suffices h:(zG (short++(next++tail)) m1).2.1=(zG (old++(next++tail)) m1).2.1∧(zG (short++(next++tail)) m1).2.2≤(zG (old++(next++tail)) m1).2.2∧(zG (short++(next++tail)) m1).1.out=(zG (old++(next++tail)) m1).1.out∧((zG (old++(next++tail)) m1).2.1=0→(zG (short++(next++tail)) m1).1=(zG (old++(next++tail)) m1).1) by exact⟨h.1,by have:=h.2.1;omega,h.2.2.1,h.2.2.2⟩
 obtain⟨o1,o2,o3⟩:=Jl old m1 hr.K.1 hm1 (hr.calm m1 hm1).1;obtain⟨s1,s2,s3⟩:=Jl short m1 hr.K.2 hm1 (hr.calm m1 hm1).2
 have app:∀ a:YL,(qB a m1).1≠0→qB (a++next) m1=qB a m1:=fun a h=>by
   unfold qB at h ⊢
   rw[show yv (a++next)=yv a++yv next by unfold yv;simp,uZ,if_neg h]
 have stop:∀ a:YL,(zG a m1).2.1≠0→zG (a++(next++tail)) m1=zG a m1:=fun a h=>by
   rw[wX,if_neg h]
 have nx:∀ a:YL,(∀ y∈a,yu y)→(zG a m1).2.1=0→(qB a m1).1=0→(qB (a++next) m1).1≠0→(zG (a++(next++tail)) m1).2.1=(qB (a++next) m1).1∧((zG (a++(next++tail)) m1).2.2:Int)=(qB (a++next) m1).2∧(zG (a++(next++tail)) m1).1.out=(zG a m1).1.out:=by
  intro a hba h0 hf0 h;cases next with
  |nil=>rw[append_nil]at h;exact absurd hf0 h
  |cons x n=>
   have:n=[]:=by simp at hn;exact hn
   subst this;exact NR hm1 hba (hb x zs) h0 hf0 h
 have hbo:∀ y∈old,yu y:=fun y hy=>(hr.K.1 y hy).1;have hbs:∀ y∈short,yu y:=fun y hy=>(hr.K.2 y hy).1;by_cases ho:(qB old m1).1=0;have ro:=o2 ho;by_cases hs:(qB short m1).1=0;have rs:=s2 hs;have e:=hr.same m1 hm1 ro rs;have t1:=(iA old m1).1 ro;have t2:=(iA short m1).1 rs;rw[wX old,wX short,if_pos ro,if_pos rs,e,t1,t2];exact⟨rfl,by simp only;omega,rfl,fun _=>rfl⟩;have rs:=(s1 hs);have e1:=app short hs;rw[e1]at f1 f2;have hne:(qB (old++next) m1).1≠0:=by rw[← f1];exact hs
 obtain⟨n1,n2,n3⟩:=nx old hbo ro ho hne;rw[stop short (by rw[rs.1];exact hs),n1,n3,rs.1,s3,o3];exact⟨f1,zo,rfl,fun h=>absurd h hne⟩;have ro:=o1 ho;have e0:=app old ho;rw[e0]at f1 f2;rw[stop old (by rw[ro.1];exact ho),ro.1,o3];by_cases hs:(qB short m1).1=0;have rs:=s2 hs;have hne:(qB (short++next) m1).1≠0:=by rw[f1];exact ho
 obtain⟨n1,n2,n3⟩:=nx short hbs rs hs hne;rw[n1,n3,s3];exact⟨f1,zo,rfl,fun h=>absurd h ho⟩;have rs:=s1 hs;have e1:=app short hs;rw[e1]at f1 f2;rw[stop short (by rw[rs.1];exact hs),rs.1,s3];exact⟨f1,zo,rfl,fun h=>absurd h ho⟩;simp only[if_neg ha];exact⟨trivial,Zc _,trivial,fun _=>trivial⟩
theorem yg{x:Int×Int}{r:YL}{m:MS}(b:0<=x.1/\x.1<=32)(h:(zG (x::r) m).2.1=0):zJ m x.1=0/\(zG r (doS m x.1 x.2)).2.1=0/\(zG (x::r) m).1=(zG r (doS m x.1 x.2)).1:=by rw[zG,qP x m b]at h ⊢;by_cases a:zJ m x.1=0;simp only[if_pos a,if_true]at h ⊢;exact⟨a,h,trivial⟩;simp only[if_neg a]at h;exact absurd h a
def jV(op:Int):Prop:=op=0\/op=1\/op=2\/op=9\/op=10\/op=11\/(14<=op/\op<=25)
theorem AL(m:MS)(op:Int)(h:jV op):wA m op=0:=by
 unfold jV at h;have a:yt op=(0,0):=by unfold yt;simp only[if_neg (show ¬(op=8\/op=28)from zo),if_neg (show ¬op=27 from zo),if_neg (show ¬op=26 from zo),if_neg (show ¬op=6 from zo),if_neg (show ¬op=7 from zo)]
 unfold wA;rw[a];simp only[if_neg (show ¬((m.G.length:Int)<0)from zo),if_neg (show ¬(0<(0:Int)/\m.la<m.G.length+0)from zo),if_neg (show ¬op=3 from zo),if_neg (show ¬op=4 from zo),if_neg (show ¬(op=29\/op=30)from zo),if_neg (show ¬(op=12\/op=13)from zo),if_neg (show ¬op=31 from zo),if_neg (show ¬op=32 from zo)]
theorem rS(m:MS)(a:MOk m)(op:Int)(h:jV op):zJ m op=0\/zJ m op=7\/zJ m op=8:=by rw[dt m a.C op (by unfold jV at h;omega),AL m op h];split;exact Zf (Zg rfl);split;exact Zf (Zf rfl);exact Zg rfl
theorem mz(r:YL):∀m:MS,(∀x∈r,yu x/\jV x.1)->MOk m->bR r m:=by
 induction r with
 |nil=>intro m _ _;trivial
 |cons x r g=>intro m b c;obtain⟨a,e⟩:=b x zs;exact⟨rS m c x.1 e,fun d=>g _ (fun y f=>b y (by simp[f])) (iK m c x.1 x.2 a.1 a.2 d)⟩
theorem BP{op:Int}(h:jV op):op<=25:=by unfold jV at h;omega
theorem gR{old short:YL}(b:∀x∈old,yu x/\jV x.1)(c:∀x∈short,yu x/\jV x.1)(h:∀m,MOk m->(zG old m).2.1=0->(zG short m).2.1=0->(zG short m).1=(zG old m).1):ko old short:=⟨fun m d=>⟨mz old m b d,mz short m c d⟩,⟨fun x a=>⟨(b x a).1,BP (b x a).2⟩,fun x a=>⟨(c x a).1,BP (c x a).2⟩⟩,h⟩
theorem cU{s:YI}(h:1<=s.length):∃t a,s=t++[a]:=by rcases Zz s with rfl|⟨t,c,rfl⟩;simp at h;exact⟨t,c,concat_eq_append⟩
theorem rO{s:YI}(h:2<=s.length):∃t a b,s=t++[a]++[b]:=by obtain⟨t,b,rfl⟩:=cU (s:=s) zo;simp at h;obtain⟨t,a,rfl⟩:=cU (s:=t) zo;exact⟨t,a,b,rfl⟩
theorem TU{s:YI}(h:3<=s.length):∃t a b c,s=t++[a]++[b]++[c]:=by obtain⟨t,b,c,rfl⟩:=rO (s:=s) zo;simp at h;obtain⟨t,a,rfl⟩:=cU (s:=t) zo;exact⟨t,a,b,c,rfl⟩
theorem qM(l:YI)(a:Int):zK (l++[a])=a:=by simp[zK]
theorem Fj{n:Int}(h:inI n):yu (0,n):=⟨zs,h⟩
theorem iM{op:Int}(h:0<=op/\op<=32):yu (op,0):=⟨h,qy⟩
theorem Vh(m:MS)(op arg:Int)(h:9<=op/\op<=20/\op≠17/\op≠18){t:YI}{a b:Int}(c:m.C=t++[a]++[b]):doS m op arg={m with C:=t++[yQ op a b]}:=by
 have e:doS m op arg={m with C:=m.C.dropLast.dropLast++[yQ op (zK m.C.dropLast) (zK m.C)]}:=by unfold doS;simp only[if_neg (show ¬op=0 from zo),if_neg (show ¬op=1 from zo),if_neg (show ¬op=2 from zo),if_neg (show ¬op=3 from zo),if_neg (show ¬op=4 from zo),if_neg (show ¬op=5 from zo),if_neg (show ¬op=6 from zo),if_neg (show ¬op=7 from zo),if_neg (show ¬(op=8\/op=28)from zo),if_neg (show ¬op=17 from zo),if_neg (show ¬op=18 from zo),if_pos (show 9<=op/\op<=20 from zo)]
 rw[e,c,Zx,Zx,qM,qM]
theorem rz{op:Int}(h:9<=op/\op<=20/\op≠17/\op≠18):(zY op).1=2:=by have a:op=9\/op=10\/op=11\/op=12\/op=13\/op=14\/op=15\/op=16\/op=19\/op=20:=zo;(repeat' rcases a with rfl|a)<;>decide
theorem aF(m:MS)(n:Int):doS m 0 n={m with C:=m.C++[n]}:=rfl
theorem eK{op:Int}(h:jV op/\9<=op/\op<=20/\op≠17/\op≠18)(k:∀u t,yQ op t u=yQ op u t):ko [(23,0),(op,0)] [(op,0)]:=by
 have e:yu (op,0):=iM zo;refine gR (fun x d=>?_) (fun x d=>?_) (fun m _ n o=>?_);simp at d;rcases d with rfl|rfl;exact⟨iM zs,zy⟩;exact⟨e,h.1⟩;simp at d;subst d;exact⟨e,h.1⟩;obtain⟨p,q,f⟩:=yg zs n;obtain⟨r,_,g⟩:=yg e.1 q;obtain⟨v,_,i⟩:=yg e.1 o;have l:=kK p;obtain⟨t,a,b,c⟩:=rO (s:=m.C) (by simp[zY]at l;omega);have j:doS m 23 0={m with C:=t++[b]++[a]}:=by have:doS m 23 0={m with C:=m.C.dropLast.dropLast++[zK m.C,zK m.C.dropLast]}:=rfl;rw[this,c,Zx,Zx,qM,qM,Zy];rfl
 rw[i,f,g,j];simp only[zG];rw[Vh m op 0 h.2 c,Vh _ op 0 h.2 (t:=t) (a:=b) (b:=a) rfl,k]
theorem dY{k op:Int}(n:inI k)(h:9<=op/\op<=20/\op≠17/\op≠18)(l:∀u,inI u->yQ op u k=u)(c:∀m,MOk m->bR [(0,k),(op,0)] m):ko [(0,k),(op,0)] []:=by refine⟨fun m f=>⟨c m f,trivial⟩,⟨fun x e=>?_,fun x e=>by simp at e⟩,fun m f o _=>?_⟩;simp at e;rcases e with rfl|rfl;exact⟨Fj n,zs⟩;exact⟨iM zo,by simp only;omega⟩;obtain⟨r,p,i⟩:=yg zs o;obtain⟨q,_,j⟩:=yg (by simp only;omega) p;have g:=kK q;simp only at g;rw[rz h,aF]at g;obtain⟨t,a,d⟩:=cU (s:=m.C) (by simp at g;omega);rw[i,j];simp only[zG];rw[Vh _ op 0 h (t:=t) (a:=a) (b:=k) (by rw[aF];simp only;rw[d]),l a (f.ints.1 a (by rw[d];simp)),aF];simp only;rw[<-d]
theorem fF{k op:Int}(b:inI k)(h:jV op)(m:MS)(c:MOk m):bR [(0,k),(op,0)] m:=by refine mz _ m (fun x a=>?_) c;simp at a;rcases a with rfl|rfl;exact⟨Fj b,Zg rfl⟩;exact⟨iM (by unfold jV at h;omega),h⟩
theorem PX(m:MS)(b:MOk m):bR [(0,1),(12,0)] m:=by
 refine⟨rS m b 0 (Zg rfl),fun c=>⟨?_,fun _=>trivial⟩⟩;have a:=iK m b 0 1 zs (by unfold inI;simp) c;show zJ (doS m 0 1) 12=0\/zJ (doS m 0 1) 12=7\/zJ (doS m 0 1) 12=8;rw[dt _ a.C 12 zs];have e:wA (doS m 0 1) 12=0:=by
  have d:xZ (doS m 0 1)=1:=by rw[aF];unfold xZ;simp
  unfold wA;rw[d];have:¬(((doS m 0 1).G.length:Int)<0):=zo;simp[yt,this]
 rw[e];split;exact Zf (Zg rfl);split;exact Zf (Zf rfl);exact Zg rfl
theorem wK{old short:YL}(b:∀x∈old,x=(23,0)\/x=(25,0)\/x=(17,0)\/x=(18,0)\/x=(21,0)\/x=(22,0)\/x=(24,0)\/x=(9,0)\/x=(10,0))(c:∀x∈short,x=(21,0)\/x=(9,0)\/x=(10,0))(h:∀m,MOk m->(zG old m).2.1=0->(zG short m).2.1=0->(zG short m).1=(zG old m).1):ko old short:=by refine gR (fun x a=>?_) (fun x a=>?_) h;rcases b x a with rfl|rfl|rfl|rfl|rfl|rfl|rfl|rfl|rfl<;>exact⟨iM zs,zy⟩;rcases c x a with rfl|rfl|rfl<;>exact⟨iM zs,zy⟩
theorem Br(m:MS){t:YI}{a b:Int}(h:m.C=t++[a]++[b]):doS m 23 0={m with C:=t++[b]++[a]}:=by have:doS m 23 0={m with C:=m.C.dropLast.dropLast++[zK m.C,zK m.C.dropLast]}:=rfl;rw[this,h,Zx,Zx,qM,qM,Zy];rfl
theorem EE(m:MS){t:YI}{a b c:Int}(h:m.C=t++[a]++[b]++[c]):doS m 25 0={m with C:=t++[b]++[c]++[a]}:=by have:doS m 25 0={m with C:=m.C.dropLast.dropLast.dropLast++[zK m.C.dropLast,zK m.C,zK m.C.dropLast.dropLast]}:=rfl;rw[this,h,Zx,Zx,Zx,qM,qM,qM,Zy,Zy];rfl
theorem MO(m:MS){t:YI}{a:Int}(h:m.C=t++[a]):doS m 17 0={m with C:=t++[-1-a]}:=by have:doS m 17 0={m with C:=m.C.dropLast++[-1-zK m.C]}:=rfl;rw[this,h,Zx,qM]
theorem ED(m:MS){t:YI}{a:Int}(h:m.C=t++[a]):doS m 18 0={m with C:=t++[wrap64 (-a)]}:=by have:doS m 18 0={m with C:=m.C.dropLast++[wrap64 (-zK m.C)]}:=rfl;rw[this,h,Zx,qM]
theorem MN(m:MS){t:YI}{a:Int}(h:m.C=t++[a]):doS m 21 0={m with C:=t++[a]++[a]}:=by have:doS m 21 0={m with C:=m.C++[zK m.C]}:=rfl;rw[this,h,qM]
theorem Jo(m:MS){t:YI}{a:Int}(h:m.C=t++[a]):doS m 22 0={m with C:=t}:=by have:doS m 22 0={m with C:=m.C.dropLast}:=rfl;rw[this,h,Zx]
theorem Sn(m:MS){t:YI}{a b:Int}(h:m.C=t++[a]++[b]):doS m 24 0={m with C:=t++[a]++[b]++[a]}:=by have:doS m 24 0={m with C:=m.C++[zK m.C.dropLast]}:=rfl;rw[this,h,Zx,qM]
theorem bF(m:MS){s:YI}(h:m.C=s):({m with C:=s}:MS)=m:=by subst h;rfl
theorem QN:ko [(23,0),(23,0)] []:=by refine wK zs zs (fun m _ g _=>?_);obtain⟨h,i,d⟩:=yg zs g;obtain⟨_,_,e⟩:=yg zs i;have f:=kK h;obtain⟨t,a,b,c⟩:=rO (s:=m.C) (by simp[zY]at f;omega);rw[d,e];simp only[zG];rw[Br m c,Br _ (t:=t) (a:=b) (b:=a) rfl];exact(bF m c).symm
theorem SK:ko [(25,0),(25,0),(25,0)] []:=by refine wK zs zs (fun m _ i _=>?_);obtain⟨j,k,e⟩:=yg zs i;obtain⟨_,l,f⟩:=yg zs k;obtain⟨_,_,g⟩:=yg zs l;have h:=kK j;obtain⟨t,a,b,c,d⟩:=TU (s:=m.C) (by simp[zY]at h;omega);rw[e,f,g];simp only[zG];rw[EE m d,EE {m with C:=t++[b]++[c]++[a]} (t:=t) (a:=b) (b:=c) (c:=a) rfl,EE {m with C:=t++[c]++[a]++[b]} (t:=t) (a:=c) (b:=a) (c:=b) rfl];exact(bF m d).symm
theorem SI:ko [(17,0),(17,0)] []:=by refine wK zs zs (fun m _ f _=>?_);obtain⟨g,h,c⟩:=yg zs f;obtain⟨_,_,d⟩:=yg zs h;have e:=kK g;obtain⟨t,a,b⟩:=cU (s:=m.C) (by simp[zY]at e;omega);rw[c,d];simp only[zG];rw[MO m b,MO _ (t:=t) (a:=-1-a) rfl,show -1-(-1-a)=a from zo];exact(bF m b).symm
theorem SJ:ko [(18,0),(18,0)] []:=by refine wK zs zs (fun m f h _=>?_);obtain⟨i,j,c⟩:=yg zs h;obtain⟨_,_,d⟩:=yg zs j;have g:=kK i;obtain⟨t,a,b⟩:=cU (s:=m.C) (by simp[zY]at g;omega);have e:inI a:=f.ints.1 a (by rw[b];simp);rw[c,d];simp only[zG];rw[ED m b,ED _ (t:=t) (a:=wrap64 (-a)) rfl,show wrap64 (-wrap64 (-a))=a by unfold inI at e;unfold wrap64;omega];exact(bF m b).symm
theorem Le:ko [(21,0),(22,0)] []:=by refine wK zs zs (fun m _ f _=>?_);obtain⟨g,h,c⟩:=yg zs f;obtain⟨_,_,d⟩:=yg zs h;have e:=kK g;obtain⟨t,a,b⟩:=cU (s:=m.C) (by simp[zY]at e;omega);rw[c,d];simp only[zG];rw[MN m b,Jo _ (t:=t++[a]) (a:=a) rfl];exact(bF m b).symm
theorem Ik:ko [(24,0),(22,0)] []:=by refine wK zs zs (fun m _ g _=>?_);obtain⟨h,i,d⟩:=yg zs g;obtain⟨_,_,e⟩:=yg zs i;have f:=kK h;obtain⟨t,a,b,c⟩:=rO (s:=m.C) (by simp[zY]at f;omega);rw[d,e];simp only[zG];rw[Sn m c,Jo _ (t:=t++[a]++[b]) (a:=a) rfl];exact(bF m c).symm
theorem Lf:ko [(21,0),(23,0)] [(21,0)]:=by refine wK zs zs (fun m _ h i=>?_);obtain⟨j,k,d⟩:=yg zs h;obtain⟨_,_,e⟩:=yg zs k;obtain⟨_,_,f⟩:=yg zs i;have g:=kK j;obtain⟨t,a,c⟩:=cU (s:=m.C) (by simp[zY]at g;omega);rw[d,e,f];simp only[zG];rw[MN m c,Br _ (t:=t) (a:=a) (b:=a) rfl]
theorem Cw{op c:Int}(h:op=9/\c=10\/op=10/\c=9):ko [(18,0),(op,0)] [(c,0)]:=by
 have l:9<=op/\op<=20/\op≠17/\op≠18:=zo;have d:9<=c/\c<=20/\c≠17/\c≠18:=zo;refine wK (fun x f=>?_) (fun x f=>?_) (fun m _ n o=>?_);simp at f;rcases f with rfl|rfl;simp;rcases h with⟨rfl,_⟩|⟨rfl,_⟩<;>simp;simp at f;subst f;rcases h with⟨_,rfl⟩|⟨_,rfl⟩<;>simp;obtain⟨r,p,i⟩:=yg zs n;obtain⟨u,_,j⟩:=yg (by simp only;omega) p;obtain⟨q,_,k⟩:=yg (by simp only;omega) o;have g:=kK q;simp only at g;rw[rz d]at g;obtain⟨t,a,b,e⟩:=rO (s:=m.C) zo;rw[i,j,k];simp only[zG];rw[ED m e,Vh _ op 0 l (t:=t) (a:=a) (b:=wrap64 (-b)) rfl,Vh m c 0 d e];have:yQ c a b=yQ op a (wrap64 (-b)):=by rcases h with⟨rfl,rfl⟩|⟨rfl,rfl⟩;show wrap64 (a-b)=wrap64 (a+wrap64 (-b));unfold wrap64;omega;show wrap64 (a+b)=wrap64 (a-wrap64 (-b));unfold wrap64;omega
 rw[this]
theorem BG{x:Int×Int}(h:kL x=Y):x.1=0\/9<=x.1/\x.1<=25:=of_decide_eq_true h
theorem mA(base s:YI)(h:1<=s.length):zK (base++s)=zK s:=by obtain⟨t,a,rfl⟩:=cU h;rw[<-Zy,qM,qM]
theorem lp(base s:YI)(h:1<=s.length):(base++s).dropLast=base++s.dropLast:=by obtain⟨t,a,rfl⟩:=cU h;rw[<-Zy,Zx,Zx]
theorem Qh(m g:MS)(op arg:Int)(h:op=0\/9<=op/\op<=25)(base:YI)(a:m.C=base++g.C)(l:(zY op).1<=(g.C.length:Int)):doS m op arg={m with C:=base++(doS g op arg).C}:=by
 have e:op=0\/op=9\/op=10\/op=11\/op=12\/op=13\/op=14\/op=15\/op=16\/op=17\/op=18\/op=19\/op=20\/op=21\/op=22\/op=23\/op=24\/op=25:=zo;clear h;(repeat' rcases e with rfl|e);all_goals simp[zY]at l
 rw[aF,aF,a,Zy];all_goals have i:1<=g.C.length:=zo;have c:=mA base g.C i;have b:=lp base g.C i
 all_goals first | (show({m with C:=m.C.dropLast++[-1-zK m.C]}:MS)={m with C:=base++(g.C.dropLast++[-1-zK g.C])};rw[a,c,b,Zy];done) | (show({m with C:=m.C.dropLast++[wrap64 (-zK m.C)]}:MS)={m with C:=base++(g.C.dropLast++[wrap64 (-zK g.C)])};rw[a,c,b,Zy];done) | (show({m with C:=m.C++[zK m.C]}:MS)={m with C:=base++(g.C++[zK g.C])};rw[a,c,Zy];done) | (show({m with C:=m.C.dropLast}:MS)={m with C:=base++g.C.dropLast};rw[a,b];done) | skip
 all_goals have j:1<=g.C.dropLast.length:=zp;have d:=mA base g.C.dropLast j;have f:=lp base g.C.dropLast j
 all_goals first | (show({m with C:=m.C.dropLast.dropLast++[yQ _ (zK m.C.dropLast) (zK m.C)]}:MS)={m with C:=base++(g.C.dropLast.dropLast++[yQ _ (zK g.C.dropLast) (zK g.C)])};rw[a,c,b,d,f,Zy];done) | (show({m with C:=m.C.dropLast.dropLast++[zK m.C,zK m.C.dropLast]}:MS)={m with C:=base++(g.C.dropLast.dropLast++[zK g.C,zK g.C.dropLast])};rw[a,c,b,d,f,Zy];done) | (show({m with C:=m.C++[zK m.C.dropLast]}:MS)={m with C:=base++(g.C++[zK g.C.dropLast])};rw[a,b,d,Zy];done) | skip
 have k:1<=g.C.dropLast.dropLast.length:=zp;have n:=mA base g.C.dropLast.dropLast k;have o:=lp base g.C.dropLast.dropLast k;show({m with C:=m.C.dropLast.dropLast.dropLast++[zK m.C.dropLast,zK m.C,zK m.C.dropLast.dropLast]}:MS)={m with C:=base++(g.C.dropLast.dropLast.dropLast++[zK g.C.dropLast,zK g.C,zK g.C.dropLast.dropLast])};rw[a,c,b,d,f,n,o,Zy]
theorem Nf (r:YL):∀ (m g:MS) (base:YI),(∀ x∈r,yu x∧kL x=Y)→MOk m→m.C=base++g.C→(zG r g).2.1=0→bR r m∧((zG r m).2.1=0→(zG r m).1={ m with C:=base++(zG r g).1.C }):=by
 induction r with
 |nil=>intro m g base _ _ hs _;exact⟨trivial,fun _=>(bF m hs).symm⟩
 |cons x r ih=>
  intro m g base hb hm hs h0;obtain⟨hx,hxr⟩:=hb x zs;have hop:=BG hxr;obtain⟨g1,g2,g3⟩:=yg hx.1 h0;have hn:=kK g1;have ed:=Qh m g x.1 x.2 hop base hs hn;have hre:=dt m hm.C x.1 hx.1;have hex:wA m x.1=0:=by
   by_cases h12:x.1=12∨x.1=13;have ht:xZ g≠0:=by
    intro ht;have e:zJ g x.1=13:=by
     have e2:zJ g x.1=if (g.C.length:Int)<(zY x.1).1 then 7 else if 0<(zY x.1).2∧g.ls<g.C.length+(zY x.1).2 then 8 else wA g x.1:=rfl
     have e3:wA g x.1=13:=by unfold wA;have h0':¬ ((g.G.length:Int)<0):=zo;rcases h12 with e|e<;>(rw[e,ht];simp[yt,h0'])
     have h8:¬ 0<(zY x.1).2:=by rcases h12 with e|e<;>(rw[e];decide)
     rw[e2,if_neg zo,if_neg (fun h=>h8 h.1),e3]
    rw[e]at g1;cases g1
   have hl:1≤g.C.length:=by rcases h12 with e|e<;>(rw[e]at hn;simp[zY]at hn;omega)
   have htm:xZ m=xZ g:=by show zK m.C=zK g.C;rw[hs,mA base g.C hl]
   unfold wA;rw[htm];have h0':¬ ((m.G.length:Int)<0):=zo;rcases h12 with e|e<;>(rw[e];simp[yt,h0',ht]);refine AL m x.1 ?_;unfold jV;omega
  rw[hex]at hre;have hr3:zJ m x.1=0∨zJ m x.1=7∨zJ m x.1=8:=by rw[hre];split;exact Zf (Zg rfl);split;exact Zf (Zf rfl);exact Zg rfl
  have rest:zJ m x.1=0→bR r (doS m x.1 x.2)∧((zG r (doS m x.1 x.2)).2.1=0→(zG r (doS m x.1 x.2)).1={ (doS m x.1 x.2) with C:=base++(zG r (doS g x.1 x.2)).1.C }):=fun h =>
    ih (doS m x.1 x.2) (doS g x.1 x.2) base (fun y hy=>hb y (by simp[hy])) (iK m hm x.1 x.2 hx.1 hx.2 h) (by rw[ed]) g2
  refine⟨⟨hr3,fun h=>(rest h).1⟩,fun hm0=>?_⟩;obtain⟨m1,m2,m3⟩:=yg hx.1 hm0;rw[m3,(rest m1).2 m2,g3,ed]
theorem QB(st:YI):∀m:MS,(zG (st.map (fun p=>((0:Int),p))) m).2.1=0->(zG (st.map (fun p=>((0:Int),p))) m).1={m with C:=m.C++st}:=by
 induction st with
 |nil=>intro m _;simp[zG]
 |cons a st d=>intro m h;obtain⟨_,b,c⟩:=yg (x:=(0,a)) zs h;rw[map_cons,c,d _ b];simp only[aF];rw[Zy];rfl
theorem FL {row s:YL} (h:yH row=O s):row.all kL=Y∧∃ st:YI,s=st.map (fun p=>((0:Int),p))∧(zG row { zZ 0 1000 1000 1000 1000 0 0 with pc:=((0+row.length:Nat):Int) }).2.1=0∧(zG row { zZ 0 1000 1000 1000 1000 0 0 with pc:=((0+row.length:Nat):Int) }).1.C=st:=by
 unfold yH at h;split at h;cases h;rename_i h1;split at h;cases h;rename_i h2;have hall:row.all kL=Y:=by
  cases e:row.all kL with
  |true=>rfl
  |false=>exact absurd (Zf e) h1
 refine⟨hall,(xz row).1.C,(Zl h).symm,?_⟩;have h0:(xz row).2.1=0:=by refine Classical.byContradiction (fun hne=>h2 (Zg hne))
 obtain⟨k,_,_,hE⟩:=lG (row++[(5,0)]) (row.length+1) 0 (zZ 0 1000 1000 1000 1000 0 0) (by show (xz row).2.1≠15;rw[h0];decide);have eo:jH (zO (row++[(5,0)]) (row.length+1) 0 (zZ 0 1000 1000 1000 1000 0 0))=(0,(xz row).1.C,(xz row).1.cells,(xz row).1.out):=by show jH (xz row)=_;unfold jH;rw[h0];rfl
 rw[eo]at hE
 have hpl:∀ y∈row,yM y.1:=fun y hy=>by
   have:=BG (all_eq_true.1 hall y hy)
   unfold yM
   omega
 have hrow:=tU (l:=row++[(5,0)]) row 0 (zZ 0 1000 1000 1000 1000 0 0) (fun i x hx=>by
   rw[Nat.zero_add,Zu (Zb.1 hx).1]
   exact hx) (rG hpl) rfl rfl
 have hkeep:=FW row { zZ 0 1000 1000 1000 1000 0 0 with pc:=((0+row.length:Nat):Int) } hpl;generalize zG row { zZ 0 1000 1000 1000 1000 0 0 with pc:=((0+row.length:Nat):Int) }=z at *;by_cases hz:z.2.1=0;refine⟨hz,?_⟩;obtain⟨k',_,hE2⟩:=(hrow.2 hz).2 _ _ hE;have hzl:(row++[((5:Int),(0:Int))])[z.1.pc.toNat]? = O (5,0):=by rw[hkeep.1];simp
 have hzh:z.1.aE=Z:=hkeep.2.1;have hs:=jA hzl;have r5:zJ { z.1 with pc:=z.1.pc+1 } 5=0:=by unfold zJ;have h1':¬ ((z.1.C.length:Int)<0):=zo;have h2':¬ ((z.1.G.length:Int)<0):=zo;simp[zY,yt,h1',h2']
 rw[qP _ _ zs,r5,if_pos rfl]at hs;have hs1:(yb (row++[(5,0)]) z.1).1.aE=Y:=by rw[hs];rfl
 have hs2:(yb (row++[(5,0)]) z.1).1.C=z.1.C:=by rw[hs];rfl
 generalize ho:((0:Int),(xz row).1.C,(xz row).1.cells,(xz row).1.out)=o at hE2;cases hE2 with
 |halt h1=>rw[hzh]at h1;cases h1
 |err _ h1=>rw[hs]at h1;exact absurd rfl h1
 |step _ _ h2=>
  cases h2 with
  |halt _=>simp only[Prod.mk.injEq]at ho;rw[ho.2.1,hs2]
  |err h1 _=>rw[hs1]at h1;cases h1
  |step h1 _ _=>rw[hs1]at h1;cases h1
 exfalso;have:=((hrow.1 hz).2 _ _ hE).2;simp only[Prod.mk.injEq]at this;exact hz this.1.symm
theorem Il{row s:YL}(e:∀x∈row,yu x)(h:yH row=O s):ko row s:=by
 have f:=lD (fun x a=>(e x a).2) h;obtain⟨d,st,rfl,k,g⟩:=FL h;have j:∀x∈row,yu x/\kL x=Y:=fun x a=>⟨e x a,all_eq_true.1 d x a⟩;have i:=fun m (c:MOk m)=>Nf row m {zZ 0 1000 1000 1000 1000 0 0 with pc:=((0+row.length:Nat):Int)} m.C j c (by simp[zZ]) k
 have b:∀x∈st.map (fun p=>((0:Int),p)),yu x/\jV x.1:=fun x a=>by
   refine⟨f x a,?_⟩
   obtain⟨p,_,rfl⟩:=mem_map.1 a
   exact Zg rfl
 refine⟨fun m c=>⟨(i m c).1,mz _ m b c⟩,⟨fun x a=>⟨e x a,by have:=BG (j x a).2;omega⟩,fun x a=>⟨(b x a).1,BP (b x a).2⟩⟩,fun m c l n=>?_⟩;rw[QB st m n,(i m c).2 l,g]
theorem lx{f g j o:Int}(h:wE f g=O (j,o)):(∀p,p=f\/p=g\/p=j\/p=o->p=9\/p=10\/p=11\/p=14\/p=15\/p=16):=by unfold wE at h;intro p a;split at h;simp only[Zs,Prod.mk.injEq]at h;omega;split at h;simp only[Zs,Prod.mk.injEq]at h;omega;split at h;cases h;split at h;simp only[Zs,Prod.mk.injEq]at h;omega;cases h
theorem Lc {row s:YL} (hb:∀ x∈row,yu x) (h:qN row=O s):ko row s:=by
 have hsb:=tg (fun x hx=>(hb x hx).2) h;unfold qN at h;split at h;rename_i a b c d;split at h;rename_i hac;split at h;rename_i j o hl;cases hr:yH [(0,a.2),(0,c.2),(j,0)] with
 |none=>rw[hr]at h;cases h
 |some t=>
  rw[hr]at h;obtain rfl:=Zl h;have hj:=lx hl j zs;have ho:=lx hl o zs;have hbb:=lx hl b.1 zs;have hd:=lx hl d.1 zs;obtain⟨_,st,rfl,h0,hst⟩:=FL hr;have est:st=[yQ j a.2 c.2]:=by obtain⟨_,q1,q2⟩:=yg zs h0;obtain⟨_,q3,q4⟩:=yg zs q1;obtain⟨_,q5,q6⟩:=yg (by simp only;omega) q3;rw[q2,q4,q6]at hst;simp only[zG]at hst;rw[Vh _ j 0 zo (t:=[]) (a:=a.2) (b:=c.2) rfl]at hst;exact hst.symm
  subst est;have ha2:=(hb a zs).2;have hc2:=(hb c zs).2;have htame:∀ p:Int,(p=9∨p=10∨p=11∨p=14∨p=15∨p=16)→jV p:=fun p hp=>by unfold jV;omega
  refine gR (fun x hx=>?_) (fun x hx=>?_) (fun m _ hold hnew=>?_);simp at hx;rcases hx with rfl|rfl|rfl|rfl;exact⟨hb _ zs,Zg hac.1⟩;exact⟨hb _ zs,htame _ hbb⟩;exact⟨hb _ zs,Zg hac.2⟩;exact⟨hb _ zs,htame _ hd⟩;refine⟨hsb x hx,?_⟩;simp at hx;rcases hx with rfl|rfl;exact Zg rfl;exact htame _ ho;have hnew:(zG [(0,yQ j a.2 c.2),(o,0)] m).2.1=0:=hnew;obtain⟨_,o1,f1⟩:=yg (hb a zs).1 hold;obtain⟨n1,o2,f2⟩:=yg (hb b zs).1 o1;obtain⟨_,o3,f3⟩:=yg (hb c zs).1 o2;obtain⟨_,_,f4⟩:=yg (hb d zs).1 o3;obtain⟨_,o5,f5⟩:=yg (x:=(0,yQ j a.2 c.2)) zs hnew;obtain⟨_,_,f6⟩:=yg (x:=(o,0)) (by simp only;omega) o5;have hn:=kK n1;rw[rz zo,hac.1,aF]at hn;obtain⟨t,u,hu⟩:=cU (s:=m.C) (by simp at hn;omega);have e5:(zG [(0,yQ j a.2 c.2),(o,0)] m).1={ m with C:=t++[yQ o u (yQ j a.2 c.2)] }:=by rw[f5,f6];simp only[zG];rw[Vh _ o 0 zo (t:=t) (a:=u) (b:=yQ j a.2 c.2) (by rw[aF,hu])];rfl
  have e1:(zG [a,b,c,d] m).1={ m with C:=t++[yQ d.1 (yQ b.1 u a.2) c.2] }:=by rw[f1,f2,f3,f4,hac.1,hac.2];simp only[zG];rw[Vh (doS m 0 a.2) b.1 b.2 zo (t:=t) (a:=u) (b:=a.2) (by rw[aF,hu]),Vh _ d.1 d.2 zo (t:=t) (a:=yQ b.1 u a.2) (b:=c.2) rfl];rfl
  show (zG [(0,yQ j a.2 c.2),(o,0)] m).1=_;rw[e5,e1,SC hl]
 cases h;cases h;cases h
theorem Ld{row s:YL}(g:∀x∈row,yu x)(h:jl row=O s):ko row s:=by
 have k:=th (fun x d=>(g x d).2) h;unfold jl at h;split at h;rename_i a b;split at h;rename_i c
 have e:∀x∈[a,b],yu x/\jV x.1:=fun x d=>by
   refine⟨g x d,?_⟩
   simp at d
   rcases d with rfl|rfl
   · exact Zg c.1
   · exact Zf (Zf (Zg c.2))
 have run:∀m,(zG [a,b] m).2.1=0->(zG [a,b] m).1=if a.2=0 then {m with pc:=b.2}else m:=by intro m f;obtain⟨_,o,i⟩:=yg (g a zs).1 f;obtain⟨_,_,l⟩:=yg (g b zs).1 o;rw[i,l,c.1,c.2,aF];simp only[zG];show(if zK (m.C++[a.2])=0 then({m with C:=(m.C++[a.2]).dropLast,pc:=b.2}:MS)else {m with C:=(m.C++[a.2]).dropLast})=_;rw[qM,Zx]
 split at h;rename_i j;obtain rfl:=Zl h;refine gR e zs (fun m _ f _=>?_);rw[run m f,if_neg j];rfl;rename_i he;obtain rfl:=Zl h;refine gR e (fun x d=>?_) (fun m _ f n=>?_);refine⟨k x d,?_⟩;simp at d;subst d;exact Zf (Zg rfl);have he:a.2=0:=by simpa using he
 obtain⟨_,_,i⟩:=yg (x:=(1,b.2)) zs n;rw[run m f,if_pos he,i];rfl;cases h;cases h
theorem Oj{r:YL->Option (YL)}(d:r∈kz){row s:YL}(e:∀x∈row,yu x)(h:r row=O s):ko row s:=by
 unfold kz at d;simp only[mem_cons,not_mem_nil,or_false]at d;have c:inI 1:=by unfold inI;simp
 have b:inI (-1):=by unfold inI;simp
 rcases d with rfl|rfl|rfl|d;exact Il e h;exact Lc e h;exact Ld e h;(repeat' rcases d with rfl|d)<;>obtain⟨rfl,rfl⟩:=fM h;exact QN;exact SK;exact SI;exact SJ;exact Le;exact Ik;exact Lf;exact Cw (Zg ⟨rfl,rfl⟩);exact Cw (Zf ⟨rfl,rfl⟩);exact eK zy (fun u t=>by show wrap64 (t+u)=wrap64 (u+t);rw[Int.add_comm]);exact eK zy (fun u t=>by show wrap64 (t*u)=wrap64 (u*t);rw[Int.mul_comm]);exact eK zy (fun u t=>Mh t u);exact eK zy (fun u t=>QP t u);exact eK zy (fun u t=>PK t u)
 exact eK zy (fun u t=>by
   show dG (t==u)=dG (u==t)
   rw[BEq.comm])
 exact dY qy zs (fun u a=>by show wrap64 (u+0)=u;rw[Int.add_zero,BT a]) (fF qy zy);exact dY qy zs (fun u a=>by show wrap64 (u-0)=u;rw[Int.sub_zero,BT a]) (fF qy zy);exact dY c zs (fun u a=>by show wrap64 (u*1)=u;rw[Int.mul_one,BT a]) (fF c zy);exact dY c zs (fun u _=>Sg) PX;exact dY b zs (fun u a=>PR a) (fF b zy);exact dY qy zs (fun u a=>SO a) (fF qy zy);exact dY qy zs (fun u a=>RT a) (fF qy zy)
theorem LB{r:YL->Option (YL)}(e:r∈kz){row s:YL}(h:r row=O s):(∀x∈s,yM x.1)\/((∃y,row.getLast? = O y/\y.1=2)/\s.length<=1):=by
 have f:∀{row s:YL},yH row=O s->∀x∈s,x.1=0:=by intro row s h x g;unfold yH at h;split at h;cases h;split at h;cases h;obtain rfl:=Zl h;obtain⟨p,_,rfl⟩:=mem_map.1 g;rfl
 unfold kz at e;simp only[mem_cons,not_mem_nil,or_false]at e;rcases e with rfl|rfl|rfl|e;left;intro x g;have:=f h x g;unfold yM;omega;left;intro x g;unfold qN at h;split at h;rename_i a b c d;split at h;split at h;rename_i j o l;cases e:yH [(0,a.2),(0,c.2),(j,0)]with
 |none=>rw[e]at h;cases h
 |some t=>rw[e]at h;obtain rfl:=Zl h;have m:=lx l o zs;rcases Zo.1 g with i|i;have:=f e x i;unfold yM;omega;simp at i;subst i;unfold yM;simp only;omega
 cases h;cases h;cases h;right;unfold jl at h;split at h;rename_i a b;split at h;rename_i k;refine⟨⟨b,rfl,k.2⟩,?_⟩;split at h<;>(obtain rfl:=Zl h;simp);cases h;cases h;left;(repeat' rcases e with rfl|e) <;>(obtain⟨_,rfl⟩:=fM h;decide)
theorem Lp{ahead old s rest:YL}(h:xJ (ahead++(old++rest)))(l:old≠[])(b:(∀x∈s,yM x.1)\/((∃y,old.getLast? = O y/\y.1=2)/\s.length<=1)):xJ (ahead++(s++rest)):=by
 have m:=length_pos_iff.2 l;intro i x a g;by_cases f:i<ahead.length;rw[Zu f]at a;exact h i x (by rw[Zu f];exact a) zp;rw[Zw zo]at a;simp only[Zi]at g;rcases b with b|⟨⟨y,j,e⟩,b⟩;by_cases k:i-ahead.length<s.length;rw[Zu k]at a;exact b x (Zd a);rw[Zw zo]at a;refine h (ahead.length+(old.length+(i-ahead.length-s.length))) x ?_ zp;rw[Zw zo,Nat.add_sub_cancel_left,Zw zo,Nat.add_sub_cancel_left];exact a;exfalso;have d:rest=[]:=by refine Classical.byContradiction (fun c=>?_);have n:=length_pos_iff.2 c;rw[getLast?_eq_getElem?]at j;have:=h (ahead.length+(old.length-1)) y (by rw[Zw zo,Nat.add_sub_cancel_left,Zu zo];exact j) zp;exact this.2.1 e
 subst d;simp at g;omega
theorem IL{nxt:Int}{row rest s:YL}{size:Nat}(o:∀x∈row++rest,yu x)(h:ql row (rest.take 1)=O (s,size)):jj nxt (row++rest) (row.take (row.length-size)++s++rest)/\(xJ (row++rest)->xJ (row.take (row.length-size)++s++rest)):=by
 have y:=bM h;unfold ql at h;obtain⟨n,B,w⟩:=exists_of_findSome?_eq_some h;obtain⟨t,p,e⟩:=Option.map_eq_some_iff.1 w;simp only[Prod.mk.injEq]at e;obtain⟨rfl,rfl⟩:=e;unfold wg at p;obtain⟨r,i,c⟩:=exists_of_findSome?_eq_some p;unfold fj at c;split at c;rename_i j b;split at c;rename_i u;obtain rfl:=Zl c;have k:row=row.take (row.length-n)++row.drop (row.length-n):=(take_append_drop _ _).symm;have l:rest=rest.take 1++rest.drop 1:=(take_append_drop _ _).symm;have g:∀x∈row.drop (row.length-n),yu x:=fun x z=>o x (Zo.2 (Zg (mem_of_mem_drop z)));have f:=Oj i g b;have a:=oI i b;have m:row++rest=row.take (row.length-n)++(row.drop (row.length-n)++(rest.take 1++rest.drop 1)):=by rw[<-l,<-Zy,<-k]
 have q:row.take (row.length-n)++j++rest=row.take (row.length-n)++(j++(rest.take 1++rest.drop 1)):=by rw[<-l,Zy]
 refine⟨?_,fun v=>?_⟩;rw[q];have:=IC (nxt:=nxt) (ahead:=row.take (row.length-n)) (old:=row.drop (row.length-n)) (short:=j) (next:=rest.take 1) (tail:=rest.drop 1) (by rw[<-m];exact o) f zo (by rw[length_take];omega) u;rw[<-m]at this;exact this;rw[Zy];refine Lp (old:=row.drop (row.length-n)) ?_ (fun d=>?_) (LB i b);rw[<-Zy,<-k];exact v;rw[d]at a;simp at a;cases c;cases c
theorem II {nxt:Int} {rest:YL} (n:Nat):∀ row:YL,(∀ x∈row++rest,yu x)→xJ (row++rest)→jj nxt (row++rest) (xb (rest.take 1) n row++rest)∧xJ (xb (rest.take 1) n row++rest):=by
 induction n with
 |zero=>intro row _ hp;exact⟨jj.refl _ _,hp⟩
 |succ n ih=>
  intro row hb hp;unfold xb;split;rename_i s size hs;obtain⟨h1,h2⟩:=IL (nxt:=nxt) hb hs
  obtain⟨i1,i2⟩:=ih (row.take (row.length-size)++s) (fun x hx=>by
    rcases Zo.1 hx with hx|hx
    · rcases Zo.1 hx with hx|hx
      · exact hb x (Zo.2 (Zg (mem_of_mem_take hx)))
      · exact mP (fun y hy=>hb y (Zo.2 (Zg hy))) hs x hx
    · exact hb x (Zo.2 (Zf hx))) (h2 hp)
  exact⟨h1.trans i1,i2⟩;exact⟨jj.refl _ _,hp⟩
theorem EF {nxt:Int} {row:YL} (hb:∀ x∈row,yu x) (hp:xJ row) (k:Nat) (hk:k≤row.length):jj nxt row (xg row k++row.drop k)∧xJ (xg row k++row.drop k):=by
 induction k with
 |zero=>simp only[xg,drop_zero,nil_append];exact⟨jj.refl _ _,hp⟩
 |succ k ih=>
  obtain⟨h1,h2⟩:=ih zo;obtain⟨x,hx⟩:∃ x,row[k]? = O x:=⟨_,Za zo⟩;have e:row.drop k=[x]++row.drop (k+1):=by rw[drop_eq_getElem_cons zo,(Zb.1 hx).2];rfl
  rw[e,← Zy]at h1 h2;have e2:xg row (k+1)=xb ((row.drop (k+1)).take 1) ((xg row k).length+1) (xg row k++[x]):=by rw[xg,hx]
  rw[e2]
  obtain⟨i1,i2⟩:=II (nxt:=nxt) (rest:=row.drop (k+1)) ((xg row k).length+1) (xg row k++[x]) (fun y hy=>by
    rcases Zo.1 hy with hy|hy
    · rcases Zo.1 hy with hy|hy
      · exact pO row hb k y hy
      · simp at hy
        subst hy
        exact hb _ (Zd hx)
    · exact hb y (mem_of_mem_drop hy)) h2
  exact⟨h1.trans i1,i2⟩
theorem TV{p:PrS}(e:yl p):kf p (aR p):=by
 have ok:=xF e;have d:∀b∈zt p.1 p.2,∀y∈b.2,y∈p.1:=fun b a y h=>by rw[<-ok.flat];exact mem_flatMap.2 ⟨b,a,h⟩
 have c:=fun(nxt:Int) (b:Blo) (a:b∈zt p.1 p.2)=>EF (nxt:=nxt) (row:=b.2) (fun x g=>e.K x (d b a x g)) (qq e a) b.2.length (Zc _);refine im e (f:=fun b=>(b.1,xA b.2)) (fun b=>rfl) (G:=fun _=>True) trivial (fun b a=>⟨?_,fJ p.1 b.2 (d b a)⟩) (fun _ _ _=>⟨fun _ _ _=>trivial,fun _ _ _=>trivial⟩) (fun b a _=>?_);have:=(c 0 b a).2;rw[drop_length,append_nil]at this;exact this;have:=(c ((b.1+b.2.length:Nat):Int) b a).1;rw[drop_length,append_nil]at this;exact this
theorem CK{p:PrS}(a:yl p):kf p (wU p):=by have o:=fR a;exact(TV a).trans ((TW _).trans ((TX o.p2).trans (TY o.p3)))
theorem Tk(n:Nat):∀p:PrS,yl p->kf p (aI n p):=by
 induction n with
 |zero=>intro p _;exact kf.refl p
 |succ n b=>intro p a;unfold aI;split;exact CK a;exact(CK a).trans (b _ (fR a).p4)
theorem OB{p:PrS}(a:yl p):kf p (gq p):=Tk _ p a
theorem OC{p:PrS}(c:yl p)(f t s:Bool):kf (yy Z t Z p) (yy f t s p):=by
 have a:yl (if t=Y then cm p else p):=by split;exact iR c;exact c
 have e:yy Z t Z p=if t=Y then cm p else p:=by simp[yy]
 rw[e];unfold yy;simp only;generalize (if t=Y then cm p else p)=q at a;have b:kf q (if f=Y then gq q else q)/\yl (if f=Y then gq q else q):=by split;exact⟨OB a,nW a⟩;exact⟨kf.refl q,a⟩
 split;exact b.1.trans (LG b.2);exact b.1
def yF(a b:YB):Prop:=∃t,b=a++t
theorem yF.refl(a:YB):yF a a:=⟨⟨#[]⟩,(bU a)⟩
theorem yF.trans{a b c:YB}(d:yF a b)(e:yF b c):yF a c:=by obtain⟨t,rfl⟩:=d;obtain⟨u,rfl⟩:=e;exact⟨t++u,by rw[ByteArray.append_assoc]⟩
theorem UQ(l:YL)(n:Nat):∀(s a:Int)(m:MS),(zO l n s m).1=(zO l n a m).1:=by
 induction n with
 |zero=>intro s a m;unfold zO;split<;>rfl
 |succ n b=>intro s a m;unfold zO;split;rfl;split;exact b _ _ _;rfl
theorem oK(l:YL)(n:Nat)(s:Int)(m:MS)(h:m.aE=Y):(zO l n s m).1=m:=by cases n<;>(unfold zO;rw[if_pos h])
theorem wY(l:YL)(s:Int)(m:MS):(zO l 0 s m).1=m:=by unfold zO;split<;>rfl
theorem fT{l:YL}{n:Nat}{m:MS}(h:m.aE=Z)(a:(yb l m).2=0):(zO l (n+1) 0 m).1=(zO l n 0 (yb l m).1).1:=by rw[zO,if_neg (by rw[h];simp),if_pos a];exact UQ l n _ _ _
theorem iQ{l:YL}{n:Nat}{m:MS}(h:m.aE=Z)(a:(yb l m).2≠0):(zO l (n+1) 0 m).1=(yb l m).1:=by rw[zO,if_neg (by rw[h];simp),if_neg a]
theorem Af(x:Int×Int)(m:MS):yF m.out (qd x m).1.out:=(nr x.2 (ya x.1) m).2.1
theorem Lz(r:YL):∀m:MS,yF m.out (zG r m).1.out:=by
 induction r with
 |nil=>intro m;exact yF.refl _
 |cons x r a=>intro m;rw[zG];split;exact(Af x m).trans (a _);exact Af x m
theorem JI {l:YL} (r:YL):∀ (a:Nat) (m:MS),(∀ i x,r[i]? = O x→l[a+i]? = O x)→xJ r→m.pc=a→m.aE=Z → (∀ n,yF (zO l n 0 m).1.out (zG r { m with pc:=((a+r.length:Nat):Int) }).1.out∨((zG r { m with pc:=((a+r.length:Nat):Int) }).2.1=0∧r.length≤n∧(zO l n 0 m).1=(zO l (n-r.length) 0 (zG r { m with pc:=((a+r.length:Nat):Int) }).1).1)) ∧ ((zG r { m with pc:=((a+r.length:Nat):Int) }).2.1≠0→(zO l r.length 0 m).1.out=(zG r { m with pc:=((a+r.length:Nat):Int) }).1.out) ∧ ((zG r { m with pc:=((a+r.length:Nat):Int) }).2.1=0→∀ N,(zO l (N+r.length) 0 m).1=(zO l N 0 (zG r { m with pc:=((a+r.length:Nat):Int) }).1).1):=by
 induction r with
 |nil=>
  intro a m _ _ hpc _;have e:({ m with pc:=((a+([]:YL).length:Nat):Int) }:MS)=m:=by simp[← hpc]
  rw[e];simp only[zG];exact⟨fun n=>Zf ⟨trivial,Zq _,rfl⟩,fun h=>absurd rfl h,fun _ N=>rfl⟩
 |cons x r ih=>
  intro a m hl hp hpc hh;have hx:l[m.pc.toNat]? = O x:=by rw[hpc,Zr];exact hl 0 x rfl
  have hs:=jA hx;by_cases hr:r=[];subst hr;have e:({ m with pc:=((a+[x].length:Nat):Int) }:MS)={ m with pc:=m.pc+1 }:=by simp[hpc]
  rw[e,zG,← hs];by_cases h0:(yb l m).2=0;rw[if_pos h0];simp only[zG];refine⟨fun n=>?_,fun h=>absurd rfl h,fun _ N=>fT hh h0⟩;cases n with
  |zero=>left;rw[wY];exact (gA l m).2.1
  |succ n=>right;exact⟨trivial,zs,fT hh h0⟩
  rw[if_neg h0];simp only;refine⟨fun n=>Zg ?_,fun _=>by show (zO l (0+1) 0 m).1.out=_;rw[iQ hh h0],fun h=>absurd h h0⟩;cases n with
  |zero=>rw[wY];exact (gA l m).2.1
  |succ n=>rw[iQ hh h0];exact yF.refl _
  have hlen:0<r.length:=length_pos_iff.2 hr;have hpl:=hp 0 x rfl zp;obtain⟨c1,c2,c3,c4⟩:=gP x.2 (m.pc+1) (ya x.1) (dq _ hpl) { m with pc:=((a+(x :: r).length:Nat):Int) };have hs':yb l m=({ (qd x { m with pc:=((a+(x :: r).length:Nat):Int) }).1 with pc:=m.pc+1 },(qd x { m with pc:=((a+(x :: r).length:Nat):Int) }).2):=by rw[hs];exact c1
  have hbg:=Lz (x :: r) { m with pc:=((a+(x :: r).length:Nat):Int) };rw[zG]at hbg ⊢;generalize hq:qd x { m with pc:=((a+(x :: r).length:Nat):Int) }=q at hs' hbg ⊢;have hq1:q.1.pc=((a+(x :: r).length:Nat):Int):=by rw[← hq];exact c2
  have hq2:q.1.aE=Z:=by rw[← hq];exact c3.trans hh
  by_cases h0:q.2=0;rw[if_pos h0]at hbg ⊢;have ih1:=ih (a+1) { q.1 with pc:=m.pc+1 } (fun i y hy=>by rw[show a+1+i=a+(i+1) from zo];exact hl (i+1) y (by simpa using hy)) hp.tail (by simp[hpc]) hq2;have e:({ ({ q.1 with pc:=m.pc+1 }:MS) with pc:=((a+1+r.length:Nat):Int) }:MS)=q.1:=by rw[show a+1+r.length=a+(x :: r).length from zp,← hq1]
  rw[e]at ih1;have h0':(yb l m).2=0:=by rw[hs'];exact h0
  have h1':(yb l m).1={ q.1 with pc:=m.pc+1 }:=by rw[hs']
  have hstep:∀ n,(zO l (n+1) 0 m).1=(zO l n 0 { q.1 with pc:=m.pc+1 }).1:=fun n=>by rw[fT hh h0',h1']
  obtain⟨i1,i2,i3⟩:=ih1;simp only at hbg ⊢;refine⟨fun n=>?_,fun hne=>?_,fun heq N=>?_⟩;cases n with
  |zero=>left;rw[wY];exact hbg
  |succ n=>rw[hstep];rcases i1 n with h|⟨h1,h2,h3⟩;exact Zg h;right;refine⟨h1,zp,?_⟩;rw[h3];simp
  rw[length_cons,hstep];exact i2 hne;rw[length_cons,← Nat.add_assoc,hstep];exact i3 heq N;rw[if_neg h0]at hbg ⊢;have h0':(yb l m).2≠0:=by rw[hs'];exact h0
  have eo:(yb l m).1.out=q.1.out:=by rw[hs']
  simp only at hbg ⊢;refine⟨fun n=>Zg ?_,fun _=>by rw[length_cons,iQ hh h0',eo],fun h=>absurd h h0⟩;cases n with
  |zero=>rw[wY];exact hbg
  |succ n=>rw[iQ hh h0',eo];exact yF.refl _
theorem Nr {p:PrS} (hp:yl p) {f:Blo→Blo} (hf:∀ b,(f b).1=b.1) {G:Nat→Prop} (hin:∀ b∈zt p.1 p.2,xJ (f b).2∧∀ y∈(f b).2,zT y.1=Y→iV p.1 y.2) (hG:∀ b∈zt p.1 p.2,G b.1→(∀ x∈b.2,zT x.1=Y→G x.2.toNat)∧(∀ x,b.2.getLast? = O x→yE x.1=Y→G (b.1+b.2.length))) (hsim:∀ b∈zt p.1 p.2,G b.1→jj ((b.1+b.2.length:Nat):Int) b.2 (f b).2) (n:Nat) : ∀ (t : Nat) (m : MS), MOk m → (m.aE = Y ∨ (m.aE = Z ∧ (∃ (i : Nat) (b : Blo), (zt p.1 p.2)[i]? = O b ∧ (b.1 : Int) = m.pc ∧ G b.1 ∧ (zt p.1 p.2).length ≤ i + t) ∧ ∀ c ∈ m.aC, uF (zt p.1 p.2) G c)) → ∃ N,yF (zO (yw p.1.length p.2 ((zt p.1 p.2).map f)).1 n 0 (qk (qC p f) m)).1.out (zO p.1 N 0 m).1.out:=by
 have ok:=xF hp;induction n using Nat.strongRecOn with
 |ind n ihn=>
  intro t;induction t with
  |zero=>intro m hm hc;rcases hc with hh|⟨hh,⟨i,b,hi,_,_,ht⟩,_⟩;exact⟨0,by rw[oK _ _ _ _ (show (qk (qC p f) m).aE=Y from hh),wY];exact yF.refl _⟩;have:=(Zb.1 hi).1;omega
  |succ t iht=>
   intro m hm hc;rcases hc with hh|⟨hh,⟨i,b,hi,hpc,hg,ht⟩,hcalls⟩;exact⟨0,by rw[oK _ _ _ _ (show (qk (qC p f) m).aE=Y from hh),wY];exact yF.refl _⟩;have hbm:=Zd hi;have hne:=ok.full b hbm;obtain⟨hpl,htar⟩:=hin b hbm;obtain⟨g1,g2⟩:=hG b hbm hg
   have hmemp:∀ x∈b.2,x∈p.1:=fun x hx=>by
     rw[← ok.flat]
     exact mem_flatMap.2 ⟨b,hbm,hx⟩
   have hold:=JI (l:=p.1) b.2 b.1 m (fun j x hx=>by
     rw[jY ok.flat ok.firsts hi (Zb.1 hx).1]
     exact hx) (qq hp hbm) hpc.symm hh
   have hbi:((zt p.1 p.2).map f)[i]? = O (f b):=by rw[Zn,hi];rfl
   have hnew:=JI (l:=(yw p.1.length p.2 ((zt p.1 p.2).map f)).1) ((f b).2.map (aP (qC p f))) ((((zt p.1 p.2).map f).take i).flatMap (·.2)).length (qk (qC p f) m) (fun j x hx=>by
     rw[Zn]at hx
     obtain⟨y,hy,rfl⟩:=Option.map_eq_some_iff.1 hx
     have hjl:=(Zb.1 hy).1
     have e:=Jp hbi hjl
     show (jS _ _ _)[_]? = _
     rw[dA,Zn,e,hy]
     simp only[Option.map_some,Zs]
     unfold xD aP
     split
     next hn =>
       have:=(qF hp (htar y (Zd hy) hn)).2.1
       have h0:=(qF hp (htar y (Zd hy) hn)).1
       unfold qC
       rw[if_pos zo]
     · rfl) (fun j x hx hj=>by
     rw[Zn]at hx
     obtain⟨y,hy,rfl⟩:=Option.map_eq_some_iff.1 hx
     rw[length_map]at hj
     have:(aP (qC p f) y).1=y.1:=by unfold aP;split<;>rfl
     rw[this]
     exact hpl j y hy hj) (by
     show qC p f m.pc=_
     rw[← hpc,dj hp hf hi]) hh
   have est:({ qk (qC p f) m with pc:=((((((zt p.1 p.2).map f).take i).flatMap (·.2)).length+((f b).2.map (aP (qC p f))).length:Nat):Int) }:MS)=qk (qC p f) { m with pc:=((b.1+b.2.length:Nat):Int) }:=by unfold qk;rw[Cu hp hf hi,length_map];simp
   rw[est,JD]at hnew;simp only at hnew;rw[length_map]at hnew;obtain⟨s1,s2,s3,s4⟩:=hsim b hbm hg { m with pc:=((b.1+b.2.length:Nat):Int) } (hm.pc _) hh rfl
   have hz':(zG (f b).2 { m with pc:=((b.1+b.2.length:Nat):Int) }).2.1=0→(f b).2.length=0→(zG (f b).2 { m with pc:=((b.1+b.2.length:Nat):Int) }).1={ m with pc:=((b.1+b.2.length:Nat):Int) }:=fun _ h=>by
     rw[length_eq_zero_iff.1 h]
     rfl
   generalize hz:zG b.2 { m with pc:=((b.1+b.2.length:Nat):Int) }=z at *;generalize zG (f b).2 { m with pc:=((b.1+b.2.length:Nat):Int) }=z' at *;rcases hnew.1 n with h|⟨h1,h2,h3⟩;have ho:yF (zO (yw p.1.length p.2 ((zt p.1 p.2).map f)).1 n 0 (qk (qC p f) m)).1.out z.1.out:=by have e:(qk (qC p f) z'.1).out=z.1.out:=s3;rw[e]at h;exact h
   by_cases h0:z.2.1=0;refine⟨0+b.2.length,?_⟩;rw[hold.2.2 h0 0,wY];exact ho;refine⟨b.2.length,?_⟩;rw[hold.2.1 h0];exact ho;have h0:z.2.1=0:=by rw[← s1];exact h1
   have ez:=s4 h0;rw[ez]at h3 hz';have hmz:MOk z.1:=by rw[← hz];exact nD _ _ (fun x hx=>(hp.K x (hmemp x hx)).2) (hm.pc _)
   have hnx:=FX (P:=uF (zt p.1 p.2) G) b.2 { m with pc:=((b.1+b.2.length:Nat):Int) } (qq hp hbm) hne hh hcalls (fun x hx hn=>by
     obtain⟨t1,t2,t3⟩:=qF hp ⟨x,hmemp x hx,hn,rfl⟩
     obtain⟨c,hcm,hc1⟩:=ok.has _ t2 t3
     obtain⟨j,hj⟩:=getElem?_of_mem hcm
     exact⟨j,c,hj,zo,by rw[hc1];exact g1 x hx hn⟩) (fun x hx hgo=>by
     rcases ig hp hi with ⟨c,hc,e⟩|⟨h,e⟩
     · exact⟨i+1,c,hc,by rw[e],by rw[e];exact g2 x hx hgo⟩
     · exfalso
       have hlast:p.1.getLast? = O x:=by
         rw[← ok.flat]
         refine (wC (c:=b) ?_ hne).trans hx
         rw[getLast?_eq_getElem?,← hi]
         congr 1
         omega
       rw[eB hp.last x hlast]at hgo
       cases hgo) (by rw[hz];exact h0)
   rw[hz]at hnx;have fin:(∃ N,yF (zO (yw p.1.length p.2 ((zt p.1 p.2).map f)).1 (n-(f b).2.length) 0 (qk (qC p f) z.1)).1.out (zO p.1 N 0 z.1).1.out)→∃ N,yF (zO (yw p.1.length p.2 ((zt p.1 p.2).map f)).1 n 0 (qk (qC p f) m)).1.out (zO p.1 N 0 m).1.out:=by rintro ⟨N,hN⟩;refine⟨N+b.2.length,?_⟩;rw[h3,hold.2.2 h0 N];exact hN
   by_cases hlen:(f b).2.length=0
   ·
     have e1:=hz' h1 hlen
     refine fin ?_
     rw[hlen,Nat.sub_zero]
     refine iht z.1 hmz ?_
     rcases hnx with hh2|⟨hh2,⟨j,c,hj,hcpc,hgc⟩,hcc⟩
     · exact Zg hh2
     · refine Zf ⟨hh2,⟨j,c,hj,hcpc,hgc,?_⟩,hcc⟩
       have hcf:c.1=b.1+b.2.length:=by
         rw[e1]at hcpc
         simp only at hcpc
         omega
       have:i+1≤j:=by
         refine Nat.lt_of_not_le (fun hle=>?_)
         have f1:=ok.firsts i b hi
         have f2:=ok.firsts j c hj
         have f3:=iL ((zt p.1 p.2).take i) j
         rw[take_take,Nat.min_eq_left hle]at f3
         have:=length_pos_iff.2 hne
         omega
       omega
   refine fin (ihn (n-(f b).2.length) zo (zt p.1 p.2).length z.1 hmz ?_);rcases hnx with hh2|⟨hh2,⟨j,c,hj,hcpc,hgc⟩,hcc⟩;exact Zg hh2;exact Zf ⟨hh2,⟨j,c,hj,hcpc,hgc,zo⟩,hcc⟩
def au(p q:PrS):Prop:=∀(n:Nat)(m:MS),MOk m->m.aC=[]->m.aE=Z->∃N,yF (zO q.1 n 0 {m with pc:=q.2}).1.out (zO p.1 N 0 {m with pc:=p.2}).1.out
theorem au.refl(p:PrS):au p p:=fun n _ _ _ _=>⟨n,yF.refl _⟩
theorem au.trans{p q r:PrS}(d:au p q)(e:au q r):au p r:=by intro n m c a b;obtain⟨k,g⟩:=e n m c a b;obtain⟨j,f⟩:=d k m c a b;exact⟨j,g.trans f⟩
theorem lY{p:PrS}(j:yl p){f:Blo->Blo}(r:∀b,(f b).1=b.1){G:Nat->Prop}(d:G p.2)(l:∀b∈zt p.1 p.2,xJ (f b).2/\∀y∈(f b).2,zT y.1=Y->iV p.1 y.2)(v:∀b∈zt p.1 p.2,G b.1->(∀x∈b.2,zT x.1=Y->G x.2.toNat)/\(∀x,b.2.getLast? = O x->yE x.1=Y->G (b.1+b.2.length)))(g:∀b∈zt p.1 p.2,G b.1->jj ((b.1+b.2.length:Nat):Int) b.2 (f b).2):au p (yw p.1.length p.2 ((zt p.1 p.2).map f)):=by
 intro n m B q z;have ok:=xF j;have he:=j.entry;obtain⟨b,w,a⟩:=ok.has p.2 he (bx p.1 p.2 he);obtain⟨i,s⟩:=getElem?_of_mem w;obtain⟨N,o⟩:=Nr j r l v g n (zt p.1 p.2).length {m with pc:=p.2} (B.pc _) (Zf ⟨z,⟨i,b,s,by rw[a],by rw[a];exact d,zo⟩,by simp only;rw[q];intro c h;cases h⟩);refine⟨N,?_⟩;have e:qk (qC p f) {m with pc:=p.2}={m with pc:=(((yw p.1.length p.2 ((zt p.1 p.2).map f)).2:Nat):Int)}:=by
  have k:=dj j r s;rw[a]at k;have t:qC p f (p.2:Int)=(yO ((zt p.1 p.2).map f) p.1.length ((zt p.1 p.2).map f).length).1.getD p.2 0:=by unfold qC;rw[if_pos zo,Zr]
  have u:(((yw p.1.length p.2 ((zt p.1 p.2).map f)).2:Nat):Int)=qC p f (p.2:Int):=by show(((yO ((zt p.1 p.2).map f) p.1.length ((zt p.1 p.2).map f).length).1.getD p.2 0).toNat:Int)=_;rw[t]at k ⊢;rw[k];simp
  unfold qk;simp only;rw[u,q];rfl
 rw[e]at o;exact o
theorem UO{p:PrS}(i:yl p):au p (nE p):=by
 have ok:=xF i;have g:∀b∈zt p.1 p.2,∀y∈b.2,y∈p.1:=fun b c y d=>by rw[<-ok.flat];exact mem_flatMap.2 ⟨b,c,d⟩
 refine lY i (f:=xB) (fun b=>by unfold xB;split<;>rfl) (G:=fun _=>True) trivial (fun b c=>?_) (fun _ _ _=>⟨fun _ _ _=>trivial,fun _ _ _=>trivial⟩) (fun b c _=>?_);have a:=qq i c;unfold xB;split;rename_i h;have e:=ir h;rw[e]at a;exact⟨rG (ix a),fun y d j=>⟨y,g b c y ((dropLast_sublist _).subset d),j,rfl⟩⟩;exact⟨a,fun y d j=>⟨y,g b c y d,j,rfl⟩⟩;have a:=qq i c;unfold xB;split;rename_i h;have e:=ir h;rw[e]at a;have:=Fc (nxt:=((b.1+b.2.length:Nat):Int)) (ix a);rw[<-e]at this;exact this;exact jj.refl _ _
theorem UN{p:PrS}(g:yl p):au p (gT p):=by
 have ok:=xF g;have e:=dF g;have s:∀b∈zt p.1 p.2,∀y∈b.2,y∈p.1:=fun b c y l=>by rw[<-ok.flat];exact mem_flatMap.2 ⟨b,c,l⟩
 refine lY g (f:=ym (jm p.1 p.2)) (fun b=>by unfold ym;split<;>rfl) (G:=fun t=>(jm p.1 p.2).getD t Z=Y) ?_ (fun b c=>?_) (fun b c m=>?_) (fun b c m=>?_);rcases e.entry with h|h;exact h;simp at h;unfold ym;split;exact⟨qq g c,fun y l r=>⟨y,s b c y l,r,rfl⟩⟩;exact⟨fun i x d=>by simp at d,fun y l=>by simp at l⟩;obtain⟨i,n⟩:=getElem?_of_mem c;refine⟨fun x d r=>?_,fun x d q=>?_⟩;obtain⟨j,u⟩:=getElem?_of_mem d;have a:=(Zb.1 u).1;have o:=vx g ok n m j a;have k:=jY ok.flat ok.firsts n a;rw[u]at k;rcases e.N _ x k o r with h|h;exact h;simp at h;rw[getLast?_eq_getElem?]at d;have a:=(Zb.1 d).1;have o:=vx g ok n m _ a;have k:=jY ok.flat ok.firsts n a;rw[d]at k;rcases e.goes _ x k o q with h|h;rw[show b.1+(b.2.length-1)+1=b.1+b.2.length from zo]at h;exact h;simp at h;unfold ym;rw[if_pos m];exact jj.refl _ _
theorem NW{p:PrS}(d:yl p):au p (wM p):=by
 have ok:=xF d;have c:∀b∈zt p.1 p.2,∀y∈b.2,y∈p.1:=fun b a y i=>by rw[<-ok.flat];exact mem_flatMap.2 ⟨b,a,i⟩
 refine lY d (f:=fun b=>(b.1,xf b.2)) (fun b=>rfl) (G:=fun _=>True) trivial (fun b a=>⟨Av b.2 (qq d a) _ _,fun y i g=>?_⟩) (fun _ _ _=>⟨fun _ _ _=>trivial,fun _ _ _=>trivial⟩) (fun b a _ m _ _ _=>?_);rcases ow b.2 (fun x l=>d.K x (c b a x l)) _ _ y i with h|h;exact⟨y,c b a y h,g,rfl⟩;rw[cO (Zf zo)]at g;cases g;obtain⟨e,j,k⟩:=FB b.2 b.2.length 0 m zo;rw[drop_zero]at e j k;exact⟨j,k,by show(zG (xp _ _ _) m).1.out=_;rw[e],fun _=>e⟩
theorem UL{p:PrS}(e:yl p):au p (aR p):=by
 have ok:=xF e;have d:∀b∈zt p.1 p.2,∀y∈b.2,y∈p.1:=fun b a y h=>by rw[<-ok.flat];exact mem_flatMap.2 ⟨b,a,h⟩
 have c:=fun(nxt:Int) (b:Blo) (a:b∈zt p.1 p.2)=>EF (nxt:=nxt) (row:=b.2) (fun x g=>e.K x (d b a x g)) (qq e a) b.2.length (Zc _);refine lY e (f:=fun b=>(b.1,xA b.2)) (fun b=>rfl) (G:=fun _=>True) trivial (fun b a=>⟨?_,fJ p.1 b.2 (d b a)⟩) (fun _ _ _=>⟨fun _ _ _=>trivial,fun _ _ _=>trivial⟩) (fun b a _=>?_);have:=(c 0 b a).2;rw[drop_length,append_nil]at this;exact this;have:=(c ((b.1+b.2.length:Nat):Int) b a).1;rw[drop_length,append_nil]at this;exact this
theorem Gg {l l':YL} {i:Nat} {x:Int×Int} {y:Int×Int} (hx:l[i]? = O x) (hn:zT x.1=Y) (hl:l'=l.set i y) (hy:(∃ g,y=(x.1,g)∧qT l x.2 g)∨(x.1=1∧(y.1=4∨y.1=5)∧∃ g:Int,qT l x.2 g∧l[g.toNat]? = O y)) (n:Nat) : ∀ (m m':MS),na l l' i m m'→∃ N,yF (zO l' n 0 m').1.out (zO l N 0 m).1.out:=by
 have hil:=(Zb.1 hx).1;have hi':l'[i]? = O y:=by rw[hl,getElem?_set_self hil]
 have ho':∀ j,j≠i→l'[j]? = l[j]?:=fun j hj=>by rw[hl,getElem?_set_ne (fun h=>hj h.symm)]
 have hb:0≤x.1∧x.1≤32:=by unfold zT at hn;simp at hn;omega
 have wait:∀ {n:Nat} {m m':MS} {z:Int×Int},m.aE=Z→l[m.pc.toNat]? = O z→z.1=1→(∃ N,yF (zO l' n 0 m').1.out (zO l N 0 { m with pc:=z.2 }).1.out)→∃ N,yF (zO l' n 0 m').1.out (zO l N 0 m).1.out:=by intro n m m' z hf hz h1 ⟨N,hN⟩;obtain⟨z1,z2⟩:=z;simp only at h1;subst h1;have hs:=CN hz;refine⟨N+1,?_⟩;rw[fT hf (by rw[hs]),hs];exact hN
 induction n with
 |zero=>intro m m' hr;refine⟨0,?_⟩;rw[wY,wY,hr.rest];exact yF.refl _
 |succ n ih=>
  intro m m' hr;obtain⟨hrest,hpc⟩:=hr;by_cases hh:m.aE=Y;refine⟨0,?_⟩;rw[oK _ _ _ _ (by rw[hrest];exact hh),wY,hrest];exact yF.refl _;have hf:m.aE=Z:=by simpa using hh
  have hf':m'.aE=Z:=by rw[hrest];exact hf
  have both:∀ {m:MS},m.aE=Z→(yb l' m').2=(yb l m).2→(yb l' m').1.out=(yb l m).1.out→((yb l m).2=0→na l l' i (yb l m).1 (yb l' m').1)→∃ N,yF (zO l' (n+1) 0 m').1.out (zO l N 0 m).1.out:=by intro m hfm h1 h2 h3;by_cases h0:(yb l m).2=0;obtain⟨N,hN⟩:=ih _ _ (h3 h0);refine⟨N+1,?_⟩;rw[fT hf' (by rw[h1];exact h0),fT hfm h0];exact hN;refine⟨1,?_⟩;rw[iQ hf' (by rw[h1];exact h0),iQ hfm h0,h2];exact yF.refl _
  have eat:∀ (q0 q:Int),qT l q0 q→∀ m:MS,m.aE=Z→m.pc=q0→m'={ m with pc:=m'.pc }→m'.pc=q→∃ N,yF (zO l' (n+1) 0 m').1.out (zO l N 0 m).1.out:=by
   intro q0 q hch;induction hch with
   |refl q=>
    intro m hfm hpm hrm hpm';have hmm:m'=m:=by rw[hrm,hpm',← hpm]
    subst hmm;by_cases hi:m'.pc.toNat=i;have hx1:l[m'.pc.toNat]? = O x:=by rw[hi];exact hx
    have hy1:l'[m'.pc.toNat]? = O y:=by rw[hi];exact hi'
    rcases hy with ⟨g,rfl,hg⟩|⟨h1,h2,g,h3,h4⟩;have e1:=jA hx1;have e2:=jA hy1;rw[qP _ _ hb]at e1;rw[qP _ _ (by exact hb)]at e2;simp only at e2;by_cases h0:zJ { m' with pc:=m'.pc+1 } x.1=0;rw[if_pos h0]at e1 e2;have hrel:na l l' i (doS { m' with pc:=m'.pc+1 } x.1 x.2) (doS { m' with pc:=m'.pc+1 } x.1 g):=by rcases Cs { m' with pc:=m'.pc+1 } x.1 x.2 g hn with e|⟨ea,eb⟩;rw[e];exact⟨rfl,Zf (Zg (qT.refl _))⟩;rw[eb];exact⟨rfl,Zf (Zg (by rw[ea];exact hg))⟩
    refine both hfm (by rw[e1,e2]) ?_ (fun _=>by rw[e1,e2];exact hrel);rw[e1,e2,hrel.rest];rw[if_neg h0]at e1 e2;exact both hfm (by rw[e1,e2]) (by rw[e1,e2]) (fun h=>by rw[e1]at h;exact absurd h h0)
    ·
      refine wait hfm hx1 h1 ?_
      have key:∀ (q0 g:Int),qT l q0 g→l[g.toNat]? = O y→∀ m:MS,m.aE=Z→m.pc=q0→m'={ m with pc:=m'.pc }→∃ N,yF (zO l' (n+1) 0 m').1.out (zO l N 0 m).1.out:=by
        intro q0 g hch
        induction hch with
        | refl q =>
          intro hgy m hfm hpm hrm
          have hx1:l[m.pc.toNat]? = O y:=by rw[hpm];exact hgy
          obtain⟨e1,e2⟩:=y
          rcases h2 with h4|h4
          · simp only at h4
            subst h4
            have s1:=fX hx1
            have s2:=fX hy1
            have hcc:m'.aC=m.aC:=by rw[hrm]
            rw[hcc]at s2
            by_cases hc:m.aC.length=0
            · rw[if_pos hc]at s1 s2
              exact both hfm (by rw[s1,s2]) (by rw[s1,s2,hrm]) (fun h=>by rw[s1]at h;simp at h)
            · rw[if_neg hc]at s1 s2
              have e3:yb l' m'=yb l m:=by rw[s1,s2,hrm]
              exact both hfm (by rw[e3]) (by rw[e3]) (fun _=>by rw[e3];exact⟨rfl,Zf (Zg (qT.refl _))⟩)
          · simp only at h4
            subst h4
            have s1:=jA hx1
            have s2:=jA hy1
            have r5:∀ z:MS,zJ z 5=0:=fun z=>by
              unfold zJ
              simp[zY,yt,show ¬ ((z.C.length:Int)<0) from zo,show ¬ ((z.G.length:Int)<0) from zo]
            rw[qP _ _ zs,r5,if_pos rfl]at s1
            rw[qP _ _ zs,r5,if_pos rfl]at s2
            have d5:∀ z:MS,doS z 5 e2={ z with aE:=Y }:=fun z=>rfl
            simp only[d5]at s1 s2
            exact both hfm (by rw[s1,s2]) (by rw[s1,s2,hrm]) (fun _=>⟨by rw[s1,s2,hrm],Zg (by rw[s1])⟩)
        | @jump q0 b z hz hz1 _ ihc =>
          intro hgy m hfm hpm hrm
          refine wait hfm (z:=z) (by rw[hpm];exact hz) hz1 (ihc hgy { m with pc:=z.2 } hfm rfl ?_)
          rw[hrm]
      exact key x.2 g h3 h4 { m' with pc:=x.2 } hfm rfl rfl
    have e3:yb l' m'=yb l m':=CO (ho' _ hi);exact both hfm (by rw[e3]) (by rw[e3]) (fun _=>by rw[e3];exact⟨rfl,Zf (Zg (qT.refl _))⟩)
   |@jump q0 b z hz hz1 _ ihc=>intro m hfm hpm hrm hpm';refine wait hfm (z:=z) (by rw[hpm];exact hz) hz1 (ihc { m with pc:=z.2 } hfm rfl ?_ hpm');rw[hrm]
  rcases hpc with h|hch|⟨g,e,hg1,hg2,hg3,hch,hg4⟩;exact absurd h hh;exact eat _ _ hch m hf rfl hrest rfl
  ·
    have key:∀ (q0 g:Int),qT l q0 g→l[g.toNat]? = O e→∀ m:MS,m.aE=Z→m.pc=q0→m'={ m with pc:=m'.pc }→∃ N,yF (zO l' (n+1) 0 m').1.out (zO l N 0 m).1.out:=by
      have hy1:l'[m'.pc.toNat]? = O e:=by rw[hg1];exact hg2
      intro q0 g hch
      induction hch with
      | refl q =>
        intro hgy m hfm hpm hrm
        have hx1:l[m.pc.toNat]? = O e:=by rw[hpm];exact hgy
        obtain⟨e1,e2⟩:=e
        rcases hg3 with h4|h4
        · simp only at h4
          subst h4
          have s1:=fX hx1
          have s2:=fX hy1
          have hcc:m'.aC=m.aC:=by rw[hrm]
          rw[hcc]at s2
          by_cases hc:m.aC.length=0
          · rw[if_pos hc]at s1 s2
            exact both hfm (by rw[s1,s2]) (by rw[s1,s2,hrm]) (fun h=>by rw[s1]at h;simp at h)
          · rw[if_neg hc]at s1 s2
            have e3:yb l' m'=yb l m:=by rw[s1,s2,hrm]
            exact both hfm (by rw[e3]) (by rw[e3]) (fun _=>by rw[e3];exact⟨rfl,Zf (Zg (qT.refl _))⟩)
        · simp only at h4
          subst h4
          have s1:=jA hx1
          have s2:=jA hy1
          have r5:∀ z:MS,zJ z 5=0:=fun z=>by
            unfold zJ
            simp[zY,yt,show ¬ ((z.C.length:Int)<0) from zo,show ¬ ((z.G.length:Int)<0) from zo]
          rw[qP _ _ zs,r5,if_pos rfl]at s1
          rw[qP _ _ zs,r5,if_pos rfl]at s2
          have d5:∀ z:MS,doS z 5 e2={ z with aE:=Y }:=fun z=>rfl
          simp only[d5]at s1 s2
          exact both hfm (by rw[s1,s2]) (by rw[s1,s2,hrm]) (fun _=>⟨by rw[s1,s2,hrm],Zg (by rw[s1])⟩)
      | @jump q0 b z hz hz1 _ ihc =>
        intro hgy m hfm hpm hrm
        refine wait hfm (z:=z) (by rw[hpm];exact hz) hz1 (ihc hgy { m with pc:=z.2 } hfm rfl ?_)
        rw[hrm]
    exact key _ g hch hg4 m hf rfl hrest
theorem Rq (l:YL) (i n:Nat) (m:MS):∃ N,yF (zO (jg l i) n 0 m).1.out (zO l N 0 m).1.out:=by
 unfold jg;cases hx:l[i]? with
 |none=>exact⟨n,yF.refl _⟩
 |some x=>
  simp only;have hil:=(Zb.1 hx).1;by_cases hn:zT x.1=Y;rw[if_pos hn];have hch:=Aa l l.length x.2;generalize jd l l.length x.2=g at hch;split;rename_i hc;rw[set_set];refine Gg hx hn rfl (Zf ⟨hc.1,hc.2,g,hch,?_⟩) n m m ⟨rfl,Zf (Zg (qT.refl _))⟩;have hgi:g.toNat≠i:=by intro e;have:=hc.2;rw[e,Zj,getElem?_set_self hil]at this;simp only[Option.getD_some]at this;have h1:=hc.1;omega
  have hgl:g.toNat<l.length:=by refine Nat.lt_of_not_le (fun hle=>?_);have:=hc.2;rw[Zj,getElem?_eq_none (by simpa using hle)]at this;simp at this
  rw[Zj,getElem?_set_ne (fun h=>hgi h.symm),Za hgl];rfl;exact Gg hx hn rfl (Zg ⟨g,rfl,hch⟩) n m m ⟨rfl,Zf (Zg (qT.refl _))⟩;rw[if_neg hn];exact⟨n,yF.refl _⟩
theorem UM(p:PrS):au p (bN p):=by
 intro n m _ _ _;have c:∀k n:Nat,∃N,yF (zO (vg p.1 k) n 0 {m with pc:=p.2}).1.out (zO p.1 N 0 {m with pc:=p.2}).1.out:=by
  intro k;induction k with
  |zero=>intro n;exact⟨n,yF.refl _⟩
  |succ k f=>intro n;obtain⟨a,d⟩:=Rq (vg p.1 k) k n {m with pc:=p.2};obtain⟨b,e⟩:=f a;exact⟨b,d.trans e⟩
 exact c p.1.length n
theorem Fx{p:PrS}(a:yl p):au p (wU p):=by have o:=fR a;exact(UL a).trans ((UM _).trans ((UN o.p2).trans (UO o.p3)))
theorem TR(n:Nat):∀p:PrS,yl p->au p (aI n p):=by
 induction n with
 |zero=>intro p _;exact au.refl p
 |succ n b=>intro p a;unfold aI;split;exact Fx a;exact(Fx a).trans (b _ (fR a).p4)
theorem QR{p:PrS}(c:yl p)(f t s:Bool):au (yy Z t Z p) (yy f t s p):=by
 have a:yl (if t=Y then cm p else p):=by split;exact iR c;exact c
 have e:yy Z t Z p=if t=Y then cm p else p:=by simp[yy]
 rw[e];unfold yy;simp only;generalize (if t=Y then cm p else p)=q at a;have b:au q (if f=Y then gq q else q)/\yl (if f=Y then gq q else q):=by split;exact⟨TR _ q a,nW a⟩;exact⟨au.refl q,a⟩
 split;exact b.1.trans (NW b.2);exact b.1
def tM(p q:PrS):Prop:=kf p q/\au p q
def jc(w:YW)(q:Nat):Prop :=
  ∃(c p:Nat)(f su:Bool) (l:YL) (en:Nat) (ce:Int) (L:YL) (eL:Nat),Blk w q #[A (O ⟨c,0,X⟩),A (O ⟨p,0,X⟩),Bl f,Bl su] 129/\wh w c L eL ce/\Cd w.heap.size w p l en ce /\
    (yX l/\yX L)/\(en<l.length/\eL<L.length)/\(0<=ce/\ce<=1000)/\(f=Z->su=Z->L=l/\eL=en) /\
    (f=Z->su=Y->∃he,CdH w.heap.size w p l en ce he/\he.length<=5000/\(∀x∈he,0<=x/\x<l.length)/\ew l (rbS l he) en L eL)/\tM (l,en) (L,eL)
theorem jc.law{w w':YW}{q:Nat}(h:jc w q)(d:zz w w'):jc w' q:=by obtain⟨c,p,f,v,l,en,ce,L,e,g,i,j,k,m,n,o,r,s⟩:=h;refine⟨c,p,f,v,l,en,ce,L,e,d.D g,i.law d,j.law d,k,m,n,o,fun a b=>?_,s⟩;obtain⟨he,t,u⟩:=r a b;exact⟨he,t.law d,u⟩
def yK(w:YW)(ps:List Nat):Prop:=∀q∈ps,jc w q
theorem yK.law{w w':YW}{a:List Nat}(h:yK w a)(b:zz w w'):yK w' a:=fun q c=>(h q c).law b
def qv(B:Nat)(w:YW)(bw:Nat)(hs:List Nat)(w':YW):Prop:=∃ps' hs' vp' vh',Lw B w' bw ps' hs' vp' vh'/\yK w' ps'/\yk w' hs'/\hs'.length<=hs.length+8/\zz w w'/\Below B w w'
theorem qv.ahead{B:Nat}{w W w':YW}{e:Nat}{g:List Nat}(h:qv B W e g w')(f:Below w.heap.size w W)(o:B<=w.heap.size):qv B w e g w':=by obtain⟨b,a,d,c,i,j,k,l,m,n⟩:=h;exact⟨b,a,d,c,i,j,k,l,(zz.aB f).trans m,(f.m o).trans n⟩
theorem CdH.ofPg{B:Nat}{w:YW}{p:Nat}{l:YL}{en ce:Int}{he:YI}(h:PgE B w p l en ce he)(e:0<l.length):CdH w.heap.size w p l en ce he:=by obtain⟨f,b,h⟩:=h;have a:=h.aD.own 0 f _ rfl rfl;have d:=h.aD.own 1 b _ rfl rfl;obtain⟨g,cap,rfl,_,c⟩:=a.form e;exact⟨g,cap,b,h.D,h.D.lt,c,zV a (Zq _),zV d (Zq _)⟩
structure JO(f t su:Bool)(l:YL)(en:Nat)(he:YI)(L:YL)(eL:Nat):Prop where
 ok:yX l/\yX L
 at':en<l.length/\eL<L.length
 same:f=Z->su=Z->L=l/\eL=en
 sup:f=Z->su=Y->ew l (rbS l he) en L eL
 few:he.length<=5000
 heads:∀x∈he,0<=x/\x<l.length
 near:tM (l,en) (L,eL)
theorem pQ(s:YB)(b:s.size<=2000):((zH s).heads++[((zH s).c0.length:Int)]).length<=5000:=by obtain⟨g,k,a,c⟩:=nQ s b;have:=a.lens;unfold lens at this;rw[Zi];simp;omega
theorem pd(t:Bool)(p:PrS):yy Z t Y p=wM (yy Z t Z p):=by unfold yy;simp
theorem lz(f t h:Bool)(s:YB)(u:s.size<=2000):JO f t h (yy Z t Z (yh (zH s),(zH s).c0.length)).1 (zH s).c0.length ((zH s).heads++[((zH s).c0.length:Int)]) (yy f t h (yh (zH s),(zH s).c0.length)).1 (yy f t h (yh (zH s),(zH s).c0.length)).2:=by
 have g:=Bu s u;have b:=EX s;have k:=pQ s u;generalize (zH s).heads++[((zH s).c0.length:Int)]=he at *;generalize e:((yh (zH s),(zH s).c0.length):PrS)=p at *;have q:yh (zH s)=p.1:=by rw[<-e]
 have l:(zH s).c0.length=p.2:=by rw[<-e]
 rw[q,l]at b;rw[l];clear q l e;have i:=fv (f:=Z) (t:=t) (s:=Z) g;have j:=fv (f:=f) (t:=t) (s:=h) g;have a:(yy Z t Z p).2=p.2:=by cases t<;>rfl
 have o:yl (yy Z t Z p):=by cases t;exact g;exact iR g
 have c:lJ (yy Z t Z p).1 p.2 he:=by cases t;exact b;exact b.tail
 have d:((yy Z t Z p).1,p.2)=yy Z t Z p:=by rw[<-a]
 refine⟨⟨i.1,j.1⟩,⟨by have:=i.2;rw[a]at this;exact this,j.2⟩,?_,?_,k,fun x v=>(c.each x v).1,?_⟩;intro m n;subst m n;exact⟨rfl,a⟩;intro m n;subst m n;have r:=Gh o (he:=he) (by rw[a];exact c);rw[a,<-pd]at r;exact r;rw[d];exact⟨OC g f t h,QR g f t h⟩
theorem lf(B F:Nat)(R y:List Nat)(vp vh:Value)(w:YW)(i:jk w)(h:Lw B w F R y vp vh)(hh:yk w y)(hp:yK w R)(f t z:Bool)(d n:Int)(s:YB)(T:Value)(en ce M N P Q G:Int)(er v:Int)(g:2000<s.size/\er=1/\v=0\/s.size<=2000/\(zH s).err=er/\(zH s).place=v/\er≠0):Calls prog 41 #[A (O ⟨F,0,X⟩),opV d n s f t z T en ce M N P Q G] w fun e w'=>e=Rt (Bl Y)/\∃x a0,Lw B w' F x y a0 vh/\yK w' x/\yk w' y/\zz w w'/\Below B w w':=by
 have K:B<=w.heap.size:=by have:=h.K;have:=h.D.lt;omega
 have l:Below w.heap.size w (w.alloc (C (opC d n s f t z T en ce M N P Q G) 63)):=(Ze _ _).alloc (Zc _) _;have q:=Blk.new w (opC d n s f t z T en ce M N P Q G) 63;have D:=V (pT s f t z er v _ (i.z l) ⟨by rcases g with⟨_,h,_⟩|⟨_,_,_,h⟩;exact(by rw[h];decide);exact h,g⟩);have E:Hid (∀W:YW,Calls prog 64 #[Sr s] W fun e w'=>e=Rt (Tu #[A X,I J er,I J v])/\Below W.heap.size W w'):=by intro W;rcases g with⟨H,rfl,rfl⟩|⟨H,h2,h3,h4⟩;exact(CE s W H).m (fun e w' ⟨a,b⟩=>⟨a,by rw[b];exact Ze _ _⟩);exact JB s W H er v h4 ⟨h2,h3⟩
 have k:=V q;have o:=V l;have HL:=V h;have HH:=V hh;have HP:=V hp;unfold opC at D k o;unfold opV;clear l q h hh hp i g;go_enter func41,ntmps41;go_wp2_with fail;refine D.m ?_;rintro e w1 ⟨rfl,m⟩;have L:=k.z m k.lt;have b0:=L.u;have p:=V m;clear m D;go_wp2_with fail;refine(U E w1).m ?_;rintro e w2 ⟨rfl,r⟩;have u:Below w.heap.size w w2:=(o.trans (p.m zs)).trans (r.m (by have:=p.size;simp at this;omega));have j:=V u;clear r u;go_wp2;go_ret;have c:=zz.aB j;exact⟨rfl,R,vp,HL.z j,HP.law c,HH.law c,c,j.m K⟩
theorem fH(B bw:Nat)(ps hs:List Nat)(vp vh:Value)(w:YW)(i:jk w)(h:Lw B w bw ps hs vp vh)(hh:yk w hs)(hp:yK w ps)(f k:Bool)(z n:Int)(s:YB)(vl:Value)(en ce l1 l2 l3 l4 fu:Int)(F:s.size<=2000)(l0:(zH s).err=0):Calls prog 41 #[A (O ⟨bw,0,X⟩),opV z n s f Z k vl en ce l1 l2 l3 l4 fu] w fun e w'=>e=Rt (Bl Y)/\∃H d0,Lw B w' bw H hs d0 vh/\yK w' H/\yk w' hs/\zz w w'/\Below B w w':=by
 have A0:B<=w.heap.size:=by have:=h.K;have:=h.D.lt;omega
 have q:Below w.heap.size w (w.alloc (C (opC z n s f Z k vl en ce l1 l2 l3 l4 fu) 63)):=(Ze _ _).alloc (Zc _) _;have i0:=Blk.new w (opC z n s f Z k vl en ce l1 l2 l3 l4 fu) 63;have HC:=V (dH gh s f Z k _ F (i.z q).1 (i.z q).2.1 (i.z q).2.2 l0);have o:Hid (∀W:YW,Calls prog 64 #[Sr s] W fun e w'=>∃p,e=Rt (Tu #[A (O ⟨p,0,X⟩),I J 0,I J 0])/\PgE W.heap.size w' p (yh (zH s)) (zH s).c0.length (zH s).cells ((zH s).heads++[((zH s).c0.length:Int)])/\Below W.heap.size W w'):=fun W=>oB s W F l0;have m:=V (iy s F);have d:=V (lz f Z k s F);rw[show(yy Z Z Z (yh (zH s),(zH s).c0.length)).1=yh (zH s)from rfl]at d;generalize (yy f Z k (yh (zH s),(zH s).c0.length)).1=L at HC d;generalize (yy f Z k (yh (zH s),(zH s).c0.length)).2=eL at HC d;generalize (zH s).heads++[((zH s).c0.length:Int)]=he at o d;generalize yh (zH s)=l at o m d;generalize (zH s).c0.length=y0 at o m d;generalize (zH s).cells=x0 at HC o m;have T:=V i0;have e0:=V q;have HL:=V h;have HH:=V hh;have HP:=V hp;unfold opC at HC T e0;unfold opV;clear q i0 h hh hp i;go_enter func41,ntmps41;go_wp2_with fail;refine HC.m ?_;rintro e w1 ⟨c,rfl,v,b0⟩;have a0:=T.z b0 T.lt;have B0:=a0.u;have f0:=V b0;have t0:=V v;have R:=V a0;clear b0 HC v a0;go_wp2_with fail;refine(U o w1).m ?_;rintro e w2 ⟨p0,rfl,n0,E⟩;have h0:=R.z E R.lt;have E0:=h0.u;have F0:=R.lt;have k0:Below w.heap.size w w2:=(e0.trans (f0.m zs)).trans (E.m (by have:=f0.size;simp at this;omega));have N:=CdH.ofPg n0 (by have:=m.2.1;omega);have P:=t0.law (zz.aB E);obtain⟨D,D0⟩:∃D:YW,D=w2:=⟨_,rfl⟩;subst D0;obtain⟨p,C0⟩:∃p:Nat,p=p0:=⟨_,rfl⟩;subst C0;have u:=N;have Q:=P;have t:=k0;clear n0 E k0 N P B0 h0;have M:=Blk.new D #[A (O ⟨c,0,X⟩),A (O ⟨p,0,X⟩),Bl f,Bl k] 129;have r:Below D.heap.size D (D.alloc (C #[A (O ⟨c,0,X⟩),A (O ⟨p,0,X⟩),Bl f,Bl k] 129)):=(Ze _ _).alloc (Zc _) _;have o0:jc (D.alloc (C #[A (O ⟨c,0,X⟩),A (O ⟨p,0,X⟩),Bl f,Bl k] 129)) D.heap.size:=⟨c,p,f,k,l,y0,x0,L,eL,M,Q.law (zz.aB r),(u.law (zz.aB r)).cd,d.ok,d.at',m.2.2,d.same,fun a b=>⟨he,u.law (zz.aB r),d.few,d.heads,d.sup a b⟩,d.near⟩;have v0:=V o0;have g:Below w.heap.size w (D.alloc (C #[A (O ⟨c,0,X⟩),A (O ⟨p,0,X⟩),Bl f,Bl k] 129)):=t.trans (r.m t.size);have r0:=V (iG B bw ps hs vp vh D.heap.size _ (HL.z g));have g0:=V g;clear u Q M r o0 t g;go_wp2_with fail;refine r0.m ?_;rintro e w4 ⟨rfl,H,d0,q0,m0,y,j0⟩;have u0:=V m0;have K:=V y;have s0:=V j0;have w0:=V q0;clear m0 y j0 q0;go_wp2;go_ret;have j:zz w w4:=(zz.aB g0).trans K;refine⟨rfl,H,d0,U u0,?_,HH.law j,j,(g0.m A0).trans s0⟩;intro x G;rcases U w0 with e|e;rw[e]at G;exact(HP.law j) x G;rw[e]at G;rcases Zo.1 G with G|G;exact(HP.law j) x G;simp at G;subst G;exact v0.law K
theorem fI(B bw:Nat)(ps hs:List Nat)(vp vh:Value)(w:YW)(j:jk w)(h:Lw B w bw ps hs vp vh)(hh:yk w hs)(hp:yK w ps)(f m:Bool)(z n:Int)(s:YB)(vl:Value)(en ce l1 l2 l3 l4 fu:Int)(F:s.size<=2000)(s0:(zH s).err=0):Calls prog 41 #[A (O ⟨bw,0,X⟩),opV z n s f Y m vl en ce l1 l2 l3 l4 fu] w fun e w'=>e=Rt (Bl Y)/\∃H g0,Lw B w' bw H hs g0 vh/\yK w' H/\yk w' hs/\zz w w'/\Below B w w':=by
 have F0:B<=w.heap.size:=by have:=h.K;have:=h.D.lt;omega
 have q:Below w.heap.size w (w.alloc (C (opC z n s f Y m vl en ce l1 l2 l3 l4 fu) 63)):=(Ze _ _).alloc (Zc _) _;have o0:=Blk.new w (opC z n s f Y m vl en ce l1 l2 l3 l4 fu) 63;have HC:=V (dH gh s f Y m _ F (j.z q).1 (j.z q).2.1 (j.z q).2.2 s0);have o:Hid (∀W:YW,Calls prog 64 #[Sr s] W fun e w'=>∃p,e=Rt (Tu #[A (O ⟨p,0,X⟩),I J 0,I J 0])/\PgE W.heap.size w' p (yh (zH s)) (zH s).c0.length (zH s).cells ((zH s).heads++[((zH s).c0.length:Int)])/\Below W.heap.size W w'):=fun W=>oB s W F s0;have g:=V (iy s F);have d:=V (lz f Y m s F);rw[show(yy Z Y Z (yh (zH s),(zH s).c0.length)).1=qb (yh (zH s))from rfl]at d;generalize (yy f Y m (yh (zH s),(zH s).c0.length)).1=L at HC d;generalize (yy f Y m (yh (zH s),(zH s).c0.length)).2=eL at HC d;generalize (zH s).heads++[((zH s).c0.length:Int)]=he at o d;generalize yh (zH s)=l at o g d;generalize (zH s).c0.length=n0 at o g d;generalize (zH s).cells=m0 at HC o g;have b0:=V o0;have h0:=V q;have HL:=V h;have HH:=V hh;have HP:=V hp;unfold opC at HC b0 h0;unfold opV;clear q o0 h hh hp j;go_enter func41,ntmps41;go_wp2_with fail;refine HC.m ?_;rintro e w1 ⟨c,rfl,v,f0⟩;have d0:=b0.z f0 b0.lt;have G0:=d0.u;have i0:=V f0;have A0:=V v;have a0:=V d0;clear f0 HC v d0;go_wp2_with fail;refine(U o w1).m ?_;rintro e w2 ⟨p0,rfl,u0,D⟩;have e0:=a0.z D a0.lt;have H0:=e0.u;have J0:=a0.lt;have r0:Below w.heap.size w w2:=(h0.trans (i0.m zs)).trans (D.m (by have:=i0.size;simp at this;omega));have Q:=CdH.ofPg u0 (by have:=g.2.1;omega);have R:=A0.law (zz.aB D);have E0:=V (pB w2 p0 l n0 m0 he Q (by have:=g.2.1;omega) g.1.R);have l0:=V e0;have k0:=V R;have M:=V r0;clear u0 D r0 Q R G0 e0;go_wp2_with fail;refine E0.m ?_;rintro e K ⟨p,rfl,u,E⟩;have I0:=(l0.z E l0.lt).u;have T:=k0.law (zz.aB E);have t:Below w.heap.size w K:=M.trans (E.m M.size);clear E H0;have P:=Blk.new K #[A (O ⟨c,0,X⟩),A (O ⟨p,0,X⟩),Bl f,Bl m] 129;have r:Below K.heap.size K (K.alloc (C #[A (O ⟨c,0,X⟩),A (O ⟨p,0,X⟩),Bl f,Bl m] 129)):=(Ze _ _).alloc (Zc _) _;have v0:jc (K.alloc (C #[A (O ⟨c,0,X⟩),A (O ⟨p,0,X⟩),Bl f,Bl m] 129)) K.heap.size:=⟨c,p,f,m,qb l,n0,m0,L,eL,P,T.law (zz.aB r),(u.law (zz.aB r)).cd,d.ok,d.at',g.2.2,d.same,fun a b=>⟨he,u.law (zz.aB r),d.few,d.heads,d.sup a b⟩,d.near⟩;have C0:=V v0;have i:Below w.heap.size w (K.alloc (C #[A (O ⟨c,0,X⟩),A (O ⟨p,0,X⟩),Bl f,Bl m] 129)):=t.trans (r.m t.size);have x0:=V (iG B bw ps hs vp vh K.heap.size _ (HL.z i));have j0:=V i;clear u T P r v0 t i;go_wp2_with fail;refine x0.m ?_;rintro e w4 ⟨rfl,H,g0,w0,t0,y,q0⟩;have B0:=V t0;have N:=V y;have y0:=V q0;have D0:=V w0;clear t0 y q0 w0;go_wp2;go_ret;have k:zz w w4:=(zz.aB j0).trans N;refine⟨rfl,H,g0,U B0,?_,HH.law k,k,(j0.m F0).trans y0⟩;intro x G;rcases U D0 with e|e;rw[e]at G;exact(HP.law k) x G;rw[e]at G;rcases Zo.1 G with G|G;exact(HP.law k) x G;simp at G;subst G;exact C0.law N
theorem hC(B g:Nat)(l c:List Nat)(z k:Value)(w:YW)(b:jk w)(h:Lw B w g l c z k)(D:yk w c)(E:yK w l)(f t x:Bool)(a n:Int)(s:YB)(y:Value)(en ce q r u v m:Int):Calls prog 41 #[A (O ⟨g,0,X⟩),opV a n s f t x y en ce q r u v m] w fun e w'=>e=Rt (Bl Y)/\qv B w g c w':=by
 have i:∀(e:Ending)(w':YW),(e=Rt (Bl Y)/\∃d j,Lw B w' g d c j k/\yK w' d/\yk w' c/\zz w w'/\Below B w w')->e=Rt (Bl Y)/\qv B w g c w':=by rintro e w' ⟨rfl,d,j,o,p,F,G,H⟩;exact⟨rfl,d,c,j,k,o,p,F,zo,G,H⟩
 rcases AM s with⟨er,L,K⟩|⟨o,p⟩;exact(lf B g l c z k w b h D E f t x a n s y en ce q r u v m er L K.2).m i;cases t;exact(fH B g l c z k w b h D E f x a n s y en ce q r u v m o p).m i;exact(fI B g l c z k w b h D E f x a n s y en ce q r u v m o p).m i
theorem cM(B s:Nat)(z n:List Nat)(D G:Value)(w W:YW)(h:Lw B w s z n D G)(M:yk w n)(p:n.length+4<=17592186044416)(t:Below w.heap.size w W)(L:YL)(v a:Nat)(F:W.ownsRow w.heap.size 65 2 (S (O ⟨v,0,X⟩) L.length a) L.length (zc L))(hl:L.length<=5000)(q:0<L.length):Calls prog 68 #[A (O ⟨s,0,X⟩),A (O ⟨W.heap.size,0,X⟩)] (W.alloc (C #[S (O ⟨v,0,X⟩) L.length a,S X 0 0,I J 0] 134)) fun e w'=>e=Rt (Tu #[])/\∃l m,Lw B w' s z l D m/\yk w' l/\l.length=n.length+4/\zz w w'/\Below B w w':=by
 have o:B<=w.heap.size:=by have:=h.K;have:=h.D.lt;omega
 obtain⟨b,u,y,K,E⟩:=F.form q;have x:b=v:=by simp at y;omega
 subst x;have k:=h.z t;have d:=Blk.new W #[S (O ⟨b,0,X⟩) L.length a,S X 0 0,I J 0] 134;have g:Below w.heap.size w (W.alloc (C #[S (O ⟨b,0,X⟩) L.length a,S X 0 0,I J 0] 134)):=t.alloc t.size _;have f:=zV (zE (w:=W) F (C #[S (O ⟨b,0,X⟩) L.length a,S X 0 0,I J 0] 134)) (Zq _);have r:w.heap.size<=W.heap.size:=t.size;refine(dV B s z n D G W.heap.size 0 _ (S X 0 0) L [] _ (k.alloc _) d f (Zm _ _ _ _) zo zs p).m ?_;rintro e w3 ⟨rfl,H,qg,R,T,m,c⟩;obtain⟨N,P⟩:=c.law (w:=w) (k.alloc _) (zz.aB g) (g.m o) o r (fun j i=>by simp[Value.ownBlock]at i;omega) (fun j i=>by simp[Value.ownBlock]at i);have Q:=c.holds (k.alloc _) (M.H (zz.aB g) r (fun j i=>by simp[Value.ownBlock]at i;omega) (fun j i=>by simp[Value.ownBlock]at i)) d f (Zm _ _ _ _);exact⟨rfl,n++H,m,c.lw,Q,by simp[c.len],N,P⟩
def vI(B:Nat)(w:YW)(bw:Nat)(ps hs:List Nat)(vp:Value)(e:Ending)(w':YW):Prop:=e=Rt (Bl Y)/\∃hs' vh',Lw B w' bw ps hs' vp vh'/\yk w' hs'/\hs'.length=hs.length+4/\zz w w'/\Below B w w'
theorem ly(B j:Nat)(y m:List Nat)(z P:Value)(q:Nat)(w:YW)(c p:Nat)(su:Bool)(L:YL)(D:Nat)(ce:Int)(F:Blk w q #[A (O ⟨c,0,X⟩),A (O ⟨p,0,X⟩),Bl Y,Bl su] 129)(f:wh w c L D ce)(l:yX L)(b0:D<L.length)(r:jk w)(h:Lw B w j y m z P)(N:yk w m)(s:m.length+4<=17592186044416):Calls prog 44 #[A (O ⟨j,0,X⟩),A (O ⟨q,0,X⟩)] w (vI B w j y m z):=by have hc:=F.u;have o:=V (wV.list w c L D ce r f l ⟨zo,zo⟩);have G:=l.R;have g:0<L.length:=zo;have K:=V F;have i:Hid (∀(W:YW)(n d:Nat),Below w.heap.size w W->W.ownsRow w.heap.size 65 2 (S (O ⟨n,0,X⟩) L.length d) L.length (zc L)->Calls prog 68 #[A (O ⟨j,0,X⟩),A (O ⟨W.heap.size,0,X⟩)] (W.alloc (C #[S (O ⟨n,0,X⟩) L.length d,S X 0 0,I J 0] 134)) fun e w'=>e=Rt (Tu #[])/\vI B w j y m z (Rt (Bl Y)) w'):=fun W n d T x=>(cM B j y m z P w W h N s T L n d x G g).m (fun e w' ⟨a,b⟩=>⟨a,rfl,b⟩);clear f l h N F;generalize E:vI B w j y m z=PO at i ⊢;clear E;go_enter func44,ntmps44;go_wp2_with fail;refine o.m ?_;rintro e w1 ⟨v,rfl,x,k⟩;have u:=K.z k K.lt;obtain⟨n,d,H,c0,M⟩:=x.form g;subst H;have a0:=u.u;have Q:=V (U i w1 n d k x);clear hc x k u o i;go_wp2_with fail;refine Q.m ?_;rintro e w3 ⟨rfl,t⟩;have R:=V t;clear t;go_wp2_with fail;exact U R
theorem hI(B r:Nat)(ps u:List Nat)(vp vh:Value)(q:Nat)(w:YW)(c p:Nat)(l:YL)(en:Nat)(he:YI)(L:YL)(y:Nat)(ce:Int)(hq:Blk w q #[A (O ⟨c,0,X⟩),A (O ⟨p,0,X⟩),Bl Z,Bl Y] 129)(g:wh w c L y ce)(K:CdH w.heap.size w p l en ce he)(i:yX l)(s:yX L)(e0:en<l.length)(j0:y<L.length)(P:he.length<=5000)(N:∀x∈he,0<=x/\x<l.length)(n:ew l (rbS l he) en L y)(M:jk w)(h:Lw B w r ps u vp vh)(hh:yk w u)(Q:u.length+4<=17592186044416):Calls prog 44 #[A (O ⟨r,0,X⟩),A (O ⟨q,0,X⟩)] w (vI B w r ps u vp):=by have hc:=hq.u;have E:=V (wV.list w c L y ce M g s ⟨zo,zo⟩);have T:=s.R;have m:0<L.length:=zo;have HQ:=V hq;have o:Hid (∀(W:YW)(f d:Nat),Below w.heap.size w W->W.ownsRow w.heap.size 65 2 (S (O ⟨f,0,X⟩) L.length d) L.length (zc L)->Calls prog 68 #[A (O ⟨r,0,X⟩),A (O ⟨W.heap.size,0,X⟩)] (W.alloc (C #[S (O ⟨f,0,X⟩) L.length d,S X 0 0,I J 0] 134)) fun e w'=>e=Rt (Tu #[])/\vI B w r ps u vp (Rt (Bl Y)) w'):=fun W f d hb z=>(cM B r ps u vp vh w W h hh Q hb L f d z T m).m (fun e w' ⟨a,b⟩=>⟨a,rfl,b⟩);have G:Hid (∀(W:YW)(f d:Nat),Below w.heap.size w W->InL W (O ⟨f,0,X⟩) L->Calls prog 69 #[A (O ⟨p,0,X⟩),S (O ⟨f,0,X⟩) L.length d,I J y] W fun e w'=>e=Rt (Bl Y)/\Below W.heap.size W w'):=fun W f d hb f0=>rI W p l en ce he (K.law (zz.aB hb)) zo i.R e0 P N (fun x hx hn=>(i.ins x hx).2.2 hn) _ d L y f0 T n;clear g s h hh hq n K N i P;generalize c0:vI B w r ps u vp=PO at o ⊢;clear c0;go_enter func44,ntmps44;go_wp2_with fail;refine E.m ?_;rintro e w1 ⟨v,rfl,z,j⟩;have t:=HQ.z j HQ.lt;obtain⟨f,d,g0,k0,h0⟩:=z.form m;subst g0;have d0:=t.u;have b0:=V (U G w1 f d j (InL.ofOwn (zV z (Zq _))));have HV:=V z;have D:=V j;have F:=V t;clear hc z j t E G;go_wp2_with fail;refine b0.m ?_;rintro e w2 ⟨rfl,k⟩;have H:Below w.heap.size w w2:=D.trans (k.m D.size);have a0:=(zz.aB k).row HV;have HK:=V (U o w2 f d H a0);have i0:=(F.z k F.lt).u;clear k H a0 o d0;go_wp2_with fail;refine HK.m ?_;rintro e w3 ⟨rfl,R⟩;have HP:=V R;clear R;go_wp2_with fail;exact U HP
theorem mK (B bw:Nat) (ps hs:List Nat) (vp vh:Value) (q:Nat) (w:YW) (henv:jk w) (hP:jc w q) (h:Lw B w bw ps hs vp vh) (hh:yk w hs) (hlen:hs.length+4≤17592186044416) : Calls prog 44 #[A (O ⟨bw,0,X⟩),A (O ⟨q,0,X⟩)] w (vI B w bw ps hs vp):=by
 obtain⟨c,p,f,su,l,en,ce,L,eL,h1,h2,h3,h4,h5,h6,h7,h8,h9⟩:=hP;cases f with
 |true=>exact ly B bw ps hs vp vh q w c p su L eL ce h1 h2 h4.2 h5.2 henv h hh hlen
 |false=>
  cases su with
  |true=>obtain⟨he,k1,k2,k3,k4⟩:=h8 rfl rfl;exact hI B bw ps hs vp vh q w c p l en he L eL ce h1 h2 k1 h4.1 h4.2 h5.1 h5.2 k2 k3 k4 henv h hh hlen
  |false=>obtain⟨rfl,rfl⟩:=h7 rfl rfl;exact Al wV B bw ps hs vp vh q w henv ⟨c,p,L,eL,ce,h1,h2,h3,h4.1,⟨zo,zo⟩,h6⟩ h hh hlen
theorem uL{a b:YB}(h:yF a b):a.size<=b.size/\b.extract 0 a.size=a:=by obtain⟨t,rfl⟩:=h;refine⟨zs,?_⟩;rw[ByteArray.extract_append_eq_left rfl]
theorem eU(a b:YB)(w:YW)(f:a.size<=1000000)(g:b.size<=1000000):Calls prog 140 #[Sr a,Sr b] w fun e w'=>∃r:Bool,e=Rt (Bl r)/\w'=w/\(yF a b->r=Y):=by
 have j:(a.size:Int)<=1000000:=zo;have k:(b.size:Int)<=1000000:=zo;by_cases c:a.size<=b.size
 ·have i:(a.size:Int)<=b.size:=zo;have l:decide ((a.size:Int)<=b.size)=Y:=by simpa using c
  clear f g c;go_enter func140,ntmps140;go_wp2;go_ret;exact⟨_,rfl,rfl,fun h=>by rw[(uL h).2];simp⟩
 ·have l:decide ((a.size:Int)<=b.size)=Z:=zp;have d:yF a b->Z=Y:=fun h=>absurd (uL h).1 c;have m:decide (a.size<=b.size)=Z:=by simpa using c
  have n:¬((a.size:Int)<=b.size):=zo;clear f g;go_enter func140,ntmps140;go_wp2;go_ret;exact Zg ⟨rfl,rfl,fun h=>absurd (d h) zd⟩
structure Jg(fuel:Int)(ea eb:Int)(sa sb ca cb:YI)(oa ob:YB)(ta tb:Int)(LO:Int×ByteArray×Int×List Int×List Int->Prop):Prop where
 lim:eb=6->cj ea eb sa sb ca cb oa ob=Y/\ta=tb
 ends:eb≠6->eb≠15->cj ea eb sa sb ca cb oa ob=Y/\ta<=tb
 fuel15:eb=15->ea=15->ta=tb/\sa=[]/\ca=[]/\oa.size<=1000000
 out15:eb=15->ea=15->∀er out st lS lC,LO (er,out,st,lS,lC)->out.size<=1000000/\(yF oa out\/er=15/\yF out oa)
 more:eb=15->ea≠15->ta<=fuel/\∀er out st lS lC,LO (er,out,st,lS,lC)->er≠15->cj ea er sa lS ca lC oa out=Y
theorem oF (x:Nat) (vc:Value) (p:Nat) (f su:Bool) (hfs:f=Y∨su=Y) (l1 l2 l3 l4 fuel:Int) (hfu:-3000<fuel∧fuel<3000) (ea eb:Int) (sa sb ca cb:YI) (oa ob:YB) (ta tb:Int) (ba bb:Nat) (vSa vCa vSb vCb:Value) (w:YW) (hx:Blk w x #[vc,A (O ⟨p,0,X⟩),Bl f,Bl su] 129) (ha:xe w ba vSa vCa sa ca) (hb:xe w bb vSb vCb sb cb) (LO:Int×ByteArray×Int×List Int×List Int→Prop) (hok:Jg fuel ea eb sa sb ca cb oa ob ta tb LO) (hrun:∀ W,Below w.heap.size w W→Calls prog 70 #[A (O ⟨p,0,X⟩),Ag #[I J l1,I J l2,I J l3,I J l4],I J (20 * fuel+1000)] W fun e w'=>∃ er vS vC out st lS lC,e=Rt (xX er vS vC out st)∧xe w' W.heap.size vS vC lS lC∧Below W.heap.size W w'∧LO (er,out,st,lS,lC)) : Calls prog 71 #[A (O ⟨x,0,X⟩),Ag #[I J l1,I J l2,I J l3,I J l4],I J fuel,xX ea vSa vCa oa ta,xX eb vSb vCb ob tb] w fun e w'=>e=Rt (Bl Y)∧Below w.heap.size w w':=by
 have hbW:Below w.heap.size w (((w.alloc (C #[I J l1,I J l2,I J l3,I J l4] 39)).alloc (C #[I J ea,vSa,vCa,Sr oa,I J ta] 44)).alloc (C #[I J eb,vSb,vCb,Sr ob,I J tb] 44)):=(((Ze _ _).alloc (Zc _) _).alloc zs _).alloc zp _;have HS:=V (lH ea eb sa sb ca cb oa ob ta tb ba bb vSa vCa vSb vCb _ (ha.z hbW) (hb.z hbW));have HOA:=V (ha.z hbW);have HOK:=V hok;have HRUN:=V hrun;obtain⟨a1,k1,hv1⟩:=zu ha.s;obtain⟨a2,k2,hv2⟩:=zu ha.c;obtain⟨a3,k3,hv3⟩:=zu hb.s;obtain⟨a4,k4,hv4⟩:=zu hb.c;subst hv1 hv2 hv3 hv4;unfold xX at *;have HX:=V hx;have HB:=V hbW;have hs2:((w.alloc (C #[I J l1,I J l2,I J l3,I J l4] 39)).alloc (C #[I J ea,S a1 sa.length k1,S a2 ca.length k2,Sr oa,I J ta] 44)).heap.size=w.heap.size+2:=zs;have hs1:(w.alloc (C #[I J l1,I J l2,I J l3,I J l4] 39)).heap.size=w.heap.size+1:=zs;have hLm:=((Blk.new w #[I J l1,I J l2,I J l3,I J l4] 39).alloc (C #[I J ea,S a1 sa.length k1,S a2 ca.length k2,Sr oa,I J ta] 44)).alloc (C #[I J eb,S a3 sb.length k3,S a4 cb.length k4,Sr ob,I J tb] 44);have hA:=((Blk.new (w.alloc (C #[I J l1,I J l2,I J l3,I J l4] 39)) #[I J ea,S a1 sa.length k1,S a2 ca.length k2,Sr oa,I J ta] 44).alloc (C #[I J eb,S a3 sb.length k3,S a4 cb.length k4,Sr ob,I J tb] 44));have hB:=Blk.new ((w.alloc (C #[I J l1,I J l2,I J l3,I J l4] 39)).alloc (C #[I J ea,S a1 sa.length k1,S a2 ca.length k2,Sr oa,I J ta] 44)) #[I J eb,S a3 sb.length k3,S a4 cb.length k4,Sr ob,I J tb] 44;rw[hs1]at hA;rw[hs2]at hB;have HLM:=V hLm;have HA:=V hA;have HBB:=V hB;have hfw:IntKind.i64.wrap (20 * fuel)=20 * fuel:=zw;have hfw2:IntKind.i64.wrap (20 * fuel+1000)=20 * fuel+1000:=zw;clear ha hb hx hbW hA hB hs1 hs2 hLm hok hrun;go_enter func71,ntmps71;go_wp2_with fail;refine HS.m ?_;rintro e w1 ⟨rfl,hb1⟩;have hx1:=((((HX.alloc _).alloc _).alloc _).z hb1 (by have:=HX.lt;simp;omega));have hL1:=HLM.z hb1 HLM.lt;have hA1:=HA.z hb1 HA.lt;have hB1:=HBB.z hb1 HBB.lt;have hOA1:=HOA.z hb1;have hcx:=hx1.u;have hcL:=hL1.u;have hcA:=hA1.u;have hcB:=hB1.u;have hbb:Below w.heap.size w w1:=HB.trans (hb1.m zp);have HBW:=V hbb;have HX1:=V hx1;have HL1:=V hL1;have HA1:=V hA1;have HB1:=V hB1;have HOA1:=V hOA1;clear HS hb1 hx1 hL1 hA1 hB1 hbb hOA1 HOA HX HLM HA HBB HB;by_cases h6:eb=6
 ·obtain⟨hsm,htt⟩:=HOK.lim h6;rw[hsm];subst htt h6;rcases hfs with rfl|rfl
  ·cases su;all_goals go_wp2;go_ret;exact⟨rfl,U HBW⟩
  ·cases f;all_goals go_wp2;go_ret;exact⟨rfl,U HBW⟩
 by_cases h15:eb=15
 ·have h66:¬ ((15:Int)=6):=zd;subst h15;generalize cj ea 15 sa sb ca cb oa ob=sm;have hxl:=HX1.lt;have hw1:w.heap.size≤w1.heap.size:=HBW.size;have hl1l:=HL1.lt;have ha1l:=HA1.lt;have hb1l:=HB1.lt;have HRW:Hid (∀ W,Below w1.heap.size w1 W→Calls prog 70 #[A (O ⟨p,0,X⟩),Ag #[I J l1,I J l2,I J l3,I J l4],I J (20 * fuel+1000)] W fun e w'=>∃ er vS vC out st lS lC,e=Rt (Ag #[I J er,vS,vC,Sr out,I J st])∧xe w' W.heap.size vS vC lS lC∧Below W.heap.size W w'∧LO (er,out,st,lS,lC)):=fun W hW=>U HRUN W (HBW.trans (hW.m hw1));have hfs':f=Y∨(f=Z∧su=Y):=by cases f;exact Zf ⟨rfl,by simpa using hfs⟩;exact Zg rfl
  clear hfs;rcases hfs' with rfl|⟨rfl,rfl⟩;all_goals
   go_wp2;go_cut [12] from 14 to 117 (fun s12 wc=>∃ (er:Int) (b1:YA) (j1:Nat) (b2:YA) (j2:Nat) (out:YB) (st:Int) (lS lC:YI) (y:Nat),eS wc w1.heap.size s12 er (S b1 lS.length j1) (S b2 lC.length j2) out st lS lC y∧Below w1.heap.size w1 wc∧LO (er,out,st,lS,lC))
   case first=>
    go_region_law (first
      | (refine zN rfl 70 #[.tmp 56,.tmp 57,.tmp 60] #[123,39,3] rfl func70 cZ cW #[A (O ⟨p,0,X⟩),Ag #[I J l1,I J l2,I J l3,I J l4],I J (20 * fuel+1000)] ze (U HRW w1.drew (Ze _ _).drew) ?_;rintro e w2 ⟨er,vS,vC,out,st,lS,lC,rfl,ho1,hb1,hlo⟩;have HLO:=V hlo;clear hlo;obtain⟨b1,j1,rfl⟩:=zu ho1.s;obtain⟨b2,j2,rfl⟩:=zu ho1.c;have HRES:=V (eF (W:=w1) (er:=er) (out:=out) (st:=st) ho1 hb1);clear ho1 hb1;refine⟨_,rfl,?_⟩)
      | (refine zN rfl 70 #[.tmp 56, .tmp 57, .tmp 60] #[123, 39, 3] rfl func70 cZ cW #[A (O ⟨p, 0, X⟩), Ag #[I J l1, I J l2, I J l3, I J l4], I J (20 * fuel + 1000)] (by first | (simp [Act.eval]; done) | (simp [Act.eval, Act.put]; done) | rfl) (U HRW (w1.alloc (C #[I J 0, .slice X 0 0, .slice X 0 0, Sr ⟨#[]⟩, I J 0] 44)).drew ((Ze _ _).alloc (Zc _) _).drew) ?_; rintro e w2 ⟨er, vS, vC, out, st, lS, lC, rfl, ho1, hb1, hlo⟩; have HLO := V hlo; clear hlo; obtain ⟨b1, j1, rfl⟩ := zu ho1.s; obtain ⟨b2, j2, rfl⟩ := zu ho1.c; have hsz : (w1.alloc (C #[I J 0, .slice X 0 0, .slice X 0 0, Sr ⟨#[]⟩, I J 0] 44)).drew.heap.size = w1.heap.size + 1 := by simp [World.drew]
         rw[hsz]at ho1 hb1;have hR:=(Blk.new w1 #[I J 0,S X 0 0,S X 0 0,Sr ⟨#[]⟩,I J 0] 44).drew.z hb1 zo;have hcR:=hR.u;have hfR:=hR.H;have HRES:=V (eG (W:=w1) (er:=er) (out:=out) (st:=st) ho1 hb1);clear ho1 hb1 hR;refine⟨_,rfl,?_⟩))
    all_goals go_wp2;go_meet;exact⟨er,b1,j1,b2,j2,out,st,lS,lC,_,HRES.1,HRES.2,U HLO⟩
   case rest=>
    obtain⟨er,b1,j1,b2,j2,out,st,lS,lC,y,ho,hbc,hlo⟩:=hcut;obtain rfl:=ho.ptr;have hA2:=HA1.z hbc ha1l;have hB2:=HB1.z hbc hb1l;have hcA2:=hA2.u;have hcB2:=hB2.u;have hcy:=ho.D.u;have hOA2:=HOA1.z hbc;have HSL:=V (lH ea er sa lS ca lC oa out ta st _ _ _ _ _ _ _ hOA2 ho.lists);unfold xX at HSL;have HBC:Hid (Below w.heap.size w wc):=HBW.trans (hbc.m hw1);have HLO:=V hlo;have HA2:=V hA2;clear hA2 hB2 ho hbc hlo hOA2 hcA hcB hcx hcL;by_cases hea:ea=15
    ·subst hea;obtain⟨htt,hsa,hca,hoa⟩:=HOK.fuel15 rfl rfl;obtain⟨hout,hbeg⟩:=HOK.out15 rfl rfl _ _ _ _ _ HLO;have HG1:=V (eU oa out wc hoa hout);have HG2:=V (eU out oa wc hout hoa);have HBEG:=V hbeg;subst hsa hca htt;clear hbeg;go_wp2_with fail;refine HG1.m ?_;rintro e w3 ⟨r1,rfl,rfl,hr1⟩;cases r1
     ·have hno:¬ yF oa out:=fun h=>by have:=hr1 h;cases this
      obtain⟨her,hb2⟩:er=15∧yF out oa:=by rcases U HBEG with h|h;exact absurd h hno;exact h
      subst her;clear hr1 hno;go_wp2_with fail;refine HG2.m ?_;rintro e w3 ⟨r2,rfl,rfl,hr2⟩;have:=hr2 hb2;subst this;clear hr2 hb2;go_wp2;go_ret;exact⟨rfl,U HBC⟩
     ·clear hr1;go_wp2;go_ret;exact⟨rfl,U HBC⟩
    ·obtain⟨htf,hmore⟩:=HOK.more rfl hea;have hea':(ea == 15)=Z:=by simpa using hea
     by_cases her:er=15
     ·subst her;clear hmore;go_wp2;go_ret;exact⟨rfl,U HBC⟩
     ·have hsm2:=hmore _ _ _ _ _ HLO her;have her':(er == 15)=Z:=by simpa using her
      rw[hsm2]at HSL;clear hmore hsm2;go_wp2_with fail;refine HSL.m ?_;rintro e w3 ⟨rfl,hb3⟩;have hcA3:=(HA2.z hb3 HA2.lt).u;have HBD:=V (HBC.trans (hb3.m HBC.size));clear hb3 hcA2;go_wp2;go_ret;exact⟨rfl,U HBD⟩
 ·obtain⟨hsm,htt⟩:=HOK.ends h6 h15;rw[hsm];have hn6:(eb == 6)=Z:=by simpa using h6
  have hn15:(eb == 15)=Z:=by simpa using h15
  rcases hfs with rfl|rfl
  ·cases su;all_goals go_wp2;go_ret;exact⟨rfl,U HBW⟩
  ·cases f;all_goals go_wp2;go_ret;exact⟨rfl,U HBW⟩
theorem LC(l:YL)(n:Nat):∀(s:Int)(m:MS),(zO l n s m).2.1=0\/7<=(zO l n s m).2.1:=by
 induction n with
 |zero=>intro s m;unfold zO;split<;>simp
 |succ n a=>intro s m;unfold zO;split;exact Zg rfl;have h:=(gA l m).2.2;split;exact a _ _;rcases h with h|h;exact absurd h za;exact Zf h.1
theorem ui{p:Nat}{l:YL}{en ce ls la lc lo fuel:Int}{x:Int×ByteArray×Int×List Int×List Int}(h:kY p l en ce ls la lc lo fuel x)(a:xG ls la lc lo):x=((jH (zO l fuel.toNat 0 (zZ p ls la lc lo en ce))).1,(jH (zO l fuel.toNat 0 (zZ p ls la lc lo en ce))).2.2.2,(zO l fuel.toNat 0 (zZ p ls la lc lo en ce)).2.2,(jH (zO l fuel.toNat 0 (zZ p ls la lc lo en ce))).2.1,(jH (zO l fuel.toNat 0 (zZ p ls la lc lo en ce))).2.2.1):=by by_cases he:(zO l fuel.toNat 0 (zZ p ls la lc lo en ce)).2.1=0;rw[h.2.1 a he];unfold jH;simp only[if_pos he];rw[h.2.2 a he];unfold jH;simp only[if_neg he]
theorem JU{a b c:YB}(h:yF a c)(k:yF b c):yF a b\/yF b a:=by
 obtain⟨s,g⟩:=h;obtain⟨t,i⟩:=k;have e:a.data.toList++s.data.toList=b.data.toList++t.data.toList:=by
  have d:c.data.toList=a.data.toList++s.data.toList:=by rw[g];simp
  have f:c.data.toList=b.data.toList++t.data.toList:=by rw[i];simp
  rw[<-d,f]
 rcases append_eq_append_iff.1 e with⟨u,d,f⟩|⟨u,d,f⟩;refine Zg ⟨⟨u.toArray⟩,?_⟩;apply ByteArray.ext;apply Array.ext';simp[d];refine Zf ⟨⟨u.toArray⟩,?_⟩;apply ByteArray.ext;apply Array.ext';simp[d]
theorem KV{l L:YL}{en w:Nat}(h:tM (l,en) (L,w))(h0:∀x∈l,inI x.2)(g0:∀x∈L,inI x.2){i:Nat}{ce b d f g fuel:Int}(n0:0<=ce/\ce<=1000){ea eb ta tb:Int}{oa ob:YB}{sa sb ca cb:YI}(hg:kY i L w ce b d f g fuel (ea,oa,ta,sa,ca))(hw:kY i l en ce b d f g fuel (eb,ob,tb,sb,cb)):Jg fuel ea eb sa sb ca cb oa ob ta tb (kY i l en ce b d f g (20*fuel+1000)):=by
 by_cases s:xG b d f g;obtain⟨c,rfl⟩:∃c:Nat,ce=c:=⟨ce.toNat,zo⟩;have hc:c<=1000:=zo;have mk:=eN i b d f g 0 c hc s;have l0:=eN i b d f g en c hc s;have k0:=eN i b d f g w c hc s;obtain⟨hS,hO⟩:=h;have H:∀(k:Nat)(o:Obs),qc l (zZ i b d f g en c) k o->∃D,D<=k/\qc L (zZ i b d f g w c) D o:=fun k o he=>hS k o _ mk rfl rfl he;have d0:∀n,∃N,yF (zO L n 0 (zZ i b d f g w c)).1.out (zO l N 0 (zZ i b d f g en c)).1.out:=fun n=>hO n _ mk rfl rfl;have M:=ui hg s;have Q:=ui hw s;have P:∀er out st W T,kY i l en c b d f g (20*fuel+1000) (er,out,st,W,T)->(er,out,st,W,T)=((jH (zO l (20*fuel+1000).toNat 0 (zZ i b d f g en c))).1,(jH (zO l (20*fuel+1000).toNat 0 (zZ i b d f g en c))).2.2.2,(zO l (20*fuel+1000).toNat 0 (zZ i b d f g en c)).2.2,(jH (zO l (20*fuel+1000).toNat 0 (zZ i b d f g en c))).2.1,(jH (zO l (20*fuel+1000).toNat 0 (zZ i b d f g en c))).2.2.1):=fun er out st W T hh=>ui hh s;clear hg hw hS hO;have f0:(zZ i b d f g w c).aE=Z:=rfl;generalize zZ i b d f g w c=p at *;generalize zZ i b d f g en c=j at *;simp only[Prod.mk.injEq]at M Q;obtain⟨g1,g2,g3,g4,g5⟩:=M;obtain⟨w1,w2,w3,w4,w5⟩:=Q;have u:=oJ L g0 fuel.toNat 0 p k0;have p0:((zO L fuel.toNat 0 p).1.out.size:Int)<=1000:=by have:=u.out;have:=u.lims;omega
 have v:=oJ l h0 (20*fuel+1000).toNat 0 j l0;have q0:((zO l (20*fuel+1000).toNat 0 j).1.out.size:Int)<=1000:=by have:=v.out;have:=v.lims;omega
 have z:eb≠15->jH (zO L fuel.toNat 0 p)=jH (zO l fuel.toNat 0 j)/\ta<=tb:=by intro a;obtain⟨k,hk,hs,F⟩:=lG l fuel.toNat 0 j (by rw[w1]at a;exact a);obtain⟨D,i0,y⟩:=H k _ F;obtain⟨E,r⟩:=nR y fuel.toNat 0 zo;exact⟨r,by rw[g3,w3];omega⟩
 refine⟨?_,?_,?_,?_,?_⟩;intro h6;exfalso;have:=LC l fuel.toNat 0 j;have e:(zO l fuel.toNat 0 j).2.1=6:=by rw[<-h6,w1];rfl
 omega;intro h6 a;obtain⟨m,e2⟩:=z a;refine⟨?_,e2⟩;rw[g1,g2,g4,g5,w1,w2,w4,w5,m];exact mv _ _ _ _;intro hb K;have m:(zO L fuel.toNat 0 p).2.1=15:=by rw[<-K,g1];rfl
 have e2:(zO l fuel.toNat 0 j).2.1=15:=by rw[<-hb,w1];rfl
 refine⟨?_,?_,?_,?_⟩;rw[g3,w3,(iC L fuel.toNat 0 p).2.2.2.2 m,(iC l fuel.toNat 0 j).2.2.2.2 e2];rw[g4];unfold jH;simp only;rw[if_neg (by rw[m];decide)];rw[g5];unfold jH;simp only;rw[if_neg (by rw[m];decide)];rw[g2];show(zO L fuel.toNat 0 p).1.out.size<=_;omega;intro hb K er out st W T B;have R:=P _ _ _ _ _ B;simp only[Prod.mk.injEq]at R;obtain⟨x1,x2,-,-,-⟩:=R;have q:out=(zO l (20*fuel+1000).toNat 0 j).1.out:=x2;have b0:oa=(zO L fuel.toNat 0 p).1.out:=g2;refine⟨by rw[q];omega,?_⟩;obtain⟨N,G⟩:=d0 fuel.toNat;rw[<-b0]at G;by_cases j0:N<=(20*fuel+1000).toNat;obtain⟨⟨t,ht⟩,-⟩:=CH l N _ 0 j j0;exact Zg (G.trans ⟨t,by rw[q,ht]⟩);by_cases a:er=15;obtain⟨⟨t,ht⟩,-⟩:=CH l (20*fuel+1000).toNat N 0 j zo;rcases JU G ⟨t,by rw[ht,<-q]⟩with h|h;exact Zg h;exact Zf ⟨a,h⟩;obtain⟨k,hk,hs,F⟩:=lG l (20*fuel+1000).toNat 0 j (by rw[x1]at a;exact a);obtain⟨-,r⟩:=nR F N 0 zo;have e:(zO l N 0 j).1.out=out:=by rw[q];exact congrArg (fun o:Obs=>o.2.2.2) r
 rw[e]at G;exact Zg G;intro hb K;have m:(zO L fuel.toNat 0 p).2.1≠15:=by rw[g1]at K;exact K
 have a0:=(iC L fuel.toNat 0 p).2.2.2.1;refine⟨?_,?_⟩;rw[g3];by_cases m0:0<=fuel;omega;exfalso;have e0:fuel.toNat=0:=zo;rw[e0]at m;unfold zO at m;rw[f0]at m;simp at m;intro er out st W T B a;have R:=P _ _ _ _ _ B;simp only[Prod.mk.injEq]at R;obtain⟨x1,x2,-,x4,x5⟩:=R;obtain⟨k,hk,hs,F⟩:=lG l (20*fuel+1000).toNat 0 j (by rw[x1]at a;exact a);obtain⟨D,i0,y⟩:=H k _ F;obtain⟨kg,o0,-,c0⟩:=lG L fuel.toNat 0 p m;obtain⟨-,E⟩:=nR y (D+kg) 0 zo;obtain⟨-,r⟩:=nR c0 (D+kg) 0 zo;have e:jH (zO L fuel.toNat 0 p)=jH (zO l (20*fuel+1000).toNat 0 j):=by rw[<-r,E]
 rw[g1,g2,g4,g5,x1,x2,x4,x5,e];exact mv _ _ _ _;have E:=hg.1 s;have r:=hw.1 s;simp only[Prod.mk.injEq]at E r;obtain⟨rfl,rfl,rfl,rfl,rfl⟩:=E;obtain⟨rfl,rfl,rfl,rfl,rfl⟩:=r;refine⟨fun _=>⟨mv _ _ _ _,rfl⟩,fun h=>absurd rfl h,fun h=>absurd h zd,fun h=>absurd h zd,fun h=>absurd h zd⟩
end Go.Proofs.YtmeiikjpaepogaaGreatDoor
