/- Own. -/
import Derived.Test.YtmeiikjpaepogaaGreatDoorD09
import Derived.Deep.CutRange
open Option renaming some->O,none->X
open Bool renaming true->Y,false->Z
open Go.Value renaming int->I,slice->S,pointer->A,bool->Bl,string->Sr,tuple->Tu
open Go.Obj renaming cells->C
open Go.Ending renaming returned->Rt
open Go.IntKind renaming i64->J
set_option maxRecDepth 100000
set_option maxHeartbeats 8000000
namespace Go.Proofs.YtmeiikjpaepogaaGreatDoor
open Go Go.RowKit Go.Proofs.Tryz List
def qt(st:RS):RS:=if st.E.toList==[59]then(if st.P<0\/st.Q≠[]then yp st 4 else vW st)
 else if 0<=st.P\/st.Q≠[]then yp st 4
 else if(zP st).err≠0 then zP st
 else if st.E.toList==[58]then wx (zP st) (zF st).E
 else if st.E.toList==[118,97,114,105,97,98,108,101]then db (zP st) (zF st).E
 else kx (zP st) (zF st).E
def vM(st:RS)(l:List (ByteArray×Int×Int))(x:ByteArray×Int×Int):RS:=let t:=st.E.toList
 let u:={st with Q:=l}
 let n:=x.2.2.toNat
 if t==[101,108,115,101]/\x.1.toList==[105,102]then xn (yN (zQ u 1 0) n) (⟨#[101,108,115,101]⟩,0,zM u)
 else if t==[116,104,101,110]/\(x.1.toList==[105,102]\/x.1.toList==[101,108,115,101])then yN u n
 else if t==[117,110,116,105,108]/\x.1.toList==[98,101,103,105,110]then zQ u 2 x.2.1
 else if t==[119,104,105,108,101]/\x.1.toList==[98,101,103,105,110]then xn (zQ u 2 0) (⟨#[119,104,105,108,101]⟩,x.2.1,zM u)
 else if t==[114,101,112,101,97,116]/\x.1.toList==[119,104,105,108,101]then yN (zQ u 1 x.2.1) n
 else if t==[108,111,111,112]/\x.1.toList==[100,111]then zQ u 7 x.2.1
 else yp st 4
def qx(st:RS):RS:=let t:=st.E.toList
 if t==[105,102]then xn (zQ st 2 0) (⟨#[105,102]⟩,0,zM st)
 else if t==[98,101,103,105,110]then xn st (⟨#[98,101,103,105,110]⟩,zM st,0)
 else if t==[100,111]then xn (zQ st 6 0) (⟨#[100,111]⟩,(zM st:Int)+1,0)
 else match st.Q.getLast? with
  |none=>yp st 4
  |some x=>vM st st.Q.dropLast x
def qO(st:RS):RS:=if 0<=yZ st.E then zQ st (yZ st.E) 0
 else if(qe st.E).isSome then zQ st 0 (qS st.E)
 else if 0<=jG st.N st.E then(match st.N[(jG st.N st.E).toNat]? with|some x=>zQ st x.2.1 x.2.2|none=>st)
 else if(st.E.toList==[114,101,99,117,114,115,101])/\0<=st.P then zQ st 3 st.P
 else yp st 2
def xr(t:List UInt8):Bool:=t==[58] || t==[59] || t==[118,97,114,105,97,98,108,101] || t==[99,111,110,115,116,97,110,116]
def xM(s:YB):Bool:=jB s&&!(s.toList==[114,101,99,117,114,115,101])
def yd(st:RS):RS:=if xr st.E.toList then qt st else if xM st.E then qx st else qO st
def fi(st:RS):RS:=if(yd st).err=0 then zF (yd st)else yd st
def je:Nat->RS->RS
 |0,st=>st
 |f+1,st=>if st.E.toList.isEmpty\/st.err≠0 then st else je f (fi st)
def gN(h:Nat)(x:ByteArray×Int×Int):Prop:=(0<=x.2.1/\x.2.1<=h)/\0<=x.2.2/\((x.1.toList==[105,102]\/x.1.toList==[101,108,115,101]\/x.1.toList==[119,104,105,108,101])->x.2.2<h)
def lens(st:RS)(m:Nat):Prop:=st.c0.length<=m/\st.c1.length<=m/\st.N.length<=m/\st.Q.length<=m/\st.heads.length<=m/\0<=st.cells/\st.cells<=m
structure Inv(st:RS)(m:Nat):Prop where
 size:st.s.size<=2000
 next:st.next<=st.s.size
 place:st.place0<=st.next
 lens:lens st m
 P:-1<=st.P/\st.P<=st.c0.length
 Q:∀x∈st.Q,gN (zM st) x
 E:st.E=st.s.extract st.place0 st.next
theorem qL{st:RS}{m:Nat}(h:Inv st m):Inv (zF st) m/\st.next<=(zF st).place0:=by have a:=sO st.s vP (st.s.size-st.next) st.next h.next;have c:=sO st.s (fun b=>!vP b) (st.s.size-ki st.s st.next) (ki st.s st.next) a.2;exact⟨⟨h.size,c.2,c.1,h.lens,h.P,h.Q,rfl⟩,a.1⟩
theorem Nv{st:RS}{m k:Nat}(h:lens st m)(a:m<=k):lens st k:=by unfold lens at *;omega
theorem Inv.m{st:RS}{m k:Nat}(h:Inv st m)(a:m<=k):Inv st k:=⟨h.size,h.next,h.place,Nv h.lens a,h.P,h.Q,h.E⟩
theorem aW{st:RS}{m:Nat}(h:Inv st m)(e:Int):Inv (yp st e) m:=by unfold yp;split;exact⟨h.size,h.next,h.place,h.lens,h.P,h.Q,h.E⟩;exact h
theorem vw(st:RS)(op arg:Int):zM (zQ st op arg)=zM st+1:=by unfold zQ zM;split<;>simp_all
theorem Im{h k:Nat}{x:ByteArray×Int×Int}(d:gN h x)(g:h<=k):gN k x:=by obtain⟨⟨a,f⟩,b,c⟩:=d;exact⟨⟨a,zo⟩,b,fun e=>by have:=c e;omega⟩
theorem kQ{st:RS}{m:Nat}(h:Inv st m)(op arg:Int):Inv (zQ st op arg) (m+1):=by
 have b:∀x∈(zQ st op arg).Q,gN (zM (zQ st op arg)) x:=by
  have e:(zQ st op arg).Q=st.Q:=by unfold zQ;split<;>rfl
  rw[e,vw];exact fun x c=>Im (h.Q x c) zo
 have a:=h.lens;have d:=h.P;unfold lens at a;refine⟨?_,?_,?_,?_,?_,b,?_⟩;all_goals unfold zQ;split
 all_goals first|exact h.size|exact h.next|exact h.place|exact h.E|(unfold lens;simp;omega)|(simp;omega)|omega
theorem yV{s:YB}{l:List UInt8}(h:(s.toList==l)=Y):s=⟨l.toArray⟩:=by
 have e:s.toList=l:=by simpa using h
 rw[Zv]at e;cases s;simp at e ⊢;rw[<-e]
theorem cQ{st:RS}{m:Nat}(h:Inv st m):Inv (zP st) m:=by unfold zP;split;exact aW (qL h).1 _;exact(qL h).1
theorem DC(st:RS):(zP st).Q=st.Q/\(zP st).P=st.P/\(zP st).c0=st.c0/\(zP st).s=st.s/\(zP st).next=(zF st).next:=by unfold zP yp zF;split;split<;>exact⟨rfl,rfl,rfl,rfl,rfl⟩;exact⟨rfl,rfl,rfl,rfl,rfl⟩
theorem il(st:RS)(e:Int):(yp st e).Q=st.Q/\(yp st e).P=st.P/\(yp st e).N=st.N/\(yp st e).s=st.s/\(yp st e).next=st.next:=by unfold yp;split<;>exact⟨rfl,rfl,rfl,rfl,rfl⟩
theorem pw{st:RS}{m:Nat}(h:Inv st m):Inv (xt st) m:=by unfold xt;split;exact(qL h).1;exact aW (qL h).1 _
theorem Km(B b:Nat)(st:RS)(w:YW)(m:Nat)(h:RdE B w b st)(j:Inv st m)(q:m<3000)(k:xr st.E.toList=Y):Calls prog 127 #[A (O ⟨b,0,X⟩)] w fun e w'=>e=Rt (Tu #[])/\RdE B w' b (qt st)/\Below B w w':=by
 have p:=j.lens;unfold lens at p;have g:=cQ j;have l:=g.lens;unfold lens at l;unfold qt;cases h59:(st.E.toList==[59]);simp only[Bool.false_eq_true,if_false];by_cases a:0<=st.P\/st.Q≠[];rw[if_pos a];exact Hg B b st w h h59 a;rw[if_neg a];have f:st.P<0:=zo;have c:st.Q=[]:=by rcases Classical.em (st.Q=[])with e|e;exact e;exact absurd (Zf e) a
 by_cases d:(zP st).err≠0;rw[if_pos d];exact Kn B b st w h j.next h59 f c d;rw[if_neg d];have i:(zP st).err=0:=zo;cases h58:(st.E.toList==[58]);simp only[Bool.false_eq_true,if_false];cases hv:(st.E.toList==[118,97,114,105,97,98,108,101]);simp only[Bool.false_eq_true,if_false];have o:(st.E.toList==[99,111,110,115,116,97,110,116])=Y:=by unfold xr at k;rw[h58,h59,hv]at k;simpa using k
 have n:=(pw g).lens;unfold lens at n;exact uU B b st w h j.next (yV o) f c i g.next zo;simp only[if_true];exact uV B b st w h j.next (yV hv) f c i zo zo;simp only[if_true];exact Ey B b st w h j.next (yV h58) f c i zo;simp only[if_true];by_cases a:st.P<0\/st.Q≠[];rw[if_pos a];exact Bp B b st w h h59 a;rw[if_neg a];have c:st.Q=[]:=by rcases Classical.em (st.Q=[])with e|e;exact e;exact absurd (Zf e) a
 exact Hh B b st w h h59 zo c zo zo
theorem Ho(B b:Nat)(st:RS)(w:YW)(m:Nat)(h:RdE B w b st)(i:Inv st m)(q:m<3000):Calls prog 129 #[A (O ⟨b,0,X⟩)] w fun e w'=>e=Rt (Tu #[])/\RdE B w' b (qO st)/\Below B w w':=by
 have p:=i.lens;unfold lens at p;have c:st.E.size<=2000:=by rw[i.E,ByteArray.size_extract];have:=i.size;omega
 unfold qO;by_cases l:0<=yZ st.E;rw[if_pos l];exact Dw B b st w h c zo l;rw[if_neg l];have d:yZ st.E<0:=zo;cases hn:(qe st.E).isSome;simp only[Bool.false_eq_true,if_false];by_cases g:0<=jG st.N st.E;rw[if_pos g];obtain⟨k,j,x,n⟩:∃k:Nat,jG st.N st.E=(k:Int)/\∃x,st.N[k]? = O x:=by
  unfold jG at g ⊢;cases e:st.N.findIdx? (fun x=>x.1==st.E)with
  |none=>rw[e]at g;simp at g
  |some k=>have:=(findIdx?_eq_some_iff_getElem.1 e).1;exact⟨k,rfl,_,Za this⟩
 rw[j,Zr,n];by_cases a:0<=st.P;have:=Du B b st w h c zo a d hn k x j n;simp only[zQ,if_pos a];exact this;have:=Dv B b st w h c zo a d hn k x j n;simp only[zQ,if_neg a];exact this;rw[if_neg g];by_cases f:(st.E.toList==[114,101,99,117,114,115,101])/\0<=st.P;rw[if_pos f];exact uY B b st w h c zo d hn zo f.1 f.2;rw[if_neg f];refine Kt B b st w h c d hn zo ?_;cases e:(st.E.toList==[114,101,99,117,114,115,101]);exact Zg rfl;refine Zf ⟨rfl,?_⟩;rw[e]at f;have:¬0<=st.P:=fun o=>f ⟨rfl,o⟩;omega;simp only[if_true];by_cases a:0<=st.P;have:=EL B b st w h c zo a d hn;simp only[zQ,if_pos a];exact this;have:=EM B b st w h c zo a d hn;simp only[zQ,if_neg a];exact this
theorem ou{l:List (ByteArray×Int×Int)}{x:ByteArray×Int×Int}(h:l.getLast? = O x):l=l.dropLast++[x]:=by obtain⟨a,e⟩:=getLast?_eq_some_iff.1 h;rw[e];simp
theorem vu(st:RS)(l:List (ByteArray×Int×Int)):zM {st with Q:=l}=zM st:=rfl
theorem Ab(st:RS)(n:Nat):zM (yN st n)=zM st:=by unfold yN zM;split<;>simp[xj, *]
theorem wI(st:RS)(op arg:Int):(zQ st op arg).Q=st.Q:=by unfold zQ;split<;>rfl
theorem mQ(st:RS)(n:Nat):(yN st n).Q=st.Q:=by unfold yN;split<;>rfl
theorem GX (B b:Nat) (st:RS) (w:YW) (m:Nat) (h:RdE B w b st) (hi:Inv st m) (hm:m<3000) (hc:xM st.E=Y) (hd:xr st.E.toList=Z) : Calls prog 128 #[A (O ⟨b,0,X⟩)] w fun e w'=>e=Rt (Tu #[])∧RdE B w' b (qx st)∧Below B w w':=by
 have hl:=hi.lens;unfold lens at hl;have hlen:st.c0.length<4000∧st.c1.length<4000:=zo;have hopl:∀ op arg,(zQ st op arg).Q.length<4000:=fun op arg=>by rw[wI];omega
 unfold qx;simp only;cases hif:(st.E.toList == [105,102]);case true=>simp only[if_true];exact Kf B b st w h (yV hif) hlen (hopl 2 0)
 simp only[Bool.false_eq_true,if_false];cases hbg:(st.E.toList == [98,101,103,105,110]);case true=>simp only[if_true];exact Dl B b st w h (yV hbg) zo
 simp only[Bool.false_eq_true,if_false];cases hdo:(st.E.toList == [100,111]);case true=>simp only[if_true];exact Ke B b st w h (yV hdo) hlen (hopl 6 0)
 simp only[Bool.false_eq_true,if_false];have six:(st.E.toList == [101,108,115,101])=Y∨(st.E.toList == [116,104,101,110])=Y∨(st.E.toList == [117,110,116,105,108])=Y∨(st.E.toList == [119,104,105,108,101])=Y∨(st.E.toList == [114,101,112,101,97,116])=Y∨(st.E.toList == [108,111,111,112])=Y:=by unfold xM jB wZ at hc;unfold xr at hd;simp only[any_cons,any_nil,Bool.or_false,Bool.and_eq_true,Bool.or_eq_true,Bool.or_eq_false_iff,Bool.not_eq_true']at hc hd;obtain⟨hc1,hc2⟩:=hc;obtain⟨⟨⟨d1,d2⟩,d3⟩,d4⟩:=hd;simp only[d1,d2,d3,d4,hc2,hif,hbg,hdo,Bool.false_eq_true,false_or]at hc1;exact hc1
 cases hgl:st.Q.getLast? with
 |none=>
  have hls:kW st=⟨#[]⟩:=by unfold kW;rw[hgl]
  have hno:∀ c l,((kW st).toList == (c :: l:List UInt8))=Z:=by intro c l;rw[hls,Zv];rfl
  simp only;rcases six with e|e|e|e|e|e;exact lP B b st w h (yV e) (hno _ _);exact lR B b st w h (yV e) (hno _ _) (hno _ _);exact lh B b st w h (yV e) (hno _ _);exact lj B b st w h (yV e) (hno _ _);exact hU B b st w h (yV e) (hno _ _);exact lQ B b st w h (yV e) (hno _ _)
 |some x=>
  have hls:kW st=x.1:=by unfold kW;rw[hgl]
  have hop:=ou hgl;have hx:gN (zM st) x:=hi.Q x (by rw[hop];simp);obtain⟨tx,ax,nx⟩:=x;obtain⟨⟨ha0,ha1⟩,hn0,hn1⟩:=hx;simp only at hls ha0 ha1 hn0 hn1;obtain⟨n,rfl⟩:=Int.eq_ofNat_of_zero_le hn0;simp only;have hdl:st.Q.dropLast.length≤m:=zp;generalize st.Q.dropLast=l at hop hdl ⊢;unfold vM;simp only[Zr];rcases six with e|e|e|e|e|e;have et:st.E.toList=[101,108,115,101]:=by simpa using e
  rw[et];cases hw:(tx.toList == [105,102]);try simp
  exact lP B b st w h (yV e) (by rw[hls];exact hw);try simp
  exact Ep B b st w h (yV e) l ax n (by rw[hop,yV hw]) hlen (by rw[vw,vu];have:=hn1 (Zg hw);omega) (by rw[mQ,wI];simp;omega);have et:st.E.toList=[116,104,101,110]:=by simpa using e
  rw[et];cases hw:(tx.toList == [105,102]);cases hw2:(tx.toList == [101,108,115,101]);try simp
  exact lR B b st w h (yV e) (by rw[hls];exact hw) (by rw[hls];exact hw2);try simp
  exact sU B b st w h (yV e) l ax n (by rw[hop,yV hw2]) (by rw[vu];have:=hn1 (Zf (Zg hw2));omega);try simp
  exact uT B b st w h (yV e) l ax n (by rw[hop,yV hw]) (by rw[vu];have:=hn1 (Zg hw);omega);have et:st.E.toList=[117,110,116,105,108]:=by simpa using e
  rw[et];cases hw:(tx.toList == [98,101,103,105,110]);try simp
  exact lh B b st w h (yV e) (by rw[hls];exact hw);try simp
  exact Dn B b st w h (yV e) l ax n (by rw[hop,yV hw]) hlen;have et:st.E.toList=[119,104,105,108,101]:=by simpa using e
  rw[et];cases hw:(tx.toList == [98,101,103,105,110]);try simp
  exact lj B b st w h (yV e) (by rw[hls];exact hw);try simp
  exact Dp B b st w h (yV e) l ax n (by rw[hop,yV hw]) hlen (by rw[wI];simp;omega);have et:st.E.toList=[114,101,112,101,97,116]:=by simpa using e
  rw[et];cases hw:(tx.toList == [119,104,105,108,101]);try simp
  exact hU B b st w h (yV e) (by rw[hls];exact hw);try simp
  exact Bk B b st w h (yV e) l ax n (by rw[hop,yV hw]) hlen (by rw[vw,vu];have:=hn1 (Zf (Zf hw));omega);have et:st.E.toList=[108,111,111,112]:=by simpa using e
  rw[et];cases hw:(tx.toList == [100,111]);try simp
  exact lQ B b st w h (yV e) (by rw[hls];exact hw);try simp
  exact Er B b st w h (yV e) l ax n (by rw[hop,yV hw]) hlen
theorem Inv.cut{st:RS}{m:Nat}(h:Inv st m){l:List (ByteArray×Int×Int)}(b:∀x∈l,x∈st.Q)(d:l.length<=m):Inv {st with Q:=l} m:=by have a:=h.lens;unfold YtmeiikjpaepogaaGreatDoor.lens at a;exact⟨h.size,h.next,h.place,by unfold YtmeiikjpaepogaaGreatDoor.lens;simp;omega,h.P,fun x c=>h.Q x (b x c),h.E⟩
theorem rT{st:RS}{m:Nat}(h:Inv st m)(n:Nat):Inv (yN st n) m:=by
 have b:∀x∈(yN st n).Q,gN (zM (yN st n)) x:=by rw[mQ,Ab];exact h.Q
 have a:=h.lens;have c:=h.P;unfold lens at a;refine⟨?_,?_,?_,?_,?_,b,?_⟩;all_goals unfold yN;split
 all_goals first|exact h.size|exact h.next|exact h.place|exact h.E|(unfold lens;simp[xj];omega)|(simp[xj];omega)|omega
theorem gO{st:RS}{m:Nat}(h:Inv st m){x:ByteArray×Int×Int}(c:gN (zM st) x)(d:st.Q.length+1<=m):Inv (xn st x) m:=by have b:=h.lens;unfold lens at b;refine⟨h.size,h.next,h.place,by unfold lens xn;simp;omega,h.P,?_,h.E⟩;intro y a;unfold xn at a;simp only[Zo,mem_singleton]at a;rcases a with a|rfl;exact h.Q y a;exact c
theorem Hf{st:RS}{m:Nat}(h:Inv st m):Inv (qt st) (m+1):=by
 have a:=cQ h;have d:=DC st;have n:=a.lens;unfold lens at n;unfold qt;split;split;exact(aW h _).m zo;rename_i c;have g:=kQ h 4 0;have p:=h.lens;unfold lens at p;have b:st.Q=[]:=by rcases Classical.em (st.Q=[])with e|e;exact e;exact absurd (Zf e) c
 have o:(zQ st 4 0).Q=[]:=by rw[wI,b]
 have i:=g.lens;unfold lens at i;have j:(zQ st 4 0).N=st.N:=by unfold zQ;split<;>rfl
 refine⟨g.size,g.next,g.place,?_,?_,?_,g.E⟩;unfold lens vW;simp[j];rw[j]at i;omega;unfold vW;simp;unfold vW;simp[o];split;exact(aW h _).m zo;rename_i c;have b:(zP st).Q=[]:=by rw[d.1];rcases Classical.em (st.Q=[])with e|e;exact e;exact absurd (Zf e) c
 split;exact a.m zo;split;refine⟨a.size,a.next,a.place,?_,?_,?_,a.E⟩;unfold lens wx;simp;omega;unfold wx;simp;unfold wx;simp[b];split;refine⟨a.size,a.next,a.place,?_,a.P,?_,a.E⟩;unfold lens db;simp;omega;unfold db;simp[b];have f:=pw a;have k:=f.lens;unfold lens at k;have l:(xt (zP st)).Q=[]:=by unfold xt;split;exact b;rw[(il _ _).1];exact b
 refine⟨f.size,f.next,f.place,?_,f.P,?_,f.E⟩;unfold lens kx;simp;omega;unfold kx;simp[l]
theorem Ka{st:RS}{m:Nat}(h:Inv st m)(l:List (ByteArray×Int×Int))(x:ByteArray×Int×Int)(d:st.Q=l++[x]):Inv (vM st l x) (m+1):=by
 have j:=h.Q x (by rw[d];simp);have c:=h.lens;unfold lens at c;have f:l.length+1<=m:=by rw[d]at c;simp at c;omega
 have a:=h.cut (l:=l) (fun y k=>by rw[d];simp[k]) zo;obtain⟨⟨b,e⟩,g,i⟩:=j;unfold vM;simp only;split;refine gO (rT (kQ a 1 0) _) ?_ (by rw[mQ,wI];simp;omega);rw[Ab,vw,vu];exact⟨⟨zs,zp⟩,zs,fun _=>zp⟩;split;exact(rT a _).m zo;split;exact kQ a _ _;split;refine gO (kQ a 2 0) ?_ (by rw[wI];simp;omega);rw[vw,vu];exact⟨⟨b,zp⟩,zs,fun _=>zp⟩;split;exact rT (kQ a _ _) _;split;exact kQ a _ _;exact(aW h _).m zo
theorem Eo{st:RS}{m:Nat}(h:Inv st m):Inv (qx st) (m+1):=by have a:=h.lens;unfold lens at a;unfold qx;simp only;split;refine gO (kQ h 2 0) ?_ (by rw[wI];omega);rw[vw];exact⟨⟨zs,zp⟩,zs,fun _=>zp⟩;split;refine gO (h.m zo) ?_ zo;exact⟨⟨zs,zs⟩,zs,fun e=>by simp[Zv]at e⟩;split;refine gO (kQ h 6 0) ?_ (by rw[wI];omega);rw[vw];exact⟨⟨zp,zs⟩,zs,fun e=>by simp[Zv]at e⟩;split;exact(aW h _).m zo;rename_i x b;exact Ka h _ _ (ou b)
theorem EK{st:RS}{m:Nat}(h:Inv st m):Inv (qO st) (m+1):=by unfold qO;split;exact kQ h _ _;split;exact kQ h _ _;split;split;exact kQ h _ _;exact h.m zo;split;exact kQ h _ _;exact(aW h _).m zo
theorem cK{st:RS}{m:Nat}(h:Inv st m):Inv (yd st) (m+1):=by unfold yd;split;exact Hf h;split;exact Eo h;exact EK h
def Adv(st st':RS):Prop:=st'.s=st.s/\st.next<=st'.next
theorem Adv.refl(st:RS):Adv st st:=⟨rfl,Zc _⟩
theorem Adv.trans{a b c:RS}(h:Adv a b)(k:Adv b c):Adv a c:=⟨k.1.trans h.1,Nat.le_trans h.2 k.2⟩
theorem dN(st:RS)(e:Int):Adv st (yp st e):=⟨(il st e).2.2.2.1,by rw[(il st e).2.2.2.2];exact Zc _⟩
theorem vY(st:RS)(op arg:Int):Adv st (zQ st op arg):=by unfold zQ;split<;>exact⟨rfl,Zc _⟩
theorem tN(st:RS)(n:Nat):Adv st (yN st n):=by unfold yN;split<;>exact⟨rfl,Zc _⟩
theorem iW(st:RS)(x:ByteArray×Int×Int):Adv st (xn st x):=⟨rfl,Zc _⟩
theorem iJ(st:RS)(l:List (ByteArray×Int×Int)):Adv st {st with Q:=l}:=⟨rfl,Zc _⟩
theorem nJ{st:RS}{m:Nat}(h:Inv st m):Adv st (zF st):=⟨rfl,Nat.le_trans (qL h).2 (qL h).1.place⟩
theorem gf{st:RS}{m:Nat}(h:Inv st m):Adv st (zP st):=by unfold zP;split;exact(nJ h).trans (dN _ _);exact nJ h
theorem JR{st:RS}{m:Nat}(h:Inv st m):Adv st (qt st):=by
 unfold qt;split;split;exact dN _ _;exact(vY st 4 0).trans ⟨rfl,Zc _⟩;split;exact dN _ _;split;exact gf h;split;exact(gf h).trans ⟨rfl,Zc _⟩;split;exact(gf h).trans ⟨rfl,Zc _⟩;have a:Adv (zP st) (xt (zP st)):=by unfold xt;split;exact nJ (cQ h);exact(nJ (cQ h)).trans (dN _ _)
 exact((gf h).trans a).trans ⟨rfl,Zc _⟩
theorem GK(st:RS):Adv st (qx st):=by unfold qx;simp only;split;exact(vY st _ _).trans (iW _ _);split;exact iW _ _;split;exact(vY st _ _).trans (iW _ _);split;exact dN _ _;unfold vM;simp only;split;exact(((iJ st _).trans (vY _ _ _)).trans (tN _ _)).trans (iW _ _);split;exact(iJ st _).trans (tN _ _);split;exact(iJ st _).trans (vY _ _ _);split;exact((iJ st _).trans (vY _ _ _)).trans (iW _ _);split;exact((iJ st _).trans (vY _ _ _)).trans (tN _ _);split;exact(iJ st _).trans (vY _ _ _);exact dN _ _
theorem GL(st:RS):Adv st (qO st):=by unfold qO;split;exact vY _ _ _;split;exact vY _ _ _;split;split;exact vY _ _ _;exact Adv.refl _;split;exact vY _ _ _;exact dN _ _
theorem nI{st:RS}{m:Nat}(h:Inv st m):Adv st (yd st):=by unfold yd;split;exact JR h;split;exact GK st;exact GL st
def yU(s:YB):RS:={s:=s,next:=0,place0:=0,E:=⟨#[]⟩,c0:=[],c1:=[],N:=[],Q:=[],P:=-1,name:=⟨#[]⟩,cells:=0,heads:=[],err:=0,place:=0}
def al(st:RS):Nat:=st.s.size-st.place0+1
def bX(s:YB):RS:=je (al (zF (yU s))) (zF (yU s))
def zH(s:YB):RS:=if(bX s).err=0/\(0<=(bX s).P\/(bX s).Q≠[])then yp (bX s) 4 else bX s
theorem eM(s:YB)(h:s.size<=2000):Inv (yU s) 0:=⟨h,Zq _,Zc _,by unfold lens yU;simp,by unfold yU;simp,by unfold yU;simp,by
    unfold yU
    simp
    rfl⟩
theorem oW{st:RS}{m:Nat}(h:Inv st m)(a:st.E.toList.isEmpty=Z):st.place0<st.next:=by
 rcases Nat.lt_or_ge st.place0 st.next with e|e;exact e;exfalso;have b:st.E.size=0:=by rw[h.E,ByteArray.size_extract];omega
 have:=ku st.E;rw[b]at this;rw[eq_nil_of_length_eq_zero this]at a;simp at a
theorem eJ{st:RS}{m:Nat}(h:Inv st m)(f:m<=st.place0)(a:st.E.toList.isEmpty=Z):Inv (zF (yd st)) (m+1)/\m+1<=(zF (yd st)).place0/\st.place0<(zF (yd st)).place0/\(zF (yd st)).s=st.s:=by have c:=cK h;have d:=qL c;have b:=nI h;have e:=oW h a;have:=b.2;exact⟨d.1,zo,zo,b.1⟩
theorem qX{st:RS}(f:Nat)(h:st.E.toList.isEmpty=Y\/st.err≠0):je f st=st:=by
 cases f with
 |zero=>rfl
 |succ f=>unfold je;rw[if_pos (by simpa using h)]
theorem NA {st:RS} {m:Nat} (f:Nat) (h:Inv st m) (hf:st.s.size-st.place0<f):∀ k,f+k≥0→je (f+k) st=je f st:=by
 induction f generalizing st m with
 |zero=>omega
 |succ f ih=>
  intro k _;by_cases hs:st.E.toList.isEmpty=Y∨st.err≠0;rw[qX _ hs,qX _ hs];have e:f+1+k=(f+k)+1:=zo;rw[e,je,je,if_neg (by simpa using hs),if_neg (by simpa using hs)];have hne:st.E.toList.isEmpty=Z:=by cases e:st.E.toList.isEmpty;rfl;exact absurd (Zg e) hs
  unfold fi;split;have h1:=cK h;have h2:=qL h1;have h3:=nI h;have h4:=oW h hne;have h5:=h3.2;have h6:=h2.1.place;have h7:=h2.1.next;have h8:(zF (yd st)).s=st.s:=h3.1;refine ih h2.1 ?_ k zo;rw[h8];rw[h8]at h7;omega;rename_i he;rw[qX _ (Zf he),qX _ (Zf he)]
theorem Am{st:RS}{m:Nat}(h:Inv st m)(j:m<=st.place0)(a:st.E.toList.isEmpty=Z)(g:st.err=0)(he:(yd st).err=0):je (al st) st=je (al (zF (yd st))) (zF (yd st)):=by
 obtain⟨b,k,l,c⟩:=eJ h j a;have n:=oW h a;have o:=h.next;have i:=b.next;have p:=b.place;rw[c]at i;have e:al st=(st.s.size-st.place0)+1:=rfl;rw[e,je,if_neg (by simp[a,g])];have d:fi st=zF (yd st):=by unfold fi;rw[if_pos he]
 rw[d];have f:st.s.size-st.place0=al (zF (yd st))+(st.s.size-st.place0-al (zF (yd st))):=by unfold al;rw[c];omega
 rw[f];exact NA _ b (by unfold al;omega) _ zo
theorem Fk{st:RS}(a:st.E.toList.isEmpty=Z)(c:st.err=0)(he:(yd st).err≠0):je (al st) st=yd st:=by
 have e:al st=(st.s.size-st.place0)+1:=rfl;rw[e,je,if_neg (by simp[a,c])];have b:fi st=yd st:=by unfold fi;rw[if_neg he]
 rw[b,qX _ (Zf he)]
theorem CE(s:YB)(w:YW)(h:2000<s.size):Calls prog 64 #[Sr s] w fun e w'=>e=Rt (Tu #[A X,I J 1,I J 0])/\w'=w:=by have a:(2000:Int)<s.size:=zo;go_enter func64,ntmps64;go_wp2_with fail;go_ret3;exact⟨rfl,rfl⟩
theorem Od(s:YB)(w:YW)(f:s.size<=2000):Rd w.heap.size (w.alloc (C (zX (yU s) (S X 0 0) (S X 0 0) (S X 0 0) (S X 0 0) (S X 0 0)) 178)) w.heap.size (yU s) (S X 0 0) (S X 0 0) (S X 0 0) (S X 0 0) (S X 0 0):=by
 refine⟨Blk.new _ _ _,Zc _,⟨?_,?_,?_,rfl⟩,by simp[yU];exact f⟩;intro i v t a d;have e:i<5:=(Zb.1 a).1;match i,e with
 |0,_=>simp[jU]at a d;subst a d;exact Zm _ _ _ _
 |1,_=>simp[jU]at a d;subst a d;exact Zm _ _ _ _
 |2,_=>simp[jU]at a d;subst a d;exact Zm _ _ _ _
 |3,_=>simp[jU]at a d;subst a d;exact Zm _ _ _ _
 |4,_=>simp[jU]at a d;subst a d;exact Zm _ _ _ _
 intro i j v v' k a g c;have e:i<5:=(Zb.1 a).1;match i,e with
 |0,_=>simp at a;subst a;simp[Value.ownBlock]at c
 |1,_=>simp at a;subst a;simp[Value.ownBlock]at c
 |2,_=>simp at a;subst a;simp[Value.ownBlock]at c
 |3,_=>simp at a;subst a;simp[Value.ownBlock]at c
 |4,_=>simp at a;subst a;simp[Value.ownBlock]at c
 intro i v b a _ c;have e:i<5:=(Zb.1 a).1;match i,e with
 |0,_=>simp at a;subst a;simp[Value.ownBlock]at c
 |1,_=>simp at a;subst a;simp[Value.ownBlock]at c
 |2,_=>simp at a;subst a;simp[Value.ownBlock]at c
 |3,_=>simp at a;subst a;simp[Value.ownBlock]at c
 |4,_=>simp at a;subst a;simp[Value.ownBlock]at c
def iF(B b:Nat)(w:YW)(s:YB)(wr:YW):Prop:=∃(st:RS)(m:Nat),RdE B wr b st/\Inv st m/\(st.err=0->m<=st.place0)/\st.s=s/\je (al st) st=bX s/\Below B w wr
def vy(b n:Nat)(wr:YW):Nat:=if cellInt wr b 12=0 then n-(cellInt wr b 2).toNat+1 else 0
theorem Nd{t:List UInt8}(h:xr t=Y):(t==[58])=Y\/((t==[58])=Z/\(t==[59])=Y)\/((t==[58])=Z/\(t==[59])=Z/\(t==[118,97,114,105,97,98,108,101])=Y)\/((t==[58])=Z/\(t==[59])=Z/\(t==[118,97,114,105,97,98,108,101])=Z/\(t==[99,111,110,115,116,97,110,116])=Y):=by unfold xr at h;cases h1:(t==[58])<;>cases h2:(t==[59])<;>cases h3:(t==[118,97,114,105,97,98,108,101])<;>simp_all
theorem St{t:List UInt8}(h:xr t=Z):(t==[58])=Z/\(t==[59])=Z/\(t==[118,97,114,105,97,98,108,101])=Z/\(t==[99,111,110,115,116,97,110,116])=Z:=by unfold xr at h;simp only[Bool.or_eq_false_iff]at h;exact⟨h.1.1.1,h.1.1.2,h.1.2,h.2⟩
theorem GZ{s:YB}(h:xM s=Y):jB s=Y/\(s.toList==[114,101,99,117,114,115,101])=Z:=by unfold xM at h;simpa using h
theorem Kg{s:YB}(h:xM s=Z):jB s=Z\/jB s=Y/\(s.toList==[114,101,99,117,114,115,101])=Y:=by unfold xM at h;cases h1:jB s;exact Zg rfl;rw[h1]at h;exact Zf ⟨rfl,by simpa using h⟩
theorem uq{B b:Nat}{w d:YW}{s:YB}{st:RS}{m:Nat}(e:Inv st m)(f:m<=st.place0)(a:st.E.toList.isEmpty=Z)(g:st.err=0)(he:(yd st).err=0)(c:st.s=s)(n:je (al st) st=bX s)(j:RdE B d b (zF (yd st)))(l:Below B w d):iF B b w s d:=by obtain⟨h,i,_,k⟩:=eJ e f a;exact⟨_,m+1,j,h,fun _=>i,by rw[k,c],by rw[<-Am e f a g he];exact n,l⟩
theorem BM{B b:Nat}{w d:YW}{s:YB}{st:RS}{m:Nat}(f:Inv st m)(a:st.E.toList.isEmpty=Z)(g:st.err=0)(he:(yd st).err≠0)(c:st.s=s)(j:je (al st) st=bX s)(h:RdE B d b (yd st))(i:Below B w d):iF B b w s d:=by refine⟨_,m+1,h,cK f,fun e=>absurd e he,by rw[(nI f).1,c],?_,i⟩;rw[qX _ (Zf he),<-Fk a g he];exact j
theorem Rd.cellErr{B:Nat}{w:YW}{b:Nat}{st:RS}{e f g i a:Value}(h:Rd B w b st e f g i a):YtmeiikjpaepogaaGreatDoor.cellInt w b 12=st.err/\YtmeiikjpaepogaaGreatDoor.cellInt w b 2=st.place0:=by have c:=h.D.u 12;have d:=h.D.u 2;simp[zX]at c d;simp[YtmeiikjpaepogaaGreatDoor.cellInt,c,d,intOf]
theorem rq{B b:Nat}{w k:YW}{s:YB}{st:RS}{m:Nat}{r t u v f:Value}(h:Rd B w b st r t u v f)(p:Inv st m)(q:m<=st.place0)(d:st.E.toList.isEmpty=Z)(l:st.err=0)(he:(yd st).err=0)(e:st.s=s)(a:RdE B k b (zF (yd st))):vy b s.size k<vy b s.size w:=by obtain⟨j,_,y,n⟩:=eJ p q d;obtain⟨D,E,F,G,x,a⟩:=a;have g:=h.cellErr;have i:=a.cellErr;have z:=j.place;have o:=j.next;rw[n,e]at o;have c:(zF (yd st)).err=0:=he;unfold vy;rw[g.1,g.2,i.1,i.2,c,l];simp;omega
theorem uc{B b n:Nat}{w d:YW}{st:RS}{i j k l c:Value}(h:Rd B w b st i j k l c)(g:st.err=0)(he:(yd st).err≠0)(a:RdE B d b (yd st)):vy b n d<vy b n w:=by obtain⟨o,p,q,r,m,a⟩:=a;have e:=h.cellErr;have f:=a.cellErr;unfold vy;rw[e.1,f.1,g,if_neg he];simp
theorem Sb{P:Prop}(zz0:P:=by
 have o:zH s=st:=by
  have e1:bX s=st:=by rw[<-U HL];exact qX _ (Zf c)
  unfold zH;rw[e1,if_neg (by intro e;exact c e.1)]
 have B:=U HE;rw[o]at B;obtain⟨B,h6⟩:=B;have P1:(st.err==0)=Z:=by simpa using c
 have n1:(st.err != 0)=Y:=by simpa using c
 clear o c i0 hi HE HL HM;go_wp2;go_quiet (fail);go_wp2_with fail;go_ret3;exact⟨zs,zS l _⟩):P:=zz0
theorem RX{P:Prop}(zz0:P:=by
 have r0:=V (i0 c);have b0:m<3000:=by have:=i0 c;have:=hi.place;have:=hi.next;have:=hi.size;omega
 clear i0;have M:=V hi;have V1:st.next<=st.s.size:=hi.next;clear hi;have q0:Hid (∀z,RdE w.heap.size z w.heap.size st->(xr st.E.toList=Y->Calls prog 127 #[A (O ⟨w.heap.size,0,X⟩)] z fun e w'=>e=Rt (Tu #[])/\RdE w.heap.size w' w.heap.size (yd st)/\Below w.heap.size z w')/\(xr st.E.toList=Z->xM st.E=Y->Calls prog 128 #[A (O ⟨w.heap.size,0,X⟩)] z fun e w'=>e=Rt (Tu #[])/\RdE w.heap.size w' w.heap.size (yd st)/\Below w.heap.size z w')/\(xr st.E.toList=Z->xM st.E=Z->Calls prog 129 #[A (O ⟨w.heap.size,0,X⟩)] z fun e w'=>e=Rt (Tu #[])/\RdE w.heap.size w' w.heap.size (yd st)/\Below w.heap.size z w')):=by intro z u;refine⟨fun hd=>?_,fun hd hk=>?_,fun hd hk=>?_⟩;have:=Km w.heap.size w.heap.size st z m u M b0 hd;simp only[yd,hd,if_true];exact this;have:=GX w.heap.size w.heap.size st z m u M b0 hk hd;simp only[yd,hd,hk,if_true,Bool.false_eq_true,if_false];exact this;have:=Ho w.heap.size w.heap.size st z m u M b0;simp only[yd,hd,hk,Bool.false_eq_true,if_false];exact this
 have S0:Hid (∀z,RdE w.heap.size z w.heap.size (yd st)->Calls prog 125 #[A (O ⟨w.heap.size,0,X⟩)] z fun e w'=>e=Rt (Tu #[])/\RdE w.heap.size w' w.heap.size (zF (yd st))/\Below w.heap.size z w'):=fun z u=>oR _ _ _ z u (cK M).next;have N:=V K;have H0:=V c;go_wp2_with fail;refine(pD st.E wr).m ?_;rintro e z ⟨rfl,hw⟩;obtain rfl:=hw.symm;clear hw;cases hdef:xr st.E.toList
 ·obtain⟨q1,q2,q3,q4⟩:=St hdef;cases hctl:xM st.E
  ·have HC:=V ((U q0 wr ⟨_,_,_,_,_,h⟩).2.2 hdef hctl);clear q0;rcases Kg hctl with c1|⟨c1,c2⟩;all_goals
    clear hctl hdef;go_wp2_with fail;refine HC.m ?_;rintro e z ⟨rfl,⟨x4,x5,x6,x7,E1,u⟩,t⟩;clear HC Q hf;by_cases he:(yd st).err=0
    ·have j:=V he;have Q:=u.D.u;have hf:=u.D.H;unfold zX at Q;go_wp2_with fail;refine(U S0 z ⟨_,_,_,_,_,u⟩).m ?_;rintro e w3 ⟨rfl,h3,w0⟩;go_wp2;go_roundw;case rel=>exact uq M r0 N H0 j F HL h3 ((l.trans t).trans w0)
     case measure=>exact rq h M r0 N H0 j F h3
    ·have j:=V he;have m1:((yd st).err==0)=Z:=by simpa using he
     have Q:=u.D.u;have hf:=u.D.H;unfold zX at Q;go_wp2;go_roundw;case rel=>exact BM M N H0 j F HL ⟨_,_,_,_,_,u⟩ (l.trans t)
     case measure=>exact uc h H0 j ⟨_,_,_,_,_,u⟩
  ·have HC:=V ((U q0 wr ⟨_,_,_,_,_,h⟩).2.1 hdef hctl);clear q0;obtain⟨c1,c2⟩:=GZ hctl;clear hctl hdef;go_wp2_with fail;refine HC.m ?_;rintro e z ⟨rfl,⟨x4,x5,x6,x7,E1,u⟩,t⟩;clear HC Q hf;by_cases he:(yd st).err=0
   ·have j:=V he;have Q:=u.D.u;have hf:=u.D.H;unfold zX at Q;go_wp2_with fail;refine(U S0 z ⟨_,_,_,_,_,u⟩).m ?_;rintro e w3 ⟨rfl,h3,w0⟩;go_wp2;go_roundw;case rel=>exact uq M r0 N H0 j F HL h3 ((l.trans t).trans w0)
    case measure=>exact rq h M r0 N H0 j F h3
   ·have j:=V he;have m1:((yd st).err==0)=Z:=by simpa using he
    have Q:=u.D.u;have hf:=u.D.H;unfold zX at Q;go_wp2;go_roundw;case rel=>exact BM M N H0 j F HL ⟨_,_,_,_,_,u⟩ (l.trans t)
    case measure=>exact uc h H0 j ⟨_,_,_,_,_,u⟩
 ·have HC:=V ((U q0 wr ⟨_,_,_,_,_,h⟩).1 hdef);clear q0;rcases Nd hdef with q1|⟨q1,q2⟩|⟨q1,q2,q3⟩|⟨q1,q2,q3,q4⟩;all_goals
   clear hdef;go_wp2_with fail;refine HC.m ?_;rintro e z ⟨rfl,⟨x4,x5,x6,x7,E1,u⟩,t⟩;clear HC Q hf;by_cases he:(yd st).err=0
   ·have j:=V he;have Q:=u.D.u;have hf:=u.D.H;unfold zX at Q;go_wp2_with fail;refine(U S0 z ⟨_,_,_,_,_,u⟩).m ?_;rintro e w3 ⟨rfl,h3,w0⟩;go_wp2;go_roundw;case rel=>exact uq M r0 N H0 j F HL h3 ((l.trans t).trans w0)
    case measure=>exact rq h M r0 N H0 j F h3
   ·have j:=V he;have m1:((yd st).err==0)=Z:=by simpa using he
    have Q:=u.D.u;have hf:=u.D.H;unfold zX at Q;go_wp2;go_roundw;case rel=>exact BM M N H0 j F HL ⟨_,_,_,_,_,u⟩ (l.trans t)
    case measure=>exact uc h H0 j ⟨_,_,_,_,_,u⟩):P:=zz0
theorem JB(s:YB)(w:YW)(hs:s.size<=2000)(e0 p0:Int)(A0:e0≠0)(o:(zH s).err=e0/\(zH s).place=p0):Calls prog 64 #[Sr s] w fun e w'=>e=Rt (Tu #[A X,I J e0,I J p0])/\Below w.heap.size w w':=by
 have h':(s.size:Int)<=2000:=zo;have G1:decide ((2000:Int)<(s.size:Int))=Z:=zp;have h0:=Od s w hs;have g0:=eM s hs;have HS:=V (oR w.heap.size w.heap.size (yU s) _ ⟨_,_,_,_,_,h0⟩ g0.next);unfold zX yU at HS;have M:=V (qL g0);have HE:=V o;clear o g0 h0;go_enter func64,ntmps64;go_wp2_with fail;refine HS.m ?_;rintro e w1 ⟨rfl,h1,v0⟩;have t:Below w.heap.size w w1:=((Ze _ _).alloc (Zc _) _).trans v0;have L:iF w.heap.size w.heap.size w s w1:=⟨zF (yU s),0,h1,M.1,fun _=>Zq _,rfl,rfl,t⟩;clear HS M h1 v0 t;go_wp2;go_loopw [] (fun wr=>iF w.heap.size w.heap.size w s wr) (fun wr=>vy w.heap.size s.size wr);case atStart=>exact L
 case round=>
  clear L;obtain⟨st,m,⟨v4,v5,v6,v7,C1,h⟩,hi,i0,F0,H,l⟩:=hrel;have HL:=V H;have F:=V F0;have E0:=h.cellErr;have HM:=V E0;clear H F0 E0;have Q:=h.D.u;have hf:=h.D.H;unfold zX at Q;cases K:st.E.toList.isEmpty
  ·by_cases c:st.err=0
   ·exact RX
   ·exact Sb
  ·by_cases c:st.err=0
   ·have e1:bX s=st:=by rw[<-U HL];exact qX _ (Zg K)
    have n:0<=st.P\/st.Q≠[]:=by rcases Classical.em (0<=st.P\/st.Q≠[])with e|e;exact e;exfalso;have B:=HE.1;unfold zH at B;rw[e1,if_neg (by intro e';exact e e'.2),c]at B;exact A0 B.symm
    have o:zH s=yp st 4:=by unfold zH;rw[e1,if_pos ⟨c,n⟩]
    have B:=U HE;rw[o]at B;obtain⟨B,h6⟩:=B;have HF:=V (eA w.heap.size w.heap.size st v4 v5 v6 v7 C1 4 wr h);have e9:(yp st 4).err=4:=by unfold yp;rw[if_pos c]
    have n1:((yp st 4).err != 0)=Y:=by rw[e9];rfl
    generalize yp st 4=f2 at HF B h6 n1;obtain⟨a7,k7,M0⟩:=zu h.o7;have Z1:(st.Q.length:Int)<=4000:=by have:=h.R;omega
    have X0:0<=st.P\/st.P<0/\(0:Int)<st.Q.length:=by by_cases e:0<=st.P;exact Zg e;refine Zf ⟨zo,?_⟩;rcases n with e'|e';exact absurd e' e;have:=length_pos_iff.2 e';omega
    subst M0;have O1:0<st.Q.length->decide (0<st.Q.length)=Y:=fun e=>by simpa using e
    clear o i0 hi HE HL HM e1 n e9;rcases X0 with e1|⟨e1,e2⟩;all_goals go_wp2_with fail;refine HF.m ?_;rintro e z ⟨rfl,u,t⟩;have J1:=u.D.u;unfold zX at J1;go_wp2;go_quiet (fail);go_wp2_with fail;go_ret3;exact⟨zs,zS (l.trans t) _⟩
   ·exact Sb
def qs(e:Int)(x:Int×Int):Int×Int:=if x.1=1\/x.1=2\/x.1=7 then(x.1,wrap64 (x.2+e))else x
def yh(st:RS):YL:=st.c0++st.c1.map (qs st.c0.length)++[(5,0)]
structure Pg(B:Nat)(w:YW)(p:Nat)(l:YL)(en ce:Int)(he:YI)(vL vH:Value):Prop where
 D:Blk w p #[vL,I J en,I J ce,vH] 137
 K:B<=p
 aD:yS B w [p] [vL,vH] [⟨65,2,l.length,zc l⟩,⟨3,1,he.length,he.map (Value.int .i64)⟩]
def PgE(B:Nat)(w:YW)(p:Nat)(l:YL)(en ce:Int)(he:YI):Prop:=∃vL vH,Pg B w p l en ce he vL vH
structure Mk(B:Nat)(w:YW)(b p:Nat)(st:RS)(v4 v5 v6 v7 v11:Value)(l:YL)(he:YI)(vL vH:Value):Prop where
 blkR:Blk w b (zX st v4 v5 v6 v7 v11) 178
 blkP:Blk w p #[vL,I J st.c0.length,I J st.cells,vH] 137
 baseR:B<=b
 baseP:B<=p
 ne:b≠p
 aD:yS B w [b,p] [v4,v5,vH,vL] [⟨65,2,st.c0.length,zc st.c0⟩,⟨65,2,st.c1.length,zc st.c1⟩,⟨3,1,he.length,he.map (Value.int .i64)⟩,⟨65,2,l.length,zc l⟩]
def fq(i:Nat):Nat:=match i with|0=>0|1=>1|2=>4|n+3=>n+5
theorem TN{B:Nat}{w:YW}{b:Nat}{st:RS}{f g o p a:Value}(h:Rd B w b st f g o p a):Mk B (w.alloc (C #[S X 0 0,I J st.c0.length,I J st.cells,a] 137)) b w.heap.size st f g o p a [] st.heads (S X 0 0) a:=by
 have r:=h.D.lt;refine⟨h.D.alloc _,Blk.new _ _ _,h.K,by have:=h.K;omega,zo,?_⟩;have q:=h.aD.sub (bs':=[b,w.heap.size]) (vs':=[f,g,a]) (ss':=[⟨65,2,st.c0.length,zc st.c0⟩,⟨65,2,st.c1.length,zc st.c1⟩,⟨3,1,st.heads.length,st.heads.map (Value.int .i64)⟩]) fq ?_ rfl ?_ ?_ ?_;exact(q.alloc _).nil 65 2;intro i j e;match i,j with
 |0,0=>rfl
 |0,1=>simp[fq]at e
 |0,2=>simp[fq]at e
 |0,n+3=>simp[fq]at e
 |1,0=>simp[fq]at e
 |1,1=>rfl
 |1,2=>simp[fq]at e
 |1,n+3=>simp[fq]at e
 |2,0=>simp[fq]at e
 |2,1=>simp[fq]at e
 |2,2=>rfl
 |2,n+3=>simp[fq]at e
 |m+3,0=>simp[fq]at e
 |m+3,1=>simp[fq]at e
 |m+3,2=>simp[fq]at e
 |m+3,n+3=>simp[fq]at e;omega
 intro i v c;have d:=(Zb.1 c).1;match i,d with
 |0,_=>exact c
 |1,_=>exact c
 |2,_=>exact c
 intro i v c;have d:=(Zb.1 c).1;match i,d with
 |0,_=>exact c
 |1,_=>exact c
 |2,_=>exact c
 intro k l;simp at l;rcases l with rfl|rfl;exact Zg zs;exact Zf (Zc _)
section
variable {B:Nat} {w:YW} {b p:Nat} {st:RS} {v4 v5 v6 v7 v11:Value} {l:YL} {he:YI} {vL vH:Value}
theorem Mk.drew(h:Mk B w b p st v4 v5 v6 v7 v11 l he vL vH):Mk B w.drew b p st v4 v5 v6 v7 v11 l he vL vH:=⟨h.blkR,h.blkP,h.baseR,h.baseP,h.ne,h.aD.drew⟩
theorem Mk.alloc(h:Mk B w b p st v4 v5 v6 v7 v11 l he vL vH)(o:Obj):Mk B (w.alloc o) b p st v4 v5 v6 v7 v11 l he vL vH:=⟨h.blkR.alloc o,h.blkP.alloc o,h.baseR,h.baseP,h.ne,h.aD.alloc o⟩
theorem Mk.o4(h:Mk B w b p st v4 v5 v6 v7 v11 l he vL vH):w.ownsRow B 65 2 v4 st.c0.length (zc st.c0):=h.aD.own 0 v4 _ rfl rfl
theorem Mk.o5(h:Mk B w b p st v4 v5 v6 v7 v11 l he vL vH):w.ownsRow B 65 2 v5 st.c1.length (zc st.c1):=h.aD.own 1 v5 _ rfl rfl
theorem Mk.oH(h:Mk B w b p st v4 v5 v6 v7 v11 l he vL vH):w.ownsRow B 3 1 vH he.length (he.map (Value.int .i64)):=h.aD.own 2 vH _ rfl rfl
theorem Mk.oL(h:Mk B w b p st v4 v5 v6 v7 v11 l he vL vH):w.ownsRow B 65 2 vL l.length (zc l):=h.aD.own 3 vL _ rfl rfl
theorem Mk.far(h:Mk B w b p st v4 v5 v6 v7 v11 l he vL vH)(i:Nat)(v:Value)(a:[v4,v5,vH,vL][i]? = O v):O b≠v.ownBlock/\O p≠v.ownBlock:=⟨fun e=>h.aD.off i v b a zs e.symm,fun e=>h.aD.off i v p a zs e.symm⟩
theorem Mk.lts(h:Mk B w b p st v4 v5 v6 v7 v11 l he vL vH):∀k∈[b,p],k<w.heap.size:=by intro k a;simp at a;rcases a with rfl|rfl;exact h.blkR.lt;exact h.blkP.lt
theorem Mk.growH{f:YW}(h:Mk B w b p st v4 v5 v6 v7 v11 l he vL vH){x:Int}{g cap H:Nat}(c:w.grownBy f vH.ownBlock)(d:f.ownsRow B 3 1 (S (O ⟨g,0,X⟩) (he.length+1) cap) (he.length+1) (he.map (Value.int .i64)++[I J x]))(e:vH.ownBlock=O g\/g=H)(j:w.heap.size<=H):Mk B (f.setCell ⟨p,3,X⟩ (S (O ⟨g,0,X⟩) (he.length+1) cap)) b p st v4 v5 v6 v7 v11 l (he++[x]) vL (S (O ⟨g,0,X⟩) (he.length+1) cap):=by have i:=h.far 2 vH rfl;refine⟨(h.blkR.grown c i.1).far (a:=⟨p,3,X⟩) h.ne _,?_,h.baseR,h.baseP,h.ne,?_⟩;have:=(h.blkP.grown c i.2).set 3 (S (O ⟨g,0,X⟩) (he.length+1) cap);simpa using this;have:=(h.aD.grow 2 vH (S (O ⟨g,0,X⟩) (he.length+1) cap) ⟨3,1,he.length+1,he.map (Value.int .i64)++[I J x]⟩ rfl h.lts c d (qG e j)).set (b:=p) zs 3 (S (O ⟨g,0,X⟩) (he.length+1) cap);simpa using this
theorem Mk.growL{f:YW}(h:Mk B w b p st v4 v5 v6 v7 v11 l he vL vH){xs:YL}{v':Value}(c:w.grownBy f vL.ownBlock)(d:f.ownsRow B 65 2 v' (l.length+xs.length) (zc l++zc xs))(e:v'.ownBlock=vL.ownBlock\/∃g,v'.ownBlock=O g/\w.heap.size<=g):Mk B (f.setCell ⟨p,0,X⟩ v') b p st v4 v5 v6 v7 v11 (l++xs) he v' vH:=by have i:=h.far 3 vL rfl;refine⟨(h.blkR.grown c i.1).far (a:=⟨p,0,X⟩) h.ne _,?_,h.baseR,h.baseP,h.ne,?_⟩;have:=(h.blkP.grown c i.2).set 0 v';simpa using this;have:=(h.aD.grow 3 vL v' ⟨65,2,l.length+xs.length,zc l++zc xs⟩ rfl h.lts c d e).set (b:=p) zs 0 v';simpa [zc]using this
theorem Mk.setFar(h:Mk B w b p st v4 v5 v6 v7 v11 l he vL vH)(n c:Nat)(u:Value)(f:n≠b)(g:n≠p)(j:∀(i:Nat)(v:Value),[v4,v5,vH,vL][i]? = O v->v.ownBlock≠O n):Mk B (w.setCell ⟨n,c,X⟩ u) b p st v4 v5 v6 v7 v11 l he vL vH:=⟨h.blkR.far (a:=⟨n,c,X⟩) (fun e=>f e.symm) u,h.blkP.far (a:=⟨n,c,X⟩) (fun e=>g e.symm) u,h.baseR,h.baseP,h.ne,h.aD.to (fun i v k m e _=>Below.heap_setCell _ _ _ _ (fun d=>j i v m (by rw[e,d])))⟩
theorem Mk.pg(h:Mk B w b p st v4 v5 v6 v7 v11 l he vL vH):Pg B w p l st.c0.length st.cells he vL vH:=by
 refine⟨h.blkP,h.baseP,?_⟩;refine h.aD.sub (fun i=>match i with|0=>3|1=>2|n+2=>n+4) ?_ rfl ?_ ?_ zs;intro i j e;match i,j with
 |0,0=>rfl
 |0,1=>simp at e
 |0,n+2=>simp at e
 |1,0=>simp at e
 |1,1=>rfl
 |1,n+2=>simp at e
 |m+2,0=>simp at e
 |m+2,1=>simp at e
 |m+2,n+2=>simp at e;omega
 intro i v a;have c:=(Zb.1 a).1;match i,c with
 |0,_=>exact a
 |1,_=>exact a
 intro i v a;have c:=(Zb.1 a).1;match i,c with
 |0,_=>exact a
 |1,_=>exact a
end
def sG(op:Int):Bool:=op==1 || op==2 || op==7
theorem CJ(e:Int)(x:Int×Int):qs e x=(x.1,if sG x.1 then wrap64 (x.2+e)else x.2):=by unfold qs sG;by_cases h:x.1=1\/x.1=2\/x.1=7;rw[if_pos h];rcases h with h|h|h<;>simp[h];rw[if_neg h];have a:x.1≠1:=fun e=>h (Zg e);have b:x.1≠2:=fun e=>h (Zf (Zg e));have c:x.1≠7:=fun e=>h (Zf (Zf e));simp[a,b,c]
theorem take_one{α:Type}(l:List α)(k:Nat)(c:α)(h:l[k]? = O c):l.take (k+1)=l.take k++[c]:=by obtain⟨a,rfl⟩:=Zb.1 h;rw[take_succ_eq_append_getElem a]
theorem Fy{w:YW}{base:Nat}{e:TypeId}{size n cap:Nat}{xs:List Value}(h:w.ownsRow base e size (S X n cap) n xs):cap=0:=by rcases h.2 with⟨b,_⟩|⟨g,a,cur,c,_⟩;simp at b;exact b.2;simp at c
theorem ov{w:YW}{base:Nat}{e:TypeId}{size n g cap:Nat}{xs:List Value}(h:w.ownsRow base e size (S (O ⟨g,0,X⟩) n cap) n xs):∀j u,xs[j]? = O u->w.cell? ((⟨g,0,X⟩:Addr).add j)=O u:=by
 intro j u b;have a:(⟨g,0,X⟩:Addr).add j=⟨g,j,X⟩:=by unfold Addr.add;split<;>simp_all
 have c:j<n*size:=by have:=(Zb.1 b).1;rw[h.1]at this;exact this
 rw[a,zD h j c,b]
theorem kP(l:YL):∀u∈zc l,u.oneCell'=Y:=by intro u a;unfold zc at a;rw[mem_flatMap]at a;obtain⟨x,_,b⟩:=a;simp at b;rcases b with rfl|rfl<;>rfl
theorem oB(s:YB)(w:YW)(hs:s.size<=2000)(A0:(zH s).err=0):Calls prog 64 #[Sr s] w fun e w'=>∃p,e=Rt (Tu #[A (O ⟨p,0,X⟩),I J 0,I J 0])/\PgE w.heap.size w' p (yh (zH s)) (zH s).c0.length (zH s).cells ((zH s).heads++[((zH s).c0.length:Int)])/\Below w.heap.size w w':=by
 obtain⟨iI,J0,l0,m0,n0⟩:=info_parts yJ;obtain⟨iN,L1,x1,y1,A1⟩:=info_parts eQ;have h':(s.size:Int)<=2000:=zo;have G1:decide ((2000:Int)<(s.size:Int))=Z:=zp;have h0:=Od s w hs;have g0:=eM s hs;have HS:=V (oR w.heap.size w.heap.size (yU s) _ ⟨_,_,_,_,_,h0⟩ g0.next);unfold zX yU at HS;have M:=V (qL g0);have HE:=V A0;generalize P0:zH s=a at A0 ⊢;have N0:=V P0;clear A0 P0 g0 h0;go_enter func64,ntmps64;go_wp2_with fail;refine HS.m ?_;rintro e w1 ⟨rfl,h1,v0⟩;have t:Below w.heap.size w w1:=((Ze _ _).alloc (Zc _) _).trans v0;have L:iF w.heap.size w.heap.size w s w1:=⟨zF (yU s),0,h1,M.1,fun _=>Zq _,rfl,rfl,t⟩;clear HS M h1 v0 t;go_wp2;go_loopw [] (fun wr=>iF w.heap.size w.heap.size w s wr) (fun wr=>vy w.heap.size s.size wr);case atStart=>exact L
 case round=>
  clear L;obtain⟨st,m,⟨v4,v5,v6,v7,C1,h⟩,hi,i0,F0,H,l⟩:=hrel;have HL:=V H;have F:=V F0;have E0:=h.cellErr;have HM:=V E0;clear H F0 E0;have Q:=h.D.u;have hf:=h.D.H;unfold zX at Q;cases K:st.E.toList.isEmpty
  ·by_cases c:st.err=0
   ·exact RX
   exfalso;have e1:bX s=st:=by rw[<-U HL];exact qX _ (Zf c)
   have B:=U HE;unfold zH at B;rw[e1,if_neg (by intro e;exact c e.1)]at B;exact c B
  ·by_cases c:st.err=0
   ·have e1:bX s=st:=by rw[<-U HL];exact qX _ (Zg K)
    have n:¬(0<=st.P\/st.Q≠[]):=by intro e;have B:=U HE;unfold zH at B;rw[e1,if_pos ⟨c,e⟩]at B;unfold yp at B;rw[if_pos c]at B;simp at B
    have o:zH s=st:=by unfold zH;rw[e1,if_neg (by intro e;exact n e.2)]
    have H1:a=st:=by rw[<-U N0,o]
    subst H1;have a2:a.P<0:=by rcases Int.lt_or_le a.P 0 with e|e;exact e;exact absurd (Zg e) n
    have r1:a.Q=[]:=by rcases Classical.em (a.Q=[])with e|e;exact e;exact absurd (Zf e) n
    obtain⟨a7,k7,M0⟩:=zu h.o7;rw[r1,length_nil]at M0;obtain⟨a4,k4,K0⟩:=zu h.o4;obtain⟨a0,j0,t1⟩:=zu h.o11;subst M0;subst K0;subst t1;have X1:(a.c0.length:Int)<=4000:=by have:=h.R;omega
    have K1:a.heads.length<=4000:=h.R.2.2.2.2.1;have k1:(a.c1.length:Int)<=4000:=by have:=h.R;omega
    have V0:=h.D.lt;clear o i0 hi HE HL HM e1 n N0 F r1;go_wp2;go_region;go_wp2_with fail;have y:=(TN h).drew;have f0:Below w.heap.size w (wr.alloc (C #[S X 0 0,I J a.c0.length,I J a.cells,S a0 a.heads.length j0] 137)).drew:=(l.alloc (by have:=h.K;omega) _).drew;generalize (wr.alloc (C #[S X 0 0,I J a.c0.length,I J a.cells,S a0 a.heads.length j0] 137)).drew=w1 at y f0 ⊢;generalize wr.heap.size=p at y ⊢;clear h l Q hf V0;have p1:=y.lts;have t0:p<w1.heap.size:=y.blkP.lt;have W:=y.blkP.u;have s0:=y.blkP.H;have HB:=V y.blkP;have K:=(y.far 2 _ rfl).2;have HW:=V (zE y.oH (C #[I J a.c0.length] 3));have T:w.heap.size<=(w1.alloc (C #[I J a.c0.length] 3)).drew.heap.size:=by have:=y.baseP;show w.heap.size<=(w1.alloc _).heap.size;simp;omega
    have o0:=V T;have R:a.heads.length<=4000:=K1;clear T;go_cut []from 119 to 147 (fun wc=>∃vH,Mk w.heap.size wc w.heap.size p a (S a4 a.c0.length k4) v5 v6 (S a7 0 k7) (S a0 a.heads.length j0) [] (a.heads++[(a.c0.length:Int)]) (S X 0 0) vH/\Below w.heap.size w wc)
    case first=>go_region_law (refine step_append_lies _ rfl (.tmp 139) (.tmp 144) 115 rfl w.heap.size 3 iN _ 1 8 underlying115 L1 x1 y1 A1 rfl zd (S a0 a.heads.length j0) a.heads.length (a.heads.map (Value.int .i64)) zf HW ⟨w1.heap.size,0,X⟩ 1 1 [I J a.c0.length] zf rfl (World.news_of_block (Blk.new w1 _ _)) (ky _) zo zm zo o0 _ rfl ?_;intro g cap z d b G D0;have f:=(HB.alloc _).drew.grown b K;have G0:=f.u;have I0:=f.H;have HO:=V d;have HG:=V b;have HA:=V G;clear d b G f);all_goals go_wp2;go_meet;refine⟨_,y.growH (xU HG) HO HA zs,?_⟩;exact f0.trans ((xh (by have:=y.baseP;omega) (fun k hk=>(zC y.oH hk).2) HG).setCell (p:=⟨p,3,X⟩) y.baseP (S (O ⟨g,0,X⟩) (a.heads.length+1) cap))
    case rest=>
     clear HB HW o0 W s0 p1 t0 K y f0;obtain⟨vH,r,x0⟩:=hcut;have W:=r.blkP.u;have s0:=r.blkP.H;have y0:=r.blkR.u;have t0:p<wc.heap.size:=r.blkP.lt;have W0:w.heap.size<wc.heap.size:=r.blkR.lt;unfold zX at y0;have W1:p≠w.heap.size:=fun e=>r.ne e.symm;go_wp2;go_cut []from 119 to 160 (fun wd=>∃vL vH,Mk w.heap.size wd w.heap.size p a (S a4 a.c0.length k4) v5 v6 (S a7 0 k7) (S a0 a.heads.length j0) a.c0 (a.heads++[(a.c0.length:Int)]) vL vH/\Below w.heap.size w wd)
     case first=>
      have Y0:=V r.blkP;have N1:=V r.blkR;by_cases h0:a.c0=[]
      ·have T0:a.c0.length=0:=by rw[h0];rfl
       have HN:Hid (a4=X->k4=0):=fun e=>by
         have:=r.o4
         rw[e]at this
         exact Fy this
       go_region_law (refine uu rfl (.tmp 152) (.tmp 157) 33 rfl 65 iI _ 2 16 underlying33 J0 l0 m0 n0 rfl zd zf a4 k4 zf HN ?_;intro z b;have f:=Y0.drew.grown b zs;have G0:=f.u;have I0:=f.H;have HG:=V b;clear b f);all_goals go_wp2;go_meet;have h1:=r.drew.growL (xs:=[]) (v':=S X 0 0) HG (Zm _ _ _ _) (Zg rfl);rw[append_nil]at h1;rw[<-h0]at h1;refine⟨_,_,h1,?_⟩;exact(x0.drew.grown HG (by show w.heap.size<=wc.heap.size;omega) (fun k hk=>by cases hk)).setCell r.baseP _
      ·have T0:0<a.c0.length:=length_pos_iff.2 h0;obtain⟨g4,b2,K0,_,R1⟩:=r.o4.form T0;simp only[Zk,true_and]at K0;obtain⟨rfl,rfl⟩:=K0;go_region_law (refine step_append_lies _ rfl (.tmp 152) (.tmp 157) 33 rfl w.heap.size 65 iI _ 2 16 underlying33 J0 l0 m0 n0 rfl zd (S X 0 0) 0 [] zf (Zm _ _ _ _) ⟨g4,0,X⟩ a.c0.length k4 (zc a.c0) zf (yL _) (ov r.drew.o4) (kP _) T0 zm zo (by show w.heap.size<=wc.heap.size;omega) _ rfl ?_;intro g cap z d b G D0;have f:=Y0.drew.grown b zq;have G0:=f.u;have I0:=f.H;have HO:=V d;have HG:=V b;have HA:=V G;clear d b G f);all_goals go_wp2;go_meet;have d:=U HO;rw[Nat.zero_add,nil_append]at d;refine⟨_,_,r.drew.growL (xs:=a.c0) HG (by simpa [zc]using d) (qG HA (Zc _)),?_⟩;exact(x0.drew.grown HG (by show w.heap.size<=wc.heap.size;omega) (fun k hk=>by cases hk)).setCell r.baseP _
     case rest=>
      clear W s0 y0 t0 W0 r x0;obtain⟨vL,g2,f1,O0⟩:=hcut;rename_i wd;go_wp2;go_loopw [8] (fun i D1=>∃(k:Nat)(vL vH:Value),i=I J k/\k<=a.c1.length/\Mk w.heap.size D1 w.heap.size p a (S a4 a.c0.length k4) v5 v6 (S a7 0 k7) (S a0 a.heads.length j0) (a.c0++(a.c1.take k).map (qs a.c0.length)) (a.heads++[(a.c0.length:Int)]) vL vH/\Below w.heap.size w D1) (fun i _=>a.c1.length-(intOf i).toNat);case atStart=>exact⟨0,_,_,rfl,Zq _,by simpa using f1,O0⟩
      case round=>
       clear f1 O0;obtain⟨k,vL,vH,rfl,hk,E,f0⟩:=hrel;obtain⟨a5,k5,L0⟩:=zu E.o5;have Y1:(a.c1.length:Int)<=4000:=k1;have T1:(k:Int)<=4000:=zo;subst L0;have W:=E.blkP.u;have s0:=E.blkP.H;have y0:=E.blkR.u;have t0:p<wr.heap.size:=E.blkP.lt;have W0:w.heap.size<wr.heap.size:=E.blkR.lt;unfold zX at y0;by_cases V0:k<a.c1.length
       ·obtain⟨g5,d2,L0,_,S1⟩:=E.o5.form zo;simp only[Zk,true_and]at L0;obtain⟨rfl,rfl⟩:=L0;obtain⟨x,hx⟩:∃x,a.c1[k]? = O x:=⟨_,Za V0⟩;have u1:=zD E.o5 (k*2) zo;have v1:=zD E.o5 (k*2+1) zo;rw[(zL _ _ _ hx).1]at u1;rw[(zL _ _ _ hx).2]at v1;have HX:=V hx;clear hx;have M1:(k:Int)<a.c1.length:=zo;have Q0:(x.1==1)=Y\/((x.1==1)=Z/\(x.1==2)=Y)\/((x.1==1)=Z/\(x.1==2)=Z/\(x.1==7)=Y)\/((x.1==1)=Z/\(x.1==2)=Z/\(x.1==7)=Z):=by cases (x.1==1)<;>cases (x.1==2)<;>cases (x.1==7)<;>simp
        have F1:=V Q0;clear Q0;have g1:wr.heap.size≠w.heap.size:=zo;have i1:wr.heap.size≠p:=zo;have j1:∀(i:Nat)(v:Value),[S a4 a.c0.length k4,S (O ⟨g5,0,X⟩) a.c1.length k5,vH,vL][i]? = O v->v.ownBlock≠O wr.heap.size:=by intro i v hv e;have hi:=(Zb.1 hv).1;have:=(zC (E.aD.own i v _ hv (Za (by rw[<-E.aD.len];exact hi))) e).1;omega
        have d1:=V j1;have b1:Hid (w.heap.size<=wr.heap.size):=by show w.heap.size<=wr.heap.size;omega
        clear j1;have d0:Blk (wr.alloc (C #[I J x.1,I J x.2] 65)) wr.heap.size #[I J x.1,I J x.2] 65:=Blk.new wr _ _;have u0:=E.alloc (C #[I J x.1,I J x.2] 65);have k0:Below w.heap.size w (wr.alloc (C #[I J x.1,I J x.2] 65)):=f0.alloc (by have:=E.baseP;omega) _;go_upto_region 25 with fail;generalize wr.alloc (C #[I J x.1,I J x.2] 65)=wy at d0 u0 k0 ⊢;generalize wr.heap.size=nb at d0 g1 i1 d1 b1 ⊢;clear W s0 y0 t0 W0 E f0 u1 v1;have l1:=d0.u;have W:=u0.blkP.u;go_cut [191]from 161 to 209 (fun B1 wz=>B1=Bl (sG x.1)/\wz=wy)
        case first=>rcases U F1 with q|⟨q1,q⟩|⟨q1,q2,q⟩|⟨q1,q2,q3⟩;all_goals go_wp2;go_meet;exact⟨by simp[sG, *],rfl⟩
        case rest=>
         obtain⟨rfl,rfl⟩:=hcut;go_upto_if 191 with fail;go_cut []from 161 to 209 (fun wz=>∃y2,qs a.c0.length x=(x.1,y2)/\Blk wz nb #[I J x.1,I J y2] 65/\Mk w.heap.size wz w.heap.size p a (S a4 a.c0.length k4) (S (O ⟨g5,0,X⟩) a.c1.length k5) v6 (S a7 0 k7) (S a0 a.heads.length j0) (a.c0++(a.c1.take k).map (qs a.c0.length)) (a.heads++[(a.c0.length:Int)]) vL vH/\Below w.heap.size w wz)
         case first=>
          have R:=CJ a.c0.length x;cases hj:sG x.1
          ·rw[hj]at R;go_wp2;go_meet;exact⟨x.2,R,d0,u0,k0⟩
          ·rw[hj]at R;have R0:=V R;clear R;have Q1:=d0.H;go_wp2;go_region;go_wp2;go_meet;exact⟨_,U R0,by have:=(d0.set 1 (I J (wrap64 (x.2+a.c0.length)))).drew;simpa using this,(u0.setFar nb 1 _ g1 i1 d1).drew,(k0.setCell (by show w.heap.size<=nb;have:=U b1;omega) _).drew⟩
         case rest=>
          clear l1 W d0 u0 k0;obtain⟨y2,R,hN,D,I1⟩:=hcut;have R0:=V R;clear R;have W:=D.blkP.u;have s0:=D.blkP.H;have l1:=hN.u;have t0:=D.blkP.lt;have U1:=hN.lt;have HB:=V D.blkP;have K:=(D.far 3 _ rfl).2;have U0:(a.c0++(a.c1.take k).map (qs a.c0.length)).length<=9000:=zp;have C0:a.c0++(a.c1.take (k+1)).map (qs a.c0.length)=(a.c0++(a.c1.take k).map (qs a.c0.length))++[(x.1,y2)]:=by rw[take_one _ _ _ (U HX),map_append,<-Zy,map_singleton,U R0]
          have a1:=V C0;clear C0;generalize a.c0++(a.c1.take k).map (qs a.c0.length)=ll at D U0 a1;have HW:=V (zE D.oL (C #[I J x.1,I J y2] 65));have T:w.heap.size<=(wc.alloc (C #[I J x.1,I J y2] 65)).drew.heap.size:=by have:=D.baseP;show w.heap.size<=(wc.alloc _).heap.size;simp;omega
          have o0:=V T;clear T;go_wp2;go_region_law (refine step_append_lies _ rfl (.tmp 204) (.tmp 206) 33 rfl w.heap.size 65 iI _ 2 16 underlying33 J0 l0 m0 n0 rfl zd vL ll.length (zc ll) zf HW ⟨wc.heap.size,0,X⟩ 1 1 [I J x.1,I J y2] zf rfl (World.news_of_block (Blk.new wc _ _)) (jL _ _) zo zm zo o0 _ rfl ?_;intro g cap z d b G D0;have f:=(HB.alloc _).drew.grown b K;have G0:=f.u;have I0:=f.H;have HO:=V d;have HG:=V b;have HA:=V G;clear d b G f);all_goals
           go_wp2;go_roundw;case rel=>have hg:=D.growL (xs:=[(x.1,y2)]) (xU HG) HO (qG HA zs);rw[<-U a1]at hg;refine⟨k+1,_,_,by go_num,zo,hg,?_⟩;exact I1.trans ((xh (by have:=D.baseP;omega) (fun k hk=>(zC D.oL hk).2) HG).setCell (p:=⟨p,0,X⟩) D.baseP _)
           case measure=>exact zv
       ·have o1:a.c1.take k=a.c1:=take_of_length_le zo;have B0:yh a=(a.c0++a.c1.map (qs a.c0.length))++[(5,0)]:=rfl;rw[o1]at E;have U0:(a.c0++a.c1.map (qs a.c0.length)).length<=9000:=zp;have Z0:=V B0;clear B0 o1;generalize a.c0++a.c1.map (qs a.c0.length)=ll at E U0 Z0;have HB:=V E.blkP;have K:=(E.far 3 _ rfl).2;have HW:=V (zE E.oL (C #[I J 5,I J 0] 65));have T:w.heap.size<=(wr.alloc (C #[I J 5,I J 0] 65)).heap.size:=by have:=E.baseP;simp;omega
        have o0:=V T;clear T;go_wp2_with (at_builtin;refine wpList_append_lies _ rfl (.tmp 214) (.tmp 216) 33 rfl w.heap.size 65 iI _ 2 16 underlying33 J0 l0 m0 n0 rfl zd vL ll.length (zc ll) zf HW ⟨wr.heap.size,0,X⟩ 1 1 [I J 5,I J 0] zf rfl (World.news_of_block (Blk.new wr _ _)) (jL _ _) zo zm zo o0 _ rfl ?_;intro g cap z d b G D0;have f:=(HB.alloc _).grown b K;have G0:=f.u;have I0:=f.H;have HO:=V d;have HG:=V b;have HA:=V G;clear d b G f);go_ret3;have s1:=(E.growL (xs:=[(5,0)]) (qj HG) HO (qG HA zs)).pg;rw[<-U Z0]at s1;refine⟨p,rfl,⟨_,_,s1⟩,?_⟩;exact f0.trans ((xk (by have:=E.baseP;omega) (fun k hk=>(zC E.oL hk).2) HG).setCell (p:=⟨p,0,X⟩) E.baseP _)
   exfalso;have e1:bX s=st:=by rw[<-U HL];exact qX _ (Zf c)
   have B:=U HE;unfold zH at B;rw[e1,if_neg (by intro e;exact c e.1)]at B;exact c B
def lW(h d:Nat)(x:Int×Int):Prop:=(0<=x.1/\x.1<=32)/\inI x.2/\(x.1=1\/x.1=2\/x.1=7->0<=x.2/\x.2<=h)/\(x.1=3->0<=x.2/\x.2<=d)
structure qV(st:RS):Prop where
 c0:∀x∈st.c0,lW st.c0.length (st.c0.length+st.c1.length) x
 c1:∀x∈st.c1,lW st.c1.length (st.c0.length+st.c1.length) x
 N:∀x∈st.N,(x.2.1=0\/x.2.1=3)/\inI x.2.2/\(x.2.1=3->0<=x.2.2/\x.2.2<=st.c0.length)
theorem bA{h d b a:Nat}{x:Int×Int}(j:lW h d x)(l:h<=b)(k:d<=a):lW b a x:=by obtain⟨c,f,g,i⟩:=j;exact⟨c,f,fun e=>by have:=g e;omega,fun e=>by have:=i e;omega⟩
theorem jK{x:Int}(a:0<=x)(b:x<=100000):inI x:=⟨zo,zo⟩
theorem dz{h d:Nat}{op arg:Int}(a:0<=op/\op<=32)(b:inI arg)(c:op≠1/\op≠2/\op≠7/\op≠3):lW h d (op,arg):=⟨a,b,fun e=>absurd e zj,fun e=>absurd e zj⟩
theorem cT{st:RS}(g:qV st){op arg:Int}(f:lW (zM st) (st.c0.length+st.c1.length) (op,arg)):qV (zQ st op arg):=by unfold zQ;unfold zM at f;split;rename_i h;rw[if_pos h]at f;refine⟨?_,?_,?_⟩;intro x d;simp only[Zo,mem_singleton]at d;rcases d with d|rfl;exact bA (g.c0 x d) zs zj;exact bA f zs zj;intro x d;exact bA (g.c1 x d) zs zj;intro x d;obtain⟨a,b,c⟩:=g.N x d;exact⟨a,b,fun e=>by have:=c e;simp;omega⟩;rename_i h;rw[if_neg h]at f;refine⟨?_,?_,?_⟩;intro x d;exact bA (g.c0 x d) zs zj;intro x d;simp only[Zo,mem_singleton]at d;rcases d with d|rfl;exact bA (g.c1 x d) zs zj;exact bA f zs zj;intro x d;exact g.N x d
theorem AF{l:YL}{n:Nat}{a:Int}{x:Int×Int}(h:x∈kU l n a):x∈l\/∃y∈l,x=(y.1,a):=by
 unfold kU at h;obtain⟨i,b⟩:=getElem?_of_mem h;rw[getElem?_modify]at b;cases e:l[i]? with
 |none=>rw[e]at b;simp at b
 |some y=>have d:=Zd e;rw[e]at b;by_cases c:n=i;simp[c]at b;exact Zf ⟨y,d,b.symm⟩;simp[c]at b;exact Zg (by rw[<-b];exact d)
theorem rU{st:RS}(g:qV st)(i:st.c0.length<=4000/\st.c1.length<=4000)(n:Nat):qV (yN st n):=by unfold yN;split;refine⟨?_,?_,?_⟩;intro x f;simp only[xj];rcases AF f with f|⟨y,h,rfl⟩;exact g.c0 x f;obtain⟨a,b,c,d⟩:=g.c0 y h;exact⟨a,jK zs zj,fun e=>⟨zs,zs⟩,fun e=>⟨zs,zp⟩⟩;intro x f;simp only[xj];exact g.c1 x f;intro x f;simp only[xj];exact g.N x f;refine⟨?_,?_,?_⟩;intro x f;simp only[xj];exact g.c0 x f;intro x f;simp only[xj];rcases AF f with f|⟨y,h,rfl⟩;exact g.c1 x f;obtain⟨a,b,c,d⟩:=g.c1 y h;exact⟨a,jK zs zj,fun e=>⟨zs,zs⟩,fun e=>⟨zs,zp⟩⟩;intro x f;exact g.N x f
theorem qV.of{st a:RS}(g:qV st)(b:a.c0=st.c0)(c:a.c1=st.c1)(d:a.N=st.N):qV a:=by refine⟨?_,?_,?_⟩;rw[b,c];exact g.c0;rw[b,c];exact g.c1;rw[d,b];exact g.N
theorem aX{st:RS}(g:qV st)(e:Int):qV (yp st e):=by unfold yp;split;exact g.of rfl rfl rfl;exact g
theorem eO{st:RS}(g:qV st):qV (zF st):=g.of rfl rfl rfl
theorem Fp{st:RS}(g:qV st):qV (zP st):=by unfold zP;split;exact aX (eO g) _;exact eO g
theorem Ap{D:List UInt8}{a n:Nat}(h:qH D a=O n):n<=a:=by unfold qH at h;split at h;simp at h;split at h;rename_i b;simp at h b;omega;simp at h
theorem Jv(s:YB):inI (qS s):=by
 unfold qS qe;split;cases e:qH s.toList.tail 9223372036854775808 with
 |none=>simp[inI]
 |some n=>have:=Ap e;simp[inI];omega
 cases e:qH s.toList 9223372036854775807 with
 |none=>simp[inI]
 |some n=>have:=Ap e;simp[inI];omega
theorem FD (s:YB) (h:0≤yZ s):8≤yZ s∧yZ s≤32:=by
 unfold yZ at *;cases e:xC.find? (fun x=>x.1.toList == s.toList) with
 |none=>rw[e]at h;simp at h
 |some x=>
  have hx:=mem_of_find?_eq_some e;have:∀ x∈xC,8≤x.2∧x.2≤32:=by unfold xC;simp
  exact this x hx
theorem oi{st:RS}(g:qV st){x:ByteArray×Int×Int}(f:(x.2.1=0\/x.2.1=3)/\inI x.2.2/\(x.2.1=3->0<=x.2.2/\x.2.2<=st.c0.length)){a:RS}(c:a.c0=st.c0)(d:a.c1=st.c1)(e:a.N=st.N++[x]):qV a:=by refine⟨?_,?_,?_⟩;rw[c,d];exact g.c0;rw[c,d];exact g.c1;rw[e,c];intro y b;simp only[Zo,mem_singleton]at b;rcases b with b|rfl;exact g.N y b;exact f
theorem Ew{st:RS}{m:Nat}(h:Inv st m)(o:m<3000)(g:qV st):qV (qt st):=by
 have a:=Fp g;have b:=cQ h;have c:=b.lens;have k:=h.lens;unfold lens at c k;unfold qt;split;split;exact aX g _;rename_i l;have d:0<=st.P:=zo;have j:qV (zQ st 4 0):=cT g (dz zo (jK zo zo) zo);have n:=h.P;refine oi j (x:=((zQ st 4 0).name,3,(zQ st 4 0).P)) ?_ rfl rfl rfl;have e:(zQ st 4 0).P=st.P:=by unfold zQ;split<;>rfl
 have f:(zQ st 4 0).c0.length=st.c0.length+1:=by unfold zQ;rw[if_pos d];simp
 simp only[e,f];exact⟨Zf trivial,jK d zo,fun _=>⟨d,zo⟩⟩;split;exact aX g _;split;exact a;split;exact a.of rfl rfl rfl;split;refine oi a (x:=((zF st).E,0,(zP st).cells)) ?_ rfl rfl rfl;refine⟨Zg rfl,jK ?_ ?_,fun e=>?_⟩<;>simp_all<;>omega;have i:qV (xt (zP st)):=by unfold xt;split;exact eO a;exact aX (eO a) _
 refine oi i (x:=((zF st).E,0,qS (zF (zP st)).E)) ?_ rfl rfl rfl;refine⟨Zg rfl,Jv _,fun e=>?_⟩;simp at e
theorem Ae{h d:Nat}{op arg:Int}(f:op=1\/op=2\/op=7)(a:0<=arg)(b:arg<=h)(c:h<=4000):lW h d (op,arg):=⟨zp,jK (by simpa using a) zj,fun _=>⟨a,b⟩,fun e=>absurd e zj⟩
theorem Fb{st:RS}{m:Nat}(h:lens st m):zM st<=m:=by unfold lens at h;unfold zM;split<;>omega
theorem QX{st:RS}{m:Nat}(h:lens st m)(op arg:Int):lens (zQ st op arg) (m+1):=by unfold lens at *;unfold zQ;split<;>simp<;>omega
theorem GU{st:RS}{m:Nat}(h:Inv st m)(u:m<3000)(g:qV st)(l:List (ByteArray×Int×Int))(x:ByteArray×Int×Int)(i:st.Q=l++[x]):qV (vM st l x):=by
 have s:=h.Q x (by rw[i];simp);have e:=h.lens;have t:=Fb e;have f:qV {st with Q:=l}:=g.of rfl rfl rfl;have c:lens {st with Q:=l} m:=by unfold lens at e ⊢;rw[i]at e;simp at e ⊢;omega
 have d:∀(op arg:Int),op=1\/op=2\/op=7->0<=arg->arg<=zM st->qV (zQ {st with Q:=l} op arg)/\(zQ {st with Q:=l} op arg).c0.length<=4000/\(zQ {st with Q:=l} op arg).c1.length<=4000:=by intro op arg j n o;have r:=QX c op arg;unfold lens at r;exact⟨cT f (Ae j n (by rw[vu];exact o) (by rw[vu];omega)),zo,zo⟩
 obtain⟨⟨a,b⟩,p,q⟩:=s;unfold vM;simp only;split;have k:=d 1 0 zo zo zo;exact(rU k.1 k.2 _).of rfl rfl rfl;split;unfold lens at c;exact rU f (by simp at c ⊢;omega) _;split;exact(d 2 _ zo a b).1;split;exact(d 2 0 zo zo zo).1.of rfl rfl rfl;split;have k:=d 1 x.2.1 zo a b;exact rU k.1 k.2 _;split;exact(d 7 _ zo a b).1;exact aX g _
theorem Dk{st:RS}{m:Nat}(h:Inv st m)(b:m<3000)(g:qV st):qV (qx st):=by have a:=h.lens;have d:=Fb a;unfold qx;simp only;split;exact(cT g (Ae zo zo zo zo)).of rfl rfl rfl;split;exact g.of rfl rfl rfl;split;exact(cT g (dz zo (jK zo zo) zo)).of rfl rfl rfl;split;exact aX g _;rename_i x c;exact GU h b g _ _ (ou c)
theorem Ds{st:RS}{m:Nat}(h:Inv st m)(l:m<3000)(g:qV st):qV (qO st):=by have j:=h.P;have d:=h.lens;unfold lens at d;unfold qO;split;rename_i f;have:=FD _ f;exact cT g (dz zo (jK zo zo) zo);split;exact cT g (dz zo (Jv _) zo);split;split;rename_i x k;obtain⟨a,b,c⟩:=g.N x (Zd k);refine cT g ⟨zp,b,fun e=>?_,fun e=>?_⟩;simp at e;omega;have:=c e;simp;omega;exact g;split;rename_i i;refine cT g ⟨zs,jK (by simpa using i.2) zj,fun e=>?_,fun e=>?_⟩;simp at e;simp;omega;exact aX g _
theorem KE{st:RS}{m:Nat}(h:Inv st m)(a:m<3000)(g:qV st):qV (yd st):=by unfold yd;split;exact Ew h a g;split;exact Dk h a g;exact Ds h a g
theorem Nz (f:Nat):∀ {st:RS} {m:Nat},Inv st m→m≤st.place0→qV st→qV (je f st)∧∃ k,Inv (je f st) k∧k≤2001:=by
 induction f with
 |zero=>intro st m h hm g;have h1:=h.place;have h2:=h.next;have h3:=h.size;exact⟨g,m,h,zo⟩
 |succ f ih=>
  intro st m h hm g;have h1:=h.place;have h2:=h.next;have h3:=h.size;unfold je;split;exact⟨g,m,h,zo⟩;rename_i hno;have hne:st.E.toList.isEmpty=Z:=by cases e:st.E.toList.isEmpty;rfl;exact absurd (Zg e) hno
  have gi:=KE h zo g;have hr:=eJ h hm hne;unfold fi;split;exact ih hr.1 hr.2.1 (eO gi);rename_i he;rw[qX _ (Zf he)];exact⟨gi,m+1,cK h,zo⟩
theorem LH(s:YB):qV (yU s):=⟨by simp[yU],by simp[yU],by simp[yU]⟩
theorem nQ(s:YB)(d:s.size<=2000):qV (zH s)/\∃k,Inv (zH s) k/\k<=2001:=by have c:=qL (eM s d);have k:=Nz (al (zF (yU s))) c.1 (Zq _) (eO (LH s));obtain⟨g,m,a,b⟩:=k;unfold zH;split;exact⟨aX g _,m,aW a _,b⟩;exact⟨g,m,a,b⟩
structure yX(l:YL):Prop where
 ins:∀x∈l,(0<=x.1/\x.1<=32\/40<=x.1/\x.1<=59)/\inI x.2/\(zT x.1=Y->0<=x.2/\x.2<l.length)
 last:∃x,l.getLast? = O x/\(x.1=1\/x.1=4\/x.1=5)
 R:l.length<=5000
theorem Jq{st:RS}{m:Nat}(h:Inv st m)(r:m<=2001)(g:qV st):yX (yh st):=by
 have n:=h.lens;unfold lens at n;have i:(yh st).length=st.c0.length+st.c1.length+1:=by simp[yh];omega
 refine⟨?_,⟨(5,0),by simp[yh],zs⟩,zo⟩;intro x j;rw[i];unfold yh at j;simp only[Zo,mem_singleton,mem_map]at j;have f:∀x:Int×Int,lW (st.c0.length+st.c1.length) (st.c0.length+st.c1.length) x->(0<=x.1/\x.1<=32\/40<=x.1/\x.1<=59)/\inI x.2/\(zT x.1=Y->0<=x.2/\x.2<((st.c0.length+st.c1.length+1:Nat):Int)):=by intro x ⟨a,b,c,d⟩;refine⟨Zg a,b,fun e=>?_⟩;unfold zT at e;simp at e;rcases e with((e|e)|e)|e;have:=c (Zg e);omega;have:=c (Zf (Zg e));omega;have:=d e;omega;have:=c (Zf (Zf e));omega
 rcases j with(j|⟨y,q,rfl⟩)|rfl;exact f x (bA (g.c0 x j) zo (Zc _));have k:=g.c1 y q;apply f;obtain⟨a,b,c,d⟩:=k;unfold qs;split;rename_i e;have:=c e;have p:wrap64 (y.2+(st.c0.length:Int))=y.2+st.c0.length:=by unfold wrap64;omega
 rw[p];exact⟨a,jK zj zj,fun _=>⟨zp,zp⟩,fun l=>by simp at l;omega⟩;exact⟨a,b,fun e=>by rename_i o;exact absurd e o,d⟩;exact f (5,0) (dz zo (jK zo zo) zo)
end Go.Proofs.YtmeiikjpaepogaaGreatDoor
