/- Own. -/
import Derived.Test.YtmeiikjpaepogaaGreatDoorD01
open Option renaming some->O,none->X
open Bool renaming true->Y,false->Z
open Go.Value renaming int->I,slice->S,pointer->A,bool->Bl,string->Sr,tuple->Tu,agg->Ag
open Go.Obj renaming cells->C
open Go.Ending renaming returned->Rt
open Go.IntKind renaming i64->J
set_option maxHeartbeats 2000000
namespace Go.Proofs.YtmeiikjpaepogaaGreatDoor
open Go Go.RowKit Go.Proofs.Tryz List
def kU(l:YL)(n:Nat)(a:Int):YL:=l.modify n fun x=>(x.1,a)
theorem fm (l:YL) (n:Nat) (a:Int):zc (kU l n a)=(zc l).set (n * 2+1) (I J a):=by
 unfold kU;induction l generalizing n with
 |nil=>simp[zc]
 |cons x l ih=>
  cases n with
  |zero=>simp[zc]
  |succ n=>have:=ih n;simp only[zc,modify_succ_cons,flatMap_cons]at *;rw[this];have e:(n+1) * 2+1=(n * 2+1)+2:=zo;rw[e];rfl
theorem xj(l:YL)(n:Nat)(a:Int):(kU l n a).length=l.length:=by simp[kU]
theorem Rd.write4{B:Nat}{w:YW}{b:Nat}{st:RS}{i j k c:Value}{g m f:Nat}(h:Rd B w b st (S (O ⟨g,0,X⟩) m f) i j k c)(n:Nat)(a:Int):Rd B (w.setCell ⟨g,n*2+1,X⟩ (I J a)) b {st with c0:=kU st.c0 n a} (S (O ⟨g,0,X⟩) m f) i j k c:=by have d:=h.ne 0 _ rfl;refine⟨?_,h.K,?_,by have:=h.R;simpa [xj]using this⟩;exact h.D.far (a:=⟨g,n*2+1,X⟩) (by intro e;exact d (by simp[Value.ownBlock,e])) _;have:=h.aD.write 0 g m f _ rfl rfl (n*2+1) (I J a);simpa [jU,xj,fm]using this
theorem Rd.write5{B:Nat}{w:YW}{b:Nat}{st:RS}{i j k c:Value}{g m f:Nat}(h:Rd B w b st i (S (O ⟨g,0,X⟩) m f) j k c)(n:Nat)(a:Int):Rd B (w.setCell ⟨g,n*2+1,X⟩ (I J a)) b {st with c1:=kU st.c1 n a} i (S (O ⟨g,0,X⟩) m f) j k c:=by have d:=h.ne 1 _ rfl;refine⟨?_,h.K,?_,by have:=h.R;simpa [xj]using this⟩;exact h.D.far (a:=⟨g,n*2+1,X⟩) (by intro e;exact d (by simp[Value.ownBlock,e])) _;have:=h.aD.write 1 g m f _ rfl rfl (n*2+1) (I J a);simpa [jU,xj,fm]using this
theorem RA(B b:Nat)(st:RS)(i j l m a:Value)(n:Nat)(w:YW)(h:Rd B w b st i j l m a)(d:0<=st.P)(z:n<st.c0.length):Calls prog 178 #[A (O ⟨b,0,X⟩),I J n] w fun e w'=>e=Rt (Tu #[])/\Rd B w' b {st with c0:=kU st.c0 n st.c0.length} i j l m a/\qE w b [i,j,l,m,a] w' [i,j,l,m,a]:=by
 obtain⟨g,L,rfl,H,y⟩:=h.o4.form zo;have q:∀k,Calls prog 181 #[A (O ⟨b,0,X⟩)] (w.drewN k) fun e w'=>e=Rt (I J 0)/\w'=w.drewN k:=by intro k;have:=kc B b st _ _ _ _ _ _ (h.drewN k);rw[dJ,if_pos d]at this;exact this
 have p:∀k,Calls prog 176 #[A (O ⟨b,0,X⟩)] (w.drewN k) fun e w'=>e=Rt (I J st.c0.length)/\∃n,w'=w.drewN n:=by intro k;have:=tY B b st _ _ _ _ _ _ (h.drewN k);rw[zM,if_pos d]at this;exact this.m (fun e w' ⟨u,n,v⟩=>⟨u,k+n,by rw[v];simp[World.drewN,Nat.add_assoc]⟩)
 have t:=V q;have s:=V p;clear q p;have f:=h.D;unfold zX at f;have F:=f.u;have G:=f.H;have c:=zD h.o4 (n*2+1) zo;obtain⟨x,r⟩:∃x,st.c0[n]? = O x:=⟨_,Za z⟩;rw[(zL _ _ _ r).2]at c;have o:=yB h.o4 (n*2+1);clear f r;have K:(st.c0.length:Int)<=4000:=by have:=h.R;omega
 have D:(n:Int)<st.c0.length:=zo;go_enter func178,ntmps178;go_wp2_with fail;go_region_with (first|(go_at_call 181;refine(U t _).m ?_;rintro e E ⟨rfl,rfl⟩)|(go_at_call 176;refine(U s _).m ?_;rintro e E ⟨rfl,k,rfl⟩));all_goals go_end0;exact⟨rfl,(h.drewN k).write4 n _,(tq w b _ k).trans (tr _ _ _ 0 g _ _ _ rfl _)⟩
theorem ON(B b:Nat)(st:RS)(i j l m a:Value)(n:Nat)(w:YW)(h:Rd B w b st i j l m a)(d:¬0<=st.P)(z:n<st.c1.length):Calls prog 178 #[A (O ⟨b,0,X⟩),I J n] w fun e w'=>e=Rt (Tu #[])/\Rd B w' b {st with c1:=kU st.c1 n st.c1.length} i j l m a/\qE w b [i,j,l,m,a] w' [i,j,l,m,a]:=by
 obtain⟨g,L,rfl,H,y⟩:=h.o5.form zo;have q:∀k,Calls prog 181 #[A (O ⟨b,0,X⟩)] (w.drewN k) fun e w'=>e=Rt (I J 1)/\w'=w.drewN k:=by intro k;have:=kc B b st _ _ _ _ _ _ (h.drewN k);rw[dJ,if_neg d]at this;exact this
 have p:∀k,Calls prog 176 #[A (O ⟨b,0,X⟩)] (w.drewN k) fun e w'=>e=Rt (I J st.c1.length)/\∃n,w'=w.drewN n:=by intro k;have:=tY B b st _ _ _ _ _ _ (h.drewN k);rw[zM,if_neg d]at this;exact this.m (fun e w' ⟨u,n,v⟩=>⟨u,k+n,by rw[v];simp[World.drewN,Nat.add_assoc]⟩)
 have t:=V q;have s:=V p;clear q p;have f:=h.D;unfold zX at f;have F:=f.u;have G:=f.H;have c:=zD h.o5 (n*2+1) zo;obtain⟨x,r⟩:∃x,st.c1[n]? = O x:=⟨_,Za z⟩;rw[(zL _ _ _ r).2]at c;have o:=yB h.o5 (n*2+1);clear f r;have K:(st.c1.length:Int)<=4000:=by have:=h.R;omega
 have D:(n:Int)<st.c1.length:=zo;go_enter func178,ntmps178;go_wp2_with fail;go_region_with (first|(go_at_call 181;refine(U t _).m ?_;rintro e E ⟨rfl,rfl⟩)|(go_at_call 176;refine(U s _).m ?_;rintro e E ⟨rfl,k,rfl⟩));all_goals go_end0;exact⟨rfl,(h.drewN k).write5 n _,(tq w b _ k).trans (tr _ _ _ 1 g _ _ _ rfl _)⟩
def yN(st:RS)(n:Nat):RS:=if 0<=st.P then {st with c0:=kU st.c0 n st.c0.length}else {st with c1:=kU st.c1 n st.c1.length}
theorem sP(B b:Nat)(st:RS)(d f g i a:Value)(n:Nat)(w:YW)(h:Rd B w b st d f g i a)(j:n<zM st):Calls prog 178 #[A (O ⟨b,0,X⟩),I J n] w fun e w'=>e=Rt (Tu #[])/\Rd B w' b (yN st n) d f g i a/\qE w b [d,f,g,i,a] w' [d,f,g,i,a]:=by unfold zM at j;unfold yN;by_cases c:0<=st.P;rw[if_pos c]at j ⊢;exact RA B b st d f g i a n w h c j;rw[if_neg c]at j ⊢;exact ON B b st d f g i a n w h c j
theorem Bx(l:List (ByteArray×Int×Int))(x:ByteArray×Int×Int):(yz (l++[x])).take (l.length*3)=yz l:=by
 have:yz (l++[x])=yz l++yz [x]:=by simp[yz]
 rw[this,take_append_of_le_length (by rw[dW];omega),take_of_length_le (by rw[dW];omega)]
theorem Rd.cut7{B:Nat}{w:YW}{b:Nat}{st:RS}{e f i d:Value}{g c m:Nat}(h:Rd B w b st e f i (S (O ⟨g,0,X⟩) m c) d)(l:List (ByteArray×Int×Int))(x:ByteArray×Int×Int)(he:st.Q=l++[x])(j:st.Q.length=m):Rd B (w.setCell ⟨b,7,X⟩ (S (O ⟨g,0,X⟩) l.length c)) b {st with Q:=l} e f i (S (O ⟨g,0,X⟩) l.length c) d:=by
 subst j;have k:st.Q.length=l.length+1:=by rw[he];simp
 have a:=bV h.o7 l.length zo;rw[he,Bx]at a;refine⟨?_,h.K,?_,by have:=h.R;simp;omega⟩;have:=h.D.set 7 (S (O ⟨g,0,X⟩) l.length c);simpa [zX]using this;have:=(h.aD.grow 3 _ (S (O ⟨g,0,X⟩) l.length c) ⟨225,3,l.length,yz l⟩ rfl (by have:=h.D.lt;simpa using this) (World.grownBy.refl _ _) a (Zg rfl)).set (b:=b) zs 7 (S (O ⟨g,0,X⟩) l.length c);simpa [jU]using this
theorem fS(B b:Nat)(st:RS)(q r s t j:Value)(w:YW)(h:Rd B w b st q r s t j)(l:List (ByteArray×Int×Int))(x:ByteArray×Int×Int)(he:st.Q=l++[x]):Calls prog 177 #[A (O ⟨b,0,X⟩)] w fun e w'=>e=Rt (Ag #[Sr x.1,I J x.2.1,I J x.2.2])/\RdE B w' b {st with Q:=l}/\Below B w w':=by
 have o:st.Q.length=l.length+1:=by rw[he];simp
 obtain⟨g,p,rfl,z,m⟩:=h.o7.form zo;have a:=h.D;have n:=a.lt;unfold zX at a;have c:=h.o7;rw[o]at a c;have d:=zD c (l.length*3) zo;have f:=zD c (l.length*3+1) zo;have i:=zD c (l.length*3+2) zo;rw[he,(jr (l++[x]) l.length x zs).1]at d;rw[he,(jr (l++[x]) l.length x zs).2.1]at f;rw[he,(jr (l++[x]) l.length x zs).2.2]at i;have E:(l.length:Int)<=4000:=by have:=h.R;omega
 have D:(l.length:Int)+1<=p:=by have:=(vG c).1;omega
 have u:=a.u;have y:=a.H;clear a c;go_enter func177,ntmps177;go_wp2;go_region;go_wp2;go_region;go_wp2;refine bodyPost_ret (v:=Ag #[Sr x.1,I J x.2.1,I J x.2.2]) (by simp[results,results177,go_sem]) rfl ⟨rfl,?_,?_⟩;exact⟨_,_,_,_,_,((((h.cut7 l x he rfl).alloc _).alloc _).drew).drew⟩;have k:B<=w.heap.size:=by have:=h.K;omega
 exact(((((Ze B w).setCell h.K _).alloc (by simpa using k) _).alloc zp _).drew).drew
def vP(b:UInt8):Bool:=b==32 || b==10
def fU(s:YB)(p:UInt8->Bool):Nat->Nat->Nat
 |0,i=>i
 |f+1,i=>if h:i<s.size then(if p s[i]then fU s p f (i+1)else i)else i
theorem sO(s:YB)(p:UInt8->Bool)(f i:Nat)(h:i<=s.size):i<=fU s p f i/\fU s p f i<=s.size:=by
 induction f generalizing i with
 |zero=>exact⟨Zc _,h⟩
 |succ f a=>unfold fU;split;split;have:=a (i+1) zo;omega;omega;omega
theorem sN(s:YB)(p:UInt8->Bool)(k:Nat)(h:k<s.size)(a:p s[k]=Y):fU s p (s.size-k) k=fU s p (s.size-(k+1)) (k+1):=by have e:s.size-k=(s.size-(k+1))+1:=zo;rw[e,fU];simp[h,a]
theorem mw(s:YB)(p:UInt8->Bool)(k:Nat)(h:k<s.size)(a:p s[k]=Z):fU s p (s.size-k) k=k:=by have e:s.size-k=(s.size-(k+1))+1:=zo;rw[e,fU];simp[h,a]
theorem oM(s:YB)(p:UInt8->Bool)(k:Nat)(h:¬k<s.size):fU s p (s.size-k) k=k:=by have e:s.size-k=0:=zo;rw[e,fU]
def ki(s:YB)(i:Nat):Nat:=fU s vP (s.size-i) i
def wN(s:YB)(i:Nat):Nat:=fU s (fun b=>!vP b) (s.size-i) i
def zF(st:RS):RS:={st with next:=wN st.s (ki st.s st.next),place0:=ki st.s st.next,E:=st.s.extract (ki st.s st.next) (wN st.s (ki st.s st.next))}
theorem Rd.next{B:Nat}{w:YW}{b:Nat}{st:RS}{c d e f a:Value}(h:Rd B w b st c d e f a)(k:Nat):Rd B (w.setCell ⟨b,1,X⟩ (I J k)) b {st with next:=k} c d e f a:=h.set 1 _ _ (by simp[zX]) rfl ⟨rfl,rfl,rfl,rfl,rfl,rfl⟩
theorem Rd.at2{B:Nat}{w:YW}{b:Nat}{st:RS}{c d e f a:Value}(h:Rd B w b st c d e f a):Rd B (w.setCell ⟨b,2,X⟩ (I J st.next)) b {st with place0:=st.next} c d e f a:=h.set 2 _ _ (by simp[zX]) rfl ⟨rfl,rfl,rfl,rfl,rfl,rfl⟩
theorem Rd.tok3{B:Nat}{w:YW}{b:Nat}{st:RS}{c d e f a:Value}(h:Rd B w b st c d e f a)(t:YB):Rd B (w.setCell ⟨b,3,X⟩ (Sr t)) b {st with E:=t} c d e f a:=h.set 3 _ _ (by simp[zX]) rfl ⟨rfl,rfl,rfl,rfl,rfl,rfl⟩
def cellInt(w:YW)(b i:Nat):Int:=match w.cell? ⟨b,i,X⟩with|some v=>intOf v|none=>0
theorem Rd.cellInt{B:Nat}{w:YW}{b:Nat}{st:RS}{c d e f a:Value}(h:Rd B w b st c d e f a):cellInt w b 1=st.next:=by have:=h.D.u 1;simp[zX]at this;simp[YtmeiikjpaepogaaGreatDoor.cellInt,this,intOf]
theorem sF(b:UInt8)(n:Nat)(c:n<256):((b.toNat:Int)==(n:Int))=(b==UInt8.ofNat n):=by
 rw[Bool.eq_iff_iff];simp only[beq_iff_eq];constructor;intro h;have a:b.toNat=n:=by exact_mod_cast h
 rw[<-a];simp;intro h;rw[h];simp[Nat.mod_eq_of_lt c]
theorem Jr(b:UInt8)(h:vP b=Y):((b.toNat:Int)==32)=Y\/((b.toNat:Int)==32)=Z/\((b.toNat:Int)==10)=Y:=by have a:=sF b 32 zo;have c:=sF b 10 zo;rw[show((32:Nat):Int)=32 from rfl]at a;rw[show((10:Nat):Int)=10 from rfl]at c;rw[a,c];unfold vP at h;cases h1:(b==UInt8.ofNat 32);right;rw[show(b==32)=(b==UInt8.ofNat 32)from rfl,h1]at h;exact⟨rfl,by simpa using h⟩;left;rfl
theorem Ni(b:UInt8)(h:¬vP b=Y):((b.toNat:Int)==32)=Z/\((b.toNat:Int)==10)=Z:=by have a:=sF b 32 zo;have c:=sF b 10 zo;rw[show((32:Nat):Int)=32 from rfl]at a;rw[show((10:Nat):Int)=10 from rfl]at c;rw[a,c];unfold vP at h;simp only[Bool.or_eq_true,not_or,Bool.not_eq_true]at h;exact h
theorem RP(b:UInt8)(h:vP b=Z):((b.toNat:Int)!=32)=Y/\((b.toNat:Int)!=10)=Y:=by obtain⟨a,c⟩:=Ni b (by rw[h];simp);unfold bne;rw[a,c];exact⟨rfl,rfl⟩
theorem Tw(b:UInt8)(h:¬vP b=Z):((b.toNat:Int)!=32)=Z\/((b.toNat:Int)!=32)=Y/\((b.toNat:Int)!=10)=Z:=by unfold bne;rcases Jr b (by cases e:vP b<;>simp_all)with h1|⟨h1,h2⟩;left;rw[h1];rfl;right;rw[h1,h2];exact⟨rfl,rfl⟩
theorem JK(B b:Nat)(st:RS)(P Q R T o:Value)(w:YW)(h:Rd B w b st P Q R T o)(e0:st.next<=st.s.size):Calls prog 125 #[A (O ⟨b,0,X⟩)] w fun e w'=>e=Rt (Tu #[])/\Rd B w' b (zF st) P Q R T o/\Below B w w':=by
 have k0:(st.s.size:Int)<=2000:=by have:=h.R;omega
 go_enter func125,ntmps125;go_wp2;go_loopw [] (fun wr=>∃k:Nat,k<=st.s.size/\ki st.s k=ki st.s st.next/\Rd B wr b {st with next:=k} P Q R T o/\Below B w wr) (fun wr=>st.s.size-(YtmeiikjpaepogaaGreatDoor.cellInt wr b 1).toNat);case atStart=>exact⟨st.next,e0,rfl,h,Ze _ _⟩
 case round=>
  obtain⟨k,hk,M,v,q⟩:=hrel;have HS:=V M;clear M;have K:=v.cellInt;have HM:=V K;clear K;have N:=v.D;unfold zX at N;have hc:=N.u;have hf:=N.H;clear N;by_cases n:∃c:k<st.s.size,vP st.s[k]=Y
  ·obtain⟨c,hg⟩:=n;have hl:decide ((k:Int)<st.s.size)=Y:=by simpa using c
   have HG:=V hg;have h2:=Jr _ hg;clear hg;rcases h2 with D|⟨D,b0⟩;all_goals
    go_wp2;go_quiet (fail);go_wp2;go_roundw;case rel=>exact⟨k+1,zo,by rw[<-U HS];unfold ki;rw[sN _ _ _ c (U HG)],by have:=(v.drewN nq).next (k+1);simpa using this,(zS q nq).setCell v.K _⟩
    case measure=>have z:=((v.drewN nq).next (k+1)).cellInt;rw[U HM];simp only[Int.natCast_add,Int.cast_ofNat_Int]at z;rw[z];simp;omega
  ·have l:ki st.s st.next=k:=by rw[<-U HS];unfold ki;by_cases c:k<st.s.size;exact mw _ _ _ c (by simpa using fun e=>n ⟨c,e⟩);exact oM _ _ _ c
   have HK:=V l;clear l;have d0:(decide (k<st.s.size)=Z)\/(∃c:k<st.s.size,decide ((k:Int)<st.s.size)=Y/\((st.s[k].toNat:Int)==32)=Z/\((st.s[k].toNat:Int)==10)=Z):=by by_cases c:k<st.s.size;exact Zf ⟨c,by simpa using c,Ni _ (fun e=>n ⟨c,e⟩)⟩;exact Zg (by simpa using c)
   clear n;rcases d0 with hl|⟨c,hl,D,b0⟩;all_goals
    go_wp2;go_quiet (fail);go_wp2_with fail;have L:=(v.drewN nq).at2;have F:=zS q nq;go_loopw [] (fun p=>∃d:Nat,d<=st.s.size/\wN st.s d=wN st.s k/\Rd B p b {st with next:=d,place0:=k} P Q R T o/\Below B w p) (fun p=>st.s.size-(YtmeiikjpaepogaaGreatDoor.cellInt p b 1).toNat);case atStart=>exact⟨k,hk,rfl,L,F.setCell v.K _⟩
    case round=>
     clear hc hf L F hl;obtain⟨d,h0,t,f,j⟩:=hrel;have y:=V t;clear t;have r:=f.cellInt;have a0:=V r;clear r;have m:=f.D;unfold zX at m;have f0:=m.u;have g0:=m.H;clear m;by_cases g:∃a:d<st.s.size,vP st.s[d]=Z
     ·obtain⟨a,u⟩:=g;have H:decide (d<st.s.size)=Y:=by simpa using a
      have W:=V u;obtain⟨E,c0⟩:=RP _ u;clear u;go_wp2;go_quiet (fail);go_wp2;go_roundw;case rel=>exact⟨d+1,zo,by rw[<-U y];unfold wN;rw[sN _ _ _ a (by simp[U W])],by have:=(f.drewN nq).next (d+1);simpa using this,(zS j nq).setCell f.K _⟩
      case measure=>have z:=((f.drewN nq).next (d+1)).cellInt;rw[U a0];simp only[Int.natCast_add,Int.cast_ofNat_Int]at z;rw[z];simp;omega
     ·have i:wN st.s k=d:=by rw[<-U y];unfold wN;by_cases a:d<st.s.size;exact mw _ _ _ a (by simpa using fun e=>g ⟨a,e⟩);exact oM _ _ _ a
      have x:=V i;clear i;have G:(decide (d<st.s.size)=Z)\/(∃a:d<st.s.size,decide (d<st.s.size)=Y/\(((st.s[d].toNat:Int)!=32)=Z\/((st.s[d].toNat:Int)!=32)=Y/\((st.s[d].toNat:Int)!=10)=Z)):=by by_cases a:d<st.s.size;exact Zf ⟨a,by simpa using a,Tw _ (fun e=>g ⟨a,e⟩)⟩;exact Zg (by simpa using a)
      clear g;have i0:(k:Int)<=d:=by have:=(sO st.s (fun b=>!vP b) (st.s.size-k) k hk).1;have e:=U x;unfold wN at e;omega
      have j0:(d:Int)<=st.s.size:=zo;rcases G with H|⟨a,H,E|⟨E,c0⟩⟩;all_goals
       go_wp2;go_quiet (fail);go_wp2;go_region;go_wp2;go_end0;have e:zF st={st with next:=d,place0:=k,E:=st.s.extract k d}:=by unfold zF;rw[U HK,U x]
       rw[e];exact⟨rfl,(f.drewN nq).drew.tok3 _,((zS j nq).drew).setCell f.K _⟩
theorem oR(B b:Nat)(st:RS)(w:YW)(h:RdE B w b st)(a:st.next<=st.s.size):Calls prog 125 #[A (O ⟨b,0,X⟩)] w fun e w'=>e=Rt (Tu #[])/\RdE B w' b (zF st)/\Below B w w':=by obtain⟨g,i,j,k,c,h⟩:=h;refine(JK B b st g i j k c w h a).m ?_;rintro e w' ⟨rfl,f,d⟩;exact⟨rfl,⟨_,_,_,_,_,f⟩,d⟩
def wZ:List (List UInt8):=[[58],[59],[118,97,114,105,97,98,108,101],[99,111,110,115,116,97,110,116],[114,101,99,117,114,115,101],[105,102],[101,108,115,101],[116,104,101,110],[98,101,103,105,110],[117,110,116,105,108],[119,104,105,108,101],[114,101,112,101,97,116],[100,111],[108,111,111,112]]
def jB(s:YB):Bool:=wZ.any fun t=>s.toList==t
theorem pD(s:YB)(w:YW):Calls prog 126 #[Sr s] w fun e w'=>e=Rt (Bl (jB s))/\w'=w:=by go_enter func126,ntmps126;go_wp2;all_goals (go_ret;refine⟨jI ?_,rfl⟩;simp_all [jB,wZ])
def xC:List (ByteArray×Int):=[(⟨#[43]⟩,9),(⟨#[45]⟩,10),(⟨#[42]⟩,11),(⟨#[47]⟩,12),(⟨#[109,111,100]⟩,13),(⟨#[97,110,100]⟩,14),(⟨#[111,114]⟩,15),(⟨#[120,111,114]⟩,16),(⟨#[105,110,118,101,114,116]⟩,17),(⟨#[110,101,103,97,116,101]⟩,18),(⟨#[61]⟩,19),(⟨#[60]⟩,20),(⟨#[100,117,112]⟩,21),(⟨#[100,114,111,112]⟩,22),(⟨#[115,119,97,112]⟩,23),(⟨#[111,118,101,114]⟩,24),(⟨#[114,111,116]⟩,25),(⟨#[62,114]⟩,26),(⟨#[114,62]⟩,27),(⟨#[114,64]⟩,28),(⟨#[33]⟩,29),(⟨#[64]⟩,30),(⟨#[101,109,105,116]⟩,31),(⟨#[46]⟩,32),(⟨#[105]⟩,8)]
def yZ(s:YB):Int:=match xC.find? (fun x=>x.1.toList==s.toList)with|some x=>x.2|none=>-1
def eu:Array Value:=(xC.map fun x=>Value.string x.1).toArray
def Ar:Array Value:=(xC.map fun x=>Value.int .i64 x.2).toArray
theorem Jb(k:Nat)(h:k<25):∃x,xC[k]? = O x/\eu[k]? = O (Sr x.1)/\Ar[k]? = O (I J x.2):=by have a:k<xC.length:=h;refine⟨xC[k],Za a,?_,?_⟩;simp[eu,Za a];simp[Ar,Za a]
theorem Ir(s:YB)(k:Nat)(x:ByteArray×Int)(e:xC[k]? = O x)(he:(x.1.toList==s.toList)=Y)(d:∀(j:Nat)(y:ByteArray×Int),j<k->xC[j]? = O y->(y.1.toList==s.toList)=Z):yZ s=x.2:=by
 obtain⟨a,b⟩:=Zb.1 e;have:xC.find? (fun x=>x.1.toList==s.toList)=O x:=by rw[find?_eq_some_iff_getElem];refine⟨he,k,a,b,?_⟩;intro j c;rw[d j xC[j] c (Za zo)];rfl
 unfold yZ;rw[this]
theorem Lo(s:YB)(b:∀(j:Nat)(y:ByteArray×Int),j<25->xC[j]? = O y->(y.1.toList==s.toList)=Z):yZ s=-1:=by
 have:xC.find? (fun x=>x.1.toList==s.toList)=X:=by rw[find?_eq_none];intro x c;obtain⟨j,a,rfl⟩:=getElem_of_mem c;rw[b j _ a (Za a)];simp
 unfold yZ;rw[this]
theorem Blk.setRow{w:YW}{b:Nat}{cs:YV}{T:TypeId}(h:Blk w b cs T)(a:YV):Blk (w.setRow b a) b a T:=setRow_heap w b cs a T (0,0) h
theorem Blk.setRow_far{w:YW}{b:Nat}{cs:YV}{T:TypeId}(h:Blk w b cs T){g:Nat}(c:b≠g)(a:YV):Blk (w.setRow g a) b cs T:=by unfold Blk at h ⊢;rw[setRow_other _ _ _ _ c];exact h
theorem cD{B:Nat}{a w:YW}(h:Below B a w){g:Nat}(c:B<=g)(cs:YV):Below B a (w.setRow g cs):=⟨h.os,h.tape,h.output,by simpa using h.size,fun k b=>by rw[setRow_other _ _ _ _ zo];exact h.block k b⟩
def gY:Array Value:=Array.replicate 25 (Sr ⟨#[]⟩)
def sQ:Array Value:=Array.replicate 25 (I J 0)
theorem aZ(s:YB)(w:YW):Calls prog 179 #[Sr s] w fun e w'=>e=Rt (I J (yZ s))/\Below w.heap.size w w':=by
 have m:Blk (w.alloc (C gY 246)) w.heap.size gY 246:=Blk.new w _ _;have f:=Blk.setRow m eu;have t:Blk (((w.alloc (C gY 246)).setRow w.heap.size eu).alloc (C sQ 247)) (w.heap.size+1) sQ 247:=by have:=Blk.new ((w.alloc (C gY 246)).setRow w.heap.size eu) sQ 247;simpa using this
 have D:=V m;have b:=V t;have h:=V f;clear m f t;go_enter func179,ntmps179;go_wp2_with (first|(refine wpList_store_row rfl 246 (.tmp 3) (.tmp 6) rfl w.heap.size eu rfl rfl 246 gY D zr zr zr ?_)|(refine wpList_store_row rfl 247 (.tmp 4) (.tmp 7) rfl (w.heap.size+1) Ar rfl rfl 247 sQ b zr zr zr ?_));go_loopw [5] (fun i wr=>∃k:Nat,k<=25/\i=I J k/\(∀(j:Nat)(y:ByteArray×Int),j<k->xC[j]? = O y->(y.1.toList==s.toList)=Z)/\Blk wr w.heap.size eu 246/\Blk wr (w.heap.size+1) Ar 247/\Below w.heap.size w wr) (fun i _=>25-(intOf i).toNat);case atStart=>refine⟨0,zo,rfl,fun j y u=>zo,?_,?_,?_⟩;exact(h.alloc _).setRow_far zo _;exact b.setRow _;exact cD ((cD ((Ze _ _).alloc (Zc _) _) (Zc _) _).alloc zs _) zo _
 case round=>
  obtain⟨k,E,rfl,g,c,d,a⟩:=hrel;have l:=V g;clear g;by_cases p:k<25
  ·obtain⟨x,B,z,v⟩:=Jb k p;have n:=c.u k;rw[z]at n;have o:=d.u k;rw[v]at o;have r:=V B;have b:=V (And.intro c (And.intro d a));clear B z v c d a;go_wp2_with fail
   ·go_ret;exact⟨xO (Ir s k x r za l).symm,b.2.2⟩
   ·refine⟨⟨k+1,zo,by go_num,?_,b.1,b.2.1,b.2.2⟩,by simp[intOf];omega⟩;intro j y u q;by_cases e:j=k;subst e;rw[U r]at q;obtain rfl:=Zl q;assumption;exact U l j y zo q
  ·go_wp2;go_ret;exact⟨xO (Lo s (fun j y u=>U l j y zo)).symm,a⟩
end Go.Proofs.YtmeiikjpaepogaaGreatDoor
