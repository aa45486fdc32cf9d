/- Own. -/
import Derived.Test.YtmeiikjpaepogaaGreatDoorD30
import Derived.Test.YtmeiikjpaepogaaGreatDoorD29
import Derived.BigQuiet
open Option renaming some->O,none->X
open Bool renaming true->Y,false->Z
open Go.Value renaming int->I,slice->S,pointer->A,bool->Bl,string->Sr,tuple->Tu,agg->Ag
open Go.Obj renaming cells->C
open Go.Ending renaming returned->Rt
open Go.IntKind renaming i64->J
set_option maxRecDepth 100000
set_option maxHeartbeats 16000000
namespace Go.Proofs.YtmeiikjpaepogaaGreatDoor
open Go Go.RowKit Go.Proofs.Tryz List
def qz(l:YL):YI:=l.map Prod.fst
structure Kin(st st':RS):Prop where
 heads:st'.heads=st.heads
 P:st'.P=st.P
 more:∃m,qz st'.c0=qz st.c0++m/\(st.P<0->m=[])
theorem Kin.refl(st:RS):Kin st st:=⟨rfl,rfl,[],zs,fun _=>rfl⟩
theorem Kin.trans{a b c:RS}(h:Kin a b)(k:Kin b c):Kin a c:=by obtain⟨m,e,g⟩:=h.more;obtain⟨n,f,i⟩:=k.more;refine⟨k.heads.trans h.heads,k.P.trans h.P,m++n,by rw[f,e,Zy],fun d=>?_⟩;rw[g d,i (by rw[h.P];exact d)];rfl
theorem Kin.of{a b c:RS}(h:Kin a b)(d:c.c0=b.c0)(e:c.heads=b.heads)(f:c.P=b.P):Kin a c:=h.trans ⟨e,f,[],by rw[d];simp,fun _=>rfl⟩
theorem aM(st:RS)(op arg:Int):Kin st (zQ st op arg):=by
 unfold zQ;split;next a=>exact⟨rfl,rfl,[op],by simp[qz],fun h=>absurd a zo⟩
 next a=>exact⟨rfl,rfl,[],zs,fun _=>rfl⟩
theorem LF (l:YL) (n:Nat) (a:Int):qz (kU l n a)=qz l:=by
 unfold kU qz;induction l generalizing n with
 |nil=>simp
 |cons x l ih=>
  cases n with
  |zero=>simp
  |succ n=>simp[ih]
theorem uw(st:RS)(n:Nat):Kin st (yN st n):=by unfold yN;split;exact⟨rfl,rfl,[],by simp[LF],fun _=>rfl⟩;exact⟨rfl,rfl,[],zs,fun _=>rfl⟩
theorem cH(st:RS)(e:Int):Kin st (yp st e):=by unfold yp;split;exact(Kin.refl st).of rfl rfl rfl;exact Kin.refl st
theorem fW(st:RS):Kin st (zF st):=(Kin.refl st).of rfl rfl rfl
theorem ts(st:RS):Kin st (zP st):=by unfold zP;split;exact(fW st).trans (cH _ _);exact fW st
theorem Mq(st:RS)(l:List (ByteArray×Int×Int))(x:ByteArray×Int×Int):Kin st (vM st l x):=by have a:Kin st {st with Q:=l}:=(Kin.refl st).of rfl rfl rfl;unfold vM;simp only;split;exact((a.trans (aM _ _ _)).trans (uw _ _)).of rfl rfl rfl;split;exact a.trans (uw _ _);split;exact a.trans (aM _ _ _);split;exact(a.trans (aM _ _ _)).of rfl rfl rfl;split;exact(a.trans (aM _ _ _)).trans (uw _ _);split;exact a.trans (aM _ _ _);exact cH _ _
theorem GY(st:RS):Kin st (qx st):=by unfold qx;simp only;split;exact(aM _ _ _).of rfl rfl rfl;split;exact(Kin.refl st).of rfl rfl rfl;split;exact(aM _ _ _).of rfl rfl rfl;split;exact cH _ _;exact Mq _ _ _
theorem Hp(st:RS):Kin st (qO st):=by unfold qO;split;exact aM _ _ _;split;exact aM _ _ _;split;split;exact aM _ _ _;exact Kin.refl st;split;exact aM _ _ _;exact cH _ _
def ey(o:YI)(h:Int):Prop:=(0<=h/\h<=o.length)/\(h=0\/o[h.toNat-1]? = O 4)
structure fz(st:RS):Prop where
 heads:∀h∈st.heads,ey (qz st.c0) h
 last:st.P<0->ey (qz st.c0) st.c0.length
theorem ey.more{o:YI}{h:Int}(k:ey o h)(m:YI):ey (o++m) h:=by obtain⟨⟨b,d⟩,c⟩:=k;refine⟨⟨b,zp⟩,c.imp id fun a=>?_⟩;rw[Zu (Zb.1 a).1];exact a
theorem fz.kin{st a:RS}(h:fz st)(k:Kin st a):fz a:=by
 obtain⟨m,e,g⟩:=k.more;refine⟨fun x c=>?_,fun b=>?_⟩;rw[k.heads]at c;rw[e];exact(h.heads x c).more m;rw[k.P]at b;have d:=g b;subst d;rw[append_nil]at e;have f:a.c0.length=st.c0.length:=by have:=congrArg length e;simpa [qz]using this
 rw[e,f];exact h.last b
theorem MF(st:RS)(h:fz st):fz (qt st):=by
 have b:=h.kin (ts st);unfold qt;split;split;exact h.kin (cH _ _);rename_i d;have c:0<=st.P:=zo;have e:(zQ st 4 0).c0=st.c0++[(4,0)]:=by unfold zQ;rw[if_pos c]
 have i:(zQ st 4 0).heads=st.heads:=by unfold zQ;rw[if_pos c]
 refine⟨fun x a=>?_,fun _=>?_⟩;have a:x∈(zQ st 4 0).heads:=a;rw[i]at a;show ey (qz (zQ st 4 0).c0) x;rw[e];have:=(h.heads x a).more [4];simpa [qz]using this;show ey (qz (zQ st 4 0).c0) (zQ st 4 0).c0.length;rw[e];refine⟨⟨zo,by simp[qz]⟩,Zf ?_⟩;simp[qz];split;exact h.kin (cH _ _);rename_i d;have c:st.P<0:=zo;split;exact b;split;have f:(zP st).P<0:=by rw[(ts st).P];exact c
 refine⟨fun x a=>?_,fun g=>?_⟩;have a:x∈(zP st).heads++[((zP st).c0.length:Int)]:=a;show ey (qz (zP st).c0) x;rcases Zo.1 a with a|a;exact b.heads x a;rw[mem_singleton.1 a];exact b.last f;have g:((zP st).c0.length:Int)<0:=g;omega;split;exact b.kin ((Kin.refl _).of rfl rfl rfl);have j:fz (xt (zP st)):=by unfold xt;split;exact b.kin (fW _);exact b.kin ((fW _).trans (cH _ _))
 exact j.kin ((Kin.refl _).of rfl rfl rfl)
theorem Jt(st:RS)(h:fz st):fz (yd st):=by unfold yd;split;exact MF st h;split;exact h.kin (GY _);exact h.kin (Hp _)
theorem SD(f:Nat):∀(st:RS),fz st->fz (je f st):=by
 induction f with
 |zero=>exact fun st h=>h
 |succ f a=>intro st h;unfold je;split;exact h;refine a _ ?_;unfold fi;split;exact(Jt st h).kin (fW _);exact Jt st h
theorem TF(s:YB):fz (zH s):=by have b:fz (yU s):=⟨by simp[yU],fun _=>⟨by simp[yU,qz],by simp[yU]⟩⟩;have a:fz (bX s):=SD _ _ (b.kin (fW _));unfold zH;split;exact a.kin (cH _ _);exact a
structure lJ(l:YL)(en:Nat)(he:YI):Prop where
 each:∀h∈he,(0<=h/\h<l.length)/\(h=0\/h=en\/∃(k:Nat)(y:Int×Int),h=(k:Int)+1/\l[k]? = O y/\y.1=4)
 entry:(en:Int)∈he
theorem EX(s:YB):lJ (yh (zH s)) (zH s).c0.length ((zH s).heads++[((zH s).c0.length:Int)]):=by
 have h:=TF s;refine⟨fun x b=>?_,zs⟩;have d:(yh (zH s)).length=(zH s).c0.length+(zH s).c1.length+1:=by simp[yh];omega
 rcases Zo.1 b with b|b;obtain⟨⟨g,c⟩,a⟩:=h.heads x b;have c:x<=(zH s).c0.length:=by simpa [qz]using c
 refine⟨⟨g,by rw[d];omega⟩,?_⟩;by_cases f:x=0;exact Zg f;rcases a with a|a;exact absurd a f;refine Zf (Zf ⟨x.toNat-1,?_⟩);unfold qz at a;rw[Zn]at a;cases e:(zH s).c0[x.toNat-1]? with
 |none=>rw[e]at a;simp at a
 |some y=>rw[e]at a;refine⟨y,zo,?_,by simpa using a⟩;unfold yh;rw[Zy,Zu (Zb.1 e).1];exact e
 rw[mem_singleton.1 b];exact⟨⟨zo,by rw[d];omega⟩,Zf (Zg rfl)⟩
theorem LM(l:YL):(qb l).length=l.length:=by simp[qb]
theorem lJ.tail{l:YL}{en:Nat}{he:YI}(h:lJ l en he):lJ (qb l) en he:=by refine⟨fun x d=>?_,h.entry⟩;obtain⟨a,b⟩:=h.each x d;refine⟨by rw[LM];exact a,b.imp id (Or.imp id ?_)⟩;rintro⟨k,y,e,f,c⟩;rcases Gk l k y f with⟨g,-,-⟩|h5;omega;exact⟨k,y,e,h5,c⟩
def sA(l:YL)(k x:Nat):Prop:=∃(i:Nat)(y:Int×Int),i<k/\l[i]? = O y/\((zT y.1=Y/\y.2.toNat=x)\/((zT y.1=Y\/y.1=4\/y.1=5)/\x=i+1))
theorem uD{l:YL}{k x:Nat}{y:Int×Int}(c:l[k]? = O y):sA l (k+1) x↔sA l k x\/((zT y.1=Y/\y.2.toNat=x)\/((zT y.1=Y\/y.1=4\/y.1=5)/\x=k+1)):=by constructor;rintro⟨i,z,b,a,h⟩;rcases Nat.lt_succ_iff_lt_or_eq.1 b with b|rfl;exact Zg ⟨i,z,b,a,h⟩;rw[c]at a;cases a;exact Zf h;rintro(⟨i,z,b,a,h⟩|h);exact⟨i,z,zo,a,h⟩;exact⟨k,y,zo,c,h⟩
theorem vQ(b:List Bool)(i x:Nat)(c:x<b.length):(b.set i Y).getD x Z=Y↔b.getD x Z=Y\/x=i:=by rw[Zj,Zj,getElem?_set];by_cases h:i=x;subst h;simp[c];simp[h];intro a;exact absurd a.symm h
theorem PV (l:YL) (en:Nat) (k x:Nat) (hx:x<l.length) (hk:k≤l.length):(qp l en k).getD x Z=Y↔(x=0∨x=en)∨sA l k x:=by
 induction k with
 |zero=>
  unfold qp;rw[vQ _ _ _ zp,vQ _ _ _ zp];have hr:(replicate (l.length+1) Z).getD x Z=Z:=by rw[Zj,getElem?_replicate];split<;>rfl
  rw[hr];have:¬ sA l 0 x:=by rintro ⟨i,y,hi,-⟩;omega
  simp[this]
 |succ k ih=>
  obtain⟨y,hy⟩:∃ y,l[k]? = O y:=⟨_,Za zo⟩;have ih:=ih zo;have e:qp l en (k+1)=jx (qp l en k) k y:=by show (match l[k]? with|some x=>jx (qp l en k) k x|none=>qp l en k)=_;rw[hy]
  have hlen:=cC l en k;rw[e,uD hy];unfold jx;simp only;have h1:(y.1=1→zT y.1=Y):=fun h=>by rw[h];rfl
  by_cases hn:zT y.1=Y;rw[if_pos hn,if_pos (Zg hn),vQ _ _ _ zp,vQ _ _ _ zo,ih];constructor;rintro ((h|h)|h);exact h.imp id Zg;exact Zf (Zf (Zg ⟨hn,h.symm⟩));exact Zf (Zf (Zf ⟨Zg hn,h⟩));rintro (h|h|⟨-,h⟩|⟨-,h⟩);exact Zg (Zg (Zg h));exact Zg (Zg (Zf h));exact Zg (Zf h.symm);exact Zf h;rw[if_neg hn];by_cases hc:y.1=4∨y.1=5;rw[if_pos (Zf (Zf hc)),vQ _ _ _ zo,ih];constructor;rintro (h|h);exact h.imp id Zg;exact Zf (Zf (Zf ⟨Zf hc,h⟩));rintro (h|h|⟨h,-⟩|⟨-,h⟩);exact Zg (Zg h);exact Zg (Zf h);exact absurd h hn;exact Zf h;rw[if_neg (fun h=>h.elim hn (fun h=>h.elim (fun h=>hn (h1 h)) hc)),ih];constructor;exact fun h=>h.imp id Zg;rintro (h|h|⟨h,-⟩|⟨h|h,-⟩);exact Zg h;exact Zf h;exact absurd h hn;exact absurd h hn;exact absurd h hc
theorem Sv (he:YI) (b:List Bool) (k x:Nat) (hx:x<b.length):(dR he b k).getD x Z=Y↔b.getD x Z=Y∨∃ (i:Nat) (h:Int),i<k∧he[i]? = O h∧h.toNat=x:=by
 induction k with
 |zero=>unfold dR;constructor;exact Zg;rintro (h|⟨i,h,hi,-⟩);exact h;omega
 |succ k ih=>
  unfold dR;cases e:he[k]? with
  |none=>simp only;rw[ih];refine or_congr Iff.rfl ⟨?_,?_⟩;rintro ⟨i,h,hi,h2⟩;exact⟨i,h,zo,h2⟩;rintro ⟨i,h,hi,h2,h3⟩;rcases Nat.lt_succ_iff_lt_or_eq.1 hi with hi|rfl;exact⟨i,h,hi,h2,h3⟩;rw[e]at h2;cases h2
  |some z=>simp only;rw[vQ _ _ _ (by rw[tX];exact hx),ih,or_assoc];refine or_congr Iff.rfl ⟨?_,?_⟩;rintro (⟨i,h,hi,h2⟩|h);exact⟨i,h,zo,h2⟩;exact⟨k,z,zo,e,h.symm⟩;rintro ⟨i,h,hi,h2,h3⟩;rcases Nat.lt_succ_iff_lt_or_eq.1 hi with hi|rfl;exact Zg ⟨i,h,hi,h2,h3⟩;rw[e]at h2;cases h2;exact Zf h3.symm
theorem SV (l:YL) (he:YI) (k x:Nat) (hx:x<l.length) (hk:k≤l.length):(bY l he k).getD x Z=Y↔(x=0∨∃ h∈he,h.toNat=x)∨sA l k x:=by
 induction k with
 |zero=>
  unfold bY;rw[Sv _ _ _ _ zp,vQ _ _ _ zp];have hr:(replicate l.length Z).getD x Z=Z:=by rw[Zj,getElem?_replicate];split<;>rfl
  rw[hr];have hb:¬ sA l 0 x:=by rintro ⟨i,y,hi,-⟩;omega
  constructor;rintro ((h|h)|⟨i,h,hi,h2,h3⟩);cases h;exact Zg (Zg h);exact Zg (Zf ⟨h,Zd h2,h3⟩);rintro ((h|⟨h,hm,h3⟩)|h);exact Zg (Zf h);obtain⟨i,hi⟩:=getElem?_of_mem hm;exact Zf ⟨i,h,(Zb.1 hi).1,hi,h3⟩;exact absurd h hb
 |succ k ih=>
  obtain⟨y,hy⟩:∃ y,l[k]? = O y:=⟨_,Za zo⟩;have ih:=ih zo;have e:bY l he (k+1)=aN (bY l he k) k y:=by show (match l[k]? with|some x=>aN (bY l he k) k x|none=>bY l he k)=_;rw[hy]
  have hlen:=uk l he k;rw[e,uD hy];unfold aN;simp only;rw[hlen];by_cases hn:zT y.1=Y;rw[if_pos hn];by_cases hq:k+1<l.length;rw[if_pos ⟨Zg hn,hq⟩,vQ _ _ _ zp,vQ _ _ _ zo,ih];constructor;rintro ((h|h)|h);exact h.imp id Zg;exact Zf (Zf (Zg ⟨hn,h.symm⟩));exact Zf (Zf (Zf ⟨Zg hn,h⟩));rintro (h|h|⟨-,h⟩|⟨-,h⟩);exact Zg (Zg (Zg h));exact Zg (Zg (Zf h));exact Zg (Zf h.symm);exact Zf h;rw[if_neg (fun h=>hq h.2),vQ _ _ _ zo,ih];constructor;rintro (h|h);exact h.imp id Zg;exact Zf (Zf (Zg ⟨hn,h.symm⟩));rintro (h|h|⟨-,h⟩|⟨-,h⟩);exact Zg (Zg h);exact Zg (Zf h);exact Zf h.symm;omega;rw[if_neg hn];by_cases hc:(y.1=4∨y.1=5)∧k+1<l.length;rw[if_pos ⟨Zf hc.1,hc.2⟩,vQ _ _ _ zo,ih];constructor;rintro (h|h);exact h.imp id Zg;exact Zf (Zf (Zf ⟨Zf hc.1,h⟩));rintro (h|h|⟨h,-⟩|⟨-,h⟩);exact Zg (Zg h);exact Zg (Zf h);exact absurd h hn;exact Zf h;rw[if_neg (fun h=>h.1.elim hn (fun h2=>hc ⟨h2,h.2⟩)),ih];constructor;exact fun h=>h.imp id Zg;rintro (h|h|⟨h,-⟩|⟨h|h,h2⟩);exact Zg h;exact Zf h;exact absurd h hn;exact absurd h hn;exact absurd ⟨h,zo⟩ hc
theorem TS{l:YL}{en:Nat}{he:YI}(h:lJ l en he)(x:Nat)(b:x<l.length):(rbS l he).getD x Z=(kN l en).getD x Z:=by rw[Bool.eq_iff_iff];unfold rbS kN;rw[SV l he l.length x b (Zc _),PV l en l.length x b (Zc _)];constructor;rintro((a|⟨z,f,rfl⟩)|a);exact Zg (Zg a);obtain⟨⟨g,i⟩,d|d|⟨k,y,j,c,e⟩⟩:=h.each z f;exact Zg (Zg zo);exact Zg (Zf zo);refine Zf ⟨k,y,(Zb.1 c).1,c,Zf ⟨Zf (Zg e),zo⟩⟩;exact Zf a;rintro((a|a)|a);exact Zg (Zg a);exact Zg (Zf ⟨en,h.entry,zo⟩);exact Zf a
def gD(a:YL):Prop:=a.length=1\/∃n:Nat,n<20/\qz a=yj ((40+n:Nat):Int)
inductive vK:YL->Nat->Prop
  | nil:vK [] 0
  | cons {a r:YL} {k:Nat}:gD a->vK r k->vK (a++r) (k+1)
theorem CQ(n:Nat)(h:n<20):1<=(yj ((40+n:Nat):Int)).length:=by have:=rQ (40+n) zo zo;omega
theorem gD.pos{a:YL}(h:gD a):1<=a.length:=by rcases h with h|⟨n,b,h⟩;omega;have e:(qz a).length=(yj ((40+n:Nat):Int)).length:=congrArg length h;have d:=CQ n b;have c:(qz a).length=a.length:=length_map _;omega
theorem vK.snoc{r:YL}{k:Nat}(h:vK r k){a:YL}(b:gD a):vK (r++a) (k+1):=by
 induction h with
 |nil=>simpa using vK.cons b vK.nil
 |cons c _ d=>rw[Zy];exact vK.cons c d
theorem vK.last{r:YL}{k:Nat}(h:vK r k):(r=[]/\k=0)\/∃(c a:YL) (b:Nat),r=c++a/\k=b+1/\gD a/\vK c b:=by
 induction h with
 |nil=>exact Zg ⟨rfl,rfl⟩
 |@cons a r k hp ht ih=>refine Zf ?_;rcases ih with⟨rfl,rfl⟩|⟨c,f,b,rfl,rfl,d,e⟩;exact⟨[],a,0,zs,rfl,hp,vK.nil⟩;exact⟨a++c,f,b+1,by rw[Zy],rfl,d,vK.cons hp e⟩
def szS(row:YL):Int:=(xy (few row)).getD 0 0
theorem Ql (row:YL) (j:Nat):(few row).drop j=few (row.drop j):=by
 induction row generalizing j with
 |nil=>simp[few]
 |cons x r ih=>
  cases j with
  |zero=>rfl
  |succ j=>simpa [few] using ih j
theorem AG(row:YL)(j:Nat):(xy (few row)).getD j 0=szS (row.drop j):=by
 unfold szS;rw[<-Ql];unfold xy;by_cases h:j<=(few row).length;rw[Zj,Zj];have e:(map Prod.snd ((few row).drop j)++[0])=(map Prod.snd (few row)++[(0:Int)]).drop j:=by rw[drop_append_of_le_length (by simpa using h),map_drop]
 rw[e,getElem?_drop];rfl;rw[drop_eq_nil_of_le zo];rw[Zj,getElem?_eq_none zp];rfl
theorem EW (sz:YI) (L:List Pc) (b:Pc×Int):(L.foldl (kJ sz) b).2≤b.2∧∀ p∈L,(L.foldl (kJ sz) b).2≤sz.getD p.2.2.toNat 0+1:=by
 induction L generalizing b with
 |nil=>exact⟨Int.le_refl _,fun p hp=>by simp at hp⟩
 |cons p L ih=>
  rw[foldl_cons];obtain⟨h1,h2⟩:=ih (kJ sz b p);have hs:(kJ sz b p).2≤b.2∧(kJ sz b p).2≤sz.getD p.2.2.toNat 0+1:=by unfold kJ;split;simp only;omega;omega
  refine⟨zo,fun q hq=>?_⟩;rcases mem_cons.1 hq with rfl|hq;omega;exact h2 q hq
theorem JM(x:Int×Int)(r:YL):szS (x::r)=(xK x r (few r) (xc (x::r)).length).2:=rfl
theorem Ua(x:Int×Int)(r:YL):szS (x::r)<=szS r+1:=by rw[JM];exact(EW _ _ _).1
theorem KZ(n:Int)(a r:YL):∃v,kh n (a++r) (qz a)=O v:=by
 induction a generalizing n with
 |nil=>exact⟨n,by simp[qz,kh]⟩
 |cons x a c=>obtain⟨v,b⟩:=c (if x.1=0 then x.2 else n);exact⟨v,by simpa [qz,kh]using b⟩
theorem Ru (a r:YL) (h:gD a):szS (a++r)≤szS r+1:=by
 have hpos:=h.pos;cases a with
 |nil=>simp at hpos
 |cons x a=>
  rcases h with h|⟨n,hn,h⟩;have:a=[]:=by simpa using h
  subst this;exact Ua x r;obtain⟨v,hv⟩:=KZ 0 (x :: a) r;rw[h]at hv;have hl:(yj ((40+n:Nat):Int)).length=a.length+1:=by rw[← h];simp[qz]
  have hm:(((40+n:Nat):Int),v,((yj ((40+n:Nat):Int)).length:Int))∈xc (x :: (a++r)):=by unfold xc qA;refine mem_filterMap.2 ⟨40+n,mem_map.2 ⟨n,mem_range.2 hn,zo⟩,?_⟩;unfold bW;rw[← cons_append,hv];rfl
  rw[cons_append,JM];have h2:=(EW (0 :: xy (few (a++r))) (xc (x :: (a++r))) ((x.1,x.2,1),(xy (few (a++r))).getD 0 0+1)).2 _ hm;simp only[Zr]at h2;rw[hl]at h2;have e:(0 :: xy (few (a++r))).getD (a.length+1) 0=szS r:=by show (xy (few (a++r))).getD a.length 0=_;rw[AG];simp
  rw[e]at h2;unfold xK;rw[take_length];exact h2
theorem Rs{row:YL}{k:Nat}(h:vK row k):szS row<=k:=by
 induction h with
 |nil=>simp[szS,few,xy]
 |@cons a r k hp _ ih=>have:=Ru a r hp;omega
theorem PW (x:Int×Int) (r:YL) (t:List (Pc×Int)) (k:Nat):(xK x r t k).2=(0 :: xy t).getD (xK x r t k).1.2.2.toNat 0+1:=by
 induction k with
 |zero=>rfl
 |succ k ih=>
  cases e:(xc (x :: r))[k]? with
  |none=>
   have:xK x r t (k+1)=xK x r t k:=by unfold xK;rw[take_add_one,e];simp
   rw[this];exact ih
  |some p=>rw[gg e];unfold kJ;split;rfl;exact ih
theorem Sp (row:YL) (i:Nat) (b:Pc×Int) (h:(few row)[i]? = O b):b.2=szS (row.drop i)∧1≤b.1.2.2∧szS (row.drop i)=szS (row.drop (i+b.1.2.2.toNat))+1:=by
 induction row generalizing i with
 |nil=>simp[few]at h
 |cons x r ih=>
  cases i with
  |zero=>
   have hb:b=xK x r (few r) (xc (x :: r)).length:=by simpa [few] using h.symm
   have hok:=pI x r (few r) (vF r) (pU r) (xc (x :: r)).length;rw[← hb]at hok;refine⟨by rw[hb];rfl,hok.1.1,?_⟩;have hv:=PW x r (few r) (xc (x :: r)).length;rw[← hb]at hv;have e1:szS ((x :: r).drop 0)=b.2:=by rw[hb];rfl
   rw[e1,hv];have h1:=hok.1.1;obtain⟨q,hq⟩:∃ q,b.1.2.2.toNat=q+1:=⟨b.1.2.2.toNat-1,zo⟩;rw[hq];show (xy (few r)).getD q 0+1=_;rw[AG];simp
  |succ i=>have:=ih i (by simpa [few] using h);have e:i+1+b.1.2.2.toNat=(i+b.1.2.2.toNat)+1:=zo;rw[e];simpa using this
def nH(a:YL)(y:Int×Int):Prop:=a=[y]\/∃n:Nat,n<20/\y.1=((40+n:Nat):Int)/\qz a=yj ((40+n:Nat):Int)/\∀x∈a,x.1=0->x.2=y.2
inductive kG:YL->YL->Prop
  | nil:kG [] []
  | cons {a r q:YL} {y:Int×Int}:nH a y->kG r q->kG (a++r) (y::q)
theorem nH.o{a:YL}{y:Int×Int}(h:nH a y):gD a:=by rcases h with rfl|⟨n,b,-,h2,-⟩;exact Zg rfl;exact Zf ⟨n,b,h2⟩
theorem kG.tile{r q:YL}(h:kG r q):vK r q.length:=by
 induction h with
 |nil=>exact vK.nil
 |cons a _ b=>exact vK.cons a.o b
theorem NT{a:YL}{b:YI}(f:a.length=b.length)(h:∀(j:Nat)(p:Int),b[j]? = O p->∃x:Int×Int,a[j]? = O x/\x.1=p):qz a=b:=by
 apply ext_getElem?;intro j;unfold qz;rw[Zn];cases e:b[j]? with
 |none=>rw[List.getElem?_eq_none_iff]at e;rw[getElem?_eq_none zo];rfl
 |some p=>obtain⟨x,d,c⟩:=h j p e;rw[d];simp[c]
theorem QT{row:YL}{p:Pc}(h:p∈xc row):nH (row.take p.2.2.toNat) (p.1,p.2.1):=by
 have q:=cS h;unfold xc qA at h;obtain⟨op,g,he⟩:=mem_filterMap.1 h;obtain⟨i,f,rfl⟩:=mem_map.1 g;have f:=mem_range.1 f;unfold bW at he;obtain⟨n,l,rfl⟩:=Option.map_eq_some_iff.1 he;obtain⟨m,s,t,u⟩:=oT (i+40) zo zo;simp only[Zr]at q ⊢;have c:=rD l;have d:i+40=40+i:=zo;have b:qz (row.take (yj ((i+40:Nat):Int)).length)=yj ((i+40:Nat):Int):=by refine NT (by rw[length_take];omega) (fun j p a=>?_);obtain⟨x,k,e⟩:=c j p a;exact⟨x,by rw[getElem?_take,if_pos (Zb.1 a).1];exact k,e⟩
 refine Zf ⟨i,f,by simp only;omega,by rw[b,d],fun x k o=>?_⟩;obtain⟨j,a⟩:=getElem?_of_mem k;have r:(yj ((i+40:Nat):Int))[j]? = O 0:=by rw[<-b];unfold qz;rw[Zn,a];simp[o]
 rw[getElem?_take]at a;split at a;exact(Cv l).2 m j x r a;cases a
theorem Lm (row:YL) (n:Nat):∀ i:Nat,row.length-i≤n→kG (row.drop i) (xp ((few row).map Prod.fst) n i)∧((xp ((few row).map Prod.fst) n i).length:Int)=szS (row.drop i):=by
 induction n with
 |zero=>intro i hi;rw[drop_eq_nil_of_le zo];exact⟨kG.nil,rfl⟩
 |succ n ih=>
  intro i hi;cases e:row[i]? with
  |none=>
   rw[List.getElem?_eq_none_iff]at e;have:((few row).map Prod.fst)[i]? = X:=by rw[List.getElem?_eq_none_iff,length_map,vF];exact e
   rw[drop_eq_nil_of_le e];unfold xp;rw[this];exact⟨kG.nil,rfl⟩
  |some x=>
   have hil:=(Zb.1 e).1;obtain⟨p,h1,h2,h3⟩:=nu (n:=n) e;rw[Zn]at h1;cases eb:(few row)[i]? with
   |none=>rw[eb]at h1;cases h1
   |some b=>
    rw[eb]at h1;have hbp:b.1=p:=by simpa using h1
    obtain⟨v1,v2,v3⟩:=Sp row i b eb;rw[hbp]at v2 v3;obtain⟨k1,k2⟩:=ih (i+p.2.2.toNat) zo;rw[h2];have hd:row.drop i=(row.drop i).take p.2.2.toNat++row.drop (i+p.2.2.toNat):=by
     conv=>lhs;rw[← take_append_drop p.2.2.toNat (row.drop i)]
     rw[drop_drop]
    refine⟨?_,by rw[length_cons,v3];omega⟩;rw[hd];refine kG.cons ?_ k1;rcases h3 with rfl|h3;refine Zg ?_;rw[drop_eq_getElem_cons hil];have:row[i]=x:=by rw[Za hil]at e;exact Zl e
    rw[this];rfl;exact QT h3
theorem pV(row:YL):kG row (xf row)/\((xf row).length:Int)=szS row:=by have h:=Lm row row.length 0 zo;rw[drop_zero]at h;exact h
theorem Qr(row:YL)(k:Nat)(b:YI)(n:Nat):dU row k b n=Y↔∀j,j<n->(row.getD (k+j) (0,0)).1=b.getD j 0:=by
 induction n with
 |zero=>simp[dU]
 |succ n e=>unfold dU;rw[Bool.and_eq_true,e,beq_iff_eq];constructor;rintro⟨c,d⟩ j a;rcases Nat.lt_succ_iff_lt_or_eq.1 a with h|rfl;exact c j h;exact d;exact fun h=>⟨fun j a=>h j zo,h n zo⟩
theorem Fg(row:YL)(k:Nat)(a:YI)(e:k+a.length<=row.length):dU row k a a.length=Y↔qz ((row.drop k).take a.length)=a:=by
 rw[Qr];constructor;intro h;refine NT zp (fun j p b=>?_);have d:=(Zb.1 b).1;have c:=h j d;refine⟨row.getD (k+j) (0,0),?_,by rw[c,Zj,b];rfl⟩;rw[getElem?_take,if_pos d,getElem?_drop,Zj,Za (by omega:k+j<row.length)];rfl;intro h j b;have c:(qz ((row.drop k).take a.length))[j]? = a[j]?:=by rw[h]
 unfold qz at c;rw[Zn,getElem?_take,if_pos b,getElem?_drop,Za (by omega:k+j<row.length),Za b]at c;rw[Zj,Zj,Za (by omega:k+j<row.length),Za b];simpa using c
def Ty(row:YL)(j:Nat)(v:Int):Prop:=(∃k:Nat,v=k/\vK (row.take j) k)/\∀k:Nat,vK (row.take j) k->v<=k
theorem dy(b:YI)(i j:Nat)(v:Int)(h:i≠j):(b.set i v).getD j 0=b.getD j 0:=by rw[Zj,Zj,getElem?_set_ne h]
theorem bT(b:YI)(i:Nat)(v:Int)(h:i<b.length):(b.set i v).getD i 0=v:=by rw[Zj,getElem?_set_self h];rfl
theorem AK(row:YL)(i n:Nat)(h:n<=i):row.take i=row.take (i-n)++(row.drop (i-n)).take n:=by
 conv=>lhs;rw[show i=(i-n)+n from zo]
 rw[take_add]
theorem Lv (row:YL) (i:Nat) (hi:i<row.length) (b:YI) (hb:b.length=row.length+1) (hf:∀ j,j≤i→Ty row j (b.getD j 0)) (n:Nat) (hn:n≤20) (h0:∃ k:Nat,b.getD (i+1) 0=k∧vK (row.take (i+1)) k) : (∀ j,j≤i→(jJ row b (i+1) n).getD j 0=b.getD j 0)∧(∃ k:Nat,(jJ row b (i+1) n).getD (i+1) 0=k∧vK (row.take (i+1)) k)∧(jJ row b (i+1) n).getD (i+1) 0≤b.getD (i+1) 0 ∧ ∀ m:Nat,m<n→(yj ((40+m:Nat):Int)).length≤i+1→qz ((row.drop (i+1-(yj ((40+m:Nat):Int)).length)).take (yj ((40+m:Nat):Int)).length)=yj ((40+m:Nat):Int)→(jJ row b (i+1) n).getD (i+1) 0≤b.getD (i+1-(yj ((40+m:Nat):Int)).length) 0+1:=by
 induction n with
 |zero=>exact⟨fun _ _=>rfl,h0,Int.le_refl _,fun m hm=>zo⟩
 |succ n ih=>
  obtain⟨h1,h2,h3,h4⟩:=ih zo;unfold jJ;have hlen:=rJ row b (i+1) n;generalize jJ row b (i+1) n=c at *;have hps:ya ((40+n:Nat):Int)=yj ((40+n:Nat):Int):=(gB (40+n) zo zo).1;have hpos:=CQ n zo;unfold gQ;rw[hps];generalize hN:(yj ((40+n:Nat):Int)).length=N at *;by_cases hc:N≤i+1∧dU row (i+1-N) (yj ((40+n:Nat):Int)) N=Y∧c.getD (i+1-N) 0+1<c.getD (i+1) 0;rw[if_pos hc];obtain⟨c1,c2,c3⟩:=hc;have c2':=c2;rw[← hN]at c2;rw[Fg row _ _ zo,hN]at c2;refine⟨fun j hj=>by rw[dy _ _ _ _ zo];exact h1 j hj,?_,by rw[bT _ _ _ zo];omega,fun m hm h5 h6=>?_⟩;rw[bT _ _ _ zo];obtain⟨k,hk,ht⟩:=(hf (i+1-N) zo).1;refine⟨k+1,by rw[h1 _ zo,hk];omega,?_⟩;rw[AK row (i+1) N c1];exact ht.snoc (Zf ⟨n,zo,c2⟩);rw[bT _ _ _ zo];rcases Nat.lt_succ_iff_lt_or_eq.1 hm with hm|rfl;have:=h4 m hm h5 h6;omega;rw[hN,← h1 _ zo];omega;rw[if_neg hc];refine⟨h1,h2,h3,fun m hm h5 h6=>?_⟩;rcases Nat.lt_succ_iff_lt_or_eq.1 hm with hm|rfl;exact h4 m hm h5 h6;rw[hN]at h5 h6 ⊢;have hi2:dU row (i+1-N) (yj ((40+m:Nat):Int)) N=Y:=by have:=(Fg row (i+1-N) (yj ((40+m:Nat):Int)) zo).2 (by rw[hN];exact h6);rw[hN]at this;exact this
  rw[← h1 _ zo];refine Int.not_lt.1 fun hlt=>hc ⟨h5,hi2,hlt⟩
theorem Og (row:YL) (i:Nat) (hi:i≤row.length):∀ j,j≤i→Ty row j ((qf row i).getD j 0):=by
 induction i with
 |zero=>
  intro j hj;have:j=0:=zo;subst this;have e:(qf row 0).getD 0 0=0:=by simp[qf]
  rw[e];exact⟨⟨0,rfl,vK.nil⟩,fun k _=>zo⟩
 |succ i ih=>
  have ih:=ih zo;have hlen:=FU row i;have hb:((qf row i).set (i+1) ((qf row i).getD i 0+1)).length=row.length+1:=by rw[length_set,hlen]
  have hlow:∀ j,j≤i→((qf row i).set (i+1) ((qf row i).getD i 0+1)).getD j 0=(qf row i).getD j 0:=fun j hj=>dy _ _ _ _ zo;have htop:((qf row i).set (i+1) ((qf row i).getD i 0+1)).getD (i+1) 0=(qf row i).getD i 0+1:=bT _ _ _ zo;obtain⟨k0,hk0,ht0⟩:=(ih i (Zc _)).1;have hone:gD ((row.drop i).take 1):=Zg zp;obtain⟨g1,⟨k,hk,ht⟩,g3,g4⟩:=Lv row i zo _ hb (fun j hj=>by rw[hlow j hj];exact ih j hj) 20 (Zc _) ⟨k0+1,by rw[htop,hk0];omega,by rw[take_add];exact ht0.snoc hone⟩;rw[htop]at g3;intro j hj;unfold qf;by_cases hj1:j≤i;rw[g1 j hj1,hlow j hj1];exact ih j hj1;have:j=i+1:=zo;subst this;refine⟨⟨k,hk,ht⟩,fun q hq=>?_⟩;have htl:(row.take (i+1)).length=i+1:=by rw[length_take];omega
  rcases hq.last with ⟨e,-⟩|⟨r',a,q',e,rfl,ha,hr'⟩;rw[e]at htl;simp at htl;have hap:=ha.pos;have hll:r'.length+a.length=i+1:=by rw[← htl,e,Zi]
  have er:r'=row.take (i+1-a.length):=by have:=congrArg (take r'.length) e;rw[take_take,take_append_of_le_length (Zc _),take_length]at this;rw[← this];congr 1;omega
  have ea:a=(row.drop (i+1-a.length)).take a.length:=by have h1:=AK row (i+1) a.length zo;rw[e,← er]at h1;exact append_cancel_left h1
  rw[er]at hr';rcases ha with ha|⟨n,hn,ho⟩;have hm:=(ih i (Zc _)).2 q' (by rw[ha]at hr';exact hr');omega;have hN:(yj ((40+n:Nat):Int)).length=a.length:=by rw[← ho];simp[qz]
  have h5:=g4 n hn (by rw[hN];omega) (by rw[hN,← ea];exact ho);rw[hN,hlow _ zo]at h5;have hm:=(ih (i+1-a.length) zo).2 q' hr';omega
theorem ID(row:YL):sJ row=(xf row).length:=by obtain⟨⟨k,g,b⟩,a⟩:=Og row row.length (Zc _) row.length (Zc _);rw[take_length]at b a;obtain⟨c,d⟩:=pV row;have e:=Rs b;have f:=a _ c.tile;unfold sJ;omega
theorem kG.append{a q:YL}(h:kG a q){b r:YL}(k:kG b r):kG (a++b) (q++r):=by
 induction h with
 |nil=>exact k
 |cons c _ d=>rw[Zy,cons_append];exact kG.cons c d
abbrev kB(b:Blo):Blo:=(b.1,xf b.2)
theorem AN(a:List Blo):kG (a.flatMap (·.2)) ((a.map kB).flatMap (·.2)):=by
 induction a with
 |nil=>exact kG.nil
 |cons b a c=>rw[map_cons,flatMap_cons,flatMap_cons];exact(pV b.2).1.append c
def dc(l:YL):Prop:=∀x∈l,0<=x.1/\x.1<=32
theorem nH.parts{a:YL}{y:Int×Int}(h:nH a y)(d:dc a):ya y.1=qz a:=by rcases h with rfl|⟨n,e,b,c,-⟩;rw[At y.1 (d y zs)];rfl;rw[b,c];exact(gB (40+n) zo zo).1
theorem bB(a:YL):(qz a).length=a.length:=length_map _
theorem nL (y:Int×Int) (q:YL) (i:Nat):atS (y :: q) (i+1)=(ya y.1).length+atS q i:=by
 induction i with
 |zero=>simp[atS]
 |succ i ih=>
  rw[atS,ih];conv=>rhs;rw[atS]
  rw[getD_cons_succ];omega
theorem ux {l Q:YL} (h:kG l Q) (hb:dc l):(∀ (i:Nat) (y:Int×Int),Q[i]? = O y→∃ a,nH a y∧dc a∧a=(l.drop (atS Q i)).take a.length∧atS Q i+a.length≤l.length)∧atS Q Q.length=l.length:=by
 induction h with
 |nil=>exact⟨fun i y h=>by simp at h,rfl⟩
 |@cons a r q y hp ht ih=>
  have hba:dc a:=fun x hx=>hb x (Zo.2 (Zg hx));obtain⟨h1,h2⟩:=ih (fun x hx=>hb x (Zo.2 (Zf hx)));have hl:(ya y.1).length=a.length:=by rw[hp.parts hba,bB]
  refine⟨fun i z hz=>?_,?_⟩;cases i with
  |zero=>
   have:y=z:=by simpa using hz
   subst this;exact⟨a,hp,hba,by simp[atS],by simp[atS]⟩
  |succ i=>obtain⟨c,c1,c2,c3,c4⟩:=h1 i z (by simpa using hz);refine⟨c,c1,c2,?_,?_⟩;rw[nL,hl,← drop_drop];simpa using c3;rw[nL,hl,Zi];omega
  rw[length_cons,nL,hl,h2,Zi]
theorem JT(q r:YL)(i:Nat)(b:i<=q.length):atS (q++r) i=atS q i:=by
 induction i with
 |zero=>rfl
 |succ i a=>rw[atS,atS,a zo];congr 3;rw[Zj,Zj,Zu zo]
theorem fD (nums:YI) (q:YL) (i:Nat):atS (q.map (xD nums)) i=atS q i:=by
 induction i with
 |zero=>rfl
 |succ i ih=>
  rw[atS,atS,ih];congr 2;rw[Zj,Zj,Zn];cases q[i]? with
  |none=>rfl
  |some x=>simp[lF]
theorem iD {l Q:YL} (h:kG l Q) (hb:dc l) (i:Nat):∀ j,i<j→j≤Q.length→atS Q i<atS Q j:=by
 intro j hij;induction j with
 |zero=>omega
 |succ j ih=>
  intro hj;obtain⟨y,hy⟩:∃ y,Q[j]? = O y:=⟨_,Za zo⟩;obtain⟨a,h1,h2,-,-⟩:=(ux h hb).1 j y hy;have hl:1≤(ya y.1).length:=by rw[h1.parts h2,bB];exact h1.o.pos
  have e:atS Q (j+1)=atS Q j+(ya y.1).length:=by rw[atS,Zj,hy];rfl
  rcases Nat.lt_succ_iff_lt_or_eq.1 hij with h|rfl;have:=ih h zo;omega;omega
theorem LP {l Q:YL} (h:kG l Q) (hb:dc l):∀ (i:Nat),i<l.length→∃ (q k:Nat) (y:Int×Int),Q[q]? = O y∧i=atS Q q+k∧k<(ya y.1).length:=by
 induction h with
 |nil=>intro i hi;simp at hi
 |@cons a r q y hp ht ih=>
  have hba:dc a:=fun x hx=>hb x (Zo.2 (Zg hx));have hl:(ya y.1).length=a.length:=by rw[hp.parts hba,bB]
  intro i hi;by_cases h1:i<a.length;exact⟨0,i,y,rfl,by simp[atS],zo⟩;obtain⟨q',k,z,h2,h3,h4⟩:=ih (fun x hx=>hb x (Zo.2 (Zf hx))) (i-a.length) (by rw[Zi]at hi;omega);exact⟨q'+1,k,z,by simpa using h2,by rw[nL,hl];omega,h4⟩
theorem SH(n:Nat)(L:YL)(m:Nat)(f:m<=L.length)(a:∀i j,i<j->j<=L.length->atS L i<atS L j)(j:Nat)(e:j<m)(b:atS L j<n):(vR n L m).getD (atS L j) 0=j:=by
 induction m with
 |zero=>omega
 |succ m c=>unfold vR;by_cases h:j=m;subst h;rw[bT _ _ _ (by rw[oq];exact b)];have d:=a j m zo zo;rw[dy _ _ _ _ zo];exact c zo zo
theorem sR{a:List Blo}{x:Int×Int}{b:Blo}(h:b∈kI a x):∃c∈a,c.1=b.1:=by
 unfold kI at h;cases e:a.getLast? with
 |none=>rw[e]at h;exact⟨b,h,rfl⟩
 |some c=>rw[e]at h;rcases Zo.1 h with h|h;exact⟨b,dropLast_subset _ h,rfl⟩;refine⟨c,mem_of_getLast? e,?_⟩;rw[mem_singleton.1 h]
theorem Ml (l:YL) (beg:List Bool) (k:Nat):∀ b∈xv l beg k,beg.getD b.1 Z=Y:=by
 induction k with
 |zero=>intro b hb;simp[xv]at hb
 |succ k ih=>
  intro b hb;unfold xv at hb;cases e:l[k]? with
  |none=>rw[e]at hb;exact ih b hb
  |some x=>rw[e]at hb;unfold vB at hb;obtain⟨c,hc,e2⟩:=sR hb;rw[← e2];split at hc;rename_i hk;rcases Zo.1 hc with hc|hc;exact ih c hc;rw[mem_singleton.1 hc];exact hk;exact ih c hc
theorem Fo{op:Int}(h:yM op):zT op=Z:=by obtain⟨a,b,c,e,f,d⟩:=h;simp[zT,a,b,c,d]
theorem Ic(n:Nat):zT ((40+n:Nat):Int)=Z:=Fo ⟨zo,zo,zo,zo,zo,zo⟩
theorem Gh {p:PrS} (hp:yl p) {he:YI} (hfit:lJ p.1 p.2 he):ew p.1 (rbS p.1 he) p.2 (wM p).1 (wM p).2:=by
 have ok:=xF hp;have hbase:dc p.1:=fun x hx=>(hp.ins x hx).1.1;have hf:∀ b,(kB b).1=b.1:=fun b=>rfl;have hT:=AN (zt p.1 p.2);rw[ok.flat]at hT;have hrb:∀ x,x<p.1.length→(rbS p.1 he).getD x Z=(kN p.1 p.2).getD x Z:=fun x hx=>TS hfit x hx;have hen:=hp.entry;have eL:(wM p).1=(((zt p.1 p.2).map kB).flatMap (·.2)).map (xD (yO ((zt p.1 p.2).map kB) p.1.length ((zt p.1 p.2).map kB).length).1):=by show jS _ _ _=_;rw[dA]
 have ee:(wM p).2=((yO ((zt p.1 p.2).map kB) p.1.length ((zt p.1 p.2).map kB).length).1.getD p.2 0).toNat:=rfl;rw[eL,ee];clear eL ee;have hnum:∀ (i:Nat) (b:Blo),(zt p.1 p.2)[i]? = O b→(yO ((zt p.1 p.2).map kB) p.1.length ((zt p.1 p.2).map kB).length).1.getD b.1 0=((((zt p.1 p.2).map kB).take i).flatMap (·.2)).length:=by intro i b hb;have h:=dj hp hf hb;have hlow:=ok.low b (Zd hb);unfold qC at h;rw[if_pos zo,Zr]at h;exact h
 have hplace:∀ (i:Nat),atS (((zt p.1 p.2).map kB).flatMap (·.2)) ((((zt p.1 p.2).map kB).take i).flatMap (·.2)).length=(((zt p.1 p.2).take i).flatMap (·.2)).length:=by
  intro i;have h1:=AN ((zt p.1 p.2).take i);rw[map_take]at h1;have hb1:dc (((zt p.1 p.2).take i).flatMap (·.2)):=by intro x hx;refine hbase x ?_;rw[← ok.flat,← take_append_drop i (zt p.1 p.2),flatMap_append];exact Zo.2 (Zg hx)
  have h2:=(ux h1 hb1).2;rw[← h2];conv=>lhs;rw[← take_append_drop i ((zt p.1 p.2).map kB),flatMap_append]
  rw[take_append_drop];rw[JT _ _ _ (Zc _)]
 have hQle:∀ (i:Nat),((((zt p.1 p.2).map kB).take i).flatMap (·.2)).length≤(((zt p.1 p.2).map kB).flatMap (·.2)).length:=fun i=>iL _ i;have hcs:∀ (i:Nat) (b:Blo),(zt p.1 p.2)[i]? = O b→((((zt p.1 p.2).map kB).take (i+1)).flatMap (·.2)).length=((((zt p.1 p.2).map kB).take i).flatMap (·.2)).length+(xf b.2).length:=by intro i b hb;exact pZ (c:=kB b) (by rw[Zn,hb];rfl)
 have hall:((zt p.1 p.2).map kB).take (zt p.1 p.2).length=(zt p.1 p.2).map kB:=take_of_length_le zs;generalize hnumsE:(yO ((zt p.1 p.2).map kB) p.1.length ((zt p.1 p.2).map kB).length).1=nums at *;generalize hQE:((zt p.1 p.2).map kB).flatMap (·.2)=Q at *;obtain⟨hat,hwh⟩:=ux hT hbase;have hmono:∀ i j,i<j→j≤(Q.map (xD nums)).length→atS (Q.map (xD nums)) i<atS (Q.map (xD nums)) j:=by intro i j h1 h2;rw[fD,fD];exact iD hT hbase i j h1 (by simpa using h2)
 have hnow:∀ j,j<Q.length→(vR (p.1.length+1) (Q.map (xD nums)) (Q.map (xD nums)).length).getD (atS Q j) 0=j:=by
  intro j hj
  have h1:=SH (p.1.length+1) (Q.map (xD nums)) (Q.map (xD nums)).length (Zc _) hmono j (by simpa using hj) (by
    rw[fD]
    have:=iD hT hbase j Q.length hj (Zc _)
    omega)
  rw[fD]at h1;exact h1
 have hfirst:∀ (i:Nat) (b:Blo),(zt p.1 p.2)[i]? = O b→∃ K:Nat,K=((((zt p.1 p.2).map kB).take i).flatMap (·.2)).length∧K<Q.length∧atS Q K=b.1∧nums.getD b.1 0=K∧(vR (p.1.length+1) (Q.map (xD nums)) (Q.map (xD nums)).length).getD b.1 0=K:=by
  intro i b hb;have h1:atS Q ((((zt p.1 p.2).map kB).take i).flatMap (·.2)).length=b.1:=by rw[hplace i];exact (ok.firsts i b hb).symm
  have hlow:=ok.low b (Zd hb);have h2:=hQle i;have h3:=hnum i b hb;generalize ((((zt p.1 p.2).map kB).take i).flatMap (·.2)).length=K at *;have h4:K<Q.length:=by rcases Nat.lt_or_ge K Q.length with h|h;exact h;have:K=Q.length:=zo;subst this;omega
  have h5:=hnow K h4;rw[h1]at h5;exact⟨K,rfl,h4,h1,h3,h5⟩
 have hbeg:∀ x,x<p.1.length→(kN p.1 p.2).getD x Z=Y→∃ (i:Nat) (b:Blo),(zt p.1 p.2)[i]? = O b∧b.1=x:=by intro x hx hb;obtain⟨b,h1,h2⟩:=ok.has x hx hb;obtain⟨i,hi⟩:=getElem?_of_mem h1;exact⟨i,b,hi,h2⟩
 have hget:∀ (i:Nat) (x:Int×Int),(Q.map (xD nums))[i]? = O x→∃ y,Q[i]? = O y∧x=xD nums y:=by
  intro i x hx;rw[Zn]at hx;cases e:Q[i]? with
  |none=>rw[e]at hx;cases hx
  |some y=>rw[e]at hx;exact⟨y,rfl,by simpa using hx.symm⟩
 refine⟨?_,?_,?_,?_,?_,?_⟩;intro i x hx;obtain⟨y,hy,rfl⟩:=hget i x hx;obtain⟨a,h1,h2,h3,h4⟩:=hat i y hy;have hl:(ya (xD nums y).1).length=a.length:=by rw[lF,h1.parts h2,bB]
 have:=h1.o.pos;rw[fD,hl];omega;intro i x hx k q z hq hz;obtain⟨y,hy,rfl⟩:=hget i x hx;obtain⟨a,h1,h2,h3,h4⟩:=hat i y hy;rw[fD]at hz ⊢;have hpa:=h1.parts h2;rw[lF]at hq ⊢;rw[hpa]at hq ⊢;rw[bB];have hka:k<a.length:=by have:=(Zb.1 hq).1;rw[bB]at this;exact this
 have haz:a[k]? = O z:=by rw[h3,getElem?_take,if_pos hka,getElem?_drop];exact hz
 have hzq:z.1=q:=by unfold qz at hq;rw[Zn,haz]at hq;simpa using hq
 refine⟨hzq,fun hk=>?_,fun h0=>?_,fun hl hn=>?_⟩;rw[hrb _ zo];cases e:(kN p.1 p.2).getD (atS Q i+k) Z with
 |false=>rfl
 |true=>
  exfalso;obtain⟨j,b,hj,hb1⟩:=hbeg _ zo e;obtain⟨K,-,hK,hat2,-,-⟩:=hfirst j b hj;have hi:=(Zb.1 hy).1;have e2:atS Q (i+1)=atS Q i+a.length:=by rw[atS,Zj,hy];show atS Q i+(ya y.1).length=_;rw[hpa,bB]
  rcases Nat.lt_trichotomy K i with h|h|h;have:=iD hT hbase K i h zo;omega;subst h;omega;by_cases h5:K=i+1;subst h5;omega;have:=iD hT hbase (i+1) K zo zo;omega
 rcases h1 with rfl|⟨n,hn,hop,hol,hlit⟩;have hk0:k=0:=by simpa using hka
 subst hk0;have hyz:y=z:=by simpa using haz
 subst hyz;unfold xD;rw[if_neg (by rw[h0];decide)];unfold xD;rw[if_neg (by rw[hop,Ic];decide)];exact hlit z (Zd haz) h0;rcases h1 with rfl|⟨n,hn2,hop,hol,hlit⟩;have hk0:k=0:=by simpa using hka
 subst hk0;have hyz:y=z:=by simpa using haz
 subst hyz;unfold xD;rw[if_neg (by rw[hn];decide)];have h5:=rQ (40+n) zo zo;rw[← hol,bB]at h5;omega;rw[length_map,fD];exact hwh;obtain⟨i,b,hi,hb1⟩:=hbeg p.2 hen (bx p.1 p.2 hen);obtain⟨K,-,-,-,h3,h4⟩:=hfirst i b hi;rw[hb1]at h3 h4;rw[h4,h3];simp;intro i y hy hn;have hm:=Zd hy;have hr:=(hp.ins y hm).2 hn;refine⟨hr,?_⟩;have hil:=(Zb.1 hy).1;obtain⟨q,k,z,hz,e,hk⟩:=LP hT hbase i hil;obtain⟨a,h1,h2,h3,h4⟩:=hat q z hz;have hpa:=h1.parts h2;rw[hpa,bB]at hk;have hay:a[k]? = O y:=by rw[h3,getElem?_take,if_pos hk,getElem?_drop,← e];exact hy
 have hsingle:a=[z]:=by
  rcases h1 with h1|⟨n,hn2,hop,hol,-⟩;exact h1;exfalso;have hq:(yj ((40+n:Nat):Int))[k]? = O y.1:=by rw[← hol];unfold qz;rw[Zn,hay];rfl
  have:=Fo ((oT (40+n) zo zo).2.1 y.1 (Zd hq)).2;rw[this]at hn;cases hn
 subst hsingle;have hk0:k=0:=by simpa using hk
 subst hk0;have hyz:z=y:=by simpa using hay
 subst hyz;have hql:=(Zb.1 hz).1;have e1:i=atS Q q:=zo;obtain⟨j,b,hj,hb1⟩:=hbeg z.2.toNat zo (td p.1 p.2 z hm hn hr);obtain⟨K,-,-,-,h5,h6⟩:=hfirst j b hj;rw[hb1]at h5 h6;refine⟨q,xD nums z,by rw[e1];exact hnow q hql,by rw[Zn,hz];rfl,?_⟩;rw[h6];unfold xD;rw[if_pos hn];exact h5.symm;intro f t hft htl hf0 ht0 hin;have hbf:(kN p.1 p.2).getD f Z=Y:=by rcases hf0 with rfl|h;exact dg p.1 p.2 p.1.length;rw[hrb f zo]at h;exact h
 obtain⟨i,b,hi,hb1⟩:=hbeg f zo hbf;obtain⟨K,hK,hKl,hKat,hKn,hKnow⟩:=hfirst i b hi;have hbm:=Zd hi;have hbl:0<b.2.length:=length_pos_iff.2 (ok.full b hbm);have hnext:=ig hp hi;have htb:t=f+b.2.length:=by
  rcases Nat.lt_trichotomy t (f+b.2.length) with h|h|h;exfalso;have hflat:b.1+b.2.length≤p.1.length:=by rcases hnext with ⟨c,hc,e⟩|⟨-,e⟩;have:=ok.low c (Zd hc);omega;omega
  have h1:=ok.inner b hbm (t-f) zo zo;rw[hb1,show f+(t-f)=t from zo]at h1;rcases ht0 with h2|h2;omega;rw[hrb t zo,h1]at h2;cases h2;exact h;exfalso;rcases hnext with ⟨c,hc,e⟩|⟨-,e⟩;have hcl:=ok.low c (Zd hc);have h1:=Ml p.1 (kN p.1 p.2) p.1.length c (Zd hc);have h2:=hin c.1 zo zo;rw[hrb c.1 zo,h1]at h2;cases h2;omega
 have hrow:(p.1.drop f).take (t-f)=b.2:=by apply ext_getElem?;intro m;rw[getElem?_take];by_cases hm:m<b.2.length;rw[if_pos zo,getElem?_drop,← hb1];exact jY ok.flat ok.firsts hi hm;rw[if_neg zo,getElem?_eq_none zo]
 rw[hrow,ID];have hc1:=hcs i b hi;rw[← hK]at hc1;have e0:((vR (p.1.length+1) (Q.map (xD nums)) (Q.map (xD nums)).length).set p.1.length ((Q.map (xD nums)).length:Int)).getD f 0=K:=by rw[dy _ _ _ _ zo,← hb1];exact hKnow
 have e1:((vR (p.1.length+1) (Q.map (xD nums)) (Q.map (xD nums)).length).set p.1.length ((Q.map (xD nums)).length:Int)).getD t 0=(K+(xf b.2).length:Nat):=by rcases hnext with ⟨c,hc,e⟩|⟨hlast,e⟩;have hcl:=ok.low c (Zd hc);obtain⟨K',hK',-,-,-,hKnow'⟩:=hfirst (i+1) c hc;rw[dy _ _ _ _ zo,htb,← hb1,← e,hKnow',hK',hc1];rw[show t=p.1.length from zo,bT _ _ _ (by rw[oq];omega)];rw[hlast,hall,hQE]at hc1;rw[length_map,hc1]
 rw[e0,e1];omega
theorem MT(a b c d:Int)(w:YW):(binOp .eql 65 (Ag #[I J a,I J b]) (Ag #[I J c,I J d])).run prog w=.ok (Bl ((a==c)&&(b==d))) w:=by
 have t:prog.underlying 65=O (.struct (prog.fieldsOf 65)):=zr;have q:prog.stoodInHeld 65=Z:=zr;have i:(prog.fieldsOf 65).toList.map (fun f=>(decide (f.name = "_"),f.type,f.offset))=[(Z,3,0),(Z,2,1)]:=zr;rw[run_eql_struct,run_equalIn_agg _ _ _ _ _ t q];generalize (prog.fieldsOf 65).toList=n at i;obtain⟨f,r,rfl⟩:∃f r,n=f::r:=by cases n with|nil=>simp at i|cons f r=>exact⟨f,r,rfl⟩
 obtain⟨g,r,rfl⟩:∃f s,r=f::s:=by cases r with|nil=>simp at i|cons f r=>exact⟨f,r,rfl⟩
 obtain rfl:r=[]:=by cases r with|nil=>rfl|cons f r=>simp at i
 simp only[map_cons,map_nil,List.cons.injEq,Prod.mk.injEq,and_true,decide_eq_false_iff_not]at i;obtain⟨⟨l,e,j⟩,m,h,k⟩:=i;have p1:=cR f.type #[I J a,I J b] f.offset (I J a) (by rw[j];rfl) (Zg e) w;have p2:=cR f.type #[I J c,I J d] f.offset (I J c) (by rw[j];rfl) (Zg e) w;have p3:=cR g.type #[I J a,I J b] g.offset (I J b) (by rw[k];rfl) (Zf h) w;have p4:=cR g.type #[I J c,I J d] g.offset (I J d) (by rw[k];rfl) (Zf h) w;have o:(Op.equalIn 9999 f.type (I J a) (I J c)).run prog w=.ok (a==c) w:=run_equalIn_int w 9998 f.type .i64 .i64 a c (by rw[e];exact underlying3);have p:(Op.equalIn 9999 g.type (I J b) (I J d)).run prog w=.ok (b==d) w:=run_equalIn_int w 9998 g.type .i64 .i64 b d (by rw[h];exact underlying2);simp only[Op.eqFields,l,m,ne_eq,not_false_eq_true,if_true,Sem.run_bind,p1,p2,p3,p4,o,p,Result.andThen_ok,Sem.run_ite,Sem.run_pure];cases hac:(a==c)<;>cases hbd:(b==d)<;>simp
theorem pf (ao:YA) (c en:Nat) (ce:Int) (l:YL) (w:YW) (hin:InL w ao l) (hp:yl (l,en)) : Calls prog 81 #[Ag #[S ao l.length c,I J en,I J ce]] w (kF w (yw l.length en ((zt l en).map xB)) ce):=by
 have hw2:=yG w (C #[S ao l.length c,I J en,I J ce] 73) (C #[S X 0 0,I J 0,I J 0] 73);have hP:Blk ((w.alloc (C #[S ao l.length c,I J en,I J ce] 73)).alloc (C #[S X 0 0,I J 0,I J 0] 73)) w.heap.size #[S ao l.length c,I J en,I J ce] 73:=(Blk.new w _ _).alloc _;have hR:=vD w (C #[S ao l.length c,I J en,I J ce] 73) #[S X 0 0,I J 0,I J 0] 73;have hsz2:((w.alloc (C #[S ao l.length c,I J en,I J ce] 73)).alloc (C #[S X 0 0,I J 0,I J 0] 73)).heap.size=w.heap.size+2:=zs;have hent:en<l.length:=hp.entry;have hsm:l.length≤5000:=hp.R;have hfine:=wR (l:=l) (en:=en);have hflat:=hfine.flat;rw[take_length]at hflat;have HBO:=V (eV ao c en ce l _ (hin.z hw2) zo hent hp.N);have HMEM:Hid (∀ b∈zt l en,∀ x∈b.2,x∈l):=fun b hb x hx=>by rw[← hflat];exact mem_flatMap.2 ⟨b,hb,hx⟩
 have HROW:Hid (∀ b∈zt l en,b.2.length≤5000):=fun b hb=>Nat.le_trans (hfine.row hb) hsm;have HLOW:=V hfine.low;have hbl:(zt l en).length≤l.length:=hfine.len;have HP:=V hP;have HR:=V hR;have HW2:=V hw2;have HPR:=V hp;have HSZ2:=V hsz2
 have HNAM:Hid (∀ b∈(zt l en).map xB,∀ x∈b.2,zT x.1=Y→0≤x.2∧x.2<l.length):=fun b hb x hx hn=>by
   obtain⟨b',hb',rfl⟩:=mem_map.1 hb
   refine hp.N x (U HMEM b' hb' x ?_) hn
   unfold xB at hx
   split at hx
   · exact dropLast_subset _ hx
   · exact hx
 have HFL:Hid (((zt l en).flatMap (·.2)).length≤5000):=by rw[hflat];exact hsm
 have HFULL:=V hfine.full;generalize hbs:zt l en=bs at *;clear hw2 hP hR hp hfine hflat hin hsz2 hbs;go_enter func81,ntmps81;go_wp2_with fail;generalize ((w.alloc (C #[S ao l.length c,I J en,I J ce] 73)).alloc (C #[S X 0 0,I J 0,I J 0] 73))=W1 at *;refine HBO.m ?_;rintro e W2 ⟨lg,lc,rs,rfl,hbk,hrs,hb2⟩;have hlen:rs.length=bs.length:=by rw[← hrs,length_map]
 have hlgs:=hbk.lt;have HBK:=V hbk;have HRS:=V hrs;have HB2:=V hb2;have HLEN:=V hlen;obtain⟨m,hm⟩:∃ m,m=rs.length:=⟨_,rfl⟩;rw[← hm]at hlen ⊢;have HM:=V hm;have hm5:m≤5000:=zo;have hmI:(m:Int)≤5000:=zo;have HLG:Hid (W1.heap.size≤lg):=hlgs.2;clear hbk hrs hb2 HBO hm hlen hlgs;go_wp2;go_loopw [11] (fun i wr=>∃ (k:Nat) (rs':List LBl),i=I J k∧k≤m∧rs'.length=m∧jh W1.heap.size wr lg lc rs'∧rs'.map LBl.blo=vV xB bs k∧Below W1.heap.size W1 wr) (fun i _=>m-(intOf i).toNat);case atStart=>exact⟨0,rs,rfl,Zq _,HM.symm,U HBK,by rw[iw];exact U HRS,U HB2⟩
 case round=>
  obtain⟨k,rs',rfl,hk,hl',hbk,hmap,hbw⟩:=hrel;have HBK':=V hbk;have HMAP:=V hmap;have HBW:=V hbw;have HL':=V hl';by_cases hlt:k<m
  ·obtain⟨r,hr⟩:∃ r,rs'[k]? = O r:=⟨_,Za zo⟩;have hkb:k<bs.length:=by have:=U HLEN;have:=U HM;omega
   have hrb:bs[k]? = O r.blo:=by rw[← fO xB bs k hkb,← hmap,Zn,hr];rfl
   have hrm:=Zd hrb;obtain⟨e1,e2,hinr,hcapr⟩:=hbk.cells hr;have hfree:=yB hbk.1;have hlgl:=hbk.lt.1;have hltI:(k:Int)<m:=zo;obtain⟨rf,ra,rc,rl⟩:=r;simp only[LBl.blo]at e1 e2 hinr hcapr hrb hrm;have hrl:rl.length≤5000:=U HROW _ hrm;have hrn:rf<l.length:=U HLOW _ hrm;have hfull:=length_pos_iff.2 (U HFULL _ hrm);simp only at hfull;obtain⟨q,hq⟩:∃ q,q=rl.length-1:=⟨_,rfl⟩;obtain⟨x,hx⟩:∃ x,rl[q]? = O x:=⟨_,Za zo⟩;obtain⟨g,off,rfl,hgl,d1,d2⟩:=ju hinr hx;obtain⟨x1,x2⟩:=x;simp only at d1 d2;have hlast:rl.getLast? = O (x1,x2):=by rw[getLast?_eq_getElem?,← hq];exact hx
   have hsub:IntKind.i64.wrap ((rl.length:Int)-1)=q:=zw;have hql:(q:Int)<rl.length:=zo;have hqc:(q:Int)≤rc:=zo;have hrI:(rl.length:Int)≤5000:=zo;have hrfI:(rf:Int)≤5000:=zo;have hadd:IntKind.i64.wrap ((rf:Int)+rl.length)=(rf:Int)+rl.length:=zw;have HNX:=V (iu xB hrb);have hbx:=zB wr (C #[I J rf,S (O ⟨g,off,X⟩) rl.length rc] 161);have HBB:=V (hbk.z hbx);have hdl:rl.dropLast.length=q:=by rw[length_dropLast,hq]
   have hdt:rl.dropLast=rl.take q:=by rw[dropLast_eq_take,hq]
   have HSET:=V ((hbk.z hbx).set hr (O ⟨g,off,X⟩) rc rl.dropLast (by rw[hdt];exact InL.take (hinr.z hbx) q) (by rw[hdl];omega) (fun g' off' e=>by
     have h1:=hbk.2 _ (Zd hr)
     rcases h1.2 with h2|⟨g2,off2,h2,h3,h4,_⟩
     · simp only at h2
       rw[h2]at hfull
       simp at hfull
     · simp only at h2
       rw[e]at h2
       simp only[Zs,Addr.mk.injEq]at h2
       omega))
   rw[hdl]at HSET;have HAT:Hid ((vV xB bs k)[k]? = O (rf,rl)):=by show _=_;rw[fO _ _ _ hkb];exact hrb
   have HBWX:Hid (Below W1.heap.size W1 (wr.alloc (C #[I J rf,S (O ⟨g,off,X⟩) rl.length rc] 161))):=hbw.trans (hbx.m hbw.size);have hbb:=Blk.new wr #[I J rf,S (O ⟨g,off,X⟩) rl.length rc] 161;have hcbb:=hbb.u;have hlbb:=hbb.lt;have hkeep:=hbk.z hbx;have hck:=(hkeep.cells hr).2.1;have hfk:=yB hkeep.1;have hlk:=hkeep.lt.1;simp only at hck;have HLAST:=V hlast;have HDL:=V hdl;clear hbk hmap hbw hrb hrm hinr hcapr hr hl' hx hlast hbx hdl hdt hq hbb hkeep hfull;have heq:=MT x1 x2 1 ((rf:Int)+rl.length);have hgd:=tm;have HBQ:Hid ((((x1 == 1)&&(x2 == ((rf:Int)+rl.length)))=Y)↔rl.getLast? = O (1,((rf+rl.length:Nat):Int))):=by show _↔_;rw[U HLAST];simp
   generalize hbq:((x1 == 1)&&(x2 == ((rf:Int)+rl.length)))=bq at *;clear hbq;have HWD:Hid (∀ n,Below W1.heap.size W1 ((wr.alloc (C #[I J rf,S (O ⟨g,off,X⟩) rl.length rc] 161)).drewN n)):=fun n=>zS (U HBWX) n;have HDW:Hid (∀ n,jh W1.heap.size ((wr.alloc (C #[I J rf,S (O ⟨g,off,X⟩) rl.length rc] 161)).drewN n) lg lc rs'):=fun n=>U HBB;have HDS:Hid (∀ n,jh W1.heap.size (((wr.alloc (C #[I J rf,S (O ⟨g,off,X⟩) rl.length rc] 161)).drewN n).setCell ⟨lg,k * 2+1,X⟩ (S (O ⟨g,off,X⟩) q rc)) lg lc (rs'.set k (rf,O ⟨g,off,X⟩,rc,rl.dropLast))):=fun n=>U HSET;go_wp2;go_quiet (fail);cases bq with
   |true=>
    go_wp2;go_roundw;case rel=>
     refine⟨k+1,rs'.set k (rf,O ⟨g,off,X⟩,rc,rl.dropLast),by go_num,zo,by rw[length_set];exact U HL',U HDS _,?_,(U HWD _).setCell (U HLG) _⟩;have e:xB (rf,rl)=(rf,rl.dropLast):=by unfold xB;rw[if_pos (HBQ.1 rfl)]
     rw[map_set,U HMAP,U HNX,e];rfl
    case measure=>exact zv
   |false=>
    go_wp2;go_roundw;case rel=>
     refine⟨k+1,rs',by go_num,zo,U HL',U HDW _,?_,U HWD _⟩;have e:xB (rf,rl)=(rf,rl):=by unfold xB;rw[if_neg (fun h=>by have:=HBQ.2 h;cases this)]
     rw[U HNX,e,U HMAP];exact (FZ (U HAT)).symm
    case measure=>exact zv
  ·have hkk:k=m:=zo;subst hkk;have hmb:k=bs.length:=by rw[U HM];exact U HLEN
   have hmap2:rs'.map LBl.blo=bs.map xB:=by rw[hmap,hmb,mh]
   have hPw:=Blk.z (U HP) hbw HP.lt;have hRw:=Blk.z (U HR) hbw HR.lt
   have HJO:=V (iq W1.heap.size ao c l.length en ce lg lc rs' (bs.map xB) wr hbk hmap2 (fun b hb=>by
     obtain⟨b',hb',rfl⟩:=mem_map.1 hb
     have e:(xB b').1=b'.1:=by first|rfl|(unfold ym;split<;>rfl)|(unfold xB;split<;>rfl)
     rw[e]
     exact U HLOW b' hb') (U HNAM) hent zo (by
     have:=dC xB (fun b=>by unfold xB;split<;>simp) bs
     have h2:=U HFL
     omega) zo)
   rw[hl']at HJO;have hcp:=hPw.u;have hlp:=hPw.lt;have HRW:=V hRw;clear hbk hmap hmap2 hPw hRw hl' hmb hbw;generalize hq:yw l.length en (bs.map xB)=q at *;go_wp2_with fail;refine HJO.m ?_;rintro e w4 ⟨a4,c4,rfl,ho4,hb4⟩;have hR4:=Blk.z (U HRW) hb4 HRW.lt;have hcr:=hR4.u;have hfr:=hR4.H;have hlr:=hR4.lt;have HR4:=V hR4;have HO4:=V ho4;have HB4:=V hb4;clear ho4 hb4 HJO hR4 HRW hcp hlp;go_wp2;refine bodyPost_ret (qD (P:=prog) rfl _ _ (w.heap.size+1) 73 _ (0,0) _ rfl (xE (U HR4) rfl) underlying73 rfl yT) rfl ?_;have hsz:=U HSZ2;have hww:w.heap.size≤wr.heap.size:=by have:=HBW.size;omega
   have hn:(Value.slice a4 q.1.length c4).ownBlock≠O (w.heap.size+1):=fun e=>zR (U HR4) (U HO4) zd e;have hb5:Below w.heap.size w w4:=HW2.trans ((HBW.trans (HB4.m HBW.size)).m zo);try rw[hq]
   refine⟨a4,c4,rfl,?_,((hb5.setCell zs _).setCell zs _).setCell zs _⟩;exact zV (zA (zA (zA (U HO4) hn _) hn _) hn _) hww
def nz(w:YW)(b:Nat):Nat:=match w.cell? ⟨b,0,X⟩with|some (S _ n _)=>n|_=>0
structure AX(w0:YW)(ce:Int)(res:PrS)(fb tb rb:Nat)(bs:List (Nat×Nat))(w:YW)(p:PrS)(a:YA)(k n:Nat):Prop where
 box:Blk w w0.heap.size #[S a p.1.length k,I J p.2,I J ce] 73
 out:Blk w (w0.heap.size+1) #[S X 0 0,I J 0,I J 0] 73
 list:InL w a p.1
 off:∀g o,a=O ⟨g,o,X⟩->g≠w0.heap.size/\g≠w0.heap.size+1
 ok:yl p
 fuel:p.1.length<n
 go:aI n p=res
 fold:bP w fb tb rb bs
 z:Below w0.heap.size w0 w
theorem Qm(U0:lI)(v:YA)(c en:Nat)(ce:Int)(l:YL)(w:YW)(ht:Lib.TabIs prog w "internal/strconv.uint64pow10" .u64 Lib.pow10Tab)(h0:InL w v l)(hp:yl (l,en)):Calls prog 54 #[Ag #[S v l.length c,I J en,I J ce]] w (kF w (aI (l.length+1) (l,en)) ce):=by
 have D0:=yG w (C #[S v l.length c,I J en,I J ce] 73) (C #[S X 0 0,I J 0,I J 0] 73);have hP:Blk ((w.alloc (C #[S v l.length c,I J en,I J ce] 73)).alloc (C #[S X 0 0,I J 0,I J 0] 73)) w.heap.size #[S v l.length c,I J en,I J ce] 73:=(Blk.new w _ _).alloc _;have hR:=vD w (C #[S v l.length c,I J en,I J ce] 73) #[S X 0 0,I J 0,I J 0] 73;have w0:=V (DB ((w.alloc (C #[S v l.length c,I J en,I J ce] 73)).alloc (C #[S X 0 0,I J 0,I J 0] 73)));have S0:=V (Lib.tabBelow_of_tabIs ht);have a0:=V D0;have HP:=V hP;have HR:=V hR;have t0:=V h0;have x0:=V hp;generalize s:aI (l.length+1) (l,en)=res;have y0:=V s
 have T:∀g o,v=O ⟨g,o,X⟩->g<w.heap.size\/l=[]:=fun g o e=>by
   rcases h0 with h|⟨g',o',e',hl,_⟩
   · exact Zf h
   · rw[e]at e'
     simp only[Zs,Addr.mk.injEq]at e'
     omega
 have K0:l≠[]:=by intro e;have:=hp.entry;rw[e]at this;simp at this
 have Q:Hid (∀g o,v=O ⟨g,o,X⟩->g≠w.heap.size/\g≠w.heap.size+1):=fun g o e=>by
   rcases T g o e with h|h
   · omega
   · exact absurd h K0
 clear D0 hP hR h0 hp ht s T K0;go_enter func54,ntmps54;go_wp2_with fail;generalize (w.alloc (C #[S v l.length c,I J en,I J ce] 73)).alloc (C #[S X 0 0,I J 0,I J 0] 73)=W1 at *;refine w0.m ?_;rintro e w2 ⟨fb,tb,rb,bs,rfl,J0,D⟩;have R0:Hid (AX w ce res fb tb rb bs w2 (l,en) v c (l.length+1)):=⟨HP.z D HP.lt,HR.z D HR.lt,(t0.z a0).z D,U Q,U x0,Nat.lt_succ_self _,U y0,J0,a0.trans (D.m a0.size)⟩;clear J0 D w0 HP HR t0 Q x0;go_wp2;go_loopw [4] (fun _ wr=>∃(p:PrS)(a:YA)(k n:Nat),AX w ce res fb tb rb bs wr p a k n) (fun _ wr=>nz wr w.heap.size);case atStart=>exact⟨(l,en),v,c,_,U R0⟩
 case round=>
  obtain⟨p,a,k,n,b⟩:=hrel;obtain⟨j,B⟩:=p;have d:=V b;have g0:=b.box.u;have V0:=b.box.lt;simp only at g0;have W0:=b.fuel;simp only at W0;have Q0:Hid (nz wr w.heap.size=j.length):=by show nz wr w.heap.size=_;unfold nz;rw[g0];rfl
  have G:=fR b.ok;have h5:j.length<=5000:=b.ok.R;obtain⟨p1,t⟩:∃p1,aR (j,B)=p1:=⟨_,rfl⟩;obtain⟨p2,H⟩:∃p2,bN p1=p2:=⟨_,rfl⟩;obtain⟨p3,N⟩:∃p3,gT p2=p3:=⟨_,rfl⟩;obtain⟨p4,k0⟩:∃p4,nE p3=p4:=⟨_,rfl⟩;have L:wU (j,B)=p4:=by unfold wU;rw[t,H,N,k0]
  have o1:yl p1:=by rw[<-t];exact G.p1
  have o2:yl p2:=by rw[<-H,<-t];exact G.p2
  have o3:yl p3:=by rw[<-N,<-H,<-t];exact G.p3
  have o4:yl p4:=by rw[<-L];exact G.p4
  have Y0:p4.1.length<=j.length:=by have:=SL (j,B);rw[L]at this;exact this
  have q0:Hid (Calls prog 84 #[A (O ⟨fb,0,X⟩),Ag #[S a j.length k,I J B,I J ce]] wr (kF wr p1 ce)):=by rw[<-t];exact KA fb tb rb a k B ce j wr (b.fold.isAt U0 (U S0 wr b.z)) b.list b.ok
  have A0:Hid (∀(g c:Nat)(W:YW),yD 0 W (S (O ⟨g,0,X⟩) p1.1.length c) p1.1->Calls prog 83 #[Ag #[S (O ⟨g,0,X⟩) p1.1.length c,I J p1.2,I J ce]] W (kF W p2 ce)):=fun g c W ho=>by
    rw[<-H]
    exact uv g c p1.2 ce p1.1 W ho o1
  have B0:Hid (∀(a:YA)(c:Nat)(W:YW),InL W a p2.1->Calls prog 82 #[Ag #[S a p2.1.length c,I J p2.2,I J ce]] W (kF W p3 ce)):=fun a c W hi=>by
    rw[<-N]
    exact ph a c p2.2 ce p2.1 W hi o2
  have C0:Hid (∀(a:YA)(c:Nat)(W:YW),InL W a p3.1->Calls prog 81 #[Ag #[S a p3.1.length c,I J p3.2,I J ce]] W (kF W p4 ce)):=fun a c W hi=>by
    rw[<-k0]
    exact pf a c p3.2 ce p3.1 W hi o3
  have l0:0<p1.1.length:=by have:=o1.entry;omega
  have P0:=V o4;have s0:Hid (∃m,n=m+1/\(if p4.1.length=j.length then p4 else aI m p4)=res):=by obtain⟨m,rfl⟩:∃m,n=m+1:=⟨n-1,zo⟩;refine⟨m,rfl,?_⟩;have:=b.go;rw[aI,L]at this;exact this
  clear b G t H N k0 L o1 o2 o3 o4;have c1:(p4.1.length:Int)<=5000:=zo;have d1:(j.length:Int)<=5000:=zo;go_wp2_with fail;refine q0.m ?_;rintro e w3 ⟨a3,c3,rfl,j0,E0⟩;obtain⟨g3,d3,e3,_,_⟩:=World.ownsRow.form j0 l0;simp only[Zk,true_and]at e3;obtain⟨rfl,rfl⟩:=e3;have n0:=V (U A0 g3 c3 w3 (j0.K (Zq _)));have b0:=V E0;clear j0 E0 q0 A0;go_wp2_with fail;refine n0.m ?_;rintro e w4 ⟨a4,c4,rfl,L0,F0⟩;have o0:=V (U B0 a4 c4 w4 L0.isIn.1);have c0:Hid (Below wr.heap.size wr w4):=b0.trans (F0.m b0.size);clear L0 F0 n0 B0 b0;go_wp2_with fail;refine o0.m ?_;rintro e w5 ⟨a5,c5,rfl,M0,G0⟩;have p0:=V (U C0 a5 c5 w5 M0.isIn.1);have d0:Hid (Below wr.heap.size wr w5):=c0.trans (G0.m c0.size);clear M0 G0 o0 C0 c0;go_wp2_with fail;refine p0.m ?_;rintro e w6 ⟨u,x,rfl,N0,H0⟩;have K:Hid (Below wr.heap.size wr w6):=d0.trans (H0.m d0.size);have f0:=zB w6 (C #[S u p4.1.length x,I J p4.2,I J ce] 73);have E:=K.trans (f0.m K.size);have O0:=yD.z N0 f0;have e0:=Blk.new w6 #[S u p4.1.length x,I J p4.2,I J ce] 73;have f:=d.box.z E d.box.lt;have i:=(U d).out.z E (U d).out.lt;have r0:=V (d.fold.z E);have m0:Hid (Below w.heap.size w (w6.alloc (C #[S u p4.1.length x,I J p4.2,I J ce] 73))):=d.z.trans (E.m d.z.size);have z1:=e0.u;have z2:=e0.lt;have z3:=f.u;have z4:=f.H;have z5:=f.lt;have z6:=i.u;have z7:=i.H;have z8:=i.lt;simp only at z3;have z:=V O0;have q:=V f;have r:=V i;have T0:Hid (w.heap.size<=w5.heap.size):=by have:=d.z.size;have:=d0.size;show _<=_;omega
  have Z0:w.heap.size≠w6.heap.size:=by have:=K.size;have:=d.box.lt;omega
  have a1:w.heap.size+1≠w6.heap.size:=by have:=K.size;have:=(U d).out.lt;omega
  clear N0 H0 p0 f0 E O0 e0 f i g0 V0;by_cases F:p4.1.length=j.length
  ·have I0:((p4.1.length:Int)==(j.length:Int))=Y:=by simp[F]
   have s:p4=res:=by obtain⟨m,_,h⟩:=U s0;rw[if_pos F]at h;exact h
   subst s;have e1:j.length=p4.1.length:=F.symm;clear F;go_wp2;refine bodyPost_ret (qD (P:=prog) rfl _ _ (w.heap.size+1) 73 _ (0,0) _ rfl (xE r rfl) underlying73 rfl yT) rfl ?_;have i0:(Value.slice u p4.1.length x).ownBlock≠O (w.heap.size+1):=fun e=>zR r z zd e;refine⟨u,x,rfl,?_,((m0.setCell zs _).setCell zs _).setCell zs _⟩;exact zV (zA (zA (zA z i0 _) i0 _) i0 _) T0
  ·have I0:((p4.1.length:Int)==(j.length:Int))=Z:=zp;have u0:Hid (p4.1.length<j.length):=by show _<_;omega
   go_wp2_with fail;have M:(Value.slice u p4.1.length x).ownBlock≠O w.heap.size:=fun e=>zR q z zd e;have X0:(Value.slice u p4.1.length x).ownBlock≠O (w.heap.size+1):=fun e=>zR r z zd e;have b1:=q.set 0 (S u p4.1.length x);have b2:=b1.set 1 (I J p4.2);have v0:Hid (∃m,AX w ce res fb tb rb bs ((((w6.alloc (C #[S u p4.1.length x,I J p4.2,I J ce] 73)).setCell ⟨w.heap.size,0,X⟩ (S u p4.1.length x)).setCell ⟨w.heap.size,1,X⟩ (I J p4.2)).setCell ⟨w.heap.size,2,X⟩ (I J ce)) p4 u x m):=by obtain⟨m,hm,h⟩:=U s0;rw[if_neg F]at h;have hl:=U u0;refine⟨m,⟨xE q rfl,((r.far (a:=⟨w.heap.size,0,X⟩) zs _).far (a:=⟨w.heap.size,1,X⟩) zs _).far (a:=⟨w.heap.size,2,X⟩) zs _,?_,?_,U P0,zo,h,?_,?_⟩⟩;exact(yD.isIn (zA (zA (zA z (a:=⟨w.heap.size,0,X⟩) M _) (a:=⟨w.heap.size,1,X⟩) M _) (a:=⟨w.heap.size,2,X⟩) M _)).1;intro g o e;subst e;exact⟨fun e=>M (by rw[<-e];rfl),fun e=>X0 (by rw[<-e];rfl)⟩;exact((r0.far q 0 _).far b1 1 _).far b2 2 _;exact((m0.setCell (Zc _) _).setCell (Zc _) _).setCell (Zc _) _
   obtain⟨m,R⟩:=U v0;have y:=V R;clear R b1 b2;go_roundw;case rel=>exact⟨p4,u,x,m,U y⟩
   case measure=>rw[U Q0];have h1:=y.box.u 0;unfold nz;rw[h1];exact U u0
structure uI(w0:YW)(ce:Int)(f t s:Bool)(w:YW)(p:PrS)(a:YA)(k:Nat):Prop where
 box:Blk w w0.heap.size #[S a p.1.length k,I J p.2,I J ce] 73
 opt:Blk w (w0.heap.size+1) #[Bl f,Bl t,Bl s] 32
 out:Blk w (w0.heap.size+1+1) #[S X 0 0,I J 0,I J 0] 73
 list:yD 0 w (S a p.1.length k) p.1
 z:Below w0.heap.size w0 w
theorem uI.next{b:YW}{ce:Int}{f t s:Bool}{w w':YW}{p q:PrS}{a c:YA}{k g:Nat}(h:uI b ce f t s w p a k)(d:Below w.heap.size w w')(m:yD 0 w' (S c q.1.length g) q.1):uI b ce f t s (((w'.setCell ⟨b.heap.size,0,X⟩ (S c q.1.length g)).setCell ⟨b.heap.size,1,X⟩ (I J q.2)).setCell ⟨b.heap.size,2,X⟩ (I J ce)) q c g:=by have l:=h.box.z d h.box.lt;have n:=h.opt.z d h.opt.lt;have o:=h.out.z d h.out.lt;have j:(Value.slice c q.1.length g).ownBlock≠O b.heap.size:=fun e=>zR l m zd e;have i:=h.z.trans (d.m h.z.size);exact⟨xE l rfl,((n.far (a:=⟨b.heap.size,0,X⟩) zs _).far (a:=⟨b.heap.size,1,X⟩) zs _).far (a:=⟨b.heap.size,2,X⟩) zs _,((o.far (a:=⟨b.heap.size,0,X⟩) zp _).far (a:=⟨b.heap.size,1,X⟩) zp _).far (a:=⟨b.heap.size,2,X⟩) zp _,zA (zA (zA m (a:=⟨b.heap.size,0,X⟩) j _) (a:=⟨b.heap.size,1,X⟩) j _) (a:=⟨b.heap.size,2,X⟩) j _,((i.setCell (Zc _) _).setCell (Zc _) _).setCell (Zc _) _⟩
theorem Rx(g cap en:Nat)(ce:Int)(l:YL)(w:YW)(i:yD 0 w (S (O ⟨g,0,X⟩) l.length cap) l)(c:yl (l,en)):Calls prog 53 #[Ag #[S (O ⟨g,0,X⟩) l.length cap,I J en,I J ce]] w (kF w (cm (l,en)) ce):=by have he:en<l.length:=c.entry;have h:l.length<=5000:=c.R;refine(Rw g cap l en ce w i zo h).m ?_;rintro e w' ⟨j,a,rfl,d,f⟩;have b:(cm (l,en)).1.length=l.length:=my l;exact⟨_,_,by rw[b];rfl,by unfold yD;rw[b];exact d,f⟩
theorem PI(p:PrS):yy Z Z Z p=p:=by simp only[yy,Bool.false_eq_true,if_false]
theorem Tv(f s:Bool)(p:PrS):yy f Y s p=yy f Z s (cm p):=by cases f<;>cases s<;>simp only[yy,Bool.false_eq_true,if_false,if_true]
theorem Ts(s:Bool)(p:PrS):yy Y Z s p=yy Z Z s (gq p):=by cases s<;>simp only[yy,Bool.false_eq_true,if_false,if_true]
theorem Tt(p:PrS):yy Z Z Y p=yy Z Z Z (wM p):=by simp only[yy,Bool.false_eq_true,if_false,if_true]
inductive Vi:Bool->Prop where
  | mk (b:Bool):Vi b
def Jh(w:YW)(q:PrS)(ce:Int)(e:Ending)(w':YW):Prop:=∃a c,e=Rt (Ag #[S a q.1.length c,I J q.2,I J ce])/\yD 0 w' (S a q.1.length c) q.1/\Below w.heap.size w w'
theorem RO(e0:lI)(f t s:Bool)(g k en:Nat)(ce:Int)(l:YL)(w:YW)(ht:Lib.TabIs prog w "internal/strconv.uint64pow10" .u64 Lib.pow10Tab)(p:yD 0 w (S (O ⟨g,0,X⟩) l.length k) l)(hp:yl (l,en)):Calls prog 35 #[Ag #[S (O ⟨g,0,X⟩) l.length k,I J en,I J ce],Ag #[Bl f,Bl t,Bl s]] w (Jh w (yy f t s (l,en)) ce):=by
 have d0:=V (Lib.tabBelow_of_tabIs ht);have N:Blk (((w.alloc (C #[S (O ⟨g,0,X⟩) l.length k,I J en,I J ce] 73)).alloc (C #[Bl f,Bl t,Bl s] 32)).alloc (C #[S X 0 0,I J 0,I J 0] 73)) (w.heap.size+1+1) #[S X 0 0,I J 0,I J 0] 73:=zk;have h:Below w.heap.size w (((w.alloc (C #[S (O ⟨g,0,X⟩) l.length k,I J en,I J ce] 73)).alloc (C #[Bl f,Bl t,Bl s] 32)).alloc (C #[S X 0 0,I J 0,I J 0] 73)):=zb;have M:Blk (((w.alloc (C #[S (O ⟨g,0,X⟩) l.length k,I J en,I J ce] 73)).alloc (C #[Bl f,Bl t,Bl s] 32)).alloc (C #[S X 0 0,I J 0,I J 0] 73)) w.heap.size #[S (O ⟨g,0,X⟩) l.length k,I J en,I J ce] 73:=zk;have hO:Blk (((w.alloc (C #[S (O ⟨g,0,X⟩) l.length k,I J en,I J ce] 73)).alloc (C #[Bl f,Bl t,Bl s] 32)).alloc (C #[S X 0 0,I J 0,I J 0] 73)) (w.heap.size+1) #[Bl f,Bl t,Bl s] 32:=zk;obtain⟨m,x⟩:∃m,(((w.alloc (C #[S (O ⟨g,0,X⟩) l.length k,I J en,I J ce] 73)).alloc (C #[Bl f,Bl t,Bl s] 32)).alloc (C #[S X 0 0,I J 0,I J 0] 73))=m:=⟨_,rfl⟩;have b:Hid (uI w ce f t s m (l,en) (O ⟨g,0,X⟩) k):=by rw[<-x];exact⟨M,hO,N,p.z h,h⟩
 have HW:=V x;have c0:=Vi.mk t;have a0:=Vi.mk f;have b0:=Vi.mk s;have d:=V hp;obtain⟨res,r⟩:∃res,yy f t s (l,en)=res:=⟨_,rfl⟩;rw[r];have c:=V r;have K:=V (Rx g k en ce l _ b.list d);have h1:=M.u;have h2:=M.H;have h3:=M.lt;have h4:=hO.u;have h5:=hO.lt;have h6:=N.u;have h7:=N.H;have h8:=N.lt;clear N h M hO p hp r ht x;cases f<;>cases t<;>cases s;all_goals go_enter func35,ntmps35;go_upto_region 1 with fail;rw[U HW];generalize (O ⟨g,0,X⟩:YA)=a at *;clear h1 h2 h3 h4 h5 h6 h7 h8 HW
 all_goals
  try
   have Q:Vi Y:=c0;clear Q;have o:=V ((Tv _ _ (l,en)).symm.trans c);obtain⟨q,j⟩:∃q,cm (l,en)=q:=⟨_,rfl⟩;have y:=b.box.u;have z:=b.box.H;have B:=b.box.lt;have D:=b.opt.u;have E:=b.opt.lt;have F:=(U b).out.u;have G:=(U b).out.H;have H:=(U b).out.lt;have v:Hid (Calls prog 53 #[Ag #[S a l.length k,I J en,I J ce]] m (kF m q ce)):=by rw[<-j];exact U K
   have L:Hid (yl q):=by rw[<-j];exact iR d
   rw[j]at o;clear j c d;go_wp2_with fail;refine v.m ?_;rintro e u ⟨a,k,rfl,p,h⟩;have n:=V (b.next h (p.K (Zq _)));have i:=b.box.z h b.box.lt;have R:=i.u;have T:=i.H;have W:=i.lt;have c1:=b.opt.z h b.opt.lt;have x4:=c1.u;have x5:=c1.lt;clear p h i c1 v b y z B D E F G H;go_upto_region 3 with fail;generalize (((u.setCell ⟨w.heap.size,0,X⟩ (S a q.1.length k)).setCell ⟨w.heap.size,1,X⟩ (I J q.2)).setCell ⟨w.heap.size,2,X⟩ (I J ce))=m at *;clear R T W x4 x5;obtain⟨l,en⟩:=q;simp only at n ⊢;have b:=n;have c:=o;have d:=L;clear n o L
 all_goals
  clear K;try
   have Q:Vi Y:=a0;clear Q;have o:=V ((Ts _ (l,en)).symm.trans c);obtain⟨q,j⟩:∃q,gq (l,en)=q:=⟨_,rfl⟩;have y:=b.box.u;have z:=b.box.H;have B:=b.box.lt;have D:=b.opt.u;have E:=b.opt.lt;have F:=(U b).out.u;have G:=(U b).out.H;have H:=(U b).out.lt;have v:Hid (Calls prog 54 #[Ag #[S a l.length k,I J en,I J ce]] m (kF m q ce)):=by rw[<-j];exact Qm e0 a k en ce l _ (U d0 _ b.z) b.list.isIn.1 d
   have L:Hid (yl q):=by rw[<-j];exact nW d
   rw[j]at o;clear j c d;go_wp2_with fail;refine v.m ?_;rintro e u ⟨a,k,rfl,p,h⟩;have n:=V (b.next h (p.K (Zq _)));have i:=b.box.z h b.box.lt;have R:=i.u;have T:=i.H;have W:=i.lt;have c1:=b.opt.z h b.opt.lt;have x4:=c1.u;have x5:=c1.lt;clear p h i c1 v b y z B D E F G H;go_upto_region 5 with fail;generalize (((u.setCell ⟨w.heap.size,0,X⟩ (S a q.1.length k)).setCell ⟨w.heap.size,1,X⟩ (I J q.2)).setCell ⟨w.heap.size,2,X⟩ (I J ce))=m at *;clear R T W x4 x5;obtain⟨l,en⟩:=q;simp only at n ⊢;have b:=n;have c:=o;have d:=L;clear n o L
 all_goals
  try
   have Q:Vi Y:=b0;clear Q;have o:=V ((Tt (l,en)).symm.trans c);obtain⟨q,j⟩:∃q,wM (l,en)=q:=⟨_,rfl⟩;have y:=b.box.u;have z:=b.box.H;have B:=b.box.lt;have D:=b.opt.u;have E:=b.opt.lt;have F:=(U b).out.u;have G:=(U b).out.H;have H:=(U b).out.lt;have v:Hid (Calls prog 55 #[Ag #[S a l.length k,I J en,I J ce]] m (kF m q ce)):=by rw[<-j];exact OL a k en ce l _ b.list.isIn.1 d
   rw[j]at o;clear j c d;go_wp2_with fail;refine v.m ?_;rintro e u ⟨a,k,rfl,p,h⟩;have n:=V (b.next h (p.K (Zq _)));have i:=b.box.z h b.box.lt;have R:=i.u;have T:=i.H;have W:=i.lt;have c1:=b.opt.z h b.opt.lt;have x4:=c1.u;have x5:=c1.lt;clear p h i c1 v b y z B D E F G H;go_upto_region 7 with fail;generalize (((u.setCell ⟨w.heap.size,0,X⟩ (S a q.1.length k)).setCell ⟨w.heap.size,1,X⟩ (I J q.2)).setCell ⟨w.heap.size,2,X⟩ (I J ce))=m at *;clear R T W x4 x5;obtain⟨l,en⟩:=q;simp only at n ⊢;have b:=n;have c:=o;clear n o
 all_goals have y:=b.box.u;have z:=b.box.H;have B:=b.box.lt;have D:=b.opt.u;have E:=b.opt.lt;have F:=(U b).out.u;have G:=(U b).out.H;have H:=(U b).out.lt;obtain rfl:=(PI (l,en)).symm.trans c;have hn:(Value.slice a l.length k).ownBlock≠O (w.heap.size+1+1):=fun e=>zR (U b).out b.list zd e;have HF:=V (zA (zA (zA b.list (a:=⟨w.heap.size+1+1,0,X⟩) hn (S a l.length k)) (a:=⟨w.heap.size+1+1,1,X⟩) hn (I J en)) (a:=⟨w.heap.size+1+1,2,X⟩) hn (I J ce));go_wp2;refine bodyPost_ret (qD (P:=prog) rfl _ _ (w.heap.size+1+1) 73 _ (0,0) _ rfl (xE (U b).out rfl) underlying73 rfl yT) rfl ?_;exact⟨a,k,rfl,U HF,((b.z.setCell zp _).setCell zp _).setCell zp _⟩
theorem Ng{st:RS}(g:qV st):∀x∈yh st,x.1<=32:=by intro x a;unfold yh at a;simp only[Zo,mem_singleton,mem_map]at a;rcases a with(a|⟨y,c,rfl⟩)|rfl;exact(g.c0 x a).1.2;have b:=(g.c1 y c).1.2;unfold qs;split<;>exact b;simp
theorem Bu(s:YB)(c:s.size<=2000):yl (yh (zH s),(zH s).c0.length):=by obtain⟨g,k,a,b⟩:=nQ s c;refine Sf (Jq a b g) (Ng g) ?_;unfold yh;simp
theorem dH(P:lI)(s:YB)(f t i:Bool)(w:YW)(hs:s.size≤2000)(hV:jt w)(hE:qR w)(ht:Lib.TabIs prog w "internal/strconv.uint64pow10" .u64 Lib.pow10Tab)(h0:(zH s).err=0):Calls prog 18 #[Sr s,Ag #[Bl f,Bl t,Bl i]] w fun e w'=>∃c,e=Rt (Tu #[A (O ⟨c,0,X⟩),I J 0,I J 0])∧wh w' c (yy f t i (yh (zH s),(zH s).c0.length)).1 (yy f t i (yh (zH s),(zH s).c0.length)).2 (zH s).cells∧Below w.heap.size w w':=by
 have h:Below w.heap.size w (w.alloc (C #[Bl f,Bl t,Bl i] 32)):=zb;have HC:=V (tQ s _ hs (hV.z h) (hE.z h));have x:=V h;have HO:=V (Blk.new w #[Bl f,Bl t,Bl i] 32);have H0:=V h0;have M:=V (Lib.tabBelow_of_tabIs ht);have a:=Bu s hs;obtain⟨q,R⟩:∃q,yy f t i (yh (zH s),(zH s).c0.length)=q:=⟨_,rfl⟩;have T:=(fv (f:=f) (t:=t) (s:=i) a);rw[R]at T ⊢;have HQ:=V R;have B:=V a;clear h hV hE h0 ht R a;go_enter func18,ntmps18;go_wp2_with fail;refine HC.m ?_;rintro e u ⟨p,m⟩;rcases p with⟨Q,_⟩|⟨_,v,rfl,b⟩;exact absurd (U H0) Q;have F:=x.trans (yf m x.size);have k:=HO.z m HO.lt;have a0:=k.u;have d0:=k.lt;have H:0<(yh (zH s)).length:=tV;obtain⟨g,cap,hv,_,b0⟩:=b.form H;subst hv;have D:=V b;have d:=V F;clear m F HC b k
 have HW:Hid (∀W,Below u.heap.size u W->Calls prog 35 #[Ag #[S (O ⟨g,0,X⟩) (yh (zH s)).length cap,I J (zH s).c0.length,I J (zH s).cells],Ag #[Bl f,Bl t,Bl i]] W (Jh W q (zH s).cells)):=fun W hW=>by
   have N:Below w.heap.size w W:=d.trans (hW.m d.size)
   have:=RO P f t i g cap (zH s).c0.length (zH s).cells (yh (zH s)) W (U M W N) ((zz.aB hW).row (zV D (Zq _))) B
   rw[U HQ]at this
   exact this
 generalize hl:yh (zH s)=l at *;generalize hn:(zH s).c0.length=n at *;generalize hc:(zH s).cells=ce at *;have K:=V hc;clear hl hn hc;have o:Below u.heap.size u (u.alloc (C #[S (O ⟨g,0,X⟩) l.length cap,I J n,I J ce] 73)):=(Ze _ _).alloc (Zc _) _;have y:=V o;have E:=V (U HW _ o);clear o;go_wp2_with fail;refine E.m ?_;rintro e w3 ⟨a3,c3,rfl,r,G⟩;obtain⟨g3,d3,e3,_,_⟩:=World.ownsRow.form r zo;simp only[Zk,true_and]at e3;obtain⟨rfl,rfl⟩:=e3;have j:Below u.heap.size u w3:=y.trans (G.m y.size);have L:=V r;have z:Hid (Below w.heap.size w w3):=d.trans (j.m d.size);clear G r j E;go_wp2_with fail;go_ret3;rw[U K];exact⟨_,rfl,⟨g3,c3,Blk.new w3 _ _,zE L _⟩,z.alloc z.size _⟩
def Je(s:YB)(er pl:Int):Prop:=er≠0/\(2000<s.size/\er=1/\pl=0\/s.size<=2000/\(zH s).err=er/\(zH s).place=pl/\er≠0)
theorem AM(s:YB):(∃er b,Je s er b)\/(s.size<=2000/\(zH s).err=0):=by by_cases h:s.size<=2000;by_cases a:(zH s).err=0;exact Zf ⟨h,a⟩;exact Zg ⟨_,_,a,Zf ⟨h,rfl,rfl,a⟩⟩;exact Zg ⟨1,0,zo,Zg ⟨zo,rfl,rfl⟩⟩
theorem pT(s:YB)(f t d:Bool)(er b:Int)(w:YW)(a:jk w)(h:Je s er b) :
    Calls prog 18 #[Sr s,Ag #[Bl f,Bl t,Bl d]] w fun e w'=>e=Rt (Tu #[A X,I J er,I J b])/\Below w.heap.size w w':=pS s f t d w er b h.1 (fun W c=>Em s W (a.z c).1 (a.z c).2.1 er b h.2)
end Go.Proofs.YtmeiikjpaepogaaGreatDoor
