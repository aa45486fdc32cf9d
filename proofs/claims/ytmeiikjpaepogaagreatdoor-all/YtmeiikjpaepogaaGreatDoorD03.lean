/- Own. -/
import Derived.Test.YtmeiikjpaepogaaGreatDoorD02
open Option renaming some->O,none->X
open Bool renaming true->Y,false->Z
open Go.Value renaming int->I,pointer->A,tuple->Tu
open Go.Ending renaming returned->Rt
open Go.IntKind renaming i64->J
set_option maxRecDepth 100000
set_option maxHeartbeats 1000000
namespace Go.Proofs.YtmeiikjpaepogaaGreatDoor
open Go Go.RowKit Go.Proofs.Tryz List
theorem EH(w:YW)(a b c:Nat):((w.drewN a).drewN b).drewN c=w.drewN (a+b+c):=by rw[qZ,qZ,Nat.add_assoc]
theorem EI(w:YW)(a b c d:Nat):(((w.drewN a).drewN b).drewN c).drewN d=w.drewN (a+b+c+d):=by simp only[qZ,Nat.add_assoc]
theorem qK(op a b:Int)(h:zY op=(a,b)):Hid (∀w,Calls prog 209 #[I J op] w fun e w'=>e=Rt (Tu #[I J a,I J b])/\w'=w):=fun w=>by
  have:=cP op w
  rw[h]at this
  exact this
theorem qJ(op a b:Int)(h:yt op=(a,b)):Hid (∀w,Calls prog 210 #[I J op] w fun e w'=>e=Rt (Tu #[I J a,I J b])/\w'=w):=fun w=>by
  have:=cB op w
  rw[h]at this
  exact this
theorem zc1{P:Prop}(M:P:=by
  obtain⟨a5,k5,r⟩:=zu h.o5
  obtain⟨a6,k6,z⟩:=zu h.o6
  obtain⟨a7,k7,D⟩:=zu h.o7
  obtain⟨a8,k8,E⟩:=zu h.o8
  subst r
  subst z
  subst D
  subst E
  have F:=h.D.u
  unfold yx at F
  have N:=h.lims
  have y:=h.R
  have L:(m.C.length:Int)<=1000:=zo
  have s2:(m.G.length:Int)<=1000:=zo
  have s3:(m.aC.length:Int)<=1000:=zo
  have s4:(m.cells.length:Int)<=1000:=zo
  have s5:(m.out.size:Int)<=1000:=zo
  have l1:m.ls<=1000:=zo
  have l3:m.lc<=1000:=zo
  have l4:m.lo<=1000:=zo
  have H:(m.out.size:Int)<=m.lo:=zo
  clear N y
  have G:m.C.length=l.length+1:=by rw[a];simp
  obtain⟨g5,a0,r,_,_⟩:=h.o5.form zo
  simp only[Zk,true_and]at r
  obtain⟨rfl,rfl⟩:=r
  have W:=zD h.o5 l.length zo
  have v:inI t:=h.ints.1 t (by rw[a];simp)
  unfold inI at v
  obtain⟨R,T⟩:=v
  rw[a,ja]at W
  rw[G]at F L
  have K:((l.length:Int)+1)<=1000:=zo
  clear a G
  simp only[Int.natCast_add,Int.cast_ofNat_Int]at L
  go_enter func183,ntmps183
  go_wp2_with fail
  refine(U o _).m ?_
  rintro e w2 ⟨rfl,x⟩
  obtain rfl:=x.symm
  clear x
  go_wp2_with fail
  refine(U k _).m ?_
  rintro e w2 ⟨rfl,x⟩
  obtain rfl:=x.symm
  clear x
  go_wp2_with fail
  try(go_quiet (fail);go_wp2_with fail)
  try(go_quiet (fail);go_wp2_with fail)
  try(go_quiet (fail);go_wp2_with fail)
  try(go_quiet (fail);go_wp2_with fail)
  try(go_quiet (fail);go_wp2_with fail)
  go_ret
  first|exact⟨rfl,_,rfl⟩|exact⟨rfl,_,qZ _ _ _⟩|exact⟨rfl,_,EH _ _ _ _⟩|exact⟨rfl,_,EI _ _ _ _ _⟩):P:=M
theorem zc2{P:Prop}(F:P:=by
  obtain⟨M,W,d⟩:=zu h.o5
  obtain⟨N,k6,r⟩:=zu h.o6
  obtain⟨Q,k7,s⟩:=zu h.o7
  obtain⟨R,k8,u⟩:=zu h.o8
  subst d
  subst r
  subst s
  subst u
  have x:=h.D.u
  unfold yx at x
  have G:=h.lims
  have q:=h.R
  have E:(m.C.length:Int)<=1000:=zo
  have s2:(m.G.length:Int)<=1000:=zo
  have s3:(m.aC.length:Int)<=1000:=zo
  have s4:(m.cells.length:Int)<=1000:=zo
  have s5:(m.out.size:Int)<=1000:=zo
  have l1:m.ls<=1000:=zo
  have l3:m.lc<=1000:=zo
  have l4:m.lo<=1000:=zo
  have z:(m.out.size:Int)<=m.lo:=zo
  clear G q
  rcases Zz m.C with e|⟨l,t,e⟩
  · have H:(m.C.length:Int)<=0:=by rw[e];simp
    clear e
    go_enter func183,ntmps183
    go_wp2_with fail
    refine(U o _).m ?_
    rintro e v ⟨rfl,a⟩
    obtain rfl:=a.symm
    clear a
    go_wp2_with fail
    refine(U k _).m ?_
    rintro e v ⟨rfl,a⟩
    obtain rfl:=a.symm
    clear a
    go_wp2_with fail
    try(go_quiet (fail);go_wp2_with fail)
    try(go_quiet (fail);go_wp2_with fail)
    try(go_quiet (fail);go_wp2_with fail)
    try(go_quiet (fail);go_wp2_with fail)
    try(go_quiet (fail);go_wp2_with fail)
    try(go_quiet (fail);go_wp2_with fail)
    go_ret
    first|exact⟨rfl,_,rfl⟩|exact⟨rfl,_,qZ _ _ _⟩|exact⟨rfl,_,EH _ _ _ _⟩|exact⟨rfl,_,EI _ _ _ _ _⟩
  · rw[concat_eq_append]at e
    have y:m.C.length=l.length+1:=by rw[e];simp
    obtain⟨T,L,d,_,_⟩:=h.o5.form zo
    simp only[Zk,true_and]at d
    obtain⟨rfl,rfl⟩:=d
    have K:=zD h.o5 l.length zo
    rw[e,ja]at K
    rw[y]at x E
    have D:((l.length:Int)+1)<=1000:=zo
    clear e y
    simp only[Int.natCast_add,Int.cast_ofNat_Int]at E
    go_enter func183,ntmps183
    go_wp2_with fail
    refine(U o _).m ?_
    rintro e v ⟨rfl,a⟩
    obtain rfl:=a.symm
    clear a
    go_wp2_with fail
    refine(U k _).m ?_
    rintro e v ⟨rfl,a⟩
    obtain rfl:=a.symm
    clear a
    go_wp2_with fail
    try(go_quiet (fail);go_wp2_with fail)
    try(go_quiet (fail);go_wp2_with fail)
    try(go_quiet (fail);go_wp2_with fail)
    try(go_quiet (fail);go_wp2_with fail)
    try(go_quiet (fail);go_wp2_with fail)
    try(go_quiet (fail);go_wp2_with fail)
    go_ret
    first|exact⟨rfl,_,rfl⟩|exact⟨rfl,_,qZ _ _ _⟩|exact⟨rfl,_,EH _ _ _ _⟩|exact⟨rfl,_,EI _ _ _ _ _⟩):P:=F
theorem Ay(B b:Nat)(m:MS)(f g i j:Value)(w:YW)(h:Mc B w b m f g i j)(c:(m.aC.length:Int)<m.lc):Calls prog 183 #[A (O ⟨b,0,X⟩),I J 3] w fun e w'=>e=Rt (I J 0)/\∃n,w'=w.drewN n:=by have o:=qK 3 0 0 rfl;have k:=qJ 3 0 0 rfl;exact zc2
theorem FO(B b:Nat)(m:MS)(f g i j:Value)(w:YW)(h:Mc B w b m f g i j)(c:m.lc<=(m.aC.length:Int)):Calls prog 183 #[A (O ⟨b,0,X⟩),I J 3] w fun e w'=>e=Rt (I J 11)/\∃n,w'=w.drewN n:=by have o:=qK 3 0 0 rfl;have k:=qJ 3 0 0 rfl;exact zc2
theorem BL(B b:Nat)(m:MS)(f g i j:Value)(w:YW)(h:Mc B w b m f g i j)(c:0<m.aC.length):Calls prog 183 #[A (O ⟨b,0,X⟩),I J 4] w fun e w'=>e=Rt (I J 0)/\∃n,w'=w.drewN n:=by
 have o:=qK 4 0 0 rfl;have k:=qJ 4 0 0 rfl;have p:((m.aC.length:Int)==0)=Z:=by rw[beq_eq_false_iff_ne];omega
 exact zc2
theorem IA(B b:Nat)(m:MS)(f g i j:Value)(w:YW)(h:Mc B w b m f g i j)(c:m.aC.length=0):Calls prog 183 #[A (O ⟨b,0,X⟩),I J 4] w fun e w'=>e=Rt (I J 11)/\∃n,w'=w.drewN n:=by
 have o:=qK 4 0 0 rfl;have k:=qJ 4 0 0 rfl;have p:((m.aC.length:Int)==0)=Y:=by rw[beq_iff_eq];omega
 clear c;exact zc2
theorem BI(B b:Nat)(m:MS)(c d f g:Value)(w:YW)(h:Mc B w b m c d f g)(l:YI)(t:Int)(a:m.C=l++[t])(i:1<=l.length)(q:t≠0):Calls prog 183 #[A (O ⟨b,0,X⟩),I J 12] w fun e w'=>e=Rt (I J 0)/\∃n,w'=w.drewN n:=by
 have o:=qK 12 2 (-1) rfl;have k:=qJ 12 0 0 rfl;have s:(t==0)=Z:=by simpa using q
 have j:(1:Int)<=l.length:=zo;exact zc1
theorem Iw(B b:Nat)(m:MS)(c d f g:Value)(w:YW)(h:Mc B w b m c d f g)(l:YI)(t:Int)(a:m.C=l++[t])(i:1<=l.length)(q:t=0):Calls prog 183 #[A (O ⟨b,0,X⟩),I J 12] w fun e w'=>e=Rt (I J 13)/\∃n,w'=w.drewN n:=by
 have o:=qK 12 2 (-1) rfl;have k:=qJ 12 0 0 rfl;have s:(t==0)=Y:=by simpa using q
 clear q;have j:(1:Int)<=l.length:=zo;exact zc1
theorem BK(B b:Nat)(m:MS)(c d f g:Value)(w:YW)(h:Mc B w b m c d f g)(l:YI)(t:Int)(a:m.C=l++[t])(i:1<=l.length)(q:t≠0):Calls prog 183 #[A (O ⟨b,0,X⟩),I J 13] w fun e w'=>e=Rt (I J 0)/\∃n,w'=w.drewN n:=by
 have o:=qK 13 2 (-1) rfl;have k:=qJ 13 0 0 rfl;have s:(t==0)=Z:=by simpa using q
 have j:(1:Int)<=l.length:=zo;exact zc1
theorem Iz(B b:Nat)(m:MS)(c d f g:Value)(w:YW)(h:Mc B w b m c d f g)(l:YI)(t:Int)(a:m.C=l++[t])(i:1<=l.length)(q:t=0):Calls prog 183 #[A (O ⟨b,0,X⟩),I J 13] w fun e w'=>e=Rt (I J 13)/\∃n,w'=w.drewN n:=by
 have o:=qK 13 2 (-1) rfl;have k:=qJ 13 0 0 rfl;have s:(t==0)=Y:=by simpa using q
 clear q;have j:(1:Int)<=l.length:=zo;exact zc1
theorem uo(B b:Nat)(m:MS)(c d f g:Value)(w:YW)(h:Mc B w b m c d f g)(l:YI)(t:Int)(a:m.C=l++[t])(i:1<=l.length)(p:0<=t)(u:t<m.cells.length):Calls prog 183 #[A (O ⟨b,0,X⟩),I J 29] w fun e w'=>e=Rt (I J 0)/\∃n,w'=w.drewN n:=by have o:=qK 29 2 (-2) rfl;have k:=qJ 29 0 0 rfl;have j:(1:Int)<=l.length:=zo;exact zc1
theorem sY(B b:Nat)(m:MS)(c d f g:Value)(w:YW)(h:Mc B w b m c d f g)(l:YI)(t:Int)(a:m.C=l++[t])(i:1<=l.length)(p:t<0):Calls prog 183 #[A (O ⟨b,0,X⟩),I J 29] w fun e w'=>e=Rt (I J 12)/\∃n,w'=w.drewN n:=by have o:=qK 29 2 (-2) rfl;have k:=qJ 29 0 0 rfl;have j:(1:Int)<=l.length:=zo;exact zc1
theorem sX(B b:Nat)(m:MS)(c d f g:Value)(w:YW)(h:Mc B w b m c d f g)(l:YI)(t:Int)(a:m.C=l++[t])(i:1<=l.length)(p:0<=t)(u:(m.cells.length:Int)<=t):Calls prog 183 #[A (O ⟨b,0,X⟩),I J 29] w fun e w'=>e=Rt (I J 12)/\∃n,w'=w.drewN n:=by have o:=qK 29 2 (-2) rfl;have k:=qJ 29 0 0 rfl;have j:(1:Int)<=l.length:=zo;exact zc1
theorem um(B b:Nat)(m:MS)(c d f g:Value)(w:YW)(h:Mc B w b m c d f g)(l:YI)(t:Int)(a:m.C=l++[t])(p:0<=t)(u:t<m.cells.length):Calls prog 183 #[A (O ⟨b,0,X⟩),I J 30] w fun e w'=>e=Rt (I J 0)/\∃n,w'=w.drewN n:=by have o:=qK 30 1 0 rfl;have k:=qJ 30 0 0 rfl;exact zc1
theorem sW(B b:Nat)(m:MS)(c d f g:Value)(w:YW)(h:Mc B w b m c d f g)(l:YI)(t:Int)(a:m.C=l++[t])(p:t<0):Calls prog 183 #[A (O ⟨b,0,X⟩),I J 30] w fun e w'=>e=Rt (I J 12)/\∃n,w'=w.drewN n:=by have o:=qK 30 1 0 rfl;have k:=qJ 30 0 0 rfl;exact zc1
theorem sV(B b:Nat)(m:MS)(c d f g:Value)(w:YW)(h:Mc B w b m c d f g)(l:YI)(t:Int)(a:m.C=l++[t])(p:0<=t)(u:(m.cells.length:Int)<=t):Calls prog 183 #[A (O ⟨b,0,X⟩),I J 30] w fun e w'=>e=Rt (I J 12)/\∃n,w'=w.drewN n:=by have o:=qK 30 1 0 rfl;have k:=qJ 30 0 0 rfl;exact zc1
theorem Az(B b:Nat)(m:MS)(c d f g:Value)(w:YW)(h:Mc B w b m c d f g)(l:YI)(t:Int)(a:m.C=l++[t])(Q:(m.out.size:Int)+1<=m.lo):Calls prog 183 #[A (O ⟨b,0,X⟩),I J 31] w fun e w'=>e=Rt (I J 0)/\∃n,w'=w.drewN n:=by have o:=qK 31 1 (-1) rfl;have k:=qJ 31 0 0 rfl;exact zc1
theorem FP(B b:Nat)(m:MS)(c d f g:Value)(w:YW)(h:Mc B w b m c d f g)(l:YI)(t:Int)(a:m.C=l++[t])(Q:m.lo<(m.out.size:Int)+1):Calls prog 183 #[A (O ⟨b,0,X⟩),I J 31] w fun e w'=>e=Rt (I J 14)/\∃n,w'=w.drewN n:=by have o:=qK 31 1 (-1) rfl;have k:=qJ 31 0 0 rfl;exact zc1
end Go.Proofs.YtmeiikjpaepogaaGreatDoor
