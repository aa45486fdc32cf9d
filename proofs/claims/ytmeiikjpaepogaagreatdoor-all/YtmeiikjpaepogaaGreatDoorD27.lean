/- Own. -/
import Derived.Test.YtmeiikjpaepogaaGreatDoorD26
import Derived.Deep.CutRange
import Derived.ProofKit
import Derived.OpenShut
import Derived.Deep.Slices
import Derived.Deep.DeepHandedRow
import Derived.BigQuiet
import Derived.Deep.RegionHeldLaw
import Derived.Deep.SlicePairs
import Derived.SizedLaws
open Option renaming some->O,none->X
open Bool renaming true->Y,false->Z
open Go.Value renaming int->I,slice->S,pointer->A,bool->Bl,string->Sr,tuple->Tu,agg->Ag
open Go.Obj renaming cells->C
open Go.Ending renaming returned->Rt
open Go.IntKind renaming i64->J
set_option maxRecDepth 100000
set_option maxHeartbeats 16000000
namespace Go.Proofs.YtmeiikjpaepogaaGreatDoor
open Go Go.RowKit Go.Proofs.Tryz List
def EO:ByteArray:=⟨#[58,32,102,32,100,117,112,32,105,102,32,49,32,45,32,114,101,99,117,114,115,101,32,116,104,101,110,32,59,32,51,32,102,32,46,32,49,32,50,32,43,32,46,32,51,32,48,32,100,111,32,105,32,46,32,108,111,111,112]⟩
def Bs(b:Nat):Nat->Array Value
 |0=>opC 1 0 EO Z Z Z (S X 0 0) 0 0 0 0 0 0 0
 |1=>opC 1 0 ⟨#[49,32,101,108,115,101]⟩ Z Z Z (S X 0 0) 0 0 0 0 0 0 0
 |2=>opC 3 0 ⟨#[]⟩ Z Z Z (S X 0 0) 0 0 0 0 0 0 0
 |3=>opC 4 0 ⟨#[]⟩ Z Z Z (S X 0 0) 0 0 10 10 10 100 100
 |4=>opC 1 0 EO Y Y Y (S X 0 0) 0 0 0 0 0 0 0
 |5=>opC 4 1 ⟨#[]⟩ Z Z Z (S X 0 0) 0 0 10 10 10 100 100
 |6=>opC 1 0 EO Z Z Y (S X 0 0) 0 0 0 0 0 0 0
 |7=>opC 3 2 ⟨#[]⟩ Z Z Z (S X 0 0) 0 0 0 0 0 0 0
 |_=>opC 2 0 ⟨#[]⟩ Z Z Z (S (O ⟨b,0,X⟩) 1 1) 0 0 0 0 0 0 0
theorem So(b k:Nat):AY (Bs b k):=by unfold Bs;split;all_goals exact⟨_,_,_,_,_,_,_,_,_,_,_,_,_,_,_,_,rfl,by unfold inI;omega⟩
theorem Gv:(prog.info? 63).map (fun i=>(i.zero,i.size,i.bytes))=O (O (Ag #[I J 0,I J 0,Sr ⟨#[]⟩,Bl Z,Bl Z,Bl Z,S X 0 0,I J 0,I J 0,I J 0,I J 0,I J 0,I J 0,I J 0]),14,120):=zr
theorem ET (xs:List (Array Value)) (h:∀ cs∈xs,cs.size=14):∀ (k:Nat) (cs:YV),xs[k]? = O cs→∀ i,i<14→(xs.flatMap Array.toList)[k * 14+i]? = cs[i]?:=by
 induction xs with
 |nil=>intro k cs hk;simp at hk
 |cons x xs ih=>
  intro k cs hk i hi;have hx:x.toList.length=14:=by have:=h x (mem_cons_self ..);simpa using this
  rw[flatMap_cons];cases k with
  |zero=>simp at hk;subst hk;rw[Zu zo];simp
  |succ k=>simp at hk;rw[Zw zo];have e:(k+1) * 14+i-x.toList.length=k * 14+i:=zo;rw[e];exact ih (fun cs hcs=>h cs (mem_cons_of_mem _ hcs)) k cs hk i hi
theorem AY.size{cs:YV}(h:AY cs):cs.size=14:=by obtain⟨_,_,_,_,_,_,_,_,_,_,_,_,_,_,_,_,rfl,_⟩:=h;rfl
theorem pC{w:YW}{B:Nat}{v:Value}{xs:List (Array Value)}(h:w.ownsRow B 63 14 v xs.length (xs.flatMap Array.toList))(d:∀cs∈xs,AY cs):vJ w v xs.length:=by obtain⟨e,cap,b⟩:=zu h;subst b;refine⟨e,cap,rfl,fun k l=>?_⟩;obtain⟨g,c,b,_,f⟩:=h.form zo;simp only[Zk,true_and]at b;obtain⟨rfl,rfl⟩:=b;obtain⟨cs,a⟩:∃cs,xs[k]? = O cs:=⟨_,Za l⟩;refine⟨g,0,cs,rfl,f,d cs (Zd a),fun i j=>?_⟩;have:=zD h (k*14+i) zo;rw[ET xs (fun cs a=>(d cs a).size) k cs a i j]at this;rw[Nat.zero_add];exact this
end Go.Proofs.YtmeiikjpaepogaaGreatDoor
namespace Go.Proofs.YtmeiikjpaepogaaGreatDoor
open Go Go.RowKit Go.ChangeShapes Go.WideShapes Go.ChangeAt Go.Deep Go.Proofs.Tryz List
theorem gV:prog.cellsOf 63=14:=zr
theorem Pf:prog.bytesOf 63=120:=zr
theorem cY:prog.cellsOf 3=1:=zr
theorem Gs:prog.cellsOf 9=1:=zr
theorem RH:prog.cellsOf 4=1:=zr
theorem Ph:prog.cellsOf 32=3:=zr
theorem sd:prog.cellsOf 33=1:=zr
theorem Pj:prog.cellsOf 39=4:=zr
section
variable {H:Type} {enc:TypeId×Value->H} {w:YW} {base:Nat} {spare:Nat->Bool} {held:Bool}
theorem TM{cs:List Value}(h:cs.length=14):∃a b c d e f g i j k l m n o,cs=[a,b,c,d,e,f,g,i,j,k,l,m,n,o]:=by
 match cs,h with
 |[a,b,c,d,e,f,g,i,j,k,l,m,n,o],_=>exact⟨a,b,c,d,e,f,g,i,j,k,l,m,n,o,rfl⟩
theorem DR{P:Program}{t:TypeId}{a b c:Field}{fuel:Nat}{cs:List Value}{x:DataW H×List MemPlace}(k:P.underlying t=O (.struct #[a,b,c]))(h:DataW.trod enc P w base spare held fuel t cs=O x):∃f g i n,cs.length=P.cellsOf t/\DataW.trod enc P w base spare held n a.type ((cs.drop a.offset).take (P.cellsOf a.type))=O f/\DataW.trod enc P w base spare held n b.type ((cs.drop b.offset).take (P.cellsOf b.type))=O g/\DataW.trod enc P w base spare held n c.type ((cs.drop c.offset).take (P.cellsOf c.type))=O i:=by
 obtain⟨xs,n,_,rfl,j,d,e⟩:=DataW.trod_struct k h;match xs,d with
 |[f,g,i],_=>exact⟨f,g,i,n,j,by simpa using e 0 a rfl,by simpa using e 1 b rfl,by simpa using e 2 c rfl⟩
theorem DS{P:Program}{t:TypeId}{a b c d:Field}{fuel:Nat}{cs:List Value}{x:DataW H×List MemPlace}(m:P.underlying t=O (.struct #[a,b,c,d]))(h:DataW.trod enc P w base spare held fuel t cs=O x):∃g i j k n,cs.length=P.cellsOf t/\DataW.trod enc P w base spare held n a.type ((cs.drop a.offset).take (P.cellsOf a.type))=O g/\DataW.trod enc P w base spare held n b.type ((cs.drop b.offset).take (P.cellsOf b.type))=O i/\DataW.trod enc P w base spare held n c.type ((cs.drop c.offset).take (P.cellsOf c.type))=O j/\DataW.trod enc P w base spare held n d.type ((cs.drop d.offset).take (P.cellsOf d.type))=O k:=by
 obtain⟨xs,n,_,rfl,l,e,f⟩:=DataW.trod_struct m h;match xs,e with
 |[g,i,j,k],_=>exact⟨g,i,j,k,n,l,by simpa using f 0 a rfl,by simpa using f 1 b rfl,by simpa using f 2 c rfl,by simpa using f 3 d rfl⟩
theorem DT{P:Program}{t:TypeId}{b c d e f g i j f8:Field}{fuel:Nat}{cs:List Value}{x:DataW H×List MemPlace}(z:P.underlying t=O (.struct #[b,c,d,e,f,g,i,j,f8]))(h:DataW.trod enc P w base spare held fuel t cs=O x):∃l m o p q r s u v n,cs.length=P.cellsOf t/\DataW.trod enc P w base spare held n b.type ((cs.drop b.offset).take (P.cellsOf b.type))=O l/\DataW.trod enc P w base spare held n c.type ((cs.drop c.offset).take (P.cellsOf c.type))=O m/\DataW.trod enc P w base spare held n d.type ((cs.drop d.offset).take (P.cellsOf d.type))=O o/\DataW.trod enc P w base spare held n e.type ((cs.drop e.offset).take (P.cellsOf e.type))=O p/\DataW.trod enc P w base spare held n f.type ((cs.drop f.offset).take (P.cellsOf f.type))=O q/\DataW.trod enc P w base spare held n g.type ((cs.drop g.offset).take (P.cellsOf g.type))=O r/\DataW.trod enc P w base spare held n i.type ((cs.drop i.offset).take (P.cellsOf i.type))=O s/\DataW.trod enc P w base spare held n j.type ((cs.drop j.offset).take (P.cellsOf j.type))=O u/\DataW.trod enc P w base spare held n f8.type ((cs.drop f8.offset).take (P.cellsOf f8.type))=O v:=by
 obtain⟨xs,n,_,rfl,y,k,a⟩:=DataW.trod_struct z h;match xs,k with
 |[l,m,o,p,q,r,s,u,v],_=>exact⟨l,m,o,p,q,r,s,u,v,n,y,by simpa using a 0 b rfl,by simpa using a 1 c rfl,by simpa using a 2 d rfl,by simpa using a 3 e rfl,by simpa using a 4 f rfl,by simpa using a 5 g rfl,by simpa using a 6 i rfl,by simpa using a 7 j rfl,by simpa using a 8 f8 rfl⟩
theorem SN{fuel:Nat}{cs:List Value}{x:DataW H×List MemPlace}(h:DataW.trod enc prog w base spare held fuel 63 cs=O x):∃q n s b0 b1 b2 p m c en ce r t u v fu,cs=(opC q n s b0 b1 b2 (S p m c) en ce r t u v fu).toList/\inI n:=by
 obtain⟨y0,y1,y2,y3,y4,y5,y6,y7,y8,n,W,z,B,D,E,F,G,K,L,f8⟩:=DT underlying63 h;rw[gV]at W;obtain⟨a,b,c,d,e,f,g,i,j,k,l,m,n',o,rfl⟩:=TM W;simp only[cY,drop_zero,take_succ_cons,take_zero]at z;simp only[cY,drop_succ_cons,drop_zero,take_succ_cons,take_zero]at B;simp only[Gs,drop_succ_cons,drop_zero,take_succ_cons,take_zero]at D;simp only[Ph,drop_succ_cons,drop_zero,take_succ_cons,take_zero]at E;simp only[sd,drop_succ_cons,drop_zero,take_succ_cons,take_zero]at F;simp only[cY,drop_succ_cons,drop_zero,take_succ_cons,take_zero]at G;simp only[cY,drop_succ_cons,drop_zero,take_succ_cons,take_zero]at K;simp only[Pj,drop_succ_cons,drop_zero,take_succ_cons,take_zero]at L;simp only[cY,drop_succ_cons,drop_zero,take_succ_cons,take_zero]at f8;obtain⟨v0,M,_,_⟩:=DataW.trod_int underlying3 z;obtain⟨v1,N,_,w1⟩:=DataW.trod_int underlying3 B;obtain⟨v2,P,_,_⟩:=DataW.trod_string underlying9 D;obtain⟨z0,z1,z2,n3,_,r0,r1,r2⟩:=DR underlying32 E;simp only[RH,drop_succ_cons,drop_zero,take_succ_cons,take_zero]at r0 r1 r2;obtain⟨u0,s0,_⟩:=DataW.trod_bool underlying4 r0;obtain⟨u1,s1,_⟩:=DataW.trod_bool underlying4 r1;obtain⟨u2,s2,_⟩:=DataW.trod_bool underlying4 r2;obtain⟨v5,Q,_,_⟩:=DataW.trod_int underlying3 G;obtain⟨v6,R,_,_⟩:=DataW.trod_int underlying3 K;obtain⟨v8,T,_,_⟩:=DataW.trod_int underlying3 f8;obtain⟨t0,t1,t2,t3,n7,_,k0,k1,k2,k3⟩:=DS underlying39 L;simp only[cY,drop_succ_cons,drop_zero,take_succ_cons,take_zero]at k0 k1 k2 k3;obtain⟨r,m1,_,_⟩:=DataW.trod_int underlying3 k0;obtain⟨t,m2,_,_⟩:=DataW.trod_int underlying3 k1;obtain⟨u,m3,_,_⟩:=DataW.trod_int underlying3 k2;obtain⟨v,m4,_,_⟩:=DataW.trod_int underlying3 k3;obtain⟨p,om,y,hg⟩:∃p om y,g=S p om y:=by rcases open_slice underlying33 F with⟨e,_⟩|⟨a',len,cap,_,_,_,_,e,_⟩;exact⟨_,_,_,by simpa using e⟩;exact⟨_,_,_,by simpa using e⟩
 simp only[List.cons.injEq,and_true]at M N P s0 s1 s2 Q R T m1 m2 m3 m4;subst M N P s0 s1 s2 Q R T m1 m2 m3 m4 hg;refine⟨v0,v1,v2,u0,u1,u2,p,om,y,v5,v6,r,t,u,v,v8,rfl,?_⟩;have:=w1;simp[Lit.wf,IntKind.min,IntKind.max,IntKind.bits,IntKind.signed]at this;unfold inI;omega
theorem tv{v:Value}{d:DataW H}{p:List MemPlace}(hv:∃a l c,v=S a l c)(h:DataW.Trod enc prog w 0 (fun _=>Y) Y 22 v d p)(u:(d.weights prog 22).all (·<=reachBytes)=Y):∃n,vJ w v n/\n<=1500000000000:=by
 obtain⟨fuel,h⟩:=h;obtain⟨a0,l0,c0,rfl⟩:=hv;rcases open_slice underlying22 h with⟨e,_⟩|⟨a,len,cap,m,n,D,Pl,e,hb,hl,hm,r,E,g⟩;simp only[Value.cells,List.cons.injEq,Zk,and_true]at e;obtain⟨rfl,rfl,rfl⟩:=e;exact⟨0,⟨X,0,rfl,fun k z=>absurd z (Nat.not_lt_zero _)⟩,zo⟩;simp only[Value.cells,List.cons.injEq,Zk,and_true]at e;obtain⟨rfl,rfl,rfl⟩:=e;simp only[if_true]at r;subst r;simp only[Prod.mk.injEq]at E;obtain⟨rfl,rfl⟩:=E;refine⟨_,⟨O a,_,rfl,?_⟩,?_⟩;intro k z;obtain⟨M,y,T⟩:=g k zo;rw[gV]at y;obtain⟨_,B,j⟩:=World.cells?_some y;obtain⟨t,n',s,G,K,L,F,om,oc,en,ce,l1,l2,l3,l4,R,rfl,x⟩:=SN T;have b:a.spot=X/\a.block<w.heap.size:=by
  obtain⟨N,q,_⟩:=g 0 zo;rw[gV]at q;obtain⟨_,d0,f⟩:=World.cells?_some q;have o:=f 0 zd;have P:(a.add (0*14)).add 0=a:=by rw[Deep.add_add,Nat.zero_mul];rfl
  rw[P,Za zo]at o;unfold World.cell? at o;split at o;rename_i W;refine⟨?_,lt_of_block W⟩;split at o;cases o;rename_i hn;simpa using hn;cases o
 refine⟨a.block,a.off,_,?_,b.2,⟨t,n',s,G,K,L,F,om,oc,en,ce,l1,l2,l3,l4,R,rfl,x⟩,?_⟩;have:=b.1;cases a;simp only at this;subst this;rfl;intro i hi;have:=j i hi;rw[Array.getElem?_toList]at this;rw[<-this,Deep.add_add];have Q:a.add (k*14+i)=⟨a.block,a.off+k*14+i,X⟩:=by unfold Addr.add;split;rename_i e0;have:=b.1;cases a;simp only at this;subst this;simp only[Addr.mk.injEq,and_true,true_and];omega;simp only[Addr.mk.injEq,and_true,true_and];omega
 rw[Q];unfold DataW.weights at u;rw[underlying22]at u;simp only[all_cons,Bool.and_eq_true,decide_eq_true_eq,length_map,length_range,Pf]at u;have:=u.1;unfold reachBytes at this;omega
end
end Go.Proofs.YtmeiikjpaepogaaGreatDoor
namespace Go.Proofs.YtmeiikjpaepogaaGreatDoor
open Go Go.RowKit Go.Proofs.Tryz List
theorem PJ(a:YA)(n k:Nat)(en ce:Int)(w:YW):Calls prog 35 #[Ag #[S a n k,I J en,I J ce],Ag #[Bl Z,Bl Z,Bl Z]] w fun e w'=>e=Rt (Ag #[S a n k,I J en,I J ce])/\Below w.heap.size w w':=by have h:Blk (((w.alloc (C #[S a n k,I J en,I J ce] 73)).alloc (C #[Bl Z,Bl Z,Bl Z] 32)).alloc (C #[S X 0 0,I J 0,I J 0] 73)) (w.heap.size+1+1) #[S X 0 0,I J 0,I J 0] 73:=zk;have i:Below w.heap.size w (((w.alloc (C #[S a n k,I J en,I J ce] 73)).alloc (C #[Bl Z,Bl Z,Bl Z] 32)).alloc (C #[S X 0 0,I J 0,I J 0] 73)):=zb;have g:Blk (((w.alloc (C #[S a n k,I J en,I J ce] 73)).alloc (C #[Bl Z,Bl Z,Bl Z] 32)).alloc (C #[S X 0 0,I J 0,I J 0] 73)) w.heap.size #[S a n k,I J en,I J ce] 73:=zk;have f:Blk (((w.alloc (C #[S a n k,I J en,I J ce] 73)).alloc (C #[Bl Z,Bl Z,Bl Z] 32)).alloc (C #[S X 0 0,I J 0,I J 0] 73)) (w.heap.size+1) #[Bl Z,Bl Z,Bl Z] 32:=zk;have b:=V h;have j:=V i;have d:=V g;have c:=V f;clear h i g f;go_enter func35,ntmps35;go_upto_region 1 with fail;generalize (((w.alloc (C #[S a n k,I J en,I J ce] 73)).alloc (C #[Bl Z,Bl Z,Bl Z] 32)).alloc (C #[S X 0 0,I J 0,I J 0] 73))=W at *;have l:=b.u;have m:=b.H;have o:=b.lt;have p:=d.u;have q:=d.lt;have r:=c.u;have s:=c.lt;go_wp2;refine bodyPost_ret (qD (P:=prog) rfl _ _ (w.heap.size+1+1) 73 _ (0,0) _ rfl (xE b rfl) underlying73 rfl yT) rfl ?_;exact⟨rfl,((j.setCell zp _).setCell zp _).setCell zp _⟩
theorem pS(s:YB)(i j k:Bool)(w:YW)(er l:Int)(m:er≠0)(a:∀W,Below w.heap.size w W->Calls prog 34 #[Sr s] W fun e w'=>e=Rt (Tu #[Ag #[S X 0 0,I J 0,I J 0],I J er,I J l])/\Below W.heap.size W w'):Calls prog 18 #[Sr s,Ag #[Bl i,Bl j,Bl k]] w fun e w'=>e=Rt (Tu #[A X,I J er,I J l])/\Below w.heap.size w w':=by
 have b:Below w.heap.size w (w.alloc (C #[Bl i,Bl j,Bl k] 32)):=zb;have h:=V (a _ b);have c:=V b;have n:(er==0)=Z:=by simpa using m
 clear a b;go_enter func18,ntmps18;go_wp2_with fail;refine h.m ?_;rintro e o ⟨rfl,f⟩;have g:=c.trans (yf f c.size);have d:=V g;clear f g h;go_wp2_with fail;go_ret3;exact⟨rfl,d.alloc d.size _⟩
theorem Dx(s:YB)(w:YW)(hs:s.size<=2000)(M:jt w)(L:qR w)(K:(zH s).err=0):Calls prog 18 #[Sr s,Ag #[Bl Z,Bl Z,Bl Z]] w fun e w'=>∃c,e=Rt (Tu #[A (O ⟨c,0,X⟩),I J 0,I J 0])/\wh w' c (yh (zH s)) (zH s).c0.length (zH s).cells/\Below w.heap.size w w':=by have f:Below w.heap.size w (w.alloc (C #[Bl Z,Bl Z,Bl Z] 32)):=zb;have G:=V (tQ s _ hs (M.z f) (L.z f));have m:=V f;have H:=V (Blk.new w #[Bl Z,Bl Z,Bl Z] 32);have R:=V K;clear f M L K;go_enter func18,ntmps18;go_wp2_with fail;refine G.m ?_;rintro e z ⟨k,i⟩;rcases k with⟨F,_⟩|⟨_,v,rfl,b⟩;exact absurd (U R) F;have r:=m.trans (yf i m.size);have h:=H.z i H.lt;have a0:=h.u;have d0:=h.lt;have x:0<(yh (zH s)).length:=tV;obtain⟨g,cap,hv,_,b0⟩:=b.form x;subst hv;have q:=V b;have o:=V r;clear i r G b h;generalize P:yh (zH s)=l at *;generalize Q:(zH s).c0.length=n at *;generalize N:(zH s).cells=ce at *;have T:=V P;have HN:=V Q;have D:=V N;clear P Q N;have HW:=V (fun W=>PJ (O ⟨g,0,X⟩) l.length cap n ce W);go_wp2_with fail;refine(U HW _).m ?_;rintro e B ⟨rfl,t⟩;have d:=zV q (Zq _);have j:Below z.heap.size z (z.alloc (C #[S (O ⟨g,0,X⟩) l.length cap,I J n,I J ce] 73)):=(Ze _ _).alloc (Zc _) _;have a:Below z.heap.size z B:=j.trans (t.m j.size);have y:B.ownsRow 0 65 2 (S (O ⟨g,0,X⟩) l.length cap) l.length (zc l):=(zz.aB a).row d;have u:Below w.heap.size w B:=o.trans (a.m o.size);have E:=V y;have p:=V u;clear t d j a y u;go_wp2_with fail;go_ret3;rw[U T,U HN,U D];refine⟨_,rfl,⟨g,cap,Blk.new B _ _,zE E _⟩,p.alloc p.size _⟩
theorem Em(s:YB)(w:YW)(i:jt w)(g:qR w)(er c:Int)(h:2000<s.size/\er=1/\c=0\/s.size<=2000/\(zH s).err=er/\(zH s).place=c/\er≠0):Calls prog 34 #[Sr s] w fun e w'=>e=Rt (Tu #[Ag #[S X 0 0,I J 0,I J 0],I J er,I J c])/\Below w.heap.size w w':=by rcases h with⟨b,rfl,rfl⟩|⟨b,rfl,rfl,d⟩;exact Mt s w b;refine(tQ s w b i g).m ?_;rintro e w' ⟨a,j⟩;rcases a with⟨_,rfl⟩|⟨f,_⟩;exact⟨rfl,j⟩;exact absurd f d
def jk(w:YW):Prop:=jt w∧qR w∧Lib.TabIs prog w "internal/strconv.uint64pow10" .u64 Lib.pow10Tab
theorem jk.z{w w':YW}(h:jk w)(a:Below w.heap.size w w'):jk w':=⟨h.1.z a,h.2.1.z a,Lib.tabBelow_of_tabIs h.2.2 w' a⟩
def wV:Prg where
  Env:=jk
  CodeIs:=wh
  env:=fun h hb=>h.z hb
  law:=fun h hl=>h.law hl
  list:=fun w c l en ce _ h hok hen=>Nw w c l en ce h zo (by have:=hok.R;omega)
  run:=fun w c l en ce l1 l2 l3 l4 fuel henv h hok hen hce hfu=>by
    refine(FY w c 0 l en ce l1 l2 l3 l4 fuel h henv.2.2 hok hen hce zo).m ?_
    rintro e w' ⟨er,vS,vC,out,st,rfl,hres⟩
    have hnil:∀b:Nat,xe w' b (S X 0 0) (S X 0 0) [] []:=fun b=>⟨Zm _ _ _ _,Zm _ _ _ _,zs⟩
    by_cases he:er=0
    · by_cases hl:xG l1 l2 l3 l4
      · obtain⟨o1,o2,o3,o4,o5⟩:=hres.ok hl he
        exact⟨_,_,_,_,_,_,_,rfl,⟨o1,o2,zo⟩,⟨o3,o4,o5⟩,hres.z⟩
      · have:=(hres.no hl).1
        omega
    · obtain⟨rfl,rfl⟩:=hres.bad he
      exact⟨_,_,_,_,_,[],[],rfl,hnil _,⟨zs,zs,fun j hj=>by simp[Value.ownBlock]at hj⟩,hres.z⟩
  no:=fun w s er pl henv h=>by
    refine pS s Z Z Z w er pl (by rcases h with h|h;rw[h.2.1];decide;exact h.2.2.2) (fun W hW=>Em s W (henv.1.z hW) (henv.2.1.z hW) er pl h)
  yes:=fun w s henv hs h0=>Dx s w hs henv.1 henv.2.1 h0
structure BlR(B M:Nat)(w:YW)(lg lc n:Nat)(rs:List LBl)(f:Nat)(a:YA)(c:Nat)(row:YL):Prop where
 own:w.ownsRow B 161 2 (S (O ⟨lg,0,X⟩) (n+1) lc) (n+1) (qw (rs++[(f,a,c,row)]))
 rows:∀r∈rs,jn lg M w r
 last:yD M w (S a row.length c) row
 low:lg<M
 size:M<=w.heap.size
 num:n=rs.length
def de(B:Nat)(w:YW)(lv:Value)(bs:List Blo):Prop:=(bs=[]/\lv=S X 0 0)\/∃M lg lc n rs f a c row,lv=S (O ⟨lg,0,X⟩) (n+1) lc/\BlR B M w lg lc n rs f a c row/\rs.map LBl.blo++[(f,row)]=bs
theorem de.ofR{B M:Nat}{w:YW}{b lc n:Nat}{d:List LBl}{f:Nat}{a:YA}{c:Nat}{row:YL}{e:List Blo}(h:BlR B M w b lc n d f a c row)(g:d.map LBl.blo++[(f,row)]=e):de B w (S (O ⟨b,0,X⟩) (n+1) lc) e:=Zf ⟨M,b,lc,n,d,f,a,c,row,rfl,h,g⟩
theorem de.row{B:Nat}{w:YW}{d:Value}{b:List Blo}(h:de B w d b):∃a n c cells,d=S a n c/\n=b.length/\w.ownsRow B 161 2 (S a n c) n cells:=by rcases h with⟨rfl,rfl⟩|⟨M,e,lc,n,g,f,a,c,row,rfl,h,rfl⟩;exact⟨X,0,0,[],rfl,rfl,Zm _ _ _ _⟩;exact⟨_,_,_,_,rfl,by rw[Zi,length_map,<-h.num];rfl,h.own⟩
theorem BlR.next{B M:Nat}{W x q:YW}{i lc n:Nat}{l:List LBl}{f:Nat}{a:YA}{c:Nat}{row:YL}(h:BlR B M W i lc n l f a c row)(m p:Int){o:Obj}(F:Below B x W)(E:B<=M){d b:Nat}(G:(W.alloc o).drew.grownBy q (Value.slice a row.length c).ownBlock)(K:q.ownsRow M 65 2 (S (O ⟨d,0,X⟩) (row.length+1) b) (row.length+1) (zc row++[I J m,I J p])):BlR B M (q.setCell ⟨i,n*2+1,X⟩ (S (O ⟨d,0,X⟩) (row.length+1) b)) i lc n l f (O ⟨d,0,X⟩) b (row++[(m,p)])/\Below B x (q.setCell ⟨i,n*2+1,X⟩ (S (O ⟨d,0,X⟩) (row.length+1) b)):=by
 have N:=h.size;have z:=h.low;have y:Below M W (W.alloc o).drew:=yr ((zB W o).m h.size);have w:M<=(W.alloc o).drew.heap.size:=Nat.le_trans h.size y.size;have s:Below M W q:=y.grown G w (fun j H=>(zC h.last H).2)
 have g:q.ownsRow B 161 2 (S (O ⟨i,0,X⟩) (n+1) lc) (n+1) (qw (l++[(f,a,c,row)])):=yR h.own (fun k e _=>s.block k (by
   have:k=i:=(Zl e).symm
   omega))
 have u:=(zC h.own (k:=i) rfl).2;refine⟨⟨?_,fun r L=>((h.rows r L).z s).set _ _,?_,h.low,?_,h.num⟩,?_⟩;have v:(l++[(f,a,c,row)])[n]? = O (f,a,c,row):=by rw[h.num];simp
 have:=qI g (n*2+1) (S (O ⟨d,0,X⟩) (row.length+1) b);have e:=Jk (l++[(f,a,c,row)]) n _ v (O ⟨d,0,X⟩) b (row++[(m,p)]);have t:(row++[(m,p)]).length=row.length+1:=zs;rw[t]at e;rw[e]at this;have D:(l++[(f,a,c,row)]).set n (f,O ⟨d,0,X⟩,b,row++[(m,p)])=l++[(f,O ⟨d,0,X⟩,b,row++[(m,p)])]:=by rw[h.num];simp
 simp only at this;rw[D]at this;exact this;unfold yD;have t:(row++[(m,p)]).length=row.length+1:=zs;rw[t,eD];exact ownsRow_setCell_below K (by simpa using h.low) _;have:=s.size;simp[World.setCell];omega;exact(F.trans (s.m E)).setCell u _
theorem de.begin{B:Nat}{W z g:YW}{y:Value}{D:List Blo}(h:de B W y D){o:Obj}(hb:Below B z W)(T:B<=W.heap.size){n:Nat}{cells:List Value}(x:n=D.length)(b:W.ownsRow B 161 2 y n cells)(k:Nat){s i:Nat}(H:(W.alloc o).grownBy g y.ownBlock)(ho:g.ownsRow B 161 2 (S (O ⟨s,0,X⟩) (n+1) i) (n+1) (cells++[I J k,S X 0 0]))(G:y.ownBlock=O s\/s=(W.alloc o).heap.size)(u:s<g.heap.size):∃t,BlR B g.heap.size g s i n t k X 0 []/\t.map LBl.blo=D/\Below B z g:=by
 have l:Below B z g:=(hb.trans ((zB W o).m T)).grown H (Nat.le_trans T (zB W o).size) (fun j hj=>(zC b hj).2);have p:yD g.heap.size g (S X ([]:YL).length 0) []:=Zm _ _ _ _;rcases h with⟨rfl,rfl⟩|⟨M,lg,lc,m,t,f,a,c,row,rfl,h,rfl⟩;refine⟨[],⟨?_,zs,p,u,Zc _,by simpa using x⟩,rfl,l⟩;have e:cells=[]:=by have:=b.1;simp at x;subst x;exact length_eq_zero_iff.1 zo
 subst e;exact ho;have K:n=m+1:=by rw[x,Zi,length_map,<-h.num];rfl
 subst K;have e:cells=qw (t++[(f,a,c,row)]):=by rcases b.2 with⟨v,_⟩|⟨g1,N,Q,v,_,d,_,_,_,t1⟩;simp at v;rcases h.own.2 with⟨w,_⟩|⟨g2,P,R,w,_,E,_,_,_,t2⟩;simp at w;simp only[Zk,Zs,Addr.mk.injEq,and_true,true_and]at v w;obtain⟨rfl,rfl⟩:=v;obtain⟨rfl,rfl⟩:=w;rw[d]at E;simp only[Zs,Obj.cells.injEq,and_true]at E;rw[<-t1,<-t2,E]
 subst e;have q:=zB W o;have F:∀r∈t++[(f,a,c,row)],jn lg W.heap.size W r:=by intro r L;rcases Zo.1 L with d|d;exact(h.rows r d).up h.size;simp at d;subst d;exact jn.ofOwn h.last h.low
 refine⟨t++[(f,a,c,row)],⟨?_,fun r L=>?_,p,u,Zc _,by rw[Zi,<-h.num];rfl⟩,by rw[map_append];rfl,l⟩;rw[Eg];exact ho;refine(jn.grown (lg':=s) (((F r L).z q)) q.size H ?_).up (Nat.le_trans q.size H.size);rcases G with d|d;exact Zg (Zl d).symm;exact Zf zo
theorem de.done{B:Nat}{w:YW}{k:Value}{g:List Blo}(h:de B w k g)(i:g≠[]):∃e lc b,k=S (O ⟨e,0,X⟩) b.length lc/\jh B w e lc b/\b.map LBl.blo=g:=by
 rcases h with⟨rfl,_⟩|⟨M,e,lc,n,b,f,a,c,row,rfl,h,rfl⟩;exact absurd rfl i;have j:(b++[(f,a,c,row)]).length=n+1:=by rw[Zi,<-h.num];rfl
 refine⟨e,lc,b++[(f,a,c,row)],by rw[j],⟨by rw[j];exact h.own,fun r l=>?_⟩,by rw[map_append];rfl⟩;rcases Zo.1 l with d|d;exact(h.rows r d).up h.size;simp at d;subst d;exact jn.ofOwn h.last h.low
def xP(B:Nat)(w:YW)(g:Nat)(b:YI):Prop:=w.ownsRow B 3 1 (S (O ⟨g,0,X⟩) b.length b.length) b.length (zn b)
theorem mu(n:Nat)(g:n<=17592186044416)(w:YW):(Instr.makeSlice 115 (I J (n:Int)) (I J (n:Int))).run prog w=.ok (S (O ⟨w.heap.size,0,X⟩) n n) (w.alloc (C (madeCells #[I J 0] (n*1)) 3)):=by obtain⟨f,d,a,b,c⟩:=info_parts eQ;have e:=run_make (P:=prog) w 115 3 f _ underlying115 d a .i64 .i64 n n zo (Int.le_refl _) (by rw[c];omega) zo;simp only[Zr,b]at e;exact e
theorem mg(w:YW)(n:Nat)(a:n<=17592186044416):xP w.heap.size (w.alloc (C (madeCells #[I J 0] (n*1)) 3)) w.heap.size (replicate n 0):=by
 have e:madeCells #[I J 0] (n*1)=(zn (replicate n 0)).toArray:=by apply Array.ext';rw[Nat.mul_one,toList_madeCells_one];simp[zn]
 rw[e];refine⟨by simp[zn],Zf ⟨w.heap.size,n,_,zs,Zc _,Blk.new w _ _,zs,zm,by simp[zn],by simp[zn]⟩⟩
theorem xP.set{B:Nat}{w:YW}{g:Nat}{b:YI}(h:xP B w g b)(j:Nat)(v:Int):xP B (w.setCell ⟨g,j,X⟩ (I J v)) g (b.set j v):=by
 unfold xP at h ⊢;rw[length_set];have:=qI h j (I J v);have e:zn (b.set j v)=(zn b).set j (I J v):=by unfold zn;rw[map_set]
 rw[e];exact this
theorem xP.u{B:Nat}{w:YW}{g:Nat}{b:YI}(h:xP B w g b){j:Nat}{v:Int}(a:b[j]? = O v):w.cell? ⟨g,j,X⟩=O (I J v):=by unfold xP at h;have c:=(Zb.1 a).1;rw[zD h j zo];unfold zn;rw[Zn,a];rfl
theorem xP.H{B:Nat}{w:YW}{g:Nat}{b:YI}(h:xP B w g b)(j:Nat):w.frozen? ⟨g,j,X⟩=Z:=yB h j
theorem xP.lt{B:Nat}{w:YW}{g:Nat}{b:YI}(h:xP B w g b):g<w.heap.size/\B<=g:=zC h (k:=g) rfl
theorem xP.z{B:Nat}{w w':YW}{g:Nat}{b:YI}(h:xP B w g b)(a:Below w.heap.size w w'):xP B w' g b:=(zz.aB a).row h
theorem xP.ints{B:Nat}{w:YW}{g:Nat}{b:YI}(h:xP B w g b):pG w g b:=⟨h.lt.1,fun _ _ a=>h.u a⟩
theorem Ot(n:Nat)(g:n<=17592186044416)(w:YW):(Instr.makeSlice 33 (I J 0) (I J (n:Int))).run prog w=.ok (S (O ⟨w.heap.size,0,X⟩) 0 n) (w.alloc (C (madeCells #[I J 0,I J 0] (n*2)) 65)):=by obtain⟨f,d,a,b,c⟩:=info_parts yJ;have e:=run_make (P:=prog) w 33 65 f _ underlying33 d a .i64 .i64 0 n zo zo (by rw[c];omega) zo;simp only[Zr,b]at e;exact e
theorem NC(w:YW)(n:Nat)(a:n<=17592186044416):yD w.heap.size (w.alloc (C (madeCells #[I J 0,I J 0] (n*2)) 65)) (S (O ⟨w.heap.size,0,X⟩) 0 n) []:=by refine⟨by simp[zc],Zf ⟨w.heap.size,n,_,zs,Zc _,Blk.new w _ _,Zq _,zm,?_,by simp[zc]⟩⟩;rw[DX];simp[yL]
theorem iq(B:Nat)(W:YA)(c n en:Nat)(ce:Int)(lg lc:Nat)(j:List LBl)(d:List Blo)(w:YW)(hb:jh B w lg lc j)(l0:j.map LBl.blo=d)(c0:∀b∈d,b.1<n)(hj:∀b∈d,∀x∈b.2,zT x.1=Y->0<=x.2/\x.2<n)(x1:en<n)(hn:n<=100000)(hs:(d.flatMap (·.2)).length<=100000)(hl:j.length<=100000):Calls prog 87 #[Ag #[S W n c,I J en,I J ce],S (O ⟨lg,0,X⟩) j.length lc] w fun e w'=>∃a c',e=Rt (Ag #[S a (yw n en d).1.length c',I J (yw n en d).2,I J ce])/\yD w.heap.size w' (S a (yw n en d).1.length c') (yw n en d).1/\Below w.heap.size w w':=by
 have C1:(j.length:Int)<=100000:=zo;have H1:(n:Int)<=100000:=zo;have n1:(en:Int)<n:=zo;have b0:j.length=d.length:=by rw[<-l0,length_map]
 have G0:=mu n zo;have M0:=yG w (C #[S W n c,I J en,I J ce] 73) (C #[S X 0 0,I J 0,I J 0] 73);have hP:Blk ((w.alloc (C #[S W n c,I J en,I J ce] 73)).alloc (C #[S X 0 0,I J 0,I J 0] 73)) w.heap.size #[S W n c,I J en,I J ce] 73:=(Blk.new w _ _).alloc _;have hR:=vD w (C #[S W n c,I J en,I J ce] 73) #[S X 0 0,I J 0,I J 0] 73;have D:((w.alloc (C #[S W n c,I J en,I J ce] 73)).alloc (C #[S X 0 0,I J 0,I J 0] 73)).heap.size=w.heap.size+2:=zs;have h0:=V (mg ((w.alloc (C #[S W n c,I J en,I J ce] 73)).alloc (C #[S X 0 0,I J 0,I J 0] 73)) n zo);have f1:=V M0;have HP:=V hP;have HR:=V hR;have HB:=V hb;have t0:=V c0;have HJ:=V hj;have r0:=V l0;have R:=V b0;simp only[Nat.mul_one]at G0 h0;clear M0 hP hR hb c0 hj l0 b0;have w0:=V D;clear D;go_enter func87,ntmps87;go_wp2_with fail;generalize (w.alloc (C #[S W n c,I J en,I J ce] 73)).alloc (C #[S X 0 0,I J 0,I J 0] 73)=W1 at *;have D:W1.heap.size=w.heap.size+1+1:=U w0;have o0:=U h0;rw[D]at o0;have X0:Hid (xP (w.heap.size+1+1) (W1.alloc (C (madeCells #[I J 0] n) 3)) (w.heap.size+1+1) (replicate n 0)):=o0;have P0:Hid (Below (w.heap.size+1+1) W1 (W1.alloc (C (madeCells #[I J 0] n) 3))):=(zB W1 _).m zo;clear o0 h0 G0;go_loopw [6,18] (fun sv i wr=>∃k:Nat,i=I J k/\k<=j.length/\sv=I J (((d.take k).flatMap (·.2)).length:Nat)/\xP (w.heap.size+1+1) wr (w.heap.size+1+1) (yO d n k).1/\Below (w.heap.size+1+1) W1 wr) (fun _ i _=>j.length-(intOf i).toNat);case atStart=>exact⟨0,rfl,Zq _,rfl,U X0,U P0⟩
 case round=>
  obtain⟨k,rfl,hk,rfl,u,f⟩:=hrel;have HO:=V u;have g0:=V f;have g:Below w.heap.size w wr:=f1.trans (f.m zo);have l:=HB.z g;by_cases n0:k<j.length
  ·obtain⟨r,hr⟩:∃r,j[k]? = O r:=⟨_,Za n0⟩;have s:d[k]? = O r.blo:=by rw[<-U r0,Zn,hr];rfl
   obtain⟨e1,e2,_,_⟩:=l.cells hr;have C0:=l.lt.1;have E0:(k:Int)<j.length:=zo;have K1:r.1<n:=U t0 _ (Zd s);have p1:(r.1:Int)<n:=zo;have F:=V (Ij (n:=n) s);have Z0:=V (ot d n k).2;have Q:=(ot d n k).1;obtain⟨v,hv⟩:∃v,(yO d n k).1[r.1]? = O v:=⟨_,Za zo⟩;have o:=zB wr (C #[I J r.1,S r.2.1 r.2.2.2.length r.2.2.1] 161);have p:=u.z o;have w1:=p.u hv;have B1:=p.H;have G1:=p.lt.1;have U0:=V p;have N:Hid (Below (w.heap.size+1+1) W1 (wr.alloc (C #[I J r.1,S r.2.1 r.2.2.2.length r.2.2.1] 161))):=f.trans (o.m (by have:=u.lt.1;omega));have e3:((d.take (k+1)).flatMap (·.2)).length=((d.take k).flatMap (·.2)).length+r.2.2.2.length:=by rw[take_add_one,s,flatMap_append,Zi];simp[LBl.blo]
   have e4:=iL d (k+1);have r1:IntKind.i64.wrap ((((d.take k).flatMap (·.2)).length:Int)+(r.2.2.2.length:Int))=(((d.take k).flatMap (·.2)).length:Int)+(r.2.2.2.length:Int):=zw;have R0:=V e3;have h:=Blk.new wr #[I J r.1,S r.2.1 r.2.2.2.length r.2.2.1] 161;have A0:=h.u;have F0:=h.lt;have I0:w.heap.size+1+1≠wr.heap.size:=by have:=u.lt.1;omega
   have L:=h.far (a:=⟨w.heap.size+1+1,r.1,X⟩) (fun e=>I0 e.symm) (I J (((d.take k).flatMap (·.2)).length:Nat));have m1:=L.u;have o1:=L.lt;obtain⟨rf,ra,rc,rl⟩:=r;simp only at *;generalize ((d.take k).flatMap (·.2)).length=m at *;generalize rl.length=L1 at *;clear u f g l hr s hv o p e3 e4 h L;go_wp2;go_roundw;case rel=>refine⟨k+1,by go_num,zo,by rw[U R0];first|rfl|go_num,?_,N.setCell zs _⟩;rw[U F];unfold jo;simp only;rw[U Z0];exact U0.set rf _
   case measure=>exact zv
  ·have m0:k=j.length:=zo;subst m0;have k0:j.length=d.length:=U R;have L0:d.take j.length=d:=by rw[k0,take_length]
   rw[L0];have M:(yO d n j.length).1=(yO d n d.length).1:=by rw[k0]
   rw[M]at HO u;have Q:=(ot d n d.length).1;have d0:=La d n d.length;have s0:Hid ((yw n en d).1=jS (yO d n d.length).1 d d.length/\((yw n en d).2:Int)=(yO d n d.length).1.getD en 0):=by refine⟨rfl,?_⟩;unfold yw;simp only;obtain⟨v,hv⟩:∃v,(yO d n d.length).1[en]? = O v:=⟨_,Za zo⟩;have:=d0 v (Zd hv);rw[Zj,hv];simp only[Option.getD_some];omega
   obtain⟨ve,p0⟩:∃v,(yO d n d.length).1[en]? = O v:=⟨_,Za zo⟩;have d1:Hid ((yO d n d.length).1.getD en 0=ve):=by show _=_;rw[Zj,p0];rfl
   have T0:=V (fun k=>Ak (yO d n d.length).1 d k);have H0:=Ot (d.flatMap (·.2)).length zo;have t:=V (NC wr (d.flatMap (·.2)).length zo);have f0:=V (zB wr (C (madeCells #[I J 0,I J 0] ((d.flatMap (·.2)).length*2)) 65));have y1:((d.flatMap (·.2)).length:Int)<=100000:=zo;have x0:=V p0;generalize h1:(yO d n d.length).1=nums at *;have s1:=V Q;generalize hT:(d.flatMap (·.2)).length=T at *;have a1:=V hT;have y:=V g;clear u f g l M d0 p0 h1 hT k0 L0;go_wp2_with fail;clear H0;obtain⟨W4,y0⟩:∃W4,W4=wr.alloc (C (madeCells #[I J 0,I J 0] (T*2)) 65):=⟨_,rfl⟩;rw[<-y0]at t f0 ⊢;obtain⟨E,N0⟩:∃E:YW,E=wr:=⟨_,rfl⟩;rw[<-N0]at t f0 y g0 HO ⊢;clear y0 N0;go_loopw [9,37] (fun sv i wr=>∃(k:Nat)(a:YA)(c:Nat),i=I J k/\k<=j.length/\sv=S a (jS nums d k).length c/\yD E.heap.size wr (S a (jS nums d k).length c) (jS nums d k)/\Below E.heap.size E wr) (fun _ i _=>j.length-(intOf i).toNat);case atStart=>exact⟨0,O ⟨E.heap.size,0,X⟩,T,rfl,Zq _,rfl,U t,U f0⟩
   case round=>
    obtain⟨k,a,c1,rfl,hk,rfl,z,f⟩:=hrel;have G:=V z;have k1:=V f;have g:Below w.heap.size w wr:=y.trans (f.m y.size);have l:=HB.z g;by_cases n0:k<j.length
    ·obtain⟨r,hr⟩:∃r,j[k]? = O r:=⟨_,Za n0⟩;have s:d[k]? = O r.blo:=by rw[<-U r0,Zn,hr];rfl
     have K0:=Zd s;obtain⟨e1,e2,a0,_⟩:=l.cells hr;have C0:=l.lt.1;have E0:(k:Int)<j.length:=zo;have F:=V (Hx (nums:=nums) s);have o:=zB wr (C #[I J r.1,S r.2.1 r.2.2.2.length r.2.2.1] 161);have h:=Blk.new wr #[I J r.1,S r.2.1 r.2.2.2.length r.2.2.1] 161;have A0:=h.u;have F0:=h.lt;have h4:=iL d (k+1);have h5:=U T0 (k+1);have h6:=congrArg length F;rw[Zi]at h6;have g1:=U a1;have J1:r.2.2.2.length<=100000:=by
      have:(kR nums r.blo.2).length=r.2.2.2.length:=by simp[kR,LBl.blo]
      omega
     have Y0:Hid ((jS nums d k).length+(kR nums r.2.2.2).length<=1000000):=by show _<=_;have:(kR nums r.blo.2).length=(kR nums r.2.2.2).length:=rfl;omega
     have B0:=(HO.z f).z o;have H:=V (IB (w.heap.size+1+1) nums.length r.2.2.1 r.2.1 nums r.2.2.2 (wr.alloc (C #[I J r.1,S r.2.1 r.2.2.2.length r.2.2.1] 161)) B0.ints (a0.z o) ⟨zo,zo⟩ (fun x hx hn=>by rw[Q];exact U HJ _ K0 x hx hn));have u0:=V (z.z o);have N:Hid (Below E.heap.size E (wr.alloc (C #[I J r.1,S r.2.1 r.2.2.2.length r.2.2.1] 161))):=f.trans (o.m f.size);rw[Q]at H;obtain⟨rf,ra,rc,rl⟩:=r;simp only[LBl.blo]at *;generalize i1:jS nums d k=l1 at *;clear z f g l hr s K0 a0 o h h4 h5 h6 g1 B0 i1;go_wp2_with fail;refine H.m ?_;rintro e w5 ⟨a5,c5,rfl,J0,j0⟩;have q0:Hid (Below E.heap.size E w5):=N.trans (j0.m N.size);have V0:=V (u0.z j0);have S0:=V J0.isIn.1;clear J0 j0 H A0 F0 e1 e2;generalize q1:kR nums rl=l2 at *;go_wp2_with (at_builtin;refine vz rfl (.tmp 41) (.tmp 45) rfl E.heap.size E _ l1 l2 a5 c5 zf zf V0 S0 Y0 q0 q0.size _ rfl ?_;intro a6 c6 w6 W0 O0);go_roundw;case rel=>refine⟨k+1,a6,c6,by go_num,zo,?_,?_,U O0⟩;rw[U F,Zi];rw[U F];exact U W0
     case measure=>exact zv
    ·have m0:k=j.length:=zo;subst m0;have i0:=(HP.z g0 zo).z f (by have:=HO.lt.1;omega);have K:=(HR.z g0 zo).z f (by have:=HO.lt.1;omega);have u1:=i0.u;have E1:=i0.lt;have v1:=K.u;have A1:=K.H;have F1:=K.lt;have t1:=(HO.z f).u x0;have D1:=(HO.z f).lt.1;have v0:=V K;have D0:jS nums d j.length=(yw n en d).1:=by rw[U R];exact s0.1.symm
     have e0:((yw n en d).2:Int)=ve:=by rw[s0.2];exact U d1
     rw[D0]at G ⊢;have b1:=V e0;have Q0:=V g;have I1:w.heap.size≠w.heap.size+1:=zo;have j1:Hid (w.heap.size<=E.heap.size):=y.size;clear z f g l i0 K D0 e0;generalize hq:yw n en d=q at *;go_wp2;go_region;all_goals go_wp2;refine bodyPost_ret (qD (P:=prog) rfl _ _ (w.heap.size+1) 73 _ (0,0) _ rfl (xE v0 rfl) underlying73 rfl yT) rfl ?_;have hn:(Value.slice a q.1.length c1).ownBlock≠O (w.heap.size+1):=fun e=>zR v0 G zd e;rw[hq];refine⟨a,c1,by rw[U b1],?_,zS ((Q0.setCell zs _).setCell zs _ |>.setCell zs _) _⟩;exact zV (zA (zA (zA G hn _) hn _) hn _) j1
def lL(w:YW)(so:YA)(ps:YI):Prop:=ps=[]\/∃q,so=O ⟨q,0,X⟩/\Blk w q (ps.map (Value.int .i64)).toArray 3
theorem lL.ints{w:YW}{c:YA}{b:YI}(h:lL w c b):bh w c b:=by rcases h with h|⟨q,d,a⟩;exact Zg h;refine Zf ⟨q,d,a.lt,fun j p e=>?_⟩;rw[a.u];simp[e]
theorem lL.z{w w':YW}{c:YA}{b:YI}(h:lL w c b)(e:Below w.heap.size w w'):lL w' c b:=by rcases h with h|⟨q,d,a⟩;exact Zg h;exact Zf ⟨q,d,a.z e a.lt⟩
theorem cE{w:YW}{a b:Nat}{cs c:YV}{T U:TypeId}(h:Blk w a cs T)(k:Blk w b c U)(d:T≠U):a≠b:=by intro e;subst e;exact d (fE h k)
def dM(w:YW)(v:Value)(pat:YL)(short:YI):Prop:=∃b1 b2 po pc so sc,v=.func (.func 228) #[] #[A (O ⟨b1,0,X⟩),A (O ⟨b2,0,X⟩)]/\Blk w b1 #[S po pat.length pc] 33/\Blk w b2 #[S so short.length sc] 115/\yD 0 w (S po pat.length pc) pat/\lL w so short
theorem dM.z{w w':YW}{v:Value}{a:YL}{short:YI}(h:dM w v a short)(b:Below w.heap.size w w'):dM w' v a short:=by obtain⟨e,f,k,pc,m,l,g,c,d,i,j⟩:=h;exact⟨e,f,k,pc,m,l,g,c.z b c.lt,d.z b d.lt,i.z b,j.z b⟩
theorem dM.far{w:YW}{v:Value}{c:YL}{short:YI}(h:dM w v c short){b:Nat}{cs:YV}{T:TypeId}(d:Blk w b cs T)(o:33≠T)(p:115≠T)(r:65≠T)(s:3≠T)(i:Nat)(u:Value):dM (w.setCell ⟨b,i,X⟩ u) v c short:=by obtain⟨m,n,x,pc,z,y,e,g,j,k,f⟩:=h;refine⟨m,n,x,pc,z,y,e,g.far (a:=⟨b,i,X⟩) (cE g d o) _,j.far (a:=⟨b,i,X⟩) (cE j d p) _,zA k (a:=⟨b,i,X⟩) (zR d k r) _,?_⟩;rcases f with f|⟨q,t,l⟩;exact Zg f;exact Zf ⟨q,t,l.far (a:=⟨b,i,X⟩) (cE l d s) _⟩
def uH(w:YW)(spec:YL->Option (YL))(v:Value):Prop:=∃F bound cap,v=.func (.func F) bound cap∧(∃fn:Func,prog.funcs[F]? = O fn∧(fn.name == "runtime.NumGoroutine")=Z∧fn.body.isNone=Z) ∧
 ∀w',Below w.heap.size w w'->∀ao c row,InL w' ao row->0 < row.length->row.length<=1000->(∀x∈row,inI x.2) ->
  Calls prog F (bound++#[S ao row.length c]++cap) w' fun e w''=>aD w'.heap.size w'' (spec row) e/\Below w'.heap.size w' w''
theorem dM.rule{w:YW}{v:Value}{b:YL}{short:YI}(h:dM w v b short)(k:b.length<=1000/\short.length<=1000):uH w (isS b short) v:=by obtain⟨o,p,l,pc,n,m,rfl,e,f,i,j⟩:=h;refine⟨_,_,_,rfl,⟨_,func228,zr,zr⟩,fun w' a g c row d _ q _=>?_⟩;exact Sy g l n c pc m _ _ row b short w' d (i.z a).isIn.1 (j.z a).ints (e.z a e.lt) (f.z a f.lt) ⟨zo,zo,k.2⟩
theorem uH.z{w w':YW}{s:YL->Option (YL)}{v:Value}(h:uH w s v)(d:Below w.heap.size w w'):uH w' s v:=by obtain⟨F,a,cap,e,f,g⟩:=h;exact⟨F,a,cap,e,f,fun c b=>g c (d.trans (b.m d.size))⟩
theorem UI(d f:YA)(pc h:Nat)(a:YL)(short:YI)(w:YW)(b:yD 0 w (S d a.length pc) a)(c:lL w f short):Calls prog 201 #[S d a.length pc,S f short.length h] w fun e w'=>∃v,e=Rt v/\dM w' v a short/\Below w.heap.size w w':=by have g:=yG w (C #[S d a.length pc] 33) (C #[S f short.length h] 115);have H:Hid (dM ((w.alloc (C #[S d a.length pc] 33)).alloc (C #[S f short.length h] 115)) (.func (.func 228) #[] #[A (O ⟨w.heap.size,0,X⟩),A (O ⟨w.heap.size+1,0,X⟩)]) a short):=⟨_,_,d,pc,f,h,rfl,(Blk.new w _ _).alloc _,vD w _ _ _,b.z g,c.z g⟩;have i:=V g;clear b c g;go_enter func201,ntmps201;go_wp2;go_ret;exact⟨_,rfl,U H,U i⟩
def xI(w:YW)(vs:List Value)(sp:List (YL×List Int)):Prop:=vs.length=sp.length/\∀(j:Nat)(v:Value) (s:YL×List Int),vs[j]? = O v->sp[j]? = O s->dM w v s.1 s.2
theorem xI.cons{w w':YW}{e:List Value}{d:List (YL×List Int)}(h:xI w e d)(f:Below w.heap.size w w'){v:Value}{a:YL}{short:YI}(g:dM w' v a short):xI w' (v::e) ((a,short)::d):=by
 refine⟨by simp[h.1],fun j u s c b=>?_⟩;cases j with
 |zero=>simp at c b;subst c b;exact g
 |succ j=>exact(h.2 j u s (by simpa using c) (by simpa using b)).z f
theorem xI.nil(w:YW):xI w [] []:=⟨rfl,fun j v s h=>by simp at h⟩
def Sd(w:YW)(rb:Nat):Prop:=rb<w.heap.size/\∀j r,kz[j]? = O r->∃v,w.cell? ⟨rb,j,X⟩=O v/\uH w r v
def cu(w:YW)(fb tb rb:Nat):Prop:=wi w fb tb (S (O ⟨rb,0,X⟩) 25 25)/\Sd w rb
theorem cu.z{w w':YW}{b d c:Nat}(h:cu w b d c)(a:Below w.heap.size w w'):cu w' b d c:=by refine⟨h.1.z a,by have:=h.2.1;have:=a.size;omega,fun j r g=>?_⟩;obtain⟨v,e,f⟩:=h.2.2 j r g;exact⟨v,by rw[a.u (by simpa using h.2.1)];exact e,f.z a⟩
theorem dS(row:YL)(n:Nat):zc row=zc (row.take n)++zc (row.drop n):=by rw[<-eD,take_append_drop]
theorem InL.take{w:YW}{a:YA}{row:YL}(h:InL w a row)(n:Nat):InL w a (row.take n):=by rcases h with h|⟨g,off,c,d,e⟩;exact Zg (by rw[h];simp);refine Zf ⟨g,off,c,d,fun j u b=>e j u ?_⟩;rw[dS row n,Zu (Zb.1 b).1];exact b
theorem InL.drop{w:YW}{g off:Nat}{row:YL}(h:InL w (O ⟨g,off,X⟩) row)(n:Nat):InL w (O ⟨g,off+n*2,X⟩) (row.drop n):=by
 by_cases i:n<=row.length;rcases h with h|⟨f,b,a,c,d⟩;exact Zg (by rw[h];simp);simp only[Zs,Addr.mk.injEq,and_true]at a;obtain⟨rfl,rfl⟩:=a;refine Zf ⟨g,off+n*2,rfl,c,fun j u e=>?_⟩
 have:=d (n*2+j) u (by
   rw[dS row n,Zw (by rw[yL,length_take];omega)]
   rw[yL,length_take,show n*2+j-min n row.length*2=j from zo]
   exact e)
 rw[Nat.add_assoc];exact this;exact Zg (drop_eq_nil_iff.2 zo)
def PM(B:Nat)(w':YW)(r:Option (YL×Nat))(e:Ending):Prop:=match r with
 |none=>e=Rt (Tu #[S X 0 0,I J 0])
 |some (s,n)=>∃a c,e=Rt (Tu #[S a s.length c,I J n])/\yD B w' (S a s.length c) s
theorem IJ (fb tb rb:Nat) (ao no:YA) (c nc:Nat) (row next:YL) (w:YW) (hf:cu w fb tb rb) (hin:InL w ao row) (hcap:row.length≤c) (hnx:InL w no next) (hn:row.length≤100000) (hxl:next.length≤10) (hok:∀ x∈row,yu x) (hxo:∀ x∈next,yu x) : Calls prog 230 #[A (O ⟨fb,0,X⟩),S ao row.length c,S no next.length nc] w fun e w'=>PM w.heap.size w' (ql row next) e∧Below w.heap.size w w':=by
 have hnI:(row.length:Int)≤100000:=zo;have hcapI:(row.length:Int)≤c:=zo;generalize hres:ql row next=res
 have HRES:=V hres;have HF:=V hf;have HIN:=V hin;have HNX:=V hnx;have HOK:=V hok;have HXO:=V hxo;clear hres hf hin hnx hok hxo;go_enter func230,ntmps230;go_wp2;go_loopw [8] (fun v wr=>∃ s:Nat,v=I J s∧2≤s∧s≤7∧(∀ n,2≤n→n<s→n≤min 6 row.length→wg row next n=X)∧Below w.heap.size w wr) (fun v _=>7-(intOf v).toNat);case atStart=>exact⟨2,rfl,zo,zo,fun n h1 h2=>zo,Ze _ _⟩
 case round=>
  obtain⟨s,rfl,h2,h7,hnone,hbw⟩:=hrel;have HNONE:=V hnone;have HBW:=V hbw;obtain⟨w0,hw0⟩:∃ w0:YW,w0=wr:=⟨_,rfl⟩;rw[hw0.symm]at hbw HBW ⊢;clear hw0;by_cases hle:s≤min 6 row.length
  ·obtain⟨x,hx⟩:∃ x,row[0]? = O x:=⟨_,Za zo⟩;obtain⟨g,off,rfl,_,_,_⟩:=ju HIN hx;have hleI:(s:Int)≤min 6 (row.length:Int):=zo;have hf0:=HF.z hbw;have hcf:=hf0.1.1.u;have hlf:=hf0.1.1.lt;obtain⟨q,hq⟩:∃ q,q=row.length-s:=⟨_,rfl⟩;have hsub:IntKind.i64.wrap ((row.length:Int)-s)=(q:Int):=zw;have hqc:(q:Int)≤c:=zo;have hql:(q:Int)≤row.length:=zo;have haddr:(if c=q then (O ⟨g,off,X⟩:YA) else O ⟨g,off+q * 2,X⟩)=O ⟨g,off+q * 2,X⟩:=if_neg zo;have hsz:row.length-q=s:=zo;clear hbw hx hnone hf0;have HQ:=V hq;go_wp2;go_quiet (fail);go_wp2_with fail;obtain⟨w2,hw2⟩:∃ w2:YW,w2=w0.drewN nq:=⟨_,rfl⟩;rw[hw2.symm];have HB2:Hid (Below w.heap.size w w2):=by rw[hw2];exact zS HBW nq
   have hdl:(row.drop (row.length-s)).length=s:=by rw[length_drop];omega
   have htl:(row.take (row.length-s)).length=row.length-s:=by rw[length_take];omega
   have hrs:row.length-(row.length-s)=s:=zo;rw[hrs];clear hcf hlf hw2;go_loopw [39] (fun i wr=>∃ k:Nat,i=I J k∧k≤25∧(∀ j r,j<k→kz[j]? = O r→fj row next s r=X)∧Below w.heap.size w wr) (fun i _=>25-(intOf i).toNat);case atStart=>exact⟨0,rfl,zo,fun j r hj=>zo,U HB2⟩
   case round=>
    obtain⟨k,rfl,hk,hall,hbw⟩:=hrel;have HALL:=V hall;have HBK:=V hbw;by_cases hlt:k<25
    ·obtain⟨r,hr⟩:∃ r,kz[k]? = O r:=⟨_,Za (by show k<25;exact hlt)⟩;have hfo:=HF.z hbw;obtain⟨v,hv,F,bound,cap,rfl,⟨fn,hfn,hfa,hfb⟩,hrule⟩:=hfo.2.2 k r hr;have hrl:=hfo.2.1;have hltI:(k:Int)<25:=zo;have hinr:=(HIN.z hbw);have hio:=(hinr.drop (row.length-s));have hia:=hinr.take (row.length-s);have hbo:∀ x∈row.drop (row.length-s),yu x:=fun x hx=>U HOK x (mem_of_mem_drop hx);have hba:∀ x∈row.take (row.length-s),yu x:=fun x hx=>U HOK x (mem_of_mem_take hx);have HRULE:=V (hrule wr (Ze _ _) (O ⟨g,off+(row.length-s) * 2,X⟩) (c-(row.length-s)) (row.drop (row.length-s)) hio zo zo (fun x hx=>(hbo x hx).2));rw[hdl]at HRULE;have HCF:Hid (∀ (args:YV) (W:YW),(callFunc F args).run prog W=.ok (.enter F args) W):=ik hfn hfa hfb;have HRA:Hid (fj row next s r=match r (row.drop (row.length-s)) with|some s'=>if eZ (bI (row.take (row.length-s))) (row.drop (row.length-s)) s' next=Y then O s' else X|none=>X):=rfl;have HRM:=V (Zd hr);have HRR:=V hr;have HIO:=V hio;have HIA:=V hia;have HBO:=V hbo;have HBA:=V hba;have HSHORT:=V (fun s' (h:r (row.drop (row.length-s))=O s')=>oI (Zd hr) h);have HSOK:=V (fun s' (h:r (row.drop (row.length-s))=O s')=>JH (Zd hr) (fun x hx=>(hbo x hx).2) h);clear hall hbw hfo hrule hfn hfa hfb hinr hio hia hbo hba hr;generalize hro:r (row.drop (row.length-s))=ro at *;rw[← Array.push_eq_append]at HRULE;go_wp2_with fail;rw[U HCF];refine HRULE.m ?_;rintro e w3 ⟨hout,hb3⟩;have HB3:Hid (Below w.heap.size w w3):=HBK.trans (hb3.m HBK.size);cases ro with
     |none=>
      have hout:e=Rt (Tu #[S X 0 0,Bl Z]):=hout;subst hout;clear hb3 HRULE;go_wp2;go_roundw;case rel=>refine⟨k+1,by go_num,zo,fun j r' hj hr'=>?_,U HB3⟩;by_cases e:j=k;subst e;rw[U HRR]at hr';obtain rfl:=Zl hr';exact U HRA;exact U HALL j r' zo hr'
      case measure=>exact zv
     |some sh=>
      obtain⟨v',rfl,hs⟩:∃ v,e=Rt (Tu #[v,Bl Y])∧w3.ownsRow wr.heap.size 65 2 v sh.length (zc sh):=hout;obtain⟨a',c',rfl⟩:=zu hs;have hsl:=U HSHORT sh rfl;have hso:=U HSOK sh rfl;rw[hdl]at hsl;have hfo3:=(HF.z HB3).1;have HKB:=V (Ai fb tb _ (O ⟨g,off,X⟩) c (row.take (row.length-s)) w3 hfo3 (HIA.z hb3) zo (fun x hx=>(U HBA x hx).1));rw[htl]at HKB;have hks:=px (row.take (row.length-s)) (fun x hx=>(U HBA x hx).1) (row.take (row.length-s)).length
      have HFA:Hid (∀ W,Below w3.heap.size w3 W→Calls prog 239 #[A (O ⟨fb,0,X⟩),Ag #[I J (bI (row.take (row.length-s))).1,I J (bI (row.take (row.length-s))).2],S (O ⟨g,off+(row.length-s) * 2,X⟩) s (c-(row.length-s)),S a' sh.length c',S no next.length nc] W fun e w'=>e=Rt (Bl (eZ (bI (row.take (row.length-s))) (row.drop (row.length-s)) sh next))∧Below W.heap.size W w'):=fun W hW=>by
        have:=Bt fb tb _ (bI (row.take (row.length-s))).1 (bI (row.take (row.length-s))).2 (O ⟨g,off+(row.length-s) * 2,X⟩) a' no (c-(row.length-s)) c' nc (row.drop (row.length-s)) sh next W (hfo3.z hW) ((HIO.z hb3).z hW) ((yD.isIn hs).1.z hW) ((HNX.z HB3).z hW) zo (by
          unfold bI
          rw[htl]at hks ⊢
          omega) (fun x hx=>(U HBO x hx).1) (fun x hx=>(hso x hx).1) (fun x hx=>(U HXO x hx).1)
        rw[hdl]at this
        exact this
      have HOS:=V hs;generalize hkn:bI (row.take (row.length-s))=kn at *;generalize hfs:eZ kn (row.drop (row.length-s)) sh next=fs at *
      clear hb3 HRULE hs hsl hso hfo3 hks;go_wp2_with fail;refine HKB.m ?_;rintro e w4 ⟨rfl,hb4⟩;have HB4:=V hb4;clear hb4 HKB;go_wp2_with fail;refine (U HFA w4 HB4).m ?_;rintro e w5 ⟨rfl,hb5⟩;have HB35:Hid (Below w3.heap.size w3 w5):=HB4.trans (hb5.m HB4.size);have HB5:Hid (Below w.heap.size w w5):=HB3.trans (HB35.m HB3.size);clear hb5 HFA HB4;cases fs with
      |true=>
       have hhit:fj row next s r=O sh:=by rw[U HRA];simp[hfs]
       have hsa:wg row next s=O sh:=ER HRR hhit (fun i z hi hz=>U HALL i z hi hz)
       have hsr:=IK h2 hle hsa (fun n h1 h2=>U HNONE n h1 h2 zo);rw[U HRES]at hsr;have HSR:=V hsr;clear hhit hsa hsr;go_wp2_with fail;go_ret2;rw[U HSR];exact⟨⟨a',c',rfl,yD.K (yD.z HOS HB35) HBK.size⟩,U HB5⟩
      |false=>
       go_wp2;go_roundw;case rel=>refine⟨k+1,by go_num,zo,fun j r' hj hr'=>?_,U HB5⟩;by_cases e:j=k;subst e;rw[U HRR]at hr';obtain rfl:=Zl hr';rw[U HRA];simp[hfs];exact U HALL j r' zo hr'
       case measure=>exact zv
    ·have hk25:k=25:=zo;subst hk25
     have HSN:Hid (wg row next s=X):=Cf (fun i z hz=>hall i z (by
       have:=(Zb.1 hz).1
       exact this) hz)
     clear hall hbw;go_wp2;go_roundw;case rel=>refine⟨s+1,by go_num,zo,zo,fun n h1 h3 h4=>?_,U HBK⟩;by_cases e:n=s;subst e;exact U HSN;exact U HNONE n h1 zo h4
     case measure=>exact zv
  ·have hleI:¬ ((s:Int)≤min 6 (row.length:Int)):=zo;have hno:=Gc (row:=row) (next:=next) (fun n h1 h2=>hnone n h1 zo h2);rw[U HRES]at hno;subst hno;clear hbw hnone;go_wp2_with fail;go_ret2;exact⟨rfl,U HBW⟩
abbrev Obs:=Int×List Int×List Int×ByteArray
inductive qc (l:YL):MS->Nat->Obs->Prop
  | halt {m:MS}:m.aE=Y->qc l m 0 (0,m.C,m.cells,m.out)
  | err {m:MS}:m.aE=Z->(yb l m).2≠0->qc l m 1 ((yb l m).2,[],[],(yb l m).1.out)
  | step {m:MS} {k:Nat} {o:Obs}:m.aE=Z->(yb l m).2=0->qc l (yb l m).1 k o->qc l m (k+1) o
def jH(r:MS×Int×Int):Obs:=(r.2.1,if r.2.1=0 then r.1.C else [],if r.2.1=0 then r.1.cells else [],r.1.out)
theorem lG (l:YL) (n:Nat):∀ (s:Int) (m:MS),(zO l n s m).2.1≠15→∃ k:Nat,k≤n∧(zO l n s m).2.2=s+k∧qc l m k (jH (zO l n s m)):=by
 induction n with
 |zero=>intro s m h;unfold zO at h ⊢;split at h;rename_i hh;rw[if_pos hh];exact⟨0,Zc _,zs,qc.halt hh⟩;exact absurd rfl h
 |succ n ih=>
  intro s m h;unfold zO at h ⊢;split at h;rename_i hh;rw[if_pos hh];exact⟨0,zo,zs,qc.halt hh⟩;rename_i hh;rw[if_neg hh];have hf:m.aE=Z:=by simpa using hh
  split at h;rename_i h0;rw[if_pos h0];obtain⟨k,h1,h2,h3⟩:=ih _ _ h;exact⟨k+1,zo,by rw[h2];push_cast;omega,qc.step hf h0 h3⟩;rename_i h0;rw[if_neg h0];refine⟨1,zo,rfl,?_⟩;unfold jH;simp only[if_neg h0];exact qc.err hf h0
theorem nR {l:YL} {m:MS} {k:Nat} {o:Obs} (h:qc l m k o):∀ (n:Nat) (s:Int),k≤n→(zO l n s m).2.2=s+k∧jH (zO l n s m)=o:=by
 induction h with
 |@halt m hh=>
  intro n s _;have e:zO l n s m=(m,0,s):=by cases n<;>(unfold zO;rw[if_pos hh])
  rw[e];exact⟨zs,rfl⟩
 |@err m hf h0=>intro n s hn;obtain⟨n,rfl⟩:∃ j,n=j+1:=⟨n-1,zo⟩;rw[zO,if_neg (by rw[hf];simp),if_neg h0];exact⟨rfl,by unfold jH;simp only[if_neg h0]⟩
 |@step m k o hf h0 _ ih=>intro n s hn;obtain⟨n,rfl⟩:∃ j,n=j+1:=⟨n-1,zo⟩;rw[zO,if_neg (by rw[hf];simp),if_pos h0];obtain⟨h1,h2⟩:=ih n (s+1) zo;exact⟨by rw[h1];push_cast;omega,h2⟩
abbrev qd(x:Int×Int)(m:MS):MS×Int:=zW x.2 (ya x.1) m
def zG:YL->MS->MS×Int×Nat
 |[],m=>(m,0,0)
 |x::r,m=>if(qd x m).2=0 then((zG r (qd x m).1).1,(zG r (qd x m).1).2.1,(zG r (qd x m).1).2.2+1)else((qd x m).1,(qd x m).2,1)
theorem wX(a b:YL):∀m:MS,zG (a++b) m=if(zG a m).2.1=0 then((zG b (zG a m).1).1,(zG b (zG a m).1).2.1,(zG b (zG a m).1).2.2+(zG a m).2.2)else zG a m:=by
 induction a with
 |nil=>intro m;simp[zG]
 |cons x a c=>intro m;rw[cons_append,zG,zG];by_cases h:(qd x m).2=0;rw[if_pos h,if_pos h,c];simp only;split;simp only[Prod.mk.injEq];exact⟨trivial,trivial,zo⟩;rfl;rw[if_neg h,if_neg h];simp only;rw[if_neg h]
theorem iA(r:YL):∀m:MS,((zG r m).2.1=0->(zG r m).2.2=r.length)/\(zG r m).2.2<=r.length:=by
 induction r with
 |nil=>intro m;simp[zG]
 |cons x r b=>intro m;rw[zG];by_cases h:(qd x m).2=0;rw[if_pos h];simp only[length_cons];have:=b (qd x m).1;exact⟨fun h=>by rw[this.1 h],zo⟩;rw[if_neg h];simp only[length_cons];exact⟨fun a=>absurd a h,zo⟩
def yM(op:Int):Prop:=op≠1/\op≠2/\op≠3/\op≠4/\op≠5/\op≠7
instance (op:Int):Decidable (yM op):=by unfold yM;infer_instance
theorem Sz{k:Prop} [Decidable k]{a b d e:MS}{c:Int}(f:a={d with pc:=c})(g:b={e with pc:=c}):(if k then a else b)={(if k then d else e)with pc:=c}:=by split<;>assumption
theorem MI(m:MS)(c:Int)(op arg:Int)(h:yM op):doS {m with pc:=c} op arg={doS m op arg with pc:=c}:=by obtain⟨a,b,d,e,f,g⟩:=h;unfold doS;simp only[if_neg a,if_neg b,if_neg d,if_neg e,if_neg f,if_neg g];repeat' (first|refine Sz ?_ ?_|rfl)
theorem EB(m:MS)(op arg:Int)(h:yM op):(doS m op arg).pc=m.pc/\(doS m op arg).aE=m.aE/\(doS m op arg).aC=m.aC:=by obtain⟨a,b,c,d,e,f⟩:=h;unfold doS;simp only[if_neg a,if_neg b,if_neg c,if_neg d,if_neg e,if_neg f];repeat' (first|refine Qs (p:=fun z=>z.pc=m.pc/\z.aE=m.aE/\z.aC=m.aC) ?_ ?_|exact⟨rfl,rfl,rfl⟩)
theorem gP(arg:Int)(c:Int)(a:YI)(d:∀op∈a,yM op):∀m:MS,zW arg a {m with pc:=c}=({(zW arg a m).1 with pc:=c},(zW arg a m).2)/\((zW arg a m).1.pc=m.pc/\(zW arg a m).1.aE=m.aE/\(zW arg a m).1.aC=m.aC):=by
 induction a with
 |nil=>intro m;exact⟨rfl,rfl,rfl,rfl⟩
 |cons op r l=>intro m;have h:=d op zs;have k:zJ {m with pc:=c} op=zJ m op:=rfl;unfold zW;rw[k];by_cases b:zJ m op=0;rw[if_pos b,if_pos b,MI m c op arg h];obtain⟨e,f,g,i⟩:=l (fun o j=>d o (by simp[j])) (doS m op arg);obtain⟨n,p,q⟩:=EB m op arg h;exact⟨e,by rw[f,n],by rw[g,p],by rw[i,q]⟩;rw[if_neg b,if_neg b];exact⟨rfl,rfl,rfl,rfl⟩
theorem dq(op:Int)(h:yM op):∀o∈ya op,yM o:=by
 unfold ya;have b:∀x∈qQ,∀o∈x.2,yM o:=zd;split;next x c=>exact b x (mem_of_find?_eq_some c)
 split;intro o a;simp at a;subst a;exact h;intro o a;simp at a
def xJ(r:YL):Prop:=∀(i:Nat)(x:Int×Int),r[i]? = O x->i+1<r.length->yM x.1
theorem xJ.tail{x:Int×Int}{r:YL}(h:xJ (x::r)):xJ r:=fun i y b a=>h (i+1) y (by simpa using b) (by simpa using a)
theorem jA{l:YL}{m:MS}{x:Int×Int}(h:l[m.pc.toNat]? = O x):yb l m=qd x {m with pc:=m.pc+1}:=by unfold yb;rw[h]
theorem tU {l:YL} (r:YL):∀ (a:Nat) (m:MS),(∀ i x,r[i]? = O x→l[a+i]? = O x)→xJ r→m.pc=a→m.aE=Z → ((zG r { m with pc:=((a+r.length:Nat):Int) }).2.1≠0→qc l m (zG r { m with pc:=((a+r.length:Nat):Int) }).2.2 ((zG r { m with pc:=((a+r.length:Nat):Int) }).2.1,[],[],(zG r { m with pc:=((a+r.length:Nat):Int) }).1.out)∧∀ k o,qc l m k o→k=(zG r { m with pc:=((a+r.length:Nat):Int) }).2.2∧o=((zG r { m with pc:=((a+r.length:Nat):Int) }).2.1,[],[],(zG r { m with pc:=((a+r.length:Nat):Int) }).1.out)) ∧ ((zG r { m with pc:=((a+r.length:Nat):Int) }).2.1=0→(∀ k o,qc l (zG r { m with pc:=((a+r.length:Nat):Int) }).1 k o→qc l m (k+(zG r { m with pc:=((a+r.length:Nat):Int) }).2.2) o)∧∀ k o,qc l m k o→∃ k',k=k'+(zG r { m with pc:=((a+r.length:Nat):Int) }).2.2∧qc l (zG r { m with pc:=((a+r.length:Nat):Int) }).1 k' o):=by
 induction r with
 |nil=>
  intro a m _ _ hpc _;have e:({ m with pc:=((a+([]:YL).length:Nat):Int) }:MS)=m:=by simp[← hpc]
  rw[e];simp only[zG];exact⟨fun h=>absurd rfl h,fun _=>⟨fun k o h=>h,fun k o h=>⟨k,rfl,h⟩⟩⟩
 |cons x r ih=>
  intro a m hl hp hpc hh;have hx:l[m.pc.toNat]? = O x:=by rw[hpc,Zr];exact hl 0 x rfl
  have hs:=jA hx;rw[zG];by_cases hr:r=[];subst hr;have e:({ m with pc:=((a+[x].length:Nat):Int) }:MS)={ m with pc:=m.pc+1 }:=by simp[hpc]
  rw[e];rw[← hs];by_cases h0:(yb l m).2=0;rw[if_pos h0];simp only[zG];refine⟨fun h=>absurd rfl h,fun _=>⟨fun k o h=>qc.step hh h0 h,fun k o h=>?_⟩⟩;cases h with
  |halt h1=>rw[hh]at h1;cases h1
  |err _ h1=>exact absurd h0 h1
  |step _ _ h2=>exact⟨_,rfl,h2⟩
  rw[if_neg h0];simp only;refine⟨fun _=>⟨qc.err hh h0,fun k o h=>?_⟩,fun h=>absurd h h0⟩;cases h with
  |halt h1=>rw[hh]at h1;cases h1
  |err _ h1=>exact⟨rfl,rfl⟩
  |step _ h1 _=>exact absurd h1 h0
  have hlen:0<r.length:=length_pos_iff.2 hr;have hpl:=hp 0 x rfl zp;obtain⟨c1,c2,c3,c4⟩:=gP x.2 (m.pc+1) (ya x.1) (dq _ hpl) { m with pc:=((a+(x :: r).length:Nat):Int) };have hs':yb l m=({ (qd x { m with pc:=((a+(x :: r).length:Nat):Int) }).1 with pc:=m.pc+1 },(qd x { m with pc:=((a+(x :: r).length:Nat):Int) }).2):=by rw[hs];exact c1
  generalize hq:qd x { m with pc:=((a+(x :: r).length:Nat):Int) }=q at hs' ⊢;have hq1:q.1.pc=((a+(x :: r).length:Nat):Int):=by rw[← hq];exact c2
  have hq2:q.1.aE=Z:=by rw[← hq];exact c3.trans hh
  by_cases h0:q.2=0;rw[if_pos h0];have ih1:=ih (a+1) { q.1 with pc:=m.pc+1 } (fun i y hy=>by rw[show a+1+i=a+(i+1) from zo];exact hl (i+1) y (by simpa using hy)) hp.tail (by simp[hpc]) hq2;have e:({ ({ q.1 with pc:=m.pc+1 }:MS) with pc:=((a+1+r.length:Nat):Int) }:MS)=q.1:=by rw[show a+1+r.length=a+(x :: r).length from zp,← hq1]
  rw[e]at ih1;have h0':(yb l m).2=0:=by rw[hs'];exact h0
  have h1':(yb l m).1={ q.1 with pc:=m.pc+1 }:=by rw[hs']
  simp only;refine⟨fun hne=>?_,fun heq=>?_⟩;obtain⟨i1,i2⟩:=ih1.1 hne;refine⟨qc.step hh h0' (by rw[h1'];exact i1),fun k o h=>?_⟩;cases h with
  |halt h1=>rw[hh]at h1;cases h1
  |err _ h1=>exact absurd h0' h1
  |step _ _ h2=>rw[h1']at h2;obtain⟨e1,e2⟩:=i2 _ _ h2;exact⟨by rw[e1],e2⟩
  obtain⟨i1,i2⟩:=ih1.2 heq;refine⟨fun k o h=>qc.step hh h0' (by rw[h1'];exact i1 k o h),fun k o h=>?_⟩;cases h with
  |halt h1=>rw[hh]at h1;cases h1
  |err _ h1=>exact absurd h0' h1
  |step _ _ h2=>rw[h1']at h2;obtain⟨k',e1,e2⟩:=i2 _ _ h2;exact⟨k',by rw[e1];rfl,e2⟩
  rw[if_neg h0];have h0':(yb l m).2≠0:=by rw[hs'];exact h0
  have e2:((yb l m).2,([]:YI),([]:YI),(yb l m).1.out)=(q.2,[],[],q.1.out):=by rw[hs']
  simp only;refine⟨fun _=>⟨?_,fun k o h=>?_⟩,fun h=>absurd h h0⟩;rw[← e2];exact qc.err hh h0';cases h with
  |halt h1=>rw[hh]at h1;cases h1
  |err _ h1=>exact⟨rfl,e2⟩
  |step _ h1 _=>exact absurd h1 h0'
def qk(F:Int->Int)(m:MS):MS:={m with pc:=F m.pc,aC:=m.aC.map F}
def aP(F:Int->Int)(x:Int×Int):Int×Int:=if zT x.1=Y then(x.1,F x.2)else x
theorem tD(F:Int->Int)(m:MS)(op:Int):zJ (qk F m) op=zJ m op:=by unfold zJ qk xZ;simp only[length_map]
theorem CF(F:Int->Int)(m:MS)(op arg:Int)(h:yM op):doS (qk F m) op arg=qk F (doS m op arg):=by have e:qk F m={({m with aC:=m.aC.map F}:MS)with pc:=F m.pc}:=rfl;rw[e,MI _ _ _ _ h,MJ m _ op arg h.2.2.1 h.2.2.2.1];obtain⟨a,_,b⟩:=EB m op arg h;unfold qk;rw[a,b]
theorem RB(F:Int->Int)(c:YI)(h:c≠[]):zK (c.map F)=F (zK c):=by
 unfold zK;rw[getLast?_map];cases e:c.getLast? with
 |none=>rw[getLast?_eq_none_iff]at e;exact absurd e h
 |some y=>rfl
theorem TT(F:Int->Int)(m:MS)(op arg:Int)(a:zJ m op=0):doS (qk F m) op (if zT op=Y then F arg else arg)=qk F (doS m op arg):=by
 by_cases h:yM op;have j:zT op=Z:=by obtain⟨c,d,f,k,l,g⟩:=h;unfold zT;simp[c,d,f,g]
 rw[j];exact CF F m op arg h;have b:op=1\/op=2\/op=3\/op=4\/op=5\/op=7:=by unfold yM at h;omega
 rcases b with rfl|rfl|rfl|rfl|rfl|rfl;rfl;show(if zK m.C=0 then _ else _)=qk F (if zK m.C=0 then _ else _);split<;>rfl;show _=qk F {m with aC:=m.aC++[m.pc],pc:=arg};unfold qk;simp only[map_append,map_cons,map_nil];rfl;have i:m.aC≠[]:=by intro e;rw[BH,e]at a;simp at a
 show({m with aC:=(m.aC.map F).dropLast,pc:=zK (m.aC.map F)}:MS)=_;rw[RB F _ i,<-map_dropLast];rfl;rfl;show(if wrap64 (zK m.G+1)=zK m.G.dropLast then _ else _)=qk F (if wrap64 (zK m.G+1)=zK m.G.dropLast then _ else _);split<;>rfl
theorem SY(F:Int->Int)(m:MS)(x:Int×Int):qd (aP F x) (qk F m)=(qk F (qd x m).1,(qd x m).2):=by
 by_cases h:yM x.1;have l:zT x.1=Z:=by obtain⟨d,f,j,q,s,k⟩:=h;unfold zT;simp[d,f,j,k]
 have e:aP F x=x:=by unfold aP;rw[l];rfl
 rw[e];have g:∀(b:YI)(m:MS),(∀o∈b,yM o)->zW x.2 b (qk F m)=(qk F (zW x.2 b m).1,(zW x.2 b m).2):=by
  intro b;induction b with
  |nil=>intro m _;rfl
  |cons op r p=>intro m c;unfold zW;rw[tD];by_cases a:zJ m op=0;rw[if_pos a,if_pos a,CF F m op x.2 (c op zs)];exact p _ (fun o n=>c o (by simp[n]));rw[if_neg a,if_neg a]
 exact g _ m (dq _ h);have i:x.1=1\/x.1=2\/x.1=3\/x.1=4\/x.1=5\/x.1=7:=by unfold yM at h;omega
 have c:ya x.1=[x.1]:=by rcases i with e|e|e|e|e|e<;>(rw[e];decide)
 have d:(aP F x).1=x.1:=by unfold aP;split<;>rfl
 have f:(aP F x).2=if zT x.1=Y then F x.2 else x.2:=by unfold aP;split<;>rfl
 show zW (aP F x).2 (ya (aP F x).1) (qk F m)=_;rw[d,f];show _=(qk F (zW x.2 (ya x.1) m).1,(zW x.2 (ya x.1) m).2);rw[c];unfold zW;rw[tD];by_cases a:zJ m x.1=0;rw[if_pos a,if_pos a,TT F m x.1 x.2 a];rfl;rw[if_neg a,if_neg a]
theorem JD(F:Int->Int)(r:YL):∀m:MS,zG (r.map (aP F)) (qk F m)=(qk F (zG r m).1,(zG r m).2.1,(zG r m).2.2):=by
 induction r with
 |nil=>intro m;rfl
 |cons x r a=>intro m;rw[map_cons,zG,zG,SY];simp only;by_cases h:(qd x m).2=0;rw[if_pos h,if_pos h,a];rw[if_neg h,if_neg h]
theorem Qq{P:Int->Prop}(x:Int×Int)(m:MS)(g:m.aE=Z)(b:∀c∈m.aC,P c)(i:zT x.1=Y->P x.2)(j:yE x.1=Y->P m.pc)(p:(qd x m).2=0):(qd x m).1.aE=Y\/((qd x m).1.aE=Z/\P (qd x m).1.pc/\∀c∈(qd x m).1.aC,P c):=by
 by_cases h:yM x.1;obtain⟨_,t,u,v⟩:=gP x.2 0 (ya x.1) (dq _ h) m;right;have n:yE x.1=Y:=by obtain⟨k,w,z,q,r,B⟩:=h;unfold yE;simp[k,q,r]
 exact⟨by rw[u];exact g,by rw[t];exact j n,by rw[v];exact b⟩;have o:x.1=1\/x.1=2\/x.1=3\/x.1=4\/x.1=5\/x.1=7:=by unfold yM at h;omega
 have s:ya x.1=[x.1]:=by rcases o with e|e|e|e|e|e<;>(rw[e];decide)
 have e:qd x m=if zJ m x.1=0 then(doS m x.1 x.2,0)else(m,zJ m x.1):=by show zW x.2 (ya x.1) m=_;rw[s];rfl
 have l:zJ m x.1=0:=by refine Classical.byContradiction (fun f=>?_);rw[e,if_neg f]at p;exact f p
 rw[e,if_pos l];simp only;rcases o with e|e|e|e|e|e;right;rw[e]at i ⊢;exact⟨g,i rfl,b⟩;right;rw[e]at i j ⊢;show(if zK m.C=0 then _ else _:MS).aE=Z/\_;have a:doS m 2 x.2=if zK m.C=0 then {m with C:=m.C.dropLast,pc:=x.2}else {m with C:=m.C.dropLast}:=rfl
 rw[a];split;exact⟨g,i rfl,b⟩;exact⟨g,j rfl,b⟩;right;rw[e]at i j ⊢;refine⟨g,i rfl,fun c d=>?_⟩;have a:(doS m 3 x.2).aC=m.aC++[m.pc]:=rfl;rw[a]at d;rcases Zo.1 d with k|k;exact b c k;simp at k;subst k;exact j rfl;right;rw[e]at l ⊢;have f:m.aC≠[]:=by intro e;rw[BH,e]at l;simp at l
 refine⟨g,?_,fun c d=>b c ((dropLast_sublist _).subset d)⟩;show P (zK m.aC);unfold zK;cases a:m.aC.getLast? with
 |none=>rw[getLast?_eq_none_iff]at a;exact absurd a f
 |some y=>exact b y (mem_of_getLast? a)
 left;rw[e];rfl;right;rw[e]at i j ⊢;have a:doS m 7 x.2=if wrap64 (zK m.G+1)=zK m.G.dropLast then {m with G:=m.G.dropLast.dropLast}else {m with G:=m.G.dropLast.dropLast++[zK m.G.dropLast,wrap64 (zK m.G+1)],pc:=x.2}:=rfl
 rw[a];split;exact⟨g,j rfl,b⟩;exact⟨g,i rfl,b⟩
theorem FX{P:Int->Prop}(r:YL):∀m:MS,xJ r->r≠[]->m.aE=Z->(∀c∈m.aC,P c)->(∀x∈r,zT x.1=Y->P x.2)->(∀x,r.getLast? = O x->yE x.1=Y->P m.pc)->(zG r m).2.1=0->(zG r m).1.aE=Y\/((zG r m).1.aE=Z/\P (zG r m).1.pc/\∀c∈(zG r m).1.aC,P c):=by
 induction r with
 |nil=>intro m _ h;exact absurd rfl h
 |cons x r o=>intro m n _ k i l j a;rw[zG]at a ⊢;by_cases b:(qd x m).2=0;rw[if_pos b]at a ⊢;simp only at a ⊢;by_cases f:r=[];subst f;simp only[zG];exact Qq x m k i (l x zs) (j x rfl) b;have e:=n 0 x rfl (by have:=length_pos_iff.2 f;simp;omega);obtain⟨_,p,q,s⟩:=gP x.2 0 (ya x.1) (dq _ e) m;refine o (qd x m).1 n.tail f (by rw[q];exact k) (by rw[s];exact i) (fun y g=>l y (by simp[g])) (fun y g d=>?_) a;rw[p];exact j y (by rw[getLast?_cons,g];rfl) d;rw[if_neg b]at a;exact absurd a b
theorem Sx(x:Int×Int)(a:inI x.2)(m:MS)(h:MOk m):MOk (qd x m).1:=fg x.2 a _ _ h (dE _)
theorem nD(r:YL):∀m:MS,(∀x∈r,inI x.2)->MOk m->MOk (zG r m).1:=by
 induction r with
 |nil=>intro m _ h;exact h
 |cons x r d=>intro m b h;have a:=Sx x (b x zs) m h;rw[zG];split;exact d _ (fun y c=>b y (by simp[c])) a;exact a
def jj(nxt:Int)(r r':YL):Prop:=∀m:MS,MOk m->m.aE=Z->m.pc=nxt ->
 (zG r' m).2.1=(zG r m).2.1/\(zG r' m).2.2<=(zG r m).2.2/\(zG r' m).1.out=(zG r m).1.out/\((zG r m).2.1=0->(zG r' m).1=(zG r m).1)
theorem jj.refl(nxt:Int)(r:YL):jj nxt r r:=fun _ _ _ _=>⟨rfl,Zc _,rfl,fun _=>rfl⟩
theorem jj.trans{nxt:Int}{a b c:YL}(q:jj nxt a b)(r:jj nxt b c):jj nxt a c:=by intro m f e g;obtain⟨d,i,j,k⟩:=q m f e g;obtain⟨l,n,o,p⟩:=r m f e g;exact⟨l.trans d,Nat.le_trans n i,o.trans j,fun h=>(p (d.trans h)).trans (k h)⟩
theorem Jp{cs:List Blo}{i:Nat}{c:Blo}(b:cs[i]? = O c){m:Nat}(g:m<c.2.length):(cs.flatMap (·.2))[((cs.take i).flatMap (·.2)).length+m]? = c.2[m]?:=by
 have f:=(Zb.1 b).1;have e:cs=cs.take i++c::cs.drop (i+1):=by have a:=drop_eq_getElem_cons f;rw[(Zb.1 b).2]at a;rw[<-a,take_append_drop]
 have d:cs.flatMap (·.2)=(cs.take i).flatMap (·.2)++(c.2++(cs.drop (i+1)).flatMap (·.2)):=by
  conv=>lhs;rw[e]
  rw[flatMap_append,flatMap_cons]
 rw[d,Zw zo,Nat.add_sub_cancel_left,Zu g]
theorem pZ{cs:List Blo}{i:Nat}{c:Blo}(a:cs[i]? = O c):((cs.take (i+1)).flatMap (·.2)).length=((cs.take i).flatMap (·.2)).length+c.2.length:=by rw[take_add_one,a,flatMap_append,Zi];simp
def uF(bs:List Blo)(G:Nat->Prop)(t:Int):Prop:=∃(i:Nat)(b:Blo),bs[i]? = O b/\(b.1:Int)=t/\G b.1
def qC(p:PrS)(f:Blo->Blo)(t:Int):Int:=if t<p.1.length then(yO ((zt p.1 p.2).map f) p.1.length ((zt p.1 p.2).map f).length).1.getD t.toNat 0 else((((zt p.1 p.2).map f).flatMap (·.2)).length:Nat)
theorem dj{p:PrS}(o:yl p){f:Blo->Blo}(e:∀b,(f b).1=b.1){i:Nat}{b:Blo}(k:(zt p.1 p.2)[i]? = O b):qC p f b.1=((((zt p.1 p.2).map f).take i).flatMap (·.2)).length:=by
 have ok:=xF o;have g:((zt p.1 p.2).map f).Pairwise (fun a b=>a.1≠b.1):=by rw[pairwise_map];exact(pY ok.firsts ok.full).imp (fun h=>by rw[e,e];exact h)
 have j:((zt p.1 p.2).map f)[i]? = O (f b):=by rw[Zn,k];rfl
 have:=tt ((zt p.1 p.2).map f) (((zt p.1 p.2).map f).take i) (replicate p.1.length 0,0) p.1.length zs (fun c m=>by
   obtain⟨d,n,rfl⟩:=mem_map.1 m
   rw[e]
   exact ok.low d n) g i (f b) j rfl
 have l:=ok.low b (Zd k);unfold qC;rw[if_pos zo,Zr];unfold yO;rw[take_length];rw[e]at this;rw[Zj,this];simp
theorem ig{p:PrS}(g:yl p){i:Nat}{b:Blo}(a:(zt p.1 p.2)[i]? = O b):(∃c,(zt p.1 p.2)[i+1]? = O c/\c.1=b.1+b.2.length)\/(i+1=(zt p.1 p.2).length/\b.1+b.2.length=p.1.length):=by have ok:=xF g;have l:=(Zb.1 a).1;have j:=ok.firsts i b a;have f:=pZ a;by_cases h:i+1<(zt p.1 p.2).length;left;obtain⟨c,d⟩:∃c,(zt p.1 p.2)[i+1]? = O c:=⟨_,Za h⟩;have k:=ok.firsts (i+1) c d;exact⟨c,d,zo⟩;right;refine⟨zo,?_⟩;have e:(zt p.1 p.2).take (i+1)=zt p.1 p.2:=take_of_length_le zo;rw[e,ok.flat]at f;omega
theorem Cu{p:PrS}(g:yl p){f:Blo->Blo}(m:∀b,(f b).1=b.1){i:Nat}{b:Blo}(d:(zt p.1 p.2)[i]? = O b):qC p f ((b.1+b.2.length:Nat):Int)=((((zt p.1 p.2).map f).take i).flatMap (·.2)).length+(f b).2.length:=by
 have a:((zt p.1 p.2).map f)[i]? = O (f b):=by rw[Zn,d];rfl
 have k:=pZ a;rcases ig g d with⟨c,l,e⟩|⟨h,e⟩;rw[<-e,dj g m l];omega;rw[e];unfold qC;rw[if_neg zo];have j:((zt p.1 p.2).map f).take (i+1)=(zt p.1 p.2).map f:=take_of_length_le zp;rw[j]at k;omega
theorem qq{p:PrS}(k:yl p){b:Blo}(d:b∈zt p.1 p.2):xJ b.2:=by
 intro j x l g;have ok:=xF k;obtain⟨i,f⟩:=getElem?_of_mem d;have a:=ok.inner b d (j+1) zo g;have c:=jY ok.flat ok.firsts f (m:=j) zo;rw[l]at c;refine Classical.byContradiction (fun h=>?_)
 have e:=uK p.1 p.2 (b.1+j) x c (by
   unfold yM at h
   unfold zT yE
   simp
   omega)
 rw[show b.1+(j+1)=b.1+j+1 from zo,e]at a;cases a
theorem Qv {p:PrS} (hp:yl p) {f:Blo→Blo} (hf:∀ b,(f b).1=b.1) {G:Nat→Prop} (hin:∀ b∈zt p.1 p.2,xJ (f b).2∧∀ y∈(f b).2,zT y.1=Y→iV p.1 y.2) (hG:∀ b∈zt p.1 p.2,G b.1→(∀ x∈b.2,zT x.1=Y→G x.2.toNat)∧(∀ x,b.2.getLast? = O x→yE x.1=Y→G (b.1+b.2.length))) (hsim:∀ b∈zt p.1 p.2,G b.1→jj ((b.1+b.2.length:Nat):Int) b.2 (f b).2) (k:Nat) : ∀ (m:MS) (o:Obs),qc p.1 m k o→MOk m→(m.aE=Y∨(m.aE=Z∧uF (zt p.1 p.2) G m.pc∧∀ c∈m.aC,uF (zt p.1 p.2) G c))→∃ k',k'≤k∧qc (yw p.1.length p.2 ((zt p.1 p.2).map f)).1 (qk (qC p f) m) k' o:=by
 have ok:=xF hp;induction k using Nat.strongRecOn with
 |ind k ih=>
  intro m o he hm hc;rcases hc with hh|⟨hh,⟨i,b,hi,hpc,hg⟩,hcalls⟩;cases he with
  |halt _=>exact⟨0,Zc _,qc.halt (m:=qk (qC p f) m) hh⟩
  |err h1 _=>rw[hh]at h1;cases h1
  |step h1 _ _=>rw[hh]at h1;cases h1
  have hbm:=Zd hi;have hne:=ok.full b hbm;obtain⟨hpl,htar⟩:=hin b hbm;obtain⟨g1,g2⟩:=hG b hbm hg
  have hmemp:∀ x∈b.2,x∈p.1:=fun x hx=>by
    rw[← ok.flat]
    exact mem_flatMap.2 ⟨b,hbm,hx⟩
  have hold:=tU (l:=p.1) b.2 b.1 m (fun j x hx=>by
    rw[jY ok.flat ok.firsts hi (Zb.1 hx).1]
    exact hx) (qq hp hbm) hpc.symm hh
  have hbi:((zt p.1 p.2).map f)[i]? = O (f b):=by rw[Zn,hi];rfl
  have hnew:=tU (l:=(yw p.1.length p.2 ((zt p.1 p.2).map f)).1) ((f b).2.map (aP (qC p f))) ((((zt p.1 p.2).map f).take i).flatMap (·.2)).length (qk (qC p f) m) (fun j x hx=>by
    rw[Zn]at hx
    obtain⟨y,hy,rfl⟩:=Option.map_eq_some_iff.1 hx
    have hjl:=(Zb.1 hy).1
    have e:=Jp hbi hjl
    show (jS _ _ _)[_]? = _
    rw[dA,Zn,e,hy]
    simp only[Option.map_some,Zs]
    unfold xD aP
    split
    next hn =>
      have:=(qF hp (htar y (Zd hy) hn)).2.1
      have h0:=(qF hp (htar y (Zd hy) hn)).1
      unfold qC
      rw[if_pos zo]
    · rfl) (fun j x hx hj=>by
    rw[Zn]at hx
    obtain⟨y,hy,rfl⟩:=Option.map_eq_some_iff.1 hx
    rw[length_map]at hj
    have:(aP (qC p f) y).1=y.1:=by unfold aP;split<;>rfl
    rw[this]
    exact hpl j y hy hj) (by
    show qC p f m.pc=_
    rw[← hpc,dj hp hf hi]) hh
  have est:({ qk (qC p f) m with pc:=((((((zt p.1 p.2).map f).take i).flatMap (·.2)).length+((f b).2.map (aP (qC p f))).length:Nat):Int) }:MS)=qk (qC p f) { m with pc:=((b.1+b.2.length:Nat):Int) }:=by unfold qk;rw[Cu hp hf hi,length_map];simp
  rw[est,JD]at hnew;simp only at hnew;obtain⟨s1,s2,s3,s4⟩:=hsim b hbm hg { m with pc:=((b.1+b.2.length:Nat):Int) } (hm.pc _) hh rfl;generalize hz:zG b.2 { m with pc:=((b.1+b.2.length:Nat):Int) }=z at *;generalize hz':zG (f b).2 { m with pc:=((b.1+b.2.length:Nat):Int) }=z' at *;by_cases h0:z.2.1=0;obtain⟨k1,e1,he1⟩:=(hold.2 h0).2 k o he;have hst:=iA b.2 { m with pc:=((b.1+b.2.length:Nat):Int) };rw[hz]at hst;have hlen:=length_pos_iff.2 hne;have hz2:=hst.1 h0;have hmz:MOk z.1:=by rw[← hz];exact nD _ _ (fun x hx=>(hp.K x (hmemp x hx)).2) (hm.pc _)
  have hnx:=FX (P:=uF (zt p.1 p.2) G) b.2 { m with pc:=((b.1+b.2.length:Nat):Int) } (qq hp hbm) hne hh hcalls (fun x hx hn=>by
    obtain⟨t1,t2,t3⟩:=qF hp ⟨x,hmemp x hx,hn,rfl⟩
    obtain⟨c,hcm,hc1⟩:=ok.has _ t2 t3
    obtain⟨j,hj⟩:=getElem?_of_mem hcm
    exact⟨j,c,hj,zo,by rw[hc1];exact g1 x hx hn⟩) (fun x hx hgo=>by
    rcases ig hp hi with ⟨c,hc,e⟩|⟨h,e⟩
    · exact⟨i+1,c,hc,by rw[e],by rw[e];exact g2 x hx hgo⟩
    · exfalso
      have hlast:p.1.getLast? = O x:=by
        rw[← ok.flat]
        refine (wC (c:=b) ?_ hne).trans hx
        rw[getLast?_eq_getElem?,← hi]
        congr 1
        omega
      rw[eB hp.last x hlast]at hgo
      cases hgo) (by rw[hz];exact h0)
  rw[hz]at hnx;obtain⟨k2,h2,he2⟩:=ih k1 zo z.1 o he1 hmz hnx;rw[← s4 h0]at he2;exact⟨k2+z'.2.2,zo,(hnew.2 (s1.trans h0)).1 k2 o he2⟩;obtain⟨e1,e2⟩:=(hold.1 h0).2 k o he;refine⟨z'.2.2,zo,?_⟩;have:=(hnew.1 (by rw[s1];exact h0)).1;rw[e2,← s1,← s3];exact this
def fB(W0:YW)(L:YL)(s8:Value)(wc:YW):Prop:=∃q er a1 n1 k1 a4 n4 k4 out st,s8=A (O ⟨q,0,X⟩)/\Blk wc q #[I J er,S a1 n1 k1,S a4 n4 k4,Sr out,I J st] 44/\er=(zO L (L.length:Int).toNat 0 (zZ 0 1000 1000 1000 1000 0 0)).2.1/\(er=0->bh wc a1 (zO L (L.length:Int).toNat 0 (zZ 0 1000 1000 1000 1000 0 0)).1.C/\n1=(zO L (L.length:Int).toNat 0 (zZ 0 1000 1000 1000 1000 0 0)).1.C.length/\n1<=1000)/\Below W0.heap.size W0 wc
theorem sI:xG 1000 1000 1000 1000:=by unfold xG cf;omega
theorem fB.new{b W a:YW}{L:YL}{er:Int}{c d:YA}{g e i f:Nat}{out:YB}{st:Int}(h:fx W L 0 0 0 1000 1000 1000 1000 L.length er (S c g e) (S d i f) out st a)(j:Below b.heap.size b a):fB b L (A (O ⟨a.heap.size,0,X⟩)) (a.alloc (C #[I J er,S c g e,S d i f,Sr out,I J st] 44)):=by refine⟨a.heap.size,er,c,g,e,d,i,f,out,st,rfl,Blk.new _ _ _,(h.yes sI).1,fun l=>?_,j.trans ((zB _ _).m j.size)⟩;obtain⟨n,_,o,_⟩:=h.ok sI l;obtain⟨m,k⟩:=Ff n;exact⟨m.z (zB _ _),k,by rw[k];exact o⟩
theorem fB.old{b W i:YW}{L:YL}{er:Int}{d j:YA}{g f l k:Nat}{out:YB}{st:Int}(h:fx W L 0 0 0 1000 1000 1000 1000 L.length er (S d g f) (S j l k) out st i)(p:Below b.heap.size b i)(t:b.heap.size<W.heap.size)(q:Blk i b.heap.size #[I J 0,S X 0 0,S X 0 0,Sr ⟨#[]⟩,I J 0] 44):fB b L (A (O ⟨b.heap.size,0,X⟩)) (((((i.setCell ⟨b.heap.size,0,X⟩ (I J er)).setCell ⟨b.heap.size,1,X⟩ (S d g f)).setCell ⟨b.heap.size,2,X⟩ (S j l k)).setCell ⟨b.heap.size,3,X⟩ (Sr out)).setCell ⟨b.heap.size,4,X⟩ (I J st)):=by
 refine⟨b.heap.size,er,d,g,f,j,l,k,out,st,rfl,dk q rfl,(h.yes sI).1,fun o=>?_,((((p.setCell (Zc _) _).setCell (Zc _) _).setCell (Zc _) _).setCell (Zc _) _).setCell (Zc _) _⟩;obtain⟨n,_,s,_⟩:=h.ok sI o
 have c:(Value.slice d g f).ownBlock≠O b.heap.size:=fun e=>by
   have:=(zC n e).2
   omega
 obtain⟨r,m⟩:=Ff (zA (zA (zA (zA (zA n (a:=⟨b.heap.size,0,X⟩) c _) (a:=⟨b.heap.size,1,X⟩) c _) (a:=⟨b.heap.size,2,X⟩) c _) (a:=⟨b.heap.size,3,X⟩) c _) (a:=⟨b.heap.size,4,X⟩) c _);exact⟨r,m,by rw[m];exact s⟩
theorem fx.sz{W c:YW}{l:YL}{p:Nat}{en ce ls la lc lo fuel er:Int}{b a:Value}{out:YB}{st:Int}(_:fx W l p en ce ls la lc lo fuel er b a out st c){n:Nat}(h:n<W.heap.size):Hid (n<W.heap.size):=V h
theorem JC{row:YL}{x:Int×Int}(a:row.getD 0 (0,0)=x)(h:x.1≠0\/row.all kL=Z):yH row=X:=by unfold yH;rw[a,if_pos h]
theorem Ra{row:YL}(h:(xz row).2.1≠0\/row.length<=(xz row).1.C.length):yH row=X:=by unfold yH;split;rfl;first | rfl | rw[if_pos h]
theorem Rb{row:YL}{x:Int×Int}(d:row.getD 0 (0,0)=x)(a:x.1=0)(b:row.all kL=Y)(c:(xz row).2.1=0)(e:¬row.length<=(xz row).1.C.length):yH row=O ((xz row).1.C.map (fun p=>((0:Int),p))):=by unfold yH;rw[d,if_neg (by rw[b];simp[a]),if_neg (by rw[c];simp;omega)]
theorem rH (fb tb : Nat) (rv : Value) (ao : Option Addr) (c : Nat) (row : List (Int × Int)) (w : World) (hf : wi w fb tb rv) (ht : Lib.TabIs prog w "internal/strconv.uint64pow10" .u64 Lib.pow10Tab) (hin : InL w ao row) (hpos : 0 < row.length) (hn : row.length ≤ 1000) (hi : ∀ x ∈ row, inI x.2) : Calls prog 198 #[A (O ⟨fb,0,X⟩),S ao row.length c] w fun e w'=>aD w.heap.size w' (yH row) e∧Below w.heap.size w w':=by
 obtain⟨x,hx⟩:∃ x,row[0]? = O x:=⟨_,Za hpos⟩;have hx0:row.getD 0 (0,0)=x:=by simp[getD,hx]
 have hnI:(row.length:Int)≤1000:=zo;have hposI:(0:Int)<row.length:=zo;generalize hres:yH row=res;have HRS:=V hres;obtain⟨g,off,rfl,hgl,c1,c2⟩:=ju hin hx;simp only[Nat.zero_mul,Nat.add_zero]at c1 c2;by_cases h0:x.1=0
 ·rw[h0]at c1;have HAR:=V (tO (O ⟨g,off,X⟩) c row w hin zo);have hall:∀ q,row.all kL=q→q=Y∨q=Z:=fun q _=>by cases q<;>simp
  cases hq:row.all kL with
  |false=>have hr0:=HRS.symm.trans (JC hx0 (Zf hq));subst hr0;rw[hq]at HAR;clear hf ht hin hi hx hx0 h0 hq hall hres;go_enter func198,ntmps198;go_wp2_with fail;refine HAR.m ?_;rintro e w1 ⟨rfl,hb1⟩;have HB1:=V hb1;clear hb1 HAR;go_wp2_with fail;go_ret2;exact⟨rfl,U HB1⟩
  |true=>
   have HYS:Hid ((xz row).2.1=0→¬ row.length≤(xz row).1.C.length→res=O ((xz row).1.C.map (fun p=>((0:Int),p)))):=fun u1 u2=>HRS.symm.trans (Rb hx0 h0 hq u1 u2);have HNS:Hid ((xz row).2.1≠0∨row.length≤(xz row).1.C.length→res=X):=fun u=>HRS.symm.trans (Ra u);rw[hq]at HAR;have HOK:=V (SX hq hi hn);have HF:=V hf;have HT:=V (Lib.tabBelow_of_tabIs ht);have HIN:=V hin;clear hf ht hin hi hx hx0 h0 hq hall hres HRS;go_enter func198,ntmps198;go_wp2_with fail;refine HAR.m ?_;rintro e w1 ⟨rfl,hb1⟩;have HB1:=V hb1;have HOPS:=V (np (O ⟨w1.heap.size,0,X⟩) 1 [5] (w1.alloc (C #[I J 5] 3)) (lq w1 _ [5] rfl _) zs);clear hb1 HAR;go_wp2_with fail;refine HOPS.m ?_;rintro e w2 ⟨a2,c2',rfl,ho2,hb2⟩;have hb12:Below w1.heap.size w1 w2:=(zB w1 _).trans (hb2.m (zB w1 _).size);have HB2:Hid (Below w.heap.size w w2):=HB1.trans (hb12.m HB1.size);have hin2:=HIN.z HB2;have HCC:=V (uR w2.heap.size 2 [(O ⟨g,off,X⟩,c,row),(a2,c2',[(5,0)])] _ (oG w2 (O ⟨g,off,X⟩) a2 c c2' row [(5,0)] hin2 ho2.isIn.1 33) zs (by simp[qi];omega));clear HOPS ho2 hb2 hb12 hin2;have ecat:qi [(O (⟨g,off,X⟩:Addr),c,row),(a2,c2',[((5:Int),(0:Int))])]=row++[(5,0)]:=by simp[qi]
   rw[ecat]at HCC;clear ecat;obtain⟨L,hL⟩:∃ L,L=row++[((5:Int),(0:Int))]:=⟨_,rfl⟩;rw[← hL]at HCC HOK;have hLl:L.length=row.length+1:=by rw[hL];simp
   have HL:=V hL;have HLL:=V hLl;have hL1:0<L.length:=zo;have hL2:L.length≤1001:=zo;clear hL hLl;go_wp2_with fail;refine HCC.m ?_;rintro e w3 ⟨a3,c3,rfl,ho3,hb3⟩;have HB3:Hid (Below w.heap.size w w3):=HB2.trans (((zB w2 _).trans (hb3.m (zB w2 _).size)).m HB2.size);have ho3':w3.ownsRow 0 65 2 (S a3 L.length c3) L.length (zc L):=zV ho3 (Zq _);obtain⟨g3,c3',e3,_,_⟩:=ho3'.form zo;simp only[Zk,true_and]at e3;obtain⟨rfl,rfl⟩:=e3;have HLA:=V (aq.ofRow ho3');clear HCC ho3 hb3 ho3';have hbA:=yG w3 (C #[S (O ⟨g3,0,X⟩) L.length c3,I J 0,I J 0] 73) (C #[I J 1000,I J 1000,I J 1000,I J 1000] 39);have hPb:Blk ((w3.alloc (C #[S (O ⟨g3,0,X⟩) L.length c3,I J 0,I J 0] 73)).alloc (C #[I J 1000,I J 1000,I J 1000,I J 1000] 39)) w3.heap.size #[S (O ⟨g3,0,X⟩) L.length c3,I J 0,I J 0] 73:=(Blk.new w3 _ _).alloc _;have hLb:=vD w3 (C #[S (O ⟨g3,0,X⟩) L.length c3,I J 0,I J 0] 73) #[I J 1000,I J 1000,I J 1000,I J 1000] 39;have HBA:=V hbA;have HPB:=V hPb;have HLB:=V hLb;clear hbA hPb hLb;go_wp2_with fail;generalize (w3.alloc (C #[S (O ⟨g3,0,X⟩) L.length c3,I J 0,I J 0] 73)).alloc (C #[I J 1000,I J 1000,I J 1000,I J 1000] 39)=W0 at *;have HBW0:Hid (Below w.heap.size w W0):=HB3.trans (HBA.m HB3.size);have hfo:=(HF.z HBW0).1;have hcf:=hfo.u;have hlf:=hfo.lt;have hcp:=HPB.u;have hlp:=HPB.lt;have hcl:=HLB.u;have hll:=HLB.lt
   have HRUN:Hid (∀ W,Below W0.heap.size W0 W→Calls prog 40 #[A (O ⟨tb,0,X⟩),Ag #[S (O ⟨g3,0,X⟩) L.length c3,I J 0,I J 0],Ag #[I J 1000,I J 1000,I J 1000,I J 1000],I J L.length] W (mV W L 0 0 0 1000 1000 1000 1000 L.length)):=fun W hW=>by
     have hbW:Below w.heap.size w W:=HBW0.trans (hW.m HBW0.size)
     have hla:=(HLA.to HBA)
     have hla2:=hla.to (hW.m HBA.size)
     have hsz:w3.heap.size≤W.heap.size:=Nat.le_trans HBA.size hW.size
     exact rR tb g3 c3 0 L 0 0 1000 1000 1000 1000 L.length W (HF.z hbW).2 (U HT W hbW) ⟨Nat.lt_of_lt_of_le hla2.low hsz,hla2.u⟩ HOK zo zo zo
   have HSK:Hid (∀ w',Below W0.heap.size W0 w'→w'.cell? ⟨fb,0,X⟩=O (A (O ⟨tb,0,X⟩))∧w'.cell? ⟨w3.heap.size,0,X⟩=O (S (O ⟨g3,0,X⟩) L.length c3)∧w'.cell? ⟨w3.heap.size,1,X⟩=O (I J 0)∧w'.cell? ⟨w3.heap.size,2,X⟩=O (I J 0)∧w'.cell? ⟨w3.heap.size+1,0,X⟩=O (I J 1000)∧w'.cell? ⟨w3.heap.size+1,1,X⟩=O (I J 1000)∧w'.cell? ⟨w3.heap.size+1,2,X⟩=O (I J 1000)∧w'.cell? ⟨w3.heap.size+1,3,X⟩=O (I J 1000)):=fun W hW=>by
     have hf2:=hfo.z hW hfo.lt
     have hp2:=HPB.z hW HPB.lt
     have hl2:=HLB.z hW HLB.lt
     exact⟨hf2.u 0,hp2.u 0,hp2.u 1,hp2.u 2,hl2.u 0,hl2.u 1,hl2.u 2,hl2.u 3⟩
   clear hfo;go_cut [8] from 26 to 49 (fun s8 wc=>fB W0 L s8 wc)
   case first=>go_region_held_law (fun w'=>w'.cell? ⟨fb,0,X⟩=O (A (O ⟨tb,0,X⟩))∧w'.cell? ⟨w3.heap.size,0,X⟩=O (S (O ⟨g3,0,X⟩) L.length c3)∧w'.cell? ⟨w3.heap.size,1,X⟩=O (I J 0)∧w'.cell? ⟨w3.heap.size,2,X⟩=O (I J 0)∧w'.cell? ⟨w3.heap.size+1,0,X⟩=O (I J 1000)∧w'.cell? ⟨w3.heap.size+1,1,X⟩=O (I J 1000)∧w'.cell? ⟨w3.heap.size+1,2,X⟩=O (I J 1000)∧w'.cell? ⟨w3.heap.size+1,3,X⟩=O (I J 1000)) (first | with_reducible exact U HSK _ (U H1) | with_reducible exact U HSK _ ((U H1).trans ((zB _ _).m (U H1).size)) | with_reducible exact U HSK _ ((((((U H1).setCell (Zc _) _).setCell (Zc _) _).setCell (Zc _) _).setCell (Zc _) _).setCell (Zc _) _) | with_reducible exact U HSK _ zb) (first | (refine zN rfl 40 #[.tmp 29,.tmp 30,.tmp 31,.tmp 34] #[82,73,39,3] rfl func40 uz uy #[A (O ⟨tb,0,X⟩),Ag #[S (O ⟨g3,0,X⟩) L.length c3,I J 0,I J 0],Ag #[I J 1000,I J 1000,I J 1000,I J 1000],I J L.length] zh (U HRUN _ zb) ?_;rintro e wu hout;obtain⟨er,a1,n1,k1,a4,n4,k4,out,st,rfl,hres⟩:=hout.res;have hjb:Blk wu W0.heap.size #[I J 0,S X 0 0,S X 0 0,Sr ⟨#[]⟩,I J 0] 44:=Blk.z zk hres.z zs;have hcj:=hjb.u;have hfj:=hjb.H;have hlj:=hjb.lt;have HJ:=V hjb;clear hjb;have H1:Hid (Below W0.heap.size W0 wu):=Below.trans zb (hres.z.m zs);have HRES:=V hres;have HSZ:Hid (W0.heap.size<_):=hres.sz zs;clear hres hout;refine⟨_,rfl,?_⟩) | (refine zN rfl 40 #[.tmp 29,.tmp 30,.tmp 31,.tmp 34] #[82,73,39,3] rfl func40 uz uy #[A (O ⟨tb,0,X⟩),Ag #[S (O ⟨g3,0,X⟩) L.length c3,I J 0,I J 0],Ag #[I J 1000,I J 1000,I J 1000,I J 1000],I J L.length] zh (U HRUN _ zb) ?_;rintro e wu hout;obtain⟨er,a1,n1,k1,a4,n4,k4,out,st,rfl,hres⟩:=hout.res;have H1:Hid (Below W0.heap.size W0 wu):=Below.trans zb (hres.z.m zs);have HRES:=V hres;clear hres hout;refine⟨_,rfl,?_⟩));all_goals go_wp2;go_meet;first | with_reducible exact fB.new (U HRES) (U H1) | with_reducible exact fB.old (U HRES) (U H1) (U HSZ) (U HJ)
   case rest=>
    obtain⟨q,er,a1,n1,k1,a4,n4,k4,out,st,rfl,hq,her,hst,hbc⟩:=hcut;obtain⟨w5,rfl⟩:∃ w5:YW,w5=wc:=⟨_,rfl⟩;have hrr:xz row=zO L (L.length:Int).toNat 0 (zZ 0 1000 1000 1000 1000 0 0):=by unfold xz;rw[← U HL,← U HLL,Zr]
    rw[← hrr]at her hst;have HER:=V her;have HST:=V hst;have HB5:Hid (Below w.heap.size w w5):=HBW0.trans (hbc.m HBW0.size);have hcq:=hq.u;have hlq:=hq.lt;clear hq hbc her hst hrr HRUN HSK hcf hlf hcp hlp hcl hll c1 c2;by_cases he:er=0
    ·subst he;obtain⟨i1,i2,i3⟩:=U HST rfl;have HI1:=V i1;by_cases hle:row.length≤n1
     ·have hleI:(row.length:Int)≤n1:=zo;have HI2:=V i2;clear i1 i2;go_wp2_with fail;go_ret2;rw[U HNS (Zf (by rw[← U HI2];exact hle))];exact⟨rfl,U HB5⟩
     ·have hleI:¬ ((row.length:Int)≤n1):=zo;have hlt0:(n1:Int)<row.length:=zo;have HLT:=V (ue a1 k1 (xz row).1.C w5 i1 zo);rw[← i2]at HLT;have HI2:=V i2;have HER':Hid ((xz row).2.1=0):=HER.symm;clear i1 i2;go_wp2_with fail;refine HLT.m ?_;rintro e w6 ⟨a6,c6,rfl,ho6,hb6⟩;have HO6:=V ho6;have HB6:=V hb6;clear HLT ho6 hb6;go_wp2_with fail;go_ret2;rw[U HYS (U HER') (by rw[← U HI2];exact hle)];refine⟨⟨S a6 (xz row).1.C.length c6,rfl,?_⟩,HB5.trans (HB6.m HB5.size)⟩;have h6:=U HO6;unfold yD at h6;rw[length_map]at h6 ⊢;exact zV h6 HB5.size
    ·have he':(er != 0)=Y:=by simpa using he
     go_wp2_with fail;go_ret2;rw[U HNS (Zg (by rw[← U HER];exact he))];exact⟨rfl,U HB5⟩
 ·have hr0:=HRS.symm.trans (JC hx0 (Zg h0));subst hr0;have h0':(x.1 != 0)=Y:=by simpa using h0
  clear hf ht hin hi hx hx0 h0 hres HRS;go_enter func198,ntmps198;go_wp2_with fail;go_ret2;exact⟨rfl,Ze _ _⟩
def aw(B:Nat)(w:YW)(g:Nat)(b:List Pc):Prop:=w.ownsRow B 211 3 (S (O ⟨g,0,X⟩) b.length b.length) b.length (yY b)
theorem Jc(n:Nat):yY (replicate n ((0:Int),(0:Int),(0:Int)))=replicate (n*3) (Value.int .i64 0):=by
 induction n with
 |zero=>rfl
 |succ n a=>have e:(n+1)*3=n*3+1+1+1:=zo;rw[e,replicate_succ,replicate_succ,replicate_succ,replicate_succ,<-a];rfl
theorem UK(n:Nat):madeCells #[I J 0,I J 0,I J 0] (n*3)=(yY (replicate n ((0:Int),(0:Int),(0:Int)))).toArray:=by rw[Jc];apply Array.ext';unfold madeCells;apply ext_getElem?;intro i;simp only[Array.toList_map,Array.toList_range,Zn,getElem?_replicate];by_cases h:i<n*3;rw[getElem?_range h,if_pos h];have:i%3=0\/i%3=1\/i%3=2:=zo;rcases this with e|e|e<;>simp[e];rw[getElem?_eq_none zp,if_neg h];rfl
theorem Ou(n:Nat)(g:n<=1000000000)(w:YW):(Instr.makeSlice 209 (I J (n:Int)) (I J (n:Int))).run prog w=.ok (S (O ⟨w.heap.size,0,X⟩) n n) (w.alloc (C (madeCells #[I J 0,I J 0,I J 0] (n*3)) 211)):=by obtain⟨f,d,a,b,c⟩:=info_parts tG;have e:=run_make (P:=prog) w 209 211 f _ underlying209 d a .i64 .i64 n n zo (Int.le_refl _) (by rw[c];omega) zo;simp only[Zr,b]at e;exact e
theorem Ia(w:YW)(n:Nat)(b:n<=1000000000):aw w.heap.size (w.alloc (C (madeCells #[I J 0,I J 0,I J 0] (n*3)) 211)) w.heap.size (replicate n ((0:Int),(0:Int),(0:Int))):=by rw[UK];have a:=hX (replicate n ((0:Int),(0:Int),(0:Int)));rw[length_replicate]at a;refine⟨by rw[a,length_replicate],Zf ⟨w.heap.size,n,_,zs,Zc _,Blk.new w _ _,zs,zm,by simp[a],?_⟩⟩;rw[length_replicate];exact take_of_length_le (by rw[a];exact Zc _)
theorem pz (l:List Pc) (i:Nat) (x:Pc) (h:l[i]? = O x):(yY l)[i * 3]? = O (I J x.1)∧(yY l)[i * 3+1]? = O (I J x.2.1)∧(yY l)[i * 3+2]? = O (I J x.2.2):=by
 induction l generalizing i with
 |nil=>simp at h
 |cons y l ih=>
  cases i with
  |zero=>simp at h;subst h;simp[yY]
  |succ i=>simp only[getElem?_cons_succ]at h;have:=ih i h;simp only[yY,flatMap_cons]at *;have e1:(i+1) * 3=i * 3+3:=zo;rw[e1];exact this
theorem Ln (l:List Pc) (k:Nat) (x:Pc) (hx:l[k]? = O x) (a b c:Int):(((yY l).set (k * 3) (I J a)).set (k * 3+1) (I J b)).set (k * 3+2) (I J c)=yY (l.set k (a,b,c)):=by
 induction l generalizing k with
 |nil=>simp at hx
 |cons y l ih=>
  cases k with
  |zero=>rfl
  |succ k=>have e:(k+1) * 3=k * 3+1+1+1:=zo;rw[e];have:=ih k (by simpa using hx);unfold yY at this ⊢;simp only[flatMap_cons,set_cons_succ];rw[← this];rfl
theorem aw.set{B:Nat}{w:YW}{g:Nat}{b:List Pc}(h:aw B w g b)(j:Nat)(a:j<b.length)(x y z:Int):aw B (((w.setCell ⟨g,j*3,X⟩ (I J x)).setCell ⟨g,j*3+1,X⟩ (I J y)).setCell ⟨g,j*3+2,X⟩ (I J z)) g (b.set j (x,y,z)):=by unfold aw at h ⊢;rw[length_set];have:=qI (qI (qI h (j*3) (I J x)) (j*3+1) (I J y)) (j*3+2) (I J z);rw[Ln b j _ (Za a)]at this;exact this
theorem aw.u{B:Nat}{w:YW}{g:Nat}{b:List Pc}(h:aw B w g b){j:Nat}{v:Pc}(a:b[j]? = O v):w.cell? ⟨g,j*3,X⟩=O (I J v.1)/\w.cell? ⟨g,j*3+1,X⟩=O (I J v.2.1)/\w.cell? ⟨g,j*3+2,X⟩=O (I J v.2.2):=by unfold aw at h;have f:=(Zb.1 a).1;obtain⟨c,d,e⟩:=pz b j v a;exact⟨by rw[zD h _ zo];exact c,by rw[zD h _ zo];exact d,by rw[zD h _ zo];exact e⟩
theorem aw.H{B:Nat}{w:YW}{g:Nat}{b:List Pc}(h:aw B w g b)(j:Nat):w.frozen? ⟨g,j,X⟩=Z:=yB h j
theorem aw.lt{B:Nat}{w:YW}{g:Nat}{b:List Pc}(h:aw B w g b):g<w.heap.size/\B<=g:=zC h (k:=g) rfl
theorem aw.z{B:Nat}{w w':YW}{g:Nat}{b:List Pc}(h:aw B w g b)(a:Below w.heap.size w w'):aw B w' g b:=(zz.aB a).row h
def vT(row:YL)(j:Nat):List Pc:=replicate j ((0:Int),(0:Int),(0:Int))++(few (row.drop j)).map Prod.fst
def kZ(row:YL)(j:Nat):YI:=replicate j 0++xy (few (row.drop j))
theorem Mj(row:YL)(j:Nat)(h:j<=row.length):(vT row j).length=row.length:=by unfold vT;rw[Zi,length_replicate,length_map,vF,length_drop];omega
theorem OD(row:YL)(j:Nat)(h:j<=row.length):(kZ row j).length=row.length+1:=by unfold kZ xy;rw[Zi,length_replicate,Zi,length_map,vF,length_drop];simp;omega
theorem JE{α:Type}(n:Nat)(z e:α)(t:List α):(replicate (n+1) z++t).set n e=replicate n z++e::t:=by rw[replicate_succ',Zy,set_append_right _ _ zs];simp
theorem BW(row:YL)(i:Nat)(e:Pc):(vT row (i+1)).set i e=replicate i ((0:Int),(0:Int),(0:Int))++e::(few (row.drop (i+1))).map Prod.fst:=JE _ _ _ _
theorem CL(row:YL)(i:Nat)(e:Int):(kZ row (i+1)).set i e=replicate i 0++e::xy (few (row.drop (i+1))):=JE _ _ _ _
theorem Qk{row:YL}{i:Nat}{x:Int×Int}(a:row[i]? = O x):vT row i=(vT row (i+1)).set i (xK x (row.drop (i+1)) (few (row.drop (i+1))) (xc (row.drop i)).length).1/\kZ row i=(kZ row (i+1)).set i (xK x (row.drop (i+1)) (few (row.drop (i+1))) (xc (row.drop i)).length).2:=by
 have b:=(Zb.1 a).1;have e:row.drop i=x::row.drop (i+1):=by rw[drop_eq_getElem_cons b,(Zb.1 a).2]
 rw[BW,CL];unfold vT kZ;rw[e];simp[few,xy]
theorem Gz:(f20.name == "runtime.NumGoroutine")=Z:=zr
theorem Gq:f20.body.isNone=Z:=zr
def jf(l:YL):YL:=l++replicate 8 ((0:Int),(0:Int))
theorem gM(l:YL):(jf l).length=l.length+8:=by simp[jf]
theorem Fm(l:YL){k:Nat}(h:k<l.length):(jf l)[k]? = l[k]?:=by unfold jf;rw[Zu h]
theorem Co(l:YL){k:Nat}(h:l.length<=k)(a:k<l.length+8):(jf l)[k]? = O (0,0):=by unfold jf;rw[Zw h,getElem?_replicate,if_pos zo]
theorem CG{w:YW}{g N:Nat}{l:YL}(b:N=l.length+8)(c:l.length<=8796093021960)(h:Blk w g (zc (jf l)).toArray 65):w.ownsRow 0 65 2 (S (O ⟨g,0,X⟩) N N) N (zc (jf l)):=by have e:=gM l;have a:=yL (jf l);subst b;refine⟨by rw[a,e],Zf ⟨g,l.length+8,(zc (jf l)).toArray,rfl,Zq _,h,Zc _,zm,by simp[a,e],?_⟩⟩;rw[take_of_length_le (by rw[a,e];exact Zc _)]
theorem Fe{w:YW}{g:Nat}{l:YL}(h:Blk w g (zc (jf l)).toArray 65):InL w (O ⟨g,0,X⟩) l:=by
 refine Zf ⟨g,0,rfl,h.lt,fun j u a=>?_⟩;rw[Nat.zero_add,h.u];have:(zc (jf l))[j]? = O u:=by unfold jf;rw[eD,Zu (Zb.1 a).1];exact a
 simpa using this
structure cw(w:YW)(l:YL)(en ce:Int)(W:YW)(vc vp:Value)(er:Int):Prop where
 no:jD l en ce=Z->vc=A X/\vp=A X/\er=5
 yes:jD l en ce=Y->er=0/\∃c g cap p g' cap' vH,vc=A (O ⟨c,0,X⟩)/\vp=A (O ⟨p,0,X⟩) /\
  Blk W c #[S (O ⟨g,0,X⟩) l.length cap,I J en,I J ce] 78/\W.ownsRow (w.heap.size+2) 65 2 (S (O ⟨g,0,X⟩) l.length cap) l.length (zc l) /\
  Blk W p #[S (O ⟨g',0,X⟩) l.length cap',I J en,I J ce,vH] 137/\W.ownsRow (w.heap.size+2) 65 2 (S (O ⟨g',0,X⟩) l.length cap') l.length (zc l)
theorem cw.longer{w:YW}{l:YL}{en ce:Int}{W d:YW}{i j:Value}{er:Int}(h:cw w l en ce W i j er)(b:Below W.heap.size W d):cw w l en ce d i j er:=by refine⟨h.no,fun s=>?_⟩;obtain⟨m,c,g,cap,p,k,a,t,n,o,e,q,f,r⟩:=h.yes s;exact⟨m,c,g,cap,p,k,a,t,n,o,e.z b e.lt,(zz.aB b).row q,f.z b f.lt,(zz.aB b).row r⟩
theorem cw.kept{B:Nat}{w W w':YW}{u:Nat}{F E:List Nat}{i H:Value}{q:Nat}{N:Nat}{mk:Int}{k:Nat}{Q:List Nat}{qg:Nat}{s t r:Value}{nn ni:Nat}{l:YL}{en ce:Int}{G K:Value}{er:Int}(h:cw w l en ce W G K er)(v:Kp B W w' u F E i H q (S (O ⟨w.heap.size+1,0,X⟩) N N) (S X 0 0) ni nn mk k Q qg s t r)(z:Lw B W u F E i H){L:YV}(D:Blk W q L 134){xs:List Value}{n8:Nat}(d:W.ownsRow 0 65 2 (S (O ⟨w.heap.size+1,0,X⟩) N N) n8 xs):cw w l en ce w' G K er:=by
 refine⟨h.no,fun hy=>?_⟩;obtain⟨R,c,g,cap,p,P,b,vH,h1,h2,h3,h4,h5,h6⟩:=h.yes hy
 have a:∀{x:Nat} {cs:YV} {T:TypeId},Blk W x cs T->70≠T->87≠T->90≠T->134≠T->65≠T->Blk w' x cs T:=fun m t1 t2 t3 t4 t5=>by
   refine m.still v.still ?_
   rintro(e|e|e|e)
   · exact z.notfoot m t1 t2 t3 e
   · subst e
     exact t4 (fE D m)
   · exact zR m d (fun M=>t5 M) e
   · simp[Value.ownBlock]at e
 have f:∀{y:Nat} {cap:Nat},W.ownsRow (w.heap.size+2) 65 2 (S (O ⟨y,0,X⟩) l.length cap) l.length (zc l)->w'.ownsRow (w.heap.size+2) 65 2 (S (O ⟨y,0,X⟩) l.length cap) l.length (zc l):=fun n=>by
   refine bK n v.still ?_
   rintro j o (e|e|e|e)
   · exact z.notrow n zd zd zd o e
   · exact zR D n zd (by rw[o,e])
   · have:=(zC n o).2
     simp[Value.ownBlock]at e
     omega
   · simp[Value.ownBlock]at e
 exact⟨R,c,g,cap,p,P,b,vH,h1,h2,a h3 zd zd zd zd zd,f h4,a h5 zd zd zd zd zd,f h6⟩
theorem cw.player{w:YW}{l:YL}{en ce:Int}{W:YW}{c p:Nat}{er:Int}(h:cw w l en ce W (A (O ⟨c,0,X⟩)) (A (O ⟨p,0,X⟩)) er)(j:jD l en ce=Y)(o:∀x∈l,inI x.2){q:Nat}(r:Blk W q #[A (O ⟨c,0,X⟩),A (O ⟨p,0,X⟩),Bl Z,Bl Z] 129):bj wV W q:=by obtain⟨z,y,g,cap,B,b,a,v,d,e,m,n,f,i⟩:=h.yes j;simp only[Value.pointer.injEq,Zs,Addr.mk.injEq,and_true]at d e;subst d e;obtain⟨s,t,u⟩:=Nx j o;exact⟨c,p,l,en,ce,r,⟨g,cap,m,zV n (Zq _)⟩,⟨b,a,v,f,f.lt,(zC i (k:=b) rfl).1,zV i (Zq _)⟩,s,t,u⟩
theorem Cj(B D:Nat)(ps d:List Nat)(vp vh:Value)(q:Nat)(l0:Int)(G H:Value)(y:YL)(z:YI)(w:YW)(h:Lw B w D ps d vp vh)(c:Blk w q #[G,H,I J l0] 134)(hi:w.ownsRow 0 65 2 G y.length (zc y))(hn:w.ownsRow 0 2 1 H z.length (zn z))(X0:y.length<=8796093022000)(Y0:z.length<=4398046511104)(V0:d.length+4<=17592186044416):Calls prog 68 #[A (O ⟨D,0,X⟩),A (O ⟨q,0,X⟩)] w fun e w'=>e=Rt (Tu #[])/\∃E N m o m0,Kp B w w' D ps d vp vh q G H y.length z.length (d.length+1) 3 E N m o m0:=Uo
theorem AH{P:Program}{k:Array Oper}{o:Oper}{a:Act}{w:YW}{K:Act→World→Prop}{Q:Exit→Act→World→Prop}{E:Prop}(j:o.guard=X)(f:FuncId)(args:Array Operand)(g:Array TypeId)(r:o.op=.call {callee:=.value (.func f),args:=args,argTypes:=g}){i:Func}(p:P.funcs[f]? = O i)(q:(i.name == "runtime.NumGoroutine")=Z)(l:i.body.isNone=Z)(b:YV)(c:args.map a.eval=b){R:Ending→World→Prop}(d:Tmp)(n:o.dst=O d)(m:Calls P f b w R)(h:∀e w',R e w'→∃v,e=Rt v∧K (a.put (O d) v) w'):if Region.wanted o (yielded k a.tmps)=Y then Oper.wp P o a w K Q else E:=by rw[←n]at h;exact zN j f args g r p q l b c m h
theorem hY.shape{w:YW}{l:YL}{en ce:Int}{e:Ending}{w':YW}(h:hY w l en ce e w'):∃d er,e=Rt (Tu #[A d,I J er])/\hY w l en ce (Rt (Tu #[A d,I J er])) w':=by rcases h with⟨⟨a,rfl⟩|⟨a,c,g,cap,rfl,f⟩,b⟩;exact⟨X,5,rfl,Zg ⟨a,rfl⟩,b⟩;exact⟨O ⟨c,0,X⟩,0,rfl,Zf ⟨a,c,g,cap,rfl,f⟩,b⟩
theorem mY.shape{w:YW}{l:YL}{en ce:Int}{e:Ending}{w':YW}(h:mY w l en ce e w'):∃d er,e=Rt (Tu #[A d,I J er])/\mY w l en ce (Rt (Tu #[A d,I J er])) w':=by rcases h with⟨⟨a,rfl⟩|⟨a,c,g,cap,i,rfl,f⟩,b⟩;exact⟨X,5,rfl,Zg ⟨a,rfl⟩,b⟩;exact⟨O ⟨c,0,X⟩,0,rfl,Zf ⟨a,c,g,cap,i,rfl,f⟩,b⟩
theorem tp{w W k m:YW}{l:YL}{en ce er i:Int}{j a:YA}(v:hY W l en ce (Rt (Tu #[A j,I J er])) k)(x:mY k l en ce (Rt (Tu #[A a,I J i])) m)(K:w.heap.size+2<=W.heap.size):er=i/\cw w l en ce m (A j) (A a) er/\((j=X/\a=X)\/∃c p,j=O ⟨c,0,X⟩/\a=O ⟨p,0,X⟩/\jD l en ce=Y):=by obtain⟨E,t⟩:=v;obtain⟨s,n⟩:=x;rcases E with⟨d,f⟩|⟨d,c,g,cap,f,o,G,y⟩;rcases s with⟨b,h⟩|⟨b,_⟩;simp only[Ending.returned.injEq,Value.tuple.injEq,Array.mk.injEq,List.cons.injEq,Value.pointer.injEq,Value.int.injEq,true_and,and_true]at f h;obtain⟨rfl,rfl⟩:=f;obtain⟨rfl,rfl⟩:=h;exact⟨rfl,⟨fun _=>⟨rfl,rfl,rfl⟩,fun r=>(by rw[d]at r;cases r)⟩,Zg ⟨rfl,rfl⟩⟩;rw[d]at b;cases b;rcases s with⟨b,_⟩|⟨b,p,u,e,F,h,z,H,B⟩;rw[d]at b;cases b;simp only[Ending.returned.injEq,Value.tuple.injEq,Array.mk.injEq,List.cons.injEq,Value.pointer.injEq,Value.int.injEq,true_and,and_true]at f h;obtain⟨rfl,rfl⟩:=f;obtain⟨rfl,rfl⟩:=h;have D:=t.size;refine⟨rfl,⟨fun q=>(by rw[d]at q;cases q),fun _=>⟨rfl,c,g,cap,p,u,e,F,rfl,rfl,o.z n o.lt,?_,z,zV B zo⟩⟩,Zf ⟨c,p,rfl,rfl,d⟩⟩;exact zV ((zz.aB n).row y) zo
end Go.Proofs.YtmeiikjpaepogaaGreatDoor
namespace Go.Proofs.YtmeiikjpaepogaaGreatDoor
open Go Go.RowKit Go.ChangeShapes Go.WideShapes Go.ChangeAt Go.Deep Go.Proofs.Tryz List
theorem Pk:prog.cellsOf 65=2:=zr
theorem LR:prog.bytesOf 65=16:=zr
theorem RG:prog.cellsOf 2=1:=zr
section
variable {H:Type} {enc:TypeId×Value->H} {w:YW}
theorem fZ {P:Program} {e:TypeId}:∀ {l:List (DataW H)} {d:DataW H},d∈l→∀ n∈d.weights P e,n∈DataW.weightsAll P e l
  | d0 :: l, d, hd, n, hn => by
    simp only[DataW.weightsAll,Zo]
    rcases mem_cons.1 hd with rfl|hd
    · exact Zg hn
    · exact Zf (fZ hd n hn)
  | [],_,hd,_,_=>by simp at hd
theorem JX{w:YW}{a:Addr}{v:Value}(h:w.cell? a=O v):a.spot=X/\a.block<w.heap.size:=by unfold World.cell? at h;split at h;rename_i b;refine⟨?_,lt_of_block b⟩;split at h;cases h;rename_i c;simpa using c;cases h
theorem Sw{z:Int}(h:(Lit.int .i64 z).wf=Y):inI z:=by simp[Lit.wf,IntKind.min,IntKind.max,IntKind.bits,IntKind.signed]at h;unfold inI;omega
theorem Cx{fuel:Nat}{v:Value}{x:DataW H×List MemPlace}(h:DataW.trod enc prog w 0 (fun _=>Y) Y fuel 33 [v]=O x)(q:(x.1.weights prog 33).all (·<=reachBytes)=Y):∃L c l,v=S L (length l) c/\InL w L l/\(∀y∈l,inI y.2)/\l.length<=8796093021960:=by
 rcases open_slice_pairs underlying33 underlying65 Pk rfl rfl cY RG h with⟨e,_⟩|⟨a,len,cap,m,n,s,t,D0,D1,P0,P1,e,hb,hl,hm,p,rfl,b⟩;simp only[List.cons.injEq,and_true]at e;exact⟨X,0,[],e,Zg rfl,fun y E=>by simp at E,zs⟩;simp only[List.cons.injEq,and_true]at e;subst e;simp only[if_true]at p;subst p
 have T:∀i,i<m->∃f d,s i=I J f/\t i=I J d/\inI d:=fun i B=>by
   obtain⟨_,_,t0,t1⟩:=b i B
   obtain⟨f,P,_,_⟩:=DataW.trod_int underlying3 t0
   obtain⟨d,Q,_,w1⟩:=DataW.trod_int underlying2 t1
   simp only[List.cons.injEq,and_true]at P Q
   exact⟨f,d,P,Q,Sw w1⟩
 have k:len<=8796093021960:=by unfold DataW.weights at q;rw[underlying33]at q;simp only[all_cons,Bool.and_eq_true,decide_eq_true_eq,length_map,length_range,LR]at q;have:=q.1;unfold reachBytes at this;omega
 refine⟨O a,m,(range len).map (fun i=>(intOf (s i),intOf (t i))),zs,?_,?_,by simpa using k⟩;by_cases h0:len=0;left;subst h0;rfl;right;obtain⟨c0,_,_,_⟩:=b 0 zo;have e0:a.add (0*2)=a:=by rw[Nat.zero_mul];rfl
 rw[e0]at c0;obtain⟨R,o⟩:=JX c0;obtain⟨W,off,sp⟩:=a;simp only at R o;subst R;refine⟨W,off,rfl,o,fun j u g=>?_⟩;have a0:j<len*2:=by have:=(Zb.1 g).1;rw[yL]at this;simpa using this
 obtain⟨F,G,_,_⟩:=b (j / 2) zo;obtain⟨f,d,K,r,_⟩:=T (j / 2) zo;have hx:((range len).map (fun i=>(intOf (s i),intOf (t i))))[j / 2]? = O (f,d):=by rw[Zn,getElem?_range zo];simp[K,r,intOf]
 obtain⟨M,N⟩:=zL _ _ _ hx;rw[cA]at F G;rcases Nat.mod_two_eq_zero_or_one j with D|D;have z:j / 2*2=j:=zo;rw[z]at M F;rw[M]at g;rw[F,K];exact g;have z:j / 2*2+1=j:=zo;rw[z]at N G;rw[N]at g;rw[G,r];exact g;intro y E;obtain⟨i,B,rfl⟩:=mem_map.1 E;obtain⟨f,d,K,r,h1⟩:=T i (by have:=mem_range.1 B;omega);simpa [r,intOf]using h1
end
end Go.Proofs.YtmeiikjpaepogaaGreatDoor
namespace Go.Proofs.YtmeiikjpaepogaaGreatDoor
open Go Go.RowKit Go.Proofs.Tryz List
def bZ(w:YW)(cs:YV):Prop:=AY cs/\∀oa om oc,cs[6]? = O (S oa om oc)->∃l,om=length l/\InL w oa l/\(∀x∈l,inI x.2)/\l.length<=8796093021960
theorem bZ.z{w w':YW}{cs:YV}(h:bZ w cs)(e:Below w.heap.size w w'):bZ w' cs:=by refine⟨h.1,fun g om i f=>?_⟩;obtain⟨l,a,b,c,d⟩:=h.2 g om i f;exact⟨l,a,b.z e,c,d⟩
theorem EN {w:YW} {b:Nat} (hb:Blk w b #[I J 5,I J 0] 65) (k:Nat):bZ w (Bs b k):=by
 refine⟨So b k,fun oa om oc hc=>?_⟩;have hnil:(X:YA)=oa∧0=om∧0=oc→∃ l,om=length l∧InL w oa l∧(∀ x∈l,inI x.2)∧l.length≤8796093021960:=by rintro ⟨rfl,rfl,rfl⟩;exact⟨[],rfl,Zg rfl,fun x hx=>by simp at hx,zs⟩
 unfold Bs at hc;split at hc;all_goals simp only[opC,getElem?_toArray,getElem?_cons_succ,getElem?_cons_zero,Zs,Zk]at hc
 all_goals first
   | exact hnil hc
   | (obtain ⟨rfl, rfl, rfl⟩ := hc
      refine⟨[(5,0)],rfl,Zf ⟨b,0,rfl,hb.lt,fun j u hj=>?_⟩,fun x hx=>?_,zs⟩
      · rw[Nat.zero_add,hb.u]
        have e:zc [(5,0)]=[I J 5,I J 0]:=rfl
        rw[e]at hj
        simpa using hj
      · simp at hx
        subst hx
        exact qy)
theorem AD{w:YW}{v:Value}{n:Nat}(h:vJ w v n):∀g off cap,v=S (O ⟨g,off,X⟩) n cap->0<n->g<w.heap.size:=by intro g off cap b e;obtain⟨f,a,rfl,h⟩:=h;obtain⟨i,c,cs,d,j,_⟩:=h 0 e;simp only[Zk]at b;obtain⟨rfl,_,_⟩:=b;simp only[Zs,Addr.mk.injEq,and_true]at d;omega
end Go.Proofs.YtmeiikjpaepogaaGreatDoor
