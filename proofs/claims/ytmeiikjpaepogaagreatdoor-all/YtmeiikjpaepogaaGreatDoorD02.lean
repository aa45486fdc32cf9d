/- Own. -/
import Derived.Test.YtmeiikjpaepogaaGreatDoorD01
import Derived.Lib.SmallJoins
import Derived.Lib.ParseIntBCases
open Option renaming some->O,none->X
open Bool renaming true->Y,false->Z
open Go.Value renaming int->I,slice->S,pointer->A,bool->Bl,string->Sr,tuple->Tu
open Go.Obj renaming cells->C
open Go.Ending renaming returned->Rt
open Go.IntKind renaming i64->J
set_option maxRecDepth 100000
set_option maxHeartbeats 2000000
namespace Go.Proofs.YtmeiikjpaepogaaGreatDoor
open Go Go.RowKit Go.Proofs.Tryz List
structure zU(w w':YW)(F:Nat->Prop):Prop where
 os:w'.os=w.os
 tape:w'.tape=w.tape
 output:w'.output=w.output
 size:w.heap.size<=w'.heap.size
 block:∀k,k<w.heap.size->¬F k->w'.heap[k]? = w.heap[k]?
theorem zU.refl(w:YW)(F:Nat->Prop):zU w w F:=⟨rfl,rfl,rfl,Zc _,fun _ _ _=>rfl⟩
theorem zU.trans{w c d:YW}{F G:Nat->Prop}(h:zU w c F)(k:zU c d G)(f:∀i,i<w.heap.size->G i->F i):zU w d F:=⟨k.os.trans h.os,k.tape.trans h.tape,k.output.trans h.output,Nat.le_trans h.size k.size,fun i b a=>by
    rw[k.block i (by have:=h.size;omega) (fun e=>a (f i b e)),h.block i b a]⟩
theorem zU.m{w w':YW}{F G:Nat->Prop}(h:zU w w' F)(c:∀i,i<w.heap.size->F i->G i):zU w w' G:=⟨h.os,h.tape,h.output,h.size,fun i a b=>h.block i a (fun e=>b (c i a e))⟩
theorem zU.alloc{w w':YW}{F:Nat->Prop}(h:zU w w' F)(o:Obj):zU w (w'.alloc o) F:=⟨h.os,h.tape,h.output,by have:=h.size;simp;omega,fun k b a=>by rw[Below.heap_alloc _ _ _ (by have:=h.size;omega)];exact h.block k b a⟩
theorem zU.drewN{w w':YW}{F:Nat->Prop}(h:zU w w' F)(n:Nat):zU w (w'.drewN n) F:=⟨h.os,h.tape,h.output,h.size,h.block⟩
theorem zU.set{w w':YW}{F:Nat->Prop}(h:zU w w' F){b:Nat}(a:F b\/w.heap.size<=b)(c:Nat)(u:Value):zU w (w'.setCell ⟨b,c,X⟩ u) F:=⟨h.os,h.tape,h.output,by have:=h.size;simpa [World.setCell]using this,fun k f d=>by
    rw[Below.heap_setCell _ _ _ _ (fun e=>?_)]
    · exact h.block k f d
    · simp at e
      subst e
      rcases a with a|a
      · exact d a
      · omega⟩
theorem zU.grown{w w' b:YW}{F:Nat->Prop}{row:Option Nat}(h:zU w w' F)(a:w'.grownBy b row)(g:∀k,row=O k->F k\/w.heap.size<=k):zU w b F:=⟨a.os.trans h.os,a.tape.trans h.tape,a.output.trans h.output,Nat.le_trans h.size a.size,fun k f d=>by
    rw[a.block k (by have:=h.size;omega) (fun e=>?_)]
    · exact h.block k f d
    · rcases g k e.symm with c|c
      · exact d c
      · omega⟩
theorem zU.aB{w w':YW}{B:Nat}(h:Below B w w'):zU w w' (fun k=>B<=k):=⟨h.os,h.tape,h.output,h.size,fun k _ a=>h.block k zo⟩
theorem zU.z{w w':YW}{F:Nat->Prop}{B:Nat}(h:zU w w' F)(a:∀k,F k->B<=k)(c:B<=w.heap.size):Below B w w':=⟨h.os,h.tape,h.output,h.size,fun k b=>h.block k zo (fun e=>by have:=a k e;omega)⟩
theorem Blk.still{w w':YW}{F:Nat->Prop}{b:Nat}{cs:YV}{T:TypeId}(h:Blk w b cs T)(c:zU w w' F)(a:¬F b):Blk w' b cs T:=by have:=c.block b h.lt a;unfold Blk at *;rw[this];exact h
theorem bK{w w':YW}{F:Nat->Prop}{base:Nat}{e:TypeId}{size:Nat}{v:Value}{n:Nat}{xs:List Value}(h:w.ownsRow base e size v n xs)(d:zU w w' F)(b:∀k,v.ownBlock=O k->¬F k):w'.ownsRow base e size v n xs:=yR h (fun k c a=>d.block k a (b k c))
theorem wJ{w:YW}{l m:Nat}{f h:TypeId}{s t:Nat}{i j:Value}{q r:Nat}{u v:List Value}(n:w.ownsRow l f s i q u)(o:w.ownsRow m h t j r v)(he:f≠h){k:Nat}(c:i.ownBlock=O k):j.ownBlock≠O k:=by intro b;rcases n.2 with⟨rfl,_⟩|⟨g,cap,cur,rfl,_,p,_⟩;simp[Value.ownBlock]at c;rcases o.2 with⟨rfl,_⟩|⟨x,d,e,rfl,_,a,_⟩;simp[Value.ownBlock]at b;simp[Value.ownBlock]at c b;subst c b;rw[p]at a;simp at a;exact he a.2
theorem zR{w:YW}{b:Nat}{cs:YV}{T:TypeId}{e:Nat}{c:TypeId}{k:Nat}{d:Value}{j:Nat}{l:List Value}(h:Blk w b cs T)(f:w.ownsRow e c k d j l)(he:c≠T):d.ownBlock≠O b:=by intro a;rcases f.2 with⟨rfl,_⟩|⟨g,cap,cur,rfl,_,i,_⟩;simp[Value.ownBlock]at a;simp[Value.ownBlock]at a;subst a;unfold Blk at h;rw[i]at h;simp at h;exact he h.2
theorem As{w w':YW}{base v:Nat}{e:TypeId}{size:Nat}{g n c cap a:Nat}{xs ys:List Value}(t:0<size)(h:w.ownsRow base e size (S (O ⟨g,0,X⟩) c a) c xs)(F:w.ownsRow v e size (S (O ⟨g,0,X⟩) n cap) n ys){E:List Value}{m:Nat}(G:w'.ownsRow v e size (S (O ⟨g,0,X⟩) m cap) m E)(L:c<=m)(R:E.take (c*size)=xs):w'.ownsRow base e size (S (O ⟨g,0,X⟩) c a) c xs:=by
 rcases h.2 with⟨f,_⟩|⟨g1,c1,x,z,j,p,s,r,k,T⟩;simp at f;rcases F.2 with⟨f,_⟩|⟨g2,c2,y,B,H,b,P,M,i,W⟩;simp at f;rcases G.2 with⟨f,_⟩|⟨g3,c3,d,D,K,q,Q,N,l,u⟩;simp at f;simp only[Zk,Zs,Addr.mk.injEq,and_true,true_and]at z B D;obtain⟨rfl,rfl⟩:=z;obtain⟨rfl,rfl⟩:=B;obtain⟨rfl,rfl⟩:=D;rw[p]at b;simp at b;subst b;have o:a=cap:=by rw[k]at i;exact Nat.eq_of_mul_eq_mul_right t i
 subst o;refine⟨h.1,Zf ⟨g,a,d,rfl,j,q,s,r,l,?_⟩⟩;rw[<-R,<-u,take_take];congr 1;have:=Nat.mul_le_mul_right size L;omega
def qU(n:Nat)(mk:Int):YL:=replicate n (-1,-mk)
def jR(n:Nat)(mk:Int):List Value:=replicate n (I J (-mk))
structure xw(w:YW)(q:Nat)(mk:Int)(vi vn:Value)(ni nn:Nat):Prop where
 D:Blk w q #[vi,vn,I J mk] 134
 is:w.ownsRow 0 65 2 vi ni (zc (qU ni mk))
 ns:w.ownsRow 0 2 1 vn nn (jR nn mk)
 bd:0<=mk/\mk<=1152921504606846976
 R:ni<=17592186044416/\nn<=17592186044416
theorem KQ(q:Nat)(mk:Int)(L M:Value)(a c:Nat)(w:YW)(h:xw w q mk L M a c):Calls prog 46 #[A (O ⟨q,0,X⟩)] w fun e w'=>e=Rt (Bl Y)/\w'=w:=by
 have Q:=h.D.u;obtain⟨G,N,s⟩:=zu h.is;obtain⟨H,P,t⟩:=zu h.ns;subst s t;have u:∀k,k<a->∃g,G=O ⟨g,0,X⟩/\w.cell? ⟨g,k*2,X⟩=O (I J (-1))/\w.cell? ⟨g,k*2+1,X⟩=O (I J (-mk)):=by
  intro k f;obtain⟨g,cap,e,_,_⟩:=h.is.form zo;simp only[Zk]at e;obtain⟨rfl,_,rfl⟩:=e;have D:(qU a mk)[k]? = O (-1,-mk):=by unfold qU;rw[getElem?_replicate];simp[f]
  have b:=zD h.is (k*2) zo;have l:=zD h.is (k*2+1) zo;rw[(zL _ _ _ D).1]at b;rw[(zL _ _ _ D).2]at l;exact⟨g,rfl,b,l⟩
 have v:∀k,k<c->∃g,H=O ⟨g,0,X⟩/\w.cell? ⟨g,k,X⟩=O (I J (-mk)):=by intro k f;obtain⟨g,cap,e,_,_⟩:=h.ns.form zo;simp only[Zk]at e;obtain⟨rfl,_,rfl⟩:=e;have b:=zD h.ns k zo;unfold jR at b;rw[getElem?_replicate,if_pos f]at b;exact⟨g,rfl,b⟩
 have E:=V u;have F:=V v;have K:=h.bd;obtain⟨p,r⟩:=h.R;have z:(a:Int)<=17592186044416:=zo;have B:(c:Int)<=17592186044416:=zo;have T:IntKind.i64.wrap (-mk)=-mk:=zw;clear u v h p r;go_enter func46,ntmps46;go_wp2;go_loop [4,5] (fun ok i=>∃k:Nat,k<=a/\i=I J k/\ok=Bl Y) (fun _ i=>a-(intOf i).toNat);case atStart=>exact⟨0,Zq _,rfl,rfl⟩
 case round=>
  obtain⟨k,f,rfl,rfl⟩:=hrel;by_cases o:k<a
  ·obtain⟨g,rfl,b,l⟩:=U E k o;have x:(k:Int)<a:=zo;go_wp2;go_round;case rel=>exact⟨k+1,zo,by go_num,rfl⟩
   case measure=>exact zv
  ·have n:k=a:=zo;subst n;go_wp2;go_loop [4,6] (fun ok i=>∃k:Nat,k<=c/\i=I J k/\ok=Bl Y) (fun _ i=>c-(intOf i).toNat);case atStart=>exact⟨0,Zq _,rfl,rfl⟩
   case round=>
    obtain⟨j,R,rfl,rfl⟩:=hrel;by_cases d:j<c
    ·obtain⟨g,rfl,b⟩:=U F j d;have y:(j:Int)<c:=zo;go_wp2;go_round;case rel=>exact⟨j+1,zo,by go_num,rfl⟩
     case measure=>exact zv
    ·have m:j=c:=zo;subst m;go_wp2;go_ret;exact⟨rfl,rfl⟩
def qQ:List (Int×List Int):=[(40,[0,9]),(41,[0,10]),(42,[0,11]),(43,[0,20]),(44,[0,30]),(45,[0,29]),(46,[0,9,30]),(47,[21,30]),(48,[21,11]),(49,[21,21]),(50,[21,24]),(51,[21,0,19]),(52,[22,22]),(53,[22,21]),(54,[23,22]),(55,[23,24]),(56,[24,24]),(57,[24,9]),(58,[24,24,20]),(59,[30,9])]
def ya(op:Int):YI:=match qQ.find? (fun x=>op==x.1)with|some x=>x.2|none=>if 0<=op/\op<=32 then [op]else []
theorem SP(w:YW)(e:TypeId)(cs:YV)(n:Nat)(b:cs.size=n)(a:n<=maxLen):(w.alloc (C cs e)).ownsRow w.heap.size e 1 (S (O ⟨w.heap.size,0,X⟩) n n) n cs.toList:=by refine⟨by simp[b],Zf ⟨w.heap.size,n,cs,rfl,Zc _,Blk.new w cs e,Zc _,a,zo,?_⟩⟩;rw[take_of_length_le zp]
theorem Lk{w:YW}{e:Ending}{w':YW}{op:Int}(cs:YV)(n:Nat)(he:e=Rt (S (O ⟨w.heap.size,0,X⟩) n n))(d:w'=w.alloc (C cs 3))(c:cs.size=n)(f:n<=3)(a:cs.toList=(ya op).map (Value.int .i64)):∃v,e=Rt v/\w'.ownsRow w.heap.size 3 1 v (ya op).length ((ya op).map (Value.int .i64))/\Below w.heap.size w w':=by
 subst he d;refine⟨_,rfl,?_,(Ze _ _).alloc (Zc _) _⟩;have b:(ya op).length=n:=by have:=congrArg length a;simp at this;omega
 rw[<-a,b];exact SP w 3 cs n c zm
theorem mj (op:Int) (w:YW) : Calls prog 131 #[I J op] w fun e w'=>∃ v,e=Rt v∧w'.ownsRow w.heap.size 3 1 v (ya op).length ((ya op).map (Value.int .i64))∧Below w.heap.size w w':=by
 go_enter func131,ntmps131;go_wp2;all_goals go_ret
 all_goals first
   | exact Lk _ _ rfl rfl rfl zd (by simp_all [ya,qQ])
   | (refine ⟨_, rfl, ?_, Ze _ _⟩; have hp : ya op = [] := by simp_all [ya, qQ] <;> omega
      rw[hp];exact Zm _ _ _ _)
def yt(op:Int):Int×Int:=if op=8\/op=28 then(1,0)else if op=27 then(1,-1)else if op=26 then(0,1)else if op=6 then(0,2)else if op=7 then(2,0)else(0,0)
theorem cB(op:Int)(w:YW):Calls prog 210 #[I J op] w fun e w'=>e=Rt (Tu #[I J (yt op).1,I J (yt op).2])/\w'=w:=by go_enter func210,ntmps210;go_wp2;all_goals (go_ret2;refine⟨JG ?_ ?_,rfl⟩<;>simp_all [yt])
def eW(k:Nat):UInt8:=UInt8.ofNat (48+k%10)
def vN:Nat->Nat->List UInt8
 |0,_=>[]
 |f+1,k=>if 10<=k then vN f (k / 10)++[eW k]else [eW k]
theorem BZ(f k:Nat)(h:10<=k):vN (f+1) k=vN f (k / 10)++[eW k]:=by simp[vN,h]
theorem pL(f k:Nat)(h:¬10<=k):vN (f+1) k=[eW k]:=by simp[vN,h]
theorem Hi(f k:Nat):(vN f k).length<=f:=by
 induction f generalizing k with
 |zero=>simp[vN]
 |succ f a=>unfold vN;split;simp;exact a _;simp
def yA(n:Int):List UInt8:=if n<0 then 45::vN 25 n.natAbs else vN 25 n.natAbs
theorem tS(W:YW)(c:Int):(convert 86 9 (S (O ⟨W.heap.size,0,X⟩) 1 1)).run prog (W.alloc (C #[.int .u8 c] 5))=.ok (Sr (strOfNums [c])) (W.alloc (C #[.int .u8 c] 5)):=by refine run_convert_bytes_arg _ 86 5 underlying86 underlying5 W.heap.size 0 1 1 [c] rfl ?_ 9 underlying9;intro i a;have:i=0:=zo;subst this;rw[(Blk.new W _ _).u];rfl
theorem tT(k:Nat)(t:YB):(strOfNums [48+(k:Int)%10]++t).toList=eW k::t.toList:=by rw[Zv,Joins.data_append,strOfNums_data,Zv];have e:(48+(k:Int)%10).toNat=48+k%10:=zo;simp[eW,e]
theorem Ca(k:Int)(t:YB):(strOfNums [k]++t).size=t.size+1:=by rw[ByteArray.size_append,strOfNums_size];simp;omega
theorem SE(t:YB):(⟨#[45]⟩:YB)++t=⟨(45::t.data.toList).toArray⟩:=by
 have h:((⟨#[45]⟩:YB)++t).data.toList=45::t.data.toList:=by rw[Joins.data_append];rfl
 rw[<-Joins.bytes_eta ((⟨#[45]⟩:YB)++t),h]
theorem Un(n:Int)(h:-9223372036854775808<=n/\n<0):IntKind.u64.wrap (-IntKind.u64.wrap n)=-n:=by have a:IntKind.u64.signed=Z:=rfl;simp[IntKind.wrap,IntKind.bits,a];omega
theorem QW{k f:Nat}(h:k<10^f)(a:10<=k):∃g,f=g+1/\k / 10<10^g:=by
 cases f with
 |zero=>simp at h;omega
 |succ g=>exact⟨g,rfl,by rw[Nat.pow_succ]at h;omega⟩
theorem FH{k f:Nat}(h:k<10^f)(a:¬10<=k)(b:0<f):vN f k=[eW k]:=by
 cases f with
 |zero=>omega
 |succ g=>exact pL g k a
theorem Sa{P:Prop}(zz0:P:=by
 have y:¬9223372036854775807<(strOfNums [48+(k:Int)%10]).size+t.size:=by rw[strOfNums_size];simp;omega
 go_wp2_with fail;obtain⟨g,hg,v⟩:=QW z zo;have L:0<g:=by
  cases g with
  |zero=>simp at v;omega
  |succ g=>omega
 have q:vN 25 n.natAbs=vN g (k / 10)++(strOfNums [48+(k:Int)%10]++t).toList:=by rw[U B,hg,BZ g k zo,tT];simp
 have p:g+(strOfNums [48+(k:Int)%10]++t).size=25:=by rw[Ca];have:=U i;omega
 exact⟨⟨k / 10,g,_,by go_num,rfl,zo,L,p,v,q,m.alloc (by have:=m.size;omega) _⟩,by simp[intOf];omega⟩):P:=zz0
theorem Kq(n:Int)(w:YW)(Q:-9223372036854775808<=n/\n<=9223372036854775807)(D:0<=n):Calls prog 211 #[I J n] w fun e w'=>e=Rt (Sr ⟨(yA n).toArray⟩)/\Below w.heap.size w w':=by
 have K:=tS;have h8:decide (n<0)=Z:=by simpa using D
 obtain⟨W,h2⟩:=Q;have r:yA n=vN 25 n.natAbs:=by unfold yA;rw[if_neg zo]
 have E:=V r;have h:n.natAbs<10^25:=zo;have l:=V h;clear r h;go_enter func211,ntmps211;go_wp2;go_loopw [3,4] (fun u s wr=>∃(k f:Nat)(t:YB),u=.int .u64 k/\s=Sr t/\k<=9223372036854775808/\0<f/\f+t.size=25/\k<10^f/\vN 25 n.natAbs=vN f k++t.toList/\Below w.heap.size w wr) (fun u _ _=>(intOf u).toNat);case atStart=>exact⟨n.natAbs,25,⟨#[]⟩,by rw[show(n.natAbs:Int)=n from zo],rfl,zo,zo,rfl,U l,by rw[Zv];exact(append_nil _).symm,Ze _ _⟩
 case round=>
  obtain⟨k,f,t,rfl,rfl,hk,o,b,c,a,m⟩:=hrel;have B:=V a;have z:=V c;have i:=V b;clear a c b;have M:(k:Int)<=9223372036854775808:=zo;have N:(k:Int)%10<10:=zo;have x:0<=(k:Int)%10:=zo;have R:t.size<=25:=by have:=U i;omega
  by_cases H:(10:Int)<=k
  ·exact Sa
  ·have d:(k:Int)%10=k:=zo;have y:¬9223372036854775807<(strOfNums [48+(k:Int)]).size+t.size:=by rw[strOfNums_size];simp;omega
   have j:=V d;clear d;go_wp2;go_ret;refine⟨iz ?_,m.alloc (by have:=m.size;omega) _⟩;have F:(strOfNums [48+(k:Int)]++t).toList=eW k::t.toList:=by have:=tT k t;rw[U j]at this;exact this
   have G:vN 25 n.natAbs=eW k::t.toList:=by rw[U B,FH (U z) zo o];rfl
   rw[U E,G,<-F];rw[Zv]
theorem Ko(n:Int)(w:YW)(Q:-9223372036854775808<=n/\n<=9223372036854775807)(D:n<0):Calls prog 211 #[I J n] w fun e w'=>e=Rt (Sr ⟨(yA n).toArray⟩)/\Below w.heap.size w w':=by
 have K:=tS;have h8:decide (n<0)=Y:=by simpa using D
 obtain⟨W,h2⟩:=Q;have r:yA n=45::vN 25 n.natAbs:=by unfold yA;rw[if_pos D]
 have E:=V r;have h:n.natAbs<10^25:=zo;have l:=V h;clear r h;go_enter func211,ntmps211;go_wp2;go_loopw [3,4] (fun u s wr=>∃(k f:Nat)(t:YB),u=.int .u64 k/\s=Sr t/\k<=9223372036854775808/\0<f/\f+t.size=25/\k<10^f/\vN 25 n.natAbs=vN f k++t.toList/\Below w.heap.size w wr) (fun u _ _=>(intOf u).toNat);case atStart=>exact⟨n.natAbs,25,⟨#[]⟩,by rw[Un n zo,show(n.natAbs:Int)=-n from zo],rfl,zo,zo,rfl,U l,by rw[Zv];exact(append_nil _).symm,Ze _ _⟩
 case round=>
  obtain⟨k,f,t,rfl,rfl,hk,o,b,c,a,m⟩:=hrel;have B:=V a;have z:=V c;have i:=V b;clear a c b;have M:(k:Int)<=9223372036854775808:=zo;have N:(k:Int)%10<10:=zo;have x:0<=(k:Int)%10:=zo;have R:t.size<=25:=by have:=U i;omega
  by_cases H:(10:Int)<=k
  ·exact Sa
  ·have d:(k:Int)%10=k:=zo;have y:¬9223372036854775807<(strOfNums [48+(k:Int)]).size+t.size:=by rw[strOfNums_size];simp;omega
   have j:=V d;clear d;have T:¬9223372036854775807<(⟨#[45]⟩:YB).size+(strOfNums [48+(k:Int)]++t).size:=by rw[Ca];show ¬9223372036854775807<1+_;omega
   go_wp2;go_ret;refine⟨iz ?_,m.alloc (by have:=m.size;omega) _⟩;have F:(strOfNums [48+(k:Int)]++t).toList=eW k::t.toList:=by have:=tT k t;rw[U j]at this;exact this
   have G:vN 25 n.natAbs=eW k::t.toList:=by rw[U B,FH (U z) zo o];rfl
   rw[U E,G,<-F];rw[Zv];exact SE _
theorem uW(n:Int)(w:YW)(a:-9223372036854775808<=n/\n<=9223372036854775807):Calls prog 211 #[I J n] w fun e w'=>e=Rt (Sr ⟨(yA n).toArray⟩)/\Below w.heap.size w w':=by by_cases h:n<0;exact Ko n w a h;exact Kq n w a zo
structure MS where
 p:Nat
 ls:Int
 la:Int
 lc:Int
 lo:Int
 C:List Int
 G:List Int
 aC:List Int
 cells:List Int
 out:ByteArray
 pc:Int
 aE:Bool
 ks:List (Nat×Array Value×TypeId)
def yx(m:MS)(v5 v6 v7 v8:Value):Array Value:=#[A (O ⟨m.p,0,X⟩),I J m.ls,I J m.la,I J m.lc,I J m.lo,v5,v6,v7,v8,Sr m.out,I J m.pc,Bl m.aE]
def zn(l:YI):List Value:=l.map (Value.int .i64)
def jT(m:MS):List xL:=[⟨2,1,m.C.length,zn m.C⟩,⟨2,1,m.G.length,zn m.G⟩,⟨3,1,m.aC.length,zn m.aC⟩,⟨2,1,m.cells.length,zn m.cells⟩]
def inI(x:Int):Prop:=-9223372036854775808<=x/\x<=9223372036854775807
structure Mc(B:Nat)(w:YW)(b:Nat)(m:MS)(v5 v6 v7 v8:Value):Prop where
 D:Blk w b (yx m v5 v6 v7 v8) 189
 K:B<=b
 aD:yS B w (b::m.ks.map (fun x=>x.1)) [v5,v6,v7,v8] (jT m)
 lims:(1<=m.ls/\m.ls<=1000)/\(1<=m.la/\m.la<=1000)/\(1<=m.lc/\m.lc<=1000)/\(1<=m.lo/\m.lo<=1000)
 R:m.C.length<=1000/\m.G.length<=1000/\m.aC.length<=1000/\m.cells.length<=1000/\m.out.size<=1000/\(m.out.size:Int)<=m.lo
 ints:(∀x∈m.C,inI x)/\(∀x∈m.G,inI x)/\(∀x∈m.cells,inI x)
 kept:∀x∈m.ks,Blk w x.1 x.2.1 x.2.2
 kne:∀x∈m.ks,b≠x.1
section
variable {B:Nat} {w:YW} {b:Nat} {m:MS} {v5 v6 v7 v8:Value}
theorem Mc.o5(h:Mc B w b m v5 v6 v7 v8):w.ownsRow B 2 1 v5 m.C.length (zn m.C):=h.aD.own 0 v5 _ rfl rfl
theorem Mc.o6(h:Mc B w b m v5 v6 v7 v8):w.ownsRow B 2 1 v6 m.G.length (zn m.G):=h.aD.own 1 v6 _ rfl rfl
theorem Mc.o7(h:Mc B w b m v5 v6 v7 v8):w.ownsRow B 3 1 v7 m.aC.length (zn m.aC):=h.aD.own 2 v7 _ rfl rfl
theorem Mc.o8(h:Mc B w b m v5 v6 v7 v8):w.ownsRow B 2 1 v8 m.cells.length (zn m.cells):=h.aD.own 3 v8 _ rfl rfl
theorem Mc.drewN(h:Mc B w b m v5 v6 v7 v8)(n:Nat):Mc B (w.drewN n) b m v5 v6 v7 v8:=⟨h.D,h.K,h.aD.drewN n,h.lims,h.R,h.ints,h.kept,h.kne⟩
end
theorem oj(op:Int):0<=(zY op).1/\(zY op).1<=3/\-2<=(zY op).2/\(zY op).2<=1:=by
 unfold zY;repeat' split
 all_goals simp
theorem nK(op:Int):0<=(yt op).1/\(yt op).1<=2/\-1<=(yt op).2/\(yt op).2<=2:=by
 unfold yt;repeat' split
 all_goals simp
theorem DN(B b:Nat)(m:MS)(j k l o:Value)(op:Int)(w:YW)(h:Mc B w b m j k l o)(i:(m.C.length:Int)<(zY op).1):Calls prog 183 #[A (O ⟨b,0,X⟩),I J op] w fun e w'=>e=Rt (I J 7)/\∃n,w'=w.drewN n:=by obtain⟨q,r,f⟩:=zu h.o5;subst f;have g:=h.D.u;unfold yx at g;have d:=V (cP op w);have c:=V (cB op w);generalize (zY op).1=t at d i;generalize (zY op).2=s at d;generalize (yt op).1=u at c;generalize (yt op).2=up at c;go_enter func183,ntmps183;go_wp2_with fail;refine d.m ?_;rintro e p ⟨rfl,a⟩;obtain rfl:=a.symm;clear a;go_wp2_with fail;refine c.m ?_;rintro e p ⟨rfl,a⟩;obtain rfl:=a.symm;clear a;go_wp2;go_ret;exact⟨rfl,0,rfl⟩
theorem FR(B b:Nat)(m:MS)(F G H K:Value)(op:Int)(w:YW)(h:Mc B w b m F G H K)(D:(zY op).1<=m.C.length)(l:0<(zY op).2)(z:m.ls<m.C.length+(zY op).2):Calls prog 183 #[A (O ⟨b,0,X⟩),I J op] w fun e w'=>e=Rt (I J 8)/\∃n,w'=w.drewN n:=by
 obtain⟨M,Q,j⟩:=zu h.o5;obtain⟨N,R,k⟩:=zu h.o6;subst j;subst k;have x:=h.D.u;unfold yx at x;have y:=h.lims;have i:=h.R;have s1:(m.C.length:Int)<=1000:=zo;have s2:(m.G.length:Int)<=1000:=zo;have T:m.ls<=1000:=zo;have W:m.la<=1000:=zo;have f:=oj op;have g:=nK op;have d:=V (cP op w);have c:=V (cB op w);generalize (zY op).1=nd at d f D;generalize (zY op).2=E at d f l z;generalize (yt op).1=sa at c g;generalize (yt op).2=up at c g;obtain⟨o,p,q,r⟩:=f;obtain⟨s,t,u,v⟩:=g;clear y i;have P:decide (0<E)=Y:=by simpa using l
 go_enter func183,ntmps183;go_wp2_with fail;refine d.m ?_;rintro e L ⟨rfl,a⟩;obtain rfl:=a.symm;clear a;go_wp2_with fail;refine c.m ?_;rintro e L ⟨rfl,a⟩;obtain rfl:=a.symm;clear a;go_wp2;go_quiet (fail);go_wp2;go_ret;exact⟨rfl,_,rfl⟩
theorem Iy(B b:Nat)(m:MS)(L M N P:Value)(op:Int)(w:YW)(h:Mc B w b m L M N P)(K:(zY op).1<=m.C.length)(k:(zY op).2<=0\/0<(zY op).2/\m.C.length+(zY op).2<=m.ls)(c:(m.G.length:Int)<(yt op).1):Calls prog 183 #[A (O ⟨b,0,X⟩),I J op] w fun e w'=>e=Rt (I J 9)/\∃n,w'=w.drewN n:=by
 obtain⟨R,W,o⟩:=zu h.o5;obtain⟨T,k6,p⟩:=zu h.o6;subst o;subst p;have E:=h.D.u;unfold yx at E;have H:=h.lims;have l:=h.R;have s1:(m.C.length:Int)<=1000:=zo;have s2:(m.G.length:Int)<=1000:=zo;have l1:m.ls<=1000:=zo;have l2:m.la<=1000:=zo;have i:=oj op;have j:=nK op;have g:=V (cP op w);have f:=V (cB op w);generalize (zY op).1=nd at g i K;generalize (zY op).2=q at g i k;generalize (yt op).1=sa at f j c;generalize (yt op).2=up at f j;obtain⟨r,s,t,u⟩:=i;obtain⟨v,x,y,z⟩:=j;clear H l;have a:(decide (0<q)=Z)\/(decide (0<q)=Y/\(m.C.length:Int)+q<=m.ls):=by rcases k with e|⟨e,D⟩;exact Zg (by simpa using e);exact Zf ⟨by simpa using e,D⟩
 clear k;rcases a with F|⟨F,G⟩;all_goals go_enter func183,ntmps183;go_wp2_with fail;refine g.m ?_;rintro e Q ⟨rfl,d⟩;obtain rfl:=d.symm;clear d;go_wp2_with fail;refine f.m ?_;rintro e Q ⟨rfl,d⟩;obtain rfl:=d.symm;clear d;go_wp2;go_quiet (fail);go_wp2;go_ret;exact⟨rfl,_,rfl⟩
theorem FQ(B b:Nat)(m:MS)(P Q R T:Value)(op:Int)(w:YW)(h:Mc B w b m P Q R T)(N:(zY op).1<=m.C.length)(l:(zY op).2<=0\/0<(zY op).2/\m.C.length+(zY op).2<=m.ls)(c:(yt op).1<=m.G.length)(d:0<(yt op).2)(o:m.la<m.G.length+(yt op).2):Calls prog 183 #[A (O ⟨b,0,X⟩),I J op] w fun e w'=>e=Rt (I J 10)/\∃n,w'=w.drewN n:=by
 obtain⟨a5,k5,q⟩:=zu h.o5;obtain⟨a6,k6,r⟩:=zu h.o6;subst q;subst r;have G:=h.D.u;unfold yx at G;have M:=h.lims;have p:=h.R;have s1:(m.C.length:Int)<=1000:=zo;have s2:(m.G.length:Int)<=1000:=zo;have l1:m.ls<=1000:=zo;have l2:m.la<=1000:=zo;have j:=oj op;have k:=nK op;have i:=V (cP op w);have g:=V (cB op w);generalize (zY op).1=nd at i j N;generalize (zY op).2=s at i j l;generalize (yt op).1=sa at g k c;generalize (yt op).2=up at g k d o;obtain⟨t,u,v,x⟩:=j;obtain⟨y,z,D,E⟩:=k;clear M p;have L:decide (0<up)=Y:=by simpa using d
 have a:(decide (0<s)=Z)\/(decide (0<s)=Y/\(m.C.length:Int)+s<=m.ls):=by rcases l with e|⟨e,F⟩;exact Zg (by simpa using e);exact Zf ⟨by simpa using e,F⟩
 clear l;rcases a with H|⟨H,K⟩;all_goals go_enter func183,ntmps183;go_wp2_with fail;refine i.m ?_;rintro e W ⟨rfl,f⟩;obtain rfl:=f.symm;clear f;go_wp2_with fail;refine g.m ?_;rintro e W ⟨rfl,f⟩;obtain rfl:=f.symm;clear f;go_wp2;go_quiet (fail);go_wp2;go_quiet (fail);go_wp2;go_ret;exact⟨rfl,_,qZ _ _ _⟩
theorem ja(l:YI)(t:Int):(zn (l++[t]))[l.length]? = O (I J t):=by simp[zn]
theorem Lu(B b:Nat)(m:MS)(v5 v6 v7 v8:Value)(op:Int)(w:YW)(h:Mc B w b m v5 v6 v7 v8)(F:(zY op).1<=m.C.length)(z:(zY op).2<=0\/0<(zY op).2/\m.C.length+(zY op).2<=m.ls)(j:(yt op).1<=m.G.length)(D:(yt op).2<=0\/0<(yt op).2/\m.G.length+(yt op).2<=m.la)(q:(op==3)=Z/\(op==4)=Z/\(op==29)=Z/\(op==30)=Z/\(op==12)=Z/\(op==13)=Z/\(op==31)=Z/\(op==32)=Z):Calls prog 183 #[A (O ⟨b,0,X⟩),I J op] w fun e w'=>e=Rt (I J 0)/\∃n,w'=w.drewN n:=by
 obtain⟨a5,k5,g⟩:=zu h.o5;obtain⟨a6,k6,G⟩:=zu h.o6;subst g;subst G;have L:=h.D.u;unfold yx at L;have hl:=h.lims;have E:=h.R;have P:(m.C.length:Int)<=1000:=zo;have s2:(m.G.length:Int)<=1000:=zo;have l1:m.ls<=1000:=zo;have N:(m.out.size:Int)<=m.lo:=zo;have f0:m.lo<=1000:=zo;have l2:m.la<=1000:=zo;have r:=oj op;have s:=nK op;have p:=V (cP op w);have o:=V (cB op w);generalize (zY op).1=nd at p r F;generalize (zY op).2=H at p r z;generalize (yt op).1=sa at o s j;generalize (yt op).2=up at o s D;obtain⟨Q,R,T,W⟩:=r;obtain⟨a0,b0,c0,d0⟩:=s;clear hl E;obtain⟨q1,q2,q3,q4,q5,q6,q7,q8⟩:=q;have a:(decide (0<H)=Z)\/(decide (0<H)=Y/\(m.C.length:Int)+H<=m.ls):=by rcases z with e|⟨e,u⟩;exact Zg (by simpa using e);exact Zf ⟨by simpa using e,u⟩
 have d:(decide (0<up)=Z)\/(decide (0<up)=Y/\(m.G.length:Int)+up<=m.la):=by rcases D with e|⟨e,u⟩;exact Zg (by simpa using e);exact Zf ⟨by simpa using e,u⟩
 have c:(m.C.length=0)\/∃(l:YI)(t:Int),m.C=l++[t]:=by rcases Zz m.C with e|⟨l,t,e⟩;exact Zg (by rw[e];rfl);exact Zf ⟨l,t,by rw[e,concat_eq_append]⟩
 clear z D;rcases c with c|⟨l,t,c⟩
 ·have k:(m.C.length:Int)<=0:=zo;clear c;rcases a with v|⟨v,x⟩<;>rcases d with i|⟨i,y⟩;all_goals go_enter func183,ntmps183;go_wp2_with fail;refine p.m ?_;rintro e K ⟨rfl,f⟩;obtain rfl:=f.symm;clear f;go_wp2_with fail;refine o.m ?_;rintro e K ⟨rfl,f⟩;obtain rfl:=f.symm;clear f;go_wp2;go_quiet (fail);go_wp2;go_quiet (fail);go_wp2;go_quiet (fail);go_wp2;go_ret;exact⟨rfl,_,qZ _ _ _⟩
 ·have M:m.C.length=l.length+1:=by rw[c];simp
  obtain⟨g5,e0,g,_,_⟩:=h.o5.form zo;simp only[Zk,true_and]at g;obtain⟨rfl,rfl⟩:=g;have hx:=zD h.o5 l.length zo;rw[c,ja]at hx;rw[M]at L F P a;have k:((l.length:Int)+1)<=1000:=zo;clear c M;simp only[Int.natCast_add,Int.cast_ofNat_Int]at F P a;rcases a with v|⟨v,x⟩<;>rcases d with i|⟨i,y⟩;all_goals go_enter func183,ntmps183;go_wp2_with fail;refine p.m ?_;rintro e K ⟨rfl,f⟩;obtain rfl:=f.symm;clear f;go_wp2_with fail;refine o.m ?_;rintro e K ⟨rfl,f⟩;obtain rfl:=f.symm;clear f;go_wp2;go_quiet (fail);go_wp2;go_quiet (fail);go_wp2;go_quiet (fail);go_wp2;go_quiet (fail);go_wp2;go_ret;exact⟨rfl,_,qZ _ _ _⟩
theorem Ss(l:List UInt8)(n:Nat):n<=l.foldl (fun n c=>n*10+(c.toNat-48)) n:=sr l n
theorem QS (l:List UInt8):∀ acc,acc≤18446744073709551615→∀ u,(Lib.parseUintM 18446744073709551615 acc l=.ok u↔(l.all dv=Y∧l.foldl (fun n c=>n * 10+(c.toNat-48)) acc=u∧u≤18446744073709551615)):=by
 induction l with
 |nil=>intro acc ha u;simp only[Lib.parseUintM,all_nil,foldl_nil,true_and];constructor;intro e;injection e with e;subst e;exact⟨rfl,ha⟩;rintro ⟨rfl,_⟩;rfl
 |cons c r ih=>
  intro acc ha u;have hge:=Ss r (acc * 10+(c.toNat-48));simp only[Lib.parseUintM,all_cons,foldl_cons];by_cases hd:48≤c.toNat∧c.toNat≤57;rw[if_pos hd];have hdb:dv c=Y:=by unfold dv;simp[hd]
  rw[hdb,Bool.true_and];by_cases h1:1844674407370955162≤acc;rw[if_pos h1];constructor;intro e;cases e;rintro ⟨_,h2,h3⟩;omega;rw[if_neg h1];by_cases h2:18446744073709551615<acc * 10+(c.toNat-48);rw[if_pos h2];constructor;intro e;cases e;rintro ⟨_,h3,h4⟩;omega;rw[if_neg h2];exact ih _ zo u;rw[if_neg hd];have hdb:dv c=Z:=by unfold dv;simp;omega
  rw[hdb];constructor;intro e;cases e;rintro ⟨h,_⟩;simp at h
theorem rB(D:List UInt8)(a:Nat)(j:a<=18446744073709551615):qH D a=(match Lib.parseUintB 64 D with|.ok u=>if u<=a then O u else X|_=>X):=by unfold Lib.parseUintB qH;by_cases d:D=[];rw[if_pos d,if_pos d];rw[if_neg d,if_neg d];have e:(2^64-1:Nat)=18446744073709551615:=zd;rw[e];have b:=QS D 0 zo;rcases hp:Lib.parseUintM 18446744073709551615 0 D with u|_|_;skip;obtain⟨f,g,i⟩:=(b u).1 hp;have h:vX D=u:=g;simp only[f,h,Bool.true_and,decide_eq_true_eq];skip;simp only;rw[if_neg];intro c;simp at c;have:=(b (vX D)).2 ⟨by simpa using c.1,rfl,zo⟩;rw[hp]at this;cases this;skip;simp only;rw[if_neg];intro c;simp at c;have:=(b (vX D)).2 ⟨by simpa using c.1,rfl,zo⟩;rw[hp]at this;cases this
theorem QL (s:YB) (h:s.toList.head?≠O 43):qe s=(match Lib.parseIntB 64 s.toList with|.ok v=>O v|_=>X):=by
 unfold qe;cases hl:s.toList with
 |nil=>simp[Lib.parseIntB,qH]
 |cons c r=>
  rw[hl]at h;have e63:(2 ^ (64-1):Nat)=9223372036854775808:=zd;by_cases h45:c=45;subst h45;simp only[head?_cons,tail_cons,if_true];rw[Lib.parseIntB_minus,e63,rB r 9223372036854775808 zo];rcases Lib.parseUintB 64 r with u|_|_;skip;simp only[Lib.signedC];by_cases hu:u≤9223372036854775808;rw[if_pos hu,if_neg zo];rfl;rw[if_neg hu,if_pos zo];rfl;rfl;rfl;have hne:¬ (O c=O (45:UInt8)):=by simpa using h45
  have h43:c.toNat≠43:=by
   intro e;apply h;have:c=43:=by apply UInt8.toNat_inj.1;rw[e];rfl
   rw[this];rfl
  have h45':c.toNat≠45:=by intro e;apply h45;apply UInt8.toNat_inj.1;rw[e];rfl
  rw[head?_cons,if_neg hne];rw[Lib.parseIntB_plain 64 c r h43 h45',e63,rB (c :: r) 9223372036854775807 zo];rcases Lib.parseUintB 64 (c :: r) with u|_|_;skip;simp only[Lib.signlessC];by_cases hu:u≤9223372036854775807;rw[if_pos hu,if_neg zo];rfl;rw[if_neg hu,if_pos zo];rfl;rfl;rfl
theorem QM(s:YB)(h:s.toList.head? = O 43):qe s=X:=by
 unfold qe;rw[h];have:¬(O (43:UInt8)=O 45):=zd;rw[if_neg this];cases hl:s.toList with
 |nil=>rw[hl]at h;simp at h
 |cons c r=>rw[hl]at h;simp at h;subst h;have:qH (43::r) 9223372036854775807=X:=mM (43::r) _ 0 43 rfl zd;rw[this];rfl
end Go.Proofs.YtmeiikjpaepogaaGreatDoor
