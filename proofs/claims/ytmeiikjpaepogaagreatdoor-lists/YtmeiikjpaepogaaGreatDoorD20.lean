/- Own. -/
import Derived.Test.YtmeiikjpaepogaaGreatDoorD19
import Derived.Great.BuildSlice
open Option renaming some->O,none->X
open Bool renaming true->Y,false->Z
open Go.Value renaming int->I,slice->S,pointer->A,tuple->Tu
open Go.Obj renaming cells->C
open Go.Ending renaming returned->Rt
open Go.IntKind renaming i64->J
set_option maxRecDepth 100000
set_option maxHeartbeats 16000000
namespace Go.Proofs.YtmeiikjpaepogaaGreatDoor
open Go Go.RowKit Go.Proofs.Tryz List
theorem DF(B:Nat)(x:CX)(st:RS)(w:YW)(h:CpE B w x st)(R:st.Q.length<3980):Calls prog 144 #[A (O ⟨x.b,0,X⟩)] w fun e w'=>e=Rt (Tu #[])/\CpE B w' x (xn st (⟨#[98,101,103,105,110]⟩,zM st,0))/\zI w w'/\Below B w w':=by
 obtain⟨fw,fo,h⟩:=h.f;have d:Below w.heap.size w (w.alloc (C #[A (O ⟨x.b,0,X⟩)] 91)):=zb;have i:Blk (w.alloc (C #[A (O ⟨x.b,0,X⟩)] 91)) w.heap.size #[A (O ⟨x.b,0,X⟩)] 91:=zk;have p:=h.z d;have hB:=h.size;obtain⟨s0,vo,a⟩:=p.D;have P:=a.u;have T:=h.size0;have t:x.b<w.heap.size:=zo;have E:x.b<=w.heap.size:=zo;have u:x.b<w.heap.size+1:=zo;have F:x.b<=w.heap.size+1:=zo;have v:x.b<w.heap.size+1+1:=zo;have G:x.b<=w.heap.size+1+1:=zo;have y:x.b<w.heap.size+1+1+1:=zo;have H:x.b<=w.heap.size+1+1+1:=zo;have z:x.b<w.heap.size+1+1+1+1:=zo;have K:x.b<=w.heap.size+1+1+1+1:=zo;have D:x.b<w.heap.size+1+1+1+1+1:=zo;have L:x.b<=w.heap.size+1+1+1+1+1:=zo;unfold xH at P;have s:=V p;have r:(w.alloc (C #[A (O ⟨x.b,0,X⟩)] 91)).heap.size=w.heap.size+1:=zs;have Q:=i.u;have n:=V i;have j:=V d;clear a i d h p;have o:=V (Ct B x st _ s.e);generalize m:yI x st=hx at *;have M:=V m;clear m;go_enter func144,ntmps144;go_wp2_with fail;refine o.m ?_;rintro e w1 ⟨rfl,rfl⟩;generalize w.alloc (C #[A (O ⟨x.b,0,X⟩)] 91)=l at *;go_wp2_with fail;have g:Below l.heap.size l (l.alloc (C #[I J (zM st)] 2)):=zb;have N:(l.alloc (C #[I J (zM st)] 2)).heap.size=w.heap.size+1+1:=by rw[World.size_up,r]
 have c:=n.alloc (C #[I J (zM st)] 2);have q:=Ax B x st (l.alloc (C #[I J (zM st)] 2)) (s.z g).e (.func (.func 190) #[] #[A (O ⟨w.heap.size,0,X⟩),A (O ⟨w.heap.size+1,0,X⟩)]) rfl (⟨#[98,101,103,105,110]⟩,zM st,0) ⟨_,c,Zf (Zf (Zg ⟨rfl,_,zk,rfl⟩))⟩ zo;rw[N]at q;refine q.m ?_;rintro e w2 ⟨rfl,W,k2,k3⟩;clear q c;have k:=V g;clear g;go_wp2;go_end0;exact⟨rfl,W,(zI.aB j).trans ((zI.aB k).trans k2),(yf j zo).trans ((yf k zo).trans k3)⟩
theorem Lg(B:Nat)(x:CX)(st:RS)(w:YW)(h:CpE B w x st)(z:zM st<4000)(g0:st.Q.length<3980):Calls prog 145 #[A (O ⟨x.b,0,X⟩)] w fun e w'=>e=Rt (Tu #[])/\CpE B w' x (xn (zQ st 6 0) (⟨#[100,111]⟩,(zM st:Int)+1,0))/\zI w w'/\Below B w w':=by
 obtain⟨fw,fo,h⟩:=h.f;have n:Below w.heap.size w (w.alloc (C #[A (O ⟨x.b,0,X⟩)] 91)):=zb;have a:Blk (w.alloc (C #[A (O ⟨x.b,0,X⟩)] 91)) w.heap.size #[A (O ⟨x.b,0,X⟩)] 91:=zk;have D:=h.z n;have hB:=h.size;obtain⟨s0,vo,l⟩:=D.D;have M:=l.u;have l0:=h.size0;have N:x.b<w.heap.size:=zo;have a0:x.b<=w.heap.size:=zo;have P:x.b<w.heap.size+1:=zo;have b0:x.b<=w.heap.size+1:=zo;have Q:x.b<w.heap.size+1+1:=zo;have c0:x.b<=w.heap.size+1+1:=zo;have R:x.b<w.heap.size+1+1+1:=zo;have d0:x.b<=w.heap.size+1+1+1:=zo;have T:x.b<w.heap.size+1+1+1+1:=zo;have e0:x.b<=w.heap.size+1+1+1+1:=zo;have W:x.b<w.heap.size+1+1+1+1+1:=zo;have f0:x.b<=w.heap.size+1+1+1+1+1:=zo;unfold xH at M;have k:=V (gZ B x st _ fw fo D 6 0 z);have H0:=V D;have j0:(w.alloc (C #[A (O ⟨x.b,0,X⟩)] 91)).heap.size=w.heap.size+1:=zs;have H:=a.u;have E:=V a;have s:=V n;clear l a n h D;generalize y:yI x st=hx at *;have u:=V y;clear y;go_enter func145,ntmps145;go_wp2_with fail;generalize w.alloc (C #[A (O ⟨x.b,0,X⟩)] 91)=G at *;go_cut []from 3 to 19 (fun wc=>CpF B wc x (zQ st 6 0) fw fo/\jE G x.b st fw fo/\zI G wc/\Below B G wc)
 case first=>go_region_law (first | (refine zN rfl 51 #[.const (I J 6)] #[3] rfl func51 eg dZ #[I J 6] zg (bC 6 _) ?_;rintro e j ⟨rfl,rfl⟩;refine⟨_,rfl,?_⟩) | (refine zN rfl 50 #[.tmp 6,.tmp 8] #[96,33] rfl func50 xS xR #[A (O ⟨hx,0,X⟩),S (O ⟨w.heap.size+1+1,0,X⟩) 1 1] zg (U k _ (w.heap.size+1+1) zb zk) ?_;rintro e j ⟨rfl,h2,L⟩;refine⟨_,rfl,?_⟩;skip;have r:=V L;clear L h2));all_goals go_wp2;go_meet;exact U r
 case rest=>
  obtain⟨i,hT,c,d⟩:=hcut;have a:=c _ _ _ E (Zg rfl);have v:=a.u;have q:=Ct B x (zQ st 6 0) wc i.e;rw[eC,U u,vw,show((zM st+1:Nat):Int)=(zM st:Int)+1 from zo]at q;obtain⟨s1,m0,g⟩:=i.D;have p:=g.u;unfold xH at p;rw[eC,U u]at p;have F:=V q;have r:=V (And.intro a (And.intro i (And.intro c d)));clear i hT c d a H M k q g;have k0:w.heap.size<wc.heap.size:=by have:=r.1.lt;exact this
  go_wp2_with fail;refine F.m ?_;rintro e j ⟨rfl,rfl⟩;go_wp2_with fail;have o:Below j.heap.size j (j.alloc (C #[I J ((zM st:Int)+1)] 2)):=zb;have e1:(j.alloc (C #[I J ((zM st:Int)+1)] 2)).heap.size=j.heap.size+1:=by rw[World.size_up]
  obtain⟨a,i,c,d⟩:=U r;have m:=a.alloc (C #[I J ((zM st:Int)+1)] 2);have K:=Ax B x (zQ st 6 0) (j.alloc (C #[I J ((zM st:Int)+1)] 2)) (i.z o).e (.func (.func 192) #[] #[A (O ⟨w.heap.size,0,X⟩),A (O ⟨j.heap.size,0,X⟩)]) rfl (⟨#[100,111]⟩,(zM st:Int)+1,0) ⟨_,m,Zf (Zf (Zf (Zf ⟨rfl,_,zk,rfl⟩)))⟩ (by rw[(eI _ _ _).2.2];omega);rw[e1]at K;refine K.m ?_;rintro e w2 ⟨rfl,k1,k2,k3⟩;have t:=V o;clear K m a i c d o v p;go_wp2;go_end0;obtain⟨a,i,c,d⟩:=U r;have i0:=i.size;exact⟨rfl,k1,(zI.aB s).trans (c.trans ((zI.aB t).trans k2)),(yf s zo).trans (d.trans ((yf t zo).trans k3))⟩
end Go.Proofs.YtmeiikjpaepogaaGreatDoor
namespace Go.Proofs.YtmeiikjpaepogaaGreatDoor
open Go Go.RowKit Go.Great Go.Proofs.Tryz List
def TOk(T:TypeId):Prop:=T≠112/\T≠73
instance (T:TypeId):Decidable (TOk T):=inferInstanceAs (Decidable (_/\_))
def js(w w':YW):Prop:=∀(k:Nat)(cs:YV)(T:TypeId),Blk w k cs T->TOk T->Blk w' k cs T
theorem js.aB{w w':YW}(h:Below w.heap.size w w'):js w w':=fun _ _ _ a _=>a.z h a.lt
theorem js.row{w:YW}{g:Nat}{c:YV}(h:Blk w g c 112)(cs:YV):js w (w.setRow g cs):=fun k _ _ a b=>a.setRow_far (fun e=>by subst e;exact b.1 (fE a h)) cs
theorem js.u{w:YW}{g:Nat}{d:YV}(h:Blk w g d 112)(c:Nat)(v:Value):js w (w.setCell ⟨g,c,X⟩ v):=fun k _ _ a b=>a.still (F:=fun k=>k=g) (zU.set (F:=fun k=>k=g) (zU.refl w _) (Zg rfl) _ _) (fun e=>by subst e;exact b.1 (fE a h))
theorem js.prog{w:YW}{g:Nat}{d:YV}(h:Blk w g d 73)(c:Nat)(v:Value):js w (w.setCell ⟨g,c,X⟩ v):=fun k _ _ a b=>a.still (F:=fun k=>k=g) (zU.set (F:=fun k=>k=g) (zU.refl w _) (Zg rfl) _ _) (fun e=>by subst e;exact b.2 (fE a h))
theorem js.trans{a b c:YW}(h:js a b)(k:js b c):js a c:=fun i cs T e d=>k i cs T (h i cs T e d) d
def jW(w:YW)(op:Nat)(F:FuncId)(cap:YV):Prop:=(∃fn:Func,prog.funcs[F]? = O fn∧(fn.name == "runtime.NumGoroutine")=Z∧fn.body.isNone=Z) ∧
 ∃bl:List (Nat×Array Value×TypeId),(∀x∈bl,Blk w x.1 x.2.1 x.2.2/\TOk x.2.2) /\
 ∀(B:Nat)(w':YW)(b tb:Nat),(∀x∈bl,Blk w' x.1 x.2.1 x.2.2∧x.1 < B)→(op=32→Lib.TabBelow prog B w' "internal/strconv.uint64pow10" .u64 Lib.pow10Tab)→xT B w' b tb op F cap
theorem jW.keep{w w':YW}{op:Nat}{F:FuncId}{cap:YV}(h:jW w op F cap)(e:js w w'):jW w' op F cap:=by obtain⟨c,bl,a,d⟩:=h;exact⟨c,bl,fun x b=>⟨e _ _ _ (a x b).1 (a x b).2,(a x b).2⟩,d⟩
theorem jW.z{w w':YW}{op:Nat}{F:FuncId}{cap:YV}(h:jW w op F cap)(a:Below w.heap.size w w'):jW w' op F cap:=h.keep (js.aB a)
theorem xY{w:YW}{op:Nat}{F:FuncId}{cap:YV}{a:Func}(c:prog.funcs[F]? = O a)(d:(a.name == "runtime.NumGoroutine")=Z)(e:a.body.isNone=Z)(bl:List (Nat×Array Value×TypeId))(f:∀x∈bl,Blk w x.1 x.2.1 x.2.2∧TOk x.2.2)(g:∀(B:Nat)(w':YW)(b h:Nat),(∀x∈bl,Blk w' x.1 x.2.1 x.2.2∧x.1 < B)→(op=32→Lib.TabBelow prog B w' "internal/strconv.uint64pow10" .u64 Lib.pow10Tab)→xT B w' b h op F cap):jW w op F cap:=⟨⟨a,c,d,e⟩,bl,f,g⟩
def Ea(W:YW)(op:Nat)(F:FuncId)(e:Ending)(w':YW):Prop:=∃cap,e=Rt (.func (.func F) #[] cap)/\jW w' op F cap/\Below W.heap.size W w'
def Fns(w:YW)(l:List (Nat×FuncId×Array Value)):Prop:=∀x∈l,jW w x.1 x.2.1 x.2.2
theorem Fns.cons{W w:YW}{l:List (Nat×FuncId×Array Value)}{op:Nat}{F:FuncId}{cap:YV}(h:Fns W l)(b:Below W.heap.size W w)(c:jW w op F cap):Fns w ((op,F,cap)::l):=by intro x a;rcases mem_cons.1 a with rfl|a;exact c;exact(h x a).z b
def wP(w:YW)(g:Nat):Prop:=∃zs:YV,zs.size=300/\Blk w g zs 112/\g<w.heap.size
theorem wP.z{w w':YW}{g:Nat}(h:wP w g)(b:Below w.heap.size w w'):wP w' g:=by obtain⟨e,c,d,a⟩:=h;exact⟨e,c,d.z b a,Nat.lt_of_lt_of_le a b.size⟩
theorem gK(op:Nat)(G:FuncId)(g:op=9∨op=10∨op=11∨op=14∨op=15∨op=16∨op=19∨op=20){a:Func}(f:prog.funcs[G]? = O a)(c:(a.name == "runtime.NumGoroutine")=Z)(d:a.body.isNone=Z)(k:∀x y:Int,jP G #[I J x,I J y] (yQ op x y))(W:YW):Calls prog 100 #[.func (.func G) #[] #[]] W (Ea W op 162):=by refine(NJ G W).m ?_;rintro e w' ⟨rfl,rfl⟩;refine⟨_,rfl,xY func162 zr zr [(W.heap.size,#[.func (.func G) #[] #[]],166)] ?_ ?_,zB W _⟩;intro x i;simp only[mem_singleton]at i;subst i;exact⟨Blk.new W _ _,by simp[TOk]⟩;intro B w' b l j _;have h:=j _ (List.Mem.head _);exact Tj B w' b l op W.heap.size G g h.1 h.2 f c d k
theorem MY(op:Nat)(G:FuncId)(g:op=17∨op=18){a:Func}(f:prog.funcs[G]? = O a)(c:(a.name == "runtime.NumGoroutine")=Z)(d:a.body.isNone=Z)(k:∀x:Int,inI x→jP G #[I J x] (if op=17 then -1 - x else wrap64 (-x)))(W:YW):Calls prog 110 #[.func (.func G) #[] #[]] W (Ea W op 165):=by refine(TO G W).m ?_;rintro e w' ⟨rfl,rfl⟩;refine⟨_,rfl,xY func165 zr zr [(W.heap.size,#[.func (.func G) #[] #[]],168)] ?_ ?_,zB W _⟩;intro x i;simp only[mem_singleton]at i;subst i;exact⟨Blk.new W _ _,by simp[TOk]⟩;intro B w' b l j _;have h:=j _ (List.Mem.head _);exact Th B w' b l op W.heap.size G g h.1 h.2 f c d k
theorem MX(op:Nat)(G:FuncId)(h:op=12∨op=13){c:Func}(g:prog.funcs[G]? = O c)(d:(c.name == "runtime.NumGoroutine")=Z)(f:c.body.isNone=Z)(q:∀x y:Int,y≠0→inI x→inI y→jP G #[I J x,I J y] (yQ op x y))(W:YW):Calls prog 104 #[.func (.func G) #[] #[]] W (Ea W op 163):=by refine(KR G W).m ?_;rintro e w' ⟨i,a,rfl,n,o,p⟩;refine⟨_,rfl,xY func163 zr zr [(i,#[.func (.func 162) #[] #[A (O ⟨a,0,X⟩)]],108),(a,#[.func (.func G) #[] #[]],166)] ?_ ?_,n⟩;intro x k;simp only[mem_cons,not_mem_nil,or_false]at k;rcases k with rfl|rfl;exact⟨o,by simp[TOk]⟩;exact⟨p,by simp[TOk]⟩;intro B s b r j _;have l:=j _ (List.Mem.head _);have m:=j _ (Zh _ (List.Mem.head _));exact Td B s b r op i a G h l.1 m.1 l.2 m.2 g d f q
theorem nU(op n:Nat)(a:List Nat)(d:(op=21/\a=[0,0])\/(op=22/\a=[])\/(op=23/\a=[1,0])\/(op=24/\a=[0,1,0])\/(op=25/\a=[1,2,0]))(l:a.length=n)(W:YW)(cs:YV)(c:∀(j p:Nat),a[j]? = O p->p<3/\cs[j]? = O (Value.int .i64 (p:Int))):Calls prog 116 #[S (O ⟨W.heap.size,0,X⟩) n n] (W.alloc (C cs 3)) (Ea W op 166):=by subst l;refine(Fl _ _ _ _).m ?_;rintro e w' ⟨rfl,rfl⟩;have m:Blk ((W.alloc (C cs 3)).alloc (C #[S (O ⟨W.heap.size,0,X⟩) a.length a.length] 115)) W.heap.size cs 3:=(Blk.new W cs 3).alloc _;refine⟨_,rfl,xY func166 zr zr [((W.alloc (C cs 3)).heap.size,#[S (O ⟨W.heap.size,0,X⟩) a.length a.length],115),(W.heap.size,cs,3)] ?_ ?_,yG W _ _⟩;intro x g;simp only[mem_cons,not_mem_nil,or_false]at g;rcases g with rfl|rfl;exact⟨Blk.new _ _ _,by simp[TOk]⟩;exact⟨m,by simp[TOk]⟩;intro B w' b r f _;have h:=f _ (List.Mem.head _);have i:=f _ (Zh _ (List.Mem.head _));refine CI B w' b r op _ _ _ a d h.1 h.2 ?_;intro j p k;obtain⟨o,q⟩:=c j p k;exact⟨o,W.heap.size,rfl,i.2,by rw[i.1.u];exact q⟩
theorem MZ(W:YW):Calls prog 116 #[S X 0 0] W (Ea W 22 166):=by refine(Fl _ _ _ _).m ?_;rintro e w' ⟨rfl,rfl⟩;refine⟨_,rfl,xY func166 zr zr [(W.heap.size,#[S X 0 0],115)] ?_ ?_,zB W _⟩;intro x c;simp only[mem_singleton]at c;subst c;exact⟨Blk.new W _ _,by simp[TOk]⟩;intro B w' b g d _;have a:=d _ (List.Mem.head _);exact CI B w' b g 22 W.heap.size _ _ [] (Zf (Zg ⟨rfl,rfl⟩)) a.1 a.2 (fun j p f=>by simp at f)
def Gi(c9 c10 c11 c12 c13 c14 c15 c16 c17 c18 c19 c20 c21 c22 c23 c24 c25:YV):Array Value:=#[
 I J 0,I J 1,I J 0,I J 0,.func (.func 91) #[] #[],
 I J 0,I J 0,I J 0,I J 0,.func (.func 92) #[] #[],
 I J 1,I J 0,I J 0,I J 0,.func (.func 93) #[] #[],
 I J 0,I J 0,I J 0,I J 0,.func (.func 94) #[] #[],
 I J 0,I J 0,I J 0,I J 0,.func (.func 95) #[] #[],
 I J 0,I J 0,I J 0,I J 0,.func (.func 96) #[] #[],
 I J 2,I J 0,I J 0,I J 2,.func (.func 97) #[] #[],
 I J 0,I J 0,I J 2,I J 2,.func (.func 98) #[] #[],
 I J 0,I J 1,I J 1,I J 1,.func (.func 99) #[] #[],
 I J 2,I J 1,I J 0,I J 0,.func (.func 162) #[] c9,
 I J 2,I J 1,I J 0,I J 0,.func (.func 162) #[] c10,
 I J 2,I J 1,I J 0,I J 0,.func (.func 162) #[] c11,
 I J 2,I J 1,I J 0,I J 0,.func (.func 163) #[] c12,
 I J 2,I J 1,I J 0,I J 0,.func (.func 163) #[] c13,
 I J 2,I J 1,I J 0,I J 0,.func (.func 162) #[] c14,
 I J 2,I J 1,I J 0,I J 0,.func (.func 162) #[] c15,
 I J 2,I J 1,I J 0,I J 0,.func (.func 162) #[] c16,
 I J 1,I J 1,I J 0,I J 0,.func (.func 165) #[] c17,
 I J 1,I J 1,I J 0,I J 0,.func (.func 165) #[] c18,
 I J 2,I J 1,I J 0,I J 0,.func (.func 162) #[] c19,
 I J 2,I J 1,I J 0,I J 0,.func (.func 162) #[] c20,
 I J 1,I J 2,I J 0,I J 0,.func (.func 166) #[] c21,
 I J 1,I J 0,I J 0,I J 0,.func (.func 166) #[] c22,
 I J 2,I J 2,I J 0,I J 0,.func (.func 166) #[] c23,
 I J 2,I J 3,I J 0,I J 0,.func (.func 166) #[] c24,
 I J 3,I J 3,I J 0,I J 0,.func (.func 166) #[] c25,
 I J 1,I J 0,I J 0,I J 1,.func (.func 117) #[] #[],
 I J 0,I J 1,I J 1,I J 0,.func (.func 118) #[] #[],
 I J 0,I J 1,I J 1,I J 1,.func (.func 99) #[] #[],
 I J 2,I J 0,I J 0,I J 0,.func (.func 119) #[] #[],
 I J 1,I J 1,I J 0,I J 0,.func (.func 120) #[] #[],
 I J 1,I J 0,I J 0,I J 0,.func (.func 121) #[] #[],
 I J 1,I J 0,I J 0,I J 0,.func (.func 122) #[] #[],
 I J 0,I J 0,I J 0,I J 0,.nilFunc,
 I J 0,I J 0,I J 0,I J 0,.nilFunc,
 I J 0,I J 0,I J 0,I J 0,.nilFunc,
 I J 0,I J 0,I J 0,I J 0,.nilFunc,
 I J 0,I J 0,I J 0,I J 0,.nilFunc,
 I J 0,I J 0,I J 0,I J 0,.nilFunc,
 I J 0,I J 0,I J 0,I J 0,.nilFunc,
 I J 0,I J 0,I J 0,I J 0,.nilFunc,
 I J 0,I J 0,I J 0,I J 0,.nilFunc,
 I J 0,I J 0,I J 0,I J 0,.nilFunc,
 I J 0,I J 0,I J 0,I J 0,.nilFunc,
 I J 0,I J 0,I J 0,I J 0,.nilFunc,
 I J 0,I J 0,I J 0,I J 0,.nilFunc,
 I J 0,I J 0,I J 0,I J 0,.nilFunc,
 I J 0,I J 0,I J 0,I J 0,.nilFunc,
 I J 0,I J 0,I J 0,I J 0,.nilFunc,
 I J 0,I J 0,I J 0,I J 0,.nilFunc,
 I J 0,I J 0,I J 0,I J 0,.nilFunc,
 I J 0,I J 0,I J 0,I J 0,.nilFunc,
 I J 0,I J 0,I J 0,I J 0,.nilFunc,
 I J 0,I J 0,I J 0,I J 0,.nilFunc,
 I J 0,I J 0,I J 0,I J 0,.nilFunc,
 I J 0,I J 0,I J 0,I J 0,.nilFunc,
 I J 0,I J 0,I J 0,I J 0,.nilFunc,
 I J 0,I J 0,I J 0,I J 0,.nilFunc,
 I J 0,I J 0,I J 0,I J 0,.nilFunc,
 I J 0,I J 0,I J 0,I J 0,.nilFunc]
theorem UW(W:YW):jW W 0 91 #[]:=xY func91 zr zr [] (fun x a=>by simp at a) (fun B w' b c _ _=>Tg B w' b c)
theorem UX(W:YW):jW W 1 92 #[]:=xY func92 zr zr [] (fun x a=>by simp at a) (fun B w' b c _ _=>Rl B w' b c)
theorem UY(W:YW):jW W 2 93 #[]:=xY func93 zr zr [] (fun x a=>by simp at a) (fun B w' b c _ _=>Oy B w' b c)
theorem UZ(W:YW):jW W 3 94 #[]:=xY func94 zr zr [] (fun x a=>by simp at a) (fun B w' b c _ _=>Ri B w' b c)
theorem Va(W:YW):jW W 4 95 #[]:=xY func95 zr zr [] (fun x a=>by simp at a) (fun B w' b c _ _=>Ti B w' b c)
theorem Vb(W:YW):jW W 5 96 #[]:=xY func96 zr zr [] (fun x a=>by simp at a) (fun B w' b c _ _=>Rk B w' b c)
theorem Vc(W:YW):jW W 6 97 #[]:=xY func97 zr zr [] (fun x a=>by simp at a) (fun B w' b c _ _=>Ov B w' b c)
theorem Vd(W:YW):jW W 7 98 #[]:=xY func98 zr zr [] (fun x a=>by simp at a) (fun B w' b c _ _=>Rn B w' b c)
theorem Ve(W:YW):jW W 8 99 #[]:=xY func99 zr zr [] (fun x a=>by simp at a) (fun B w' b c _ _=>Ox B w' b c)
theorem UA(W:YW):jW W 26 117 #[]:=xY func117 zr zr [] (fun x a=>by simp at a) (fun B w' b c _ _=>Tf B w' b c)
theorem UB(W:YW):jW W 27 118 #[]:=xY func118 zr zr [] (fun x a=>by simp at a) (fun B w' b c _ _=>Rh B w' b c)
theorem UC(W:YW):jW W 28 99 #[]:=xY func99 zr zr [] (fun x a=>by simp at a) (fun B w' b c _ _=>Rm B w' b c)
theorem UD(W:YW):jW W 29 119 #[]:=xY func119 zr zr [] (fun x a=>by simp at a) (fun B w' b c _ _=>Oz B w' b c)
theorem UE(W:YW):jW W 30 120 #[]:=xY func120 zr zr [] (fun x a=>by simp at a) (fun B w' b c _ _=>Ow B w' b c)
theorem UF(W:YW):jW W 31 121 #[]:=xY func121 zr zr [] (fun x a=>by simp at a) (fun B w' b c _ _=>Rj B w' b c)
theorem UG(W:YW):jW W 32 122 #[]:=xY func122 zr zr [] (fun x c=>by simp at c) (fun B w' b d _ a=>Te B w' b d (a rfl))
structure bS(w:YW)(cs:YV):Prop where
 size:cs.size=300
 K:∀op,op<33->∃F cap,cs[op*5]? = O (I J (yq op).1)/\cs[op*5+1]? = O (I J (yq op).2.1)/\cs[op*5+2]? = O (I J (yq op).2.2.1)/\cs[op*5+3]? = O (I J (yq op).2.2.2)/\cs[op*5+4]? = O (.func (.func F) #[] cap)/\jW w op F cap
 zero:∀op,40<=op->op<60->cs[op*5]? = O (I J 0)/\cs[op*5+1]? = O (I J 0)/\cs[op*5+2]? = O (I J 0)/\cs[op*5+3]? = O (I J 0)
theorem bS.keep{w w':YW}{cs:YV}(h:bS w cs)(g:js w w'):bS w' cs:=by refine⟨h.size,fun op i=>?_,h.zero⟩;obtain⟨F,cap,a,b,c,d,e,f⟩:=h.K op i;exact⟨F,cap,a,b,c,d,e,f.keep g⟩
theorem Rv(w:YW)(s a b c d e f g i j k l m n o p q:YV)(h:Fns w [(25,166,q),(24,166,p),(23,166,o),(22,166,n),(21,166,m),(20,162,l),(19,162,k),(18,165,j),(17,165,i),(16,162,g),(15,162,f),(14,162,e),(13,163,d),(12,163,c),(11,162,b),(10,162,a),(9,162,s)]):bS w (Gi s a b c d e f g i j k l m n o p q):=by
 refine⟨rfl,fun op v=>?_,fun op t u=>?_⟩;have r:op=0\/op=1\/op=2\/op=3\/op=4\/op=5\/op=6\/op=7\/op=8\/op=9\/op=10\/op=11\/op=12\/op=13\/op=14\/op=15\/op=16\/op=17\/op=18\/op=19\/op=20\/op=21\/op=22\/op=23\/op=24\/op=25\/op=26\/op=27\/op=28\/op=29\/op=30\/op=31\/op=32:=zo;clear v;(repeat' rcases r with rfl|r);exact⟨_,_,rfl,rfl,rfl,rfl,rfl,UW w⟩;exact⟨_,_,rfl,rfl,rfl,rfl,rfl,UX w⟩;exact⟨_,_,rfl,rfl,rfl,rfl,rfl,UY w⟩;exact⟨_,_,rfl,rfl,rfl,rfl,rfl,UZ w⟩;exact⟨_,_,rfl,rfl,rfl,rfl,rfl,Va w⟩;exact⟨_,_,rfl,rfl,rfl,rfl,rfl,Vb w⟩;exact⟨_,_,rfl,rfl,rfl,rfl,rfl,Vc w⟩;exact⟨_,_,rfl,rfl,rfl,rfl,rfl,Vd w⟩;exact⟨_,_,rfl,rfl,rfl,rfl,rfl,Ve w⟩;exact⟨_,_,rfl,rfl,rfl,rfl,rfl,h (9,162,s) (Zh _ (Zh _ (Zh _ (Zh _ (Zh _ (Zh _ (Zh _ (Zh _ (Zh _ (Zh _ (Zh _ (Zh _ (Zh _ (Zh _ (Zh _ (Zh _ (List.Mem.head _)))))))))))))))))⟩;exact⟨_,_,rfl,rfl,rfl,rfl,rfl,h (10,162,a) (Zh _ (Zh _ (Zh _ (Zh _ (Zh _ (Zh _ (Zh _ (Zh _ (Zh _ (Zh _ (Zh _ (Zh _ (Zh _ (Zh _ (Zh _ (List.Mem.head _))))))))))))))))⟩;exact⟨_,_,rfl,rfl,rfl,rfl,rfl,h (11,162,b) (Zh _ (Zh _ (Zh _ (Zh _ (Zh _ (Zh _ (Zh _ (Zh _ (Zh _ (Zh _ (Zh _ (Zh _ (Zh _ (Zh _ (List.Mem.head _)))))))))))))))⟩;exact⟨_,_,rfl,rfl,rfl,rfl,rfl,h (12,163,c) (Zh _ (Zh _ (Zh _ (Zh _ (Zh _ (Zh _ (Zh _ (Zh _ (Zh _ (Zh _ (Zh _ (Zh _ (Zh _ (List.Mem.head _))))))))))))))⟩;exact⟨_,_,rfl,rfl,rfl,rfl,rfl,h (13,163,d) (Zh _ (Zh _ (Zh _ (Zh _ (Zh _ (Zh _ (Zh _ (Zh _ (Zh _ (Zh _ (Zh _ (Zh _ (List.Mem.head _)))))))))))))⟩;exact⟨_,_,rfl,rfl,rfl,rfl,rfl,h (14,162,e) (Zh _ (Zh _ (Zh _ (Zh _ (Zh _ (Zh _ (Zh _ (Zh _ (Zh _ (Zh _ (Zh _ (List.Mem.head _))))))))))))⟩;exact⟨_,_,rfl,rfl,rfl,rfl,rfl,h (15,162,f) (Zh _ (Zh _ (Zh _ (Zh _ (Zh _ (Zh _ (Zh _ (Zh _ (Zh _ (Zh _ (List.Mem.head _)))))))))))⟩;exact⟨_,_,rfl,rfl,rfl,rfl,rfl,h (16,162,g) (Zh _ (Zh _ (Zh _ (Zh _ (Zh _ (Zh _ (Zh _ (Zh _ (Zh _ (List.Mem.head _))))))))))⟩;exact⟨_,_,rfl,rfl,rfl,rfl,rfl,h (17,165,i) (Zh _ (Zh _ (Zh _ (Zh _ (Zh _ (Zh _ (Zh _ (Zh _ (List.Mem.head _)))))))))⟩;exact⟨_,_,rfl,rfl,rfl,rfl,rfl,h (18,165,j) (Zh _ (Zh _ (Zh _ (Zh _ (Zh _ (Zh _ (Zh _ (List.Mem.head _))))))))⟩;exact⟨_,_,rfl,rfl,rfl,rfl,rfl,h (19,162,k) (Zh _ (Zh _ (Zh _ (Zh _ (Zh _ (Zh _ (List.Mem.head _)))))))⟩;exact⟨_,_,rfl,rfl,rfl,rfl,rfl,h (20,162,l) (Zh _ (Zh _ (Zh _ (Zh _ (Zh _ (List.Mem.head _))))))⟩;exact⟨_,_,rfl,rfl,rfl,rfl,rfl,h (21,166,m) (Zh _ (Zh _ (Zh _ (Zh _ (List.Mem.head _)))))⟩;exact⟨_,_,rfl,rfl,rfl,rfl,rfl,h (22,166,n) (Zh _ (Zh _ (Zh _ (List.Mem.head _))))⟩;exact⟨_,_,rfl,rfl,rfl,rfl,rfl,h (23,166,o) (Zh _ (Zh _ (List.Mem.head _)))⟩;exact⟨_,_,rfl,rfl,rfl,rfl,rfl,h (24,166,p) (Zh _ (List.Mem.head _))⟩;exact⟨_,_,rfl,rfl,rfl,rfl,rfl,h (25,166,q) (List.Mem.head _)⟩;exact⟨_,_,rfl,rfl,rfl,rfl,rfl,UA w⟩;exact⟨_,_,rfl,rfl,rfl,rfl,rfl,UB w⟩;exact⟨_,_,rfl,rfl,rfl,rfl,rfl,UC w⟩;exact⟨_,_,rfl,rfl,rfl,rfl,rfl,UD w⟩;exact⟨_,_,rfl,rfl,rfl,rfl,rfl,UE w⟩;exact⟨_,_,rfl,rfl,rfl,rfl,rfl,UF w⟩;exact⟨_,_,rfl,rfl,rfl,rfl,rfl,UG w⟩
 ·have r:op=40\/op=41\/op=42\/op=43\/op=44\/op=45\/op=46\/op=47\/op=48\/op=49\/op=50\/op=51\/op=52\/op=53\/op=54\/op=55\/op=56\/op=57\/op=58\/op=59:=zo;clear t u;(repeat' rcases r with rfl|r);all_goals exact⟨rfl,rfl,rfl,rfl⟩
theorem UR:∀(j p:Nat),([0,0]:List Nat)[j]? = O p->p<3/\(#[I J 0,I J 0]:YV)[j]? = O (Value.int .i64 (p:Int)):=by
 intro j p a;match j,a with
 |0,a=>simp at a;subst a;exact⟨zo,rfl⟩
 |1,a=>simp at a;subst a;exact⟨zo,rfl⟩
 |j+2,a=>simp at a
theorem US:∀(j p:Nat),([1,0]:List Nat)[j]? = O p->p<3/\(#[I J 1,I J 0]:YV)[j]? = O (Value.int .i64 (p:Int)):=by
 intro j p a;match j,a with
 |0,a=>simp at a;subst a;exact⟨zo,rfl⟩
 |1,a=>simp at a;subst a;exact⟨zo,rfl⟩
 |j+2,a=>simp at a
theorem Uu{P:Prop}(zz0:P:=by
 intro j p a;match j,a with
 |0,a=>simp at a;subst a;exact⟨zo,rfl⟩
 |1,a=>simp at a;subst a;exact⟨zo,rfl⟩
 |2,a=>simp at a;subst a;exact⟨zo,rfl⟩
 |j+3,a=>simp at a):P:=zz0
theorem UT:∀(j p:Nat),([0,1,0]:List Nat)[j]? = O p->p<3/\(#[I J 0,I J 1,I J 0]:YV)[j]? = O (Value.int .i64 (p:Int)):=Uu
theorem UU:∀(j p:Nat),([1,2,0]:List Nat)[j]? = O p->p<3/\(#[I J 1,I J 2,I J 0]:YV)[j]? = O (Value.int .i64 (p:Int)):=Uu
theorem IY:(prog.info? 112).map (fun i=>i.size)=O 300:=zr
theorem PU(w:YW):Calls prog 58 #[] w fun e w'=>∃cs,e=Rt (.agg cs)/\bS w' cs/\cs.all (·.oneCell')=Y/\Below w.heap.size w w':=by go_enter func58,ntmps58;go_wp2_with fail;refine(gK 9 101 zo func101 zr zr (fun x y=>Nj x y) _).m ?_;rintro e w9 ⟨c9,rfl,g,d⟩;have i:Hid (wP w9 w.heap.size):=wP.z (w:=w.alloc (C _ 112)) ⟨_,rfl,Blk.new w _ _,zs⟩ d;have f:Hid (Below w.heap.size w w9):=(zB w _).trans (d.m zs);have h:Hid (Fns w9 [(9,162,c9)]):=Fns.cons (W:=w9) (l:=[]) (fun x F=>by simp at F) (Ze _ _) g;clear g d;go_wp2_with fail;refine(gK 10 102 zo func102 zr zr (fun x y=>Nm x y) w9).m ?_;rintro e G ⟨j,rfl,g,d⟩;have c:Hid (wP G w.heap.size):=i.z d;have a:Hid (Below w.heap.size w G):=f.trans (d.m f.size);have b:=V (h.cons d g);clear i f h g d;have i:=c;have f:=a;have h:=b;clear c a b;go_wp2_with fail;refine(gK 11 103 zo func103 zr zr (fun x y=>Nl x y) G).m ?_;rintro e H ⟨k,rfl,g,d⟩;have c:Hid (wP H w.heap.size):=i.z d;have a:Hid (Below w.heap.size w H):=f.trans (d.m f.size);have b:=V (h.cons d g);clear i f h g d;have i:=c;have f:=a;have h:=b;clear c a b;go_wp2_with fail;refine(MX 12 105 zo func105 zr zr (fun x y h0 F hy=>KC x y h0 F hy) H).m ?_;rintro e K ⟨m,rfl,g,d⟩;have c:Hid (wP K w.heap.size):=i.z d;have a:Hid (Below w.heap.size w K):=f.trans (d.m f.size);have b:=V (h.cons d g);clear i f h g d;have i:=c;have f:=a;have h:=b;clear c a b;go_wp2_with fail;refine(MX 13 106 zo func106 zr zr (fun x y h0 F hy=>KD x y h0 F hy) K).m ?_;rintro e L ⟨n,rfl,g,d⟩;have c:Hid (wP L w.heap.size):=i.z d;have a:Hid (Below w.heap.size w L):=f.trans (d.m f.size);have b:=V (h.cons d g);clear i f h g d;have i:=c;have f:=a;have h:=b;clear c a b;go_wp2_with fail;refine(gK 14 107 zo func107 zr zr (fun x y=>Nk x y) L).m ?_;rintro e M ⟨o,rfl,g,d⟩;have c:Hid (wP M w.heap.size):=i.z d;have a:Hid (Below w.heap.size w M):=f.trans (d.m f.size);have b:=V (h.cons d g);clear i f h g d;have i:=c;have f:=a;have h:=b;clear c a b;go_wp2_with fail;refine(gK 15 108 zo func108 zr zr (fun x y=>Qo x y) M).m ?_;rintro e N ⟨p,rfl,g,d⟩;have c:Hid (wP N w.heap.size):=i.z d;have a:Hid (Below w.heap.size w N):=f.trans (d.m f.size);have b:=V (h.cons d g);clear i f h g d;have i:=c;have f:=a;have h:=b;clear c a b;go_wp2_with fail;refine(gK 16 109 zo func109 zr zr (fun x y=>Nn x y) N).m ?_;rintro e Q ⟨q,rfl,g,d⟩;have c:Hid (wP Q w.heap.size):=i.z d;have a:Hid (Below w.heap.size w Q):=f.trans (d.m f.size);have b:=V (h.cons d g);clear i f h g d;have i:=c;have f:=a;have h:=b;clear c a b;go_wp2_with fail;refine(MY 17 111 zo func111 zr zr (fun x F=>EY x F) Q).m ?_;rintro e R ⟨r,rfl,g,d⟩;have c:Hid (wP R w.heap.size):=i.z d;have a:Hid (Below w.heap.size w R):=f.trans (d.m f.size);have b:=V (h.cons d g);clear i f h g d;have i:=c;have f:=a;have h:=b;clear c a b;go_wp2_with fail;refine(MY 18 112 zo func112 zr zr (fun x _=>EZ x) R).m ?_;rintro e T ⟨s,rfl,g,d⟩;have c:Hid (wP T w.heap.size):=i.z d;have a:Hid (Below w.heap.size w T):=f.trans (d.m f.size);have b:=V (h.cons d g);clear i f h g d;have i:=c;have f:=a;have h:=b;clear c a b;go_wp2_with fail;refine(gK 19 113 zo func113 zr zr (fun x y=>Hs x y) T).m ?_;rintro e a0 ⟨t,rfl,g,d⟩;have c:Hid (wP a0 w.heap.size):=i.z d;have a:Hid (Below w.heap.size w a0):=f.trans (d.m f.size);have b:=V (h.cons d g);clear i f h g d;have i:=c;have f:=a;have h:=b;clear c a b;go_wp2_with fail;refine(gK 20 115 zo func115 zr zr (fun x y=>KB x y) a0).m ?_;rintro e b0 ⟨u,rfl,g,d⟩;have c:Hid (wP b0 w.heap.size):=i.z d;have a:Hid (Below w.heap.size w b0):=f.trans (d.m f.size);have b:=V (h.cons d g);clear i f h g d;have i:=c;have f:=a;have h:=b;clear c a b;go_wp2_with fail;refine(nU 21 2 [0,0] zs rfl b0 #[I J 0,I J 0] UR).m ?_;rintro e c0 ⟨v,rfl,g,d⟩;have c:Hid (wP c0 w.heap.size):=i.z d;have a:Hid (Below w.heap.size w c0):=f.trans (d.m f.size);have b:=V (h.cons d g);clear i f h g d;have i:=c;have f:=a;have h:=b;clear c a b;go_wp2_with fail;refine(MZ c0).m ?_;rintro e d0 ⟨z,rfl,g,d⟩;have c:Hid (wP d0 w.heap.size):=i.z d;have a:Hid (Below w.heap.size w d0):=f.trans (d.m f.size);have b:=V (h.cons d g);clear i f h g d;have i:=c;have f:=a;have h:=b;clear c a b;go_wp2_with fail;refine(nU 23 2 [1,0] zs rfl d0 #[I J 1,I J 0] US).m ?_;rintro e e0 ⟨B,rfl,g,d⟩;have c:Hid (wP e0 w.heap.size):=i.z d;have a:Hid (Below w.heap.size w e0):=f.trans (d.m f.size);have b:=V (h.cons d g);clear i f h g d;have i:=c;have f:=a;have h:=b;clear c a b;go_wp2_with fail;refine(nU 24 3 [0,1,0] zs rfl e0 #[I J 0,I J 1,I J 0] UT).m ?_;rintro e f0 ⟨D,rfl,g,d⟩;have c:Hid (wP f0 w.heap.size):=i.z d;have a:Hid (Below w.heap.size w f0):=f.trans (d.m f.size);have b:=V (h.cons d g);clear i f h g d;have i:=c;have f:=a;have h:=b;clear c a b;go_wp2_with fail;refine(nU 25 3 [1,2,0] zs rfl f0 #[I J 1,I J 2,I J 0] UU).m ?_;rintro e g0 ⟨E,rfl,g,d⟩;have c:Hid (wP g0 w.heap.size):=i.z d;have a:Hid (Below w.heap.size w g0):=f.trans (d.m f.size);have b:=V (h.cons d g);clear i f h g d;have i:=c;have f:=a;have h:=b;clear c a b;obtain⟨zs,j0,i0,k0⟩:=U i;have HZ:=V i0;clear i0;go_wp2_with (first|(refine wpList_buildTo rfl 112 _ rfl (O 89) rfl (Gi c9 j k m n o p q r s t u v z B D E) zr ?_)|(refine wpList_store_row rfl 112 (.tmp 0) (.tmp 89) rfl w.heap.size (Gi c9 j k m n o p q r s t u v z B D E) zr zr 112 zs HZ zr j0 zr ?_));refine bodyPost_ret (results_cell_row (P:=prog) rfl _ _ w.heap.size 112 _ (0,0) _ rfl (HZ.setRow _) underlying112 rfl IY) rfl ?_;have hT:=Rv g0 c9 j k m n o p q r s t u v z B D E h;refine⟨_,rfl,?_,zr,cD f (Zc _) _⟩;exact hT.keep (js.row HZ _)
end Go.Proofs.YtmeiikjpaepogaaGreatDoor
namespace Go.Proofs.YtmeiikjpaepogaaGreatDoor
open Go Go.RowKit Go.Proofs.Tryz List
def InL(w:YW)(ao:YA)(l:YL):Prop:=l=[]\/∃g off,ao=O ⟨g,off,X⟩/\g<w.heap.size/\∀j u,(zc l)[j]? = O u->w.cell? ⟨g,off+j,X⟩=O u
theorem InL.z{w w':YW}{a:YA}{l:YL}(h:InL w a l)(b:Below w.heap.size w w'):InL w' a l:=by rcases h with h|⟨g,off,c,d,e⟩;exact Zg h;exact Zf ⟨g,off,c,by have:=b.size;omega,fun j u f=>by rw[b.u (by simpa using d)];exact e j u f⟩
def opS(op:Int):Bool:=decide (0<=op/\op<=32\/40<=op/\op<=59)
def qm(n:Nat)(x:Int×Int):Bool:=opS x.1&&(!zT x.1 || decide (0<=x.2/\x.2<n))
def aj(l:YL):Bool:=match l.getLast? with|some x=>decide (x.1=1\/x.1=4\/x.1=5)|none=>Z
def aQ(n:Nat)(en ce:Int):Bool:=decide ((1<=n/\n<=5000)/\(0<=en/\en<n)/\0<=ce/\ce<=1000)
def jD(l:YL)(en ce:Int):Bool:=aQ l.length en ce&&l.all (qm l.length)&&aj l
theorem Ip(op:Int):(ya op).length=0↔opS op=Z:=by
 by_cases h:0<=op/\op<=59;obtain⟨k,rfl⟩:∃k:Nat,op=k:=⟨op.toNat,zo⟩;have:∀k:Fin 60,(ya ((k.val:Nat):Int)).length=0↔opS ((k.val:Nat):Int)=Z:=zd;exact this ⟨k,zo⟩;have b:opS op=Z:=by unfold opS;simp;omega
 have c:ya op=[]:=by
  unfold ya;split;rename_i y a;have d:=mem_of_find?_eq_some a;have e:=find?_some a;have:∀y∈qQ,40<=y.1/\y.1<=59:=by unfold qQ;simp
  have:=this y d;simp at e;omega;rw[if_neg zo]
 rw[b,c];simp
theorem Nx{l:YL}{en ce:Int}(h:jD l en ce=Y)(f:∀x∈l,inI x.2):yX l/\(0<=en/\en<l.length)/\(0<=ce/\ce<=1000):=by unfold jD at h;simp only[Bool.and_eq_true]at h;obtain⟨⟨c,e⟩,a⟩:=h;unfold aQ at c;have d:=of_decide_eq_true c;refine⟨⟨fun x b=>?_,?_,zo⟩,zo,zo⟩;have:=all_eq_true.1 e x b;unfold qm at this;simp only[Bool.and_eq_true]at this;refine⟨by have:=of_decide_eq_true this.1;omega,f x b,fun g=>?_⟩;have k:=this.2;rw[g]at k;simpa using k;unfold aj at a;split at a;rename_i x b;exact⟨x,b,of_decide_eq_true a⟩;cases a
theorem fL{w:YW}{g off:Nat}{l:YL}(h:∀j u,(zc l)[j]? = O u->w.cell? ⟨g,off+j,X⟩=O u){k:Nat}{x:Int×Int}(c:l[k]? = O x):w.cell? ⟨g,off+k*2,X⟩=O (I J x.1)/\w.cell? ⟨g,off+k*2+1,X⟩=O (I J x.2):=by obtain⟨a,b⟩:=zL l k x c;exact⟨h _ _ a,by have:=h _ _ b;rwa [<-Nat.add_assoc]at this⟩
theorem DL(b:YA)(n c:Nat)(en ce:Int)(w:YW)(h:aQ n en ce=Z):Calls prog 67 #[S b n c,I J en,I J ce] w fun e w'=>e=Rt (Tu #[A X,I J 5])/\w'=w:=by
 unfold aQ at h;have a:=of_decide_eq_false h;by_cases c1:(n:Int)<1
 ·clear h a;go_enter func67,ntmps67;go_wp2_with fail;go_ret2;exact⟨rfl,rfl⟩
 by_cases c2:(5000:Int)<n
 ·clear h a;go_enter func67,ntmps67;go_wp2_with fail;go_ret2;exact⟨rfl,rfl⟩
 by_cases c3:en<0
 ·clear h a;go_enter func67,ntmps67;go_wp2_with fail;go_ret2;exact⟨rfl,rfl⟩
 by_cases c4:(n:Int)<=en
 ·clear h a;go_enter func67,ntmps67;go_wp2_with fail;go_ret2;exact⟨rfl,rfl⟩
 by_cases d:ce<0
 ·clear h a;go_enter func67,ntmps67;go_wp2_with fail;go_ret2;exact⟨rfl,rfl⟩
 ·have f:1000<ce:=zo;clear h a;go_enter func67,ntmps67;go_wp2_with fail;go_ret2;exact⟨rfl,rfl⟩
theorem cA(g n j:Nat):(⟨g,n,X⟩:Addr).add j=⟨g,n+j,X⟩:=by simp[Addr.add]
def mY(w:YW)(l:YL)(en ce:Int)(e:Ending)(w':YW):Prop:=(jD l en ce=Z/\e=Rt (Tu #[A X,I J 5])\/jD l en ce=Y/\∃p g cap vH,e=Rt (Tu #[A (O ⟨p,0,X⟩),I J 0])/\Blk w' p #[S (O ⟨g,0,X⟩) l.length cap,I J en,I J ce,vH] 137/\w.heap.size<=p/\w'.ownsRow w.heap.size 65 2 (S (O ⟨g,0,X⟩) l.length cap) l.length (zc l))/\Below w.heap.size w w'
theorem uf{l:YL}{en ce:Int}{k:Nat}{x:Int×Int}(a:l[k]? = O x)(h:qm l.length x=Z):jD l en ce=Z:=by
 unfold jD;have:l.all (qm l.length)=Z:=by rw[all_eq_false];exact⟨x,Zd a,by rw[h];simp⟩
 rw[this];simp
theorem Ny{l:YL}{en ce:Int}(h:aj l=Z):jD l en ce=Z:=by unfold jD;rw[h];simp
theorem QC{l:YL}{en ce:Int}(b:aQ l.length en ce=Y)(c:∀j x,j<l.length->l[j]? = O x->qm l.length x=Y)(d:aj l=Y):jD l en ce=Y:=by unfold jD;rw[b,d];simp only[Bool.true_and,Bool.and_true,all_eq_true];intro x f;obtain⟨j,a,e⟩:=getElem_of_mem f;exact c j x a (by rw[Za a,e])
theorem tC(ao:YA)(c:Nat)(l:YL)(en ce:Int)(w:YW)(J0:InL w ao l):Calls prog 67 #[S ao l.length c,I J en,I J ce] w (mY w l en ce):=by
 cases hs:aQ l.length en ce;refine(DL ao l.length c en ce w hs).m ?_;rintro e w' ⟨rfl,rfl⟩;exact⟨Zg ⟨by unfold jD;rw[hs];simp,rfl⟩,Ze _ _⟩
 ·have k0:=hs;unfold aQ at k0;have l0:=of_decide_eq_true k0;rcases J0 with h0|⟨g,off,rfl,hg,q⟩;rw[h0]at l0;simp at l0;have c1:¬(l.length:Int)<1:=zo;have c2:¬(5000:Int)<l.length:=zo;have c3:¬en<0:=zo;have c4:¬(l.length:Int)<=en:=zo;have c5:¬ce<0:=zo;have c6:¬1000<ce:=zo;have HS:=V hs;have b0:=V q;obtain⟨iI,I0,x0,y0,A0⟩:=info_parts yJ;clear hs k0 l0 q;go_enter func67,ntmps67;go_wp2;go_loopw [8] (fun i wr=>∃k:Nat,i=I J k/\k<=l.length/\(∀j x,j<k->l[j]? = O x->qm l.length x=Y)/\Below w.heap.size w wr) (fun i _=>l.length-(intOf i).toNat);case atStart=>exact⟨0,rfl,Zq _,fun j x hj=>absurd hj (Nat.not_lt_zero _),Ze _ _⟩
  case round=>
   obtain⟨k,rfl,hk,E,d⟩:=hrel;have s:=V E;have f:=V d;have U0:g<wr.heap.size:=by have:=d.size;omega
   by_cases g0:k<l.length
   ·obtain⟨x,hx⟩:∃x,l[k]? = O x:=⟨_,Za g0⟩;have H:=fL b0 hx
    have f0:∀W,Below wr.heap.size wr W->W.cell? ⟨g,off+k*2,X⟩=O (I J x.1)/\W.cell? ⟨g,off+k*2+1,X⟩=O (I J x.2):=fun W hW=>by
      have hb:=d.trans (hW.m d.size)
      rw[hb.u (by simpa using hg),hb.u (by simpa using hg)]
      exact H
    have r0:=f0 wr (Ze _ _);have C0:=V f0;have N0:(k:Int)<l.length:=zo;have P:=V (mj x.1 wr);have B:=V (Ip x.1);have HX:=V hx;obtain⟨s0,t0⟩:=r0;clear hx f0 H E d;generalize L0:(ya x.1).length=pn at P B;generalize (ya x.1).map (Value.int .i64)=pv at P;clear L0;go_wp2_with fail;refine P.m ?_;rintro e w1 ⟨v,rfl,hv,Q⟩;obtain⟨av,cv,rfl⟩:=zu hv;obtain⟨Q0,R0⟩:=U C0 w1 Q;have d0:=V (mi x.1 w1);have t:=V (f.trans (Q.m f.size));have T0:g<w1.heap.size:=by have:=Q.size;omega
    clear hv Q P s0 t0;generalize i0:zT x.1=nn at d0;go_wp2_with fail;refine d0.m ?_;rintro e w2 ⟨rfl,w0⟩;obtain rfl:=w0.symm;clear w0 d0;by_cases j0:pn=0
    ·have m:=B.1 j0;have a:qm l.length x=Z:=by unfold qm;rw[m];rfl
     have n:=V (uf (en:=en) (ce:=ce) HX a);clear m a B;subst j0;go_wp2_with fail;go_ret2;exact⟨Zg ⟨U n,rfl⟩,U t⟩
    ·have m:opS x.1=Y:=by cases e:opS x.1;exact absurd (B.2 e) j0;rfl
     have X0:((pn:Int)==0)=Z:=by have:¬(pn:Int)=0:=zo;simpa using this
     clear B;by_cases r:nn=Y/\x.2<0
     ·obtain⟨rfl,R⟩:=r;have a:qm l.length x=Z:=by unfold qm;rw[m,i0];simp;omega
      have n:=V (uf (en:=en) (ce:=ce) HX a);clear m a;go_wp2_with fail;go_ret2;exact⟨Zg ⟨U n,rfl⟩,U t⟩
     by_cases G:nn=Y/\(l.length:Int)<=x.2
     ·obtain⟨rfl,q0⟩:=G;have R:¬x.2<0:=zo;have a:qm l.length x=Z:=by unfold qm;rw[m,i0];simp;omega
      have n:=V (uf (en:=en) (ce:=ce) HX a);clear m a r;go_wp2_with fail;go_ret2;exact⟨Zg ⟨U n,rfl⟩,U t⟩
     ·have K:qm l.length x=Y:=by unfold qm;rw[m,i0];cases nn;rfl;simp;simp at r G;omega
      have z:=V K;clear m K;cases nn
      ·clear r G;go_wp2;go_roundw;case rel=>refine⟨k+1,by go_num,zo,?_,U t⟩;intro j y hj hy;rcases Nat.lt_or_ge j k with h1|h1;exact U s j y h1 hy;obtain rfl:j=k:=zo;rw[U HX]at hy;obtain rfl:=Zl hy;exact U z
       case measure=>exact zv
      ·have R:¬x.2<0:=fun e=>r ⟨rfl,e⟩;have q0:¬(l.length:Int)<=x.2:=fun e=>G ⟨rfl,e⟩;clear r G;go_wp2;go_roundw;case rel=>refine⟨k+1,by go_num,zo,?_,U t⟩;intro j y hj hy;rcases Nat.lt_or_ge j k with h1|h1;exact U s j y h1 hy;obtain rfl:j=k:=zo;rw[U HX]at hy;obtain rfl:=Zl hy;exact U z
       case measure=>exact zv
   ·have K0:k=l.length:=zo;subst K0;have v0:0<l.length:=zo;obtain⟨x,hx⟩:∃x,l[l.length-1]? = O x:=⟨_,Za zo⟩;have L:l.getLast? = O x:=by rw[getLast?_eq_getElem?];exact hx
    have H:=fL b0 hx;have u0:wr.cell? ⟨g,off+(l.length-1)*2,X⟩=O (I J x.1):=by rw[d.u (by simpa using hg)];exact H.1
    have O0:(l.length:Int)-1=((l.length-1:Nat):Int):=zo;have W0:(((l.length-1:Nat)):Int)<l.length:=zo;have h:aj l=decide (x.1=1\/x.1=4\/x.1=5):=by unfold aj;rw[L]
    clear hx L H E;by_cases b:x.1=1\/x.1=4\/x.1=5
    ·have M:jD l en ce=Y:=QC HS s (by rw[h];exact decide_eq_true b);have c0:=V M;have T:((wr.alloc (C #[S X 0 0,I J en,I J ce,S X 0 0] 137))).ownsRow wr.heap.size 65 2 (S X 0 0) 0 []:=Zm _ _ _ _;have n0:=V T;have p0:=Blk.new wr #[S X 0 0,I J en,I J ce,S X 0 0] 137;have F0:=V p0
     have N:∀j u,(zc l)[j]? = O u->((wr.alloc (C #[S X 0 0,I J en,I J ce,S X 0 0] 137))).cell? ((⟨g,off,X⟩:Addr).add j)=O u:=fun j u hj=>by
       have hb:=d.trans (((Ze _ _).alloc (Zc _) (C #[S X 0 0,I J en,I J ce,S X 0 0] 137)).m d.size)
       rw[cA,hb.u (by simpa using hg)]
       exact U b0 j u hj
     have e0:=V N;have D0:Hid ((zc l).length=l.length*2):=yL l;have o0:wr.heap.size<=(wr.alloc (C #[S X 0 0,I J en,I J ce,S X 0 0] 137)).heap.size:=zs;have B0:=V o0;have h5:l.length<=5000:=zo;have H5:=V h5;clear h5;clear M T p0 N o0 h d g0;rcases b with he|he|he;all_goals rw[he]at u0;clear he;go_wp2_with (at_builtin;refine wpList_append_lies _ rfl (.tmp 106) (.tmp 107) 33 rfl wr.heap.size 65 iI _ 2 16 underlying33 I0 x0 y0 A0 rfl zd (S X 0 0) 0 [] zf n0 ⟨g,off,X⟩ l.length c (zc l) zf D0 e0 (kP l) v0 (by have:=U H5;unfold maxLen;omega) (by have:=U H5;omega) B0 _ rfl ?_;intro g2 D w5 a0 p G0 M0;have F:=F0.grown p zq;have P0:=F.u;have S0:=F.H;have V0:=F.lt;have HO:=V a0;have HG:=V p;have m0:=V F;clear a0 p G0 F);go_ret2;have ho:=U HO;rw[Nat.zero_add,nil_append]at ho;have H0:(Value.slice (O ⟨g2,0,X⟩) l.length D).ownBlock≠O wr.heap.size:=fun e=>zR m0 ho zd e;refine⟨Zf ⟨U c0,wr.heap.size,g2,D,S X 0 0,rfl,?_,f.size,?_⟩,?_⟩;have:=m0.set 0 (S (O ⟨g2,0,X⟩) (0+l.length) D);simpa only [Zt,set_cons_zero,Nat.zero_add]using this;exact zV (zA ho H0 _) f.size;exact((f.trans (((Ze _ _).alloc (Zc _) _).m f.size)).grown HG (by have:=f.size;simp;omega) (fun j hj=>by simp[Value.ownBlock]at hj)).setCell f.size _
    ·have E0:=V (Ny (en:=en) (ce:=ce) (show aj l=Z by rw[h];exact decide_eq_false b));have n1:¬x.1=1:=fun e=>b (Zg e);have n4:¬x.1=4:=fun e=>b (Zf (Zg e));have n5:¬x.1=5:=fun e=>b (Zf (Zf e));generalize x.1=o at u0 n1 n4 n5;have m1:(o==1)=Z:=by simpa using n1
     have m4:(o==4)=Z:=by simpa using n4
     have m5:(o==5)=Z:=by simpa using n5
     have r1:(o != 1)=Y:=by rw[bne,m1];rfl
     have r4:(o != 4)=Y:=by rw[bne,m4];rfl
     have r5:(o != 5)=Y:=by rw[bne,m5];rfl
     clear h b d g0;go_upto_region 12 with fail;go_wp2_with fail;go_ret2;exact⟨Zg ⟨U E0,rfl⟩,U f⟩
end Go.Proofs.YtmeiikjpaepogaaGreatDoor
