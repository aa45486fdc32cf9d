/- Own. -/
import Derived.WalkKit
import Derived.WalkSpells
import Derived.WalkLawsBesides
import Derived.Deep.QuietTactic
import Derived.BigQuiet
import Derived.Deep.RegionHeldLaw
import Derived.Deep.RegionLaw
import Derived.Deep.DeepFit
import Derived.Deep.DeepMust
import Derived.Deep.AppendLies
import Derived.Test.YtmeiikjpaepogaaGreatDoorRows
open Option renaming some->O,none->X
open Bool renaming true->Y,false->Z
open Go.Value renaming int->I,slice->S,pointer->A,bool->Bl,string->Sr,tuple->Tu,agg->Ag
open Go.Obj renaming cells->C
open Go.Ending renaming returned->Rt
open Go.IntKind renaming i64->J
set_option maxRecDepth 100000
set_option maxHeartbeats 1000000
namespace Go.Proofs.YtmeiikjpaepogaaGreatDoor
open Go Go.RowKit Go.Proofs.Tryz List
theorem zb {P:Prop} (h:P:=by (repeat (first|with_reducible refine yP ?_|with_reducible refine zS ?_ _|with_reducible refine Ee ?_ _|(with_reducible refine Below.alloc ?_ ?_ _;rotate_left;(first|omega|((repeat (first|rw[World.size_up]|rw[World.size_dr]|rw[World.size_drN]))<;>omega)))));(with_reducible exact Below.refl _ _)):P:=h
theorem zk {P:Prop} (h:P:=by (repeat (first|with_reducible refine Blk.drew ?_|with_reducible refine Blk.drewN ?_ _|(with_reducible refine gE _ _ ?_;(first|omega|((repeat (first|rw[World.size_up]|rw[World.size_dr]|rw[World.size_drN]))<;>omega)))|with_reducible refine Blk.alloc ?_ _));(first|done|with_reducible assumption)):P:=h
theorem zv {P:Prop} (h:P:=by simp[intOf];omega):P:=h
theorem zo {P:Prop} (h:P:=by omega):P:=h
theorem zs {P:Prop} (h:P:=by simp):P:=h
theorem zd {P:Prop} (h:P:=by decide):P:=h
theorem zr {P:Prop} (h:P:=by kernel_rfl):P:=h
theorem za {P:Prop} (h:P:=by assumption):P:=h
theorem zp {P:Prop} (h:P:=by simp;omega):P:=h
theorem ze {P:Prop} (h:P:=by first|(simp[Act.eval];done)|(simp[Act.eval,Act.put];done)|rfl):P:=h
theorem zf {P:Prop} (h:P:=by simp[Act.eval]):P:=h
theorem zg {P:Prop} (h:P:=by first|(simp[Act.eval];done)|rfl):P:=h
theorem zh {P:Prop} (h:P:=by first|rfl|(simp[Act.eval];done)|(simp[Act.eval,Act.put];done)):P:=h
theorem zm {P:Prop} (h:P:=by unfold maxLen;omega):P:=h
theorem zw {P:Prop} (h:P:=by rw[IntKind.wrap_i64];omega):P:=h
theorem zq {P:Prop} (h:P:=by simp[Value.ownBlock]):P:=h
theorem zx {P:Prop} (h:P:=by simp[zY,toMS];omega):P:=h
theorem zy {P:Prop} (h:P:=by unfold jV;simp):P:=h
theorem zl {P:Prop} (h:P:=by first|rfl|(simp[Act.eval];done)):P:=h
theorem zj {P:Prop} (h:P:=by simp<;>omega):P:=h
theorem Za{α:Type}{l:List α}{i:Nat}(h:i<l.length):l[i]? = O l[i]:=getElem?_eq_getElem h
theorem Zb{α:Type}{i:Nat}{a:α}{l:List α}:l[i]? = O a↔∃h:i<l.length,l[i]=a:=List.getElem?_eq_some_iff
theorem Zc(n:Nat):n≤n:=Nat.le_refl n
theorem Zd{α:Type}{l:List α}{i:Nat}{a:α}(e:l[i]? = O a):a∈l:=mem_of_getElem? e
theorem Ze(B:Nat)(w:World):Below B w w:=Below.refl B w
theorem Zf{a b:Prop}(h:b):a∨b:=Or.inr h
theorem Zg{a b:Prop}(h:a):a∨b:=Or.inl h
theorem Zh{α:Type}{a:α}(b:α){s:List α}:List.Mem a s→List.Mem a (b::s):=List.Mem.tail b
theorem Zi{α:Type}{a b:List α}:(a++b).length=a.length+b.length:=length_append
theorem Zj{α:Type}{l:List α}{i:Nat}{a:α}:l.getD i a=l[i]?.getD a:=getD_eq_getElem?_getD
theorem Zk(a:Option Addr)(l c:Nat)(b:Option Addr)(m d:Nat):(Value.slice a l c=Value.slice b m d)=(a=b∧l=m∧c=d):=Value.slice.injEq a l c b m d
theorem Zl{α:Type}{a b:α}:O a=O b→a=b:=Option.some.inj
theorem Zm(w:World)(b:Nat)(e:TypeId)(s:Nat):w.ownsRow b e s (.slice X 0 0) 0 []:=World.ownsRow_nil w b e s
theorem Zn{α β:Type}{f:α→β}{l:List α}{i:Nat}:(l.map f)[i]? = l[i]?.map f:=getElem?_map
theorem Zo{α:Type}{a:α}{s t:List α}:a∈s++t↔a∈s∨a∈t:=mem_append
theorem Zq(n:Nat):0≤n:=Nat.zero_le n
theorem Zr(n:Nat):(n:Int).toNat=n:=Int.toNat_natCast n
theorem Zs{α:Type}(a b:α):(O a=O b)=(a=b):=Option.some.injEq a b
theorem Zt{α:Type}(l:List α)(i:Nat)(a:α):l.toArray.setIfInBounds i a=(l.set i a).toArray:=setIfInBounds_toArray l i a
theorem Zu{α:Type}{l m:List α}{i:Nat}(h:i<l.length):(l++m)[i]? = l[i]?:=getElem?_append_left h
theorem Zv(b:ByteArray):b.toList=b.data.toList:=ByteArray.toList_eq b
theorem Zw{α:Type}{l m:List α}{i:Nat}:l.length≤i→(l++m)[i]? = m[i-l.length]?:=getElem?_append_right
theorem Zx{α:Type}{l:List α}{b:α}:(l++[b]).dropLast=l:=dropLast_concat
theorem Zy{α:Type}(a b c:List α):a++b++c=a++(b++c):=append_assoc a b c
theorem Zz{α:Type}(l:List α):l=[]∨∃(m:List α)(b:α),l=m.concat b:=eq_nil_or_concat l
abbrev YL:=List (Int×Int)
abbrev YI:=List Int
abbrev YB:=ByteArray
abbrev YW:=World
abbrev YA:=Option Addr
abbrev YV:=Array Value
theorem _root_.Go.Calls.m{P:Program}{f:FuncId}{a:Array Value}{w:World}{Q T:Ending->World->Prop}(h:Calls P f a w Q)(r:∀e w',Q e w'->T e w'):Calls P f a w T:=Calls.mono h r
theorem _root_.Go.RowKit.Below.m{B D:Nat}{w v:World}(h:Below B w v)(i:D<=B):Below D w v:=Below.mono h i
theorem _root_.Go.RowKit.Below.u{B:Nat}{w v:World}(h:Below B w v){p:Addr}(i:p.block<B):v.cell? p=w.cell? p:=Below.cell h i
theorem _root_.Go.World.grownBy.u{w x:World}{r:Option Nat}(g:w.grownBy x r){a:Addr}{v:Value}(h:w.cell? a=some v)(n:some a.block≠r):x.cell? a=some v:=g.cell h n
theorem V{p:Prop}(h:p):Hid p:=h
theorem U{p:Prop}(h:Hid p):p:=h
theorem xO{k:IntKind}{a b:Int}(h:a=b):Ending.returned (.int k a)=Rt (.int k b):=by rw[h]
theorem jI{a b:Bool}(h:a=b):Ending.returned (Bl a)=Rt (Bl b):=by rw[h]
theorem iz{a b:YB}(h:a=b):Ending.returned (Sr a)=Rt (Sr b):=by rw[h]
def Blk(w:YW)(b:Nat)(cs:YV)(T:TypeId):Prop:=w.heap[b]? = O (C cs T (0,0))
theorem Blk.u{w:YW}{b:Nat}{cs:YV}{T:TypeId}(h:Blk w b cs T)(i:Nat):w.cell? ⟨b,i,X⟩=cs[i]?:=by unfold Blk at h;simp[World.cell?,h]
theorem Blk.H{w:YW}{b:Nat}{cs:YV}{T:TypeId}(h:Blk w b cs T)(i:Nat):w.frozen? ⟨b,i,X⟩=Z:=by unfold Blk at h;simp[World.frozen?,h]
theorem Blk.lt{w:YW}{b:Nat}{cs:YV}{T:TypeId}(h:Blk w b cs T):b<w.heap.size:=lt_of_block h
theorem Blk.set{w:YW}{b:Nat}{cs:YV}{T:TypeId}(h:Blk w b cs T)(i:Nat)(v:Value):Blk (w.setCell ⟨b,i,X⟩ v) b (cs.setIfInBounds i v) T:=by
 have a:=h.lt;unfold Blk at h ⊢;have c:w.heap[b]=C cs T (0,0):=by simpa [Array.getElem?_eq_getElem a]using h
 show(w.heap.modify b _)[b]? = _;rw[Array.getElem?_eq_getElem (by simpa using a),Array.getElem_modify_self,c];rfl
theorem Blk.far{w:YW}{b:Nat}{cs:YV}{T:TypeId}(h:Blk w b cs T){a:Addr}(c:b≠a.block)(v:Value):Blk (w.setCell a v) b cs T:=by unfold Blk at h ⊢;rw[Below.heap_setCell _ _ _ _ c];exact h
theorem Blk.drew{w:YW}{b:Nat}{cs:YV}{T:TypeId}(h:Blk w b cs T):Blk w.drew b cs T:=h
theorem Blk.drewN{w:YW}{b:Nat}{cs:YV}{T:TypeId}(h:Blk w b cs T)(n:Nat):Blk (w.drewN n) b cs T:=h
theorem Blk.alloc{w:YW}{b:Nat}{cs:YV}{T:TypeId}(h:Blk w b cs T)(o:Obj):Blk (w.alloc o) b cs T:=by have a:=h.lt;unfold Blk at h ⊢;rw[Below.heap_alloc _ _ _ a];exact h
theorem Blk.new(w:YW)(cs:YV)(T:TypeId):Blk (w.alloc (C cs T)) w.heap.size cs T:=by unfold Blk;show(w.heap.push _)[w.heap.size]? = _;simp
theorem Blk.grown{w w':YW}{b:Nat}{cs:YV}{T:TypeId}{row:Option Nat}(h:Blk w b cs T)(c:w.grownBy w' row)(d:O b≠row):Blk w' b cs T:=by have a:=h.lt;unfold Blk at h ⊢;rw[c.block _ a d];exact h
theorem Blk.z{B:Nat}{w w':YW}{b:Nat}{cs:YV}{T:TypeId}(h:Blk w b cs T)(c:Below B w w')(a:b<B):Blk w' b cs T:=by unfold Blk at h ⊢;rw[c.block _ a];exact h
theorem zS{B:Nat}{a w:YW}(h:Below B a w)(n:Nat):Below B a (w.drewN n):=⟨h.os,h.tape,h.output,h.size,h.block⟩
theorem zA{w:YW}{base:Nat}{e:TypeId}{size:Nat}{v:Value}{n:Nat}{xs:List Value}(h:w.ownsRow base e size v n xs){a:Addr}(b:v.ownBlock≠O a.block)(u:Value):(w.setCell a u).ownsRow base e size v n xs:=ownsRow_setCell_other h b u
theorem yR{w w':YW}{base:Nat}{e:TypeId}{size:Nat}{v:Value}{n:Nat}{xs:List Value}(h:w.ownsRow base e size v n xs)(f:∀k,v.ownBlock=O k->k<w.heap.size->w'.heap[k]? = w.heap[k]?):w'.ownsRow base e size v n xs:=by obtain⟨d,a⟩:=h;refine⟨d,?_⟩;rcases a with a|⟨g,cap,cur,c,i,b,r⟩;exact Zg a;refine Zf ⟨g,cap,cur,c,i,?_,r⟩;rw[f g (by rw[c];rfl) (lt_of_block b)];exact b
theorem wa{w w':YW}{row:Option Nat}{base:Nat}{e:TypeId}{size:Nat}{v:Value}{n:Nat}{xs:List Value}(h:w.ownsRow base e size v n xs)(c:w.grownBy w' row)(b:∀k,v.ownBlock=O k->O k≠row):w'.ownsRow base e size v n xs:=yR h (fun k d a=>c.block k a (b k d))
theorem zE{w:YW}{base:Nat}{e:TypeId}{size:Nat}{v:Value}{n:Nat}{xs:List Value}(h:w.ownsRow base e size v n xs)(o:Obj):(w.alloc o).ownsRow base e size v n xs:=yR h (fun _ _ a=>Below.heap_alloc _ _ _ a)
theorem zC{w:YW}{base:Nat}{e:TypeId}{size:Nat}{v:Value}{n:Nat}{xs:List Value}(h:w.ownsRow base e size v n xs){k:Nat}(a:v.ownBlock=O k):k<w.heap.size/\base<=k:=by rcases h.2 with⟨b,_⟩|⟨g,cap,cur,f,c,d,r⟩;subst b;simp[Value.ownBlock]at a;subst f;simp[Value.ownBlock]at a;subst a;exact⟨lt_of_block d,c⟩
structure xL where
 e:TypeId
 size:Nat
 n:Nat
 xs:List Value
structure yS(B:Nat)(w:YW)(bs:List Nat)(vs:List Value)(ss:List xL):Prop where
 own:∀(i:Nat)(v:Value)(s:xL),vs[i]? = O v->ss[i]? = O s->w.ownsRow B s.e s.size v s.n s.xs
 apart:∀(i j:Nat)(v v':Value)(k:Nat),vs[i]? = O v->vs[j]? = O v'->v.ownBlock=O k->v'.ownBlock=O k->i=j
 off:∀(i:Nat)(v:Value)(b:Nat),vs[i]? = O v->b∈bs->v.ownBlock≠O b
 len:vs.length=ss.length
theorem yS.to{B:Nat}{w w':YW}{c:List Nat}{b:List Value}{f:List xL}(h:yS B w c b f)(g:∀(i:Nat)(v:Value)(k:Nat),b[i]? = O v->v.ownBlock=O k->k<w.heap.size->w'.heap[k]? = w.heap[k]?):yS B w' c b f:=⟨fun i v s d j=>yR (h.own i v s d j) (fun k e a=>g i v k d e a),h.apart,h.off,h.len⟩
theorem yS.drew{B:Nat}{w:YW}{a:List Nat}{c:List Value}{b:List xL}(h:yS B w a c b):yS B w.drew a c b:=h.to (fun _ _ _ _ _ _=>rfl)
theorem yS.drewN{B:Nat}{w:YW}{a:List Nat}{c:List Value}{b:List xL}(h:yS B w a c b)(n:Nat):yS B (w.drewN n) a c b:=h.to (fun _ _ _ _ _ _=>rfl)
theorem yS.alloc{B:Nat}{w:YW}{b:List Nat}{d:List Value}{c:List xL}(h:yS B w b d c)(o:Obj):yS B (w.alloc o) b d c:=h.to (fun _ _ _ _ _ a=>Below.heap_alloc _ _ _ a)
theorem yS.set{B:Nat}{w:YW}{a:List Nat}{d:List Value}{c:List xL}(h:yS B w a d c){b:Nat}(g:b∈a)(i:Nat)(u:Value):yS B (w.setCell ⟨b,i,X⟩ u) a d c:=h.to (fun j v k l e _=>Below.heap_setCell _ _ _ _ (fun f=>h.off j v b l g (by rw[e,f])))
theorem yS.more{B:Nat}{w:YW}{d bs':List Nat}{g:List Value}{c:List xL}(h:yS B w d g c)(j:∀b∈bs',b∈d\/w.heap.size<=b):yS B w bs' g c:=by
 refine⟨h.own,h.apart,fun i v b a k=>?_,h.len⟩;rcases j b k with f|f;exact h.off i v b a f;intro e;obtain⟨s,l⟩:∃s,c[i]? = O s:=by have:=(Zb.1 a).1;exact⟨_,Za (by rw[<-h.len];exact this)⟩
 have:=(zC (h.own i v s a l) e).1;omega
theorem yS.below_all{B:Nat}{w w':YW}{b:List Nat}{d:List Value}{c:List xL}(h:yS B w b d c)(e:Below w.heap.size w w'):yS B w' b d c:=h.to (fun _ _ k _ _ a=>e.block k a)
theorem yS.grow{B:Nat}{w K:YW}{F:List Nat}{r:List Value}{L:List xL}(h:yS B w F r L)(i:Nat)(v v':Value)(D:xL)(z:r[i]? = O v)(H:∀b∈F,b<w.heap.size)(M:w.grownBy K v.ownBlock)(y:K.ownsRow B D.e D.size v' D.n D.xs)(o:v'.ownBlock=v.ownBlock\/∃g,v'.ownBlock=O g/\w.heap.size<=g):yS B K F (r.set i v') (L.set i D):=by
 have x:i<r.length:=(Zb.1 z).1;have old:∀(j:Nat)(u:Value)(k:Nat),r[j]? = O u->u.ownBlock=O k->k<w.heap.size:=by intro j u k a e;have p:=(Zb.1 a).1;exact(zC (h.own j u _ a (Za (by rw[<-h.len];exact p))) e).1
 have cases:∀(j:Nat)(u:Value),(r.set i v')[j]? = O u->(j=i/\u=v')\/(j≠i/\r[j]? = O u):=by intro j u a;by_cases e:i=j;subst e;rw[getElem?_set_self x]at a;exact Zg ⟨rfl,(Zl a).symm⟩;rw[getElem?_set_ne e]at a;exact Zf ⟨fun m=>e m.symm,a⟩
 refine⟨?_,?_,?_,by simp[h.len]⟩;intro j u s a E;rcases cases j u a with⟨rfl,rfl⟩|⟨p,f⟩;rw[getElem?_set_self (by rw[<-h.len];exact x)]at E;obtain rfl:=Zl E;exact y;rw[getElem?_set_ne (fun e=>p e.symm)]at E;exact wa (h.own j u s f E) M (fun k N e=>p (h.apart j i u v k f z N e.symm));intro j l u Q k a f e m;rcases cases j u a with⟨rfl,rfl⟩|⟨p,d⟩<;>rcases cases l Q f with⟨rfl,rfl⟩|⟨P,q⟩;rfl;exfalso;rcases o with c|⟨g,c,t⟩;exact P (h.apart _ _ _ _ k q z m (by rw[<-c];exact e));have:=old _ _ _ q m;rw[c]at e;simp at e;omega;exfalso;rcases o with c|⟨g,c,t⟩;exact p (h.apart _ _ _ _ k d z e (by rw[<-c];exact m));have:=old _ _ _ d e;rw[c]at m;simp at m;omega;exact h.apart _ _ _ _ k d q e m;intro j u b a G e;rcases cases j u a with⟨rfl,rfl⟩|⟨p,d⟩;rcases o with c|⟨g,c,t⟩;exact h.off _ _ b z G (by rw[<-c];exact e);have:=H b G;rw[c]at e;simp at e;omega;exact h.off _ _ b d G e
theorem yS.write{B:Nat}{w:YW}{o:List Nat}{m:List Value}{k:List xL}(h:yS B w o m k)(i:Nat)(g n cap:Nat)(s:xL)(f:m[i]? = O (S (O ⟨g,0,X⟩) n cap))(q:k[i]? = O s)(j:Nat)(u:Value):yS B (w.setCell ⟨g,j,X⟩ u) o m (k.set i {s with xs:=s.xs.set j u}):=by refine⟨?_,h.apart,h.off,by simp[h.len]⟩;intro l x t c a;by_cases e:i=l;subst e;rw[getElem?_set_self (Zb.1 q).1]at a;obtain rfl:=Zl a;rw[f]at c;obtain rfl:=Zl c;obtain⟨v,d⟩:=h.own i _ s f q;refine⟨by simpa using v,?_⟩;rcases d with⟨d,_⟩|⟨G,p,cur,b,y,z,E,D,F,a⟩;cases d;simp only[Zk,Zs,Addr.mk.injEq,and_true]at b;obtain⟨rfl,rfl,rfl⟩:=b;refine Zf ⟨g,cap,cur.setIfInBounds j u,rfl,y,?_,E,D,by simpa using F,?_⟩;exact Blk.set z j u;show take _ _=s.xs.set j u;rw[<-a];simp[take_set];rw[getElem?_set_ne e]at a;refine zA (h.own l x t c a) ?_ u;intro r;exact e (h.apart i l _ x g f c rfl r)
theorem zu{w:YW}{base:Nat}{e:TypeId}{size:Nat}{v:Value}{n:Nat}{xs:List Value}(h:w.ownsRow base e size v n xs):∃a cap,v=S a n cap:=by rcases h.2 with⟨c,b⟩|⟨g,cap,cur,d,_⟩;exact⟨X,0,by rw[c,b]⟩;exact⟨_,_,d⟩
theorem zD{w:YW}{base:Nat}{e:TypeId}{size:Nat}{n g cap:Nat}{xs:List Value}(h:w.ownsRow base e size (S (O ⟨g,0,X⟩) n cap) n xs)(j:Nat)(f:j<n*size):w.cell? ⟨g,j,X⟩=xs[j]?:=by rcases h.2 with⟨c,_⟩|⟨k,a,cur,b,l,d,o,m,p,i⟩;cases c;simp only[Zk,Zs,Addr.mk.injEq,and_true,true_and]at b;obtain⟨rfl,rfl⟩:=b;rw[<-i];simp[World.cell?,d,f]
theorem yB{w:YW}{base:Nat}{e:TypeId}{size:Nat}{n g cap:Nat}{xs:List Value}(h:w.ownsRow base e size (S (O ⟨g,0,X⟩) n cap) n xs)(j:Nat):w.frozen? ⟨g,j,X⟩=Z:=by rcases h.2 with⟨c,_⟩|⟨f,a,cur,b,i,d,l,k,m,o⟩;cases c;simp only[Zk,Zs,Addr.mk.injEq,and_true,true_and]at b;obtain⟨rfl,rfl⟩:=b;simp[World.frozen?,d]
theorem vG{w:YW}{base:Nat}{e:TypeId}{size:Nat}{n g cap:Nat}{xs:List Value}(h:w.ownsRow base e size (S (O ⟨g,0,X⟩) n cap) n xs):n<=cap/\cap<=maxLen:=by rcases h.2 with⟨c,_⟩|⟨i,a,cur,b,j,k,f,d,l,m⟩;cases c;simp only[Zk,Zs,Addr.mk.injEq,and_true,true_and]at b;obtain⟨rfl,rfl⟩:=b;exact⟨f,d⟩
theorem bV{w:YW}{base:Nat}{e:TypeId}{size:Nat}{n g cap:Nat}{xs:List Value}(h:w.ownsRow base e size (S (O ⟨g,0,X⟩) n cap) n xs)(m:Nat)(l:m<=n):w.ownsRow base e size (S (O ⟨g,0,X⟩) m cap) m (xs.take (m*size)):=by obtain⟨f,a⟩:=h;have k:m*size<=n*size:=Nat.mul_le_mul_right _ l;refine⟨by rw[length_take,f];omega,?_⟩;rcases a with⟨a,_⟩|⟨q,c,cur,d,i,j,r,b,o,p⟩;cases a;simp only[Zk,Zs,Addr.mk.injEq,and_true,true_and]at d;obtain⟨rfl,rfl⟩:=d;refine Zf ⟨g,cap,cur,rfl,i,j,zo,b,o,?_⟩;rw[<-p,take_take];congr 1;omega
theorem xU{w a:YW}{o:Obj}{row:Option Nat}(h:(w.alloc o).drew.grownBy a row):w.grownBy a row:=by refine⟨h.os,h.tape,h.output,Nat.le_trans ?_ h.size,fun k b c=>?_⟩;show w.heap.size<=(w.alloc o).heap.size;simp;rw[h.block k (by show k<(w.alloc o).heap.size;simp;omega) c];exact Below.heap_alloc _ _ _ b
theorem zN{P:Program}{i:Array Oper}{o:Oper}{a:Act}{w:YW}{K:Act→World→Prop}{Q:Exit→Act→World→Prop}{E:Prop}(k:o.guard=X)(f:FuncId)(args:Array Operand)(l:Array TypeId)(n:o.op=.call {callee:=.value (.func f),args:=args,argTypes:=l}){d:Func}(s:P.funcs[f]? = O d)(u:(d.name == "runtime.NumGoroutine")=Z)(m:d.body.isNone=Z)(b:YV)(c:args.map a.eval=b){R:Ending→World→Prop}(r:Calls P f b w R)(h:∀e w',R e w'→∃v,e=Rt v∧K (a.put o.dst v) w'):if Region.wanted o (yielded i a.tmps)=Y then Oper.wp P o a w K Q else E:=by
 have y:Region.wanted o (yielded i a.tmps)=Y:=by simp[Region.wanted,k]
 rw[if_pos y];subst c;have g:(callFunc f (args.map a.eval)).run P w=.ok (.enter f (args.map a.eval)) w:=by
  have p:d.name≠ "runtime.NumGoroutine":=by simpa using u
  have q:d.body≠X:=by intro e;rw[e]at m;cases m
  simp[callFunc,s,p,q]
 have he:execOp a.eval o=callFunc f (args.map a.eval):=by
  cases o with
  |mk dst op type pos j guard=>simp only at n;subst n;rw[execOp_call_go];simp
 unfold Oper.wp;rw[he,g];show Calls P f (args.map a.eval) w _;refine r.m ?_;intro e w' x;obtain⟨v,rfl,t⟩:=h e w' x;exact t
theorem qZ(w:YW)(a b:Nat):(w.drewN a).drewN b=w.drewN (a+b):=by simp[World.drewN,Nat.add_assoc]
def foot(b:Nat)(vs:List Value)(k:Nat):Prop:=k=b\/∃(i:Nat)(v:Value),vs[i]? = O v/\v.ownBlock=O k
structure qE(w:YW)(b:Nat)(vs:List Value)(w':YW)(vs':List Value):Prop where
 os:w'.os=w.os
 tape:w'.tape=w.tape
 output:w'.output=w.output
 size:w.heap.size<=w'.heap.size
 keep:∀k,k<w.heap.size->¬foot b vs k->w'.heap[k]? = w.heap[k]?
 grew:∀k,foot b vs' k->foot b vs k\/w.heap.size<=k
theorem qE.trans{w w' c:YW}{b:Nat}{g vs' a:List Value}(h:qE w b g w' vs')(k:qE w' b vs' c a):qE w b g c a:=by refine⟨k.os.trans h.os,k.tape.trans h.tape,k.output.trans h.output,Nat.le_trans h.size k.size,?_,?_⟩;intro i j d;rw[k.keep i (by have:=h.size;omega) (fun e=>by rcases h.grew i e with f|f;exact d f;omega),h.keep i j d];intro i d;rcases k.grew i d with e|e;exact h.grew i e;exact Zf (by have:=h.size;omega)
theorem qE.z{w w':YW}{b:Nat}{a vs':List Value}{B:Nat}(h:qE w b a w' vs')(c:∀k,foot b a k->B<=k)(f:B<=w.heap.size):Below B w w':=⟨h.os,h.tape,h.output,h.size,fun k d=>h.keep k zo (fun e=>by have:=c k e;omega)⟩
theorem tq(w:YW)(b:Nat)(a:List Value)(n:Nat):qE w b a (w.drewN n) a:=⟨rfl,rfl,rfl,Zc _,fun _ _ _=>rfl,fun _ h=>Zg h⟩
theorem Cq(w:YW)(b:Nat)(a:List Value)(c:Nat)(u:Value):qE w b a (w.setCell ⟨b,c,X⟩ u) a:=⟨rfl,rfl,rfl,by simp[World.setCell],fun k _ d=>Below.heap_setCell _ _ _ _ (fun e=>d (Zg e)),fun _ h=>Zg h⟩
theorem tr(w:YW)(b:Nat)(a:List Value)(i g n cap j:Nat)(d:a[i]? = O (S (O ⟨g,0,X⟩) n cap))(u:Value):qE w b a (w.setCell ⟨g,j,X⟩ u) a:=⟨rfl,rfl,rfl,by simp[World.setCell],fun k _ c=>Below.heap_setCell _ _ _ _ (fun e=>c (Zf ⟨i,_,d,by rw[e];rfl⟩)),fun _ h=>Zg h⟩
theorem An{w o:YW}{b:Nat}{n:List Value}(i:Nat)(v v':Value)(m:n[i]? = O v)(c:w.grownBy o v.ownBlock)(h:v'.ownBlock=v.ownBlock\/∃g,v'.ownBlock=O g/\w.heap.size<=g):qE w b n o (n.set i v'):=by refine⟨c.os,c.tape,c.output,c.size,fun k a p=>c.block k a (fun e=>p (Zf ⟨i,v,m,e.symm⟩)),?_⟩;rintro k (rfl|⟨j,x,d,a⟩);exact Zg (Zg rfl);by_cases e:i=j;subst e;rw[getElem?_set_self (Zb.1 m).1]at d;obtain rfl:=Zl d;rcases h with f|⟨g,f,l⟩;exact Zg (Zf ⟨i,v,m,by rw[<-f];exact a⟩);rw[f]at a;obtain rfl:=Zl a;exact Zf l;rw[getElem?_set_ne e]at d;exact Zg (Zf ⟨j,x,d,a⟩)
theorem qG{v:Value}{g H n cap:Nat}(a:v.ownBlock=O g\/g=H){k:Nat}(c:k<=H):(Value.slice (O ⟨g,0,X⟩) n cap).ownBlock=v.ownBlock\/∃b,(Value.slice (O ⟨g,0,X⟩) n cap).ownBlock=O b/\k<=b:=by rcases a with e|e;exact Zg e.symm;exact Zf ⟨g,rfl,zo⟩
theorem yS.foot{B:Nat}{w:YW}{b:Nat}{d:List Value}{l:List xL}(h:yS B w [b] d l)(f:B<=b)(a:b<w.heap.size){k:Nat}(j:foot b d k):B<=k/\k<w.heap.size:=by rcases j with rfl|⟨i,v,c,e⟩;exact⟨f,a⟩;have g:=(Zb.1 c).1;have:=zC (h.own i v _ c (Za (by rw[<-h.len];exact g))) e;exact⟨this.2,this.1⟩
theorem uu{P:Program}{w:YW}{g:Array Oper}{o:Oper}{a:Act}{K:Act->World->Prop}{Q:Exit->Act->World->Prop}{E:Prop}(l:o.guard=X)(s x:Operand)(t:TypeId)(q:o.op=.call {callee:=.builtin .append,args:=#[s,x],argTypes:=#[t,t]})(e:TypeId)(i:TypeInfo)(z:Value)(size bytes:Nat)(u:P.underlying t=O (.slice e))(p:P.info? e=O i)(H:i.zero=O z)(d:i.size=size)(k:i.bytes=bytes)(n:z.cells.size=size)(m:0<size)(r:a.eval s=S X 0 0)(j:YA)(c:Nat)(v:a.eval x=S j 0 c)(b:j=X->c=0)(h:∀w',w.grownBy w' X->K (a.put o.dst (S X 0 0)) w'):if Region.wanted o (yielded g a.tmps)=Y then Oper.wp P o a w K Q else E:=by
 have G:Region.wanted o (yielded g a.tmps)=Y:=by simp[Region.wanted,l]
 rw[if_pos G];cases j with
 |none=>obtain rfl:=b rfl;have f:=run_append_owned_none (P:=P) (w:=w) w.heap.size t o.type e i size u p (S X 0 0) 0 [] (Zm w _ e size);unfold Oper.wp execOp;simp only[q,resolve,invoke,builtin,Sem.run_bind,Sem.run_pure,Result.andThen_ok,map_toArray,map_cons,map_nil,r,v,f];exact h w (World.grownBy.refl _ _)
 |some y=>obtain⟨v',w',F,_,B,D⟩:=run_append_own (P:=P) w w.heap.size t o.type e i z size bytes u p H d k n m (S X 0 0) 0 [] (Zm w _ e size) y 0 c [] zs zs zs zm zo (Zc _);obtain rfl:=D.2 ⟨rfl,rfl⟩;unfold Oper.wp execOp;simp only[q,resolve,invoke,builtin,Sem.run_bind,Sem.run_pure,Result.andThen_ok,map_toArray,map_cons,map_nil,r,v,F];exact h w' B
theorem yS.sub{B:Nat}{w:YW}{g bs':List Nat}{m vs':List Value}{l ss':List xL}(h:yS B w g m l)(f:Nat->Nat)(q:∀i j,f i=f j->i=j)(d:vs'.length=ss'.length)(e:∀(i:Nat)(v:Value),vs'[i]? = O v->m[f i]? = O v)(r:∀(i:Nat)(s:xL),ss'[i]? = O s->l[f i]? = O s)(p:∀b∈bs',b∈g\/w.heap.size<=b):yS B w bs' vs' ss':=yS.more ⟨fun i v s a c=>h.own _ v s (e i v a) (r i s c),fun i j v v' k a c n o=>q i j (h.apart _ _ v v' k (e i v a) (e j v' c) n o),fun i v b a c=>h.off _ v b (e i v a) c,d⟩ p
theorem yS.nil{B:Nat}{w:YW}{q:List Nat}{c:List Value}{r:List xL}(h:yS B w q c r)(e:TypeId)(size:Nat):yS B w q (c++[S X 0 0]) (r++[⟨e,size,0,[]⟩]):=by
 have o:=h.len;have cases:∀(i:Nat)(v:Value),(c++[S X 0 0])[i]? = O v->(i<c.length/\c[i]? = O v)\/(i=c.length/\v=S X 0 0):=by
  intro i v a;rcases Nat.lt_or_ge i c.length with g|g;rw[Zu g]at a;exact Zg ⟨g,a⟩;rw[Zw g]at a;have:i-c.length=0:=by have:=(Zb.1 a).1;simp at this;omega
  rw[this]at a;simp at a;exact Zf ⟨zo,a.symm⟩
 refine⟨?_,?_,?_,by simp[o]⟩;intro i v s a n;rcases cases i v a with⟨g,d⟩|⟨rfl,rfl⟩;rw[Zu (by rw[<-o];exact g)]at n;exact h.own i v s d n;rw[o,Zw (Zc _)]at n;simp at n;subst n;exact Zm _ _ _ _;intro i j v v' k a d l m;rcases cases i v a with⟨_,f⟩|⟨_,rfl⟩;rcases cases j v' d with⟨_,p⟩|⟨_,rfl⟩;exact h.apart i j v v' k f p l m;simp[Value.ownBlock]at m;simp[Value.ownBlock]at l;intro i v b a t l;rcases cases i v a with⟨_,f⟩|⟨_,rfl⟩;exact h.off i v b f t l;simp[Value.ownBlock]at l
section
variable {P:Program} (w:YW)
theorem AA(t K:TypeId)(base:Nat)(e:TypeId)(i:TypeInfo)(z:Value)(size bytes:Nat)(R:P.underlying t=O (.slice e))(M:P.info? e=O i)(hz:i.zero=O z)(b:i.size=size)(D:i.bytes=bytes)(W:z.cells.size=size)(Q:0<size)(v:Value)(n:Nat)(xs:List Value)(h:w.ownsRow base e size v n xs)(x:Addr)(m c:Nat)(a:List Value)(G:a.length=m*size)(d:∀j u,a[j]? = O u->w.cell? (x.add j)=O u)(h1:∀u∈a,u.oneCell'=Y)(hm:0<m)(B:n+m<=maxLen)(f:(n+m)*bytes<=140737488355328)(p:base<=w.heap.size)(H:Nat)(hH:w.heap.size=H):∃g cap w',(Builtin.append_ #[t,t] K #[v,S (O x) m c]).run P w=.ok (S (O ⟨g,0,X⟩) (n + m) cap) w'/\w'.ownsRow base e size (S (O ⟨g,0,X⟩) (n+m) cap) (n+m) (xs++a)/\w.grownBy w' v.ownBlock/\(v=S (O ⟨g,0,X⟩) n cap\/g=H/\∀k,k<w.heap.size->w'.heap[k]? = w.heap[k]?)/\g<w'.heap.size:=by
 obtain⟨g,cap,w',r,h2,h3,y,h5⟩:=run_append_lies (P:=P) w t K base e i z size bytes R M hz b D W Q v n xs h x m c a G d h1 hm B f p H hH;refine⟨g,cap,w',r,h2,h3,?_,h5⟩;rcases h.2 with⟨rfl,rfl⟩|⟨F,l,cur,rfl,a0,hg,c0,b0,L,T⟩;right;refine⟨?_,fun k N=>h3.block k N zq⟩;rcases y with y|y;simp[Value.ownBlock]at y;exact y;by_cases o:n+m<=l;left;have E:n*i.size+a.length<=cur.size:=by rw[G,L,b,<-Nat.add_mul];exact Nat.mul_le_mul_right _ o
 have s:=run_append_room (P:=P) w t K e i R M F n l cur hg x m c a (by rw[b];exact G) d h1 o E;rw[s]at r;simp only[Result.ok.injEq,Zk,Zs,Addr.mk.injEq,and_true,true_and]at r;obtain⟨⟨rfl,rfl⟩,_⟩:=r;rfl;right;have q:∀j u,xs[j]? = O u->w.cell? ((⟨F,0,X⟩:Addr).add j)=O u:=h.cells (g:=F) rfl;have s:=run_append_grow (P:=P) w t K e i z R M hz ⟨F,0,X⟩ n l xs (by rw[b];exact h.1) q x m c a (by rw[b];exact G) d zo (by simp only[maxLen]at B;omega) (growslice_fits zo (by rw[D];exact f));rw[s]at r;simp only[Result.ok.injEq,Zk,Zs,Addr.mk.injEq,and_true,true_and]at r;obtain⟨⟨rfl,_⟩,rfl⟩:=r;exact⟨hH,fun k N=>Below.heap_alloc w.drew _ k N⟩
theorem BS{o:Oper}{a:Act}{K:Act->World->Prop}{Q:Exit->Act->World->Prop}(s x:Operand)(t:TypeId)(ho:o.op=.call {callee:=.builtin .append,args:=#[s,x],argTypes:=#[t,t]})(base:Nat)(e:TypeId)(i:TypeInfo)(z:Value)(size bytes:Nat)(ht:P.underlying t=O (.slice e))(T:P.info? e=O i)(hz:i.zero=O z)(p:i.size=size)(B:i.bytes=bytes)(E:z.cells.size=size)(D:0<size)(v:Value)(n:Nat)(xs:List Value)(hs:a.eval s=v)(q:w.ownsRow base e size v n xs)(r:Addr)(m c:Nat)(b:List Value)(hx:a.eval x=S (O r) m c)(W:b.length=m*size)(l:∀j u,b[j]? = O u->w.cell? (r.add j)=O u)(F:∀u∈b,u.oneCell'=Y)(hm:0<m)(y:n+m<=maxLen)(d:(n+m)*bytes<=140737488355328)(f:base<=w.heap.size)(H:Nat)(R:w.heap.size=H)(h:∀g cap w',w'.ownsRow base e size (S (O ⟨g,0,X⟩) (n+m) cap) (n+m) (xs++b)->w.grownBy w' v.ownBlock->(v=S (O ⟨g,0,X⟩) n cap\/g=H/\∀k,k<w.heap.size->w'.heap[k]? = w.heap[k]?)->g<w'.heap.size->K (a.put o.dst (S (O ⟨g,0,X⟩) (n+m) cap)) w'):o.wp P a w K Q:=by obtain⟨g,cap,w',hr,G,L,M,N⟩:=AA (P:=P) w t o.type base e i z size bytes ht T hz p B E D v n xs q r m c b W l F hm y d f H R;unfold Oper.wp execOp;simp only[ho,resolve,invoke,builtin,Sem.run_bind,Sem.run_pure,Result.andThen_ok,map_toArray,map_cons,map_nil,hs,hx,hr];exact h g cap w' G L M N
theorem gX{r:Array Oper}{rest:List Oper}{o:Oper}{a:Act}{Q:Exit->Act->World->Prop}(E:o.guard=X)(s x:Operand)(t:TypeId)(ho:o.op=.call {callee:=.builtin .append,args:=#[s,x],argTypes:=#[t,t]})(base:Nat)(e:TypeId)(i:TypeInfo)(z:Value)(size bytes:Nat)(ht:P.underlying t=O (.slice e))(hi:P.info? e=O i)(hz:i.zero=O z)(p:i.size=size)(D:i.bytes=bytes)(G:z.cells.size=size)(F:0<size)(v:Value)(n:Nat)(xs:List Value)(hs:a.eval s=v)(q:w.ownsRow base e size v n xs)(y:Addr)(m c:Nat)(b:List Value)(hx:a.eval x=S (O y) m c)(hl:b.length=m*size)(l:∀j u,b[j]? = O u->w.cell? (y.add j)=O u)(K:∀u∈b,u.oneCell'=Y)(hm:0<m)(B:n+m<=maxLen)(d:(n+m)*bytes<=140737488355328)(f:base<=w.heap.size)(H:Nat)(T:w.heap.size=H)(h:∀g cap w',w'.ownsRow base e size (S (O ⟨g,0,X⟩) (n+m) cap) (n+m) (xs++b)->w.grownBy w' v.ownBlock->(v=S (O ⟨g,0,X⟩) n cap\/g=H/\∀k,k<w.heap.size->w'.heap[k]? = w.heap[k]?)->g<w'.heap.size->wpList P r Q rest (a.put o.dst (S (O ⟨g,0,X⟩) (n+m) cap)) w'):wpList P r Q (o::rest) a w:=wpList_plain E fun _ W=>BS w s x t ho base e i z size bytes ht hi hz p D G F v n xs hs q y m c b hx hl l K hm B d f H T fun g cap w' L M N R=>W _ _ (h g cap w' L M N R)
end
structure RS where
 s:ByteArray
 next:Nat
 place0:Nat
 E:ByteArray
 c0:YL
 c1:YL
 N:List (ByteArray×Int×Int)
 Q:List (ByteArray×Int×Int)
 P:Int
 name:ByteArray
 cells:Int
 heads:List Int
 err:Int
 place:Int
def zc(l:YL):List Value:=l.flatMap fun x=>[I J x.1,I J x.2]
def yz(l:List (ByteArray×Int×Int)):List Value:=l.flatMap fun x=>[Sr x.1,I J x.2.1,I J x.2.2]
def zX(st:RS)(v4 v5 v6 v7 v11:Value):Array Value:=#[Sr st.s,I J st.next,I J st.place0,Sr st.E,v4,v5,v6,v7,I J st.P,Sr st.name,I J st.cells,v11,I J st.err,I J st.place]
def jU(st:RS):List xL:=[⟨65,2,st.c0.length,zc st.c0⟩,⟨65,2,st.c1.length,zc st.c1⟩,⟨223,3,st.N.length,yz st.N⟩,⟨225,3,st.Q.length,yz st.Q⟩,⟨3,1,st.heads.length,st.heads.map (Value.int .i64)⟩]
structure Rd(B:Nat)(w:YW)(b:Nat)(st:RS)(v4 v5 v6 v7 v11:Value):Prop where
 D:Blk w b (zX st v4 v5 v6 v7 v11) 178
 K:B<=b
 aD:yS B w [b] [v4,v5,v6,v7,v11] (jU st)
 R:st.c0.length<=4000/\st.c1.length<=4000/\st.N.length<=4000/\st.Q.length<=4000/\st.heads.length<=4000/\st.s.size<=2000
section
variable {B:Nat} {w:YW} {b:Nat} {st:RS} {v4 v5 v6 v7 v11:Value}
theorem Rd.o4(h:Rd B w b st v4 v5 v6 v7 v11):w.ownsRow B 65 2 v4 st.c0.length (zc st.c0):=h.aD.own 0 v4 _ rfl rfl
theorem Rd.o5(h:Rd B w b st v4 v5 v6 v7 v11):w.ownsRow B 65 2 v5 st.c1.length (zc st.c1):=h.aD.own 1 v5 _ rfl rfl
theorem Rd.o6(h:Rd B w b st v4 v5 v6 v7 v11):w.ownsRow B 223 3 v6 st.N.length (yz st.N):=h.aD.own 2 v6 _ rfl rfl
theorem Rd.o7(h:Rd B w b st v4 v5 v6 v7 v11):w.ownsRow B 225 3 v7 st.Q.length (yz st.Q):=h.aD.own 3 v7 _ rfl rfl
theorem Rd.o11(h:Rd B w b st v4 v5 v6 v7 v11):w.ownsRow B 3 1 v11 st.heads.length (st.heads.map (Value.int .i64)):=h.aD.own 4 v11 _ rfl rfl
theorem Rd.ne(h:Rd B w b st v4 v5 v6 v7 v11)(i:Nat)(v:Value)(a:[v4,v5,v6,v7,v11][i]? = O v):O b≠v.ownBlock:=fun e=>h.aD.off i v b a zs e.symm
theorem Rd.drewN(h:Rd B w b st v4 v5 v6 v7 v11)(n:Nat):Rd B (w.drewN n) b st v4 v5 v6 v7 v11:=⟨h.D,h.K,h.aD.drewN n,h.R⟩
theorem Rd.drew(h:Rd B w b st v4 v5 v6 v7 v11):Rd B w.drew b st v4 v5 v6 v7 v11:=⟨h.D,h.K,h.aD.drew,h.R⟩
theorem Rd.alloc(h:Rd B w b st v4 v5 v6 v7 v11)(o:Obj):Rd B (w.alloc o) b st v4 v5 v6 v7 v11:=⟨h.D.alloc o,h.K,h.aD.alloc o,h.R⟩
theorem Rd.set(h:Rd B w b st v4 v5 v6 v7 v11)(i:Nat)(v:Value)(a:RS)(k:(zX st v4 v5 v6 v7 v11).setIfInBounds i v=zX a v4 v5 v6 v7 v11)(l:jU a=jU st)(m:a.c0=st.c0/\a.c1=st.c1/\a.N=st.N/\a.Q=st.Q/\a.heads=st.heads/\a.s=st.s):Rd B (w.setCell ⟨b,i,X⟩ v) b a v4 v5 v6 v7 v11:=by obtain⟨c,d,e,f,g,j⟩:=m;refine⟨?_,h.K,?_,by rw[c,d,e,f,g,j];exact h.R⟩;rw[<-k];exact h.D.set i v;rw[l];exact h.aD.set zs i v
end
theorem Qj(B b:Nat)(st:RS)(f g i j c:Value)(d:Int)(w:YW)(h:Rd B w b st f g i j c):Calls prog 130 #[A (O ⟨b,0,X⟩),I J d] w fun e w'=>e=Rt (Tu #[])/\w'=if st.err=0 then(w.setCell ⟨b,12,X⟩ (I J d)).setCell ⟨b,13,X⟩ (I J st.place0)else w:=by
 have a:=h.D;unfold zX at a;have k:=a.u;have l:=a.H;clear a;by_cases he:st.err=0
 ·go_enter func130,ntmps130;go_wp2;go_end0;exact⟨rfl,rfl⟩
 ·go_enter func130,ntmps130;go_wp2;go_end0;exact⟨rfl,rfl⟩
def dJ(st:RS):Int:=if 0<=st.P then 0 else 1
theorem kc(B b:Nat)(st:RS)(d f g i c:Value)(w:YW)(h:Rd B w b st d f g i c):Calls prog 181 #[A (O ⟨b,0,X⟩)] w fun e w'=>e=Rt (I J (dJ st))/\w'=w:=by
 have a:=h.D;unfold zX at a;have j:=a.u;have k:=a.H;clear a;unfold dJ;by_cases he:0<=st.P
 ·rw[if_pos he];go_enter func181,ntmps181;go_wp2;go_ret;exact⟨rfl,rfl⟩
 ·rw[if_neg he];go_enter func181,ntmps181;go_wp2;go_ret;exact⟨rfl,rfl⟩
def zM(st:RS):Nat:=if 0<=st.P then st.c0.length else st.c1.length
theorem tY(B b:Nat)(st:RS)(f g i j d:Value)(w:YW)(h:Rd B w b st f g i j d):Calls prog 176 #[A (O ⟨b,0,X⟩)] w fun e w'=>e=Rt (I J (zM st))/\∃n,w'=w.drewN n:=by
 obtain⟨k,p,rfl⟩:=zu h.o4;obtain⟨l,q,rfl⟩:=zu h.o5;have a:=h.D;unfold zX at a;have m:=a.u;have o:=a.H;clear a;unfold zM;by_cases he:0<=st.P
 ·rw[if_pos he];have c:∀n,Calls prog 181 #[A (O ⟨b,0,X⟩)] (w.drewN n) fun e w'=>e=Rt (I J 0)/\w'=(w.drewN n):=by intro n;have:=kc B b st _ _ _ _ _ _ (h.drewN n);rw[dJ,if_pos he]at this;exact this
  go_enter func176,ntmps176;go_wp2;go_quiet ((go_at_call 181;exact Calls.quiet_of_same (c _)));go_wp2;go_ret;exact⟨rfl,_,rfl⟩
 ·rw[if_neg he];have c:∀n,Calls prog 181 #[A (O ⟨b,0,X⟩)] (w.drewN n) fun e w'=>e=Rt (I J 1)/\w'=(w.drewN n):=by intro n;have:=kc B b st _ _ _ _ _ _ (h.drewN n);rw[dJ,if_neg he]at this;exact this
  go_enter func176,ntmps176;go_wp2;go_quiet ((go_at_call 181;exact Calls.quiet_of_same (c _)));go_wp2;go_ret;exact⟨rfl,_,rfl⟩
theorem dW(l:List (ByteArray×Int×Int)):(yz l).length=l.length*3:=by
 induction l with
 |nil=>rfl
 |cons x l a=>simp only[yz,flatMap_cons]at *;simp[a];omega
theorem jr (l:List (ByteArray×Int×Int)) (i:Nat) (x:ByteArray×Int×Int) (h:l[i]? = O x) : (yz l)[i * 3]? = O (Sr x.1)∧(yz l)[i * 3+1]? = O (I J x.2.1)∧(yz l)[i * 3+2]? = O (I J x.2.2):=by
 induction l generalizing i with
 |nil=>simp at h
 |cons y l ih=>
  cases i with
  |zero=>simp at h;subst h;simp[yz]
  |succ i=>simp only[getElem?_cons_succ]at h;have:=ih i h;simp only[yz,flatMap_cons]at *;have e1:(i+1) * 3=i * 3+3:=zo;rw[e1];exact this
theorem yL(l:YL):(zc l).length=l.length*2:=by
 induction l with
 |nil=>rfl
 |cons x l a=>simp only[zc,flatMap_cons]at *;simp[a];omega
theorem zL (l:YL) (i:Nat) (x:Int×Int) (h:l[i]? = O x) : (zc l)[i * 2]? = O (I J x.1)∧(zc l)[i * 2+1]? = O (I J x.2):=by
 induction l generalizing i with
 |nil=>simp at h
 |cons y l ih=>
  cases i with
  |zero=>simp at h;subst h;simp[zc]
  |succ i=>simp only[getElem?_cons_succ]at h;have:=ih i h;simp only[zc,flatMap_cons]at *;have e1:(i+1) * 2=i * 2+2:=zo;rw[e1];exact this
def kW(st:RS):ByteArray:=match st.Q.getLast? with|none=>⟨#[]⟩|some o=>o.1
theorem Nu(B b:Nat)(st:RS)(d f g i c:Value)(w:YW)(h:Rd B w b st d f g i c)(he:st.Q=[]):Calls prog 175 #[A (O ⟨b,0,X⟩)] w fun e w'=>e=Rt (Sr ⟨#[]⟩)/\∃n,w'=w.drewN n:=by obtain⟨j,m,rfl⟩:=zu h.o7;have a:=h.D;unfold zX at a;rw[he]at a;have k:=a.u;have l:=a.H;clear a;go_enter func175,ntmps175;go_wp2;go_ret;exact⟨rfl,0,rfl⟩
theorem aY(B b:Nat)(st:RS)(k m o p d:Value)(w:YW)(h:Rd B w b st k m o p d)(l:List (ByteArray×Int×Int))(x:ByteArray×Int×Int)(he:st.Q=l++[x]):Calls prog 175 #[A (O ⟨b,0,X⟩)] w fun e w'=>e=Rt (Sr x.1)/\∃n,w'=w.drewN n:=by
 have i:st.Q.length=l.length+1:=by rw[he];simp
 obtain⟨g,u,rfl,s,f⟩:=h.o7.form zo;have a:=h.D;unfold zX at a;have c:=h.o7;rw[i]at a c;have j:=zD c (l.length*3) zo;rw[he,(jr (l++[x]) l.length x zs).1]at j;have t:(l.length:Int)<=4000:=by have:=h.R;omega
 have q:=a.u;have r:=a.H;clear a c;go_enter func175,ntmps175;go_wp2;go_quiet (fail);go_wp2;go_ret;exact⟨rfl,_,rfl⟩
theorem yJ:(prog.info? 65).map (fun i=>(i.zero,i.size,i.bytes))=O (O (Ag #[I J 0,I J 0]),2,16):=zr
theorem jL(a b:Int):∀u∈[Value.int .i64 a,Value.int .i64 b],u.oneCell'=Y:=by intro u c;simp at c;rcases c with rfl|rfl<;>rfl
theorem xh{B:Nat}{w b:YW}{o:Obj}{row:Option Nat}(a:B<=w.heap.size)(d:∀k,row=O k->B<=k)(c:(w.alloc o).drew.grownBy b row):Below B w b:=(((Ze B w).alloc a o).drew).grown c (by have:=Below.size ((Ze B w).alloc a o);exact Nat.le_trans a this) d
theorem Rd.grow4{B:Nat}{w l:YW}{b:Nat}{st:RS}{i n p q f:Value}(h:Rd B w b st i n p q f){o:Obj}{op arg:Int}{g cap H:Nat}(m:st.c0.length<4000)(c:l.ownsRow B 65 2 (S (O ⟨g,0,X⟩) (st.c0.length+1) cap) (st.c0.length+1) (zc st.c0++[I J op,I J arg]))(a:(w.alloc o).drew.grownBy l i.ownBlock)(j:i.ownBlock=O g\/g=H)(r:H=w.heap.size+1):Rd B (l.setCell ⟨b,4,X⟩ (S (O ⟨g,0,X⟩) (st.c0.length+1) cap)) b {st with c0:=st.c0++[(op,arg)]} (S (O ⟨g,0,X⟩) (st.c0.length+1) cap) n p q f:=by have d:=xU a;have k:=h.D.lt;refine⟨?_,h.K,?_,by have:=h.R;simp;omega⟩;have:=(h.D.grown d (h.ne 0 i rfl)).set 4 (S (O ⟨g,0,X⟩) (st.c0.length+1) cap);simpa [zX]using this;have:=(h.aD.grow 0 i (S (O ⟨g,0,X⟩) (st.c0.length+1) cap) ⟨65,2,st.c0.length+1,zc st.c0++[I J op,I J arg]⟩ rfl (by simp;exact k) d c ?_).set (b:=b) zs 4 (S (O ⟨g,0,X⟩) (st.c0.length+1) cap);simpa [jU,zc]using this;rcases j with e|e;exact Zg e.symm;exact Zf ⟨g,rfl,zo⟩
theorem Rd.grow5{B:Nat}{w l:YW}{b:Nat}{st:RS}{n i p q f:Value}(h:Rd B w b st n i p q f){o:Obj}{op arg:Int}{g cap H:Nat}(m:st.c1.length<4000)(c:l.ownsRow B 65 2 (S (O ⟨g,0,X⟩) (st.c1.length+1) cap) (st.c1.length+1) (zc st.c1++[I J op,I J arg]))(a:(w.alloc o).drew.grownBy l i.ownBlock)(j:i.ownBlock=O g\/g=H)(r:H=w.heap.size+1):Rd B (l.setCell ⟨b,5,X⟩ (S (O ⟨g,0,X⟩) (st.c1.length+1) cap)) b {st with c1:=st.c1++[(op,arg)]} n (S (O ⟨g,0,X⟩) (st.c1.length+1) cap) p q f:=by have d:=xU a;have k:=h.D.lt;refine⟨?_,h.K,?_,by have:=h.R;simp;omega⟩;have:=(h.D.grown d (h.ne 1 i rfl)).set 5 (S (O ⟨g,0,X⟩) (st.c1.length+1) cap);simpa [zX]using this;have:=(h.aD.grow 1 i (S (O ⟨g,0,X⟩) (st.c1.length+1) cap) ⟨65,2,st.c1.length+1,zc st.c1++[I J op,I J arg]⟩ rfl (by simp;exact k) d c ?_).set (b:=b) zs 5 (S (O ⟨g,0,X⟩) (st.c1.length+1) cap);simpa [jU,zc]using this;rcases j with e|e;exact Zg e.symm;exact Zf ⟨g,rfl,zo⟩
theorem SU(B b:Nat)(st:RS)(i o p q c:Value)(op arg:Int)(w:YW)(h:Rd B w b st i o p q c)(u:0<=st.P)(m:st.c0.length<4000):Calls prog 172 #[A (O ⟨b,0,X⟩),I J op,I J arg] w fun e w'=>e=Rt (I J st.c0.length)/\∃n,Rd B w' b {st with c0:=st.c0++[(op,arg)]} n o p q c/\qE w b [i,o,p,q,c] w' [n,o,p,q,c]:=by
 obtain⟨T,Q,v,x,y⟩:=info_parts yJ;have t:=kc B b st i o p q c w h;rw[dJ,if_pos u]at t;have L:=V t;clear t;have j:=h.D;have R:=j.lt;unfold zX at j;have hc:=j.u;have hf:=j.H;have H:=V j;clear j;have s:=h.ne 0 i rfl;have E:((w.alloc (C #[I J op,I J arg] 65)).drew).ownsRow B 65 2 i st.c0.length (zc st.c0):=zE h.o4 _;have M:=V E;have k:B<=((w.alloc (C #[I J op,I J arg] 65)).drew).heap.size:=by have h1:=h.K;have h2:=Below.size ((Ze B w).alloc zo (C #[I J op,I J arg] 65));have h3:w.drew.heap.size=w.heap.size:=rfl;show B<=(w.alloc _).heap.size;omega
 have r:=V k;clear k;clear E;go_enter func172,ntmps172;go_wp2_with (go_at_call 181;refine L.m ?_;rintro e W ⟨rfl,G⟩;obtain rfl:=G.symm;clear G);go_region_law (refine step_append_lies _ rfl (.tmp 17) (.tmp 21) 33 rfl B 65 T _ 2 16 underlying33 Q v x y rfl zd i st.c0.length (zc st.c0) zf M ⟨w.heap.size,0,X⟩ 1 1 [I J op,I J arg] zf rfl (World.news_of_block (Blk.new w _ _)) (jL op arg) zo zm zo r _ rfl ?_;intro g cap W d a l F;have f:=(H.alloc _).drew.grown a s;have N:=f.u;have P:=f.H;have K:=V d;have D:=V a;have z:=V l;clear d a l f);all_goals go_wp2;go_ret;refine⟨xO zo,_,h.grow4 m K D z zs,?_⟩;exact(An 0 i _ rfl (xU D) (qG z zs)).trans (Cq _ _ _ _ _)
theorem QY(B b:Nat)(st:RS)(n i p q c:Value)(op arg:Int)(w:YW)(h:Rd B w b st n i p q c)(u:¬0<=st.P)(m:st.c1.length<4000):Calls prog 172 #[A (O ⟨b,0,X⟩),I J op,I J arg] w fun e w'=>e=Rt (I J st.c1.length)/\∃o,Rd B w' b {st with c1:=st.c1++[(op,arg)]} n o p q c/\qE w b [n,i,p,q,c] w' [n,o,p,q,c]:=by
 obtain⟨T,Q,v,x,y⟩:=info_parts yJ;have t:=kc B b st n i p q c w h;rw[dJ,if_neg u]at t;have L:=V t;clear t;have j:=h.D;have R:=j.lt;unfold zX at j;have hc:=j.u;have hf:=j.H;have H:=V j;clear j;have s:=h.ne 1 i rfl;have E:((w.alloc (C #[I J op,I J arg] 65)).drew).ownsRow B 65 2 i st.c1.length (zc st.c1):=zE h.o5 _;have M:=V E;have k:B<=((w.alloc (C #[I J op,I J arg] 65)).drew).heap.size:=by have h1:=h.K;have h2:=Below.size ((Ze B w).alloc zo (C #[I J op,I J arg] 65));have h3:w.drew.heap.size=w.heap.size:=rfl;show B<=(w.alloc _).heap.size;omega
 have r:=V k;clear k;clear E;go_enter func172,ntmps172;go_wp2_with (go_at_call 181;refine L.m ?_;rintro e W ⟨rfl,G⟩;obtain rfl:=G.symm;clear G);go_region_law (refine step_append_lies _ rfl (.tmp 17) (.tmp 21) 33 rfl B 65 T _ 2 16 underlying33 Q v x y rfl zd i st.c1.length (zc st.c1) zf M ⟨w.heap.size,0,X⟩ 1 1 [I J op,I J arg] zf rfl (World.news_of_block (Blk.new w _ _)) (jL op arg) zo zm zo r _ rfl ?_;intro g cap W d a l F;have f:=(H.alloc _).drew.grown a s;have N:=f.u;have P:=f.H;have K:=V d;have D:=V a;have z:=V l;clear d a l f);all_goals go_wp2;go_ret;refine⟨xO zo,_,h.grow5 m K D z zs,?_⟩;exact(An 1 i _ rfl (xU D) (qG z zs)).trans (Cq _ _ _ _ _)
def RdE(B:Nat)(w:YW)(b:Nat)(st:RS):Prop:=∃v4 v5 v6 v7 v11,Rd B w b st v4 v5 v6 v7 v11
def zQ(st:RS)(op arg:Int):RS:=if 0<=st.P then {st with c0:=st.c0++[(op,arg)]}else {st with c1:=st.c1++[(op,arg)]}
theorem Rd.z{B:Nat}{w w':YW}{b:Nat}{st:RS}{c d e f a:Value}{vs':List Value}(h:Rd B w b st c d e f a)(m:qE w b [c,d,e,f,a] w' vs'):Below B w w':=m.z (fun _ g=>(h.aD.foot h.K h.D.lt g).1) (by have:=h.K;have:=h.D.lt;omega)
theorem nB(B b:Nat)(st:RS)(g i j k c:Value)(op arg:Int)(w:YW)(h:Rd B w b st g i j k c)(d:st.c0.length<4000/\st.c1.length<4000):Calls prog 172 #[A (O ⟨b,0,X⟩),I J op,I J arg] w fun e w'=>e=Rt (I J (zM st))/\∃u4 u5 u6 u7 f,Rd B w' b (zQ st op arg) u4 u5 u6 u7 f/\qE w b [g,i,j,k,c] w' [u4,u5,u6,u7,f]:=by unfold zM zQ;by_cases a:0<=st.P;rw[if_pos a,if_pos a];refine(SU B b st g i j k c op arg w h a d.1).m ?_;rintro e w' ⟨rfl,v,m,l⟩;exact⟨rfl,_,_,_,_,_,m,l⟩;rw[if_neg a,if_neg a];refine(QY B b st g i j k c op arg w h a d.2).m ?_;rintro e w' ⟨rfl,v,m,l⟩;exact⟨rfl,_,_,_,_,_,m,l⟩
theorem nA(B b:Nat)(st:RS)(op arg:Int)(w:YW)(h:RdE B w b st)(a:st.c0.length<4000/\st.c1.length<4000):Calls prog 172 #[A (O ⟨b,0,X⟩),I J op,I J arg] w fun e w'=>e=Rt (I J (zM st))/\RdE B w' b (zQ st op arg)/\Below B w w':=by obtain⟨i,j,k,l,c,h⟩:=h;refine(nB B b st i j k l c op arg w h a).m ?_;rintro e w' ⟨rfl,u4,u5,u6,u7,g,f,d⟩;exact⟨rfl,⟨_,_,_,_,_,f⟩,h.z d⟩
end Go.Proofs.YtmeiikjpaepogaaGreatDoor
namespace Go.Proofs.YtmeiikjpaepogaaGreatDoor
open Go.RowKit Go.Proofs.Tryz
def gx(c n:Int):Int:=if c<0 then(-(c+1))%n else c%n
theorem FA(c n:Int)(w:YW)(a:-9223372036854775808<=c)(b:c<=9223372036854775807)(d:1<=n)(f:n<=9223372036854775807):Calls prog 43 #[I J c,I J n] w fun e w'=>e=Rt (I J (gx c n))/\w'=w:=by
 by_cases h:c<0
 ·go_enter func43,ntmps43;go_wp2;go_ret;refine⟨xO ?_,rfl⟩;unfold gx;rw[if_pos h,<-Int.neg_tmod,Int.tmod_eq_emod_of_nonneg zo]
 ·go_enter func43,ntmps43;go_wp2;go_ret;refine⟨xO ?_,rfl⟩;unfold gx;rw[if_neg zo]
def zT(op:Int):Bool:=op==1 || op==2 || op==3 || op==7
theorem mi(op:Int)(w:YW):Calls prog 132 #[I J op] w fun e w'=>e=Rt (Bl (zT op))/\w'=w:=by go_enter func132,ntmps132;go_wp2;all_goals (go_ret;refine⟨jI ?_,rfl⟩;simp_all [zT])
theorem OP(b:Bool)(w:YW):Calls prog 232 #[Bl b] w fun e w'=>e=Rt (I J (if b then -1 else 0))/\w'=w:=by go_enter func232,ntmps232;cases b;all_goals (go_wp2;go_ret;exact⟨rfl,rfl⟩)
theorem JG{k:IntKind}{a b c d:Int}(h:a=c)(e:b=d):Ending.returned (Tu #[.int k a,.int k b])=Rt (Tu #[.int k c,.int k d]):=by rw[h,e]
def zY(op:Int):Int×Int:=if op=0\/op=8\/op=28\/op=27 then(0,1)
 else if op=2\/op=22\/op=26\/op=31\/op=32 then(1,-1)
 else if op=17\/op=18\/op=30 then(1,0)
 else if op=21 then(1,1)
 else if op=6\/op=29 then(2,-2)
 else if op=9\/op=10\/op=11\/op=12\/op=13\/op=14\/op=15\/op=16\/op=19\/op=20 then(2,-1)
 else if op=23 then(2,0)
 else if op=24 then(2,1)
 else if op=25 then(3,0)
 else(0,0)
theorem cP(op:Int)(w:YW):Calls prog 209 #[I J op] w fun e w'=>e=Rt (Tu #[I J (zY op).1,I J (zY op).2])/\w'=w:=by go_enter func209,ntmps209;go_wp2;all_goals (go_ret2;refine⟨JG ?_ ?_,rfl⟩<;>simp_all [zY])
end Go.Proofs.YtmeiikjpaepogaaGreatDoor
namespace Go.Proofs.YtmeiikjpaepogaaGreatDoor
open Go Go.RowKit Go.Proofs.Tryz List
def dw(a b:Int):Int:=if b=-1 then wrap64 (-a)else if a.tmod b<0/\0<b\/0<a.tmod b/\b<0 then a.tdiv b-1 else a.tdiv b
def fe(a b:Int):Int:=if b=-1 then 0 else if a.tmod b<0/\0<b\/0<a.tmod b/\b<0 then a.tmod b+b else a.tmod b
def dG(b:Bool):Int:=if b then -1 else 0
theorem pM(a b:Int)(n:b≠0)(o:b≠-1)(i:-9223372036854775808<=a/\a<=9223372036854775807)(q:-9223372036854775808<=b/\b<=9223372036854775807):wrap64 (a.tdiv b)=a.tdiv b/\wrap64 (a.tdiv b*b)=a.tdiv b*b/\wrap64 (a-a.tdiv b*b)=a.tmod b/\-9223372036854775808<=a.tdiv b/\a.tdiv b<=9223372036854775807/\(a.tmod b<0/\0<b\/0<a.tmod b/\b<0->-9223372036854775807<=a.tdiv b/\-9223372036854775808<=a.tmod b+b/\a.tmod b+b<=9223372036854775807):=by
 have s:=Int.tmod_add_mul_tdiv a b;have l:a.tdiv b*b=a-a.tmod b:=by rw[Int.mul_comm];omega
 have j:(a.tmod b).natAbs<b.natAbs:=by rw[Int.natAbs_tmod];exact Nat.mod_lt _ zo
 have d:(a.tmod b).natAbs<=a.natAbs:=by rw[Int.natAbs_tmod];exact Nat.mod_le _ _
 have m:(a.tdiv b).natAbs=a.natAbs / b.natAbs:=Int.natAbs_tdiv a b
 have t:(0<=a->0<=a.tmod b)/\(a<=0->a.tmod b<=0):=⟨fun h=>Int.tmod_nonneg b h,fun h=>by
   have:=Int.tmod_nonneg b (show 0<=-a from zo)
   rw[Int.neg_tmod]at this
   omega⟩
 have g:a-a.tdiv b*b=a.tmod b:=zo;have c:-9223372036854775808<=a.tdiv b/\a.tdiv b<=9223372036854775807/\(b=1\/ -9223372036854775807<=a.tdiv b):=by by_cases f:b=1;subst f;rw[Int.tdiv_one];exact⟨i.1,i.2,Zg rfl⟩;have e:2<=b.natAbs:=zo;have p:a.natAbs<=9223372036854775808:=zo;have k:=Nat.div_le_div_left e (by omega:0<2) (a:=a.natAbs);rw[<-m]at k;exact⟨zo,zo,Zf zo⟩
 refine⟨?_,?_,?_,c.1,c.2.1,?_⟩;unfold wrap64;omega;rw[l];unfold wrap64;omega;rw[g];unfold wrap64;omega;intro r;refine⟨?_,zo,zo⟩;rcases c.2.2 with e|e;subst e;omega;exact e
def yQ(op a b:Int):Int:=if op=9 then wrap64 (a+b)else if op=10 then wrap64 (a-b)else if op=11 then wrap64 (a*b)
 else if op=14 then bits .and .i64 a b else if op=15 then bits .or .i64 a b else if op=16 then bits .xor .i64 a b
 else if op=19 then dG (a==b)else if op=20 then dG (decide (a<b))else if op=13 then fe a b else dw a b
theorem OQ(op a b:Int)(w:YW)(c:op=9\/op=10\/op=11\/op=14\/op=15\/op=16):Calls prog 214 #[I J op,I J a,I J b] w fun e w'=>e=Rt (I J (yQ op a b))/\w'=w:=by rcases c with rfl|rfl|rfl|rfl|rfl|rfl;all_goals go_enter func214,ntmps214;go_wp2;go_ret;exact⟨rfl,rfl⟩
theorem OR(op a b:Int)(w:YW)(c:op=19\/op=20):Calls prog 214 #[I J op,I J a,I J b] w fun e w'=>e=Rt (I J (yQ op a b))/\w'=w:=by rcases c with rfl|rfl;all_goals go_enter func214,ntmps214;go_wp2_with (go_at_call 232;refine(OP _ _).m ?_;rintro e f ⟨rfl,d⟩;obtain rfl:=d.symm;clear d);all_goals (go_ret;refine⟨xO ?_,rfl⟩;simp_all [yQ,dG])
theorem Tp(op a b:Int)(w:YW)(h:op=12\/op=13)(r:b≠0)(o:-9223372036854775808<=a/\a<=9223372036854775807)(p:-9223372036854775808<=b/\b<=9223372036854775807):Calls prog 214 #[I J op,I J a,I J b] w fun e w'=>e=Rt (I J (yQ op a b))/\w'=w:=by
 by_cases f:b=-1
 ·subst f;rcases h with rfl|rfl;all_goals go_enter func214,ntmps214;go_wp2;go_ret;exact⟨rfl,rfl⟩
 ·obtain⟨t,u,v,x,y,n⟩:=pM a b r f o p;have s:(b==-1)=Z:=by simpa using f
  by_cases g:a.tmod b<0/\0<b\/0<a.tmod b/\b<0
  ·have c:dw a b=a.tdiv b-1:=by unfold dw;rw[if_neg f,if_pos g]
   have d:fe a b=a.tmod b+b:=by unfold fe;rw[if_neg f,if_pos g]
   have m:=V c;have j:=V d;have q:=n g;obtain⟨q,z,B⟩:=q;clear c d n o p;rcases g with⟨k,l⟩|⟨k,l⟩;all_goals rcases h with rfl|rfl;all_goals go_enter func214,ntmps214;go_wp2;go_ret;refine⟨xO ?_,rfl⟩;simp only[yQ];first | (rw[U m];simp;done) | (rw[U j];simp;done) | (simp;done) | (simp[U j];done)
  ·have c:dw a b=a.tdiv b:=by unfold dw;rw[if_neg f,if_neg g]
   have d:fe a b=a.tmod b:=by unfold fe;rw[if_neg f,if_neg g]
   have m:=V c;have j:=V d;have i:(a.tmod b<0/\b<0)\/(0<a.tmod b/\0<b)\/(0<=a.tmod b/\a.tmod b<=0):=zo;clear c d n o p g;rcases i with⟨k,l⟩|⟨k,l⟩|⟨k,l⟩;all_goals rcases h with rfl|rfl;all_goals go_enter func214,ntmps214;go_wp2;go_ret;refine⟨xO ?_,rfl⟩;simp only[yQ];first | (rw[U m];simp;done) | (rw[U j];simp;done) | (simp;done) | (simp[U j];done)
theorem To(op a b:Int)(w:YW)(i:op=9\/op=10\/op=11\/op=12\/op=13\/op=14\/op=15\/op=16\/op=19\/op=20)(d:op=12\/op=13->b≠0)(g:-9223372036854775808<=a/\a<=9223372036854775807)(h:-9223372036854775808<=b/\b<=9223372036854775807):Calls prog 214 #[I J op,I J a,I J b] w fun e w'=>e=Rt (I J (yQ op a b))/\w'=w:=by by_cases c:op=12\/op=13;exact Tp op a b w c (d c) g h;by_cases f:op=19\/op=20;exact OR op a b w f;exact OQ op a b w zo
def jG(l:List (ByteArray×Int×Int))(s:YB):Int:=match l.findIdx? (fun x=>x.1==s)with|some k=>k|none=>-1
theorem Kw(l:List (ByteArray×Int×Int))(s:YB)(k:Nat)(x:ByteArray×Int×Int)(e:l[k]? = O x)(he:(x.1==s)=Y)(d:∀j x,j<k->l[j]? = O x->(x.1==s)=Z):l.findIdx? (fun x=>x.1==s)=O k:=by obtain⟨a,b⟩:=Zb.1 e;rw[findIdx?_eq_some_iff_getElem];refine⟨a,by rw[b];exact he,?_⟩;intro j c;rw[d j l[j] c (Za zo)];simp
theorem EP(l:List (ByteArray×Int×Int))(s:YB)(k:Nat)(e:k<=l.length)(b:¬k<l.length)(c:∀j x,j<k->l[j]? = O x->(x.1==s)=Z):l.findIdx? (fun x=>x.1==s)=X:=by rw[findIdx?_eq_none_iff];intro x d;obtain⟨j,a,rfl⟩:=getElem_of_mem d;exact c j _ zo (Za a)
theorem cI(B b:Nat)(st:RS)(z D E F n:Value)(w:YW)(s:YB)(h:Rd B w b st z D E F n):Calls prog 180 #[A (O ⟨b,0,X⟩),Sr s] w fun e w'=>e=Rt (I J (jG st.N s))/\w'=w:=by
 obtain⟨G,N,rfl⟩:=zu h.o6;have d:=h.D;unfold zX at d;have H:=d.u;have K:=d.H;clear d;have M:(st.N.length:Int)<=4000:=by have:=h.R;omega
 go_enter func180,ntmps180;go_wp2;go_loop [5] (fun i=>∃k:Nat,k<=st.N.length/\i=I J k/\∀j x,j<k->st.N[j]? = O x->(x.1==s)=Z) (fun i=>st.N.length-(intOf i).toNat);case atStart=>exact⟨0,zo,rfl,fun j x u=>zo⟩
 case round=>
  obtain⟨k,v,rfl,c⟩:=hrel;have f:Hid (∀j x,j<k->st.N[j]? = O x->(x.1==s)=Z):=c;clear c;by_cases l:k<st.N.length
  ·obtain⟨g,cap,q,L,t⟩:=h.o6.form zo;simp only[Zk,true_and]at q;obtain⟨rfl,rfl⟩:=q;obtain⟨x,m⟩:∃x,st.N[k]? = O x:=⟨_,Za l⟩;have a:=zD h.o6 (k*3) zo;rw[(jr _ _ _ m).1]at a;have o:Hid (st.N[k]? = O x):=m;clear m;go_wp2
   ·go_ret;refine⟨xO ?_,rfl⟩;rw[jG,Kw st.N s k x o.out (by rw[beq_toListBytes];assumption) f.out]
   ·refine⟨⟨k+1,zo,by go_num,?_⟩,by simp[intOf];omega⟩;intro j y u r;by_cases e:j=k;subst e;have p:=o.out;rw[r]at p;obtain rfl:=Zl p;rw[beq_toListBytes];assumption;exact f.out j y zo r
  ·go_wp2;go_ret;refine⟨xO ?_,rfl⟩;rw[jG,EP st.N s k v zo f.out]
def dv(c:UInt8):Bool:=decide (48<=c.toNat)&&decide (c.toNat<=57)
def vX(l:List UInt8):Nat:=l.foldl (fun n c=>n*10+(c.toNat-48)) 0
def qH(D:List UInt8)(most:Nat):Option Nat:=if D=[]then X else if D.all dv&&decide (vX D<=most)then O (vX D)else X
def qe(s:YB):Option Int:=if s.toList.head? = O 45 then(qH s.toList.tail 9223372036854775808).map (fun n:Nat=>-(n:Int))else(qH s.toList 9223372036854775807).map (fun n:Nat=>(n:Int))
def qS(s:YB):Int:=(qe s).getD 0
theorem sw(l:List UInt8)(c:UInt8):vX (l++[c])=vX l*10+(c.toNat-48):=by simp[vX]
theorem sr(l:List UInt8)(n:Nat):n<=l.foldl (fun n c=>n*10+(c.toNat-48)) n:=by
 induction l generalizing n with
 |nil=>exact Zc _
 |cons c l a=>simp only[foldl_cons];have:=a (n*10+(c.toNat-48));omega
theorem GG(l:List UInt8)(k:Nat):vX (l.take k)<=vX l:=by
 have h:vX l=(l.drop k).foldl (fun n c=>n*10+(c.toNat-48)) (vX (l.take k)):=by rw[vX,vX,<-foldl_append,take_append_drop]
 rw[h];exact sr _ _
theorem oU(l:List UInt8)(k:Nat)(c:UInt8)(h:l[k]? = O c):l.take (k+1)=l.take k++[c]:=by obtain⟨a,rfl⟩:=Zb.1 h;rw[take_succ_eq_append_getElem a]
theorem mM(D:List UInt8)(a k:Nat)(c:UInt8)(h:D[k]? = O c)(b:dv c=Z):qH D a=X:=by
 unfold qH;have:D.all dv=Z:=by rw[all_eq_false];exact⟨c,Zd h,by simp[b]⟩
 rw[this];simp
theorem rC(D:List UInt8)(a k:Nat)(c:UInt8)(h:D[k]? = O c)(e:a<vX (D.take k)*10+(c.toNat-48)):qH D a=X:=by
 have b:vX (D.take (k+1))=vX (D.take k)*10+(c.toNat-48):=by rw[oU D k c h,sw]
 have d:=GG D (k+1);unfold qH;have:decide (vX D<=a)=Z:=zp;rw[this];simp
theorem Aq(D:List UInt8)(a:Nat)(b:D≠[])(e:∀(j:Nat)(c:UInt8),D[j]? = O c->dv c=Y)(g:vX D<=a):qH D a=O (vX D):=by
 unfold qH;have:D.all dv=Y:=by rw[all_eq_true];intro c d;obtain⟨j,f⟩:=getElem?_of_mem d;exact e j c f
 rw[if_neg b,this];simp[g]
theorem tP(s:YB)(k:Nat)(h:k<s.size):s.toList[k]? = O s[k]:=by rw[Zv];have a:k<s.data.size:=h;rw[Array.getElem?_toList,Array.getElem?_eq_getElem a];rfl
theorem ku(s:YB):s.toList.length=s.size:=by rw[Zv];simp
theorem JF{a b:Int}{c d:Bool}(h:a=b)(e:c=d):Ending.returned (Tu #[I J a,Bl c])=Rt (Tu #[I J b,Bl d]):=by rw[h,e]
theorem Ih(s:YB)(w:YW)(W:s.size<=2000)(P:0<s.size)(Q:(((s[0]).toNat:Int)==45)=Z)(o:Option Nat)(B:qH s.toList 9223372036854775807=o):Calls prog 174 #[Sr s] w fun e w'=>e=Rt (Tu #[I J ((o.map (fun n:Nat=>(n:Int))).getD 0),Bl o.isSome])/\w'=w:=by
 have l:=V B;clear B;have hz:(0:Int)<s.size:=zo;go_enter func174,ntmps174;go_wp2;go_loop [6,7] (fun n i=>∃k v:Nat,k<=s.size/\i=I J k/\n=.int .u64 v/\v=vX (s.toList.take k)/\v<=9223372036854775807/\(∀(j:Nat)(c:UInt8),j<k->s.toList[j]? = O c->dv c=Y)) (fun _ i=>s.size-(intOf i).toNat);case atStart=>exact⟨0,0,zo,rfl,rfl,rfl,zo,fun j c G=>zo⟩
 case round=>
  obtain⟨k,v,T,rfl,rfl,D,q,z⟩:=hrel;have h:=V D;have u:=V z;clear D z;have M:(v:Int)<=9223372036854775807:=zo;have H:(k:Int)<=2000:=zo;by_cases r:k<s.size
  ·have d:=tP s k r;have g:=V d;clear d;have R:(s[k].toNat:Int)<256:=by have:=s[k].toNat_lt;omega
   have F:(0:Int)<=s[k].toNat:=zo;by_cases f:48<=s[k].toNat/\s[k].toNat<=57
   ·obtain⟨m,p⟩:=f;have x:(48:Int)<=s[k].toNat:=zo;have N:(s[k].toNat:Int)<=57:=zo;by_cases t:v*10+(s[k].toNat-48)<=9223372036854775807
    ·have L:(v:Int)<=(9223372036854775807-(s[k].toNat-48)) / 10:=zo;go_wp2_with fail;have E:((v*10+(s[k].toNat-48):Nat):Int)=(v:Int)*10+((s[k].toNat:Int)-48):=zo;refine⟨⟨u2,u3,.int .u64 ((v:Int)*10+((s[k].toNat:Int)-48)),I J ((k:Int)+1),⟨k+1,zo,by go_num,v*10+(s[k].toNat-48),by rw[E],?_,t,?_⟩,rfl,rfl,rfl,rfl⟩,by simp[intOf];omega⟩;rw[oU _ _ _ (U g),sw,<-U h];intro j c G b;by_cases e:j=k;subst e;rw[U g]at b;obtain rfl:=Zl b;simp[dv,m,p];exact U u j c zo b
    ·have L:(9223372036854775807-((s[k].toNat:Int)-48)) / 10<(v:Int):=zo;go_wp2_with fail;go_ret2;have a:=rC s.toList 9223372036854775807 k _ g (by rw[<-U h];omega);rw[U l]at a;subst a;exact⟨rfl,rfl⟩
   ·have a:=mM s.toList 9223372036854775807 k _ g (by simp[dv];omega);rw[U l]at a;subst a;by_cases K:s[k].toNat<48
    ·have x:(s[k].toNat:Int)<48:=zo;go_wp2_with fail;go_ret2;exact⟨rfl,rfl⟩
    ·have x:(57:Int)<s[k].toNat:=zo;go_wp2_with fail;go_ret2;exact⟨rfl,rfl⟩
  ·go_wp2_with fail;go_ret2;have y:s.toList.take k=s.toList:=take_of_length_le (by rw[ku];omega);have a:=Aq s.toList 9223372036854775807 (by intro e;have:=ku s;rw[e]at this;simp at this;omega) (fun j c b=>U u j c (by have:=(Zb.1 b).1;rw[ku]at this;omega) b) (by rw[<-y,<-U h];exact q);rw[U l]at a;subst a;rw[<-y,<-U h];exact⟨JF zs zs,rfl⟩
theorem RR(v:Nat)(h:v<=9223372036854775808):wrap64 (-wrap64 (v:Int))=(Option.map (fun n:Nat=>-(n:Int)) (O v)).getD 0:=by simp only[Option.map_some,Option.getD_some];unfold wrap64;omega
theorem Tn(s:YB)(k:Nat)(h:k+1<s.size):s.toList.tail[k]? = O s[k+1]:=by rw[getElem?_tail,tP s (k+1) h]
theorem Ft(s:YB)(w:YW)(hs:s.size<=2000)(R:1<s.size)(T:(((s[0]).toNat:Int)==45)=Y)(o:Option Nat)(D:qH s.toList.tail 9223372036854775808=o):Calls prog 174 #[Sr s] w fun e w'=>e=Rt (Tu #[I J ((o.map (fun n:Nat=>-(n:Int))).getD 0),Bl o.isSome])/\w'=w:=by
 have p:=V D;clear D;have hz:(1:Int)<s.size:=zo;have G:((1:Int)==(s.size:Int))=Z:=zp;go_enter func174,ntmps174;go_wp2;go_loop [6,7] (fun n i=>∃k v:Nat,k+1<=s.size/\i=I J ((k:Int)+1)/\n=.int .u64 v/\v=vX (s.toList.tail.take k)/\v<=9223372036854775808/\(∀(j:Nat)(c:UInt8),j<k->s.toList.tail[j]? = O c->dv c=Y)) (fun _ i=>s.size-(intOf i).toNat);case atStart=>exact⟨0,0,zo,rfl,rfl,rfl,zo,fun j c K=>zo⟩
 case round=>
  obtain⟨k,v,hk,rfl,rfl,E,h,B⟩:=hrel;have m:=V E;have x:=V B;clear E B;have P:(v:Int)<=9223372036854775808:=zo;have L:(k:Int)<=2000:=zo;by_cases t:k+1<s.size
  ·have f:=Tn s k t;have l:=V f;clear f;have W:(s[k+1].toNat:Int)<256:=by have:=s[k+1].toNat_lt;omega
   have H:(0:Int)<=s[k+1].toNat:=zo;by_cases g:48<=s[k+1].toNat/\s[k+1].toNat<=57
   ·obtain⟨q,r⟩:=g;have y:(48:Int)<=s[k+1].toNat:=zo;have Q:(s[k+1].toNat:Int)<=57:=zo;by_cases u:v*10+(s[k+1].toNat-48)<=9223372036854775808
    ·have N:(v:Int)<=(9223372036854775808-(s[k+1].toNat-48)) / 10:=zo;go_wp2_with fail;have F:((v*10+(s[k+1].toNat-48):Nat):Int)=(v:Int)*10+((s[k+1].toNat:Int)-48):=zo;go_round;case rel=>refine⟨k+1,v*10+(s[k+1].toNat-48),zo,by go_num,by rw[F],?_,u,?_⟩;rw[oU _ _ _ (U l),sw,<-U m];intro j c K d;by_cases e:j=k;subst e;rw[U l]at d;obtain rfl:=Zl d;simp[dv,q,r];exact U x j c zo d
     case measure=>exact zv
    ·have N:(9223372036854775808-((s[k+1].toNat:Int)-48)) / 10<(v:Int):=zo;go_wp2_with fail;go_ret2;have b:=rC s.toList.tail 9223372036854775808 k _ l (by rw[<-U m];omega);rw[U p]at b;subst b;exact⟨rfl,rfl⟩
   ·have b:=mM s.toList.tail 9223372036854775808 k _ l (by simp[dv];omega);rw[U p]at b;subst b;by_cases M:s[k+1].toNat<48
    ·have y:(s[k+1].toNat:Int)<48:=zo;go_wp2_with fail;go_ret2;exact⟨rfl,rfl⟩
    ·have y:(57:Int)<s[k+1].toNat:=zo;go_wp2_with fail;go_ret2;exact⟨rfl,rfl⟩
  ·go_wp2_with fail;go_ret2;have a:s.toList.tail.length=s.size-1:=by simp[ku]
   have z:s.toList.tail.take k=s.toList.tail:=take_of_length_le (by rw[a];omega);have b:=Aq s.toList.tail 9223372036854775808 (by intro e;rw[e]at a;simp at a;omega) (fun j c d=>U x j c (by have:=(Zb.1 d).1;rw[a]at this;omega) d) (by rw[<-z,<-U m];exact h);rw[U p]at b;subst b;rw[<-z,<-U m];refine⟨JF ?_ zs,rfl⟩;exact RR v h
theorem IQ(s:YB)(h:0<s.size):s.toList.head? = O s[0]:=by rw[head?_eq_getElem?,tP s 0 h]
theorem Eh(b:UInt8):((b.toNat:Int)==45)=Y↔b=45:=by
 simp only[beq_iff_eq];constructor;intro h;have a:b.toNat=45:=by exact_mod_cast h
 have:=UInt8.ofNat_toNat (x:=b);rw[a]at this;exact this.symm;intro h;rw[h];rfl
theorem kX(s:YB)(w:YW)(f:s.size<=2000):Calls prog 174 #[Sr s] w fun e w'=>e=Rt (Tu #[I J (qS s),Bl (qe s).isSome])/\w'=w:=by
 unfold qS qe;by_cases b:0<s.size
 ·rw[IQ s b];by_cases a:s[0]=45
  ·rw[if_pos (by rw[a])];by_cases h:1<s.size;simpa using Ft s w f h ((Eh _).2 a) _ rfl
   ·have i:qH s.toList.tail 9223372036854775808=X:=by
     have d:s.toList.tail.length=0:=by simp[ku];omega
     rw[eq_nil_of_length_eq_zero d];rfl
    rw[i];have j:=(Eh _).2 a;have c:((1:Int)==(s.size:Int))=Y:=zp;go_enter func174,ntmps174;go_wp2_with fail;go_ret2;exact⟨rfl,rfl⟩
  rw[if_neg (by simpa using a)];simpa using Ih s w f b (by rw[<-Bool.not_eq_true,Eh];exact a) _ rfl
 ·have d:s.toList=[]:=eq_nil_of_length_eq_zero (by rw[ku];omega);have g:¬(0:Int)<s.size:=zo;have k:decide (0<s.size)=Z:=by simpa using b
  have c:((0:Int)==(s.size:Int))=Y:=zp;rw[d];go_enter func174,ntmps174;go_wp2_with fail;go_ret2;exact⟨rfl,rfl⟩
end Go.Proofs.YtmeiikjpaepogaaGreatDoor
