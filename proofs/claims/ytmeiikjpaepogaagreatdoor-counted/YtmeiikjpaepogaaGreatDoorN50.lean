/- Runs: what a text puts out, by a row of instructions. -/
import Derived.Test.YtmeiikjpaepogaaGreatDoorN49
import Derived.Test.YtmeiikjpaepogaaGreatDoorN44
namespace Go.Proofs.YtmeiikjpaepogaaGreatDoor
open Go Go.RowKit
def evR:List (Int×Int)→ES→Option (ES×List Int)
  | [],e=>some (e,[])
  | x :: r, e => match ev1 x e with
    | some (e1,d1)=>(match evR r e1 with|some (e2,d2)=>some (e2,d1++d2)|none=>none)
    | none=>none
theorem evR_ok (r:List (Int×Int)):∀ {e e':ES} {ds:List Int},evR r e=some (e',ds)→(∀ d∈ds,d≠0)→∀ (pc:Int) (calls:List Int),(∀ x∈r,(0≤x.1∧x.1≤32)∧plainOp x.1)∧rowX r (toMS e pc calls)=(toMS e' pc calls,0,r.length):=by
  induction r with
  | nil =>
    intro e e' ds h _ pc calls
    simp only[evR,Option.some.injEq,Prod.mk.injEq]at h
    obtain⟨rfl,rfl⟩:=h
    exact⟨by simp,rfl⟩
  | cons x r ih =>
    intro e e' ds h hd pc calls
    unfold evR at h
    split at h
    next e1 d1 h1 =>
      split at h
      next e2 d2 h2 =>
        simp only[Option.some.injEq,Prod.mk.injEq]at h
        obtain⟨rfl,rfl⟩:=h
        obtain⟨⟨a1,a2,a3⟩,a4⟩:=ev1_ok h1 (fun d hd1=>hd d (by simp[hd1])) pc calls
        obtain⟨b1,b2⟩:=ih h2 (fun d hd1=>hd d (by simp[hd1])) pc calls
        refine⟨fun y hy=>?_,?_⟩
        · rcases List.mem_cons.1 hy with rfl|hy
          · exact⟨⟨a1,a2⟩,a3⟩
          · exact b1 y hy
        · rw[rowX,a4]
          simp only[if_true]
          rw[b2]
          rfl
      · cases h
    · cases h
theorem ends_ev {l r:List (Int×Int)} {a:Nat} {e e':ES} {ds:List Int} {calls:List Int} {k:Nat} {o:Obs} (hl:∀ i x,r[i]? = some x→l[a+i]? = some x) (h:evR r e=some (e',ds)) (hd:∀ d∈ds,d≠0) (hE:Ends l (toMS e' ((a+r.length:Nat):Int) calls) k o):Ends l (toMS e a calls) (k+r.length) o:=by
  obtain⟨b1,b2⟩:=evR_ok r h hd ((a+r.length:Nat):Int) calls
  have:=(ends_row (l:=l) r a (toMS e a calls) hl (plain_all (fun x hx=>(b1 x hx).2)) rfl rfl).2
  have e1:({ toMS e (a:Int) calls with pc:=((a+r.length:Nat):Int) }:MS)=toMS e ((a+r.length:Nat):Int) calls:=rfl
  rw[e1,b2]at this
  exact (this rfl).1 k o hE
theorem ends_halt {l:List (Int×Int)} {a:Nat} {e:ES} {calls:List Int} {g:Int} (h:l[a]? = some (5,g)):Ends l (toMS e a calls) 1 (0,e.stack.reverse,e.cells,outB e.outs):=by
  have hs:=stepM_ins (l:=l) (m:=toMS e a calls) (x:=(5,g)) (by show l[((a:Nat):Int).toNat]? = _;rw[Int.toNat_natCast];exact h)
  have r5:refusedS { toMS e a calls with pc:=(toMS e a calls).pc+1 } 5=0:=by
    unfold refusedS
    simp[needsS,asideS,toMS]
    omega
  rw[ins_base _ _ (by simp),r5,if_pos rfl]at hs
  have e0:(stepM l (toMS e a calls)).2=0:=by rw[hs]
  have e1:Ends l (stepM l (toMS e a calls)).1 0 (0,e.stack.reverse,e.cells,outB e.outs):=by
    rw[hs]
    exact Ends.halt (m:=doS { toMS e a calls with pc:=(toMS e a calls).pc+1 } 5 g) rfl
  exact Ends.step rfl e0 e1
theorem puts_all {P:PrS} (hp:PrOk P) {ce:Nat} (hce:ce≤1000) {k:Nat} (hk:k≤2000) {st cl:List Int} {want:ByteArray} (hE:Ends P.1 (startM 0 1000 1000 1000 1000 P.2 ce) k (0,st,cl,want)) (f t s:Bool):PutsTo (withP f t s P) ce want:=by
  have hlim:limsOk 1000 1000 1000 1000:=by unfold limsOk limOk;omega
  have key:∀ q:PrS,obsOf (runM q.1 2000 0 (startM 0 1000 1000 1000 1000 q.2 ce))=(0,st,cl,want)→(runM q.1 2000 0 (startM 0 1000 1000 1000 1000 q.2 ce)).2.1=0∧(runM q.1 2000 0 (startM 0 1000 1000 1000 1000 q.2 ce)).1.out=want:=by
    intro q h
    unfold obsOf at h
    simp only[Prod.mk.injEq]at h
    exact⟨h.1,h.2.2.2⟩
  have h0:=(ends_run hE 2000 0 hk).2
  have h1:obsOf (runM (withP false t false P).1 2000 0 (startM 0 1000 1000 1000 1000 (withP false t false P).2 ce))=(0,st,cl,want):=by
    cases t with
    | false=>exact h0
    | true =>
      obtain⟨e1,e2⟩:=key P h0
      have hc:=pr_code hp
      have hen:=hp.entry
      obtain⟨a1,a2,a3,_⟩:=tail_run hc (⟨fun k hk=>by rw[List.getElem?_eq_none_iff]at hk ⊢;rw[tailS_len];exact hk,fun k x hx=>tailS_at P.1 k x hx⟩:TailRel P.1 (tailS P.1)) 2000 2000 0 0 (startM 0 1000 1000 1000 1000 P.2 ce) (startM 0 1000 1000 1000 1000 P.2 ce) (Nat.le_refl _) (Int.le_refl _) ⟨rfl,Ext.nil,Or.inl rfl⟩ (Or.inr ⟨⟨by simp[startM],by simp[startM];exact hen⟩,by simp[startM]⟩) (by rw[e1];decide) (by rw[e1];decide)
      obtain⟨b1,b2⟩:=a3 e1
      rw[← h0]
      show obsOf (runM (tailS P.1) 2000 0 (startM 0 1000 1000 1000 1000 P.2 ce))=_
      unfold obsOf
      rw[a1,a2,e1]
      simp only[if_true]
      rw[b1,b2]
  obtain⟨e1,e2⟩:=key _ h1
  have h2:=(short_run (shortWith hp f t s) ce hce hlim 2000 (by rw[e1];decide)).1
  rw[h1]at h2
  obtain⟨c1,c2⟩:=key _ h2
  exact⟨(withP_code hp).1,(withP_code hp).2,c1,c2⟩
def okW:Tok→Bool
  | .word l=>!l.isEmpty&&l.all (fun b=>!gapB b)&&decide (l.length≤26)
  | .num _=>true
theorem okW_tok {t:Tok} (h:okW t=true) (hn:∀ k,t=.num k→inI k):okTok t.bytes∧t.bytes.length≤26:=by
  cases t with
  | word l =>
    simp only[okW,Bool.and_eq_true,Bool.not_eq_true',List.all_eq_true,decide_eq_true_eq]at h
    refine⟨⟨fun e=>?_,fun b hb=>h.1.2 b hb⟩,h.2⟩
    have:l=[]:=e
    rw[this]at h
    simp at h
  | num k=>exact⟨(digits_num (hn k rfl)).ok,digs_le k⟩
theorem textT_size (ts:List Tok) (h:∀ t∈ts,t.bytes.length≤26):(textT ts).length≤27 * ts.length:=by
  have hr:∀ ts:List Tok,(∀ t∈ts,t.bytes.length≤26)→(restT ts).length≤27 * ts.length:=by
    intro ts
    induction ts with
    | nil=>intro _;simp[restT]
    | cons t ts ih =>
      intro h
      have h1:=h t (by simp)
      have h2:=ih (fun u hu=>h u (by simp[hu]))
      simp only[restT,List.flatMap_cons,List.length_append,List.length_cons]at h2 ⊢
      omega
  cases ts with
  | nil=>simp[textT]
  | cons t ts =>
    have h1:=h t (by simp)
    have h2:=hr ts (fun u hu=>h u (by simp[hu]))
    simp only[textT,List.length_append,List.length_cons]
    omega
structure TextIs (s:ByteArray) (ts:List Tok):Prop where
  text:s.data.toList=textT ts
  oks:∀ t∈ts,okTok t.bytes
  ints:∀ t∈ts,∀ k,t=.num k→inI k
  size:s.size≤2000
theorem text_is {s:ByteArray} {ts:List Tok} (h:s.data.toList=textT ts) (hw:ts.all okW=true) (hin:∀ t∈ts,∀ k,t=.num k→inI k) (hl:ts.length≤70):TextIs s ts:=by
  have hw:=List.all_eq_true.1 hw
  refine⟨h,fun t ht=>(okW_tok (hw t ht) (hin t ht)).1,hin,?_⟩
  have h1:=textT_size ts (fun t ht=>(okW_tok (hw t ht) (hin t ht)).2)
  rw[← h]at h1
  have:s.data.toList.length=s.size:=by simp
  omega
theorem outB_list (l:List Int):(outB l).data.toList=l.flatMap (fun n=>digitsS n++[32]):=by
  have key:∀ (l:List Int) (o:ByteArray),(l.foldl (fun o n=>o++⟨(digitsS n).toArray⟩++⟨#[32]⟩) o).data.toList=o.data.toList++l.flatMap (fun n=>digitsS n++[32]):=by
    intro l
    induction l with
    | nil=>intro o;simp
    | cons n l ih =>
      intro o
      rw[List.foldl_cons,ih,List.flatMap_cons]
      simp[ByteArray.data_append]
  have:=key l ⟨#[]⟩
  simpa [outB] using this
set_option maxRecDepth 100000
theorem chain3 {A0 A1 A2:ByteArray} (h0:A0.size≤60) (h1:A1.size≤60) (h2:A2.size≤60):(¬ 9223372036854775807<(A0).size+A1.size)∧(¬ 9223372036854775807<(A0++A1).size+A2.size):=by
  simp only[ByteArray.size_append]
  omega
theorem chain4 {A0 A1 A2 A3:ByteArray} (h0:A0.size≤60) (h1:A1.size≤60) (h2:A2.size≤60) (h3:A3.size≤60):(¬ 9223372036854775807<(A0).size+A1.size)∧(¬ 9223372036854775807<(A0++A1).size+A2.size)∧(¬ 9223372036854775807<(A0++A1++A2).size+A3.size):=by
  simp only[ByteArray.size_append]
  omega
theorem digB_size (n:Int):(⟨(digitsS n).toArray⟩:ByteArray).size≤60:=by
  have h1:(⟨(digitsS n).toArray⟩:ByteArray).size=(digitsS n).length:=by simp[ByteArray.size]
  have:=digs_le n
  omega
theorem ints2 {a b:Int} (ha:inI a) (hb:inI b) {ts:List Tok} (h:ts.all (fun t=>match t with|.num k=>decide (k=a∨k=b)|.word _=>true)=true):∀ t∈ts,∀ k,t=.num k→inI k:=by
  intro t ht k hk
  have:=List.all_eq_true.1 h t ht
  subst hk
  simp only[decide_eq_true_eq]at this
  rcases this with rfl|rfl
  · exact ha
  · exact hb
theorem ref_quiet {op:Int} {m:MS} (h:op=1∨op=2∧1≤m.stack.length∨op=7∧2≤m.side.length∨op=3∧(m.calls.length:Int)<m.lc∨op=4∧1≤m.calls.length):refusedS m op=0:=by
  have h1:¬ ((m.stack.length:Int)<0):=by omega
  have h2:¬ ((m.side.length:Int)<0):=by omega
  rcases h with rfl|⟨rfl,h⟩|⟨rfl,h⟩|⟨rfl,h⟩|⟨rfl,h⟩
  · exact ref_jump m
  · simp[refusedS,needsS,asideS,h2];omega
  · simp[refusedS,needsS,asideS,h1];omega
  · rw[ref_call,if_neg (by omega)]
  · rw[ref_ret,if_neg (by omega)]
theorem step_do {l:List (Int×Int)} {a:Nat} {e:ES} {calls:List Int} {x:Int×Int} (h:l[a]? = some x) (hx:0≤x.1∧x.1≤32) (hr:refusedS (toMS e ((a:Int)+1) calls) x.1=0) {m':MS} (hm:doS (toMS e ((a:Int)+1) calls) x.1 x.2=m') {k:Nat} {o:Obs} (hE:Ends l m' k o):Ends l (toMS e a calls) (k+1) o:=by
  have hs:=stepM_ins (l:=l) (m:=toMS e a calls) (x:=x) (by show l[((a:Nat):Int).toNat]? = _;rw[Int.toNat_natCast];exact h)
  have e1:({ toMS e (a:Int) calls with pc:=(toMS e (a:Int) calls).pc+1 }:MS)=toMS e ((a:Int)+1) calls:=rfl
  rw[e1,ins_base x _ hx,hr,if_pos rfl,hm]at hs
  exact Ends.step rfl (by rw[hs]) (by rw[hs];exact hE)
theorem ends_jump {l:List (Int×Int)} {a:Nat} {e:ES} {calls:List Int} {k:Nat} {o:Obs} {t:Int} (h:l[a]? = some (1,t)) (hE:Ends l (toMS e t calls) k o):Ends l (toMS e a calls) (k+1) o :=
  step_do h (by simp) (ref_quiet (Or.inl rfl)) rfl hE
theorem ends_jumpz {l:List (Int×Int)} {a:Nat} {v:Int} {st sd ce os:List Int} {calls:List Int} {k:Nat} {o:Obs} {t:Int} (h:l[a]? = some (2,t)) (hE:Ends l (toMS ⟨st,sd,ce,os⟩ (if v=0 then t else ((a+1:Nat):Int)) calls) k o):Ends l (toMS ⟨v :: st,sd,ce,os⟩ a calls) (k+1) o:=by
  refine step_do h (by simp) (ref_quiet (Or.inr (Or.inl ⟨rfl,by simp[toMS]⟩))) ?_ hE
  show (if topL ((v :: st).reverse)=0 then _ else _)=_
  rw[List.reverse_cons,topL_snoc]
  have e:((st.reverse++[v]).dropLast)=st.reverse:=List.dropLast_concat
  by_cases hv:v=0
  · simp only[if_pos hv]
    simp[toMS]
  · simp only[if_neg hv]
    simp[toMS]
theorem ends_loop {l:List (Int×Int)} {a:Nat} {i lim:Int} {st sd ce os:List Int} {calls:List Int} {k:Nat} {o:Obs} {t:Int} (h:l[a]? = some (7,t)) (hE:Ends l (if wrap64 (i+1)=lim then toMS ⟨st,sd,ce,os⟩ ((a+1:Nat):Int) calls else toMS ⟨st,wrap64 (i+1) :: lim :: sd,ce,os⟩ t calls) k o):Ends l (toMS ⟨st,i :: lim :: sd,ce,os⟩ a calls) (k+1) o:=by
  refine step_do h (by simp) (ref_quiet (Or.inr (Or.inr (Or.inl ⟨rfl,by simp[toMS]⟩)))) ?_ hE
  have e1:(i :: lim :: sd).reverse=sd.reverse++[lim]++[i]:=by simp
  show (if wrap64 (topL ((i :: lim :: sd).reverse)+1)=topL ((i :: lim :: sd).reverse).dropLast then _ else _)=_
  rw[e1,topL_snoc,List.dropLast_concat,topL_snoc]
  have e2:topL (sd.reverse++[lim,i])=i:=by rw[show sd.reverse++[lim,i]=sd.reverse++[lim]++[i] by simp,topL_snoc]
  by_cases hv:wrap64 (i+1)=lim
  · simp only[if_pos hv]
    simp[toMS]
  · simp only[if_neg hv]
    simp[toMS,topL_snoc,e2]
theorem ends_call {l:List (Int×Int)} {a:Nat} {e:ES} {calls:List Int} {k:Nat} {o:Obs} {t:Int} (h:l[a]? = some (3,t)) (hc:calls.length<1000) (hE:Ends l (toMS e t (calls++[((a+1:Nat):Int)])) k o):Ends l (toMS e a calls) (k+1) o:=by
  refine step_do h (by simp) (ref_quiet (Or.inr (Or.inr (Or.inr (Or.inl ⟨rfl,by simp[toMS];omega⟩))))) ?_ hE
  rfl
theorem ends_ret {l:List (Int×Int)} {a:Nat} {e:ES} {calls:List Int} {r:Int} {k:Nat} {o:Obs} {g:Int} (h:l[a]? = some (4,g)) (hE:Ends l (toMS e r calls) k o):Ends l (toMS e a (calls++[r])) (k+1) o:=by
  refine step_do h (by simp) (ref_quiet (Or.inr (Or.inr (Or.inr (Or.inr ⟨rfl,by simp[toMS]⟩))))) ?_ hE
  show ({ toMS e ((a:Int)+1) (calls++[r]) with calls:=(calls++[r]).dropLast,pc:=topL (calls++[r]) }:MS)=_
  rw[List.dropLast_concat,topL_snoc]
  rfl
theorem ends_dot {l:List (Int×Int)} {a:Nat} {v:Int} {st sd ce os:List Int} {calls:List Int} {k:Nat} {o:Obs} {g:Int} (h:l[a]? = some (32,g)) (hs:(outB os).size+27≤1000) (hE:Ends l (toMS ⟨st,sd,ce,os++[v]⟩ ((a+1:Nat):Int) calls) k o):Ends l (toMS ⟨v :: st,sd,ce,os⟩ a calls) (k+1) o:=by
  have hx:=stepM_ins (l:=l) (m:=toMS ⟨v :: st,sd,ce,os⟩ a calls) (x:=(32,g)) (by show l[((a:Nat):Int).toNat]? = _;rw[Int.toNat_natCast];exact h)
  have e1:({ toMS ⟨v :: st,sd,ce,os⟩ (a:Int) calls with pc:=(toMS ⟨v :: st,sd,ce,os⟩ (a:Int) calls).pc+1 }:MS)=toMS ⟨v :: st,sd,ce,os⟩ ((a+1:Nat):Int) calls:=by simp[toMS]
  rw[e1,ins_dot hs]at hx
  exact Ends.step rfl (by rw[hx]) (by rw[hx];exact hE)
def upTo (a:Int) (n:Nat):List Int:=(List.range n).map (fun i:Nat=>a+(i:Int))
theorem upTo_next (a:Int) (n:Nat):upTo a (n+1)=upTo a n++[a+n]:=by
  unfold upTo
  rw[List.range_succ,List.map_append]
  rfl
theorem digL_small (f k:Nat) (h:k<1000):(digL (f+3) k).length≤3:=by
  unfold digL
  split
  · unfold digL
    split
    · unfold digL
      split
      · omega
      · simp
    · simp
  · simp
theorem dig_small {n:Int} (h:-1000<n∧n<1000):(digitsS n).length≤4:=by
  unfold digitsS
  have:(digL 25 n.natAbs).length≤3:=digL_small 22 n.natAbs (by omega)
  split
  · simp;omega
  · omega
theorem outB_small (l:List Int) (h:∀ n∈l,-1000<n∧n<1000):(outB l).size≤5 * l.length:=by
  have hs:(outB l).size=(outB l).data.toList.length:=by simp
  rw[hs,outB_list]
  induction l with
  | nil=>simp
  | cons n l ih =>
    have h1:=dig_small (h n (by simp))
    have h2:=ih (fun m hm=>h m (by simp[hm])) (by simp)
    simp only[List.flatMap_cons,List.length_append,List.length_cons,List.length_nil]at h2 ⊢
    omega
theorem upTo_small {a:Int} {n:Nat} (h:-500≤a∧a+n≤540):∀ m∈upTo a n,-1000<m∧m<1000:=by
  intro m hm
  unfold upTo at hm
  obtain⟨i,hi,rfl⟩:=List.mem_map.1 hm
  have:=List.mem_range.1 hi
  omega
theorem upTo_len (a:Int) (n:Nat):(upTo a n).length=n:=by unfold upTo;simp
theorem out_room {a:Int} {n:Nat} (h:-500≤a∧a+n≤540) (hn:n≤40):(outB (upTo a n)).size+27≤1000:=by
  have:=outB_small _ (upTo_small h)
  rw[upTo_len]at this
  omega
theorem wrap_small {n:Int} (h:-100000≤n∧n≤100000):wrap64 n=n:=wrap_in (by unfold inI;omega)
/- do .. loop -/
def tC1 (a k:Int):List Tok:=[.num (a+k),.num a,.word [100,111],.word [105],.word [46],.word [108,111,111,112]]
def lC1 (a k:Int):List (Int×Int):=[(0,a+k),(0,a),(6,0),(8,0),(32,0),(7,3),(5,0)]
theorem c1_loop {a:Int} {k:Nat} (h:-500≤a∧a+k≤540) (hk:k≤40) (j:Nat):∀ i:Nat,i+j+1=k→∃ n,n≤4 * (j+1)∧Ends (lC1 a k) (toMS ⟨[],[a+i,a+k],[],upTo a i⟩ ((3:Nat):Int) []) n (0,[],[],outB (upTo a k)):=by
  induction j with
  | zero =>
    intro i hi
    refine⟨_,?_,ends_ev (r:=[(8,0)]) (a:=3) (ds:=[]) (fun j x hx=>?_) (e':=⟨[a+i],[a+i,a+k],[],upTo a i⟩) (by kernel_rfl) (by simp) (ends_dot (g:=0) rfl (out_room (n:=i) (by omega) (by omega)) (ends_loop (t:=3) rfl (k:=1) ?_))⟩
    · simp
    · have:j=0:=by have:=(List.getElem?_eq_some_iff.1 hx).1;simpa using this
      subst this
      exact hx
    · rw[wrap_small (by omega),if_pos (by omega)]
      have e:upTo a i++[a+(i:Int)]=upTo a k:=by rw[← upTo_next,show i+1=k by omega]
      rw[e]
      exact ends_halt (l:=lC1 a k) (a:=6) (e:=⟨[],[],[],upTo a k⟩) (calls:=[]) (g:=0) rfl
  | succ j ih =>
    intro i hi
    obtain⟨n,hn,hE⟩:=ih (i+1) (by omega)
    refine⟨_,?_,ends_ev (r:=[(8,0)]) (a:=3) (ds:=[]) (fun j x hx=>?_) (e':=⟨[a+i],[a+i,a+k],[],upTo a i⟩) (by kernel_rfl) (by simp) (ends_dot (g:=0) rfl (out_room (n:=i) (by omega) (by omega)) (ends_loop (t:=3) rfl (k:=n) ?_))⟩
    · simp;omega
    · have:j=0:=by have:=(List.getElem?_eq_some_iff.1 hx).1;simpa using this
      subst this
      exact hx
    · rw[wrap_small (by omega),if_neg (by omega),← upTo_next]
      rw[show a+(i:Int)+1=a+((i+1:Nat):Int) by push_cast;omega]
      exact hE
theorem at_row {l r:List (Int×Int)} {a:Nat} (h:(l.drop a).take r.length=r):∀ i x,r[i]? = some x→l[a+i]? = some x:=by
  intro i x hx
  have hi:=(List.getElem?_eq_some_iff.1 hx).1
  rw[← h,List.getElem?_take,if_pos hi,List.getElem?_drop]at hx
  exact hx
/- begin .. while .. repeat -/
def tC2 (a k:Int):List Tok:=[.num a,.word [98,101,103,105,110],.word [100,117,112],.num (a+k),.word [60],.word [119,104,105,108,101],.word [100,117,112],.word [46],.word [49],.word [43],.word [114,101,112,101,97,116],.word [100,114,111,112]]
def lC2 (a k:Int):List (Int×Int):=[(0,a),(21,0),(0,a+k),(20,0),(2,10),(21,0),(32,0),(0,1),(9,0),(1,1),(22,0),(5,0)]
theorem c2_loop {a:Int} {k:Nat} (h:-500≤a∧a+k≤540) (hk:k≤40) (j:Nat):∀ i:Nat,i+j=k→∃ n,n≤9 * j+6∧Ends (lC2 a k) (toMS ⟨[a+i],[],[],upTo a i⟩ ((1:Nat):Int) []) n (0,[],[],outB (upTo a k)):=by
  induction j with
  | zero =>
    intro i hi
    refine⟨_,?_,ends_ev (r:=[(21,0),(0,a+k),(20,0)]) (a:=1) (ds:=[]) (at_row rfl) (e':=⟨[twoS 20 (a+i) (a+k),a+i],[],[],upTo a i⟩) (by kernel_rfl) (by simp) (ends_jumpz (t:=((10:Nat):Int)) rfl (k:=2) ?_)⟩
    · simp
    · have e:twoS 20 (a+i) (a+k)=0:=by
        show truthS (decide (a+(i:Int)<a+k))=0
        rw[decide_eq_false (by omega)]
        rfl
      rw[e,if_pos rfl]
      refine ends_ev (r:=[(22,0)]) (a:=10) (ds:=[]) (at_row rfl) (e':=⟨[],[],[],upTo a i⟩) (by kernel_rfl) (by simp) ?_
      have e:i=k:=by omega
      subst e
      exact ends_halt (l:=lC2 a i) (a:=11) (e:=⟨[],[],[],upTo a i⟩) (calls:=[]) (g:=0) rfl
  | succ j ih =>
    intro i hi
    obtain⟨n,hn,hE⟩:=ih (i+1) (by omega)
    refine⟨_,?_,ends_ev (r:=[(21,0),(0,a+k),(20,0)]) (a:=1) (ds:=[]) (at_row rfl) (e':=⟨[twoS 20 (a+i) (a+k),a+i],[],[],upTo a i⟩) (by kernel_rfl) (by simp) (ends_jumpz (t:=((10:Nat):Int)) rfl (k:=n+1+2+1+1) ?_)⟩
    · simp;omega
    · have e:twoS 20 (a+i) (a+k)=-1:=by
        show truthS (decide (a+(i:Int)<a+k))=-1
        rw[decide_eq_true (by omega)]
        rfl
      rw[e,if_neg (by decide)]
      refine ends_ev (r:=[(21,0)]) (a:=5) (ds:=[]) (at_row rfl) (e':=⟨[a+i,a+i],[],[],upTo a i⟩) (by kernel_rfl) (by simp) (ends_dot (g:=0) rfl (out_room (n:=i) (by omega) (by omega)) ?_)
      refine ends_ev (r:=[(0,1),(9,0)]) (a:=7) (ds:=[]) (at_row rfl) (e':=⟨[twoS 9 (a+i) 1],[],[],upTo a i++[a+i]⟩) (by kernel_rfl) (by simp) (ends_jump (t:=((1:Nat):Int)) rfl ?_)
      have e2:twoS 9 (a+i) 1=a+((i+1:Nat):Int):=by
        show wrap64 (a+(i:Int)+1)=_
        rw[wrap_small (by omega)]
        push_cast
        omega
      rw[e2,← upTo_next]
      exact hE
/- begin .. until -/
def tC3 (a k:Int):List Tok:=[.num a,.word [98,101,103,105,110],.word [100,117,112],.word [46],.word [49],.word [43],.word [100,117,112],.num (a+k),.word [61],.word [117,110,116,105,108],.word [100,114,111,112]]
def lC3 (a k:Int):List (Int×Int):=[(0,a),(21,0),(32,0),(0,1),(9,0),(21,0),(0,a+k),(19,0),(2,1),(22,0),(5,0)]
theorem c3_loop {a:Int} {k:Nat} (h:-500≤a∧a+k≤540) (hk:k≤40) (j:Nat):∀ i:Nat,i+j+1=k→∃ n,n≤8 * j+11∧Ends (lC3 a k) (toMS ⟨[a+i],[],[],upTo a i⟩ ((1:Nat):Int) []) n (0,[],[],outB (upTo a k)):=by
  have e2:∀ i:Nat,i≤40→-500≤a∧a+i≤540→twoS 9 (a+i) 1=a+((i+1:Nat):Int):=fun i _ _=>by
    show wrap64 (a+(i:Int)+1)=_
    rw[wrap_small (by omega)]
    push_cast
    omega
  induction j with
  | zero =>
    intro i hi
    refine⟨_,?_,ends_ev (r:=[(21,0)]) (a:=1) (ds:=[]) (at_row rfl) (e':=⟨[a+i,a+i],[],[],upTo a i⟩) (by kernel_rfl) (by simp) (ends_dot (g:=0) rfl (out_room (n:=i) (by omega) (by omega)) (ends_ev (r:=[(0,1),(9,0),(21,0),(0,a+k),(19,0)]) (a:=3) (ds:=[]) (at_row rfl) (e':=⟨[twoS 19 (twoS 9 (a+i) 1) (a+k),twoS 9 (a+i) 1],[],[],upTo a i++[a+i]⟩) (by kernel_rfl) (by simp) (ends_jumpz (t:=((1:Nat):Int)) rfl (k:=2) ?_)))⟩
    · simp
    · have e:twoS 19 (twoS 9 (a+i) 1) (a+k)=-1:=by
        rw[e2 i (by omega) (by omega),show a+((i+1:Nat):Int)=a+k by omega]
        show truthS (a+(k:Int) == a+k)=-1
        rw[beq_self_eq_true]
        rfl
      rw[e,if_neg (by decide),← upTo_next,show i+1=k by omega]
      exact ends_ev (r:=[(22,0)]) (a:=9) (ds:=[]) (at_row rfl) (e':=⟨[],[],[],upTo a k⟩) (by kernel_rfl) (by simp) (ends_halt (l:=lC3 a k) (a:=10) (e:=⟨[],[],[],upTo a k⟩) (calls:=[]) (g:=0) rfl)
  | succ j ih =>
    intro i hi
    obtain⟨n,hn,hE⟩:=ih (i+1) (by omega)
    refine⟨_,?_,ends_ev (r:=[(21,0)]) (a:=1) (ds:=[]) (at_row rfl) (e':=⟨[a+i,a+i],[],[],upTo a i⟩) (by kernel_rfl) (by simp) (ends_dot (g:=0) rfl (out_room (n:=i) (by omega) (by omega)) (ends_ev (r:=[(0,1),(9,0),(21,0),(0,a+k),(19,0)]) (a:=3) (ds:=[]) (at_row rfl) (e':=⟨[twoS 19 (twoS 9 (a+i) 1) (a+k),twoS 9 (a+i) 1],[],[],upTo a i++[a+i]⟩) (by kernel_rfl) (by simp) (ends_jumpz (t:=((1:Nat):Int)) rfl (k:=n) ?_)))⟩
    · simp;omega
    · have e:twoS 19 (twoS 9 (a+i) 1) (a+k)=0:=by
        rw[e2 i (by omega) (by omega)]
        show truthS (a+((i+1:Nat):Int) == a+k)=0
        rw[beq_eq_false_iff_ne.2 (by omega)]
        rfl
      rw[e,if_pos rfl,e2 i (by omega) (by omega),← upTo_next]
      exact hE
/- A word that calls itself, with numbers aside. -/
def sumN:Nat→Int
  | 0=>0
  | n+1=>sumN n+(n+1:Nat)
theorem sumN_small (n:Nat) (h:n≤100):0≤sumN n∧sumN n≤100 * n:=by
  induction n with
  | zero=>simp[sumN]
  | succ n ih =>
    have:=ih (by omega)
    unfold sumN
    push_cast
    omega
def tC4 (d:Int):List Tok:=[.word [58],.word [100,111,119,110],.word [100,117,112],.word [105,102],.word [100,117,112],.word [62,114],.word [49],.word [45],.word [114,101,99,117,114,115,101],.word [114,62],.word [43],.word [116,104,101,110],.word [59],.num d,.word [100,111,119,110],.word [46]]
def lC4 (d:Int):List (Int×Int):=[(21,0),(2,9),(21,0),(26,0),(0,1),(10,0),(3,0),(27,0),(9,0),(4,0),(0,d),(3,0),(32,0),(5,0)]
theorem c4_word (d:Int) (n:Nat):∀ (sd:List Int) (calls:List Int) (r:Int) (k:Nat) (o:Obs),n+sd.length≤90→n+calls.length≤90→Ends (lC4 d) (toMS ⟨[sumN n],sd,[],[]⟩ r calls) k o→∃ k',k'≤k+10 * n+3∧Ends (lC4 d) (toMS ⟨[(n:Int)],sd,[],[]⟩ ((0:Nat):Int) (calls++[r])) k' o:=by
  induction n with
  | zero =>
    intro sd calls r k o hs hc hE
    have hcond:¬ 100≤sd.length:=by omega
    refine⟨_,?_,ends_ev (r:=[(21,0)]) (a:=0) (ds:=[]) (at_row rfl) (e':=⟨[0,0],sd,[],[]⟩) (by simp[evR,ev1,evI,hcond]) (by simp) (ends_jumpz (t:=((9:Nat):Int)) rfl (k:=k+1) ?_)⟩
    · simp
    · rw[if_pos rfl]
      exact ends_ret (g:=0) rfl hE
  | succ n ih =>
    intro sd calls r k o hs hc hE
    have hcond:¬ 100≤sd.length:=by omega
    have hcond2:¬ 100≤sd.length+1:=by omega
    have hsum:=sumN_small n (by omega)
    have h9:Ends (lC4 d) (toMS ⟨[sumN (n+1)],sd,[],[]⟩ ((9:Nat):Int) (calls++[r])) (k+1) o:=ends_ret (g:=0) rfl hE
    have e9:twoS 9 (sumN n) ((n+1:Nat):Int)=sumN (n+1):=by
      show wrap64 (sumN n+((n+1:Nat):Int))=_
      rw[wrap_small (by omega)]
      rfl
    have h7:Ends (lC4 d) (toMS ⟨[sumN n],((n+1:Nat):Int) :: sd,[],[]⟩ ((7:Nat):Int) (calls++[r])) (k+1+2) o:=by
      refine ends_ev (r:=[(27,0),(9,0)]) (a:=7) (ds:=[]) (at_row rfl) (e':=⟨[sumN (n+1)],sd,[],[]⟩) ?_ (by simp) h9
      simp[evR,ev1,evI,hcond,hcond2]
      exact e9
    obtain⟨k',hk',hE'⟩:=ih (((n+1:Nat):Int) :: sd) (calls++[r]) 7 _ o (by simp;omega) (by simp;omega) h7
    have e10:twoS 10 ((n+1:Nat):Int) 1=(n:Int):=by
      show wrap64 (((n+1:Nat):Int)-1)=_
      rw[wrap_small (by push_cast;omega)]
      push_cast
      omega
    refine⟨_,?_,ends_ev (r:=[(21,0)]) (a:=0) (ds:=[]) (at_row rfl) (e':=⟨[((n+1:Nat):Int),((n+1:Nat):Int)],sd,[],[]⟩) (by simp[evR,ev1,evI,hcond]) (by simp) (ends_jumpz (t:=((9:Nat):Int)) rfl (k:=k'+1+4) ?_)⟩
    · simp;omega
    · rw[if_neg (by push_cast;omega)]
      refine ends_ev (r:=[(21,0),(26,0),(0,1),(10,0)]) (a:=2) (ds:=[]) (at_row rfl) (e':=⟨[(n:Int)],((n+1:Nat):Int) :: sd,[],[]⟩) ?_ (by simp) (ends_call (t:=((0:Nat):Int)) rfl (by simp;omega) hE')
      simp[evR,ev1,evI,hcond,hcond2]
      exact e10
/- A word that calls itself, with a sum. -/
def tC5 (d:Int):List Tok:=[.word [58],.word [116,111],.word [100,117,112],.word [105,102],.word [115,119,97,112],.word [111,118,101,114],.word [43],.word [115,119,97,112],.word [49],.word [45],.word [114,101,99,117,114,115,101],.word [116,104,101,110],.word [59],.word [48],.num d,.word [116,111],.word [100,114,111,112],.word [46]]
def lC5 (d:Int):List (Int×Int):=[(21,0),(2,9),(23,0),(24,0),(9,0),(23,0),(0,1),(10,0),(3,0),(4,0),(0,0),(0,d),(3,0),(22,0),(32,0),(5,0)]
theorem c5_word (d:Int) (n:Nat):∀ (s:Int) (calls:List Int) (r:Int) (k:Nat) (o:Obs),0≤s∧s+100 * n≤20000→n+calls.length≤90→Ends (lC5 d) (toMS ⟨[0,s+sumN n],[],[],[]⟩ r calls) k o→∃ k',k'≤k+10 * n+3∧Ends (lC5 d) (toMS ⟨[(n:Int),s],[],[],[]⟩ ((0:Nat):Int) (calls++[r])) k' o:=by
  induction n with
  | zero =>
    intro s calls r k o _ _ hE
    refine⟨_,?_,ends_ev (r:=[(21,0)]) (a:=0) (ds:=[]) (at_row rfl) (e':=⟨[0,0,s],[],[],[]⟩) (by kernel_rfl) (by simp) (ends_jumpz (t:=((9:Nat):Int)) rfl (k:=k+1) ?_)⟩
    · simp
    · rw[if_pos rfl]
      refine ends_ret (g:=0) rfl ?_
      have e:s+sumN 0=s:=by simp[sumN]
      rw[e]at hE
      exact hE
  | succ n ih =>
    intro s calls r k o hs hc hE
    have h9:Ends (lC5 d) (toMS ⟨[0,s+sumN (n+1)],[],[],[]⟩ ((9:Nat):Int) (calls++[r])) (k+1) o:=ends_ret (g:=0) rfl hE
    have e9:twoS 9 s ((n+1:Nat):Int)=s+((n+1:Nat):Int):=by
      show wrap64 (s+((n+1:Nat):Int))=_
      rw[wrap_small (by push_cast at hs ⊢;omega)]
    have e10:twoS 10 ((n+1:Nat):Int) 1=(n:Int):=by
      show wrap64 (((n+1:Nat):Int)-1)=_
      rw[wrap_small (by push_cast at hs ⊢;omega)]
      push_cast
      omega
    have e11:s+((n+1:Nat):Int)+sumN n=s+sumN (n+1):=by
      show _=s+(sumN n+((n+1:Nat):Int))
      omega
    rw[← e11]at h9
    obtain⟨k',hk',hE'⟩:=ih (s+((n+1:Nat):Int)) (calls++[r]) 9 _ o (by push_cast at hs ⊢;omega) (by simp;omega) h9
    refine⟨_,?_,ends_ev (r:=[(21,0)]) (a:=0) (ds:=[]) (at_row rfl) (e':=⟨[((n+1:Nat):Int),((n+1:Nat):Int),s],[],[],[]⟩) (by kernel_rfl) (by simp) (ends_jumpz (t:=((9:Nat):Int)) rfl (k:=k'+1+6) ?_)⟩
    · simp;omega
    · rw[if_neg (by push_cast;omega)]
      refine ends_ev (r:=[(23,0),(24,0),(9,0),(23,0),(0,1),(10,0)]) (a:=2) (ds:=[]) (at_row rfl) (e':=⟨[(n:Int),s+((n+1:Nat):Int)],[],[],[]⟩) ?_ (by simp) (ends_call (t:=((0:Nat):Int)) rfl (by simp;omega) hE')
      rw[← e10,← e9]
      kernel_rfl
/- Loops in loops. -/
def tC6:List Tok:=[.word [51],.word [48],.word [100,111],.word [50],.word [48],.word [100,111],.word [105],.word [46],.word [108,111,111,112],.word [105],.word [46],.word [108,111,111,112]]
def lC6:List (Int×Int):=[(0,3),(0,0),(6,0),(0,2),(0,0),(6,0),(8,0),(32,0),(7,6),(8,0),(32,0),(7,3),(5,0)]
set_option maxRecDepth 100000
theorem r6_err:(runM lC6 2000 0 (startM 0 1000 1000 1000 1000 0 0)).2.1=0:=by kernel_rfl
theorem r6_out:(runM lC6 2000 0 (startM 0 1000 1000 1000 1000 0 0)).1.out=⟨#[48,32,49,32,48,32,48,32,49,32,49,32,48,32,49,32,50,32]⟩:=by kernel_rfl
abbrev ReadsTo (ts:List Tok) (l:List (Int×Int)) (en:Nat):Prop:=(readT 40 ts (startS ⟨#[]⟩)).err=0∧(readT 40 ts (startS ⟨#[]⟩)).start=-1∧(readT 40 ts (startS ⟨#[]⟩)).opens=[]∧(readT 40 ts (startS ⟨#[]⟩)).c0.length=en∧(readT 40 ts (startS ⟨#[]⟩)).cells=((0:Nat):Int)∧fullS (readT 40 ts (startS ⟨#[]⟩))=l
theorem mC1 (a k:Int):(readT 40 (tC1 a k) (startS ⟨#[]⟩)).c1=[(0,a+k),(0,a),(6,0),(8,0),(32,0),(7,3)]:=by kernel_rfl
theorem zC1 (a k:Int):(readT 40 (tC1 a k) (startS ⟨#[]⟩)).c0=[]:=by kernel_rfl
theorem aC1 (a k:Int):ReadsTo (tC1 a k) (lC1 a k) 0:=by
  refine⟨by kernel_rfl,by kernel_rfl,by kernel_rfl,by kernel_rfl,by kernel_rfl,?_⟩
  unfold fullS
  rw[mC1,zC1]
  simp[shiftS,wrap64,lC1]
theorem mC2 (a k:Int):(readT 40 (tC2 a k) (startS ⟨#[]⟩)).c1=[(0,a),(21,0),(0,a+k),(20,0),(2,10),(21,0),(32,0),(0,1),(9,0),(1,1),(22,0)]:=by kernel_rfl
theorem zC2 (a k:Int):(readT 40 (tC2 a k) (startS ⟨#[]⟩)).c0=[]:=by kernel_rfl
theorem aC2 (a k:Int):ReadsTo (tC2 a k) (lC2 a k) 0:=by
  refine⟨by kernel_rfl,by kernel_rfl,by kernel_rfl,by kernel_rfl,by kernel_rfl,?_⟩
  unfold fullS
  rw[mC2,zC2]
  simp[shiftS,wrap64,lC2]
theorem mC3 (a k:Int):(readT 40 (tC3 a k) (startS ⟨#[]⟩)).c1=[(0,a),(21,0),(32,0),(0,1),(9,0),(21,0),(0,a+k),(19,0),(2,1),(22,0)]:=by kernel_rfl
theorem zC3 (a k:Int):(readT 40 (tC3 a k) (startS ⟨#[]⟩)).c0=[]:=by kernel_rfl
theorem aC3 (a k:Int):ReadsTo (tC3 a k) (lC3 a k) 0:=by
  refine⟨by kernel_rfl,by kernel_rfl,by kernel_rfl,by kernel_rfl,by kernel_rfl,?_⟩
  unfold fullS
  rw[mC3,zC3]
  simp[shiftS,wrap64,lC3]
theorem aC4 (d:Int):ReadsTo (tC4 d) (lC4 d) 10:=⟨by kernel_rfl,by kernel_rfl,by kernel_rfl,by kernel_rfl,by kernel_rfl,by kernel_rfl⟩
theorem aC5 (d:Int):ReadsTo (tC5 d) (lC5 d) 10:=⟨by kernel_rfl,by kernel_rfl,by kernel_rfl,by kernel_rfl,by kernel_rfl,by kernel_rfl⟩
theorem aC6:ReadsTo tC6 lC6 0:=⟨by kernel_rfl,by kernel_rfl,by kernel_rfl,by kernel_rfl,by kernel_rfl,by kernel_rfl⟩
theorem text_ends {s:ByteArray} {ts:List Tok} (h:TextIs s ts) (hpr:PrOk (fullS (endS s),(endS s).c0.length)) {l:List (Int×Int)} {en:Nat} (hA:ReadsTo ts l en) {k:Nat} (hk:k≤2000) {st cl:List Int} {want:ByteArray} (hE:Ends l (startM 0 1000 1000 1000 1000 en ((0:Nat):Int)) k (0,st,cl,want)):(endS s).err=0∧∀ f t su:Bool,PutsTo (withP f t su (fullS (endS s),(endS s).c0.length)) (endS s).cells want:=by
  obtain⟨a1,a2,a3,a4,a5,a6⟩:=hA
  obtain⟨r1,r2,r3,r4⟩:=read_text ts h.oks h.ints s h.text 40 _ rfl a1 (by omega) a3
  refine⟨r1,fun f t su=>?_⟩
  have hP:(fullS (endS s),(endS s).c0.length)=(l,en):=by rw[r2,r3,a4,a6]
  rw[hP]at hpr ⊢
  rw[r4,a5]
  exact puts_all hpr (Nat.zero_le _) hk hE f t su
theorem ends1 {a:Int} {k:Nat} (h:-500≤a∧a+k≤540) (hk:1≤k∧k≤40):∃ n,n≤2000∧Ends (lC1 a k) (startM 0 1000 1000 1000 1000 ((0:Nat):Int) ((0:Nat):Int)) n (0,[],[],outB (upTo a k)):=by
  obtain⟨n,hn,hE⟩:=c1_loop h hk.2 (k-1) 0 (by omega)
  refine⟨_,?_,ends_ev (l:=lC1 a k) (r:=[(0,a+k),(0,a),(6,0)]) (a:=0) (e:=⟨[],[],[],[]⟩) (calls:=[]) (ds:=[]) (at_row rfl) (e':=⟨[],[a+((0:Nat):Int),a+k],[],upTo a 0⟩) (k:=n) ?_ (by simp) hE⟩
  · simp;omega
  · rw[show a+((0:Nat):Int)=a by simp]
    kernel_rfl
theorem ends2 {a:Int} {k:Nat} (h:-500≤a∧a+k≤540) (hk:1≤k∧k≤40):∃ n,n≤2000∧Ends (lC2 a k) (startM 0 1000 1000 1000 1000 ((0:Nat):Int) ((0:Nat):Int)) n (0,[],[],outB (upTo a k)):=by
  obtain⟨n,hn,hE⟩:=c2_loop h hk.2 k 0 (by omega)
  refine⟨_,?_,ends_ev (l:=lC2 a k) (r:=[(0,a)]) (a:=0) (e:=⟨[],[],[],[]⟩) (calls:=[]) (ds:=[]) (at_row rfl) (e':=⟨[a+((0:Nat):Int)],[],[],upTo a 0⟩) (k:=n) ?_ (by simp) hE⟩
  · simp;omega
  · rw[show a+((0:Nat):Int)=a by simp]
    kernel_rfl
theorem ends3 {a:Int} {k:Nat} (h:-500≤a∧a+k≤540) (hk:1≤k∧k≤40):∃ n,n≤2000∧Ends (lC3 a k) (startM 0 1000 1000 1000 1000 ((0:Nat):Int) ((0:Nat):Int)) n (0,[],[],outB (upTo a k)):=by
  obtain⟨n,hn,hE⟩:=c3_loop h hk.2 (k-1) 0 (by omega)
  refine⟨_,?_,ends_ev (l:=lC3 a k) (r:=[(0,a)]) (a:=0) (e:=⟨[],[],[],[]⟩) (calls:=[]) (ds:=[]) (at_row rfl) (e':=⟨[a+((0:Nat):Int)],[],[],upTo a 0⟩) (k:=n) ?_ (by simp) hE⟩
  · simp;omega
  · rw[show a+((0:Nat):Int)=a by simp]
    kernel_rfl
theorem ends4 {d:Nat} (h:d<60):∃ n,n≤2000∧Ends (lC4 d) (startM 0 1000 1000 1000 1000 ((10:Nat):Int) ((0:Nat):Int)) n (0,[],[],outB [sumN d]):=by
  have h12:Ends (lC4 d) (toMS ⟨[sumN d],[],[],[]⟩ ((12:Nat):Int) []) (1+1) (0,[],[],outB [sumN d]):=ends_dot (g:=0) rfl (by have:(outB []).size=0:=rfl;omega) (ends_halt (l:=lC4 d) (a:=13) (e:=⟨[],[],[],[sumN d]⟩) (calls:=[]) (g:=0) rfl)
  obtain⟨k',hk',hE'⟩:=c4_word d d [] [] ((12:Nat):Int) _ _ (by simp;omega) (by simp;omega) h12
  refine⟨_,?_,ends_ev (l:=lC4 d) (r:=[(0,(d:Int))]) (a:=10) (e:=⟨[],[],[],[]⟩) (calls:=[]) (ds:=[]) (at_row rfl) (e':=⟨[(d:Int)],[],[],[]⟩) (k:=k'+1) (by kernel_rfl) (by simp) (ends_call (t:=((0:Nat):Int)) rfl (by simp) hE')⟩
  simp;omega
theorem ends5 {d:Nat} (h:d<60):∃ n,n≤2000∧Ends (lC5 d) (startM 0 1000 1000 1000 1000 ((10:Nat):Int) ((0:Nat):Int)) n (0,[],[],outB [sumN d]):=by
  have h13:Ends (lC5 d) (toMS ⟨[0,0+sumN d],[],[],[]⟩ ((13:Nat):Int) []) (1+1+1) (0,[],[],outB [sumN d]):=by
    rw[Int.zero_add]
    exact ends_ev (r:=[(22,0)]) (a:=13) (ds:=[]) (at_row rfl) (e':=⟨[sumN d],[],[],[]⟩) (by kernel_rfl) (by simp) (ends_dot (g:=0) rfl (by have:(outB []).size=0:=rfl;omega) (ends_halt (l:=lC5 d) (a:=15) (e:=⟨[],[],[],[sumN d]⟩) (calls:=[]) (g:=0) rfl))
  obtain⟨k',hk',hE'⟩:=c5_word d d 0 [] ((13:Nat):Int) _ _ (by omega) (by simp;omega) h13
  refine⟨_,?_,ends_ev (l:=lC5 d) (r:=[(0,0),(0,(d:Int))]) (a:=10) (e:=⟨[],[],[],[]⟩) (calls:=[]) (ds:=[]) (at_row rfl) (e':=⟨[(d:Int),0],[],[],[]⟩) (k:=k'+1) (by kernel_rfl) (by simp) (ends_call (t:=((0:Nat):Int)) rfl (by simp) hE')⟩
  simp;omega
theorem ends6:∃ n st cl,n≤2000∧Ends lC6 (startM 0 1000 1000 1000 1000 ((0:Nat):Int) ((0:Nat):Int)) n (0,st,cl,⟨#[48,32,49,32,48,32,48,32,49,32,49,32,48,32,49,32,50,32]⟩):=by
  obtain⟨k,hk,_,hE⟩:=run_ends lC6 2000 0 (startM 0 1000 1000 1000 1000 0 0) (by rw[r6_err];decide)
  unfold obsOf at hE
  rw[r6_err,r6_out]at hE
  exact⟨k,_,_,hk,hE⟩
end Go.Proofs.YtmeiikjpaepogaaGreatDoor
