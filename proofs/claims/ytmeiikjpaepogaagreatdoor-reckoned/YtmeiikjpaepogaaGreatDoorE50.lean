/- Runs: what a text puts out, by a row of instructions. -/
import Derived.Test.YtmeiikjpaepogaaGreatDoorE49
import Derived.Test.YtmeiikjpaepogaaGreatDoorE44
import Derived.Test.YtmeiikjpaepogaaGreatDoorCards
import Derived.Test.YtmeiikjpaepogaaGreatDoorTie
import Derived.Deep.DeepWitnessRowRef
import Derived.WideKeyArgs
import Derived.Test.YtmeiikjpaepogaaGreatDoorE24
namespace Go.Proofs.YtmeiikjpaepogaaGreatDoor
open Go Go.RowKit
def evR:List (Int×Int)→ES→Option (ES×List Int)
  | [],e=>some (e,[])
  | x :: r, e => match ev1 x e with
    | some (e1,d1)=>(match evR r e1 with|some (e2,d2)=>some (e2,d1++d2)|none=>none)
    | none=>none
theorem evR_ok (r:List (Int×Int)):∀ {e e':ES} {ds:List Int},evR r e=some (e',ds)→(∀ d∈ds,d≠0)→∀ (pc:Int) (calls:List Int),(∀ x∈r,(0≤x.1∧x.1≤32)∧plainOp x.1)∧rowX r (toMS e pc calls)=(toMS e' pc calls,0,r.length):=by
  induction r with
  | nil =>
    intro e e' ds h _ pc calls
    simp only[evR,Option.some.injEq,Prod.mk.injEq]at h
    obtain⟨rfl,rfl⟩:=h
    exact⟨by simp,rfl⟩
  | cons x r ih =>
    intro e e' ds h hd pc calls
    unfold evR at h
    split at h
    next e1 d1 h1 =>
      split at h
      next e2 d2 h2 =>
        simp only[Option.some.injEq,Prod.mk.injEq]at h
        obtain⟨rfl,rfl⟩:=h
        obtain⟨⟨a1,a2,a3⟩,a4⟩:=ev1_ok h1 (fun d hd1=>hd d (by simp[hd1])) pc calls
        obtain⟨b1,b2⟩:=ih h2 (fun d hd1=>hd d (by simp[hd1])) pc calls
        refine⟨fun y hy=>?_,?_⟩
        · rcases List.mem_cons.1 hy with rfl|hy
          · exact⟨⟨a1,a2⟩,a3⟩
          · exact b1 y hy
        · rw[rowX,a4]
          simp only[if_true]
          rw[b2]
          rfl
      · cases h
    · cases h
theorem ends_ev {l r:List (Int×Int)} {a:Nat} {e e':ES} {ds:List Int} {calls:List Int} {k:Nat} {o:Obs} (hl:∀ i x,r[i]? = some x→l[a+i]? = some x) (h:evR r e=some (e',ds)) (hd:∀ d∈ds,d≠0) (hE:Ends l (toMS e' ((a+r.length:Nat):Int) calls) k o):Ends l (toMS e a calls) (k+r.length) o:=by
  obtain⟨b1,b2⟩:=evR_ok r h hd ((a+r.length:Nat):Int) calls
  have:=(ends_row (l:=l) r a (toMS e a calls) hl (plain_all (fun x hx=>(b1 x hx).2)) rfl rfl).2
  have e1:({ toMS e (a:Int) calls with pc:=((a+r.length:Nat):Int) }:MS)=toMS e ((a+r.length:Nat):Int) calls:=rfl
  rw[e1,b2]at this
  exact (this rfl).1 k o hE
theorem ends_halt {l:List (Int×Int)} {a:Nat} {e:ES} {calls:List Int} {g:Int} (h:l[a]? = some (5,g)):Ends l (toMS e a calls) 1 (0,e.stack.reverse,e.cells,outB e.outs):=by
  have hs:=stepM_ins (l:=l) (m:=toMS e a calls) (x:=(5,g)) (by show l[((a:Nat):Int).toNat]? = _;rw[Int.toNat_natCast];exact h)
  have r5:refusedS { toMS e a calls with pc:=(toMS e a calls).pc+1 } 5=0:=by
    unfold refusedS
    simp[needsS,asideS,toMS]
    omega
  rw[ins_base _ _ (by simp),r5,if_pos rfl]at hs
  have e0:(stepM l (toMS e a calls)).2=0:=by rw[hs]
  have e1:Ends l (stepM l (toMS e a calls)).1 0 (0,e.stack.reverse,e.cells,outB e.outs):=by
    rw[hs]
    exact Ends.halt (m:=doS { toMS e a calls with pc:=(toMS e a calls).pc+1 } 5 g) rfl
  exact Ends.step rfl e0 e1
theorem puts_all {P:PrS} (hp:PrOk P) {ce:Nat} (hce:ce≤1000) {k:Nat} (hk:k≤2000) {st cl:List Int} {want:ByteArray} (hE:Ends P.1 (startM 0 1000 1000 1000 1000 P.2 ce) k (0,st,cl,want)) (f t s:Bool):PutsTo (withP f t s P) ce want:=by
  have hlim:limsOk 1000 1000 1000 1000:=by unfold limsOk limOk;omega
  have key:∀ q:PrS,obsOf (runM q.1 2000 0 (startM 0 1000 1000 1000 1000 q.2 ce))=(0,st,cl,want)→(runM q.1 2000 0 (startM 0 1000 1000 1000 1000 q.2 ce)).2.1=0∧(runM q.1 2000 0 (startM 0 1000 1000 1000 1000 q.2 ce)).1.out=want:=by
    intro q h
    unfold obsOf at h
    simp only[Prod.mk.injEq]at h
    exact⟨h.1,h.2.2.2⟩
  have h0:=(ends_run hE 2000 0 hk).2
  have h1:obsOf (runM (withP false t false P).1 2000 0 (startM 0 1000 1000 1000 1000 (withP false t false P).2 ce))=(0,st,cl,want):=by
    cases t with
    | false=>exact h0
    | true =>
      obtain⟨e1,e2⟩:=key P h0
      have hc:=pr_code hp
      have hen:=hp.entry
      obtain⟨a1,a2,a3,_⟩:=tail_run hc (⟨fun k hk=>by rw[List.getElem?_eq_none_iff]at hk ⊢;rw[tailS_len];exact hk,fun k x hx=>tailS_at P.1 k x hx⟩:TailRel P.1 (tailS P.1)) 2000 2000 0 0 (startM 0 1000 1000 1000 1000 P.2 ce) (startM 0 1000 1000 1000 1000 P.2 ce) (Nat.le_refl _) (Int.le_refl _) ⟨rfl,Ext.nil,Or.inl rfl⟩ (Or.inr ⟨⟨by simp[startM],by simp[startM];exact hen⟩,by simp[startM]⟩) (by rw[e1];decide) (by rw[e1];decide)
      obtain⟨b1,b2⟩:=a3 e1
      rw[← h0]
      show obsOf (runM (tailS P.1) 2000 0 (startM 0 1000 1000 1000 1000 P.2 ce))=_
      unfold obsOf
      rw[a1,a2,e1]
      simp only[if_true]
      rw[b1,b2]
  obtain⟨e1,e2⟩:=key _ h1
  have h2:=(short_run (shortWith hp f t s) ce hce hlim 2000 (by rw[e1];decide)).1
  rw[h1]at h2
  obtain⟨c1,c2⟩:=key _ h2
  exact⟨(withP_code hp).1,(withP_code hp).2,c1,c2⟩
theorem puts_row {l:List (Int×Int)} (hp:PrOk (l++[(5,0)],0)) {ce:Nat} (hce:ce≤1000) (hl:l.length<2000) {e':ES} {ds:List Int} (h:evR l ⟨[],[],List.replicate ce 0,[]⟩=some (e',ds)) (hd:∀ d∈ds,d≠0) (f t s:Bool):PutsTo (withP f t s (l++[(5,0)],0)) ce (outB e'.outs):=by
  refine puts_all hp hce (k:=1+l.length) (by omega) (st:=e'.stack.reverse) (cl:=e'.cells) ?_ f t s
  have:=ends_ev (l:=l++[(5,0)]) (r:=l) (a:=0) (calls:=[]) (fun i x hx=>by
    rw[Nat.zero_add,List.getElem?_append_left (List.getElem?_eq_some_iff.1 hx).1]
    exact hx) h hd (ends_halt (g:=0) (by simp))
  exact this
def okW:Tok→Bool
  | .word l=>!l.isEmpty&&l.all (fun b=>!gapB b)&&decide (l.length≤26)
  | .num _=>true
theorem okW_tok {t:Tok} (h:okW t=true) (hn:∀ k,t=.num k→inI k):okTok t.bytes∧t.bytes.length≤26:=by
  cases t with
  | word l =>
    simp only[okW,Bool.and_eq_true,Bool.not_eq_true',List.all_eq_true,decide_eq_true_eq]at h
    refine⟨⟨fun e=>?_,fun b hb=>h.1.2 b hb⟩,h.2⟩
    have:l=[]:=e
    rw[this]at h
    simp at h
  | num k=>exact⟨(digits_num (hn k rfl)).ok,digs_le k⟩
theorem textT_size (ts:List Tok) (h:∀ t∈ts,t.bytes.length≤26):(textT ts).length≤27 * ts.length:=by
  have hr:∀ ts:List Tok,(∀ t∈ts,t.bytes.length≤26)→(restT ts).length≤27 * ts.length:=by
    intro ts
    induction ts with
    | nil=>intro _;simp[restT]
    | cons t ts ih =>
      intro h
      have h1:=h t (by simp)
      have h2:=ih (fun u hu=>h u (by simp[hu]))
      simp only[restT,List.flatMap_cons,List.length_append,List.length_cons]at h2 ⊢
      omega
  cases ts with
  | nil=>simp[textT]
  | cons t ts =>
    have h1:=h t (by simp)
    have h2:=hr ts (fun u hu=>h u (by simp[hu]))
    simp only[textT,List.length_append,List.length_cons]
    omega
structure TextIs (s:ByteArray) (ts:List Tok):Prop where
  text:s.data.toList=textT ts
  oks:∀ t∈ts,okTok t.bytes
  ints:∀ t∈ts,∀ k,t=.num k→inI k
  size:s.size≤2000
theorem text_is {s:ByteArray} {ts:List Tok} (h:s.data.toList=textT ts) (hw:ts.all okW=true) (hin:∀ t∈ts,∀ k,t=.num k→inI k) (hl:ts.length≤70):TextIs s ts:=by
  have hw:=List.all_eq_true.1 hw
  refine⟨h,fun t ht=>(okW_tok (hw t ht) (hin t ht)).1,hin,?_⟩
  have h1:=textT_size ts (fun t ht=>(okW_tok (hw t ht) (hin t ht)).2)
  rw[← h]at h1
  have:s.data.toList.length=s.size:=by simp
  omega
theorem text_row {s:ByteArray} {ts:List Tok} (h:TextIs s ts) (hpr:PrOk (fullS (endS s),(endS s).c0.length)) (n:Nat) {l:List (Int×Int)} {ce:Nat} (hce:ce≤1000) (hl:l.length<2000) {e':ES} {ds:List Int}
    (hA:(readT n ts (startS ⟨#[]⟩)).err=0∧(readT n ts (startS ⟨#[]⟩)).start=-1∧(readT n ts (startS ⟨#[]⟩)).opens=[]∧(readT n ts (startS ⟨#[]⟩)).c0=[]∧(readT n ts (startS ⟨#[]⟩)).cells=ce∧fullS (readT n ts (startS ⟨#[]⟩))=l++[(5,0)])
    (he:evR l ⟨[],[],List.replicate ce 0,[]⟩=some (e',ds)) (hd:∀ d∈ds,d≠0):(endS s).err=0∧∀ f t su:Bool,PutsTo (withP f t su (fullS (endS s),(endS s).c0.length)) (endS s).cells (outB e'.outs):=by
  obtain⟨a1,a2,a3,a4,a5,a6⟩:=hA
  obtain⟨r1,r2,r3,r4⟩:=read_text ts h.oks h.ints s h.text n _ rfl a1 (by omega) a3
  refine⟨r1,fun f t su=>?_⟩
  rw[r2,r3,a4,a6]at hpr
  rw[r2,r3,r4,a4,a5,a6]
  exact puts_row hpr hce hl he hd f t su
theorem outB_list (l:List Int):(outB l).data.toList=l.flatMap (fun n=>digitsS n++[32]):=by
  have key:∀ (l:List Int) (o:ByteArray),(l.foldl (fun o n=>o++⟨(digitsS n).toArray⟩++⟨#[32]⟩) o).data.toList=o.data.toList++l.flatMap (fun n=>digitsS n++[32]):=by
    intro l
    induction l with
    | nil=>intro o;simp
    | cons n l ih =>
      intro o
      rw[List.foldl_cons,ih,List.flatMap_cons]
      simp[ByteArray.data_append]
  have:=key l ⟨#[]⟩
  simpa [outB] using this
theorem outB_eq {l:List Int} {want:ByteArray} (h:want.data.toList=l.flatMap (fun n=>digitsS n++[32])):outB l=want:=by
  refine ByteArray.ext (Array.ext' ?_)
  rw[outB_list,h]
/- Reckoned. -/
def lOne (a b:Int):List (Int×Int):=[(0,a),(0,b),(9,0),(32,0),(0,a),(0,b),(10,0),(32,0),(0,a),(0,b),(11,0),(32,0)]
def tOne (a b:Int):List Tok:=[.num a,.num b,.word [43],.word [46],.num a,.num b,.word [45],.word [46],.num a,.num b,.word [42],.word [46]]
def tTwo (a b:Int):List Tok:=[.num a,.num b,.word [97,110,100],.word [46],.num a,.num b,.word [111,114],.word [46],.num a,.num b,.word [120,111,114],.word [46],.num a,.word [105,110,118,101,114,116],.word [46],.num a,.word [110,101,103,97,116,101],.word [46]]
def lTwo (a b:Int):List (Int×Int):=[(0,a),(0,b),(14,0),(32,0),(0,a),(0,b),(15,0),(32,0),(0,a),(0,b),(16,0),(32,0),(0,a),(17,0),(32,0),(0,a),(18,0),(32,0)]
def tThree (a b:Int):List Tok:=[.num a,.num b,.word [61],.word [46],.num a,.num b,.word [60],.word [46],.num a,.num b,.word [115,119,97,112],.word [60],.word [46]]
def lThree (a b:Int):List (Int×Int):=[(0,a),(0,b),(19,0),(32,0),(0,a),(0,b),(20,0),(32,0),(0,a),(0,b),(23,0),(20,0),(32,0)]
def tFour (a b:Int):List Tok:=[.num a,.num b,.word [111,118,101,114],.word [111,118,101,114],.word [46],.word [46],.word [115,119,97,112],.word [46],.word [46],.num a,.num b,.num a,.word [114,111,116],.word [46],.word [46],.word [46]]
def lFour (a b:Int):List (Int×Int):=[(0,a),(0,b),(24,0),(24,0),(32,0),(32,0),(23,0),(32,0),(32,0),(0,a),(0,b),(0,a),(25,0),(32,0),(32,0),(32,0)]
def tFive (a b:Int):List Tok:=[.num a,.num b,.word [47],.word [46],.num a,.num b,.word [109,111,100],.word [46],.word [118,97,114,105,97,98,108,101],.word [118],.num a,.word [118],.word [33],.word [118],.word [64],.num b,.word [47],.word [118],.word [33],.word [118],.word [64],.word [46]]
def lFive (a b:Int):List (Int×Int):=[(0,a),(0,b),(12,0),(32,0),(0,a),(0,b),(13,0),(32,0),(0,a),(0,0),(29,0),(0,0),(30,0),(0,b),(12,0),(0,0),(29,0),(0,0),(30,0),(32,0)]
def tZero (a b:Int):List Tok:=[.word [55],.word [46],.num a,.num b,.word [47]]
def lZero (a b:Int):List (Int×Int):=[(0,7),(32,0),(0,a),(0,b),(12,0)]
set_option maxRecDepth 100000
theorem eOne (a b:Int):evR (lOne a b) ⟨[],[],List.replicate 0 0,[]⟩=some (⟨[],[],[],[twoS 9 a b,twoS 10 a b,twoS 11 a b]⟩,[]):=by kernel_rfl
theorem eTwo (a b:Int):evR (lTwo a b) ⟨[],[],List.replicate 0 0,[]⟩=some (⟨[],[],[],[twoS 14 a b,twoS 15 a b,twoS 16 a b,-1-a,wrap64 (-a)]⟩,[]):=by kernel_rfl
theorem eThree (a b:Int):evR (lThree a b) ⟨[],[],List.replicate 0 0,[]⟩=some (⟨[],[],[],[twoS 19 a b,twoS 20 a b,twoS 20 b a]⟩,[]):=by kernel_rfl
theorem eFour (a b:Int):evR (lFour a b) ⟨[],[],List.replicate 0 0,[]⟩=some (⟨[],[],[],[b,a,a,b,a,a,b]⟩,[]):=by kernel_rfl
theorem eFive (a b:Int):evR (lFive a b) ⟨[],[],List.replicate 1 0,[]⟩=some (⟨[],[],[twoS 12 a b],[twoS 12 a b,twoS 13 a b,twoS 12 a b]⟩,[b,b,b]):=by kernel_rfl
theorem aOne (a b:Int):(readT 40 (tOne a b) (startS ⟨#[]⟩)).err=0∧(readT 40 (tOne a b) (startS ⟨#[]⟩)).start=-1∧(readT 40 (tOne a b) (startS ⟨#[]⟩)).opens=[]∧(readT 40 (tOne a b) (startS ⟨#[]⟩)).c0=[]∧(readT 40 (tOne a b) (startS ⟨#[]⟩)).cells=((0:Nat):Int)∧fullS (readT 40 (tOne a b) (startS ⟨#[]⟩))=lOne a b++[(5,0)]:=⟨by kernel_rfl,by kernel_rfl,by kernel_rfl,by kernel_rfl,by kernel_rfl,by kernel_rfl⟩
theorem aTwo (a b:Int):(readT 40 (tTwo a b) (startS ⟨#[]⟩)).err=0∧(readT 40 (tTwo a b) (startS ⟨#[]⟩)).start=-1∧(readT 40 (tTwo a b) (startS ⟨#[]⟩)).opens=[]∧(readT 40 (tTwo a b) (startS ⟨#[]⟩)).c0=[]∧(readT 40 (tTwo a b) (startS ⟨#[]⟩)).cells=((0:Nat):Int)∧fullS (readT 40 (tTwo a b) (startS ⟨#[]⟩))=lTwo a b++[(5,0)]:=⟨by kernel_rfl,by kernel_rfl,by kernel_rfl,by kernel_rfl,by kernel_rfl,by kernel_rfl⟩
theorem aThree (a b:Int):(readT 40 (tThree a b) (startS ⟨#[]⟩)).err=0∧(readT 40 (tThree a b) (startS ⟨#[]⟩)).start=-1∧(readT 40 (tThree a b) (startS ⟨#[]⟩)).opens=[]∧(readT 40 (tThree a b) (startS ⟨#[]⟩)).c0=[]∧(readT 40 (tThree a b) (startS ⟨#[]⟩)).cells=((0:Nat):Int)∧fullS (readT 40 (tThree a b) (startS ⟨#[]⟩))=lThree a b++[(5,0)]:=⟨by kernel_rfl,by kernel_rfl,by kernel_rfl,by kernel_rfl,by kernel_rfl,by kernel_rfl⟩
theorem aFour (a b:Int):(readT 40 (tFour a b) (startS ⟨#[]⟩)).err=0∧(readT 40 (tFour a b) (startS ⟨#[]⟩)).start=-1∧(readT 40 (tFour a b) (startS ⟨#[]⟩)).opens=[]∧(readT 40 (tFour a b) (startS ⟨#[]⟩)).c0=[]∧(readT 40 (tFour a b) (startS ⟨#[]⟩)).cells=((0:Nat):Int)∧fullS (readT 40 (tFour a b) (startS ⟨#[]⟩))=lFour a b++[(5,0)]:=⟨by kernel_rfl,by kernel_rfl,by kernel_rfl,by kernel_rfl,by kernel_rfl,by kernel_rfl⟩
theorem aFive (a b:Int):(readT 40 (tFive a b) (startS ⟨#[]⟩)).err=0∧(readT 40 (tFive a b) (startS ⟨#[]⟩)).start=-1∧(readT 40 (tFive a b) (startS ⟨#[]⟩)).opens=[]∧(readT 40 (tFive a b) (startS ⟨#[]⟩)).c0=[]∧(readT 40 (tFive a b) (startS ⟨#[]⟩)).cells=((1:Nat):Int)∧fullS (readT 40 (tFive a b) (startS ⟨#[]⟩))=lFive a b++[(5,0)]:=⟨by kernel_rfl,by kernel_rfl,by kernel_rfl,by kernel_rfl,by kernel_rfl,by kernel_rfl⟩
theorem aZero (a b:Int):(readT 40 (tZero a b) (startS ⟨#[]⟩)).err=0∧(readT 40 (tZero a b) (startS ⟨#[]⟩)).start=-1∧(readT 40 (tZero a b) (startS ⟨#[]⟩)).opens=[]∧(readT 40 (tZero a b) (startS ⟨#[]⟩)).c0=[]∧(readT 40 (tZero a b) (startS ⟨#[]⟩)).cells=((0:Nat):Int)∧fullS (readT 40 (tZero a b) (startS ⟨#[]⟩))=lZero a b++[(5,0)]:=⟨by kernel_rfl,by kernel_rfl,by kernel_rfl,by kernel_rfl,by kernel_rfl,by kernel_rfl⟩
theorem chain3 {A0 A1 A2:ByteArray} (h0:A0.size≤60) (h1:A1.size≤60) (h2:A2.size≤60):(¬ 9223372036854775807<(A0).size+A1.size)∧(¬ 9223372036854775807<(A0++A1).size+A2.size):=by
  simp only[ByteArray.size_append]
  omega
theorem chain4 {A0 A1 A2 A3:ByteArray} (h0:A0.size≤60) (h1:A1.size≤60) (h2:A2.size≤60) (h3:A3.size≤60):(¬ 9223372036854775807<(A0).size+A1.size)∧(¬ 9223372036854775807<(A0++A1).size+A2.size)∧(¬ 9223372036854775807<(A0++A1++A2).size+A3.size):=by
  simp only[ByteArray.size_append]
  omega
theorem chain5 {A0 A1 A2 A3 A4:ByteArray} (h0:A0.size≤60) (h1:A1.size≤60) (h2:A2.size≤60) (h3:A3.size≤60) (h4:A4.size≤60):(¬ 9223372036854775807<(A0).size+A1.size)∧(¬ 9223372036854775807<(A0++A1).size+A2.size)∧(¬ 9223372036854775807<(A0++A1++A2).size+A3.size)∧(¬ 9223372036854775807<(A0++A1++A2++A3).size+A4.size):=by
  simp only[ByteArray.size_append]
  omega
theorem chain6 {A0 A1 A2 A3 A4 A5:ByteArray} (h0:A0.size≤60) (h1:A1.size≤60) (h2:A2.size≤60) (h3:A3.size≤60) (h4:A4.size≤60) (h5:A5.size≤60):(¬ 9223372036854775807<(A0).size+A1.size)∧(¬ 9223372036854775807<(A0++A1).size+A2.size)∧(¬ 9223372036854775807<(A0++A1++A2).size+A3.size)∧(¬ 9223372036854775807<(A0++A1++A2++A3).size+A4.size)∧(¬ 9223372036854775807<(A0++A1++A2++A3++A4).size+A5.size):=by
  simp only[ByteArray.size_append]
  omega
theorem chain8 {A0 A1 A2 A3 A4 A5 A6 A7:ByteArray} (h0:A0.size≤60) (h1:A1.size≤60) (h2:A2.size≤60) (h3:A3.size≤60) (h4:A4.size≤60) (h5:A5.size≤60) (h6:A6.size≤60) (h7:A7.size≤60):(¬ 9223372036854775807<(A0).size+A1.size)∧(¬ 9223372036854775807<(A0++A1).size+A2.size)∧(¬ 9223372036854775807<(A0++A1++A2).size+A3.size)∧(¬ 9223372036854775807<(A0++A1++A2++A3).size+A4.size)∧(¬ 9223372036854775807<(A0++A1++A2++A3++A4).size+A5.size)∧(¬ 9223372036854775807<(A0++A1++A2++A3++A4++A5).size+A6.size)∧(¬ 9223372036854775807<(A0++A1++A2++A3++A4++A5++A6).size+A7.size):=by
  simp only[ByteArray.size_append]
  omega
theorem chain10 {A0 A1 A2 A3 A4 A5 A6 A7 A8 A9:ByteArray} (h0:A0.size≤60) (h1:A1.size≤60) (h2:A2.size≤60) (h3:A3.size≤60) (h4:A4.size≤60) (h5:A5.size≤60) (h6:A6.size≤60) (h7:A7.size≤60) (h8:A8.size≤60) (h9:A9.size≤60):(¬ 9223372036854775807<(A0).size+A1.size)∧(¬ 9223372036854775807<(A0++A1).size+A2.size)∧(¬ 9223372036854775807<(A0++A1++A2).size+A3.size)∧(¬ 9223372036854775807<(A0++A1++A2++A3).size+A4.size)∧(¬ 9223372036854775807<(A0++A1++A2++A3++A4).size+A5.size)∧(¬ 9223372036854775807<(A0++A1++A2++A3++A4++A5).size+A6.size)∧(¬ 9223372036854775807<(A0++A1++A2++A3++A4++A5++A6).size+A7.size)∧(¬ 9223372036854775807<(A0++A1++A2++A3++A4++A5++A6++A7).size+A8.size)∧(¬ 9223372036854775807<(A0++A1++A2++A3++A4++A5++A6++A7++A8).size+A9.size):=by
  simp only[ByteArray.size_append]
  omega
theorem chain14 {A0 A1 A2 A3 A4 A5 A6 A7 A8 A9 A10 A11 A12 A13:ByteArray} (h0:A0.size≤60) (h1:A1.size≤60) (h2:A2.size≤60) (h3:A3.size≤60) (h4:A4.size≤60) (h5:A5.size≤60) (h6:A6.size≤60) (h7:A7.size≤60) (h8:A8.size≤60) (h9:A9.size≤60) (h10:A10.size≤60) (h11:A11.size≤60) (h12:A12.size≤60) (h13:A13.size≤60):(¬ 9223372036854775807<(A0).size+A1.size)∧(¬ 9223372036854775807<(A0++A1).size+A2.size)∧(¬ 9223372036854775807<(A0++A1++A2).size+A3.size)∧(¬ 9223372036854775807<(A0++A1++A2++A3).size+A4.size)∧(¬ 9223372036854775807<(A0++A1++A2++A3++A4).size+A5.size)∧(¬ 9223372036854775807<(A0++A1++A2++A3++A4++A5).size+A6.size)∧(¬ 9223372036854775807<(A0++A1++A2++A3++A4++A5++A6).size+A7.size)∧(¬ 9223372036854775807<(A0++A1++A2++A3++A4++A5++A6++A7).size+A8.size)∧(¬ 9223372036854775807<(A0++A1++A2++A3++A4++A5++A6++A7++A8).size+A9.size)∧(¬ 9223372036854775807<(A0++A1++A2++A3++A4++A5++A6++A7++A8++A9).size+A10.size)∧(¬ 9223372036854775807<(A0++A1++A2++A3++A4++A5++A6++A7++A8++A9++A10).size+A11.size)∧(¬ 9223372036854775807<(A0++A1++A2++A3++A4++A5++A6++A7++A8++A9++A10++A11).size+A12.size)∧(¬ 9223372036854775807<(A0++A1++A2++A3++A4++A5++A6++A7++A8++A9++A10++A11++A12).size+A13.size):=by
  simp only[ByteArray.size_append]
  omega
theorem digB_size (n:Int):(⟨(digitsS n).toArray⟩:ByteArray).size≤60:=by
  have h1:(⟨(digitsS n).toArray⟩:ByteArray).size=(digitsS n).length:=by simp[ByteArray.size]
  have:=digs_le n
  omega
theorem ints2 {a b:Int} (ha:inI a) (hb:inI b) {ts:List Tok} (h:ts.all (fun t=>match t with|.num k=>decide (k=a∨k=b)|.word _=>true)=true):∀ t∈ts,∀ k,t=.num k→inI k:=by
  intro t ht k hk
  have:=List.all_eq_true.1 h t ht
  subst hk
  simp only[decide_eq_true_eq]at this
  rcases this with rfl|rfl
  · exact ha
  · exact hb
theorem zero_ends (a:Int):Ends (lZero a 0++[(5,0)]) (startM 0 1000 1000 1000 1000 0 0) 5 (13,[],[],outB [7]):=by
  have h:=ends_ev (l:=lZero a 0++[(5,0)]) (r:=[(0,7),(32,0),(0,a),(0,0)]) (a:=0) (calls:=[]) (e:=⟨[],[],[],[]⟩) (e':=⟨[0,a],[],[],[7]⟩) (ds:=[]) (k:=1) (o:=(13,[],[],outB [7])) (fun i x hx=>by
    have hi:i<4:=(List.getElem?_eq_some_iff.1 hx).1
    have hi':i=0∨i=1∨i=2∨i=3:=by omega
    rcases hi' with rfl|rfl|rfl|rfl<;>exact hx) (by kernel_rfl) (by simp) ?_
  · exact h
  · have hs:=stepM_ins (l:=lZero a 0++[(5,0)]) (m:=toMS ⟨[0,a],[],[],[7]⟩ ((0+4:Nat):Int) []) (x:=(12,0)) rfl
    have hr:refusedS { toMS ⟨[0,a],[],[],[7]⟩ ((0+4:Nat):Int) [] with pc:=(toMS ⟨[0,a],[],[],[7]⟩ ((0+4:Nat):Int) []).pc+1 } 12=13:=by
      simp[refusedS,needsS,asideS,toMS,topS]
    rw[ins_base _ _ (by simp),hr,if_neg (by decide)]at hs
    have e:=Ends.err (l:=lZero a 0++[(5,0)]) (m:=toMS ⟨[0,a],[],[],[7]⟩ ((0+4:Nat):Int) []) rfl (by rw[hs];show (13:Int)≠0;decide)
    rw[hs]at e
    exact e
theorem short_obs {P:PrS} (hp:PrOk P) {k:Nat} {o:Obs} {ce n:Nat} (hce:ce≤1000) (hE:Ends P.1 (startM 0 1000 1000 1000 1000 P.2 ce) k o) (hk:k≤n) (f s:Bool):obsOf (runM (withP f false s P).1 n 0 (startM 0 1000 1000 1000 1000 (withP f false s P).2 ce))=o:=by
  have hlim:limsOk 1000 1000 1000 1000:=by unfold limsOk limOk;omega
  have e:withP false false false P=P:=rfl
  have h:=shortWith hp f false s
  rw[e]at h
  obtain⟨k',hk',hE'⟩:=h k o (startM 0 1000 1000 1000 1000 0 ce) (start_mok 0 1000 1000 1000 1000 0 ce hce hlim) rfl rfl hE
  exact (ends_run hE' n 0 (by omega)).2
theorem text_zero {a:Int} {s:ByteArray} (h:TextIs s (tZero a 0)) (hpr:PrOk (fullS (endS s),(endS s).c0.length)):(endS s).err=0∧(endS s).cells=((0:Nat):Int)∧obsOf (runM (withP true false true (fullS (endS s),(endS s).c0.length)).1 100 0 (startM 0 1000 1000 1000 1000 (withP true false true (fullS (endS s),(endS s).c0.length)).2 ((0:Nat):Int)))=(13,[],[],outB [7]):=by
  obtain⟨a1,a2,a3,a4,a5,a6⟩:=aZero a 0
  obtain⟨r1,r2,r3,r4⟩:=read_text (tZero a 0) h.oks h.ints s h.text 40 _ rfl a1 (by omega) a3
  refine⟨r1,by rw[r4,a5],?_⟩
  have hP:(fullS (endS s),(endS s).c0.length)=(lZero a 0++[(5,0)],0):=by
    rw[r2,r3,a4,a6]
    rfl
  rw[hP]at hpr ⊢
  exact short_obs (ce:=0) hpr (Nat.zero_le _) (zero_ends a) (by omega) true true
end Go.Proofs.YtmeiikjpaepogaaGreatDoor
namespace Go.Proofs.YtmeiikjpaepogaaGreatDoor
open Go Go.ChangeShapes Go.WideShapes Go.ChangeAt
theorem Tryz.wfK:Rows.reckonedRow.wf (OpenSpec.ofChange (OpenSpec.ofChange Rows.reckonedSpec).bare)=true:=by kernel_rfl
theorem Tryz.inPlaceK:(Rows.reckonedRow.inPlace == Tryz.prog.inPlace 11)=true:=by kernel_rfl
theorem Tryz.unfollowedK:(Rows.reckonedRow.unfollowed == Tryz.prog.unfollowed 11)=true:=by kernel_rfl
theorem Tryz.recursesK:(Rows.reckonedRow.recurses == Tryz.prog.recurses 11)=true:=by kernel_rfl
theorem Tryz.namedK:(Rows.reckonedRow.named == Tryz.prog.varsNamed 11)=true:=by kernel_rfl
theorem Tryz.plainKeysK:(Rows.reckonedRow.plainKeys == Tryz.prog.plainKeys)=true:=by kernel_rfl
theorem Tryz.liftedK:(Rows.reckonedRow.lifted == Tryz.prog.liftsFinal)=true:=by kernel_rfl
theorem Tryz.makeK:(Tryz.prog.make == some Rows.reckonedRow.make)=true:=by kernel_rfl
theorem Tryz.closedK:joinedFacts Tryz.prog 11 Tryz.f11 (OpenSpec.ofChange Rows.reckonedSpec).bare Rows.reckonedRow=true:=by
  unfold joinedFacts
  simp only[Bool.and_eq_true]
  refine⟨⟨⟨⟨⟨⟨⟨⟨⟨⟨⟨⟨⟨⟨⟨⟨⟨⟨⟨⟨⟨⟨⟨⟨⟨⟨⟨⟨⟨⟨⟨?_,?_⟩,?_⟩,?_⟩,?_⟩,?_⟩,?_⟩,?_⟩,?_⟩,?_⟩,?_⟩,?_⟩,?_⟩,?_⟩,?_⟩,?_⟩,?_⟩,?_⟩,?_⟩,?_⟩,?_⟩,?_⟩,?_⟩,?_⟩,?_⟩,?_⟩,?_⟩,?_⟩,?_⟩,?_⟩,?_⟩,?_⟩
  all_goals first
    | with_reducible exact Tryz.laidOut
    | with_reducible exact Tryz.mapsRowed
    | with_reducible exact Tryz.stops0
    | with_reducible exact Tryz.knobs0
    | with_reducible exact Tryz.heardC
    | with_reducible exact Tryz.mayEnterC
    | with_reducible exact Tryz.wfK
    | with_reducible exact Tryz.inPlaceK
    | with_reducible exact Tryz.unfollowedK
    | with_reducible exact Tryz.recursesK
    | with_reducible exact Tryz.namedK
    | with_reducible exact Tryz.plainKeysK
    | with_reducible exact Tryz.liftedK
    | with_reducible exact Tryz.makeK
    | as_aux_lemma=>kernel_rfl
end Go.Proofs.YtmeiikjpaepogaaGreatDoor
