/- Texts of tokens: what is read. -/
import Derived.Test.YtmeiikjpaepogaaGreatDoorE48
import Derived.Test.YtmeiikjpaepogaaGreatDoorE03
namespace Go.Proofs.YtmeiikjpaepogaaGreatDoor
open Go Go.RowKit
inductive Tok
  | word (l:List UInt8)
  | num (n:Int)
def Tok.bytes:Tok→List UInt8
  | .word l=>l
  | .num n=>digitsS n
def okTok (t:List UInt8):Prop:=t≠[]∧∀ b∈t,gapB b=false
def restT (ts:List Tok):List UInt8:=ts.flatMap (fun t=>32 :: t.bytes)
def textT:List Tok→List UInt8
  | []=>[]
  | t :: ts=>t.bytes++restT ts
structure AtT (st:RS) (ts:List Tok):Prop where
  low:st.next≤st.s.size
  rest:∃ g:List UInt8,(∀ b∈g,gapB b=true)∧st.s.data.toList.drop st.next=g++textT ts
  oks:∀ t∈ts,okTok t.bytes
theorem scan_run (s:ByteArray) (p:UInt8→Bool) (A B:List UInt8) (hA:∀ b∈A,p b=true) (hB:∀ b,B.head? = some b→p b=false):∀ (f i:Nat),s.data.toList.drop i=A++B→A.length≤f→(i≤s.size)→scan s p f i=i+A.length:=by
  induction A with
  | nil =>
    intro f i hd _ hi
    cases f with
    | zero=>rfl
    | succ f =>
      unfold scan
      by_cases h:i<s.size
      · rw[dif_pos h]
        have hl:i<s.data.toList.length:=by simpa using h
        rw[List.drop_eq_getElem_cons hl]at hd
        have hb:B.head? = some s.data.toList[i]:=by
          rw[List.nil_append]at hd
          rw[← hd]
          rfl
        have e:p s[i]=false:=hB _ (by rw[hb];simp[ByteArray.getElem_eq_getElem_data])
        rw[e]
        rfl
      · rw[dif_neg h]
        rfl
  | cons a A ih =>
    intro f i hd hf hi
    obtain⟨f,rfl⟩:∃ g,f=g+1:=⟨f-1,by simp at hf;omega⟩
    have hl:i<s.data.toList.length:=by
      refine Nat.lt_of_not_le (fun hle=>?_)
      rw[List.drop_eq_nil_of_le hle]at hd
      simp at hd
    have h:i<s.size:=by simpa using hl
    rw[List.drop_eq_getElem_cons hl,List.cons_append,List.cons.injEq]at hd
    unfold scan
    rw[dif_pos h]
    have e:p s[i]=true:=hA _ (by rw[← hd.1];simp[ByteArray.getElem_eq_getElem_data])
    rw[if_pos e,ih (fun b hb=>hA b (by simp[hb])) f (i+1) hd.2 (by simp at hf;omega) (by omega)]
    simp
    omega
theorem gap32:gapB 32=true:=by decide
theorem extract_bytes (s:ByteArray) (i:Nat) (A B:List UInt8) (h:s.data.toList.drop i=A++B):s.extract i (i+A.length)=⟨A.toArray⟩:=by
  refine ByteArray.ext ?_
  rw[ByteArray.data_extract]
  refine Array.ext' ?_
  rw[Array.toList_extract]
  simp only[List.extract_eq_take_drop]
  rw[h,show i+A.length-i=A.length by omega]
  simp
theorem step_word {st:RS} {t:List UInt8} {ts:List Tok} {g:List UInt8} (hlow:st.next≤st.s.size) (hg:∀ b∈g,gapB b=true) (hr:st.s.data.toList.drop st.next=g++(t++restT ts)) (ht:okTok t) (oks:∀ t∈ts,okTok t.bytes):(stepS st).token=⟨t.toArray⟩∧AtT (stepS st) ts∧(stepS st).place0=st.next+g.length:=by
  obtain⟨x,t',rfl⟩:∃ x t',t=x :: t':=by
    cases t with
    | nil=>exact absurd rfl ht.1
    | cons x t'=>exact⟨x,t',rfl⟩
  have hsz:st.s.data.toList.length=st.s.size:=by simp
  have hlen:st.s.size-st.next=g.length+((x :: t').length+(restT ts).length):=by
    have:=congrArg List.length hr
    rw[List.length_drop,hsz,List.length_append,List.length_append]at this
    exact this
  have h1:skipS st.s st.next=st.next+g.length:=by
    refine scan_run st.s gapB g ((x :: t')++restT ts) hg (fun b hb=>?_) _ _ hr (by omega) hlow
    simp at hb
    subst hb
    exact ht.2 _ (by simp)
  have hd2:st.s.data.toList.drop (st.next+g.length)=(x :: t')++restT ts:=by
    rw[← List.drop_drop,hr,List.drop_left]
  have h2:wordS st.s (st.next+g.length)=st.next+g.length+(x :: t').length:=by
    refine scan_run st.s (fun b=>!gapB b) (x :: t') (restT ts) (fun b hb=>by rw[ht.2 b hb];rfl) (fun b hb=>?_) _ _ hd2 (by simp at hlen ⊢;omega) (by simp at hlen;omega)
    cases ts with
    | nil=>simp[restT]at hb
    | cons u ts =>
      simp[restT]at hb
      subst hb
      decide
  unfold stepS
  rw[h1,h2]
  refine⟨extract_bytes _ _ _ _ hd2,⟨?_,?_,oks⟩,rfl⟩
  · simp at hlen ⊢
    omega
  · simp only
    rw[← List.drop_drop,hd2,List.drop_left]
    cases ts with
    | nil=>exact⟨[],by simp,rfl⟩
    | cons u ts=>exact⟨[32],by simp[gap32],rfl⟩
theorem step_end {st:RS} (h:AtT st []):(stepS st).token=⟨#[]⟩:=by
  obtain⟨g,hg,hr⟩:=h.rest
  have hlow:=h.low
  have hsz:st.s.data.toList.length=st.s.size:=by simp
  have hlen:st.s.size-st.next=g.length:=by
    have:=congrArg List.length hr
    rw[List.length_drop,hsz,List.length_append]at this
    simpa [textT] using this
  have h1:skipS st.s st.next=st.next+g.length:=scan_run st.s gapB g [] hg (by simp) _ _ hr (by omega) hlow
  have hd2:st.s.data.toList.drop (st.next+g.length)=[]++[]:=by
    rw[← List.drop_drop,hr,List.drop_left]
    rfl
  have h2:wordS st.s (st.next+g.length)=st.next+g.length+0:=scan_run st.s (fun b=>!gapB b) [] [] (by simp) (by simp) _ _ hd2 (by simp) (by omega)
  unfold stepS
  simp only
  rw[h1,h2]
  exact extract_bytes st.s (st.next+g.length) [] [] hd2
theorem step_at {st:RS} {t:Tok} {ts:List Tok} (h:AtT st (t :: ts)):(stepS st).token=⟨t.bytes.toArray⟩∧AtT (stepS st) ts:=by
  obtain⟨g,hg,hr⟩:=h.rest
  have:=step_word (g:=g) h.low hg hr (h.oks t (by simp)) (fun u hu=>h.oks u (by simp[hu]))
  exact⟨this.1,this.2.1⟩
def upR (a:RS) (s:ByteArray) (n p:Nat):RS:={ a with s:=s,next:=n,place0:=p }
theorem up_put (a:RS) (s:ByteArray) (n p:Nat) (op arg:Int):putS (upR a s n p) op arg=upR (putS a op arg) s n p:=by
  unfold putS upR
  simp only
  split<;>rfl
theorem up_tell (a:RS) (s:ByteArray) (n p k:Nat):tellS (upR a s n p) k=upR (tellS a k) s n p:=by
  unfold tellS upR
  simp only
  split<;>rfl
theorem up_open (a:RS) (s:ByteArray) (n p:Nat) (x:ByteArray×Int×Int):openS (upR a s n p) x=upR (openS a x) s n p:=rfl
theorem up_here (a:RS) (s:ByteArray) (n p:Nat):hereS (upR a s n p)=hereS a:=rfl
theorem fail_err (a:RS) (e:Int) (h:e≠0):(failS a e).err≠0:=by
  unfold failS
  split
  · exact h
  next h0=>exact h0
theorem up_close (a:RS) (s:ByteArray) (n p:Nat) (l:List (ByteArray×Int×Int)) (x:ByteArray×Int×Int) (h:(closeS a l x).err=0):closeS (upR a s n p) l x=upR (closeS a l x) s n p:=by
  have e:({ upR a s n p with opens:=l }:RS)=upR { a with opens:=l } s n p:=rfl
  unfold closeS at h ⊢
  simp only[e,up_put,up_tell,up_open,up_here]at h ⊢
  have et:(upR a s n p).token=a.token:=rfl
  rw[et]
  split
  · rfl
  next h1 =>
    rw[if_neg h1]at h
    split
    · rfl
    next h2 =>
      rw[if_neg h2]at h
      split
      · rfl
      next h3 =>
        rw[if_neg h3]at h
        split
        · rfl
        next h4 =>
          rw[if_neg h4]at h
          split
          · rfl
          next h5 =>
            rw[if_neg h5]at h
            split
            · rfl
            next h6 =>
              rw[if_neg h6]at h
              exact absurd h (fail_err a 4 (by decide))
theorem up_control (a:RS) (s:ByteArray) (n p:Nat) (h:(controlS a).err=0):controlS (upR a s n p)=upR (controlS a) s n p:=by
  unfold controlS at h ⊢
  simp only[up_put,up_open,up_here]at h ⊢
  have et:(upR a s n p).token=a.token:=rfl
  have eo:(upR a s n p).opens=a.opens:=rfl
  rw[et,eo]
  split
  · rfl
  next h1 =>
    rw[if_neg h1]at h
    split
    · rfl
    next h2 =>
      rw[if_neg h2]at h
      split
      · rfl
      next h3 =>
        rw[if_neg h3]at h
        cases hg:a.opens.getLast? with
        | none=>rw[hg]at h;exact absurd h (fail_err a 4 (by decide))
        | some x=>rw[hg]at h;exact up_close a s n p _ _ h
theorem up_element (a:RS) (s:ByteArray) (n p:Nat) (h:(elementS a).err=0):elementS (upR a s n p)=upR (elementS a) s n p:=by
  unfold elementS at h ⊢
  simp only[up_put]at h ⊢
  have et:(upR a s n p).token=a.token:=rfl
  have en:(upR a s n p).names=a.names:=rfl
  have es:(upR a s n p).start=a.start:=rfl
  rw[et,en,es]
  split
  · rfl
  next h1 =>
    rw[if_neg h1]at h
    split
    · rfl
    next h2 =>
      rw[if_neg h2]at h
      split
      · split<;>rfl
      next h3 =>
        rw[if_neg h3]at h
        split
        · rfl
        next h4 =>
          rw[if_neg h4]at h
          exact absurd h (fail_err a 2 (by decide))
theorem up_semi (a:RS) (s:ByteArray) (n p:Nat):semiS (upR a s n p)=upR (semiS a) s n p:=by
  unfold semiS
  rw[up_put]
  rfl
theorem toList_mk (l:List UInt8):(⟨l.toArray⟩:ByteArray).toList=l:=by rw[ByteArray.toList_eq]
theorem digC_toNat (k:Nat):(digC k).toNat=48+k % 10:=by
  unfold digC
  rw[UInt8.toNat_ofNat']
  omega
theorem digC_dig (k:Nat):digB (digC k)=true:=by
  unfold digB
  rw[digC_toNat]
  simp
  omega
theorem digL_dig (f:Nat):∀ k,∀ b∈digL f k,digB b=true:=by
  induction f with
  | zero=>intro k b hb;simp[digL]at hb
  | succ f ih =>
    intro k b hb
    unfold digL at hb
    split at hb
    · rcases List.mem_append.1 hb with h|h
      · exact ih _ b h
      · simp at h;subst h;exact digC_dig k
    · simp at hb;subst hb;exact digC_dig k
theorem digL_ne (f k:Nat):digL (f+1) k≠[]:=by
  unfold digL
  split<;>simp
theorem digL_val (f:Nat):∀ k,k<10 ^ f→valS (digL f k)=k:=by
  induction f with
  | zero=>intro k h;simp at h;subst h;rfl
  | succ f ih =>
    intro k h
    unfold digL
    split
    next h10 =>
      have:=ih (k / 10) (by rw[Nat.pow_succ]at h;omega)
      unfold valS at this ⊢
      rw[List.foldl_append,this]
      simp only[List.foldl_cons,List.foldl_nil]
      rw[digC_toNat]
      omega
    next h10 =>
      unfold valS
      simp only[List.foldl_cons,List.foldl_nil]
      rw[digC_toNat]
      omega
theorem dig_head {b:UInt8} (h:digB b=true):b≠45∧gapB b=false:=by
  unfold digB at h
  simp at h
  refine⟨fun e=>by rw[e]at h;simp at h,?_⟩
  unfold gapB
  simp
  refine⟨fun e=>by rw[e]at h;simp at h,fun e=>by rw[e]at h;simp at h⟩
structure NumB (T:List UInt8) (n:Int):Prop where
  shape:∃ D:List UInt8,D≠[]∧(∀ b∈D,digB b=true)∧(T=D∧(valS D:Int)=n∧valS D≤9223372036854775807∨T=45 :: D∧-(valS D:Int)=n∧valS D≤9223372036854775808)
theorem digits_num {n:Int} (h:inI n):NumB (digitsS n) n:=by
  unfold inI at h
  have hv:valS (digL 25 n.natAbs)=n.natAbs:=digL_val 25 n.natAbs (by omega)
  refine⟨digL 25 n.natAbs,digL_ne 24 _,digL_dig 25 _,?_⟩
  rw[hv]
  unfold digitsS
  split
  · exact Or.inr ⟨rfl,by omega,by omega⟩
  · exact Or.inl ⟨rfl,by omega,by omega⟩
theorem NumB.ok {T:List UInt8} {n:Int} (h:NumB T n):okTok T:=by
  obtain⟨D,h1,h2,h3⟩:=h.shape
  rcases h3 with ⟨rfl,_⟩|⟨rfl,_⟩
  · exact⟨h1,fun b hb=>(dig_head (h2 b hb)).2⟩
  · refine⟨by simp,fun b hb=>?_⟩
    rcases List.mem_cons.1 hb with rfl|hb
    · decide
    · exact (dig_head (h2 b hb)).2
theorem NumB.num {T:List UInt8} {n:Int} (h:NumB T n):numS ⟨T.toArray⟩=some n:=by
  obtain⟨D,h1,h2,h3⟩:=h.shape
  have hall:D.all digB=true:=List.all_eq_true.2 h2
  unfold numS
  rw[toList_mk]
  rcases h3 with ⟨rfl,h4,h5⟩|⟨rfl,h4,h5⟩
  · have hh:T.head?≠some 45:=by
      intro e
      exact (dig_head (h2 45 (List.mem_of_head? e))).1 rfl
    rw[if_neg hh]
    unfold numFrom
    rw[if_neg h1,hall,decide_eq_true h5]
    simp only[Bool.true_and,if_true,Option.map_some,h4]
  · rw[if_pos (show (45 :: D).head? = some 45 from rfl),List.tail_cons]
    unfold numFrom
    rw[if_neg h1,hall,decide_eq_true h5]
    simp only[Bool.true_and,if_true,Option.map_some,h4]
theorem NumB.not_word {T:List UInt8} {n:Int} (h:NumB T n) {l:List UInt8} (hl:∀ b,l.head? = some b→digB b=false∧(b=45→l=[45])):(T == l)=false:=by
  obtain⟨D,h1,h2,h3⟩:=h.shape
  rw[beq_eq_false_iff_ne]
  rintro rfl
  obtain⟨d,D',rfl⟩:∃ d D',D=d :: D':=by
    cases D with
    | nil=>exact absurd rfl h1
    | cons d D'=>exact⟨d,D',rfl⟩
  rcases h3 with ⟨rfl,_⟩|⟨rfl,_⟩
  · have:=(hl d rfl).1
    rw[h2 d (by simp)]at this
    cases this
  · have:=(hl 45 rfl).2 rfl
    simp at this
def headOk (l:List UInt8):Bool:=match l with|[]=>true|b :: r=>!digB b&&(b != 45 || r.isEmpty)
theorem headOk_all {l:List UInt8} (h:headOk l=true):∀ b,l.head? = some b→digB b=false∧(b=45→l=[45]):=by
  intro b hb
  cases l with
  | nil=>simp at hb
  | cons c r =>
    simp at hb
    subst hb
    unfold headOk at h
    simp only[Bool.and_eq_true,Bool.not_eq_true',Bool.or_eq_true,bne_iff_ne]at h
    refine⟨h.1,fun e=>?_⟩
    rcases h.2 with h2|h2
    · exact absurd e h2
    · rw[e,List.isEmpty_iff.1 h2]
theorem NumB.plain {T:List UInt8} {n:Int} (h:NumB T n):plainS ⟨T.toArray⟩=-1:=by
  unfold plainS
  have hall:∀ x∈plainWords,headOk x.1.toList=true:=by decide +kernel
  have:plainWords.find? (fun x=>x.1.toList == (⟨T.toArray⟩:ByteArray).toList)=none:=by
    rw[List.find?_eq_none]
    intro x hx
    rw[toList_mk T]
    have:=h.not_word (headOk_all (hall x hx))
    rw[beq_eq_false_iff_ne]at this
    rw[beq_iff_eq]
    exact fun e=>this e.symm
  rw[this]
theorem NumB.struct {T:List UInt8} {n:Int} (h:NumB T n):structS ⟨T.toArray⟩=false:=by
  unfold structS
  have hall:∀ x∈structWords,headOk x=true:=by decide
  rw[List.any_eq_false]
  intro x hx
  rw[toList_mk,h.not_word (headOk_all (hall x hx))]
  simp
theorem NumB.define {T:List UInt8} {n:Int} (h:NumB T n):isDefine T=false:=by
  unfold isDefine
  rw[h.not_word (headOk_all (by decide)),h.not_word (headOk_all (by decide)),h.not_word (headOk_all (by decide)),h.not_word (headOk_all (by decide))]
  rfl
theorem NumB.item {T:List UInt8} {n:Int} (h:NumB T n) {st:RS} (ht:st.token=⟨T.toArray⟩):itemS st=putS st 0 n:=by
  unfold itemS
  rw[ht,toList_mk,h.define]
  unfold isControl
  rw[h.struct]
  simp only[Bool.false_and,Bool.false_eq_true,if_false]
  unfold elementS
  rw[ht,h.plain,if_neg (by omega)]
  unfold numV
  rw[h.num]
  rfl
def readT:Nat→List Tok→RS→RS
  | 0,_,a=>{ a with err:=99 }
  | _+1,[],a=>a
  | n+1,.num k :: ts,a=>readT n ts (putS a 0 k)
  | n + 1, .word l :: ts, a =>
    if isDefine l=true∧l≠[59] then
      match ts with
      | .word t :: ts' =>
        if 0≤a.start∨a.opens≠[]∨badName { a with token:=⟨t.toArray⟩ }=true then { a with err:=3 }
        else if l=[58] then readT n ts' (colonS { a with token:=⟨t.toArray⟩ } ⟨t.toArray⟩)
        else if l=[118,97,114,105,97,98,108,101] then readT n ts' (variableS { a with token:=⟨t.toArray⟩ } ⟨t.toArray⟩)
        else { a with err:=3 }
      | _=>{ a with err:=3 }
    else if (itemS { a with token:=⟨l.toArray⟩ }).err=0 then readT n ts (itemS { a with token:=⟨l.toArray⟩ }) else { a with err:=3 }
def Sees (st a:RS):Prop:=st={ a with s:=st.s,next:=st.next,place0:=st.place0,token:=st.token }
theorem item_keep (a:RS):(itemS a).err=0→¬ (isDefine a.token.toList=true∧a.token.toList≠[59])→∀ (s:ByteArray) (n p:Nat),itemS (upR a s n p)=upR (itemS a) s n p:=by
  intro h hd s n p
  unfold itemS at h ⊢
  have et:(upR a s n p).token=a.token:=rfl
  rw[et]
  by_cases h1:isDefine a.token.toList=true
  · rw[if_pos h1]at h ⊢
    rw[if_pos h1]
    have h59:a.token.toList=[59]:=Classical.byContradiction (fun hne=>hd ⟨h1,hne⟩)
    have hb:(a.token.toList == [59])=true:=by rw[h59];rfl
    unfold defineS at h ⊢
    rw[if_pos hb]at h
    rw[et,if_pos hb,if_pos hb]
    have e1:(upR a s n p).start=a.start:=rfl
    have e2:(upR a s n p).opens=a.opens:=rfl
    rw[e1,e2]
    split
    next hc=>rw[if_pos hc]at h;exact absurd h (fail_err a 4 (by decide))
    · exact up_semi a s n p
  · rw[if_neg h1]at h ⊢
    rw[if_neg h1]
    by_cases h2:isControl a.token=true
    · rw[if_pos h2]at h ⊢
      rw[if_pos h2]
      exact up_control a s n p h
    · rw[if_neg h2]at h ⊢
      rw[if_neg h2]
      exact up_element a s n p h
theorem Sees.up {st a:RS} (h:Sees st a):st=upR { a with token:=st.token } st.s st.next st.place0:=h
theorem bad_sees {st a:RS} (h:Sees st a):badName st=badName { a with token:=st.token }:=by
  rw[h]
  rfl
theorem step_sees {st a:RS} (h:Sees st a):Sees (stepS st) a:=by
  unfold Sees stepS
  rw[h]
theorem loop_word {f:Nat} {st a':RS} {l:List UInt8} (hl:l≠[]) (ht:(stepS st).token=⟨l.toArray⟩) (he:(stepS st).err=0) (hi:Sees (itemS (stepS st)) a') (h0:a'.err=0):loopS (f+1) (stepS st)=loopS f (stepS (itemS (stepS st))):=by
  have e0:(itemS (stepS st)).err=0:=by rw[hi];exact h0
  rw[loopS]
  rw[if_neg]
  · unfold roundS
    rw[if_pos e0]
  · rw[ht,toList_mk]
    intro h
    rcases h with h|h
    · exact hl (List.isEmpty_iff.1 h)
    · exact h he
theorem read_loop (n:Nat):∀ (ts:List Tok) (a st:RS) (f:Nat),Sees st a→AtT st ts→a.err=0→(∀ t∈ts,∀ k,t=.num k→inI k)→(readT n ts a).err=0→ts.length<f→Sees (loopS f (stepS st)) (readT n ts a):=by
  induction n with
  | zero =>
    intro ts a st f _ _ _ _ h
    simp[readT]at h
  | succ n ih =>
    intro ts a st f hs hat h0 hin he hf
    obtain⟨f,rfl⟩:∃ g,f=g+1:=⟨f-1,by omega⟩
    have hse:(stepS st).err=0:=by
      have:=step_sees hs
      rw[this]
      exact h0
    cases ts with
    | nil =>
      have ht:=step_end hat
      have e:loopS (f+1) (stepS st)=stepS st:=by
        rw[loopS,if_pos (Or.inl (by rw[ht];decide +kernel))]
      rw[e]
      exact step_sees hs
    | cons t ts =>
      obtain⟨ht,hat'⟩:=step_at hat
      have hs1:=step_sees hs
      have hoks:=hat.oks t (by simp)
      have hf':ts.length<f:=by simpa using hf
      have hin':∀ t∈ts,∀ k,t=.num k→inI k:=fun u hu=>hin u (by simp[hu])
      cases t with
      | num k =>
        have hb:=digits_num (hin (.num k) (by simp) k rfl)
        have hi:=hb.item (st:=stepS st) ht
        have hsee:Sees (itemS (stepS st)) (putS a 0 k):=by
          rw[hi,hs1.up,up_put]
          unfold Sees upR
          have:putS { a with token:=(stepS st).token } 0 k={ putS a 0 k with token:=(stepS st).token }:=by
            unfold putS
            split<;>rfl
          rw[this]
        have hp0:(putS a 0 k).err=0:=by unfold putS;split<;>exact h0
        rw[loop_word hoks.1 ht hse hsee hp0]
        have hat2:AtT (itemS (stepS st)) ts:=by
          rw[hi]
          have e1:(putS (stepS st) 0 k).s=(stepS st).s:=by unfold putS;split<;>rfl
          have e2:(putS (stepS st) 0 k).next=(stepS st).next:=by unfold putS;split<;>rfl
          exact⟨by rw[e1,e2];exact hat'.low,by rw[e1,e2];exact hat'.rest,hat'.oks⟩
        exact ih ts _ _ f hsee hat2 hp0 hin' he hf'
      | word l =>
        have ht:(stepS st).token=⟨l.toArray⟩:=ht
        unfold readT at he ⊢
        by_cases hd:isDefine l=true∧l≠[59]
        · rw[if_pos hd]at he ⊢
          cases ts with
          | nil=>simp at he
          | cons u ts =>
            cases u with
            | num k=>simp at he
            | word t =>
              simp only at he ⊢
              split at he
              · simp at he
              next hc =>
                rw[if_neg hc]
                have hc1:¬ 0≤a.start:=fun h=>hc (Or.inl h)
                have hc2:a.opens=[]:=Classical.byContradiction (fun h=>hc (Or.inr (Or.inl h)))
                have hc3:badName { a with token:=⟨t.toArray⟩ }=false:=by
                  cases e:badName { a with token:=⟨t.toArray⟩ } with
                  | false=>rfl
                  | true=>exact absurd (Or.inr (Or.inr e)) hc
                obtain⟨ht2,hat2⟩:=step_at hat'
                have ht2:(stepS (stepS st)).token=⟨t.toArray⟩:=ht2
                have hs2:=step_sees hs1
                have es:(stepS st).start=a.start:=by rw[hs1]
                have eo:(stepS st).opens=a.opens:=by rw[hs1]
                have hnn:newNameS (stepS st)=stepS (stepS st):=by
                  unfold newNameS
                  rw[bad_sees hs2,ht2,hc3]
                  rfl
                have hne:(newNameS (stepS st)).err=0:=by
                  rw[hnn,hs2]
                  exact h0
                have hdef:itemS (stepS st)=if l=[58] then colonS (stepS (stepS st)) ⟨t.toArray⟩ else if l=[118,97,114,105,97,98,108,101] then variableS (stepS (stepS st)) ⟨t.toArray⟩ else constantS (stepS (stepS st)) ⟨t.toArray⟩:=by
                  unfold itemS
                  rw[ht,toList_mk,if_pos hd.1]
                  unfold defineS
                  rw[ht,toList_mk,if_neg (by rw[beq_iff_eq];exact hd.2),es,eo,if_neg (by intro h;rcases h with h|h;exact hc1 h;exact h hc2),if_neg (by rw[hne];simp),hnn,ht2]
                  simp only[beq_iff_eq]
                have hat3:∀ z:RS,z.s=(stepS (stepS st)).s→z.next=(stepS (stepS st)).next→AtT z ts:=fun z e1 e2=>⟨by rw[e1,e2];exact hat2.low,by rw[e1,e2];exact hat2.rest,hat2.oks⟩
                have hin2:∀ t∈ts,∀ k,t=.num k→inI k:=fun u hu=>hin' u (by simp[hu])
                have hf2:ts.length<f:=by simp at hf';omega
                split at he
                next hl =>
                  rw[if_pos hl]
                  rw[if_pos hl]at hdef
                  have hsee:Sees (itemS (stepS st)) (colonS { a with token:=⟨t.toArray⟩ } ⟨t.toArray⟩):=by
                    rw[hdef,hs2]
                    unfold Sees colonS
                    simp only[ht2]
                  rw[loop_word hoks.1 ht hse hsee h0]
                  exact ih ts _ _ f hsee (hat3 _ (by rw[hdef];rfl) (by rw[hdef];rfl)) h0 hin2 he hf2
                next hl =>
                  rw[if_neg hl]
                  rw[if_neg hl]at hdef
                  split at he
                  next hv =>
                    rw[if_pos hv]
                    rw[if_pos hv]at hdef
                    have hsee:Sees (itemS (stepS st)) (variableS { a with token:=⟨t.toArray⟩ } ⟨t.toArray⟩):=by
                      rw[hdef,hs2]
                      unfold Sees variableS
                      simp only[ht2]
                    rw[loop_word hoks.1 ht hse hsee h0]
                    exact ih ts _ _ f hsee (hat3 _ (by rw[hdef];rfl) (by rw[hdef];rfl)) h0 hin2 he hf2
                  · simp at he
        · rw[if_neg hd]at he ⊢
          split at he
          next hi0 =>
            rw[if_pos hi0]
            have hk:=item_keep { a with token:=⟨l.toArray⟩ } hi0 (by rw[toList_mk];exact hd)
            have hitem:itemS (stepS st)=upR (itemS { a with token:=⟨l.toArray⟩ }) (stepS st).s (stepS st).next (stepS st).place0:=by
              have e:=hs1.up
              rw[ht]at e
              have:=hk (stepS st).s (stepS st).next (stepS st).place0
              rw[← this,← e]
            have hsee:Sees (itemS (stepS st)) (itemS { a with token:=⟨l.toArray⟩ }):=by
              rw[hitem]
              rfl
            rw[loop_word hoks.1 ht hse hsee hi0]
            exact ih ts _ _ f hsee ⟨by rw[hitem];exact hat'.low,by rw[hitem];exact hat'.rest,hat'.oks⟩ hi0 hin' he hf'
          · simp at he
theorem textT_len (ts:List Tok) (h:∀ t∈ts,okTok t.bytes):ts.length≤(textT ts).length:=by
  have hr:∀ ts:List Tok,ts.length≤(restT ts).length:=by
    intro ts
    induction ts with
    | nil=>simp
    | cons t ts ih =>
      simp only[restT,List.flatMap_cons,List.length_append,List.length_cons]at ih ⊢
      omega
  cases ts with
  | nil=>simp
  | cons t ts =>
    have:=List.length_pos_iff.2 (h t (by simp)).1
    have:=hr ts
    simp only[textT,List.length_append,List.length_cons]
    omega
theorem read_text (ts:List Tok) (hok:∀ t∈ts,okTok t.bytes) (hin:∀ t∈ts,∀ k,t=.num k→inI k) (s:ByteArray) (hs:s.data.toList=textT ts) (n:Nat) (A:RS) (hA:readT n ts (startS ⟨#[]⟩)=A) (h0:A.err=0) (h1:A.start<0) (h2:A.opens=[]) :
    (endS s).err=0∧fullS (endS s)=fullS A∧(endS s).c0=A.c0∧(endS s).cells=A.cells:=by
  subst hA
  have hat:AtT (startS s) ts:=⟨Nat.zero_le _,⟨[],by simp,by simpa [startS] using hs⟩,hok⟩
  have hlen:=textT_len ts hok
  rw[← hs]at hlen
  have hsz:s.data.toList.length=s.size:=by simp
  have hp0:(stepS (startS s)).place0≤s.size-ts.length:=by
    cases ts with
    | nil =>
      have:(stepS (startS s)).place0≤s.size:=(scan_le s gapB (s.size-0) 0 (Nat.zero_le _)).2
      simpa using this
    | cons t ts =>
      have:=(step_word (st:=startS s) (g:=[]) (t:=t.bytes) (ts:=ts) (Nat.zero_le _) (by simp) (by simpa [startS,textT] using hs) (hok t (by simp)) (fun u hu=>hok u (by simp[hu]))).2.2
      rw[this]
      simp[startS]
  have hsee:=read_loop n ts (startS ⟨#[]⟩) (startS s) (fuelS (stepS (startS s))) rfl hat rfl hin h0 (by unfold fuelS;have:(stepS (startS s)).s=s:=rfl;rw[this];omega)
  have hfin:Sees (finS s) (readT n ts (startS ⟨#[]⟩)):=hsee
  have hend:endS s=finS s:=by
    unfold endS
    rw[if_neg]
    rintro ⟨_,h|h⟩
    · rw[hfin]at h
      have:0≤(readT n ts (startS ⟨#[]⟩)).start:=h
      omega
    · rw[hfin]at h
      exact h h2
  rw[hend,hfin]
  exact⟨h0,rfl,rfl,rfl⟩
structure ES where
  stack:List Int
  side:List Int
  cells:List Int
  outs:List Int
def evI (op arg:Int) (st sd ce os:List Int):Option (ES×List Int) :=
  if 100≤st.length∨100≤sd.length then none
  else if op=0 then some (⟨arg :: st,sd,ce,os⟩,[])
  else if 9≤op∧op≤20∧op≠17∧op≠18 then (match st with|b :: a :: s=>some (⟨twoS op a b :: s,sd,ce,os⟩,if op=12∨op=13 then [b] else [])|_=>none)
  else if op=17 then (match st with|a :: s=>some (⟨(-1-a) :: s,sd,ce,os⟩,[])|_=>none)
  else if op=18 then (match st with|a :: s=>some (⟨wrap64 (-a) :: s,sd,ce,os⟩,[])|_=>none)
  else if op=21 then (match st with|a :: s=>some (⟨a :: a :: s,sd,ce,os⟩,[])|_=>none)
  else if op=22 then (match st with|_ :: s=>some (⟨s,sd,ce,os⟩,[])|_=>none)
  else if op=23 then (match st with|b :: a :: s=>some (⟨a :: b :: s,sd,ce,os⟩,[])|_=>none)
  else if op=24 then (match st with|b :: a :: s=>some (⟨a :: b :: a :: s,sd,ce,os⟩,[])|_=>none)
  else if op=25 then (match st with|c :: b :: a :: s=>some (⟨a :: c :: b :: s,sd,ce,os⟩,[])|_=>none)
  else if op=26 then (match st with|a :: s=>some (⟨s,a :: sd,ce,os⟩,[])|_=>none)
  else if op=27 then (match sd with|a :: s=>some (⟨a :: st,s,ce,os⟩,[])|_=>none)
  else if op=8∨op=28 then (match sd with|a :: _=>some (⟨a :: st,sd,ce,os⟩,[])|_=>none)
  else if op=6 then (match st with|b :: a :: s=>some (⟨s,b :: a :: sd,ce,os⟩,[])|_=>none)
  else if op=29 then (match st with|k :: a :: s=>if 0≤k∧k<ce.length then some (⟨s,sd,ce.set k.toNat a,os⟩,[]) else none|_=>none)
  else if op=30 then (match st with|k :: s=>if 0≤k∧k<ce.length then some (⟨(ce[k.toNat]?.getD 0) :: s,sd,ce,os⟩,[]) else none|_=>none)
  else if op=32 then (match st with|a :: s=>if os.length<36 then some (⟨s,sd,ce,os++[a]⟩,[]) else none|_=>none)
  else none
def ev1 (x:Int×Int) (e:ES):Option (ES×List Int):=evI x.1 x.2 e.stack e.side e.cells e.outs
def outB (l:List Int):ByteArray:=l.foldl (fun o n=>o++⟨(digitsS n).toArray⟩++⟨#[32]⟩) ⟨#[]⟩
theorem outB_snoc (l:List Int) (n:Int):outB (l++[n])=outB l++⟨(digitsS n).toArray⟩++⟨#[32]⟩:=by unfold outB;rw[List.foldl_append];rfl
theorem digL_len (f k:Nat):(digL f k).length≤f:=by
  induction f generalizing k with
  | zero=>simp[digL]
  | succ f ih =>
    unfold digL
    split
    · simp;exact ih _
    · simp
theorem digs_le (n:Int):(digitsS n).length≤26:=by
  unfold digitsS
  have:=digL_len 25 n.natAbs
  split
  · simp;omega
  · omega
theorem outB_size (l:List Int):(outB l).size≤27 * l.length:=by
  have key:∀ (l:List Int) (o:ByteArray),(l.foldl (fun o n=>o++⟨(digitsS n).toArray⟩++⟨#[32]⟩) o).size≤o.size+27 * l.length:=by
    intro l
    induction l with
    | nil=>intro o;simp
    | cons n l ih =>
      intro o
      have h:=ih (o++⟨(digitsS n).toArray⟩++⟨#[32]⟩)
      rw[ByteArray.size_append,ByteArray.size_append]at h
      have h1:(⟨(digitsS n).toArray⟩:ByteArray).size=(digitsS n).length:=by simp[ByteArray.size]
      have h2:(⟨#[32]⟩:ByteArray).size=1:=rfl
      have h3:=digs_le n
      rw[h1,h2]at h
      rw[List.foldl_cons,List.length_cons]
      omega
  have:=key l ⟨#[]⟩
  have h0:(⟨#[]⟩:ByteArray).size=0:=rfl
  unfold outB
  omega
def toMS (e:ES) (pc:Int) (calls:List Int):MS:=⟨0,1000,1000,1000,1000,e.stack.reverse,e.side.reverse,calls,e.cells,outB e.outs,pc,false,[]⟩
theorem ins_do {x:Int×Int} {m:MS} (hx:0≤x.1∧x.1≤32) (h:refusedS m x.1=0):insX x m=(doS m x.1 x.2,0):=by rw[ins_base x m hx,if_pos h]
theorem ref_es {op:Int} {m:MS} (hs:(needsS op).1≤(m.stack.length:Int)) (hr:(m.stack.length:Int)+(needsS op).2≤m.ls∨(needsS op).2≤0) (hx:extraS m op=0):refusedS m op=0:=by
  have e:refusedS m op=if (m.stack.length:Int)<(needsS op).1 then 7 else if 0<(needsS op).2∧m.ls<m.stack.length+(needsS op).2 then 8 else extraS m op:=rfl
  rw[e,if_neg (by omega),if_neg (by omega),hx]
theorem ins_dot {a arg:Int} {s sd ce os:List Int} {pc:Int} {calls:List Int} (h:(outB os).size+27≤1000):insX (32,arg) (toMS ⟨a :: s,sd,ce,os⟩ pc calls)=(toMS ⟨s,sd,ce,os++[a]⟩ pc calls,0):=by
  have ht:topS (toMS ⟨a :: s,sd,ce,os⟩ pc calls)=a:=by
    show topL ((a :: s).reverse)=a
    rw[List.reverse_cons,topL_snoc]
  have hdl:=digs_le a
  rw[ins_do (by simp) (ref_es (by simp[needsS,toMS];omega) (Or.inr (by dsimp only;decide)) (by unfold extraS;rw[ht];simp[asideS,toMS];omega))]
  have e:doS (toMS ⟨a :: s,sd,ce,os⟩ pc calls) 32 arg={ toMS ⟨a :: s,sd,ce,os⟩ pc calls with stack:=(s.reverse++[a]).dropLast,out:=outB os++⟨(digitsS (topL (s.reverse++[a]))).toArray⟩++⟨#[32]⟩ }:=by simp[doS,toMS]
  simp only
  rw[e,List.dropLast_concat,topL_snoc]
  simp[toMS,outB_snoc]
theorem ev1_ok {x:Int×Int} {e e':ES} {ds:List Int} (h:ev1 x e=some (e',ds)) (hd:∀ d∈ds,d≠0) (pc:Int) (calls:List Int):(0≤x.1∧x.1≤32∧plainOp x.1)∧insX x (toMS e pc calls)=(toMS e' pc calls,0):=by
  obtain⟨op,arg⟩:=x
  obtain⟨st,sd,ce,os⟩:=e
  replace h:evI op arg st sd ce os=some (e',ds):=h
  unfold evI at h
  by_cases hlim:100≤st.length∨100≤sd.length
  · rw[if_pos hlim]at h
    cases h
  rw[if_neg hlim]at h
  have hl1:st.length<100:=by omega
  have hl2:sd.length<100:=by omega
  have hob:=outB_size os
  by_cases h0:op=0
  · rw[if_pos h0]at h
    subst h0
    simp only[Option.some.injEq,Prod.mk.injEq]at h
    obtain⟨rfl,rfl⟩:=h
    refine⟨by unfold plainOp;simp,?_⟩
    rw[ins_do (by simp) (ref_es (by simp[needsS]) (Or.inl (by simp[needsS,toMS];omega)) (tame_extra _ 0 (Or.inl rfl)))]
    simp[toMS,doY_lit]
  rw[if_neg h0]at h
  by_cases h9:9≤op∧op≤20∧op≠17∧op≠18
  · rw[if_pos h9]at h
    split at h
    next b a s =>
      simp only[Option.some.injEq,Prod.mk.injEq]at h
      obtain⟨rfl,rfl⟩:=h
      refine⟨by unfold plainOp;simp only;omega,?_⟩
      have hstk:(toMS ⟨b :: a :: s,sd,ce,os⟩ pc calls).stack=s.reverse++[a]++[b]:=by simp[toMS]
      have hn2:=needs_two h9
      have hn:(needsS op).2≤0:=by
        have hop:op=9∨op=10∨op=11∨op=12∨op=13∨op=14∨op=15∨op=16∨op=19∨op=20:=by omega
        rcases hop with rfl|rfl|rfl|rfl|rfl|rfl|rfl|rfl|rfl|rfl<;>decide
      have hx:extraS (toMS ⟨b :: a :: s,sd,ce,os⟩ pc calls) op=0:=by
        by_cases h12:op=12∨op=13
        · have hb:b≠0:=hd b (by rw[if_pos h12];simp)
          have ht:topS (toMS ⟨b :: a :: s,sd,ce,os⟩ pc calls)=b:=by
            show topL _=b
            rw[hstk,topL_snoc]
          unfold extraS
          rw[ht]
          rcases h12 with rfl|rfl<;>simp[asideS,hb,toMS]<;>omega
        · exact tame_extra _ op (by unfold tameOp;omega)
      rw[ins_do (by simp only;omega) (ref_es (by rw[hstk,hn2];simp;omega) (Or.inr hn) hx)]
      simp only
      rw[do_two _ op arg h9 hstk]
      simp[toMS]
    · cases h
  rw[if_neg h9]at h
  by_cases h17:op=17
  · rw[if_pos h17]at h
    subst h17
    split at h
    next a s =>
      simp only[Option.some.injEq,Prod.mk.injEq]at h
      obtain⟨rfl,rfl⟩:=h
      refine⟨by unfold plainOp;simp,?_⟩
      rw[ins_do (by simp) (ref_es (by simp[needsS,toMS];omega) (Or.inr (by dsimp only;decide)) (tame_extra _ 17 (by unfold tameOp;simp)))]
      have:=doS_arg (toMS ⟨a :: s,sd,ce,os⟩ pc calls) 17 arg 0 (by decide) (by decide)
      simp only
      rw[this,do_inv _ (t:=s.reverse) (a:=a) (by simp[toMS])]
      simp[toMS]
    · cases h
  rw[if_neg h17]at h
  by_cases h18:op=18
  · rw[if_pos h18]at h
    subst h18
    split at h
    next a s =>
      simp only[Option.some.injEq,Prod.mk.injEq]at h
      obtain⟨rfl,rfl⟩:=h
      refine⟨by unfold plainOp;simp,?_⟩
      rw[ins_do (by simp) (ref_es (by simp[needsS,toMS];omega) (Or.inr (by dsimp only;decide)) (tame_extra _ 18 (by unfold tameOp;simp)))]
      have:=doS_arg (toMS ⟨a :: s,sd,ce,os⟩ pc calls) 18 arg 0 (by decide) (by decide)
      simp only
      rw[this,do_neg _ (t:=s.reverse) (a:=a) (by simp[toMS])]
      simp[toMS]
    · cases h
  rw[if_neg h18]at h
  by_cases h21:op=21
  · rw[if_pos h21]at h
    subst h21
    split at h
    next a s =>
      simp only[Option.some.injEq,Prod.mk.injEq]at h
      obtain⟨rfl,rfl⟩:=h
      refine⟨by unfold plainOp;simp,?_⟩
      rw[ins_do (by simp) (ref_es (by simp[needsS,toMS];omega) (Or.inl (by simp[needsS,toMS]at hl1 ⊢;omega)) (tame_extra _ 21 (by unfold tameOp;simp)))]
      have:=doS_arg (toMS ⟨a :: s,sd,ce,os⟩ pc calls) 21 arg 0 (by decide) (by decide)
      simp only
      rw[this,do_dup _ (t:=s.reverse) (a:=a) (by simp[toMS])]
      simp[toMS]
    · cases h
  rw[if_neg h21]at h
  by_cases h22:op=22
  · rw[if_pos h22]at h
    subst h22
    split at h
    next a s =>
      simp only[Option.some.injEq,Prod.mk.injEq]at h
      obtain⟨rfl,rfl⟩:=h
      refine⟨by unfold plainOp;simp,?_⟩
      rw[ins_do (by simp) (ref_es (by simp[needsS,toMS];omega) (Or.inr (by dsimp only;decide)) (tame_extra _ 22 (by unfold tameOp;simp)))]
      have:=doS_arg (toMS ⟨a :: s,sd,ce,os⟩ pc calls) 22 arg 0 (by decide) (by decide)
      simp only
      rw[this,do_drop _ (t:=s.reverse) (a:=a) (by simp[toMS])]
      simp[toMS]
    · cases h
  rw[if_neg h22]at h
  by_cases h23:op=23
  · rw[if_pos h23]at h
    subst h23
    split at h
    next b a s =>
      simp only[Option.some.injEq,Prod.mk.injEq]at h
      obtain⟨rfl,rfl⟩:=h
      refine⟨by unfold plainOp;simp,?_⟩
      rw[ins_do (by simp) (ref_es (by simp[needsS,toMS];omega) (Or.inr (by dsimp only;decide)) (tame_extra _ 23 (by unfold tameOp;simp)))]
      have:=doS_arg (toMS ⟨b :: a :: s,sd,ce,os⟩ pc calls) 23 arg 0 (by decide) (by decide)
      simp only
      rw[this,do_swap _ (t:=s.reverse) (a:=a) (b:=b) (by simp[toMS])]
      simp[toMS]
    · cases h
  rw[if_neg h23]at h
  by_cases h24:op=24
  · rw[if_pos h24]at h
    subst h24
    split at h
    next b a s =>
      simp only[Option.some.injEq,Prod.mk.injEq]at h
      obtain⟨rfl,rfl⟩:=h
      refine⟨by unfold plainOp;simp,?_⟩
      rw[ins_do (by simp) (ref_es (by simp[needsS,toMS];omega) (Or.inl (by simp[needsS,toMS]at hl1 ⊢;omega)) (tame_extra _ 24 (by unfold tameOp;simp)))]
      have:=doS_arg (toMS ⟨b :: a :: s,sd,ce,os⟩ pc calls) 24 arg 0 (by decide) (by decide)
      simp only
      rw[this,do_over _ (t:=s.reverse) (a:=a) (b:=b) (by simp[toMS])]
      simp[toMS]
    · cases h
  rw[if_neg h24]at h
  by_cases h25:op=25
  · rw[if_pos h25]at h
    subst h25
    split at h
    next c b a s =>
      simp only[Option.some.injEq,Prod.mk.injEq]at h
      obtain⟨rfl,rfl⟩:=h
      refine⟨by unfold plainOp;simp,?_⟩
      rw[ins_do (by simp) (ref_es (by simp[needsS,toMS];omega) (Or.inr (by dsimp only;decide)) (tame_extra _ 25 (by unfold tameOp;simp)))]
      have:=doS_arg (toMS ⟨c :: b :: a :: s,sd,ce,os⟩ pc calls) 25 arg 0 (by decide) (by decide)
      simp only
      rw[this,do_rot _ (t:=s.reverse) (a:=a) (b:=b) (c:=c) (by simp[toMS])]
      simp[toMS]
    · cases h
  rw[if_neg h25]at h
  by_cases h26:op=26
  · rw[if_pos h26]at h
    subst h26
    split at h
    next a s =>
      simp only[Option.some.injEq,Prod.mk.injEq]at h
      obtain⟨rfl,rfl⟩:=h
      refine⟨by unfold plainOp;simp,?_⟩
      rw[ins_do (by simp) (ref_es (by simp[needsS,toMS];omega) (Or.inr (by dsimp only;decide)) (by unfold extraS;simp[asideS,toMS];omega))]
      have e:doS (toMS ⟨a :: s,sd,ce,os⟩ pc calls) 26 arg={ toMS ⟨a :: s,sd,ce,os⟩ pc calls with stack:=(s.reverse++[a]).dropLast,side:=sd.reverse++[topL (s.reverse++[a])] }:=by simp[doS,toMS]
      simp only
      rw[e,List.dropLast_concat,topL_snoc]
      simp[toMS]
    · cases h
  rw[if_neg h26]at h
  by_cases h27:op=27
  · rw[if_pos h27]at h
    subst h27
    split at h
    next a s =>
      simp only[Option.some.injEq,Prod.mk.injEq]at h
      obtain⟨rfl,rfl⟩:=h
      refine⟨by unfold plainOp;simp,?_⟩
      rw[ins_do (by simp) (ref_es (by simp[needsS]) (Or.inl (by simp[needsS,toMS];omega)) (by unfold extraS;simp[asideS,toMS];omega))]
      have e:doS (toMS ⟨st,a :: s,ce,os⟩ pc calls) 27 arg={ toMS ⟨st,a :: s,ce,os⟩ pc calls with stack:=st.reverse++[topL (s.reverse++[a])],side:=(s.reverse++[a]).dropLast }:=by simp[doS,toMS]
      simp only
      rw[e,List.dropLast_concat,topL_snoc]
      simp[toMS]
    · cases h
  rw[if_neg h27]at h
  by_cases h8:op=8∨op=28
  · rw[if_pos h8]at h
    split at h
    next a s =>
      simp only[Option.some.injEq,Prod.mk.injEq]at h
      obtain⟨rfl,rfl⟩:=h
      refine⟨by unfold plainOp;simp only;omega,?_⟩
      have hr:refusedS (toMS ⟨st,a :: s,ce,os⟩ pc calls) op=0:=by
        rcases h8 with rfl|rfl
        · exact ref_es (by simp[needsS]) (Or.inl (by simp[needsS,toMS];omega)) (by unfold extraS;simp[asideS,toMS];omega)
        · exact ref_es (by simp[needsS]) (Or.inl (by simp[needsS,toMS];omega)) (by unfold extraS;simp[asideS,toMS];omega)
      rw[ins_do (by simp only;omega) hr]
      have e:doS (toMS ⟨st,a :: s,ce,os⟩ pc calls) op arg={ toMS ⟨st,a :: s,ce,os⟩ pc calls with stack:=st.reverse++[topL (s.reverse++[a])] }:=by
        rcases h8 with rfl|rfl<;>simp[doS,toMS]
      simp only
      rw[e,topL_snoc]
      simp[toMS]
    · cases h
  rw[if_neg h8]at h
  by_cases h6:op=6
  · rw[if_pos h6]at h
    subst h6
    split at h
    next b a s =>
      simp only[Option.some.injEq,Prod.mk.injEq]at h
      obtain⟨rfl,rfl⟩:=h
      refine⟨by unfold plainOp;simp,?_⟩
      rw[ins_do (by simp) (ref_es (by simp[needsS,toMS];omega) (Or.inr (by dsimp only;decide)) (by unfold extraS;simp[asideS,toMS];omega))]
      have e:doS (toMS ⟨b :: a :: s,sd,ce,os⟩ pc calls) 6 arg={ toMS ⟨b :: a :: s,sd,ce,os⟩ pc calls with stack:=(s.reverse++[a]++[b]).dropLast.dropLast,side:=sd.reverse++[topL (s.reverse++[a]++[b]).dropLast,topL (s.reverse++[a]++[b])] }:=by simp[doS,toMS]
      simp only
      rw[e,List.dropLast_concat,List.dropLast_concat,topL_snoc,topL_snoc]
      simp[toMS]
    · cases h
  rw[if_neg h6]at h
  by_cases h29:op=29
  · rw[if_pos h29]at h
    subst h29
    split at h
    next k a s =>
      split at h
      next hk =>
        simp only[Option.some.injEq,Prod.mk.injEq]at h
        obtain⟨rfl,rfl⟩:=h
        refine⟨by unfold plainOp;simp,?_⟩
        have ht:topS (toMS ⟨k :: a :: s,sd,ce,os⟩ pc calls)=k:=by
          show topL ((k :: a :: s).reverse)=k
          rw[List.reverse_cons,topL_snoc]
        rw[ins_do (by simp) (ref_es (by simp[needsS,toMS];omega) (Or.inr (by dsimp only;decide)) (by unfold extraS;rw[ht];simp[asideS,toMS];omega))]
        have e:doS (toMS ⟨k :: a :: s,sd,ce,os⟩ pc calls) 29 arg={ toMS ⟨k :: a :: s,sd,ce,os⟩ pc calls with stack:=(s.reverse++[a]++[k]).dropLast.dropLast,cells:=ce.set (topL (s.reverse++[a]++[k])).toNat (topL (s.reverse++[a]++[k]).dropLast) }:=by simp[doS,toMS]
        simp only
        rw[e,List.dropLast_concat,List.dropLast_concat,topL_snoc,topL_snoc]
        simp[toMS]
      · cases h
    · cases h
  rw[if_neg h29]at h
  by_cases h30:op=30
  · rw[if_pos h30]at h
    subst h30
    split at h
    next k s =>
      split at h
      next hk =>
        simp only[Option.some.injEq,Prod.mk.injEq]at h
        obtain⟨rfl,rfl⟩:=h
        refine⟨by unfold plainOp;simp,?_⟩
        have ht:topS (toMS ⟨k :: s,sd,ce,os⟩ pc calls)=k:=by
          show topL ((k :: s).reverse)=k
          rw[List.reverse_cons,topL_snoc]
        rw[ins_do (by simp) (ref_es (by simp[needsS,toMS];omega) (Or.inr (by dsimp only;decide)) (by unfold extraS;rw[ht];simp[asideS,toMS];omega))]
        have e:doS (toMS ⟨k :: s,sd,ce,os⟩ pc calls) 30 arg={ toMS ⟨k :: s,sd,ce,os⟩ pc calls with stack:=(s.reverse++[k]).dropLast++[ce[(topL (s.reverse++[k])).toNat]?.getD 0] }:=by simp[doS,toMS]
        simp only
        rw[e,List.dropLast_concat,topL_snoc]
        simp[toMS]
      · cases h
    · cases h
  rw[if_neg h30]at h
  by_cases h32:op=32
  · rw[if_pos h32]at h
    subst h32
    split at h
    next a s =>
      split at h
      next hl3 =>
        simp only[Option.some.injEq,Prod.mk.injEq]at h
        obtain⟨rfl,rfl⟩:=h
        exact⟨by unfold plainOp;simp,ins_dot (by omega)⟩
      · cases h
    · cases h
  · rw[if_neg h32]at h
    cases h
end Go.Proofs.YtmeiikjpaepogaaGreatDoor
