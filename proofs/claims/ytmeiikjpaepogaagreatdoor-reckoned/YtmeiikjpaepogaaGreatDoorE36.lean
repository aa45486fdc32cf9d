/- The program's options: plain: Fold makes programs of programs. -/
import Derived.Test.YtmeiikjpaepogaaGreatDoorE35
namespace Go.Proofs.YtmeiikjpaepogaaGreatDoor
open Go Go.RowKit
def FirstsOk (bs:List Blo):Prop:=∀ i b,bs[i]? = some b→b.1=((bs.take i).flatMap (·.2)).length
theorem firsts_snoc {bs:List Blo} {b:Blo} (h:FirstsOk bs) (hb:b.1=(bs.flatMap (·.2)).length):FirstsOk (bs++[b]):=by
  intro i c hc
  by_cases hi:i<bs.length
  · rw[List.getElem?_append_left hi]at hc
    rw[List.take_append_of_le_length (by omega)]
    exact h i c hc
  · have e:i=bs.length:=by
      have:=(List.getElem?_eq_some_iff.1 hc).1
      simp at this
      omega
    subst e
    simp at hc
    subst hc
    simp only[List.take_left']
    exact hb
theorem firsts_init {bs:List Blo} {b:Blo} (h:FirstsOk (bs++[b])):FirstsOk bs∧b.1=(bs.flatMap (·.2)).length:=by
  refine⟨fun i c hc=>?_,?_⟩
  · have hi:=(List.getElem?_eq_some_iff.1 hc).1
    have:=h i c (by rw[List.getElem?_append_left hi];exact hc)
    rw[List.take_append_of_le_length (by omega)]at this
    exact this
  · have:=h bs.length b (by simp)
    simpa using this
theorem addLast_firsts {bs:List Blo} {x:Int×Int} (h:FirstsOk bs):FirstsOk (addLast bs x):=by
  rcases List.eq_nil_or_concat bs with rfl|⟨t,c,rfl⟩
  · simpa [addLast] using h
  · rw[List.concat_eq_append]at h ⊢
    rw[addLast_snoc]
    obtain⟨h1,h2⟩:=firsts_init h
    exact firsts_snoc h1 h2
theorem blkTo_firsts (l:List (Int×Int)) (beg:List Bool) (h0:beg.getD 0 false=true) (k:Nat) (hk:k≤l.length):FirstsOk (blkTo l beg k):=by
  induction k with
  | zero=>intro i b hb;simp[blkTo]at hb
  | succ k ih =>
    have ih:=ih (by omega)
    obtain⟨x,hx⟩:∃ x,l[k]? = some x:=⟨_,List.getElem?_eq_getElem (by omega)⟩
    have e:blkTo l beg (k+1)=blkStep (blkTo l beg k) (beg.getD k false) k x:=by rw[blkTo,hx]
    rw[e]
    unfold blkStep
    refine addLast_firsts ?_
    split
    · refine firsts_snoc ih ?_
      rw[(blkTo_fine l beg h0 k (by omega)).flat,List.length_take]
      simp only
      omega
    · exact ih
theorem addLast_has {bs:List Blo} {x:Int×Int} {j:Nat} (h:∃ b∈bs,b.1=j):∃ b∈addLast bs x,b.1=j:=by
  rcases List.eq_nil_or_concat bs with rfl|⟨t,c,rfl⟩
  · simp at h
  · rw[List.concat_eq_append]at h ⊢
    rw[addLast_snoc]
    obtain⟨b,hb,rfl⟩:=h
    rcases List.mem_append.1 hb with h1|h1
    · exact⟨b,by simp[h1],rfl⟩
    · simp at h1
      subst h1
      exact⟨_,List.mem_append.2 (Or.inr (List.mem_singleton.2 rfl)),rfl⟩
theorem blkTo_has (l:List (Int×Int)) (beg:List Bool) (k j:Nat) (hk:k≤l.length) (hj:j<k) (hb:beg.getD j false=true):∃ b∈blkTo l beg k,b.1=j:=by
  induction k with
  | zero=>omega
  | succ k ih =>
    obtain⟨x,hx⟩:∃ x,l[k]? = some x:=⟨_,List.getElem?_eq_getElem (by omega)⟩
    have e:blkTo l beg (k+1)=blkStep (blkTo l beg k) (beg.getD k false) k x:=by rw[blkTo,hx]
    rw[e]
    unfold blkStep
    refine addLast_has ?_
    by_cases hjk:j=k
    · subst hjk
      rw[if_pos hb]
      exact⟨(j,[]),by simp,rfl⟩
    · obtain⟨b,h1,h2⟩:=ih (by omega) (by omega)
      split
      · exact⟨b,List.mem_append.2 (Or.inl h1),h2⟩
      · exact⟨b,h1,h2⟩
theorem numFold_get (bs cs:List Blo) (s:List Int×Int) (n:Nat) (hs:s.1.length=n) (hlow:∀ b∈bs,b.1<n) (hd:bs.Pairwise (fun a b=>a.1≠b.1)) (i:Nat) (b:Blo) (hb:bs[i]? = some b) (hc:cs=bs.take i) :
    (bs.foldl numStep s).1[b.1]? = some (s.2+((cs.flatMap (·.2)).length:Nat)):=by
  subst hc
  induction bs generalizing s i with
  | nil=>simp at hb
  | cons a bs ih =>
    rw[List.foldl_cons]
    have hd2:=List.pairwise_cons.1 hd
    cases i with
    | zero =>
      simp at hb
      subst hb
      have keep:∀ (cs:List Blo) (t:List Int×Int) (v:Int),(∀ c∈cs,c.1≠a.1)→t.1[a.1]? = some v→(cs.foldl numStep t).1[a.1]? = some v:=by
        intro cs
        induction cs with
        | nil=>intro t v _ h;exact h
        | cons c cs ih2 =>
          intro t v hne h
          rw[List.foldl_cons]
          refine ih2 _ v (fun d hd=>hne d (by simp[hd])) ?_
          simp only[numStep]
          rw[List.getElem?_set_ne (hne c (by simp))]
          exact h
      refine keep bs _ _ (fun c hc=>(hd2.1 c hc).symm) ?_
      simp only[numStep]
      rw[List.getElem?_set_self (by rw[hs];exact hlow a (by simp))]
      simp
    | succ i =>
      have:=ih (numStep s a) (by simp[numStep,hs]) (fun c hc=>hlow c (by simp[hc])) hd2.2 i (by simpa using hb)
      rw[this]
      rw[List.take_succ_cons,List.flatMap_cons,List.length_append]
      simp only[numStep]
      congr 1
      omega
theorem set_true_mono (b:List Bool) (i j:Nat) (h:b.getD j false=true):(b.set i true).getD j false=true:=by
  rw[List.getD_eq_getElem?_getD]at h ⊢
  by_cases e:i=j
  · subst e
    have hl:i<b.length:=by
      refine Nat.lt_of_not_le (fun hn=>?_)
      rw[List.getElem?_eq_none hn]at h
      simp at h
    rw[List.getElem?_set_self hl]
    rfl
  · rw[List.getElem?_set_ne e]
    exact h
theorem set_true_here (b:List Bool) (i:Nat) (h:i<b.length):(b.set i true).getD i false=true:=by
  rw[List.getD_eq_getElem?_getD,List.getElem?_set_self h]
  rfl
theorem begStep_mono (b:List Bool) (i:Nat) (x:Int×Int) (j:Nat) (h:b.getD j false=true):(begStep b i x).getD j false=true:=by
  unfold begStep
  simp only
  split<;>split
  · exact set_true_mono _ _ _ (set_true_mono _ _ _ h)
  · exact set_true_mono _ _ _ h
  · exact set_true_mono _ _ _ h
  · exact h
theorem begTo_mono (l:List (Int×Int)) (en k m j:Nat) (hkm:k≤m) (h:(begTo l en k).getD j false=true):(begTo l en m).getD j false=true:=by
  induction m with
  | zero =>
    obtain rfl:k=0:=by omega
    exact h
  | succ m ih =>
    by_cases e:k=m+1
    · subst e;exact h
    · have:=ih (by omega)
      unfold begTo
      split
      · exact begStep_mono _ _ _ _ this
      · exact this
theorem begS_entry (l:List (Int×Int)) (en:Nat) (h:en<l.length):(begS l en).getD en false=true:=by
  refine begTo_mono l en 0 l.length en (Nat.zero_le _) ?_
  unfold begTo
  exact set_true_here _ _ (by simp;omega)
theorem begS_target (l:List (Int×Int)) (en:Nat) (x:Int×Int) (hx:x∈l) (hn:namesS x.1=true) (hr:0≤x.2∧x.2<l.length):(begS l en).getD x.2.toNat false=true:=by
  obtain⟨k,hk⟩:=List.getElem?_of_mem hx
  have hkl:=(List.getElem?_eq_some_iff.1 hk).1
  refine begTo_mono l en (k+1) l.length _ (by omega) ?_
  have e:begTo l en (k+1)=begStep (begTo l en k) k x:=by rw[begTo,hk]
  rw[e]
  unfold begStep
  simp only[hn,if_true,true_or]
  refine set_true_mono _ _ _ (set_true_here _ _ ?_)
  rw[begTo_len]
  omega
theorem begS_after (l:List (Int×Int)) (en k:Nat) (x:Int×Int) (hk:l[k]? = some x) (hn:namesS x.1=true∨goesS x.1=false):(begS l en).getD (k+1) false=true:=by
  have hkl:=(List.getElem?_eq_some_iff.1 hk).1
  refine begTo_mono l en (k+1) l.length _ (by omega) ?_
  have e:begTo l en (k+1)=begStep (begTo l en k) k x:=by rw[begTo,hk]
  rw[e]
  unfold begStep
  simp only
  have hc:namesS x.1=true∨(x.1=1∨x.1=4∨x.1=5):=by
    rcases hn with h|h
    · exact Or.inl h
    · refine Or.inr ?_
      unfold goesS at h
      rw[Bool.not_eq_false']at h
      exact of_decide_eq_true h
  rw[if_pos hc]
  refine set_true_here _ _ ?_
  split
  · rw[List.length_set,begTo_len];omega
  · rw[begTo_len];omega
theorem listTo_flat (nums:List Int) (bs:List Blo):listTo nums bs bs.length=(bs.flatMap (·.2)).map (renS nums):=by
  unfold listTo
  rw[List.take_length]
  induction bs with
  | nil=>rfl
  | cons b bs ih=>rw[List.flatMap_cons,List.flatMap_cons,List.map_append,ih];rfl
theorem firsts_apart {bs:List Blo} (h:FirstsOk bs) (hf:∀ b∈bs,b.2≠[]):bs.Pairwise (fun a b=>a.1≠b.1):=by
  rw[List.pairwise_iff_getElem]
  intro i j hi hj hij
  have h1:=h i bs[i] (List.getElem?_eq_getElem hi)
  have h2:=h j bs[j] (List.getElem?_eq_getElem hj)
  have h3:((bs.take i).flatMap (·.2)).length<((bs.take j).flatMap (·.2)).length:=by
    have e:bs.take j=bs.take i++(bs.drop i).take (j-i):=by
      rw[← List.take_add]
      congr 1
      omega
    rw[e,List.flatMap_append,List.length_append]
    have hne:(bs.drop i).take (j-i)=bs[i] :: (bs.drop (i+1)).take (j-i-1):=by
      rw[List.drop_eq_getElem_cons hi]
      obtain⟨d,hd⟩:∃ d,j-i=d+1:=⟨j-i-1,by omega⟩
      rw[hd,List.take_succ_cons]
      rfl
    rw[hne,List.flatMap_cons,List.length_append]
    have:=List.length_pos_iff.2 (hf bs[i] (List.getElem_mem hi))
    omega
  omega
def Live (bs cs:List Blo) (t:Int):Prop:=∃ (i j:Nat) (b c:Blo),bs[i]? = some b∧(b.1:Int)=t∧i≤j∧cs[j]? = some c∧c.2≠[]
theorem join_num {l:List (Int×Int)} {bs:List Blo} {f:Blo→Blo} (hf:∀ b,(f b).1=b.1) (h1:FirstsOk bs) (h2:∀ b∈bs,b.2≠[]) (h3:∀ b∈bs,b.1<l.length) {t:Int} (ht:Live bs (bs.map f) t) :
    0≤(numsTo (bs.map f) l.length (bs.map f).length).1.getD t.toNat 0∧(numsTo (bs.map f) l.length (bs.map f).length).1.getD t.toNat 0<(((bs.map f).flatMap (·.2)).length:Nat):=by
  obtain⟨i,j,b,c,hb,rfl,hij,hc,hne⟩:=ht
  have hap:(bs.map f).Pairwise (fun a b=>a.1≠b.1):=by
    rw[List.pairwise_map]
    exact (firsts_apart h1 h2).imp (fun h=>by rw[hf,hf];exact h)
  have hbi:(bs.map f)[i]? = some (f b):=by rw[List.getElem?_map,hb];rfl
  have:=numFold_get (bs.map f) ((bs.map f).take i) (List.replicate l.length 0,0) l.length (by simp) (fun c hc=>by
    obtain⟨d,hd,rfl⟩:=List.mem_map.1 hc
    rw[hf]
    exact h3 d hd) hap i (f b) hbi rfl
  unfold numsTo
  rw[List.take_length]
  rw[hf]at this
  rw[Int.toNat_natCast,List.getD_eq_getElem?_getD,this]
  simp only[Option.getD_some]
  have hlt:(((bs.map f).take i).flatMap (·.2)).length<((bs.map f).flatMap (·.2)).length:=by
    have hj:=(List.getElem?_eq_some_iff.1 hc).1
    have e:bs.map f=(bs.map f).take j++c :: (bs.map f).drop (j+1):=by
      have e1:=List.drop_eq_getElem_cons hj
      have e2:=(List.getElem?_eq_some_iff.1 hc).2
      rw[e2]at e1
      rw[← e1,List.take_append_drop]
    have e3:(((bs.map f).take i).flatMap (·.2)).length≤(((bs.map f).take j).flatMap (·.2)).length:=by
      have:=flat_le ((bs.map f).take j) i
      rw[List.take_take,Nat.min_eq_left hij]at this
      exact this
    have e4:((bs.map f).flatMap (·.2)).length=(((bs.map f).take j).flatMap (·.2)).length+c.2.length+(((bs.map f).drop (j+1)).flatMap (·.2)).length:=by
      conv=>lhs;rw[e]
      rw[List.flatMap_append,List.flatMap_cons,List.length_append,List.length_append]
      omega
    have:=List.length_pos_iff.2 hne
    omega
  omega
theorem last_goes {l:List (Int×Int)} (h:∀ y,l.getLast? = some y→goesS y.1=false):∀ (k:Nat) (x:Int×Int),l[k]? = some x→goesS x.1=true→k+1<l.length:=by
  intro k x hx hg
  have hk:=(List.getElem?_eq_some_iff.1 hx).1
  refine Nat.lt_of_le_of_ne hk (fun e=>?_)
  have:l.getLast? = some x:=by
    rw[List.getLast?_eq_getElem?]
    rw[show l.length-1=k by omega]
    exact hx
  rw[h x this]at hg
  cases hg
theorem goes_last {l:List (Int×Int)} (h:∀ (k:Nat) (x:Int×Int),l[k]? = some x→goesS x.1=true→k+1<l.length):∀ y,l.getLast? = some y→goesS y.1=false:=by
  intro y hy
  rw[List.getLast?_eq_getElem?]at hy
  cases e:goesS y.1 with
  | false=>rfl
  | true =>
    have h1:=h _ _ hy e
    have h2:=(List.getElem?_eq_some_iff.1 hy).1
    omega
theorem ren_op (nums:List Int) (x:Int×Int):(renS nums x).1=x.1:=by
  unfold renS
  split<;>rfl
theorem join_pr {p:PrS} (hp:PrOk p) {f:Blo→Blo} (hf:∀ b,(f b).1=b.1) (hle:∀ b,(f b).2.length≤b.2.length)
    (hins:∀ b∈blocksS p.1 p.2,∀ y∈(f b).2,baseOk y)
    (hnm:∀ b∈blocksS p.1 p.2,∀ y∈(f b).2,namesS y.1=true→Live (blocksS p.1 p.2) ((blocksS p.1 p.2).map f) y.2)
    (hen:Live (blocksS p.1 p.2) ((blocksS p.1 p.2).map f) p.2)
    (hlast:∀ y,(((blocksS p.1 p.2).map f).flatMap (·.2)).getLast? = some y→goesS y.1=false) :
    PrOk (joinedS p.1.length p.2 ((blocksS p.1 p.2).map f)):=by
  have hfine:=blocks_fine (l:=p.1) (en:=p.2)
  have hfs:FirstsOk (blocksS p.1 p.2):=blkTo_firsts p.1 (begS p.1 p.2) (begTo_head p.1 p.2 p.1.length) p.1.length (Nat.le_refl _)
  have num:=fun {t:Int} (ht:Live (blocksS p.1 p.2) ((blocksS p.1 p.2).map f) t)=>join_num (l:=p.1) hf hfs hfine.full hfine.low ht
  have hlen:=joinedS_len p.1.length p.2 ((blocksS p.1 p.2).map f)
  have hjl:=join_le f hle p
  have hsm:=hp.small
  have hl1:(joinedS p.1.length p.2 ((blocksS p.1 p.2).map f)).1=(((blocksS p.1 p.2).map f).flatMap (·.2)).map (renS (numsTo ((blocksS p.1 p.2).map f) p.1.length ((blocksS p.1 p.2).map f).length).1):=listTo_flat _ _
  refine⟨fun x hx=>?_,?_,by omega,?_⟩
  · rw[hl1]at hx
    obtain⟨y,hy,rfl⟩:=List.mem_map.1 hx
    obtain⟨c,hc,hyc⟩:=List.mem_flatMap.1 hy
    obtain⟨b,hb,rfl⟩:=List.mem_map.1 hc
    have hbase:=hins b hb y hyc
    rw[ren_op]
    by_cases hn:namesS y.1=true
    · have hnn:=num (hnm b hb y hyc hn)
      have e:(renS (numsTo ((blocksS p.1 p.2).map f) p.1.length ((blocksS p.1 p.2).map f).length).1 y).2=(numsTo ((blocksS p.1 p.2).map f) p.1.length ((blocksS p.1 p.2).map f).length).1.getD y.2.toNat 0:=by
        unfold renS
        rw[if_pos hn]
      rw[e]
      exact⟨⟨hbase.1,by omega⟩,fun _=>by omega⟩
    · have e:renS (numsTo ((blocksS p.1 p.2).map f) p.1.length ((blocksS p.1 p.2).map f).length).1 y=y:=by
        unfold renS
        rw[if_neg hn]
      rw[e]
      exact⟨⟨hbase.1,hbase.2⟩,fun h=>absurd h hn⟩
  · refine last_goes (fun y hy=>?_)
    rw[hl1,List.getLast?_map]at hy
    obtain⟨z,hz,rfl⟩:=Option.map_eq_some_iff.1 hy
    rw[ren_op]
    exact hlast z hz
  · have:=num hen
    rw[Int.toNat_natCast]at this
    unfold joinedS at hlen ⊢
    simp only at hlen ⊢
    omega
structure ReachInv (l:List (Int×Int)) (en:Nat) (r:List Bool) (t:List Int):Prop where
  len:r.length=l.length
  low:∀ y∈t,0≤y∧y<(l.length:Int)
  names:∀ k x,l[k]? = some x→r.getD k false=true→namesS x.1=true→r.getD x.2.toNat false=true∨x.2∈t
  goes:∀ k x,l[k]? = some x→r.getD k false=true→goesS x.1=true→r.getD (k+1) false=true∨((k+1:Nat):Int)∈t
  entry:r.getD en false=true∨(en:Int)∈t
theorem ReachInv.step {l:List (Int×Int)} {en:Nat} {r:List Bool} {t:List Int} {a:Int} (hn:NamesIn l.length l) (hg:∀ k x,l[k]? = some x→goesS x.1=true→k+1<l.length) (h:ReachInv l en r (t++[a])):ReachInv l en (reachStep l r t a).1 (reachStep l r t a).2:=by
  have ha:=h.low a (by simp)
  have hlow:=reach_in (r:=r) (t:=t) hn hg ha (fun y hy=>h.low y (List.mem_append.2 (Or.inl hy)))
  have hlen:=(reach_less (t:=t) ha h.len).2
  have hal:a.toNat<r.length:=by rw[h.len];omega
  by_cases hr:r.getD a.toNat false=true
  · have e:reachStep l r t a=(r,t):=by unfold reachStep;rw[if_pos hr]
    rw[e]at hlow hlen ⊢
    refine⟨hlen,hlow,fun k x hx hk hm=>?_,fun k x hx hk hm=>?_,?_⟩
    · rcases h.names k x hx hk hm with h1|h1
      · exact Or.inl h1
      · rcases List.mem_append.1 h1 with h2|h2
        · exact Or.inr h2
        · simp at h2;rw[h2];exact Or.inl hr
    · rcases h.goes k x hx hk hm with h1|h1
      · exact Or.inl h1
      · rcases List.mem_append.1 h1 with h2|h2
        · exact Or.inr h2
        · simp at h2
          left
          rw[← h2]at hr
          simpa using hr
    · rcases h.entry with h1|h1
      · exact Or.inl h1
      · rcases List.mem_append.1 h1 with h2|h2
        · exact Or.inr h2
        · simp at h2
          left
          rw[← h2]at hr
          simpa using hr
  · obtain⟨z,hz⟩:∃ z,l[a.toNat]? = some z:=⟨_,List.getElem?_eq_getElem (by omega)⟩
    have e:reachStep l r t a=(r.set a.toNat true,t++(if namesS z.1=true then [z.2] else [])++(if goesS z.1=true then [a+1] else [])):=by
      unfold reachStep
      rw[if_neg hr,hz]
    rw[e]at hlow hlen ⊢
    simp only at hlow hlen ⊢
    have old:∀ {y:Int},y∈t++[a]→(r.set a.toNat true).getD y.toNat false=true∨y∈t++(if namesS z.1=true then [z.2] else [])++(if goesS z.1=true then [a+1] else []):=by
      intro y hy
      rcases List.mem_append.1 hy with h2|h2
      · exact Or.inr (by simp[h2])
      · simp at h2;rw[h2];exact Or.inl (set_true_here _ _ hal)
    have cas:∀ {k:Nat},(r.set a.toNat true).getD k false=true→k=a.toNat∨r.getD k false=true:=by
      intro k hk
      by_cases e:k=a.toNat
      · exact Or.inl e
      · rw[List.getD_eq_getElem?_getD,List.getElem?_set_ne (fun e'=>e e'.symm),← List.getD_eq_getElem?_getD]at hk
        exact Or.inr hk
    refine⟨hlen,hlow,fun k x hx hk hm=>?_,fun k x hx hk hm=>?_,?_⟩
    · rcases cas hk with rfl|hk
      · rw[hz]at hx
        obtain rfl:=Option.some.inj hx
        exact Or.inr (by simp[hm])
      · rcases h.names k x hx hk hm with h1|h1
        · exact Or.inl (set_true_mono _ _ _ h1)
        · exact old h1
    · rcases cas hk with rfl|hk
      · rw[hz]at hx
        obtain rfl:=Option.some.inj hx
        refine Or.inr ?_
        have:((a.toNat+1:Nat):Int)=a+1:=by omega
        rw[this]
        simp[hm]
      · rcases h.goes k x hx hk hm with h1|h1
        · exact Or.inl (set_true_mono _ _ _ h1)
        · have:=old h1
          rwa [Int.toNat_natCast]at this
    · rcases h.entry with h1|h1
      · exact Or.inl (set_true_mono _ _ _ h1)
      · have:=old h1
        rwa [Int.toNat_natCast]at this
theorem reachGo_inv {l:List (Int×Int)} {en:Nat} (hn:NamesIn l.length l) (hg:∀ k x,l[k]? = some x→goesS x.1=true→k+1<l.length) (n:Nat):∀ (r:List Bool) (t:List Int),ReachInv l en r t→reachM r t≤n→ReachInv l en (reachGo l n r t) []:=by
  induction n with
  | zero =>
    intro r t h hm
    have:t=[]:=by
      unfold reachM at hm
      exact List.length_eq_zero_iff.1 (by omega)
    subst this
    exact h
  | succ n ih =>
    intro r t h hm
    unfold reachGo
    rcases List.eq_nil_or_concat t with rfl|⟨u,a,rfl⟩
    · exact h
    · rw[List.concat_eq_append]at h hm ⊢
      simp only[List.getLast?_append,List.getLast?_singleton,Option.some_or,List.dropLast_concat]
      have hl:=reach_less (t:=u) (h.low a (by simp)) h.len
      exact ih _ _ (h.step hn hg) (by omega)
theorem reached_inv {p:PrS} (hp:PrOk p):ReachInv p.1 p.2 (reachedS p.1 p.2) []:=by
  refine reachGo_inv hp.names hp.last _ _ _ ⟨by simp,fun y hy=>?_,fun k x _ hk=>?_,fun k x _ hk=>?_,Or.inr (by simp)⟩ ?_
  · simp at hy
    have:=hp.entry
    omega
  · exfalso
    rw[List.getD_eq_getElem?_getD,List.getElem?_replicate]at hk
    split at hk<;>simp at hk
  · exfalso
    rw[List.getD_eq_getElem?_getD,List.getElem?_replicate]at hk
    split at hk<;>simp at hk
  · unfold reachM
    simp
theorem blkTo_inner (l:List (Int×Int)) (beg:List Bool) (h0:beg.getD 0 false=true) (k:Nat) (hk:k≤l.length):∀ b∈blkTo l beg k,∀ m,0<m→m<b.2.length→beg.getD (b.1+m) false=false:=by
  induction k with
  | zero=>intro b hb;simp[blkTo]at hb
  | succ k ih =>
    have ih:=ih (by omega)
    obtain⟨x,hx⟩:∃ x,l[k]? = some x:=⟨_,List.getElem?_eq_getElem (by omega)⟩
    have e:blkTo l beg (k+1)=blkStep (blkTo l beg k) (beg.getD k false) k x:=by rw[blkTo,hx]
    rw[e]
    unfold blkStep
    have fine:=blkTo_fine l beg h0 k (by omega)
    have firsts:=blkTo_firsts l beg h0 k (by omega)
    cases hb:beg.getD k false with
    | true =>
      rw[if_pos rfl,addLast_snoc]
      intro b hb m h1 h2
      rcases List.mem_append.1 hb with h|h
      · exact ih b h m h1 h2
      · simp at h
        subst h
        simp at h2
        omega
    | false =>
      rw[if_neg (by simp)]
      rcases List.eq_nil_or_concat (blkTo l beg k) with h|⟨t,c,h⟩
      · rw[h]
        intro b hb
        simp[addLast]at hb
      · rw[List.concat_eq_append]at h
        rw[h]at ih fine firsts ⊢
        rw[addLast_snoc]
        intro b hb2 m h1 h2
        rcases List.mem_append.1 hb2 with h3|h3
        · exact ih b (by simp[h3]) m h1 h2
        · simp at h3
          subst h3
          simp at h2 ⊢
          by_cases hm:m<c.2.length
          · simpa using ih c (by simp) m h1 hm
          · have hc:=(firsts_init firsts).2
            have hfl:=congrArg List.length fine.flat
            rw[List.flatMap_append,List.length_append,List.length_take]at hfl
            simp only[List.flatMap_cons,List.flatMap_nil,List.append_nil]at hfl
            have:c.1+m=k:=by omega
            rw[this]
            simpa using hb
theorem block_at {l:List (Int×Int)} {bs:List Blo} (hflat:bs.flatMap (·.2)=l) (hf:FirstsOk bs) {i:Nat} {b:Blo} (hb:bs[i]? = some b) {m:Nat} (hm:m<b.2.length):l[b.1+m]? = b.2[m]?:=by
  have hi:=(List.getElem?_eq_some_iff.1 hb).1
  have e:bs=bs.take i++b :: bs.drop (i+1):=by
    have e1:=List.drop_eq_getElem_cons hi
    have e2:=(List.getElem?_eq_some_iff.1 hb).2
    rw[e2]at e1
    rw[← e1,List.take_append_drop]
  rw[← hflat]
  conv=>lhs;rw[e]
  rw[List.flatMap_append,List.flatMap_cons,hf i b hb,List.getElem?_append_right (by omega),List.getElem?_append_left (by omega)]
  congr 1
  omega
structure BlocksOk (p:PrS) (bs:List Blo):Prop where
  flat:bs.flatMap (·.2)=p.1
  firsts:FirstsOk bs
  full:∀ b∈bs,b.2≠[]
  low:∀ b∈bs,b.1<p.1.length
  some:bs≠[]
  has:∀ j,j<p.1.length→(begS p.1 p.2).getD j false=true→∃ b∈bs,b.1=j
  inner:∀ b∈bs,∀ m,0<m→m<b.2.length→(begS p.1 p.2).getD (b.1+m) false=false
theorem blocks_ok {p:PrS} (hp:PrOk p):BlocksOk p (blocksS p.1 p.2):=by
  have h0:=begTo_head p.1 p.2 p.1.length
  have fine:=blocks_fine (l:=p.1) (en:=p.2)
  have he:=hp.entry
  exact⟨by have:=fine.flat;rwa [List.take_length]at this,blkTo_firsts p.1 _ h0 p.1.length (Nat.le_refl _),fine.full,fine.low,fine.some (by omega),fun j hj hb=>blkTo_has p.1 _ p.1.length j (Nat.le_refl _) hj hb,blkTo_inner p.1 _ h0 p.1.length (Nat.le_refl _)⟩
def Target (l:List (Int×Int)) (t:Int):Prop:=∃ z∈l,namesS z.1=true∧z.2=t
theorem begS_of_target {p:PrS} (hp:PrOk p) {t:Int} (ht:Target p.1 t):0≤t∧t.toNat<p.1.length∧(begS p.1 p.2).getD t.toNat false=true:=by
  obtain⟨z,hz,hn,rfl⟩:=ht
  have:=(hp.ins z hz).2 hn
  exact⟨this.1,by omega,begS_target p.1 p.2 z hz hn this⟩
theorem live_last {p:PrS} {bs:List Blo} (hb:BlocksOk p bs) {f:Blo→Blo} {c:Blo} (hc:(bs.map f).getLast? = some c) (hne:c.2≠[]) {t:Int} (h0:0≤t) (hl:t.toNat<p.1.length) (hbeg:(begS p.1 p.2).getD t.toNat false=true):Live bs (bs.map f) t:=by
  obtain⟨b,hb1,hb2⟩:=hb.has t.toNat hl hbeg
  obtain⟨i,hi⟩:=List.getElem?_of_mem hb1
  have hil:=(List.getElem?_eq_some_iff.1 hi).1
  rw[List.getLast?_eq_getElem?]at hc
  exact⟨i,_,b,c,hi,by omega,by simp;omega,hc,hne⟩
theorem flat_last {cs:List Blo} {c:Blo} (hc:cs.getLast? = some c) (hne:c.2≠[]):(cs.flatMap (·.2)).getLast? = c.2.getLast?:=by
  rcases List.eq_nil_or_concat cs with rfl|⟨t,d,rfl⟩
  · simp at hc
  · rw[List.concat_eq_append]at hc ⊢
    simp at hc
    subst hc
    rw[List.flatMap_append,List.flatMap_singleton,List.getLast?_append]
    cases h:d.2.getLast? with
    | none=>rw[List.getLast?_eq_none_iff]at h;exact absurd h hne
    | some y=>rfl
theorem stage4_pr {p:PrS} (hp:PrOk p):PrOk (stage4 p):=by
  have hb:=blocks_ok hp
  have hsub:∀ b y,y∈(idleS b).2→y∈b.2:=by
    intro b y hy
    unfold idleS at hy
    split at hy
    · exact List.dropLast_subset _ hy
    · exact hy
  obtain⟨t,c,hc⟩:∃ t c,blocksS p.1 p.2=t++[c]:=by
    rcases List.eq_nil_or_concat (blocksS p.1 p.2) with h|⟨t,c,h⟩
    · exact absurd h hb.some
    · exact⟨t,c,by rw[h,List.concat_eq_append]⟩
  have hcm:c∈blocksS p.1 p.2:=by rw[hc];simp
  have hcl:(blocksS p.1 p.2).getLast? = some c:=by rw[hc];simp
  have hend:c.1+c.2.length=p.1.length:=by
    have h1:=hb.firsts
    have h2:=congrArg List.length hb.flat
    rw[hc]at h1 h2
    rw[(firsts_init h1).2,← h2,List.flatMap_append,List.length_append]
    simp
  have hlastl:c.2.getLast? = p.1.getLast?:=by
    rw[← hb.flat]
    exact (flat_last hcl (hb.full c hcm)).symm
  have hid:idleS c=c:=by
    unfold idleS
    rw[if_neg]
    intro h
    have hm:=List.mem_of_getLast? h
    have h1:(1,((c.1+c.2.length:Nat):Int))∈p.1:=by rw[← hb.flat];exact List.mem_flatMap.2 ⟨c,hcm,hm⟩
    have:=(hp.ins _ h1).2 rfl
    simp only at this
    omega
  have hcl2:((blocksS p.1 p.2).map idleS).getLast? = some c:=by rw[List.getLast?_map,hcl,Option.map_some,hid]
  have hmem:∀ b∈blocksS p.1 p.2,∀ y∈(idleS b).2,y∈p.1:=fun b hbm y hy=>by
    rw[← hb.flat]
    exact List.mem_flatMap.2 ⟨b,hbm,hsub b y hy⟩
  refine join_pr hp (fun b=>by unfold idleS;split<;>rfl) (fun b=>by unfold idleS;split<;>simp) (fun b hbm y hy=>hp.base y (hmem b hbm y hy)) (fun b hbm y hy hn=>?_) ?_ ?_
  · obtain⟨h1,h2,h3⟩:=begS_of_target hp ⟨y,hmem b hbm y hy,hn,rfl⟩
    exact live_last hb hcl2 (hb.full c hcm) h1 h2 h3
  · have he:=hp.entry
    exact live_last hb hcl2 (hb.full c hcm) (by omega) (by rw[Int.toNat_natCast];exact he) (by rw[Int.toNat_natCast];exact begS_entry p.1 p.2 he)
  · intro y hy
    rw[flat_last hcl2 (hb.full c hcm),hlastl]at hy
    exact goes_last hp.last y hy
theorem reached_all {p:PrS} (hp:PrOk p) {bs:List Blo} (hb:BlocksOk p bs) {i:Nat} {b:Blo} (hi:bs[i]? = some b) (hr:(reachedS p.1 p.2).getD b.1 false=true) (m:Nat) (hm:m<b.2.length):(reachedS p.1 p.2).getD (b.1+m) false=true:=by
  have inv:=reached_inv hp
  induction m with
  | zero=>exact hr
  | succ m ih =>
    have ih:=ih (by omega)
    have e:=block_at hb.flat hb.firsts hi (m:=m) (by omega)
    obtain⟨x,hx⟩:∃ x,b.2[m]? = some x:=⟨_,List.getElem?_eq_getElem (by omega)⟩
    rw[hx]at e
    have hin:=hb.inner b (List.mem_of_getElem? hi) (m+1) (by omega) hm
    have hg:goesS x.1=true:=by
      cases hg:goesS x.1 with
      | true=>rfl
      | false =>
        have:=begS_after p.1 p.2 (b.1+m) x e (Or.inr hg)
        rw[show b.1+m+1=b.1+(m+1) by omega,hin]at this
        cases this
    rcases inv.goes _ _ e ih hg with h|h
    · exact h
    · simp at h
theorem unreach_mem {r:List Bool} {b:Blo} {y:Int×Int} (h:y∈(unreachS r b).2):r.getD b.1 false=true∧y∈b.2:=by
  unfold unreachS at h
  split at h
  next hr=>exact⟨hr,h⟩
  · simp at h
theorem live_reached {p:PrS} {bs:List Blo} (hb:BlocksOk p bs) {r:List Bool} {t:Int} (h0:0≤t) (hl:t.toNat<p.1.length) (hbeg:(begS p.1 p.2).getD t.toNat false=true) (hr:r.getD t.toNat false=true):Live bs (bs.map (unreachS r)) t:=by
  obtain⟨b,hb1,hb2⟩:=hb.has t.toNat hl hbeg
  obtain⟨i,hi⟩:=List.getElem?_of_mem hb1
  refine⟨i,i,b,unreachS r b,hi,by omega,Nat.le_refl _,by rw[List.getElem?_map,hi];rfl,?_⟩
  unfold unreachS
  rw[hb2,if_pos hr]
  exact hb.full b hb1
theorem flat_last_of {cs:List Blo} {y:Int×Int} (h:(cs.flatMap (·.2)).getLast? = some y):∃ (i:Nat) (c:Blo),cs[i]? = some c∧c.2.getLast? = some y∧∀ (j:Nat) (d:Blo),i<j→cs[j]? = some d→d.2=[]:=by
  generalize hn:cs.length=n
  induction n generalizing cs with
  | zero =>
    have:=List.length_eq_zero_iff.1 hn
    subst this
    simp at h
  | succ n ih =>
    rcases List.eq_nil_or_concat cs with rfl|⟨t,d,rfl⟩
    · simp at h
    · rw[List.concat_eq_append]at h hn ⊢
      by_cases hd:d.2=[]
      · have h2:(t.flatMap (·.2)).getLast? = some y:=by
          rw[List.flatMap_append,List.flatMap_singleton,hd,List.append_nil]at h
          exact h
        obtain⟨i,c,h3,h4,h5⟩:=ih h2 (by simpa using hn)
        have hi:=(List.getElem?_eq_some_iff.1 h3).1
        refine⟨i,c,by rw[List.getElem?_append_left hi];exact h3,h4,fun j e hj he=>?_⟩
        by_cases hjt:j<t.length
        · rw[List.getElem?_append_left hjt]at he
          exact h5 j e hj he
        · have:j=t.length:=by
            have:=(List.getElem?_eq_some_iff.1 he).1
            simp at this
            omega
          subst this
          simp at he
          subst he
          exact hd
      · refine⟨t.length,d,by simp,?_,fun j e hj he=>?_⟩
        · rw[flat_last (c:=d) (by simp) hd]at h
          exact h
        · have:=(List.getElem?_eq_some_iff.1 he).1
          simp at this
          omega
theorem stage3_pr {p:PrS} (hp:PrOk p):PrOk (stage3 p):=by
  have hb:=blocks_ok hp
  have inv:=reached_inv hp
  have hmem:∀ b∈blocksS p.1 p.2,∀ y∈(unreachS (reachedS p.1 p.2) b).2,y∈p.1:=fun b hbm y hy=>by
    rw[← hb.flat]
    exact List.mem_flatMap.2 ⟨b,hbm,(unreach_mem hy).2⟩
  refine join_pr hp (fun b=>by unfold unreachS;split<;>rfl) (fun b=>by unfold unreachS;split<;>simp) (fun b hbm y hy=>hp.base y (hmem b hbm y hy)) (fun b hbm y hy hn=>?_) ?_ ?_
  · obtain⟨h1,h2,h3⟩:=begS_of_target hp ⟨y,hmem b hbm y hy,hn,rfl⟩
    obtain⟨hr,hy2⟩:=unreach_mem hy
    obtain⟨i,hi⟩:=List.getElem?_of_mem hbm
    obtain⟨m,hm⟩:=List.getElem?_of_mem hy2
    have hml:=(List.getElem?_eq_some_iff.1 hm).1
    have ha:=reached_all hp hb hi hr m hml
    have e:=block_at hb.flat hb.firsts hi hml
    rw[hm]at e
    rcases inv.names _ _ e ha hn with h|h
    · exact live_reached hb h1 h2 h3 h
    · simp at h
  · have he:=hp.entry
    rcases inv.entry with h|h
    · exact live_reached hb (by omega) (by rw[Int.toNat_natCast];exact he) (by rw[Int.toNat_natCast];exact begS_entry p.1 p.2 he) (by rw[Int.toNat_natCast];exact h)
    · simp at h
  · intro y hy
    obtain⟨i,c,h1,h2,h3⟩:=flat_last_of hy
    rw[List.getElem?_map]at h1
    obtain⟨b,hi,rfl⟩:=Option.map_eq_some_iff.1 h1
    have hym:=List.mem_of_getLast? h2
    obtain⟨hr,_⟩:=unreach_mem hym
    have eb:unreachS (reachedS p.1 p.2) b=b:=by unfold unreachS;rw[if_pos hr]
    rw[eb]at h2
    cases hg:goesS y.1 with
    | false=>rfl
    | true =>
      exfalso
      have hfull:=List.length_pos_iff.2 (hb.full b (List.mem_of_getElem? hi))
      rw[List.getLast?_eq_getElem?]at h2
      have ha:=reached_all hp hb hi hr (b.2.length-1) (by omega)
      have e:=block_at hb.flat hb.firsts hi (m:=b.2.length-1) (by omega)
      rw[h2]at e
      have hk:=hp.last _ _ e hg
      rcases inv.goes _ _ e ha hg with h|h
      · have hil:=(List.getElem?_eq_some_iff.1 hi).1
        have hnx:i+1<(blocksS p.1 p.2).length:=by
          refine Nat.lt_of_le_of_ne hil (fun en=>?_)
          have hfl:=congrArg List.length hb.flat
          have e2:blocksS p.1 p.2=(blocksS p.1 p.2).take i++[b]:=by
            have e1:=List.drop_eq_getElem_cons hil
            rw[(List.getElem?_eq_some_iff.1 hi).2,List.drop_of_length_le (by omega:(blocksS p.1 p.2).length≤i+1)]at e1
            rw[← e1,List.take_append_drop]
          rw[e2,List.flatMap_append,List.length_append,← hb.firsts i b hi,List.flatMap_singleton]at hfl
          omega
        have hd:=List.getElem?_eq_getElem hnx
        have hfd:=hb.firsts (i+1) _ hd
        rw[List.take_add_one,hi,List.flatMap_append,List.length_append,← hb.firsts i b hi]at hfd
        simp only[Option.toList_some,List.flatMap_singleton]at hfd
        have hempty:=h3 (i+1) (unreachS (reachedS p.1 p.2) (blocksS p.1 p.2)[i+1]) (by omega) (by rw[List.getElem?_map,hd];rfl)
        have e3:unreachS (reachedS p.1 p.2) (blocksS p.1 p.2)[i+1]=(blocksS p.1 p.2)[i+1]:=by
          unfold unreachS
          rw[if_pos]
          rw[hfd]
          rw[show b.1+(b.2.length-1)+1=b.1+b.2.length by omega]at h
          exact h
        rw[e3]at hempty
        exact hb.full _ (List.getElem_mem hnx) hempty
      · simp at h
theorem strStep_pr {l:List (Int×Int)} {en:Nat} (hp:PrOk (l,en)) (i:Nat):PrOk (strStep l i,en):=by
  have hlen:=strStep_len l i
  have hin:=strStep_in hp.names i
  have key:(∀ x∈strStep l i,(0≤x.1∧x.1≤32)∧(-9223372036854775808≤x.2∧x.2≤9223372036854775807))∧(∀ (k:Nat) (x:Int×Int),(strStep l i)[k]? = some x→goesS x.1=true→∃ y,l[k]? = some y∧goesS y.1=true):=by
    have hj:∀ x∈l,x.1=1→0≤x.2∧x.2<l.length:=fun x hx e=>(hp.ins x hx).2 (by rw[e];rfl)
    unfold strStep
    split
    · exact⟨fun x hx=>(hp.ins x hx).1,fun k x hx hg=>⟨x,hx,hg⟩⟩
    next x hx =>
      split
      next hn =>
        have hxm:=List.mem_of_getElem? hx
        have hg:=goalS_in hj l.length x.2 ((hp.ins x hxm).2 hn)
        have hsm:=hp.small
        simp only at hsm
        have h1:∀ y∈l.set i (x.1,goalS l l.length x.2),(0≤y.1∧y.1≤32)∧(-9223372036854775808≤y.2∧y.2≤9223372036854775807):=by
          intro y hy
          rcases List.mem_or_eq_of_mem_set hy with h2|rfl
          · exact (hp.ins y h2).1
          · exact⟨(hp.ins x hxm).1.1,by simp only;omega⟩
        have h2:∀ (k:Nat) (y:Int×Int),(l.set i (x.1,goalS l l.length x.2))[k]? = some y→goesS y.1=true→∃ z,l[k]? = some z∧goesS z.1=true:=by
          intro k y hy hgy
          by_cases e:i=k
          · subst e
            rw[List.getElem?_set_self (List.getElem?_eq_some_iff.1 hx).1]at hy
            obtain rfl:=Option.some.inj hy
            exact⟨x,hx,hgy⟩
          · rw[List.getElem?_set_ne e]at hy
            exact⟨y,hy,hgy⟩
        simp only
        split
        next he =>
          have hel:(goalS l l.length x.2).toNat<(l.set i (x.1,goalS l l.length x.2)).length:=by rw[List.length_set];omega
          have hem:(l.set i (x.1,goalS l l.length x.2)).getD (goalS l l.length x.2).toNat (0,0)∈l.set i (x.1,goalS l l.length x.2):=by
            rw[List.getD_eq_getElem?_getD,List.getElem?_eq_getElem hel]
            exact List.getElem_mem hel
          generalize (l.set i (x.1,goalS l l.length x.2)).getD (goalS l l.length x.2).toNat (0,0)=e at *
          refine⟨fun y hy=>?_,fun k y hy hgy=>?_⟩
          · rcases List.mem_or_eq_of_mem_set hy with h3|rfl
            · exact h1 y h3
            · exact h1 _ hem
          · by_cases ek:i=k
            · subst ek
              rw[List.getElem?_set_self (by rw[List.length_set];exact (List.getElem?_eq_some_iff.1 hx).1)]at hy
              obtain rfl:=Option.some.inj hy
              exfalso
              rcases he.2 with e1|e1<;>(rw[e1]at hgy;revert hgy;decide)
            · rw[List.getElem?_set_ne ek]at hy
              exact h2 k y hy hgy
        · exact⟨h1,h2⟩
      · exact⟨fun x hx=>(hp.ins x hx).1,fun k x hx hg=>⟨x,hx,hg⟩⟩
  have hs:=hp.small
  have he:=hp.entry
  simp only at hs he
  refine⟨fun x hx=>⟨key.1 x hx,fun hn=>?_⟩,fun k x hx hg=>?_,by simp only;omega,by simp only;omega⟩
  · have:=hin x hx hn
    simp only at this ⊢
    omega
  · obtain⟨y,hy,hgy⟩:=key.2 k x hx hg
    have:=hp.last k y hy hgy
    simp only at this ⊢
    omega
theorem stage2_pr {p:PrS} (hp:PrOk p):PrOk (stage2 p):=by
  have:∀ k,PrOk (strTo p.1 k,p.2):=by
    intro k
    induction k with
    | zero=>exact hp
    | succ k ih=>exact strStep_pr ih k
  exact this _
theorem goes_base {op:Int} (h:op=0∨op=2∨9≤op):goesS op=true:=by
  unfold goesS
  have:¬ (op=1∨op=4∨op=5):=by omega
  rw[decide_eq_false this]
  rfl
theorem linkS_second {a b j o:Int} (h:linkS a b=some (j,o)):9≤b:=by
  unfold linkS at h
  split at h
  · omega
  · split at h
    · omega
    · split at h
      · cases h
      · split at h
        · omega
        · cases h
theorem rule_last {r:List (Int×Int)→Option (List (Int×Int))} (hr:r∈rulesS) {row s:List (Int×Int)} (h:r row=some s) {x:Int×Int} (hx:row.getLast? = some x):goesS x.1=true:=by
  unfold rulesS at hr
  simp only[List.mem_cons,List.not_mem_nil,or_false]at hr
  rcases hr with rfl|rfl|rfl|hr
  · unfold reckonedS at h
    split at h
    · cases h
    next hn =>
      have hall:row.all reckS=true:=by
        cases e:row.all reckS with
        | true=>rfl
        | false=>exact absurd (Or.inr e) hn
      have:=List.all_eq_true.1 hall x (List.mem_of_getLast? hx)
      unfold reckS at this
      have:=of_decide_eq_true this
      exact goes_base (by omega)
  · unfold chainedS at h
    split at h
    next a b c d =>
      split at h
      · split at h
        next j o hl =>
          simp at hx
          subst hx
          exact goes_base (Or.inr (Or.inr (linkS_second hl)))
        · cases h
      · cases h
    · cases h
  · unfold decidedS at h
    split at h
    next a b =>
      split at h
      next hab =>
        simp at hx
        subst hx
        exact goes_base (Or.inr (Or.inl hab.2))
      · cases h
    · cases h
  · rcases hr with rfl|rfl|rfl|rfl|rfl|rfl|rfl|rfl|rfl|rfl|rfl|rfl|rfl|rfl|rfl|rfl|rfl|rfl|rfl|rfl|rfl|rfl <;>
    · obtain⟨rfl,_⟩:=isS_some h
      simp at hx
      subst hx
      rfl
theorem shorterS_last {row next:List (Int×Int)} {x:Int×Int} (hx:row.getLast? = some x) (hg:goesS x.1=false):shorterS row next=none:=by
  cases h:shorterS row next with
  | none=>rfl
  | some q =>
    obtain⟨s,size⟩:=q
    exfalso
    have hs:=shorterS_some h
    unfold shorterS at h
    obtain⟨n,hn,hs2⟩:=List.exists_of_findSome?_eq_some h
    obtain⟨t,ht,e⟩:=Option.map_eq_some_iff.1 hs2
    simp only[Prod.mk.injEq]at e
    obtain⟨rfl,rfl⟩:=e
    unfold shortAt at ht
    obtain⟨r,hr,hq⟩:=List.exists_of_findSome?_eq_some ht
    unfold ruleAt at hq
    split at hq
    next s' hs' =>
      have hl:(row.drop (row.length-n)).getLast? = some x:=by
        rw[List.getLast?_drop,if_neg (by omega)]
        exact hx
      rw[rule_last hr hs' hl]at hg
      cases hg
    · cases hq
theorem settledS_last {next:List (Int×Int)} (n:Nat) {row:List (Int×Int)} {x:Int×Int} (hx:row.getLast? = some x) (hg:goesS x.1=false):settledS next n row=row:=by
  cases n with
  | zero=>rfl
  | succ n=>unfold settledS;rw[shorterS_last hx hg]
theorem foldRow_last {row:List (Int×Int)} {x:Int×Int} (hx:row.getLast? = some x) (hg:goesS x.1=false):(foldRowS row).getLast? = some x:=by
  unfold foldRowS
  rw[List.getLast?_eq_getElem?]at hx
  have hl:=(List.getElem?_eq_some_iff.1 hx).1
  obtain⟨k,hk⟩:∃ k,row.length=k+1:=⟨row.length-1,by omega⟩
  rw[hk]at hx ⊢
  rw[Nat.add_sub_cancel]at hx
  unfold doneTo
  rw[hx]
  simp only
  rw[settledS_last _ (x:=x) (by simp) hg]
  simp
theorem doneTo_targets (l row:List (Int×Int)) (h:∀ x∈row,x∈l):∀ y∈foldRowS row,namesS y.1=true→Target l y.2 :=
  doneTo_names (P:=Target l) row (fun x hx hn=>⟨x,h x hx,hn,rfl⟩) row.length
theorem stage1_pr {p:PrS} (hp:PrOk p):PrOk (stage1 p):=by
  have hb:=blocks_ok hp
  obtain⟨t,c,hc⟩:∃ t c,blocksS p.1 p.2=t++[c]:=by
    rcases List.eq_nil_or_concat (blocksS p.1 p.2) with h|⟨t,c,h⟩
    · exact absurd h hb.some
    · exact⟨t,c,by rw[h,List.concat_eq_append]⟩
  have hcm:c∈blocksS p.1 p.2:=by rw[hc];simp
  have hcl:(blocksS p.1 p.2).getLast? = some c:=by rw[hc];simp
  have hlastl:c.2.getLast? = p.1.getLast?:=by
    rw[← hb.flat]
    exact (flat_last hcl (hb.full c hcm)).symm
  obtain⟨z,hz⟩:∃ z,c.2.getLast? = some z:=by
    cases e:c.2.getLast? with
    | none=>rw[List.getLast?_eq_none_iff]at e;exact absurd e (hb.full c hcm)
    | some z=>exact⟨z,rfl⟩
  have hzg:goesS z.1=false:=goes_last hp.last z (by rw[← hlastl];exact hz)
  have hfl:=foldRow_last hz hzg
  have hcl2:((blocksS p.1 p.2).map (fun b=>(b.1,foldRowS b.2))).getLast? = some (c.1,foldRowS c.2):=by rw[List.getLast?_map,hcl];rfl
  have hne:(c.1,foldRowS c.2).2≠[]:=by
    intro e
    simp only at e
    rw[e]at hfl
    simp at hfl
  have hmem:∀ b∈blocksS p.1 p.2,∀ y∈b.2,y∈p.1:=fun b hbm y hy=>by
    rw[← hb.flat]
    exact List.mem_flatMap.2 ⟨b,hbm,hy⟩
  refine join_pr hp (fun _=>rfl) (fun b=>doneTo_len b.2 b.2.length) (fun b hbm y hy=>doneTo_ok b.2 (fun x hx=>hp.base x (hmem b hbm x hx)) b.2.length y hy) (fun b hbm y hy hn=>?_) ?_ ?_
  · obtain⟨h1,h2,h3⟩:=begS_of_target hp (doneTo_targets p.1 b.2 (hmem b hbm) y hy hn)
    exact live_last hb hcl2 hne h1 h2 h3
  · have he:=hp.entry
    exact live_last hb hcl2 hne (by omega) (by rw[Int.toNat_natCast];exact he) (by rw[Int.toNat_natCast];exact begS_entry p.1 p.2 he)
  · intro y hy
    rw[flat_last hcl2 hne,hfl]at hy
    obtain rfl:=Option.some.inj hy
    exact hzg
theorem once_ok {p:PrS} (hp:PrOk p):OnceOk p :=
  ⟨hp,stage1_pr hp,stage2_pr (stage1_pr hp),stage3_pr (stage2_pr (stage1_pr hp)),stage4_pr (stage3_pr (stage2_pr (stage1_pr hp)))⟩
def ProgOut (w:World) (p:PrS) (ce:Int) (e:Ending) (w':World):Prop:=∃ a c,e=.returned (.agg #[.slice a p.1.length c,.int .i64 p.2,.int .i64 ce])∧OwnI w.heap.size w' (.slice a p.1.length c) p.1∧Below w.heap.size w w'
end Go.Proofs.YtmeiikjpaepogaaGreatDoor
