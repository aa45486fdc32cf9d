/- The program's options: blocks joined again. -/
import Derived.Test.YtmeiikjpaepogaaGreatDoorN33
import Derived.Test.YtmeiikjpaepogaaGreatDoorN29
import Derived.Test.YtmeiikjpaepogaaGreatDoorN30
namespace Go.Proofs.YtmeiikjpaepogaaGreatDoor
open Go Go.RowKit
def numStep (s:List Int×Int) (b:Blo):List Int×Int:=(s.1.set b.1 s.2,s.2+b.2.length)
def numsTo (bs:List Blo) (n k:Nat):List Int×Int:=(bs.take k).foldl numStep (List.replicate n 0,0)
theorem numsTo_next {bs:List Blo} {n k:Nat} {b:Blo} (h:bs[k]? = some b):numsTo bs n (k+1)=numStep (numsTo bs n k) b:=by
  unfold numsTo
  rw[List.take_add_one,h,List.foldl_append]
  rfl
theorem numFold_len (bs:List Blo) (s:List Int×Int):(bs.foldl numStep s).1.length=s.1.length∧(bs.foldl numStep s).2=s.2+((bs.flatMap (·.2)).length:Nat):=by
  induction bs generalizing s with
  | nil=>simp
  | cons b bs ih =>
    rw[List.foldl_cons]
    obtain⟨h1,h2⟩:=ih (numStep s b)
    refine⟨by rw[h1];simp[numStep],?_⟩
    rw[h2,List.flatMap_cons,List.length_append]
    simp only[numStep]
    omega
theorem numsTo_len (bs:List Blo) (n k:Nat):(numsTo bs n k).1.length=n∧(numsTo bs n k).2=(((bs.take k).flatMap (·.2)).length:Nat):=by
  unfold numsTo
  have:=numFold_len (bs.take k) (List.replicate n 0,0)
  simpa using this
theorem flat_le (bs:List Blo) (k:Nat):((bs.take k).flatMap (·.2)).length≤(bs.flatMap (·.2)).length:=by
  have:bs.flatMap (·.2)=(bs.take k).flatMap (·.2)++(bs.drop k).flatMap (·.2):=by rw[← List.flatMap_append,List.take_append_drop]
  rw[this,List.length_append]
  omega
theorem numFold_pos (bs:List Blo) (m:Int) (s:List Int×Int) (h2:0≤s.2) (hm:s.2+((bs.flatMap (·.2)).length:Nat)≤m) (h:∀ x∈s.1,0≤x∧x≤m):∀ x∈(bs.foldl numStep s).1,0≤x∧x≤m:=by
  induction bs generalizing s with
  | nil=>exact h
  | cons b bs ih =>
    rw[List.flatMap_cons,List.length_append]at hm
    rw[List.foldl_cons]
    refine ih _ (by simp only[numStep];omega) (by simp only[numStep];omega) (fun x hx=>?_)
    rcases List.mem_or_eq_of_mem_set hx with h1|rfl
    · exact h x h1
    · omega
def listTo (nums:List Int) (bs:List Blo) (k:Nat):List (Int×Int):=(bs.take k).flatMap (fun b=>renamedS nums b.2)
theorem listTo_next {nums:List Int} {bs:List Blo} {k:Nat} {b:Blo} (h:bs[k]? = some b):listTo nums bs (k+1)=listTo nums bs k++renamedS nums b.2:=by
  unfold listTo
  rw[List.take_add_one,h,List.flatMap_append]
  simp
theorem listTo_len (nums:List Int) (bs:List Blo) (k:Nat):(listTo nums bs k).length=((bs.take k).flatMap (·.2)).length:=by
  unfold listTo
  generalize bs.take k=t
  induction t with
  | nil=>rfl
  | cons b t ih=>rw[List.flatMap_cons,List.flatMap_cons,List.length_append,List.length_append,ih];simp[renamedS]
def joinedS (n en:Nat) (bs:List Blo):List (Int×Int)×Nat:=(listTo (numsTo bs n bs.length).1 bs bs.length,((numsTo bs n bs.length).1.getD en 0).toNat)
theorem numsTo_pos (bs:List Blo) (n k:Nat):∀ x∈(numsTo bs n k).1,0≤x∧x≤((bs.flatMap (·.2)).length:Nat):=by
  unfold numsTo
  refine numFold_pos (bs.take k) _ _ (by simp) ?_ ?_
  · have:=flat_le bs k
    simp only
    omega
  · intro x hx
    have:=List.eq_of_mem_replicate hx
    omega
theorem joinedS_len (n en:Nat) (bs:List Blo):(joinedS n en bs).1.length=(bs.flatMap (·.2)).length:=by
  unfold joinedS
  rw[listTo_len,List.take_length]
abbrev NamesP (P:Int→Prop) (l:List (Int×Int)):Prop:=∀ x∈l,namesS x.1=true→P x.2
abbrev NamesIn (m:Nat) (l:List (Int×Int)):Prop:=∀ x∈l,namesS x.1=true→0≤x.2∧x.2<m
theorem goalS_in {l:List (Int×Int)} (hj:∀ x∈l,x.1=1→0≤x.2∧x.2<l.length) (n:Nat) (k:Int) (hk:0≤k∧k<l.length):0≤goalS l n k∧goalS l n k<l.length:=by
  induction n generalizing k with
  | zero=>exact hk
  | succ n ih =>
    unfold goalS
    split
    next x hx =>
      split
      next h1=>exact ih x.2 (hj x (List.mem_of_getElem? hx) h1)
      · exact hk
    · exact hk
def strStep (l:List (Int×Int)) (i:Nat):List (Int×Int):=match l[i]? with
  | none=>l
  | some x=>if namesS x.1=true then
      (let l1 := l.set i (x.1, goalS l l.length x.2)
       let e:=l1.getD (goalS l l.length x.2).toNat (0,0)
       if x.1=1∧(e.1=4∨e.1=5) then l1.set i e else l1)
    else l
def strTo (l:List (Int×Int)):Nat→List (Int×Int)
  | 0=>l
  | k+1=>strStep (strTo l k) k
def straightS (l:List (Int×Int)):List (Int×Int):=strTo l l.length
theorem strStep_len (l:List (Int×Int)) (i:Nat):(strStep l i).length=l.length:=by
  unfold strStep
  split
  · rfl
  · split
    · simp only
      split<;>simp
    · rfl
theorem strTo_len (l:List (Int×Int)) (k:Nat):(strTo l k).length=l.length:=by
  induction k with
  | zero=>rfl
  | succ k ih=>unfold strTo;rw[strStep_len,ih]
theorem strStep_in {l:List (Int×Int)} (h:NamesIn l.length l) (i:Nat):NamesIn l.length (strStep l i):=by
  have hj:∀ x∈l,x.1=1→0≤x.2∧x.2<l.length:=fun x hx e=>h x hx (by rw[e];rfl)
  unfold strStep
  split
  · exact h
  next x hx =>
    split
    next hn =>
      have hg:=goalS_in hj l.length x.2 (h x (List.mem_of_getElem? hx) hn)
      have h1:NamesIn l.length (l.set i (x.1,goalS l l.length x.2)):=by
        intro y hy hny
        rcases List.mem_or_eq_of_mem_set hy with h2|rfl
        · exact h y h2 hny
        · exact hg
      simp only
      split
      next he =>
        intro y hy hny
        rcases List.mem_or_eq_of_mem_set hy with h2|rfl
        · exact h1 y h2 hny
        · exfalso
          rcases he.2 with e|e<;>(rw[e]at hny;revert hny;decide)
      · exact h1
    · exact h
theorem strTo_in {l:List (Int×Int)} (h:NamesIn l.length l) (k:Nat):NamesIn l.length (strTo l k):=by
  induction k with
  | zero=>exact h
  | succ k ih =>
    have:=strStep_in (l:=strTo l k) (by rw[strTo_len];exact ih) k
    rw[strTo_len]at this
    exact this
def goesS (op:Int):Bool:=!decide (op=1∨op=4∨op=5)
def reachStep (l:List (Int×Int)) (r:List Bool) (t:List Int) (a:Int):List Bool×List Int :=
  if r.getD a.toNat false=true then (r,t) else match l[a.toNat]? with
  | none=>(r,t)
  | some x=>(r.set a.toNat true,t++(if namesS x.1=true then [x.2] else [])++(if goesS x.1=true then [a+1] else []))
def reachGo (l:List (Int×Int)):Nat→List Bool→List Int→List Bool
  | 0,r,_=>r
  | n + 1, r, t => match t.getLast? with
    | none=>r
    | some a=>reachGo l n (reachStep l r t.dropLast a).1 (reachStep l r t.dropLast a).2
def reachedS (l:List (Int×Int)) (en:Nat):List Bool:=reachGo l (3 * l.length+1) (List.replicate l.length false) [(en:Int)]
def reachM (r:List Bool) (t:List Int):Nat:=3 * r.count false+t.length
theorem count_set_true (r:List Bool) (k:Nat) (h:r[k]? = some false):(r.set k true).count false+1=r.count false:=by
  induction r generalizing k with
  | nil=>simp at h
  | cons x r ih =>
    cases k with
    | zero=>simp at h;subst h;simp
    | succ k =>
      have:=ih k (by simpa using h)
      cases x<;>simp<;>omega
theorem reach_less {l:List (Int×Int)} {r:List Bool} {t:List Int} {a:Int} (ha:0≤a∧a<l.length) (hr:r.length=l.length):reachM (reachStep l r t a).1 (reachStep l r t a).2<reachM r (t++[a])∧(reachStep l r t a).1.length=l.length:=by
  unfold reachStep reachM
  split
  · simp;omega
  next hf =>
    have hk:a.toNat<r.length:=by omega
    have hb:r[a.toNat]? = some false:=by
      rw[List.getElem?_eq_getElem hk]
      rw[List.getD_eq_getElem?_getD,List.getElem?_eq_getElem hk]at hf
      simpa using hf
    have hc:=count_set_true r a.toNat hb
    split
    · simp;omega
    · simp only[List.length_append,List.length_cons,List.length_nil,List.length_set]
      refine⟨?_,hr⟩
      split<;>split<;>simp<;>omega
theorem reach_in {l:List (Int×Int)} {r:List Bool} {t:List Int} {a:Int} (hn:NamesIn l.length l) (hg:∀ k x,l[k]? = some x→goesS x.1=true→k+1<l.length) (ha:0≤a∧a<l.length) (ht:∀ y∈t,0≤y∧y<(l.length:Int)):∀ y∈(reachStep l r t a).2,0≤y∧y<(l.length:Int):=by
  unfold reachStep
  split
  · exact ht
  · split
    · exact ht
    next x hx =>
      intro y hy
      simp only[List.mem_append]at hy
      rcases hy with (hy|hy)|hy
      · exact ht y hy
      · revert hy
        split
        next h =>
          intro hy
          simp at hy
          subst hy
          exact hn x (List.mem_of_getElem? hx) h
        · intro hy;simp at hy
      · revert hy
        split
        next h =>
          intro hy
          simp at hy
          have:=hg _ _ hx h
          omega
        · intro hy;simp at hy
def mapTo (f:Nat×List (Int×Int)→Nat×List (Int×Int)) (bs:List (Nat×List (Int×Int))) (k:Nat):List (Nat×List (Int×Int)):=(bs.take k).map f++bs.drop k
theorem mapTo_zero (f:Nat×List (Int×Int)→Nat×List (Int×Int)) (bs:List (Nat×List (Int×Int))):mapTo f bs 0=bs:=by simp[mapTo]
theorem mapTo_all (f:Nat×List (Int×Int)→Nat×List (Int×Int)) (bs:List (Nat×List (Int×Int))):mapTo f bs bs.length=bs.map f:=by simp[mapTo]
theorem mapTo_len (f:Nat×List (Int×Int)→Nat×List (Int×Int)) (bs:List (Nat×List (Int×Int))) (k:Nat):(mapTo f bs k).length=bs.length:=by
  unfold mapTo
  rw[List.length_append,List.length_map,List.length_take,List.length_drop]
  omega
theorem mapTo_at (f:Nat×List (Int×Int)→Nat×List (Int×Int)) (bs:List (Nat×List (Int×Int))) (k:Nat) (h:k<bs.length):(mapTo f bs k)[k]? = bs[k]?:=by
  unfold mapTo
  rw[List.getElem?_append_right (by simp;omega),List.getElem?_drop]
  congr 1
  simp
  omega
theorem mapTo_next (f:Nat×List (Int×Int)→Nat×List (Int×Int)) {bs:List (Nat×List (Int×Int))} {k:Nat} {b:Nat×List (Int×Int)} (h:bs[k]? = some b):mapTo f bs (k+1)=(mapTo f bs k).set k (f b):=by
  have hk:=(List.getElem?_eq_some_iff.1 h).1
  apply List.ext_getElem?
  intro i
  by_cases e:i=k
  · subst e
    rw[List.getElem?_set_self (by rw[mapTo_len];exact hk)]
    unfold mapTo
    rw[List.getElem?_append_left (by simp;omega),List.getElem?_map,List.getElem?_take_of_lt (by omega),h]
    rfl
  · rw[List.getElem?_set_ne (fun e'=>e e'.symm)]
    unfold mapTo
    by_cases hi:i<k
    · rw[List.getElem?_append_left (by simp;omega),List.getElem?_append_left (by simp;omega),List.getElem?_map,List.getElem?_map,List.getElem?_take_of_lt (by omega),List.getElem?_take_of_lt (by omega)]
    · rw[List.getElem?_append_right (by simp;omega),List.getElem?_append_right (by simp;omega),List.getElem?_drop,List.getElem?_drop]
      congr 1
      simp
      omega
def unreachS (r:List Bool) (b:Nat×List (Int×Int)):Nat×List (Int×Int):=if r.getD b.1 false=true then b else (b.1,[])
def idleS (b:Nat×List (Int×Int)):Nat×List (Int×Int):=if b.2.getLast? = some (1,((b.1+b.2.length:Nat):Int)) then (b.1,b.2.dropLast) else b
abbrev Pc:=Int×Int×Int
theorem super_two (op:Nat) (h:40≤op) (h':op<60):2≤(superS op).length∧(superS op).length≤3:=by
  have:∀ k:Fin 20,2≤(superS ((k.val+40:Nat):Int)).length∧(superS ((k.val+40:Nat):Int)).length≤3:=by decide
  have h1:=this ⟨op-40,by omega⟩
  have e:op-40+40=op:=by omega
  simp only[e]at h1
  exact h1
theorem pieces_parts {row:List (Int×Int)} {p:Pc} (h:p∈piecesS row):2≤p.2.2∧p.2.2≤3∧p.2.2≤row.length:=by
  unfold piecesS piecesTo at h
  obtain⟨op,hop,he⟩:=List.mem_filterMap.1 h
  obtain⟨i,hi,rfl⟩:=List.mem_map.1 hop
  have hi:=List.mem_range.1 hi
  unfold pieceAt at he
  obtain⟨n,hn,rfl⟩:=Option.map_eq_some_iff.1 he
  obtain⟨h1,h2⟩:=super_two (i+40) (by omega) (by omega)
  have h3:¬ row.length<(superS ((i+40:Nat):Int)).length:=fun h=>by rw[numGo_short _ _ _ h]at hn;cases hn
  simp only
  omega
def fewStep (sz:List Int) (b:Pc×Int) (p:Pc):Pc×Int:=if sz.getD p.2.2.toNat 0+1<b.2 then (p,sz.getD p.2.2.toNat 0+1) else b
def sizesS (t:List (Pc×Int)):List Int:=t.map Prod.snd++[0]
def bestTo (x:Int×Int) (r:List (Int×Int)) (t:List (Pc×Int)) (k:Nat):Pc×Int:=((piecesS (x :: r)).take k).foldl (fewStep (0 :: sizesS t)) ((x.1,x.2,1),(sizesS t).getD 0 0+1)
def few:List (Int×Int)→List (Pc×Int)
  | []=>[]
  | x :: r=>bestTo x r (few r) (piecesS (x :: r)).length :: few r
theorem few_len (r:List (Int×Int)):(few r).length=r.length:=by
  induction r with
  | nil=>rfl
  | cons x r ih=>simp[few,ih]
theorem bestTo_next {x:Int×Int} {r:List (Int×Int)} {t:List (Pc×Int)} {k:Nat} {p:Pc} (h:(piecesS (x :: r))[k]? = some p):bestTo x r t (k+1)=fewStep (0 :: sizesS t) (bestTo x r t k) p:=by
  unfold bestTo
  rw[List.take_add_one,h,List.foldl_append]
  rfl
def FewOk (m:Nat) (b:Pc×Int):Prop:=(1≤b.1.2.2∧b.1.2.2≤3∧b.1.2.2≤m)∧(0≤b.2∧b.2≤m)
theorem sizes_at (t:List (Pc×Int)) (m:Nat) (ht:∀ b∈t,FewOk m b) (j:Nat):0≤(sizesS t).getD j 0∧(sizesS t).getD j 0≤m:=by
  rw[List.getD_eq_getElem?_getD]
  cases e:(sizesS t)[j]? with
  | none=>simp
  | some y =>
    simp only[Option.getD_some]
    have:=List.mem_of_getElem? e
    unfold sizesS at this
    rcases List.mem_append.1 this with h|h
    · obtain⟨b,hb,rfl⟩:=List.mem_map.1 h
      exact (ht b hb).2
    · simp at h;subst h;omega
theorem FewOk.mono {m m':Nat} {b:Pc×Int} (h:FewOk m b) (hm:m≤m'):FewOk m' b:=by
  obtain⟨h1,h2⟩:=h
  exact⟨by omega,by omega⟩
theorem bestTo_ok (x:Int×Int) (r:List (Int×Int)) (t:List (Pc×Int)) (hl:t.length=r.length) (ht:∀ b∈t,FewOk r.length b) (k:Nat):FewOk (r.length+1) (bestTo x r t k):=by
  induction k with
  | zero =>
    have:=sizes_at t r.length ht 0
    unfold bestTo FewOk
    simp only[List.take_zero,List.foldl_nil]
    omega
  | succ k ih =>
    cases e:(piecesS (x :: r))[k]? with
    | none =>
      have:bestTo x r t (k+1)=bestTo x r t k:=by
        unfold bestTo
        rw[List.take_add_one,e]
        simp
      rw[this]
      exact ih
    | some p =>
      rw[bestTo_next e]
      have hp:=pieces_parts (List.mem_of_getElem? e)
      unfold fewStep
      split
      next hlt =>
        have hd:(0 :: sizesS t).getD p.2.2.toNat 0=(sizesS t).getD (p.2.2.toNat-1) 0:=by
          obtain⟨q,hq⟩:∃ q,p.2.2.toNat=q+1:=⟨p.2.2.toNat-1,by omega⟩
          rw[hq]
          rfl
        have:=sizes_at t r.length ht (p.2.2.toNat-1)
        rw[hd]at hlt
        rw[hd]
        have h2:=ih.2
        simp only[List.length_cons]at hp
        exact⟨by simp only;omega,by simp only;omega⟩
      · exact ih
theorem few_ok (r:List (Int×Int)):∀ b∈few r,FewOk r.length b:=by
  induction r with
  | nil=>intro b hb;simp[few]at hb
  | cons x r ih =>
    intro b hb
    unfold few at hb
    rw[List.length_cons]
    rcases List.mem_cons.1 hb with rfl|hb
    · exact bestTo_ok x r _ (few_len r) ih _
    · exact (ih b hb).mono (by omega)
def pickGo (best:List Pc):Nat→Nat→List (Int×Int)
  | 0,_=>[]
  | n + 1, i => match best[i]? with
    | some p=>(p.1,p.2.1) :: pickGo best n (i+p.2.2.toNat)
    | none=>[]
def fewestS (row:List (Int×Int)):List (Int×Int):=pickGo ((few row).map Prod.fst) row.length 0
theorem pickGo_len (best:List Pc) (n i:Nat):(pickGo best n i).length≤n:=by
  induction n generalizing i with
  | zero=>simp[pickGo]
  | succ n ih =>
    unfold pickGo
    split
    · rw[List.length_cons];have:=ih (i+(by assumption:Pc).2.2.toNat);omega
    · simp
theorem names_not {op:Int} (h:op=0∨9≤op):namesS op=false:=by
  unfold namesS
  have h1:op≠1:=by omega
  have h2:op≠2:=by omega
  have h3:op≠3:=by omega
  have h7:op≠7:=by omega
  simp[h1,h2,h3,h7]
theorem names_app {P:Int→Prop} {a b:List (Int×Int)} (ha:NamesP P a) (hb:NamesP P b):NamesP P (a++b):=by
  intro x hx
  rcases List.mem_append.1 hx with h|h
  · exact ha x h
  · exact hb x h
theorem reckonedS_names {P:Int→Prop} {row s:List (Int×Int)} (h:reckonedS row=some s):NamesP P s:=by
  unfold reckonedS at h
  split at h
  · cases h
  · split at h
    · cases h
    · obtain rfl:=Option.some.inj h
      intro x hx hn
      obtain⟨p,hp,rfl⟩:=List.mem_map.1 hx
      rw[names_not (Or.inl rfl)]at hn
      cases hn
theorem chainedS_names {P:Int→Prop} {row s:List (Int×Int)} (h:chainedS row=some s):NamesP P s:=by
  unfold chainedS at h
  split at h
  next a b c d =>
    split at h
    · split at h
      next j o hl =>
        cases hr:reckonedS [(0,a.2),(0,c.2),(j,0)] with
        | none=>rw[hr]at h;cases h
        | some t =>
          rw[hr]at h
          obtain rfl:=Option.some.inj h
          refine names_app (reckonedS_names hr) (fun x hx hn=>?_)
          simp at hx
          subst hx
          have:=linkS_some hl
          rw[names_not (Or.inr this.2.1)]at hn
          cases hn
      · cases h
    · cases h
  · cases h
theorem decidedS_names {P:Int→Prop} {row s:List (Int×Int)} (hi:NamesP P row) (h:decidedS row=some s):NamesP P s:=by
  unfold decidedS at h
  split at h
  next a b =>
    split at h
    next hab =>
      split at h
      · obtain rfl:=Option.some.inj h;intro x hx;simp at hx
      · obtain rfl:=Option.some.inj h
        intro x hx _
        simp at hx
        subst hx
        exact hi b (by simp) (by rw[hab.2];rfl)
    · cases h
  · cases h
theorem ops_names {P:Int→Prop} {short:List Int} (h:∀ p∈short,9≤p):NamesP P (short.map (fun p=>(p,(0:Int)))):=by
  intro x hx hn
  obtain⟨p,hp,rfl⟩:=List.mem_map.1 hx
  rw[names_not (Or.inr (h p hp))]at hn
  cases hn
theorem rule_names {P:Int→Prop} {r:List (Int×Int)→Option (List (Int×Int))} (hr:r∈rulesS) {row s:List (Int×Int)} (hi:NamesP P row) (h:r row=some s):NamesP P s:=by
  unfold rulesS at hr
  simp only[List.mem_cons,List.not_mem_nil,or_false]at hr
  rcases hr with rfl|rfl|rfl|hr
  · exact reckonedS_names h
  · exact chainedS_names h
  · exact decidedS_names hi h
  · rcases hr with rfl|rfl|rfl|rfl|rfl|rfl|rfl|rfl|rfl|rfl|rfl|rfl|rfl|rfl|rfl|rfl|rfl|rfl|rfl|rfl|rfl|rfl <;>
    · obtain⟨_,rfl⟩:=isS_some h
      exact ops_names (by simp)
theorem settledS_names {P:Int→Prop} (next:List (Int×Int)) (n:Nat) (row:List (Int×Int)) (hi:NamesP P row):NamesP P (settledS next n row):=by
  induction n generalizing row with
  | zero=>exact hi
  | succ n ih =>
    unfold settledS
    split
    next s size hs =>
      refine ih _ (names_app (fun x hx=>hi x (List.mem_of_mem_take hx)) ?_)
      unfold shorterS at hs
      obtain⟨n,hn,hs⟩:=List.exists_of_findSome?_eq_some hs
      obtain⟨t,ht,e⟩:=Option.map_eq_some_iff.1 hs
      simp only[Prod.mk.injEq]at e
      obtain⟨rfl,rfl⟩:=e
      unfold shortAt at ht
      obtain⟨r,hr,hq⟩:=List.exists_of_findSome?_eq_some ht
      unfold ruleAt at hq
      split at hq
      next s' hs' =>
        split at hq
        · obtain rfl:=Option.some.inj hq
          exact rule_names hr (fun x hx=>hi x (List.mem_of_mem_drop hx)) hs'
        · cases hq
      · cases hq
    · exact hi
theorem doneTo_names {P:Int→Prop} (row:List (Int×Int)) (hi:NamesP P row) (k:Nat):NamesP P (doneTo row k):=by
  induction k with
  | zero=>intro x hx;simp[doneTo]at hx
  | succ k ih =>
    unfold doneTo
    split
    next x hx =>
      refine settledS_names _ _ _ (names_app ih (fun y hy=>?_))
      simp at hy
      subst hy
      exact hi _ (List.mem_of_getElem? hx)
    · exact ih
abbrev PrS:=List (Int×Int)×Nat
structure PrOk (p:PrS):Prop where
  ins:∀ x∈p.1,((0≤x.1∧x.1≤32)∧(-9223372036854775808≤x.2∧x.2≤9223372036854775807))∧(namesS x.1=true→0≤x.2∧x.2<p.1.length)
  last:∀ k x,p.1[k]? = some x→goesS x.1=true→k+1<p.1.length
  small:p.1.length≤5000
  entry:p.2<p.1.length
theorem PrOk.names {p:PrS} (h:PrOk p):NamesIn p.1.length p.1:=fun x hx=>(h.ins x hx).2
theorem PrOk.base {p:PrS} (h:PrOk p):∀ x∈p.1,baseOk x:=fun x hx=>⟨(h.ins x hx).1.1,(h.ins x hx).1.2⟩
theorem blocks_fine {l:List (Int×Int)} {en:Nat}:BlkFine l l.length (blocksS l en):=blkTo_fine l (begS l en) (begTo_head l en l.length) l.length (Nat.le_refl _)
def foldRowS (row:List (Int×Int)):List (Int×Int):=doneTo row row.length
def stage1 (p:PrS):PrS:=joinedS p.1.length p.2 ((blocksS p.1 p.2).map (fun b=>(b.1,foldRowS b.2)))
def stage2 (p:PrS):PrS:=(straightS p.1,p.2)
def stage3 (p:PrS):PrS:=joinedS p.1.length p.2 ((blocksS p.1 p.2).map (unreachS (reachedS p.1 p.2)))
def stage4 (p:PrS):PrS:=joinedS p.1.length p.2 ((blocksS p.1 p.2).map idleS)
def superP (p:PrS):PrS:=joinedS p.1.length p.2 ((blocksS p.1 p.2).map (fun b=>(b.1,fewestS b.2)))
def foldOnce (p:PrS):PrS:=stage4 (stage3 (stage2 (stage1 p)))
theorem map_flat_le (f:Blo→Blo) (hf:∀ b,(f b).2.length≤b.2.length) (bs:List Blo):((bs.map f).flatMap (·.2)).length≤(bs.flatMap (·.2)).length:=by
  induction bs with
  | nil=>simp
  | cons b bs ih =>
    rw[List.map_cons,List.flatMap_cons,List.flatMap_cons,List.length_append,List.length_append]
    have:=hf b
    omega
theorem join_le (f:Blo→Blo) (hf:∀ b,(f b).2.length≤b.2.length) (p:PrS):(joinedS p.1.length p.2 ((blocksS p.1 p.2).map f)).1.length≤p.1.length:=by
  rw[joinedS_len]
  have:=map_flat_le f hf (blocksS p.1 p.2)
  have h2:=(blocks_fine (l:=p.1) (en:=p.2)).flat
  rw[List.take_length]at h2
  rw[h2]at this
  exact this
theorem stage1_le (p:PrS):(stage1 p).1.length≤p.1.length:=join_le _ (fun b=>doneTo_len b.2 b.2.length) p
theorem stage3_le (p:PrS):(stage3 p).1.length≤p.1.length:=join_le _ (fun b=>by unfold unreachS;split<;>simp) p
theorem stage4_le (p:PrS):(stage4 p).1.length≤p.1.length:=join_le _ (fun b=>by unfold idleS;split<;>simp) p
theorem once_le (p:PrS):(foldOnce p).1.length≤p.1.length:=by
  unfold foldOnce
  have h4:=stage4_le (stage3 (stage2 (stage1 p)))
  have h3:=stage3_le (stage2 (stage1 p))
  have h2:(stage2 (stage1 p)).1.length=(stage1 p).1.length:=strTo_len _ _
  have h1:=stage1_le p
  omega
structure OnceOk (p:PrS):Prop where
  p0:PrOk p
  p1:PrOk (stage1 p)
  p2:PrOk (stage2 (stage1 p))
  p3:PrOk (stage3 (stage2 (stage1 p)))
  p4:PrOk (foldOnce p)
def foldGo:Nat→PrS→PrS
  | 0,p=>p
  | n+1,p=>if (foldOnce p).1.length=p.1.length then foldOnce p else foldGo n (foldOnce p)
end Go.Proofs.YtmeiikjpaepogaaGreatDoor
