/- The program's options: Fold: the rules, and what they make of a row. -/
import Derived.Test.YtmeiikjpaepogaaGreatDoorN29
namespace Go.Proofs.YtmeiikjpaepogaaGreatDoor
open Go Go.RowKit
def chainedS (row:List (Int×Int)):Option (List (Int×Int)):=match row with
  | [a,b,c,d]=>if a.1=0∧c.1=0 then (match linkS b.1 d.1 with
      | some (j,o)=>(reckonedS [(0,a.2),(0,c.2),(j,0)]).map (fun s=>s++[(o,0)])
      | none=>none) else none
  | _=>none
def rulesS:List (List (Int×Int)→Option (List (Int×Int))):=[reckonedS,chainedS,decidedS,
  isS [(23,0),(23,0)] [],isS [(25,0),(25,0),(25,0)] [],isS [(17,0),(17,0)] [],isS [(18,0),(18,0)] [],isS [(21,0),(22,0)] [],isS [(24,0),(22,0)] [],
  isS [(21,0),(23,0)] [21],isS [(18,0),(9,0)] [10],isS [(18,0),(10,0)] [9],isS [(23,0),(9,0)] [9],isS [(23,0),(11,0)] [11],isS [(23,0),(14,0)] [14],
  isS [(23,0),(15,0)] [15],isS [(23,0),(16,0)] [16],isS [(23,0),(19,0)] [19],isS [(0,0),(9,0)] [],isS [(0,0),(10,0)] [],isS [(0,1),(11,0)] [],
  isS [(0,1),(12,0)] [],isS [(0,-1),(14,0)] [],isS [(0,0),(15,0)] [],isS [(0,0),(16,0)] []]
theorem isS_some {pat:List (Int×Int)} {short:List Int} {row s:List (Int×Int)} (h:isS pat short row=some s):row=pat∧s=short.map (fun p=>(p,(0:Int))):=by
  unfold isS at h
  split at h
  next e=>exact⟨by simpa using e,(Option.some.inj h).symm⟩
  · cases h
theorem reckonedS_short {row s:List (Int×Int)} (h:reckonedS row=some s):s.length<row.length:=by
  unfold reckonedS at h
  split at h
  · cases h
  · split at h
    · cases h
    next hn =>
      obtain rfl:=Option.some.inj h
      rw[List.length_map]
      omega
theorem chainedS_short {row s:List (Int×Int)} (h:chainedS row=some s):s.length<row.length:=by
  unfold chainedS at h
  split at h
  next a b c d =>
    split at h
    · split at h
      next j o _ =>
        cases hr:reckonedS [(0,a.2),(0,c.2),(j,0)] with
        | none=>rw[hr]at h;cases h
        | some t =>
          rw[hr]at h
          obtain rfl:=Option.some.inj h
          have:=reckonedS_short hr
          simp at this ⊢
          omega
      · cases h
    · cases h
  · cases h
theorem decidedS_short {row s:List (Int×Int)} (h:decidedS row=some s):s.length<row.length:=by
  unfold decidedS at h
  split at h
  · split at h
    · split at h<;>(obtain rfl:=Option.some.inj h;simp)
    · cases h
  · cases h
theorem rule_short {r:List (Int×Int)→Option (List (Int×Int))} (hr:r∈rulesS) {row s:List (Int×Int)} (h:r row=some s):s.length<row.length:=by
  unfold rulesS at hr
  simp only[List.mem_cons,List.not_mem_nil,or_false]at hr
  rcases hr with rfl|rfl|rfl|hr
  · exact reckonedS_short h
  · exact chainedS_short h
  · exact decidedS_short h
  · rcases hr with rfl|rfl|rfl|rfl|rfl|rfl|rfl|rfl|rfl|rfl|rfl|rfl|rfl|rfl|rfl|rfl|rfl|rfl|rfl|rfl|rfl|rfl <;>
    · obtain⟨rfl,rfl⟩:=isS_some h
      simp
def ruleAt (row next:List (Int×Int)) (size:Nat) (r:List (Int×Int)→Option (List (Int×Int))):Option (List (Int×Int)):=match r (row.drop (row.length-size)) with
  | some s=>if failsS (knownS (row.take (row.length-size))) (row.drop (row.length-size)) s next=true then some s else none
  | none=>none
def shortAt (row next:List (Int×Int)) (size:Nat):Option (List (Int×Int)):=rulesS.findSome? (ruleAt row next size)
def shorterS (row next:List (Int×Int)):Option (List (Int×Int)×Nat):=((List.range (min 6 row.length-1)).map (·+2)).findSome? (fun n=>(shortAt row next n).map (fun s=>(s,n)))
theorem find_hit {α β:Type} {f:α→Option β} {l:List α} {k:Nat} {x:α} {y:β} (hx:l[k]? = some x) (hy:f x=some y) (h:∀ i z,i<k→l[i]? = some z→f z=none):l.findSome? f=some y:=by
  induction l generalizing k with
  | nil=>simp at hx
  | cons a l ih =>
    rw[List.findSome?_cons]
    cases k with
    | zero =>
      simp at hx
      subst hx
      rw[hy]
    | succ k =>
      rw[h 0 a (by omega) rfl]
      exact ih (k:=k) (by simpa using hx) (fun i z hi hz=>h (i+1) z (by omega) (by simpa using hz))
theorem find_none {α β:Type} {f:α→Option β} {l:List α} (h:∀ (i:Nat) (z:α),l[i]? = some z→f z=none):l.findSome? f=none:=by
  rw[List.findSome?_eq_none_iff]
  intro x hx
  obtain⟨i,hi⟩:=List.getElem?_of_mem hx
  exact h i x hi
theorem shorter_hit {row next s:List (Int×Int)} {size:Nat} (h1:2≤size) (h2:size≤min 6 row.length) (hs:shortAt row next size=some s) (hn:∀ n,2≤n→n<size→shortAt row next n=none):shorterS row next=some (s,size):=by
  unfold shorterS
  have e:((List.range (min 6 row.length-1)).map (·+2))[size-2]? = some size:=by
    rw[List.getElem?_map,List.getElem?_range (by omega)]
    simp
    omega
  refine find_hit e (by rw[hs];rfl) (fun i z hi hz=>?_)
  rw[List.getElem?_map]at hz
  obtain⟨y,hy,rfl⟩:=Option.map_eq_some_iff.1 hz
  have hi2:=(List.getElem?_eq_some_iff.1 hy).1
  rw[List.getElem?_range (by simpa using hi2)]at hy
  obtain rfl:=Option.some.inj hy
  rw[hn (i+2) (by omega) (by omega)]
  rfl
theorem shorter_none {row next:List (Int×Int)} (hn:∀ n,2≤n→n≤min 6 row.length→shortAt row next n=none):shorterS row next=none:=by
  unfold shorterS
  refine find_none (fun i z hz=>?_)
  rw[List.getElem?_map]at hz
  obtain⟨y,hy,rfl⟩:=Option.map_eq_some_iff.1 hz
  have hi2:=(List.getElem?_eq_some_iff.1 hy).1
  rw[List.getElem?_range (by simpa using hi2)]at hy
  obtain rfl:=Option.some.inj hy
  simp at hi2
  rw[hn (i+2) (by omega) (by omega)]
  rfl
theorem shorterS_some {row next s:List (Int×Int)} {size:Nat} (h:shorterS row next=some (s,size)):2≤size∧size≤row.length∧s.length<size:=by
  unfold shorterS at h
  obtain⟨n,hn,hs⟩:=List.exists_of_findSome?_eq_some h
  obtain⟨i,hi,rfl⟩:=List.mem_map.1 hn
  have hi:=List.mem_range.1 hi
  obtain⟨t,ht,e⟩:=Option.map_eq_some_iff.1 hs
  simp only[Prod.mk.injEq]at e
  obtain⟨rfl,rfl⟩:=e
  unfold shortAt at ht
  obtain⟨r,hr,hq⟩:=List.exists_of_findSome?_eq_some ht
  unfold ruleAt at hq
  split at hq
  next s' hs' =>
    split at hq
    · obtain rfl:=Option.some.inj hq
      have:=rule_short hr hs'
      rw[List.length_drop]at this
      omega
    · cases hq
  · cases hq
def settledS (next:List (Int×Int)):Nat→List (Int×Int)→List (Int×Int)
  | 0,row=>row
  | n + 1, row => match shorterS row next with
    | some (s,size)=>settledS next n (row.take (row.length-size)++s)
    | none=>row
def doneTo (row:List (Int×Int)):Nat→List (Int×Int)
  | 0=>[]
  | k + 1 => match row[k]? with
    | some x=>settledS ((row.drop (k+1)).take 1) ((doneTo row k).length+1) (doneTo row k++[x])
    | none=>doneTo row k
theorem settledS_len (next:List (Int×Int)) (n:Nat) (row:List (Int×Int)):(settledS next n row).length≤row.length:=by
  induction n generalizing row with
  | zero=>exact Nat.le_refl _
  | succ n ih =>
    unfold settledS
    split
    next s size hs =>
      have h1:=shorterS_some hs
      refine Nat.le_trans (ih _) ?_
      rw[List.length_append,List.length_take]
      omega
    · exact Nat.le_refl _
theorem doneTo_len (row:List (Int×Int)) (k:Nat):(doneTo row k).length≤k:=by
  induction k with
  | zero=>simp[doneTo]
  | succ k ih =>
    unfold doneTo
    split
    · refine Nat.le_trans (settledS_len _ _ _) ?_
      rw[List.length_append]
      simp
      exact ih
    · omega
def baseOk (x:Int×Int):Prop:=(0≤x.1∧x.1≤32)∧inI x.2
theorem runM_mok (l:List (Int×Int)) (hl:∀ x∈l,inI x.2) (n:Nat):∀ (s:Int) (m:MS),MOk m→MOk (runM l n s m).1:=by
  have step:∀ m,MOk m→MOk (stepM l m).1:=by
    intro m hm
    unfold stepM
    split
    next x hx=>exact partsRun_mok x.2 (hl x (List.mem_of_getElem? hx)) _ _ (hm.pc _) (parts_range _)
    · exact hm
  induction n with
  | zero=>intro s m hm;unfold runM;split<;>exact hm
  | succ n ih =>
    intro s m hm
    unfold runM
    split
    · exact hm
    · split
      · exact ih _ _ (step m hm)
      · exact step m hm
theorem reckonedS_ok {row s:List (Int×Int)} (hi:∀ x∈row,inI x.2) (h:reckonedS row=some s):∀ x∈s,baseOk x:=by
  unfold reckonedS at h
  split at h
  · cases h
  · split at h
    · cases h
    · obtain rfl:=Option.some.inj h
      intro x hx
      obtain⟨p,hp,rfl⟩:=List.mem_map.1 hx
      have hm:MOk (startM 0 1000 1000 1000 1000 0 0):=start_mok 0 1000 1000 1000 1000 0 0 (by omega) (by unfold limsOk limOk;omega)
      have:=(runM_mok (row++[(5,0)]) (fun x hx=>by
        rcases List.mem_append.1 hx with h|h
        · exact hi x h
        · simp at h;subst h;exact inI_zero) (row.length+1) 0 _ hm).ints.1 p hp
      exact⟨by simp,this⟩
theorem linkS_some {a b j o:Int} (h:linkS a b=some (j,o)):(9≤j∧j≤25)∧(9≤o∧o≤25):=by
  unfold linkS at h
  split at h
  · simp at h;omega
  · split at h
    · simp at h;omega
    · split at h
      · cases h
      · split at h
        · simp at h;omega
        · cases h
theorem chainedS_ok {row s:List (Int×Int)} (hi:∀ x∈row,inI x.2) (h:chainedS row=some s):∀ x∈s,baseOk x:=by
  unfold chainedS at h
  split at h
  next a b c d =>
    split at h
    · split at h
      next j o hl =>
        cases hr:reckonedS [(0,a.2),(0,c.2),(j,0)] with
        | none=>rw[hr]at h;cases h
        | some t =>
          rw[hr]at h
          obtain rfl:=Option.some.inj h
          intro x hx
          rcases List.mem_append.1 hx with hx|hx
          · refine reckonedS_ok (fun y hy=>?_) hr x hx
            simp at hy
            rcases hy with rfl|rfl|rfl
            · exact hi a (by simp)
            · exact hi c (by simp)
            · exact inI_zero
          · simp at hx
            subst hx
            have:=linkS_some hl
            exact⟨by simp;omega,inI_zero⟩
      · cases h
    · cases h
  · cases h
theorem decidedS_ok {row s:List (Int×Int)} (hi:∀ x∈row,inI x.2) (h:decidedS row=some s):∀ x∈s,baseOk x:=by
  unfold decidedS at h
  split at h
  next a b =>
    split at h
    · split at h
      · obtain rfl:=Option.some.inj h;intro x hx;simp at hx
      · obtain rfl:=Option.some.inj h
        intro x hx
        simp at hx
        subst hx
        exact⟨by simp,hi b (by simp)⟩
    · cases h
  · cases h
theorem ops_ok {short:List Int} (h:∀ p∈short,0≤p∧p≤32):∀ x∈short.map (fun p=>(p,(0:Int))),baseOk x:=by
  intro x hx
  obtain⟨p,hp,rfl⟩:=List.mem_map.1 hx
  exact⟨h p hp,inI_zero⟩
theorem rule_ok {r:List (Int×Int)→Option (List (Int×Int))} (hr:r∈rulesS) {row s:List (Int×Int)} (hi:∀ x∈row,inI x.2) (h:r row=some s):∀ x∈s,baseOk x:=by
  unfold rulesS at hr
  simp only[List.mem_cons,List.not_mem_nil,or_false]at hr
  rcases hr with rfl|rfl|rfl|hr
  · exact reckonedS_ok hi h
  · exact chainedS_ok hi h
  · exact decidedS_ok hi h
  · rcases hr with rfl|rfl|rfl|rfl|rfl|rfl|rfl|rfl|rfl|rfl|rfl|rfl|rfl|rfl|rfl|rfl|rfl|rfl|rfl|rfl|rfl|rfl <;>
    · obtain⟨_,rfl⟩:=isS_some h
      exact ops_ok (by simp)
theorem shorterS_ok {row next s:List (Int×Int)} {size:Nat} (hi:∀ x∈row,baseOk x) (h:shorterS row next=some (s,size)):∀ x∈s,baseOk x:=by
  unfold shorterS at h
  obtain⟨n,hn,hs⟩:=List.exists_of_findSome?_eq_some h
  obtain⟨t,ht,e⟩:=Option.map_eq_some_iff.1 hs
  simp only[Prod.mk.injEq]at e
  obtain⟨rfl,rfl⟩:=e
  unfold shortAt at ht
  obtain⟨r,hr,hq⟩:=List.exists_of_findSome?_eq_some ht
  unfold ruleAt at hq
  split at hq
  next s' hs' =>
    split at hq
    · obtain rfl:=Option.some.inj hq
      exact rule_ok hr (fun x hx=>(hi x (List.mem_of_mem_drop hx)).2) hs'
    · cases hq
  · cases hq
theorem settledS_ok (next:List (Int×Int)) (n:Nat) (row:List (Int×Int)) (hi:∀ x∈row,baseOk x):∀ x∈settledS next n row,baseOk x:=by
  induction n generalizing row with
  | zero=>exact hi
  | succ n ih =>
    unfold settledS
    split
    next s size hs =>
      refine ih _ (fun x hx=>?_)
      rcases List.mem_append.1 hx with h|h
      · exact hi x (List.mem_of_mem_take h)
      · exact shorterS_ok hi hs x h
    · exact hi
theorem doneTo_ok (row:List (Int×Int)) (hi:∀ x∈row,baseOk x) (k:Nat):∀ x∈doneTo row k,baseOk x:=by
  induction k with
  | zero=>intro x hx;simp[doneTo]at hx
  | succ k ih =>
    unfold doneTo
    split
    next x hx =>
      refine settledS_ok _ _ _ (fun y hy=>?_)
      rcases List.mem_append.1 hy with h|h
      · exact ih y h
      · simp at h;subst h;exact hi _ (List.mem_of_getElem? hx)
    · exact ih
end Go.Proofs.YtmeiikjpaepogaaGreatDoor
