/- The program's options: plain: Super makes code of programs. -/
import Derived.Test.YtmeiikjpaepogaaGreatDoorE36
import Derived.Test.YtmeiikjpaepogaaGreatDoorE26
import Derived.Test.YtmeiikjpaepogaaGreatDoorE05
import Derived.Test.YtmeiikjpaepogaaGreatDoorE19
namespace Go.Proofs.YtmeiikjpaepogaaGreatDoor
open Go Go.RowKit
theorem super_goes (op:Nat) (h:40≤op) (h':op<60):∀ p∈superS op,goesS p=true:=by
  have:∀ k:Fin 20,∀ p∈superS ((k.val+40:Nat):Int),goesS p=true:=by decide
  have h1:=this ⟨op-40,by omega⟩
  have e:op-40+40=op:=by omega
  simp only[e]at h1
  exact h1
theorem numGo_ops {n:Int} {row:List (Int×Int)} {ps:List Int} {v:Int} (h:numGo n row ps=some v):∀ (j:Nat) (p:Int),ps[j]? = some p→∃ x:Int×Int,row[j]? = some x∧x.1=p:=by
  induction ps generalizing n row with
  | nil=>intro j p hj;simp at hj
  | cons q ps ih =>
    cases row with
    | nil=>cases h
    | cons x r =>
      unfold numGo at h
      split at h
      next hx =>
        intro j p hj
        cases j with
        | zero=>simp at hj;exact⟨x,rfl,by rw[hx,hj]⟩
        | succ j=>exact ih h j p (by simpa using hj)
      · cases h
theorem numGo_in {n:Int} {row:List (Int×Int)} {ps:List Int} {v:Int} (hn:inI n) (hr:∀ x∈row,inI x.2) (h:numGo n row ps=some v):inI v:=by
  induction ps generalizing n row with
  | nil=>unfold numGo at h;obtain rfl:=Option.some.inj h;exact hn
  | cons q ps ih =>
    cases row with
    | nil=>cases h
    | cons x r =>
      unfold numGo at h
      split at h
      · refine ih ?_ (fun y hy=>hr y (by simp[hy])) h
        split
        · exact hr x (by simp)
        · exact hn
      · cases h
theorem pieces_op {row:List (Int×Int)} {p:Pc} (h:p∈piecesS row) (hr:∀ x∈row,inI x.2):(40≤p.1∧p.1≤59)∧inI p.2.1∧∀ j:Nat,j<p.2.2.toNat→∃ x:Int×Int,row[j]? = some x∧goesS x.1=true:=by
  unfold piecesS piecesTo at h
  obtain⟨op,hop,he⟩:=List.mem_filterMap.1 h
  obtain⟨i,hi,rfl⟩:=List.mem_map.1 hop
  have hi:=List.mem_range.1 hi
  unfold pieceAt at he
  obtain⟨n,hn,rfl⟩:=Option.map_eq_some_iff.1 he
  refine⟨by simp only;omega,numGo_in inI_zero hr hn,fun j hj=>?_⟩
  simp only[Int.toNat_natCast]at hj
  have hq:=List.getElem?_eq_getElem hj
  obtain⟨x,hx,e⟩:=numGo_ops hn j _ hq
  refine⟨x,hx,?_⟩
  rw[e]
  exact super_goes (i+40) (by omega) (by omega) _ (List.getElem_mem hj)
theorem bestTo_from (x:Int×Int) (r:List (Int×Int)) (t:List (Pc×Int)) (k:Nat):(bestTo x r t k).1=(x.1,x.2,1)∨(bestTo x r t k).1∈piecesS (x :: r):=by
  induction k with
  | zero=>exact Or.inl rfl
  | succ k ih =>
    cases e:(piecesS (x :: r))[k]? with
    | none =>
      have:bestTo x r t (k+1)=bestTo x r t k:=by
        unfold bestTo
        rw[List.take_add_one,e]
        simp
      rw[this]
      exact ih
    | some p =>
      rw[bestTo_next e]
      unfold fewStep
      split
      · exact Or.inr (List.mem_of_getElem? e)
      · exact ih
theorem few_at (row:List (Int×Int)) (i:Nat) (x:Int×Int) (h:row[i]? = some x):∃ b,(few row)[i]? = some b∧(b.1=(x.1,x.2,1)∨b.1∈piecesS (row.drop i)):=by
  induction row generalizing i with
  | nil=>simp at h
  | cons y r ih =>
    cases i with
    | zero =>
      simp at h
      subst h
      exact⟨_,rfl,bestTo_from y r (few r) _⟩
    | succ i =>
      obtain⟨b,h1,h2⟩:=ih i (by simpa using h)
      exact⟨b,by unfold few;simpa using h1,by simpa using h2⟩
theorem pick_at {row:List (Int×Int)} {i n:Nat} {x:Int×Int} (h:row[i]? = some x):∃ p:Pc,((few row).map Prod.fst)[i]? = some p∧pickGo ((few row).map Prod.fst) (n+1) i=(p.1,p.2.1) :: pickGo ((few row).map Prod.fst) n (i+p.2.2.toNat)∧(p=(x.1,x.2,1)∨p∈piecesS (row.drop i)):=by
  obtain⟨b,hb,hp⟩:=few_at row i x h
  refine⟨b.1,by rw[List.getElem?_map,hb];rfl,?_,hp⟩
  rw[pickGo]
  rw[List.getElem?_map,hb]
  rfl
theorem pick_mem (row:List (Int×Int)) (hr:∀ x∈row,baseOk x) (n i:Nat):∀ y∈pickGo ((few row).map Prod.fst) n i,y∈row∨((40≤y.1∧y.1≤59)∧inI y.2):=by
  induction n generalizing i with
  | zero=>intro y hy;simp[pickGo]at hy
  | succ n ih =>
    cases e:row[i]? with
    | none =>
      intro y hy
      have:((few row).map Prod.fst)[i]? = none:=by
        rw[List.getElem?_eq_none_iff]at e ⊢
        rw[List.length_map,few_len]
        exact e
      unfold pickGo at hy
      rw[this]at hy
      simp at hy
    | some x =>
      obtain⟨p,_,h2,h3⟩:=pick_at (n:=n) e
      rw[h2]
      intro y hy
      rcases List.mem_cons.1 hy with rfl|hy
      · rcases h3 with rfl|h3
        · exact Or.inl (List.mem_of_getElem? e)
        · have:=pieces_op h3 (fun z hz=>(hr z (List.mem_of_mem_drop hz)).2)
          exact Or.inr ⟨this.1,this.2.1⟩
      · exact ih _ y hy
theorem pick_last (row:List (Int×Int)) (hr:∀ x∈row,baseOk x) {z:Int×Int} (hz:row.getLast? = some z) (hg:goesS z.1=false) (n i:Nat) (hi:i<row.length) (hn:row.length-i≤n):(pickGo ((few row).map Prod.fst) n i).getLast? = some z:=by
  have hzl:row[row.length-1]? = some z:=by rw[← List.getLast?_eq_getElem?];exact hz
  induction n generalizing i with
  | zero=>omega
  | succ n ih =>
    obtain⟨x,hx⟩:∃ x,row[i]? = some x:=⟨_,List.getElem?_eq_getElem hi⟩
    obtain⟨p,h1,h2,h3⟩:=pick_at (n:=n) hx
    rw[h2]
    rcases h3 with rfl|h3
    · by_cases hend:i+1=row.length
      · have e:pickGo ((few row).map Prod.fst) n (i+((x.1,x.2,(1:Int)):Pc).2.2.toNat)=[]:=by
          cases n with
          | zero=>rfl
          | succ n =>
            unfold pickGo
            rw[List.getElem?_eq_none]
            rw[List.length_map,few_len]
            simp only[Int.toNat_one]
            omega
        rw[e]
        rw[show row.length-1=i by omega,hx]at hzl
        obtain rfl:=Option.some.inj hzl
        rfl
      · have:=ih (i+1) (by omega) (by omega)
        rw[List.getLast?_cons]
        simp only[Int.toNat_one]
        rw[this]
        rfl
    · have hpp:=pieces_parts h3
      have hop:=pieces_op h3 (fun z hz=>(hr z (List.mem_of_mem_drop hz)).2)
      rw[List.length_drop]at hpp
      have hlt:i+p.2.2.toNat<row.length:=by
        refine Nat.lt_of_le_of_ne (by omega) (fun e=>?_)
        obtain⟨y,hy,hgy⟩:=hop.2.2 (p.2.2.toNat-1) (by omega)
        rw[List.getElem?_drop,show i+(p.2.2.toNat-1)=row.length-1 by omega,hzl]at hy
        obtain rfl:=Option.some.inj hy
        rw[hgy]at hg
        cases hg
      have:=ih (i+p.2.2.toNat) hlt (by omega)
      rw[List.getLast?_cons,this]
      rfl
theorem join_code {p:PrS} (hp:PrOk p) {f:Blo→Blo} (hf:∀ b,(f b).1=b.1) (hle:∀ b,(f b).2.length≤b.2.length)
    (hins:∀ b∈blocksS p.1 p.2,∀ y∈(f b).2,y∈p.1∨((40≤y.1∧y.1≤59)∧inI y.2))
    {c:Blo} (hcl:((blocksS p.1 p.2).map f).getLast? = some c) {z:Int×Int} (hz:c.2.getLast? = some z) (hg:goesS z.1=false) :
    CodeOk (joinedS p.1.length p.2 ((blocksS p.1 p.2).map f)).1∧(joinedS p.1.length p.2 ((blocksS p.1 p.2).map f)).2<(joinedS p.1.length p.2 ((blocksS p.1 p.2).map f)).1.length:=by
  have hb:=blocks_ok hp
  have hne:c.2≠[]:=by intro e;rw[e]at hz;simp at hz
  have num:=fun {t:Int} (ht:Live (blocksS p.1 p.2) ((blocksS p.1 p.2).map f) t)=>join_num (l:=p.1) hf hb.firsts hb.full hb.low ht
  have hlen:=joinedS_len p.1.length p.2 ((blocksS p.1 p.2).map f)
  have hjl:=join_le f hle p
  have hsm:=hp.small
  have hl1:(joinedS p.1.length p.2 ((blocksS p.1 p.2).map f)).1=(((blocksS p.1 p.2).map f).flatMap (·.2)).map (renS (numsTo ((blocksS p.1 p.2).map f) p.1.length ((blocksS p.1 p.2).map f).length).1):=listTo_flat _ _
  refine⟨⟨fun x hx=>?_,?_,by omega⟩,?_⟩
  · rw[hl1]at hx
    obtain⟨y,hy,rfl⟩:=List.mem_map.1 hx
    obtain⟨d,hd,hyd⟩:=List.mem_flatMap.1 hy
    obtain⟨b,hbm,rfl⟩:=List.mem_map.1 hd
    rw[ren_op]
    rcases hins b hbm y hyd with h|h
    · have hbase:=hp.base y h
      by_cases hn:namesS y.1=true
      · obtain⟨h1,h2,h3⟩:=begS_of_target hp ⟨y,h,hn,rfl⟩
        have hnn:=num (live_last hb hcl hne h1 h2 h3)
        have e:(renS (numsTo ((blocksS p.1 p.2).map f) p.1.length ((blocksS p.1 p.2).map f).length).1 y).2=(numsTo ((blocksS p.1 p.2).map f) p.1.length ((blocksS p.1 p.2).map f).length).1.getD y.2.toNat 0:=by
          unfold renS
          rw[if_pos hn]
        rw[e]
        exact⟨Or.inl hbase.1,by unfold inI;omega,fun _=>by omega⟩
      · have e:renS (numsTo ((blocksS p.1 p.2).map f) p.1.length ((blocksS p.1 p.2).map f).length).1 y=y:=by
          unfold renS
          rw[if_neg hn]
        rw[e]
        exact⟨Or.inl hbase.1,hbase.2,fun h=>absurd h hn⟩
    · have hn:namesS y.1=false:=names_not (Or.inr (by omega))
      have e:renS (numsTo ((blocksS p.1 p.2).map f) p.1.length ((blocksS p.1 p.2).map f).length).1 y=y:=by
        unfold renS
        rw[hn]
        rfl
      rw[e,hn]
      exact⟨Or.inr h.1,h.2,fun h=>by cases h⟩
  · refine⟨renS _ z,by rw[hl1,List.getLast?_map,flat_last hcl hne,hz];rfl,?_⟩
    rw[ren_op]
    unfold goesS at hg
    rw[Bool.not_eq_false']at hg
    exact of_decide_eq_true hg
  · have he:=hp.entry
    have:=num (live_last hb hcl hne (t:=p.2) (by omega) (by rw[Int.toNat_natCast];exact he) (by rw[Int.toNat_natCast];exact begS_entry p.1 p.2 he))
    rw[Int.toNat_natCast]at this
    unfold joinedS at hlen ⊢
    simp only at hlen ⊢
    omega
theorem super_code {p:PrS} (hp:PrOk p):CodeOk (superP p).1∧(superP p).2<(superP p).1.length:=by
  have hb:=blocks_ok hp
  obtain⟨t,c,hc⟩:∃ t c,blocksS p.1 p.2=t++[c]:=by
    rcases List.eq_nil_or_concat (blocksS p.1 p.2) with h|⟨t,c,h⟩
    · exact absurd h hb.some
    · exact⟨t,c,by rw[h,List.concat_eq_append]⟩
  have hcm:c∈blocksS p.1 p.2:=by rw[hc];simp
  have hcl:(blocksS p.1 p.2).getLast? = some c:=by rw[hc];simp
  have hlastl:c.2.getLast? = p.1.getLast?:=by
    rw[← hb.flat]
    exact (flat_last hcl (hb.full c hcm)).symm
  obtain⟨z,hz⟩:∃ z,c.2.getLast? = some z:=by
    cases e:c.2.getLast? with
    | none=>rw[List.getLast?_eq_none_iff]at e;exact absurd e (hb.full c hcm)
    | some z=>exact⟨z,rfl⟩
  have hzg:goesS z.1=false:=goes_last hp.last z (by rw[← hlastl];exact hz)
  have hmem:∀ b∈blocksS p.1 p.2,∀ y∈b.2,y∈p.1:=fun b hbm y hy=>by
    rw[← hb.flat]
    exact List.mem_flatMap.2 ⟨b,hbm,hy⟩
  have hcl2:((blocksS p.1 p.2).map (fun b=>(b.1,fewestS b.2))).getLast? = some (c.1,fewestS c.2):=by rw[List.getLast?_map,hcl];rfl
  have hpos:=List.length_pos_iff.2 (hb.full c hcm)
  refine join_code hp (fun _=>rfl) (fun _=>pickGo_len _ _ _) (fun b hbm y hy=>?_) hcl2 (z:=z) ?_ hzg
  · rcases pick_mem b.2 (fun x hx=>hp.base x (hmem b hbm x hx)) _ _ y hy with h|h
    · exact Or.inl (hmem b hbm y h)
    · exact Or.inr h
  · exact pick_last c.2 (fun x hx=>hp.base x (hmem c hcm x hx)) hz hzg c.2.length 0 hpos (by omega)
theorem pr_code {p:PrS} (h:PrOk p):CodeOk p.1:=by
  refine⟨fun x hx=>⟨Or.inl (h.ins x hx).1.1,(h.ins x hx).1.2,(h.ins x hx).2⟩,?_,h.small⟩
  have he:=h.entry
  obtain⟨z,hz⟩:∃ z,p.1.getLast? = some z:=by
    rw[List.getLast?_eq_getElem?]
    exact⟨_,List.getElem?_eq_getElem (by omega)⟩
  refine⟨z,hz,?_⟩
  have:=goes_last h.last z hz
  unfold goesS at this
  rw[Bool.not_eq_false']at this
  exact of_decide_eq_true this
theorem code_pr {l:List (Int×Int)} {en:Nat} (h:CodeOk l) (hb:∀ x∈l,x.1≤32) (he:en<l.length):PrOk (l,en):=by
  refine⟨fun x hx=>?_,last_goes (fun y hy=>?_),h.small,he⟩
  · have h1:=h.ins x hx
    have h2:=hb x hx
    exact⟨⟨by omega,h1.2.1⟩,h1.2.2⟩
  · obtain⟨z,hz,h3⟩:=h.last
    rw[hz]at hy
    obtain rfl:=Option.some.inj hy
    unfold goesS
    rw[decide_eq_true h3]
    rfl
theorem tailS_len (l:List (Int×Int)):(tailS l).length=l.length:=by unfold tailS;simp
theorem tailS_at (l:List (Int×Int)) (k:Nat) (x:Int×Int) (hx:l[k]? = some x):(x.1=3∧(∃ y,l[k+1]? = some y∧y.1=4)∧(tailS l)[k]? = some (1,x.2))∨(tailS l)[k]? = some x:=by
  have hk:=(List.getElem?_eq_some_iff.1 hx).1
  have e:(tailS l)[k]? = some (tailAt l k):=by
    unfold tailS
    rw[List.getElem?_map,List.getElem?_range hk]
    rfl
  unfold tailAt at e
  rw[hx]at e
  cases hy:l[k+1]? with
  | none=>rw[hy]at e;exact Or.inr e
  | some y =>
    rw[hy]at e
    simp only at e
    by_cases h:x.1=3∧y.1=4
    · rw[if_pos h]at e
      exact Or.inl ⟨h.1,⟨y,rfl,h.2⟩,e⟩
    · rw[if_neg h]at e
      exact Or.inr e
theorem tail_pr {p:PrS} (h:PrOk p):PrOk (tailS p.1,p.2):=by
  have hl:=tailS_len p.1
  have hs:=h.small
  have he:=h.entry
  have at':∀ (k:Nat) (y:Int×Int),(tailS p.1)[k]? = some y→∃ x:Int×Int,p.1[k]? = some x∧(y=x∨x.1=3∧y=(1,x.2)):=by
    intro k y hy
    have hk:=(List.getElem?_eq_some_iff.1 hy).1
    obtain⟨x,hx⟩:∃ x,p.1[k]? = some x:=⟨_,List.getElem?_eq_getElem (by omega)⟩
    refine⟨x,hx,?_⟩
    rcases tailS_at p.1 k x hx with ⟨h1,_,h2⟩|h2
    · rw[hy]at h2;exact Or.inr ⟨h1,Option.some.inj h2⟩
    · rw[hy]at h2;exact Or.inl (Option.some.inj h2)
  refine⟨fun y hy=>?_,fun k y hy hg=>?_,by simp only;omega,by simp only;omega⟩
  · obtain⟨k,hk⟩:=List.getElem?_of_mem hy
    obtain⟨x,hx,e⟩:=at' k y hk
    have h1:=h.ins x (List.mem_of_getElem? hx)
    simp only[hl]
    rcases e with rfl|⟨h3,rfl⟩
    · exact h1
    · exact⟨⟨by simp,h1.1.2⟩,fun _=>h1.2 (by rw[h3];rfl)⟩
  · obtain⟨x,hx,e⟩:=at' k y hy
    simp only[hl]
    rcases e with rfl|⟨h3,rfl⟩
    · exact h.last k y hx hg
    · exfalso
      have h1:goesS (1:Int)=false:=by decide
      simp only[h1]at hg
      cases hg
theorem foldGo_pr (n:Nat):∀ p:PrS,PrOk p→PrOk (foldGo n p):=by
  induction n with
  | zero=>intro p h;exact h
  | succ n ih =>
    intro p h
    unfold foldGo
    split
    · exact (once_ok h).p4
    · exact ih _ (once_ok h).p4
def tailP (p:PrS):PrS:=(tailS p.1,p.2)
def foldP (p:PrS):PrS:=foldGo (p.1.length+1) p
def withP (f t s:Bool) (p:PrS):PrS :=
  let p1:=if t=true then tailP p else p
  let p2:=if f=true then foldP p1 else p1
  if s=true then superP p2 else p2
theorem foldP_pr {p:PrS} (h:PrOk p):PrOk (foldP p):=foldGo_pr _ p h
theorem withP_code {f t s:Bool} {p:PrS} (h:PrOk p):CodeOk (withP f t s p).1∧(withP f t s p).2<(withP f t s p).1.length:=by
  have h1:PrOk (if t=true then tailP p else p):=by split;exact tail_pr h;exact h
  have h2:PrOk (if f=true then foldP (if t=true then tailP p else p) else (if t=true then tailP p else p)):=by split;exact foldP_pr h1;exact h1
  unfold withP
  simp only
  split
  · exact super_code h2
  · exact⟨pr_code h2,h2.entry⟩
def TailRel (l l':List (Int×Int)):Prop:=(∀ k:Nat,l[k]? = none→l'[k]? = none)∧∀ (k:Nat) (x:Int×Int),l[k]? = some x→(x.1=3∧(∃ y,l[k+1]? = some y∧y.1=4)∧l'[k]? = some (1,x.2))∨l'[k]? = some x
inductive Ext (l:List (Int×Int)):List Int→List Int→Prop
  | nil:Ext l [] []
  | same {c c':List Int} (a:Int):Ext l c c'→Ext l (c++[a]) (c'++[a])
  | more {c c':List Int} (a:Int) (x:Int×Int):l[a.toNat]? = some x→x.1=4→Ext l c c'→Ext l (c++[a]) c'
theorem Ext.len {l:List (Int×Int)} {c c':List Int} (h:Ext l c c'):c'.length≤c.length:=by
  induction h with
  | nil=>exact Nat.le_refl _
  | same a _ ih=>rw[List.length_append,List.length_append];simp;exact ih
  | more a x _ _ _ ih=>rw[List.length_append];simp;omega
def RetAt (l:List (Int×Int)) (m:MS):Prop:=∃ x,l[m.pc.toNat]? = some x∧x.1=4
structure Sim (l l':List (Int×Int)) (m m':MS):Prop where
  rest:m'={ m with calls:=m'.calls,pc:=m'.pc }
  calls:Ext l m.calls m'.calls
  pc:m.pc=m'.pc∨RetAt l m∧RetAt l' m'
theorem refused_calls (m:MS) (c:List Int) (pc:Int) (op:Int) (h3:op≠3) (h4:op≠4):refusedS { m with calls:=c,pc:=pc } op=refusedS m op:=by
  unfold refusedS topS
  simp only[if_neg h3,if_neg h4]
theorem ite_calls {k:Prop} [Decidable k] {a b a' b':MS} {c:List Int} (ha:a={ a' with calls:=c }) (hb:b={ b' with calls:=c }):(if k then a else b)={ (if k then a' else b') with calls:=c }:=by
  split<;>assumption
theorem doS_calls (m:MS) (c:List Int) (op arg:Int) (h3:op≠3) (h4:op≠4):doS { m with calls:=c } op arg={ doS m op arg with calls:=c }:=by
  unfold doS
  simp only[if_neg h3,if_neg h4]
  repeat' (first|refine ite_calls ?_ ?_|rfl)
theorem ite_kept {k:Prop} [Decidable k] {p:MS→Prop} {a b:MS} (ha:p a) (hb:p b):p (if k then a else b):=by split<;>assumption
theorem doS_keepCalls (m:MS) (op arg:Int) (h3:op≠3) (h4:op≠4):(doS m op arg).calls=m.calls:=by
  unfold doS
  simp only[if_neg h3,if_neg h4]
  repeat' (first|refine ite_kept (p:=fun z=>z.calls=m.calls) ?_ ?_|rfl)
theorem parts_calls (arg:Int) (c:List Int) (ps:List Int) (hp:∀ op∈ps,op≠3∧op≠4):∀ m:MS,partsRun arg ps { m with calls:=c }=({ (partsRun arg ps m).1 with calls:=c },(partsRun arg ps m).2)∧(partsRun arg ps m).1.calls=m.calls:=by
  induction ps with
  | nil=>intro m;exact⟨rfl,rfl⟩
  | cons op r ih =>
    intro m
    obtain⟨h3,h4⟩:=hp op (by simp)
    have hr:refusedS { m with calls:=c } op=refusedS m op:=refused_calls m c m.pc op h3 h4
    unfold partsRun
    rw[hr]
    by_cases h0:refusedS m op=0
    · rw[if_pos h0,if_pos h0,doS_calls m c op arg h3 h4]
      obtain⟨e1,e2⟩:=ih (fun o ho=>hp o (by simp[ho])) (doS m op arg)
      exact⟨e1,by rw[e2,doS_keepCalls m op arg h3 h4]⟩
    · rw[if_neg h0,if_neg h0]
      exact⟨rfl,rfl⟩
theorem parts_no34 (op:Int) (h3:op≠3) (h4:op≠4):∀ o∈partsS op,o≠3∧o≠4:=by
  unfold partsS
  have key:∀ x∈partsTab,∀ o∈x.2,o≠3∧o≠4:=by decide
  split
  next x hx=>exact key x (List.mem_of_find?_eq_some hx)
  · split
    · intro o ho
      simp at ho
      subst ho
      exact⟨h3,h4⟩
    · intro o ho
      simp at ho
theorem parts_one (op:Int) (h:op=1∨op=3∨op=4):partsS op=[op]:=by
  rcases h with rfl|rfl|rfl<;>decide
theorem ref_jump (m:MS):refusedS m 1=0:=by
  unfold refusedS
  simp[needsS,asideS,show ¬ ((m.stack.length:Int)<0) by omega,show ¬ ((m.side.length:Int)<0) by omega]
theorem ref_call (m:MS):refusedS m 3=if m.lc≤m.calls.length then 11 else 0:=by
  unfold refusedS
  simp[needsS,asideS,show ¬ ((m.stack.length:Int)<0) by omega,show ¬ ((m.side.length:Int)<0) by omega]
theorem ref_ret (m:MS):refusedS m 4=if m.calls.length=0 then 11 else 0:=by
  unfold refusedS
  simp[needsS,asideS,show ¬ ((m.stack.length:Int)<0) by omega,show ¬ ((m.side.length:Int)<0) by omega]
theorem step_jump {l:List (Int×Int)} {m:MS} {a:Int} (h:l[m.pc.toNat]? = some (1,a)):stepM l m=({ m with pc:=a },0):=by
  unfold stepM
  rw[h]
  simp only
  rw[parts_one 1 (Or.inl rfl)]
  unfold partsRun
  rw[ref_jump,if_pos rfl]
  rfl
theorem step_call' {l:List (Int×Int)} {m:MS} {a:Int} (h:l[m.pc.toNat]? = some (3,a)):stepM l m=if m.lc≤m.calls.length then ({ m with pc:=m.pc+1 },11) else ({ m with calls:=m.calls++[m.pc+1],pc:=a },0):=by
  unfold stepM
  rw[h]
  simp only
  rw[parts_one 3 (Or.inr (Or.inl rfl))]
  unfold partsRun
  rw[ref_call]
  by_cases hc:m.lc≤m.calls.length
  · simp only[if_pos hc]
    rw[if_neg (by omega)]
  · simp only[if_neg hc]
    rfl
theorem step_ret {l:List (Int×Int)} {m:MS} {a:Int} (h:l[m.pc.toNat]? = some (4,a)):stepM l m=if m.calls.length=0 then ({ m with pc:=m.pc+1 },11) else ({ m with calls:=m.calls.dropLast,pc:=topL m.calls },0):=by
  unfold stepM
  rw[h]
  simp only
  rw[parts_one 4 (Or.inr (Or.inr rfl))]
  unfold partsRun
  rw[ref_ret]
  by_cases hc:m.calls.length=0
  · simp only[if_pos hc]
    rw[if_neg (by omega)]
  · simp only[if_neg hc]
    rfl
theorem tail_step {l l':List (Int×Int)} (hr:TailRel l l') {m m':MS} (hs:Sim l l' m m') (ho:RunOk l m) (h11:(stepM l m).2≠11) :
    ((stepM l m).2=0∧Sim l l' (stepM l m).1 m')∨((stepM l m).2=0∧(stepM l' m').2=0∧Sim l l' (stepM l m).1 (stepM l' m').1)∨((stepM l' m').2=(stepM l m).2∧(stepM l m).2≠0∧(stepM l' m').1.out=(stepM l m).1.out):=by
  obtain⟨hrest,hcalls,hpc⟩:=hs
  obtain⟨x,hx⟩:∃ x,l[m.pc.toNat]? = some x:=⟨_,List.getElem?_eq_getElem (by have:=ho.pc;omega)⟩
  obtain⟨op,arg⟩:=x
  by_cases h4:op=4
  · subst h4
    have hret':RetAt l' m':=by
      rcases hpc with e|⟨_,h⟩
      · rcases hr.2 _ _ hx with ⟨h3,_⟩|h
        · simp at h3
        · exact⟨_,by rw[← e];exact h,rfl⟩
      · exact h
    obtain⟨⟨op',arg'⟩,hx',h4'⟩:=hret'
    simp only at h4'
    subst h4'
    rw[step_ret hx]at h11 ⊢
    by_cases hc:m.calls.length=0
    · rw[if_pos hc]at h11
      exact absurd rfl h11
    · rw[if_neg hc]
      generalize hcc:m.calls=cc at *
      generalize hcc':m'.calls=cc' at *
      cases hcalls with
      | nil=>simp at hc
      | same a h =>
        right;left
        rw[step_ret hx',hcc',if_neg (by simp)]
        refine⟨rfl,rfl,?_,?_,Or.inl ?_⟩
        · rw[hrest]
        · simp only[List.dropLast_concat]
          exact h
        · simp[topL]
      | more a y hy h4 h =>
        left
        refine⟨rfl,?_,?_,Or.inr ⟨⟨y,?_,h4⟩,⟨_,hx',rfl⟩⟩⟩
        · rw[hrest]
        · simp only[List.dropLast_concat]
          rw[hcc']
          exact h
        · simpa [topL] using hy
  · have hpe:m.pc=m'.pc:=by
      rcases hpc with e|⟨⟨y,hy,hy4⟩,_⟩
      · exact e
      · rw[hx]at hy
        obtain rfl:=Option.some.inj hy
        exact absurd hy4 h4
    by_cases h3:op=3
    · subst h3
      rw[step_call' hx]at h11 ⊢
      by_cases hc:m.lc≤m.calls.length
      · rw[if_pos hc]at h11
        exact absurd rfl h11
      · rw[if_neg hc]
        right;left
        rcases hr.2 _ _ hx with ⟨_,⟨y,hy,hy4⟩,h'⟩|h'
        · rw[hpe]at h'
          rw[step_jump h']
          refine⟨rfl,rfl,?_,?_,Or.inl rfl⟩
          · rw[hrest]
          · exact Ext.more (m.pc+1) y (by rw[show (m.pc+1).toNat=m.pc.toNat+1 by have:=ho.pc;omega];exact hy) hy4 hcalls
        · rw[hpe]at h'
          have hlen:=hcalls.len
          have hlc:m'.lc=m.lc:=by rw[hrest]
          rw[step_call' h',if_neg (by rw[hlc];omega)]
          refine⟨rfl,rfl,?_,?_,Or.inl rfl⟩
          · rw[hrest]
          · rw[← hpe]
            exact Ext.same _ hcalls
    · have hx':l'[m.pc.toNat]? = some (op,arg):=by
        rcases hr.2 _ _ hx with ⟨h,_⟩|h
        · exact absurd h h3
        · exact h
      have e1:stepM l m=partsRun arg (partsS op) { m with pc:=m.pc+1 }:=by unfold stepM;rw[hx]
      have e2:stepM l' m'=partsRun arg (partsS op) { m with pc:=m.pc+1,calls:=m'.calls }:=by
        unfold stepM
        rw[← hpe,hx',hrest]
      obtain⟨k1,k2⟩:=parts_calls arg m'.calls (partsS op) (parts_no34 op h3 h4) { m with pc:=m.pc+1 }
      rw[e2,e1,k1]
      by_cases h0:(partsRun arg (partsS op) { m with pc:=m.pc+1 }).2=0
      · right;left
        refine⟨h0,h0,rfl,?_,Or.inl rfl⟩
        rw[k2]
        exact hcalls
      · right;right
        exact⟨rfl,h0,rfl⟩
theorem tail_run {l l':List (Int×Int)} (hl:CodeOk l) (hr:TailRel l l') (n:Nat):∀ (n':Nat) (s s':Int) (m m':MS),n≤n'→s'≤s→Sim l l' m m'→(m.halted=true∨RunOk l m)→(runM l n s m).2.1≠15→(runM l n s m).2.1≠11 →
    (runM l' n' s' m').2.1=(runM l n s m).2.1∧(runM l' n' s' m').1.out=(runM l n s m).1.out∧((runM l n s m).2.1=0→(runM l' n' s' m').1.stack=(runM l n s m).1.stack∧(runM l' n' s' m').1.cells=(runM l n s m).1.cells)∧(runM l' n' s' m').2.2≤(runM l n s m).2.2:=by
  have halt:∀ (k:Nat) (s:Int) (l:List (Int×Int)) (m:MS),m.halted=true→runM l k s m=(m,0,s):=by
    intro k s l m h
    cases k<;>(unfold runM;rw[if_pos h])
  induction n with
  | zero =>
    intro n' s s' m m' _ hs hsim _ h15 _
    have hh:m.halted=true:=by
      cases e:m.halted with
      | true=>rfl
      | false=>exfalso;apply h15;unfold runM;rw[e];rfl
    have hh':m'.halted=true:=by rw[hsim.rest];exact hh
    rw[halt _ _ _ _ hh,halt _ _ _ _ hh']
    refine⟨rfl,by rw[hsim.rest],fun _=>⟨by rw[hsim.rest],by rw[hsim.rest]⟩,hs⟩
  | succ n ih =>
    intro n' s s' m m' hn hs hsim hok h15 h11
    by_cases hh:m.halted=true
    · have hh':m'.halted=true:=by rw[hsim.rest];exact hh
      rw[halt _ _ _ _ hh,halt _ _ _ _ hh']
      exact⟨rfl,by rw[hsim.rest],fun _=>⟨by rw[hsim.rest],by rw[hsim.rest]⟩,hs⟩
    · have hrun:RunOk l m:=by
        rcases hok with h|h
        · exact absurd h hh
        · exact h
      have e:runM l (n+1) s m=if (stepM l m).2=0 then runM l n (s+1) (stepM l m).1 else ((stepM l m).1,(stepM l m).2,s+1):=by
        rw[runM,if_neg hh]
      have hh':¬ m'.halted=true:=by rw[hsim.rest];exact hh
      have hs11:(stepM l m).2≠11:=by
        intro h
        rw[e,if_neg (by omega)]at h11
        exact h11 h
      rcases tail_step hr hsim hrun hs11 with ⟨h0,hsim2⟩|⟨h0,h0',hsim2⟩|⟨he,hne,hout⟩
      · rw[e,if_pos h0]at h15 h11 ⊢
        exact ih n' (s+1) s' _ m' (by omega) (by omega) hsim2 (stepM_ok l m hl hrun h0) h15 h11
      · obtain⟨k,rfl⟩:∃ k,n'=k+1:=⟨n'-1,by omega⟩
        have e':runM l' (k+1) s' m'=runM l' k (s'+1) (stepM l' m').1:=by rw[runM,if_neg hh',if_pos h0']
        rw[e,if_pos h0]at h15 h11 ⊢
        rw[e']
        exact ih k (s+1) (s'+1) _ _ (by omega) (by omega) hsim2 (stepM_ok l m hl hrun h0) h15 h11
      · obtain⟨k,rfl⟩:∃ k,n'=k+1:=⟨n'-1,by omega⟩
        have e':runM l' (k+1) s' m'=((stepM l' m').1,(stepM l' m').2,s'+1):=by rw[runM,if_neg hh',if_neg (by rw[he];exact hne)]
        rw[e,if_neg hne,e']
        exact⟨he,hout,fun h=>absurd h hne,by simp only;omega⟩
abbrev Obs:=Int×List Int×List Int×ByteArray
inductive Ends (l:List (Int×Int)):MS→Nat→Obs→Prop
  | halt {m:MS}:m.halted=true→Ends l m 0 (0,m.stack,m.cells,m.out)
  | err {m:MS}:m.halted=false→(stepM l m).2≠0→Ends l m 1 ((stepM l m).2,[],[],(stepM l m).1.out)
  | step {m:MS} {k:Nat} {o:Obs}:m.halted=false→(stepM l m).2=0→Ends l (stepM l m).1 k o→Ends l m (k+1) o
def obsOf (r:MS×Int×Int):Obs:=(r.2.1,if r.2.1=0 then r.1.stack else [],if r.2.1=0 then r.1.cells else [],r.1.out)
theorem run_ends (l:List (Int×Int)) (n:Nat):∀ (s:Int) (m:MS),(runM l n s m).2.1≠15→∃ k:Nat,k≤n∧(runM l n s m).2.2=s+k∧Ends l m k (obsOf (runM l n s m)):=by
  induction n with
  | zero =>
    intro s m h
    unfold runM at h ⊢
    split at h
    next hh =>
      rw[if_pos hh]
      exact⟨0,Nat.le_refl _,by simp,Ends.halt hh⟩
    · exact absurd rfl h
  | succ n ih =>
    intro s m h
    unfold runM at h ⊢
    split at h
    next hh =>
      rw[if_pos hh]
      exact⟨0,by omega,by simp,Ends.halt hh⟩
    next hh =>
      rw[if_neg hh]
      have hf:m.halted=false:=by simpa using hh
      split at h
      next h0 =>
        rw[if_pos h0]
        obtain⟨k,h1,h2,h3⟩:=ih _ _ h
        exact⟨k+1,by omega,by rw[h2];push_cast;omega,Ends.step hf h0 h3⟩
      next h0 =>
        rw[if_neg h0]
        refine⟨1,by omega,rfl,?_⟩
        unfold obsOf
        simp only[if_neg h0]
        exact Ends.err hf h0
theorem ends_run {l:List (Int×Int)} {m:MS} {k:Nat} {o:Obs} (h:Ends l m k o):∀ (n:Nat) (s:Int),k≤n→(runM l n s m).2.2=s+k∧obsOf (runM l n s m)=o:=by
  induction h with
  | @halt m hh =>
    intro n s _
    have e:runM l n s m=(m,0,s):=by cases n<;>(unfold runM;rw[if_pos hh])
    rw[e]
    exact⟨by simp,rfl⟩
  | @err m hf h0 =>
    intro n s hn
    obtain⟨n,rfl⟩:∃ j,n=j+1:=⟨n-1,by omega⟩
    rw[runM,if_neg (by rw[hf];simp),if_neg h0]
    exact⟨rfl,by unfold obsOf;simp only[if_neg h0]⟩
  | @step m k o hf h0 _ ih =>
    intro n s hn
    obtain⟨n,rfl⟩:∃ j,n=j+1:=⟨n-1,by omega⟩
    rw[runM,if_neg (by rw[hf];simp),if_pos h0]
    obtain⟨h1,h2⟩:=ih n (s+1) (by omega)
    exact⟨by rw[h1];push_cast;omega,h2⟩
abbrev insX (x:Int×Int) (m:MS):MS×Int:=partsRun x.2 (partsS x.1) m
def rowX:List (Int×Int)→MS→MS×Int×Nat
  | [],m=>(m,0,0)
  | x :: r,m=>if (insX x m).2=0 then ((rowX r (insX x m).1).1,(rowX r (insX x m).1).2.1,(rowX r (insX x m).1).2.2+1) else ((insX x m).1,(insX x m).2,1)
theorem rowX_app (a b:List (Int×Int)):∀ m:MS,rowX (a++b) m=if (rowX a m).2.1=0 then ((rowX b (rowX a m).1).1,(rowX b (rowX a m).1).2.1,(rowX b (rowX a m).1).2.2+(rowX a m).2.2) else rowX a m:=by
  induction a with
  | nil=>intro m;simp[rowX]
  | cons x a ih =>
    intro m
    rw[List.cons_append,rowX,rowX]
    by_cases h:(insX x m).2=0
    · rw[if_pos h,if_pos h,ih]
      simp only
      split
      · simp only[Prod.mk.injEq];exact⟨trivial,trivial,by omega⟩
      · rfl
    · rw[if_neg h,if_neg h]
      simp only
      rw[if_neg h]
theorem rowX_steps (r:List (Int×Int)):∀ m:MS,((rowX r m).2.1=0→(rowX r m).2.2=r.length)∧(rowX r m).2.2≤r.length:=by
  induction r with
  | nil=>intro m;simp[rowX]
  | cons x r ih =>
    intro m
    rw[rowX]
    by_cases h:(insX x m).2=0
    · rw[if_pos h]
      simp only[List.length_cons]
      have:=ih (insX x m).1
      exact⟨fun h=>by rw[this.1 h],by omega⟩
    · rw[if_neg h]
      simp only[List.length_cons]
      exact⟨fun h2=>absurd h2 h,by omega⟩
def plainOp (op:Int):Prop:=op≠1∧op≠2∧op≠3∧op≠4∧op≠5∧op≠7
instance (op:Int):Decidable (plainOp op):=by unfold plainOp;infer_instance
theorem iteP_pc {k:Prop} [Decidable k] {a b a' b':MS} {c:Int} (ha:a={ a' with pc:=c }) (hb:b={ b' with pc:=c }):(if k then a else b)={ (if k then a' else b') with pc:=c }:=by
  split<;>assumption
theorem doP_pc (m:MS) (c:Int) (op arg:Int) (h:plainOp op):doS { m with pc:=c } op arg={ doS m op arg with pc:=c }:=by
  obtain⟨h1,h2,h3,h4,h5,h7⟩:=h
  unfold doS
  simp only[if_neg h1,if_neg h2,if_neg h3,if_neg h4,if_neg h5,if_neg h7]
  repeat' (first|refine iteP_pc ?_ ?_|rfl)
theorem doS_keep (m:MS) (op arg:Int) (h:plainOp op):(doS m op arg).pc=m.pc∧(doS m op arg).halted=m.halted∧(doS m op arg).calls=m.calls:=by
  obtain⟨h1,h2,h3,h4,h5,h7⟩:=h
  unfold doS
  simp only[if_neg h1,if_neg h2,if_neg h3,if_neg h4,if_neg h5,if_neg h7]
  repeat' (first|refine ite_kept (p:=fun z=>z.pc=m.pc∧z.halted=m.halted∧z.calls=m.calls) ?_ ?_|exact⟨rfl,rfl,rfl⟩)
theorem partsP_pc (arg:Int) (c:Int) (ps:List Int) (hp:∀ op∈ps,plainOp op):∀ m:MS,partsRun arg ps { m with pc:=c }=({ (partsRun arg ps m).1 with pc:=c },(partsRun arg ps m).2)∧((partsRun arg ps m).1.pc=m.pc∧(partsRun arg ps m).1.halted=m.halted∧(partsRun arg ps m).1.calls=m.calls):=by
  induction ps with
  | nil=>intro m;exact⟨rfl,rfl,rfl,rfl⟩
  | cons op r ih =>
    intro m
    have h:=hp op (by simp)
    have hr:refusedS { m with pc:=c } op=refusedS m op:=rfl
    unfold partsRun
    rw[hr]
    by_cases h0:refusedS m op=0
    · rw[if_pos h0,if_pos h0,doP_pc m c op arg h]
      obtain⟨e1,e2,e3,e4⟩:=ih (fun o ho=>hp o (by simp[ho])) (doS m op arg)
      obtain⟨k1,k2,k3⟩:=doS_keep m op arg h
      exact⟨e1,by rw[e2,k1],by rw[e3,k2],by rw[e4,k3]⟩
    · rw[if_neg h0,if_neg h0]
      exact⟨rfl,rfl,rfl,rfl⟩
theorem parts_flat (op:Int) (h:plainOp op):∀ o∈partsS op,plainOp o:=by
  unfold partsS
  have key:∀ x∈partsTab,∀ o∈x.2,plainOp o:=by decide
  split
  next x hx=>exact key x (List.mem_of_find?_eq_some hx)
  · split
    · intro o ho
      simp at ho
      subst ho
      exact h
    · intro o ho
      simp at ho
def PlainRow (r:List (Int×Int)):Prop:=∀ (i:Nat) (x:Int×Int),r[i]? = some x→i+1<r.length→plainOp x.1
theorem PlainRow.tail {x:Int×Int} {r:List (Int×Int)} (h:PlainRow (x :: r)):PlainRow r:=fun i y hy hi=>h (i+1) y (by simpa using hy) (by simpa using hi)
theorem stepM_ins {l:List (Int×Int)} {m:MS} {x:Int×Int} (h:l[m.pc.toNat]? = some x):stepM l m=insX x { m with pc:=m.pc+1 }:=by
  unfold stepM
  rw[h]
theorem ends_row {l:List (Int×Int)} (r:List (Int×Int)):∀ (a:Nat) (m:MS),(∀ i x,r[i]? = some x→l[a+i]? = some x)→PlainRow r→m.pc=a→m.halted=false →
    ((rowX r { m with pc:=((a+r.length:Nat):Int) }).2.1≠0→Ends l m (rowX r { m with pc:=((a+r.length:Nat):Int) }).2.2 ((rowX r { m with pc:=((a+r.length:Nat):Int) }).2.1,[],[],(rowX r { m with pc:=((a+r.length:Nat):Int) }).1.out)∧∀ k o,Ends l m k o→k=(rowX r { m with pc:=((a+r.length:Nat):Int) }).2.2∧o=((rowX r { m with pc:=((a+r.length:Nat):Int) }).2.1,[],[],(rowX r { m with pc:=((a+r.length:Nat):Int) }).1.out)) ∧
    ((rowX r { m with pc:=((a+r.length:Nat):Int) }).2.1=0→(∀ k o,Ends l (rowX r { m with pc:=((a+r.length:Nat):Int) }).1 k o→Ends l m (k+(rowX r { m with pc:=((a+r.length:Nat):Int) }).2.2) o)∧∀ k o,Ends l m k o→∃ k',k=k'+(rowX r { m with pc:=((a+r.length:Nat):Int) }).2.2∧Ends l (rowX r { m with pc:=((a+r.length:Nat):Int) }).1 k' o):=by
  induction r with
  | nil =>
    intro a m _ _ hpc _
    have e:({ m with pc:=((a+([]:List (Int×Int)).length:Nat):Int) }:MS)=m:=by simp[← hpc]
    rw[e]
    simp only[rowX]
    exact⟨fun h=>absurd rfl h,fun _=>⟨fun k o h=>h,fun k o h=>⟨k,rfl,h⟩⟩⟩
  | cons x r ih =>
    intro a m hl hp hpc hh
    have hx:l[m.pc.toNat]? = some x:=by rw[hpc,Int.toNat_natCast];exact hl 0 x rfl
    have hs:=stepM_ins hx
    rw[rowX]
    by_cases hr:r=[]
    · subst hr
      have e:({ m with pc:=((a+[x].length:Nat):Int) }:MS)={ m with pc:=m.pc+1 }:=by simp[hpc]
      rw[e]
      rw[← hs]
      by_cases h0:(stepM l m).2=0
      · rw[if_pos h0]
        simp only[rowX]
        refine⟨fun h=>absurd rfl h,fun _=>⟨fun k o h=>Ends.step hh h0 h,fun k o h=>?_⟩⟩
        cases h with
        | halt h1=>rw[hh]at h1;cases h1
        | err _ h1=>exact absurd h0 h1
        | step _ _ h2=>exact⟨_,rfl,h2⟩
      · rw[if_neg h0]
        simp only
        refine⟨fun _=>⟨Ends.err hh h0,fun k o h=>?_⟩,fun h=>absurd h h0⟩
        cases h with
        | halt h1=>rw[hh]at h1;cases h1
        | err _ h1=>exact⟨rfl,rfl⟩
        | step _ h1 _=>exact absurd h1 h0
    · have hlen:0<r.length:=List.length_pos_iff.2 hr
      have hpl:=hp 0 x rfl (by simp;omega)
      obtain⟨c1,c2,c3,c4⟩:=partsP_pc x.2 (m.pc+1) (partsS x.1) (parts_flat _ hpl) { m with pc:=((a+(x :: r).length:Nat):Int) }
      have hs':stepM l m=({ (insX x { m with pc:=((a+(x :: r).length:Nat):Int) }).1 with pc:=m.pc+1 },(insX x { m with pc:=((a+(x :: r).length:Nat):Int) }).2):=by rw[hs];exact c1
      generalize hq:insX x { m with pc:=((a+(x :: r).length:Nat):Int) }=q at hs' ⊢
      have hq1:q.1.pc=((a+(x :: r).length:Nat):Int):=by rw[← hq];exact c2
      have hq2:q.1.halted=false:=by rw[← hq];exact c3.trans hh
      by_cases h0:q.2=0
      · rw[if_pos h0]
        have ih1:=ih (a+1) { q.1 with pc:=m.pc+1 } (fun i y hy=>by rw[show a+1+i=a+(i+1) by omega];exact hl (i+1) y (by simpa using hy)) hp.tail (by simp[hpc]) hq2
        have e:({ ({ q.1 with pc:=m.pc+1 }:MS) with pc:=((a+1+r.length:Nat):Int) }:MS)=q.1:=by
          rw[show a+1+r.length=a+(x :: r).length by simp;omega,← hq1]
        rw[e]at ih1
        have h0':(stepM l m).2=0:=by rw[hs'];exact h0
        have h1':(stepM l m).1={ q.1 with pc:=m.pc+1 }:=by rw[hs']
        simp only
        refine⟨fun hne=>?_,fun heq=>?_⟩
        · obtain⟨i1,i2⟩:=ih1.1 hne
          refine⟨Ends.step hh h0' (by rw[h1'];exact i1),fun k o h=>?_⟩
          cases h with
          | halt h1=>rw[hh]at h1;cases h1
          | err _ h1=>exact absurd h0' h1
          | step _ _ h2 =>
            rw[h1']at h2
            obtain⟨e1,e2⟩:=i2 _ _ h2
            exact⟨by rw[e1],e2⟩
        · obtain⟨i1,i2⟩:=ih1.2 heq
          refine⟨fun k o h=>Ends.step hh h0' (by rw[h1'];exact i1 k o h),fun k o h=>?_⟩
          cases h with
          | halt h1=>rw[hh]at h1;cases h1
          | err _ h1=>exact absurd h0' h1
          | step _ _ h2 =>
            rw[h1']at h2
            obtain⟨k',e1,e2⟩:=i2 _ _ h2
            exact⟨k',by rw[e1];rfl,e2⟩
      · rw[if_neg h0]
        have h0':(stepM l m).2≠0:=by rw[hs'];exact h0
        have e2:((stepM l m).2,([]:List Int),([]:List Int),(stepM l m).1.out)=(q.2,[],[],q.1.out):=by rw[hs']
        simp only
        refine⟨fun _=>⟨?_,fun k o h=>?_⟩,fun h=>absurd h h0⟩
        · rw[← e2];exact Ends.err hh h0'
        · cases h with
          | halt h1=>rw[hh]at h1;cases h1
          | err _ h1=>exact⟨rfl,e2⟩
          | step _ h1 _=>exact absurd h1 h0'
end Go.Proofs.YtmeiikjpaepogaaGreatDoor
