/- What options make shorter comes to the same. -/
import Derived.Test.YtmeiikjpaepogaaGreatDoorN47
namespace Go.Proofs.YtmeiikjpaepogaaGreatDoor
open Go Go.RowKit
theorem rule_plain {r:List (Int×Int)→Option (List (Int×Int))} (hr:r∈rulesS) {row s:List (Int×Int)} (h:r row=some s):(∀ x∈s,plainOp x.1)∨((∃ y,row.getLast? = some y∧y.1=2)∧s.length≤1):=by
  have reck:∀ {row s:List (Int×Int)},reckonedS row=some s→∀ x∈s,x.1=0:=by
    intro row s h x hx
    unfold reckonedS at h
    split at h
    · cases h
    · split at h
      · cases h
      · obtain rfl:=Option.some.inj h
        obtain⟨p,_,rfl⟩:=List.mem_map.1 hx
        rfl
  unfold rulesS at hr
  simp only[List.mem_cons,List.not_mem_nil,or_false]at hr
  rcases hr with rfl|rfl|rfl|hr
  · left
    intro x hx
    have:=reck h x hx
    unfold plainOp
    omega
  · left
    intro x hx
    unfold chainedS at h
    split at h
    next a b c d =>
      split at h
      · split at h
        next j o hl =>
          cases hr:reckonedS [(0,a.2),(0,c.2),(j,0)] with
          | none=>rw[hr]at h;cases h
          | some t =>
            rw[hr]at h
            obtain rfl:=Option.some.inj h
            have ho:=link_ops hl o (by simp)
            rcases List.mem_append.1 hx with h1|h1
            · have:=reck hr x h1
              unfold plainOp
              omega
            · simp at h1
              subst h1
              unfold plainOp
              simp only
              omega
        · cases h
      · cases h
    · cases h
  · right
    unfold decidedS at h
    split at h
    next a b =>
      split at h
      next hab =>
        refine⟨⟨b,rfl,hab.2⟩,?_⟩
        split at h<;>(obtain rfl:=Option.some.inj h;simp)
      · cases h
    · cases h
  · left
    rcases hr with rfl|rfl|rfl|rfl|rfl|rfl|rfl|rfl|rfl|rfl|rfl|rfl|rfl|rfl|rfl|rfl|rfl|rfl|rfl|rfl|rfl|rfl <;>
    · obtain⟨_,rfl⟩:=isS_some h
      decide
theorem plain_swap {ahead old s rest:List (Int×Int)} (h:PlainRow (ahead++(old++rest))) (ho:old≠[]) (hs:(∀ x∈s,plainOp x.1)∨((∃ y,old.getLast? = some y∧y.1=2)∧s.length≤1)):PlainRow (ahead++(s++rest)):=by
  have hol:=List.length_pos_iff.2 ho
  intro i x hx hi
  by_cases h1:i<ahead.length
  · rw[List.getElem?_append_left h1]at hx
    exact h i x (by rw[List.getElem?_append_left h1];exact hx) (by simp;omega)
  · rw[List.getElem?_append_right (by omega)]at hx
    simp only[List.length_append]at hi
    rcases hs with hs|⟨⟨y,hy,hy2⟩,hs⟩
    · by_cases h2:i-ahead.length<s.length
      · rw[List.getElem?_append_left h2]at hx
        exact hs x (List.mem_of_getElem? hx)
      · rw[List.getElem?_append_right (by omega)]at hx
        refine h (ahead.length+(old.length+(i-ahead.length-s.length))) x ?_ (by simp;omega)
        rw[List.getElem?_append_right (by omega),Nat.add_sub_cancel_left,List.getElem?_append_right (by omega),Nat.add_sub_cancel_left]
        exact hx
    · exfalso
      have hre:rest=[]:=by
        refine Classical.byContradiction (fun hne=>?_)
        have hrl:=List.length_pos_iff.2 hne
        rw[List.getLast?_eq_getElem?]at hy
        have:=h (ahead.length+(old.length-1)) y (by rw[List.getElem?_append_right (by omega),Nat.add_sub_cancel_left,List.getElem?_append_left (by omega)];exact hy) (by simp;omega)
        exact this.2.1 hy2
      subst hre
      simp at hi
      omega
theorem shorter_sim {nxt:Int} {row rest s:List (Int×Int)} {size:Nat} (hb:∀ x∈row++rest,baseOk x) (h:shorterS row (rest.take 1)=some (s,size)) :
    RowSim nxt (row++rest) (row.take (row.length-size)++s++rest)∧(PlainRow (row++rest)→PlainRow (row.take (row.length-size)++s++rest)):=by
  have hsz:=shorterS_some h
  unfold shorterS at h
  obtain⟨n,hn,hs⟩:=List.exists_of_findSome?_eq_some h
  obtain⟨t,ht,e⟩:=Option.map_eq_some_iff.1 hs
  simp only[Prod.mk.injEq]at e
  obtain⟨rfl,rfl⟩:=e
  unfold shortAt at ht
  obtain⟨r,hr,hq⟩:=List.exists_of_findSome?_eq_some ht
  unfold ruleAt at hq
  split at hq
  next s' hs' =>
    split at hq
    next hf =>
      obtain rfl:=Option.some.inj hq
      have e1:row=row.take (row.length-n)++row.drop (row.length-n):=(List.take_append_drop _ _).symm
      have e2:rest=rest.take 1++rest.drop 1:=(List.take_append_drop _ _).symm
      have hbo:∀ x∈row.drop (row.length-n),baseOk x:=fun x hx=>hb x (List.mem_append.2 (Or.inl (List.mem_of_mem_drop hx)))
      have hold:=rule_fine hr hbo hs'
      have hlen:=rule_short hr hs'
      have e3:row++rest=row.take (row.length-n)++(row.drop (row.length-n)++(rest.take 1++rest.drop 1)):=by
        rw[← e2,← List.append_assoc,← e1]
      have e4:row.take (row.length-n)++s'++rest=row.take (row.length-n)++(s'++(rest.take 1++rest.drop 1)):=by
        rw[← e2,List.append_assoc]
      refine⟨?_,fun hp=>?_⟩
      · rw[e4]
        have:=rewrite_sim (nxt:=nxt) (ahead:=row.take (row.length-n)) (old:=row.drop (row.length-n)) (short:=s') (next:=rest.take 1) (tail:=rest.drop 1) (by rw[← e3];exact hb) hold (by omega) (by rw[List.length_take];omega) hf
        rw[← e3]at this
        exact this
      · rw[List.append_assoc]
        refine plain_swap (old:=row.drop (row.length-n)) ?_ (fun hnil=>?_) (rule_plain hr hs')
        · rw[← List.append_assoc,← e1];exact hp
        · rw[hnil]at hlen
          simp at hlen
    · cases hq
  · cases hq
theorem settled_sim {nxt:Int} {rest:List (Int×Int)} (n:Nat):∀ row:List (Int×Int),(∀ x∈row++rest,baseOk x)→PlainRow (row++rest)→RowSim nxt (row++rest) (settledS (rest.take 1) n row++rest)∧PlainRow (settledS (rest.take 1) n row++rest):=by
  induction n with
  | zero=>intro row _ hp;exact⟨RowSim.refl _ _,hp⟩
  | succ n ih =>
    intro row hb hp
    unfold settledS
    split
    next s size hs =>
      obtain⟨h1,h2⟩:=shorter_sim (nxt:=nxt) hb hs
      obtain⟨i1,i2⟩:=ih (row.take (row.length-size)++s) (fun x hx=>by
        rcases List.mem_append.1 hx with hx|hx
        · rcases List.mem_append.1 hx with hx|hx
          · exact hb x (List.mem_append.2 (Or.inl (List.mem_of_mem_take hx)))
          · exact shorterS_ok (fun y hy=>hb y (List.mem_append.2 (Or.inl hy))) hs x hx
        · exact hb x (List.mem_append.2 (Or.inr hx))) (h2 hp)
      exact⟨h1.trans i1,i2⟩
    · exact⟨RowSim.refl _ _,hp⟩
theorem done_sim {nxt:Int} {row:List (Int×Int)} (hb:∀ x∈row,baseOk x) (hp:PlainRow row) (k:Nat) (hk:k≤row.length):RowSim nxt row (doneTo row k++row.drop k)∧PlainRow (doneTo row k++row.drop k):=by
  induction k with
  | zero =>
    simp only[doneTo,List.drop_zero,List.nil_append]
    exact⟨RowSim.refl _ _,hp⟩
  | succ k ih =>
    obtain⟨h1,h2⟩:=ih (by omega)
    obtain⟨x,hx⟩:∃ x,row[k]? = some x:=⟨_,List.getElem?_eq_getElem (by omega)⟩
    have e:row.drop k=[x]++row.drop (k+1):=by
      rw[List.drop_eq_getElem_cons (by omega),(List.getElem?_eq_some_iff.1 hx).2]
      rfl
    rw[e,← List.append_assoc]at h1 h2
    have e2:doneTo row (k+1)=settledS ((row.drop (k+1)).take 1) ((doneTo row k).length+1) (doneTo row k++[x]):=by rw[doneTo,hx]
    rw[e2]
    obtain⟨i1,i2⟩:=settled_sim (nxt:=nxt) (rest:=row.drop (k+1)) ((doneTo row k).length+1) (doneTo row k++[x]) (fun y hy=>by
      rcases List.mem_append.1 hy with hy|hy
      · rcases List.mem_append.1 hy with hy|hy
        · exact doneTo_ok row hb k y hy
        · simp at hy
          subst hy
          exact hb _ (List.mem_of_getElem? hx)
      · exact hb y (List.mem_of_mem_drop hy)) h2
    exact⟨h1.trans i1,i2⟩
theorem short1 {p:PrS} (hp:PrOk p):Short p (stage1 p):=by
  have ok:=blocks_ok hp
  have mem:∀ b∈blocksS p.1 p.2,∀ y∈b.2,y∈p.1:=fun b hb y hy=>by rw[← ok.flat];exact List.mem_flatMap.2 ⟨b,hb,hy⟩
  have key:=fun (nxt:Int) (b:Blo) (hb:b∈blocksS p.1 p.2)=>done_sim (nxt:=nxt) (row:=b.2) (fun x hx=>hp.base x (mem b hb x hx)) (block_plain hp hb) b.2.length (Nat.le_refl _)
  refine join_short hp (f:=fun b=>(b.1,foldRowS b.2)) (fun b=>rfl) (G:=fun _=>True) trivial (fun b hb=>⟨?_,doneTo_targets p.1 b.2 (mem b hb)⟩) (fun _ _ _=>⟨fun _ _ _=>trivial,fun _ _ _=>trivial⟩) (fun b hb _=>?_)
  · have:=(key 0 b hb).2
    rw[List.drop_length,List.append_nil]at this
    exact this
  · have:=(key ((b.1+b.2.length:Nat):Int) b hb).1
    rw[List.drop_length,List.append_nil]at this
    exact this
theorem shortOnce {p:PrS} (hp:PrOk p):Short p (foldOnce p):=by
  have o:=once_ok hp
  exact (short1 hp).trans ((short2 _).trans ((short3 o.p2).trans (short4 o.p3)))
theorem shortGo (n:Nat):∀ p:PrS,PrOk p→Short p (foldGo n p):=by
  induction n with
  | zero=>intro p _;exact Short.refl p
  | succ n ih =>
    intro p hp
    unfold foldGo
    split
    · exact shortOnce hp
    · exact (shortOnce hp).trans (ih _ (once_ok hp).p4)
theorem shortFold {p:PrS} (hp:PrOk p):Short p (foldP p):=shortGo _ p hp
theorem shortWith {p:PrS} (hp:PrOk p) (f t s:Bool):Short (withP false t false p) (withP f t s p):=by
  have h1:PrOk (if t=true then tailP p else p):=by split;exact tail_pr hp;exact hp
  have e:withP false t false p=if t=true then tailP p else p:=by simp[withP]
  rw[e]
  unfold withP
  simp only
  generalize (if t=true then tailP p else p)=q at h1
  have h2:Short q (if f=true then foldP q else q)∧PrOk (if f=true then foldP q else q):=by
    split
    · exact⟨shortFold h1,foldP_pr h1⟩
    · exact⟨Short.refl q,h1⟩
  split
  · exact h2.1.trans (shortSuper h2.2)
  · exact h2.1
theorem short_run {p q:PrS} (h:Short p q) {ls la lc lo:Int} (c:Nat) (hc:c≤1000) (hl:limsOk ls la lc lo) (n:Nat) (h15:(runM p.1 n 0 (startM 0 ls la lc lo p.2 c)).2.1≠15) :
    obsOf (runM q.1 n 0 (startM 0 ls la lc lo q.2 c))=obsOf (runM p.1 n 0 (startM 0 ls la lc lo p.2 c))∧(runM q.1 n 0 (startM 0 ls la lc lo q.2 c)).2.2≤(runM p.1 n 0 (startM 0 ls la lc lo p.2 c)).2.2:=by
  obtain⟨k,hk,hs,hE⟩:=run_ends p.1 n 0 _ h15
  obtain⟨k',hk',hE'⟩:=h k _ (startM 0 ls la lc lo 0 c) (start_mok 0 ls la lc lo 0 c hc hl) rfl rfl hE
  obtain⟨h1,h2⟩:=ends_run hE' n 0 (by omega)
  exact⟨h2,by rw[hs];have:(runM q.1 n 0 (startM 0 ls la lc lo q.2 c)).2.2=0+(k':Int):=h1;omega⟩
end Go.Proofs.YtmeiikjpaepogaaGreatDoor
