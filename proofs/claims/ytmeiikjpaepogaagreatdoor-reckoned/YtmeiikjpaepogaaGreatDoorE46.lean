/- Runs: jumps that go straight. -/
import Derived.Test.YtmeiikjpaepogaaGreatDoorE45
namespace Go.Proofs.YtmeiikjpaepogaaGreatDoor
open Go Go.RowKit
inductive Chain (l:List (Int×Int)):Int→Int→Prop
  | refl (a:Int):Chain l a a
  | jump {a b:Int} {x:Int×Int}:l[a.toNat]? = some x→x.1=1→Chain l x.2 b→Chain l a b
theorem goal_chain (l:List (Int×Int)) (n:Nat):∀ k:Int,Chain l k (goalS l n k):=by
  induction n with
  | zero=>intro k;exact Chain.refl k
  | succ n ih =>
    intro k
    unfold goalS
    split
    next x hx =>
      split
      next h1=>exact Chain.jump hx h1 (ih x.2)
      · exact Chain.refl k
    · exact Chain.refl k
theorem names_arg (m:MS) (op a b:Int) (h:namesS op=true):doS m op b=doS m op a∨((doS m op a).pc=a∧doS m op b={ doS m op a with pc:=b }):=by
  have h':op=1∨op=2∨op=3∨op=7:=by
    unfold namesS at h
    simp at h
    omega
  rcases h' with rfl|rfl|rfl|rfl
  · exact Or.inr ⟨rfl,rfl⟩
  · show (if topL m.stack=0 then _ else _)=(if topL m.stack=0 then _ else _)∨((if topL m.stack=0 then _ else _:MS).pc=a∧(if topL m.stack=0 then _ else _:MS)={ (if topL m.stack=0 then _ else _:MS) with pc:=b })
    by_cases h:topL m.stack=0
    · simp only[if_pos h];simp
    · simp only[if_neg h];simp
  · exact Or.inr ⟨rfl,rfl⟩
  · show (if wrap64 (topL m.side+1)=topL m.side.dropLast then _ else _)=(if wrap64 (topL m.side+1)=topL m.side.dropLast then _ else _)∨((if wrap64 (topL m.side+1)=topL m.side.dropLast then _ else _:MS).pc=a∧(if wrap64 (topL m.side+1)=topL m.side.dropLast then _ else _:MS)={ (if wrap64 (topL m.side+1)=topL m.side.dropLast then _ else _:MS) with pc:=b })
    by_cases h:wrap64 (topL m.side+1)=topL m.side.dropLast
    · simp only[if_pos h];simp
    · simp only[if_neg h];simp
theorem step_same {l l':List (Int×Int)} {m:MS} (h:l'[m.pc.toNat]? = l[m.pc.toNat]?):stepM l' m=stepM l m:=by
  unfold stepM
  rw[h]
structure StrRel (l l':List (Int×Int)) (i:Nat) (m m':MS):Prop where
  rest:m'={ m with pc:=m'.pc }
  pc:m.halted=true∨Chain l m.pc m'.pc∨(∃ (g:Int) (e:Int×Int),m'.pc.toNat=i∧l'[i]? = some e∧(e.1=4∨e.1=5)∧Chain l m.pc g∧l[g.toNat]? = some e)
theorem str_sim {l l':List (Int×Int)} {i:Nat} {x:Int×Int} {y:Int×Int} (hx:l[i]? = some x) (hn:namesS x.1=true) (hl:l'=l.set i y)
    (hy:(∃ g,y=(x.1,g)∧Chain l x.2 g)∨(x.1=1∧(y.1=4∨y.1=5)∧∃ g:Int,Chain l x.2 g∧l[g.toNat]? = some y)) (k:Nat) :
    ∀ (m m':MS) (o:Obs),Ends l m k o→StrRel l l' i m m'→∃ k',k'≤k∧Ends l' m' k' o:=by
  have hil:=(List.getElem?_eq_some_iff.1 hx).1
  have hi':l'[i]? = some y:=by rw[hl,List.getElem?_set_self hil]
  have ho':∀ j,j≠i→l'[j]? = l[j]?:=fun j hj=>by rw[hl,List.getElem?_set_ne (fun h=>hj h.symm)]
  have hb:0≤x.1∧x.1≤32:=by
    unfold namesS at hn
    simp at hn
    omega
  induction k using Nat.strongRecOn with
  | ind k ih =>
    intro m m' o he hr
    obtain⟨hrest,hpc⟩:=hr
    by_cases hh:m.halted=true
    · cases he with
      | halt _ =>
        have e:((0:Int),m.stack,m.cells,m.out)=(0,m'.stack,m'.cells,m'.out):=by rw[hrest]
        rw[e]
        exact⟨0,Nat.le_refl _,Ends.halt (by rw[hrest];exact hh)⟩
      | err h1 _=>rw[hh]at h1;cases h1
      | step h1 _ _=>rw[hh]at h1;cases h1
    · have hf:m.halted=false:=by simpa using hh
      have hf':m'.halted=false:=by rw[hrest];exact hf
      -- the other one waits while this one jumps
      have wait:∀ (z:Int×Int),l[m.pc.toNat]? = some z→z.1=1→(StrRel l l' i { m with pc:=z.2 } m')→∃ k',k'≤k∧Ends l' m' k' o:=by
        intro z hz h1 hrel
        obtain⟨z1,z2⟩:=z
        simp only at h1
        subst h1
        have hs:=step_jump hz
        cases he with
        | halt h1=>rw[hf]at h1;cases h1
        | err _ h1=>rw[hs]at h1;exact absurd rfl h1
        | @step _ k1 _ _ _ h2 =>
          rw[hs]at h2
          obtain⟨k',hk,hE⟩:=ih k1 (by omega) _ m' o h2 hrel
          exact⟨k',by omega,hE⟩
      rcases hpc with h|hch|⟨g,e,hg1,hg2,hg3,hch,hg4⟩
      · exact absurd h hh
      · generalize hq:m'.pc=q at hch
        generalize hq0:m.pc=q0 at hch
        cases hch with
        | refl =>
          have hmm:m'=m:=by rw[hrest,hq,← hq0]
          subst hmm
          clear hq
          by_cases hi:m'.pc.toNat=i
          · have hx1:l[m'.pc.toNat]? = some x:=by rw[hi];exact hx
            have hy1:l'[m'.pc.toNat]? = some y:=by rw[hi];exact hi'
            rcases hy with ⟨g,rfl,hg⟩|⟨h1,h2,g,h3,h4⟩
            · have e1:=stepM_ins hx1
              have e2:=stepM_ins hy1
              rw[ins_base _ _ hb]at e1
              rw[ins_base _ _ (by exact hb)]at e2
              simp only at e2
              by_cases h0:refusedS { m' with pc:=m'.pc+1 } x.1=0
              · rw[if_pos h0]at e1 e2
                cases he with
                | halt h1=>rw[hf]at h1;cases h1
                | err _ h1=>rw[e1]at h1;exact absurd rfl h1
                | @step _ k1 _ _ _ h2 =>
                  rw[e1]at h2
                  have hrel:StrRel l l' i (doS { m' with pc:=m'.pc+1 } x.1 x.2) (doS { m' with pc:=m'.pc+1 } x.1 g):=by
                    rcases names_arg { m' with pc:=m'.pc+1 } x.1 x.2 g hn with e|⟨ea,eb⟩
                    · rw[e]
                      exact⟨rfl,Or.inr (Or.inl (Chain.refl _))⟩
                    · rw[eb]
                      exact⟨rfl,Or.inr (Or.inl (by rw[ea];exact hg))⟩
                  obtain⟨k',hk,hE⟩:=ih k1 (by omega) _ _ o h2 hrel
                  refine⟨k'+1,by omega,Ends.step hf (by rw[e2]) (by rw[e2];exact hE)⟩
              · rw[if_neg h0]at e1 e2
                have e3:stepM l' m'=stepM l m':=by rw[e1,e2]
                cases he with
                | halt h1=>rw[hf]at h1;cases h1
                | err _ h1=>rw[← e3]at h1 ⊢;exact⟨1,Nat.le_refl _,Ends.err hf h1⟩
                | step _ h1 _=>rw[e1]at h1;exact absurd h1 h0
            · refine wait x hx1 h1 ⟨rfl,Or.inr (Or.inr ⟨g,y,hi,hi',h2,h3,h4⟩)⟩
          · have e3:stepM l' m'=stepM l m':=step_same (ho' _ hi)
            cases he with
            | halt h1=>rw[hf]at h1;cases h1
            | err _ h1=>rw[← e3]at h1 ⊢;exact⟨1,Nat.le_refl _,Ends.err hf h1⟩
            | @step _ k1 _ _ h1 h2 =>
              obtain⟨k',hk,hE⟩:=ih k1 (by omega) _ _ o h2 ⟨rfl,Or.inr (Or.inl (Chain.refl _))⟩
              exact⟨k'+1,by omega,Ends.step hf (by rw[e3];exact h1) (by rw[e3];exact hE)⟩
        | @jump _ _ z hz h1 hc =>
          exact wait z (by rw[hq0];exact hz) h1 ⟨hrest,Or.inr (Or.inl (by rw[hq];exact hc))⟩
      · generalize hq0:m.pc=q0 at hch
        cases hch with
        | refl =>
          have hx1:l[m.pc.toNat]? = some e:=by rw[hq0];exact hg4
          have hy1:l'[m'.pc.toNat]? = some e:=by rw[hg1];exact hg2
          obtain⟨e1,e2⟩:=e
          rcases hg3 with h4|h4
          · simp only at h4
            subst h4
            have s1:=step_ret hx1
            have s2:=step_ret hy1
            have hcc:m'.calls=m.calls:=by rw[hrest]
            rw[hcc]at s2
            by_cases hc:m.calls.length=0
            · rw[if_pos hc]at s1 s2
              cases he with
              | halt h1=>rw[hf]at h1;cases h1
              | err _ h1 =>
                have e:((stepM l m).2,([]:List Int),([]:List Int),(stepM l m).1.out)=((stepM l' m').2,[],[],(stepM l' m').1.out):=by
                  rw[s1,s2,hrest]
                rw[e]
                exact⟨1,Nat.le_refl _,Ends.err hf' (by rw[s2];simp)⟩
              | step _ h1 _=>rw[s1]at h1;simp at h1
            · rw[if_neg hc]at s1 s2
              cases he with
              | halt h1=>rw[hf]at h1;cases h1
              | err _ h1=>rw[s1]at h1;exact absurd rfl h1
              | @step _ k1 _ _ _ h2 =>
                have e3:stepM l' m'=stepM l m:=by rw[s1,s2,hrest]
                obtain⟨k',hk,hE⟩:=ih k1 (by omega) _ _ o h2 ⟨rfl,Or.inr (Or.inl (Chain.refl _))⟩
                exact⟨k'+1,by omega,Ends.step hf' (by rw[s2]) (by rw[e3];exact hE)⟩
          · simp only at h4
            subst h4
            have s1:=stepM_ins hx1
            have s2:=stepM_ins hy1
            have r5:∀ z:MS,refusedS z 5=0:=fun z=>by
              unfold refusedS
              simp[needsS,asideS,show ¬ ((z.stack.length:Int)<0) by omega,show ¬ ((z.side.length:Int)<0) by omega]
            rw[ins_base _ _ (by simp),r5,if_pos rfl]at s1
            rw[ins_base _ _ (by simp),r5,if_pos rfl]at s2
            have d5:∀ z:MS,doS z 5 e2={ z with halted:=true }:=fun z=>rfl
            simp only[d5]at s1 s2
            cases he with
            | halt h1=>rw[hf]at h1;cases h1
            | err _ h1=>rw[s1]at h1;exact absurd rfl h1
            | @step _ k1 _ _ _ h2 =>
              obtain⟨k',hk,hE⟩:=ih k1 (by omega) _ (stepM l' m').1 o h2 ⟨by rw[s1,s2,hrest],Or.inl (by rw[s1])⟩
              exact⟨k'+1,by omega,Ends.step hf' (by rw[s2]) hE⟩
        | @jump _ _ z hz h1 hc =>
          exact wait z (by rw[hq0];exact hz) h1 ⟨hrest,Or.inr (Or.inr ⟨g,e,hg1,hg2,hg3,hc,hg4⟩)⟩
theorem str_step (l:List (Int×Int)) (i:Nat) (k:Nat) (m:MS) (o:Obs) (h:Ends l m k o):∃ k',k'≤k∧Ends (strStep l i) m k' o:=by
  unfold strStep
  cases hx:l[i]? with
  | none=>exact⟨k,Nat.le_refl _,h⟩
  | some x =>
    simp only
    have hil:=(List.getElem?_eq_some_iff.1 hx).1
    by_cases hn:namesS x.1=true
    · rw[if_pos hn]
      have hch:=goal_chain l l.length x.2
      generalize goalS l l.length x.2=g at hch
      split
      next hc =>
        rw[List.set_set]
        refine str_sim hx hn rfl (Or.inr ⟨hc.1,hc.2,g,hch,?_⟩) k m m o h ⟨rfl,Or.inr (Or.inl (Chain.refl _))⟩
        have hgi:g.toNat≠i:=by
          intro e
          have:=hc.2
          rw[e,List.getD_eq_getElem?_getD,List.getElem?_set_self hil]at this
          simp only[Option.getD_some]at this
          have h1:=hc.1
          omega
        have hgl:g.toNat<l.length:=by
          refine Nat.lt_of_not_le (fun hle=>?_)
          have:=hc.2
          rw[List.getD_eq_getElem?_getD,List.getElem?_eq_none (by simpa using hle)]at this
          simp at this
        rw[List.getD_eq_getElem?_getD,List.getElem?_set_ne (fun h=>hgi h.symm),List.getElem?_eq_getElem hgl]
        rfl
      · exact str_sim hx hn rfl (Or.inl ⟨g,rfl,hch⟩) k m m o h ⟨rfl,Or.inr (Or.inl (Chain.refl _))⟩
    · rw[if_neg hn]
      exact⟨k,Nat.le_refl _,h⟩
theorem short2 (p:PrS):Short p (stage2 p):=by
  intro k o m _ _ _ h
  have key:∀ n:Nat,∃ k',k'≤k∧Ends (strTo p.1 n) { m with pc:=p.2 } k' o:=by
    intro n
    induction n with
    | zero=>exact⟨k,Nat.le_refl _,h⟩
    | succ n ih =>
      obtain⟨k1,h1,e1⟩:=ih
      obtain⟨k2,h2,e2⟩:=str_step _ n k1 _ o e1
      exact⟨k2,by omega,e2⟩
  exact key p.1.length
theorem bits_toInt (v:BitVec 64):IntKind.i64.wrap (v.toNat:Int)=v.toInt:=by
  have h:=v.isLt
  rw[BitVec.toInt_eq_toNat_cond]
  unfold IntKind.wrap
  simp only[IntKind.signed,IntKind.bits,Bool.true_and]
  split<;>split<;>(simp at *;omega)
theorem and_eq (a b:Int):bits .and .i64 a b=(BitVec.ofInt 64 a &&& BitVec.ofInt 64 b).toInt:=bits_toInt _
theorem or_eq (a b:Int):bits .or .i64 a b=(BitVec.ofInt 64 a ||| BitVec.ofInt 64 b).toInt:=bits_toInt _
theorem xor_eq (a b:Int):bits .xor .i64 a b=(BitVec.ofInt 64 a ^^^ BitVec.ofInt 64 b).toInt:=bits_toInt _
theorem int_back {u:Int} (h:inI u):(BitVec.ofInt 64 u).toInt=u:=by
  unfold inI at h
  rw[BitVec.toInt_ofInt]
  unfold Int.bmod
  simp only
  split<;>omega
theorem and_comm' (a b:Int):bits .and .i64 a b=bits .and .i64 b a:=by rw[and_eq,and_eq,BitVec.and_comm]
theorem or_comm' (a b:Int):bits .or .i64 a b=bits .or .i64 b a:=by rw[or_eq,or_eq,BitVec.or_comm]
theorem xor_comm' (a b:Int):bits .xor .i64 a b=bits .xor .i64 b a:=by rw[xor_eq,xor_eq,BitVec.xor_comm]
theorem and_assoc' (a b c:Int):bits .and .i64 (bits .and .i64 a b) c=bits .and .i64 a (bits .and .i64 b c):=by simp only[and_eq,BitVec.ofInt_toInt,BitVec.and_assoc]
theorem or_assoc' (a b c:Int):bits .or .i64 (bits .or .i64 a b) c=bits .or .i64 a (bits .or .i64 b c):=by simp only[or_eq,BitVec.ofInt_toInt,BitVec.or_assoc]
theorem xor_assoc' (a b c:Int):bits .xor .i64 (bits .xor .i64 a b) c=bits .xor .i64 a (bits .xor .i64 b c):=by simp only[xor_eq,BitVec.ofInt_toInt,BitVec.xor_assoc]
theorem and_ones {a:Int} (h:inI a):bits .and .i64 a (-1)=a:=by
  rw[and_eq,show BitVec.ofInt 64 (-1)=BitVec.allOnes 64 by decide,BitVec.and_allOnes,int_back h]
theorem or_none {a:Int} (h:inI a):bits .or .i64 a 0=a:=by
  rw[or_eq,show BitVec.ofInt 64 0=0#64 by decide,BitVec.or_zero,int_back h]
theorem xor_none {a:Int} (h:inI a):bits .xor .i64 a 0=a:=by
  rw[xor_eq,show BitVec.ofInt 64 0=0#64 by decide,BitVec.xor_zero,int_back h]
theorem wrap_eq {a b:Int} (h:(a-b) % 18446744073709551616=0):wrap64 a=wrap64 b:=by
  unfold wrap64
  omega
theorem wrap_mod (a:Int):∃ k:Int,wrap64 a=a+18446744073709551616 * k:=by
  unfold wrap64
  exact⟨-((a+9223372036854775808) / 18446744073709551616),by omega⟩
theorem wrap_mul_l (a b:Int):wrap64 (wrap64 a * b)=wrap64 (a * b):=by
  obtain⟨k,hk⟩:=wrap_mod a
  refine wrap_eq ?_
  rw[hk,Int.add_mul,show a * b+18446744073709551616 * k * b-a * b=18446744073709551616 * (k * b) by rw[Int.mul_assoc];omega]
  omega
theorem wrap_mul_r (a b:Int):wrap64 (a * wrap64 b)=wrap64 (a * b):=by rw[Int.mul_comm,wrap_mul_l,Int.mul_comm]
theorem wrap_in {a:Int} (h:inI a):wrap64 a=a:=by
  unfold inI at h
  unfold wrap64
  omega
theorem link_eq {f g j o:Int} (h:linkS f g=some (j,o)) (u a c:Int):twoS g (twoS f u a) c=twoS o u (twoS j a c):=by
  unfold linkS at h
  split at h
  next h1 =>
    obtain⟨rfl,rfl⟩:=h1
    simp only[Option.some.injEq,Prod.mk.injEq]at h
    obtain⟨rfl,rfl⟩:=h
    show wrap64 (wrap64 (u-a)-c)=wrap64 (u-wrap64 (a+c))
    unfold wrap64
    omega
  · split at h
    next h1 =>
      rcases h1 with ⟨rfl,rfl⟩|⟨rfl,rfl⟩
      · simp only[Option.some.injEq,Prod.mk.injEq]at h
        obtain⟨rfl,rfl⟩:=h
        show wrap64 (wrap64 (u-a)+c)=wrap64 (u-wrap64 (a-c))
        unfold wrap64
        omega
      · simp only[Option.some.injEq,Prod.mk.injEq]at h
        obtain⟨rfl,rfl⟩:=h
        show wrap64 (wrap64 (u+a)-c)=wrap64 (u+wrap64 (a-c))
        unfold wrap64
        omega
    · split at h
      · cases h
      next h2 =>
        have h2:f=g:=by simpa using h2
        subst h2
        split at h
        next h3 =>
          simp only[Option.some.injEq,Prod.mk.injEq]at h
          obtain⟨rfl,rfl⟩:=h
          rcases h3 with rfl|rfl|rfl|rfl|rfl
          · show wrap64 (wrap64 (u+a)+c)=wrap64 (u+wrap64 (a+c))
            unfold wrap64
            omega
          · show wrap64 (wrap64 (u * a) * c)=wrap64 (u * wrap64 (a * c))
            rw[wrap_mul_l,wrap_mul_r,Int.mul_assoc]
          · exact and_assoc' u a c
          · exact or_assoc' u a c
          · exact xor_assoc' u a c
        · cases h
theorem div_one {u:Int}:divS u 1=u:=by
  unfold divS
  rw[if_neg (by omega)]
  simp
theorem change_needs (op:Int) (h:0≤op∧op≤32):changeS op=((needsS op).1,(needsS op).1+(needsS op).2):=by
  have:∀ k:Fin 33,changeS ((k.val:Nat):Int)=((needsS ((k.val:Nat):Int)).1,(needsS ((k.val:Nat):Int)).1+(needsS ((k.val:Nat):Int)).2):=by decide
  have h1:=this ⟨op.toNat,by omega⟩
  simp only at h1
  rwa [show ((op.toNat:Nat):Int)=op by omega]at h1
theorem changeY_small (op:Int):0≤(changeS op).1∧(changeS op).1≤3∧0≤(changeS op).2∧(changeS op).2≤3:=by
  by_cases h:0≤op∧op≤32
  · have:∀ k:Fin 33,0≤(changeS ((k.val:Nat):Int)).1∧(changeS ((k.val:Nat):Int)).1≤3∧0≤(changeS ((k.val:Nat):Int)).2∧(changeS ((k.val:Nat):Int)).2≤3:=by decide
    have h1:=this ⟨op.toNat,by omega⟩
    simp only at h1
    rwa [show ((op.toNat:Nat):Int)=op by omega]at h1
  · unfold changeS
    rw[if_neg h]
    simp
def extraS (m:MS) (op:Int):Int :=
  if (m.side.length:Int)<(asideS op).1 then 9
  else if 0<(asideS op).2∧m.la<m.side.length+(asideS op).2 then 10
  else if op=3 then (if m.lc≤m.calls.length then 11 else 0)
  else if op=4 then (if m.calls.length=0 then 11 else 0)
  else if op=29∨op=30 then (if topS m<0∨(m.cells.length:Int)≤topS m then 12 else 0)
  else if op=12∨op=13 then (if topS m=0 then 13 else 0)
  else if op=31 then (if m.lo<(m.out.size:Int)+1 then 14 else 0)
  else if op=32 then (if m.lo<(m.out.size:Int)+(digitsS (topS m)).length+1 then 14 else 0)
  else 0
theorem refused_eq (m:MS) (hm:(m.stack.length:Int)≤m.ls) (op:Int) (h:0≤op∧op≤32):refusedS m op=if (m.stack.length:Int)<(changeS op).1 then 7 else if m.ls<m.stack.length-(changeS op).1+(changeS op).2 then 8 else extraS m op:=by
  have e:refusedS m op=if (m.stack.length:Int)<(needsS op).1 then 7 else if 0<(needsS op).2∧m.ls<m.stack.length+(needsS op).2 then 8 else extraS m op:=rfl
  rw[e,change_needs op h]
  dsimp only
  by_cases h7:(m.stack.length:Int)<(needsS op).1
  · rw[if_pos h7,if_pos h7]
  · rw[if_neg h7,if_neg h7]
    by_cases h8:0<(needsS op).2∧m.ls<m.stack.length+(needsS op).2
    · rw[if_pos h8,if_pos (by omega)]
    · rw[if_neg h8,if_neg (by omega)]
theorem doY_len (m:MS) (op arg:Int) (h:0≤op∧op≤32) (hr:(needsS op).1≤(m.stack.length:Int)):((doS m op arg).stack.length:Int)=m.stack.length-(changeS op).1+(changeS op).2∧(doS m op arg).ls=m.ls:=by
  rw[change_needs op h]
  have hop':op=0∨op=1∨op=2∨op=3∨op=4∨op=5∨op=6∨op=7∨op=8∨op=9∨op=10∨op=11∨op=12∨op=13∨op=14∨op=15∨op=16∨op=17∨op=18∨op=19∨op=20∨op=21∨op=22∨op=23∨op=24∨op=25∨op=26∨op=27∨op=28∨op=29∨op=30∨op=31∨op=32:=by omega
  clear h
  rcases hop' with rfl|rfl|rfl|rfl|rfl|rfl|rfl|rfl|rfl|rfl|rfl|rfl|rfl|rfl|rfl|rfl|rfl|rfl|rfl|rfl|rfl|rfl|rfl|rfl|rfl|rfl|rfl|rfl|rfl|rfl|rfl|rfl|rfl
  all_goals (simp[needsS]at hr;simp[doS,needsS])
  all_goals (first|omega|(split<;>simp<;>omega))
abbrev rowF (r:List (Int×Int)) (m:MS):Int×Int:=failGo m.ls (chRow r) m.stack.length 0
theorem failGo_cons (lim:Int) (c:Int×Int) (r:List (Int×Int)) (v i:Int):failGo lim (c :: r) v i=if v<c.1 then (7,i+1) else if lim<v-c.1+c.2 then (8,i+1) else failGo lim r (v+(c.2-c.1)) (i+1):=rfl
theorem failGo_at (lim:Int) (r:List (Int×Int)):∀ (v i:Int),failGo lim r v i=((failGo lim r v 0).1,(failGo lim r v 0).2+i):=by
  induction r with
  | nil=>intro v i;simp[failGo]
  | cons c r ih =>
    intro v i
    unfold failGo
    split
    · simp;omega
    · split
      · simp;omega
      · rw[ih _ (i+1),ih _ (0+1)]
        simp
        omega
theorem failGo_app (lim:Int) (a b:List (Int×Int)):∀ (v:Int),failGo lim (a++b) v 0=if (failGo lim a v 0).1=0 then ((failGo lim b (v+(a.map (fun c=>c.2-c.1)).sum) 0).1,(failGo lim b (v+(a.map (fun c=>c.2-c.1)).sum) 0).2+a.length) else failGo lim a v 0:=by
  induction a with
  | nil=>intro v;simp[failGo]
  | cons c a ih =>
    intro v
    rw[List.cons_append,failGo_cons,failGo_cons]
    by_cases h1:v<c.1
    · simp only[if_pos h1];rfl
    · by_cases h2:lim<v-c.1+c.2
      · simp only[if_neg h1,if_pos h2];rfl
      · simp only[if_neg h1,if_neg h2]
        rw[failGo_at lim (a++b),failGo_at lim a,ih]
        simp only[List.map_cons,List.sum_cons,List.length_cons]
        rw[show v+(c.2-c.1+(a.map (fun c=>c.2-c.1)).sum)=v+(c.2-c.1)+(a.map (fun c=>c.2-c.1)).sum by omega]
        split
        · simp;omega
        · rfl
theorem failGo_far (r:List (Int×Int)) (hr:∀ c∈r,0≤c.1∧c.1≤3∧0≤c.2∧c.2≤3):∀ (v v' room room':Int),(v=v'∨(3 * r.length≤v∧3 * r.length≤v'))→(room=room'∨(3 * r.length≤room∧3 * r.length≤room'))→failGo (v+room) r v 0=failGo (v'+room') r v' 0:=by
  induction r with
  | nil=>intro v v' room room' _ _;simp[failGo]
  | cons c r ih =>
    intro v v' room room' h1 h2
    have hc:=hr c (by simp)
    simp only[List.length_cons]at h1 h2
    rw[failGo_cons,failGo_cons]
    by_cases hu:v<c.1
    · have hu':v'<c.1:=by omega
      rw[if_pos hu,if_pos hu']
    · have hu':¬ v'<c.1:=by omega
      rw[if_neg hu,if_neg hu']
      by_cases ho:v+room<v-c.1+c.2
      · have ho':v'+room'<v'-c.1+c.2:=by omega
        rw[if_pos ho,if_pos ho']
      · have ho':¬ v'+room'<v'-c.1+c.2:=by omega
        rw[if_neg ho,if_neg ho']
        rw[failGo_at (v+room),failGo_at (v'+room')]
        have:=ih (fun d hd=>hr d (by simp[hd])) (v+(c.2-c.1)) (v'+(c.2-c.1)) (room-(c.2-c.1)) (room'-(c.2-c.1)) (by omega) (by omega)
        rw[show v+(c.2-c.1)+(room-(c.2-c.1))=v+room by omega,show v'+(c.2-c.1)+(room'-(c.2-c.1))=v'+room' by omega]at this
        rw[this]
theorem chRowY_small (r:List (Int×Int)):∀ c∈chRow r,0≤c.1∧c.1≤3∧0≤c.2∧c.2≤3:=by
  intro c hc
  unfold chRow at hc
  obtain⟨x,_,rfl⟩:=List.mem_map.1 hc
  exact changeY_small x.1
theorem fails_all {k:Int×Int} {old short next:List (Int×Int)} (h:failsS k old short next=true) (hs:short.length≤old.length) (m:MS) (h1:k.1≤m.stack.length) (h2:k.2≤m.ls-m.stack.length) (hk:0≤k.1∧0≤k.2) :
    (rowF (short++next) m).1=(rowF (old++next) m).1∧(rowF (short++next) m).2≤(rowF (old++next) m).2:=by
  unfold failsS at h
  rw[List.all_eq_true]at h
  have h:=fun i hi=>List.all_eq_true.1 (h i hi)
  let most:Nat:=3 * (old.length+next.length)
  let i:Nat:=min (m.stack.length-k.1.toNat) most
  let j:Nat:=min ((m.ls-m.stack.length).toNat-k.2.toNat) most
  have hij:=h i (List.mem_range.2 (by show min _ _<_;omega)) j (List.mem_range.2 (by show min _ _<_;omega))
  unfold alikeS at hij
  rw[Bool.and_eq_true,beq_iff_eq,decide_eq_true_iff]at hij
  have far:∀ r:List (Int×Int),r.length≤old.length+next.length→failGo (k.1+i+(k.2+j)) (chRow r) (k.1+i) 0=rowF r m:=by
    intro r hr
    have hl:(chRow r).length=r.length:=by unfold chRow;simp
    have:=failGo_far (chRow r) (chRowY_small r) (k.1+i) m.stack.length (k.2+j) (m.ls-m.stack.length) (by rw[hl];show _=_∨_;simp only[i,most];omega) (by rw[hl];simp only[j,most];omega)
    rw[this]
    unfold rowF
    rw[show (m.stack.length:Int)+(m.ls-m.stack.length)=m.ls by omega]
  rw[far _ (by simp),far _ (by simp;omega)]at hij
  exact⟨hij.1.symm,hij.2⟩
theorem known_row (row:List (Int×Int)) (hb:∀ x∈row,baseOk x) (m:MS) (hm:MOk m) (h0:(rowX row m).2.1=0) (n:Nat) (hn:n≤row.length):(rowX (row.take n) m).2.1=0∧(knownTo row n).1≤(rowX (row.take n) m).1.stack.length∧(knownTo row n).2≤(rowX (row.take n) m).1.ls-(rowX (row.take n) m).1.stack.length∧0≤(knownTo row n).1∧0≤(knownTo row n).2:=by
  induction n with
  | zero =>
    have:=hm.stack
    simp only[List.take_zero,rowX,knownTo]
    exact⟨trivial,by omega,by omega,by omega,by omega⟩
  | succ n ih =>
    obtain⟨i0,i1,i2,i3,i4⟩:=ih (by omega)
    obtain⟨x,hx⟩:∃ x,row[n]? = some x:=⟨_,List.getElem?_eq_getElem (by omega)⟩
    have hxb:=hb x (List.mem_of_getElem? hx)
    have hm1:=row_mok (row.take n) m (fun y hy=>(hb y (List.mem_of_mem_take hy)).2) hm
    have e:row.take (n+1)=row.take n++[x]:=by rw[List.take_add_one,hx];rfl
    have e1:(rowX (row.take (n+1)) m).2.1=0:=by
      have e2:=rowX_app (row.take (n+1)) (row.drop (n+1)) m
      rw[List.take_append_drop]at e2
      refine Classical.byContradiction (fun hne=>?_)
      rw[if_neg hne]at e2
      rw[e2]at h0
      exact hne h0
    rw[e,rowX_app,if_pos i0]at e1 ⊢
    simp only at e1 ⊢
    generalize rowX (row.take n) m=z at i0 i1 i2 hm1 e1 ⊢
    have hr:refusedS z.1 x.1=0:=by
      refine Classical.byContradiction (fun hne=>?_)
      rw[rowX,ins_base x z.1 hxb.1,if_neg hne]at e1
      simp only at e1
      rw[if_neg hne]at e1
      exact hne e1
    have hs:(rowX [x] z.1).1=doS z.1 x.1 x.2:=by
      rw[rowX,ins_base x z.1 hxb.1,if_pos hr]
      rfl
    have hm1s:=hm1.stack
    have hcs:=changeY_small x.1
    have h7:=refused_eq z.1 hm1s x.1 hxb.1
    rw[hr]at h7
    have hu:¬ (z.1.stack.length:Int)<(changeS x.1).1:=by
      intro h
      rw[if_pos h]at h7
      omega
    rw[if_neg hu]at h7
    have ho:¬ z.1.ls<z.1.stack.length-(changeS x.1).1+(changeS x.1).2:=by
      intro h
      rw[if_pos h]at h7
      omega
    have hl:=doY_len z.1 x.1 x.2 hxb.1 (by have:=change_needs x.1 hxb.1;rw[this]at hu;simp only at hu;omega)
    refine⟨e1,?_⟩
    rw[hs,hl.1,hl.2,knownTo,hx]
    unfold knownStep
    simp only
    omega
theorem need_le {m:MS} {op:Int} (h:refusedS m op=0):(needsS op).1≤(m.stack.length:Int):=by
  unfold refusedS at h
  split at h
  · cases h
  · omega
def NoExtra:List (Int×Int)→MS→Prop
  | [],_=>True
  | x :: r,m=>(refusedS m x.1=0∨refusedS m x.1=7∨refusedS m x.1=8)∧(refusedS m x.1=0→NoExtra r (doS m x.1 x.2))
theorem extra_not (m:MS) (op:Int):extraS m op≠7∧extraS m op≠8:=by
  unfold extraS
  refine⟨?_,?_⟩<;>(repeat' split)<;>omega
theorem doS_out (m:MS) (op arg:Int) (hp:0≤op) (h:op≤25):(doS m op arg).out=m.out:=by
  by_cases h0:0≤op
  · have hop':op=0∨op=1∨op=2∨op=3∨op=4∨op=5∨op=6∨op=7∨op=8∨op=9∨op=10∨op=11∨op=12∨op=13∨op=14∨op=15∨op=16∨op=17∨op=18∨op=19∨op=20∨op=21∨op=22∨op=23∨op=24∨op=25:=by omega
    clear h h0
    rcases hop' with rfl|rfl|rfl|rfl|rfl|rfl|rfl|rfl|rfl|rfl|rfl|rfl|rfl|rfl|rfl|rfl|rfl|rfl|rfl|rfl|rfl|rfl|rfl|rfl|rfl|rfl
    all_goals first|rfl|(simp[doS];done)|(simp[doS];split<;>rfl)
  · exact absurd hp h0
theorem calm_at (r:List (Int×Int)):∀ m:MS,(∀ x∈r,baseOk x∧x.1≤25)→MOk m→NoExtra r m →
    ((rowF r m).1≠0→(rowX r m).2.1=(rowF r m).1∧((rowX r m).2.2:Int)=(rowF r m).2)∧((rowF r m).1=0→(rowX r m).2.1=0)∧(rowX r m).1.out=m.out:=by
  induction r with
  | nil=>intro m _ _ _;exact⟨fun h=>absurd rfl h,fun _=>rfl,rfl⟩
  | cons x r ih =>
    intro m hb hm hn
    obtain⟨hx,hx25⟩:=hb x (by simp)
    obtain⟨h1,h2⟩:=hn
    have hre:=refused_eq m hm.stack x.1 hx.1
    have ef:rowF (x :: r) m=if (m.stack.length:Int)<(changeS x.1).1 then (7,0+1) else if m.ls<m.stack.length-(changeS x.1).1+(changeS x.1).2 then (8,0+1) else failGo m.ls (chRow r) (m.stack.length+((changeS x.1).2-(changeS x.1).1)) (0+1):=rfl
    rw[ef,rowX,ins_base x m hx.1]
    by_cases h7:(m.stack.length:Int)<(changeS x.1).1
    · rw[if_pos h7]at hre
      simp only[if_pos h7,hre]
      simp
    · rw[if_neg h7]at hre
      simp only[if_neg h7]
      by_cases h8:m.ls<m.stack.length-(changeS x.1).1+(changeS x.1).2
      · rw[if_pos h8]at hre
        simp only[if_pos h8,hre]
        simp
      · rw[if_neg h8]at hre
        simp only[if_neg h8]
        have hx0:refusedS m x.1=0:=by
          have:=extra_not m x.1
          omega
        simp only[hx0,if_true]
        have hmk:=doS_mok m hm x.1 x.2 hx.1 hx.2 hx0
        obtain⟨l1,l2⟩:=doY_len m x.1 x.2 hx.1 (need_le hx0)
        have i:=ih (doS m x.1 x.2) (fun y hy=>hb y (by simp[hy])) hmk (h2 hx0)
        have e:failGo m.ls (chRow r) (m.stack.length+((changeS x.1).2-(changeS x.1).1)) (0+1)=((rowF r (doS m x.1 x.2)).1,(rowF r (doS m x.1 x.2)).2+1):=by
          rw[failGo_at]
          unfold rowF
          rw[l1,l2]
          rw[show (m.stack.length:Int)-(changeS x.1).1+(changeS x.1).2=m.stack.length+((changeS x.1).2-(changeS x.1).1) by omega]
          rfl
        rw[e]
        simp only
        obtain⟨i1,i2,i3⟩:=i
        exact⟨fun hne=>⟨(i1 hne).1,by have:=(i1 hne).2;push_cast;omega⟩,i2,by rw[i3];exact doS_out m x.1 x.2 hx.1.1 hx25⟩
theorem row_len (r:List (Int×Int)):∀ m:MS,(∀ x∈r,baseOk x)→(rowX r m).2.1=0→((rowX r m).1.stack.length:Int)=m.stack.length+((chRow r).map (fun c=>c.2-c.1)).sum∧(rowX r m).1.ls=m.ls:=by
  induction r with
  | nil=>intro m _ _;simp[rowX,chRow]
  | cons x r ih =>
    intro m hb h0
    have hx:=hb x (by simp)
    rw[rowX,ins_base x m hx.1]at h0 ⊢
    by_cases hr:refusedS m x.1=0
    · simp only[if_pos hr,if_true]at h0 ⊢
      obtain⟨l1,l2⟩:=doY_len m x.1 x.2 hx.1 (need_le hr)
      obtain⟨i1,i2⟩:=ih _ (fun y hy=>hb y (by simp[hy])) h0
      refine⟨?_,i2.trans l2⟩
      rw[i1,l1]
      have:((chRow (x :: r)).map (fun c=>c.2-c.1)).sum=((changeS x.1).2-(changeS x.1).1)+((chRow r).map (fun c=>c.2-c.1)).sum:=rfl
      rw[this]
      omega
    · simp only[if_neg hr]at h0
      exact absurd h0 hr
structure RuleOk (old short:List (Int×Int)):Prop where
  calm:∀ m,MOk m→NoExtra old m∧NoExtra short m
  base:(∀ x∈old,baseOk x∧x.1≤25)∧(∀ x∈short,baseOk x∧x.1≤25)
  same:∀ m,MOk m→(rowX old m).2.1=0→(rowX short m).2.1=0→(rowX short m).1=(rowX old m).1
theorem one_fail {x:Int×Int} (hx:baseOk x) {m:MS} (hm:MOk m) (h:(rowF [x] m).1≠0):(rowF [x] m).1=refusedS m x.1∧refusedS m x.1≠0∧(rowF [x] m).2=1:=by
  have hre:=refused_eq m hm.stack x.1 hx.1
  have ef:rowF [x] m=if (m.stack.length:Int)<(changeS x.1).1 then (7,0+1) else if m.ls<m.stack.length-(changeS x.1).1+(changeS x.1).2 then (8,0+1) else (0,0+1):=rfl
  rw[ef]at h ⊢
  by_cases h7:(m.stack.length:Int)<(changeS x.1).1
  · rw[if_pos h7]at hre ⊢
    rw[hre]
    simp
  · rw[if_neg h7]at hre h ⊢
    by_cases h8:m.ls<m.stack.length-(changeS x.1).1+(changeS x.1).2
    · rw[if_pos h8]at hre ⊢
      rw[hre]
      simp
    · rw[if_neg h8]at h
      exact absurd rfl h
theorem next_fail {a:List (Int×Int)} {x:Int×Int} {tail:List (Int×Int)} {m:MS} (hm:MOk m) (hb:∀ y∈a,baseOk y) (hx:baseOk x) (h0:(rowX a m).2.1=0) (hf:(rowF a m).1=0) (h:(rowF (a++[x]) m).1≠0) :
    (rowX (a++(x :: tail)) m).2.1=(rowF (a++[x]) m).1∧((rowX (a++(x :: tail)) m).2.2:Int)=(rowF (a++[x]) m).2∧(rowX (a++(x :: tail)) m).1.out=(rowX a m).1.out:=by
  have ea:chRow (a++[x])=chRow a++chRow [x]:=by unfold chRow;simp
  obtain⟨l1,l2⟩:=row_len a m hb h0
  have e:rowF (a++[x]) m=((rowF [x] (rowX a m).1).1,(rowF [x] (rowX a m).1).2+a.length):=by
    unfold rowF at hf ⊢
    rw[ea,failGo_app,if_pos hf,l1,l2]
    have:(chRow a).length=a.length:=by unfold chRow;simp
    rw[this]
  have hm1:=row_mok a m (fun y hy=>(hb y hy).2) hm
  rw[e]at h ⊢
  simp only at h ⊢
  obtain⟨f1,f2,f3⟩:=one_fail hx hm1 h
  rw[rowX_app,if_pos h0,rowX,ins_base x _ hx.1,if_neg f2]
  simp only[if_neg f2]
  have hs:=(rowX_steps a m).1 h0
  exact⟨f1.symm,by rw[f3,hs];push_cast;omega,trivial⟩
theorem rewrite_sim {nxt:Int} {ahead old short next tail:List (Int×Int)} (hb:∀ x∈ahead++(old++(next++tail)),baseOk x) (hr:RuleOk old short) (hl:short.length≤old.length) (hn:next.length≤1)
    (hf:failsS (knownS ahead) old short next=true):RowSim nxt (ahead++(old++(next++tail))) (ahead++(short++(next++tail))):=by
  intro m hm _ _
  rw[rowX_app ahead,rowX_app ahead]
  by_cases ha:(rowX ahead m).2.1=0
  · simp only[if_pos ha]
    have hba:∀ x∈ahead,baseOk x:=fun x hx=>hb x (by simp[hx])
    have hm1:=row_mok ahead m (fun y hy=>(hba y hy).2) hm
    obtain⟨k0,k1,k2,k3,k4⟩:=known_row ahead hba m hm ha ahead.length (Nat.le_refl _)
    rw[List.take_length]at k1 k2
    obtain⟨f1,f2⟩:=fails_all hf hl (rowX ahead m).1 k1 k2 ⟨k3,k4⟩
    generalize (rowX ahead m).1=m1 at *
    suffices h:(rowX (short++(next++tail)) m1).2.1=(rowX (old++(next++tail)) m1).2.1∧(rowX (short++(next++tail)) m1).2.2≤(rowX (old++(next++tail)) m1).2.2∧(rowX (short++(next++tail)) m1).1.out=(rowX (old++(next++tail)) m1).1.out∧((rowX (old++(next++tail)) m1).2.1=0→(rowX (short++(next++tail)) m1).1=(rowX (old++(next++tail)) m1).1) by
      exact⟨h.1,by have:=h.2.1;omega,h.2.2.1,h.2.2.2⟩
    obtain⟨o1,o2,o3⟩:=calm_at old m1 hr.base.1 hm1 (hr.calm m1 hm1).1
    obtain⟨s1,s2,s3⟩:=calm_at short m1 hr.base.2 hm1 (hr.calm m1 hm1).2
    have app:∀ a:List (Int×Int),(rowF a m1).1≠0→rowF (a++next) m1=rowF a m1:=fun a h=>by
      unfold rowF at h ⊢
      rw[show chRow (a++next)=chRow a++chRow next by unfold chRow;simp,failGo_app,if_neg h]
    have stop:∀ a:List (Int×Int),(rowX a m1).2.1≠0→rowX (a++(next++tail)) m1=rowX a m1:=fun a h=>by
      rw[rowX_app,if_neg h]
    have nx:∀ a:List (Int×Int),(∀ y∈a,baseOk y)→(rowX a m1).2.1=0→(rowF a m1).1=0→(rowF (a++next) m1).1≠0→(rowX (a++(next++tail)) m1).2.1=(rowF (a++next) m1).1∧((rowX (a++(next++tail)) m1).2.2:Int)=(rowF (a++next) m1).2∧(rowX (a++(next++tail)) m1).1.out=(rowX a m1).1.out:=by
      intro a hba h0 hf0 h
      cases next with
      | nil=>rw[List.append_nil]at h;exact absurd hf0 h
      | cons x n =>
        have:n=[]:=by
          simp at hn
          exact hn
        subst this
        exact next_fail hm1 hba (hb x (by simp)) h0 hf0 h
    have hbo:∀ y∈old,baseOk y:=fun y hy=>(hr.base.1 y hy).1
    have hbs:∀ y∈short,baseOk y:=fun y hy=>(hr.base.2 y hy).1
    by_cases ho:(rowF old m1).1=0
    · have ro:=o2 ho
      by_cases hs:(rowF short m1).1=0
      · have rs:=s2 hs
        have e:=hr.same m1 hm1 ro rs
        have t1:=(rowX_steps old m1).1 ro
        have t2:=(rowX_steps short m1).1 rs
        rw[rowX_app old,rowX_app short,if_pos ro,if_pos rs,e,t1,t2]
        exact⟨rfl,by simp only;omega,rfl,fun _=>rfl⟩
      · have rs:=(s1 hs)
        have e1:=app short hs
        rw[e1]at f1 f2
        have hne:(rowF (old++next) m1).1≠0:=by rw[← f1];exact hs
        obtain⟨n1,n2,n3⟩:=nx old hbo ro ho hne
        rw[stop short (by rw[rs.1];exact hs),n1,n3,rs.1,s3,o3]
        exact⟨f1,by omega,rfl,fun h=>absurd h hne⟩
    · have ro:=o1 ho
      have e0:=app old ho
      rw[e0]at f1 f2
      rw[stop old (by rw[ro.1];exact ho),ro.1,o3]
      by_cases hs:(rowF short m1).1=0
      · have rs:=s2 hs
        have hne:(rowF (short++next) m1).1≠0:=by rw[f1];exact ho
        obtain⟨n1,n2,n3⟩:=nx short hbs rs hs hne
        rw[n1,n3,s3]
        exact⟨f1,by omega,rfl,fun h=>absurd h ho⟩
      · have rs:=s1 hs
        have e1:=app short hs
        rw[e1]at f1 f2
        rw[stop short (by rw[rs.1];exact hs),rs.1,s3]
        exact⟨f1,by omega,rfl,fun h=>absurd h ho⟩
  · simp only[if_neg ha]
    exact⟨trivial,Nat.le_refl _,trivial,fun _=>trivial⟩
end Go.Proofs.YtmeiikjpaepogaaGreatDoor
