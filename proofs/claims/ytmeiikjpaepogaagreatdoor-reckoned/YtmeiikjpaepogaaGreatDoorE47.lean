/- What Fold makes of rows: each rule does the same. -/
import Derived.Test.YtmeiikjpaepogaaGreatDoorE46
namespace Go.Proofs.YtmeiikjpaepogaaGreatDoor
open Go Go.RowKit
theorem row_cons_ok {x:Int×Int} {r:List (Int×Int)} {m:MS} (hx:0≤x.1∧x.1≤32) (h:(rowX (x :: r) m).2.1=0):refusedS m x.1=0∧(rowX r (doS m x.1 x.2)).2.1=0∧(rowX (x :: r) m).1=(rowX r (doS m x.1 x.2)).1:=by
  rw[rowX,ins_base x m hx]at h ⊢
  by_cases hr:refusedS m x.1=0
  · simp only[if_pos hr,if_true]at h ⊢
    exact⟨hr,h,trivial⟩
  · simp only[if_neg hr]at h
    exact absurd h hr
def tameOp (op:Int):Prop:=op=0∨op=1∨op=2∨op=9∨op=10∨op=11∨(14≤op∧op≤25)
theorem tame_extra (m:MS) (op:Int) (h:tameOp op):extraS m op=0:=by
  unfold tameOp at h
  have ha:asideS op=(0,0):=by
    unfold asideS
    simp only[if_neg (show ¬ (op=8∨op=28) by omega),if_neg (show ¬ op=27 by omega),if_neg (show ¬ op=26 by omega),if_neg (show ¬ op=6 by omega),if_neg (show ¬ op=7 by omega)]
  unfold extraS
  rw[ha]
  simp only[if_neg (show ¬ ((m.side.length:Int)<0) by omega),if_neg (show ¬ (0<(0:Int)∧m.la<m.side.length+0) by omega),if_neg (show ¬ op=3 by omega),if_neg (show ¬ op=4 by omega),if_neg (show ¬ (op=29∨op=30) by omega),if_neg (show ¬ (op=12∨op=13) by omega),if_neg (show ¬ op=31 by omega),if_neg (show ¬ op=32 by omega)]
theorem tame_refused (m:MS) (hm:MOk m) (op:Int) (h:tameOp op):refusedS m op=0∨refusedS m op=7∨refusedS m op=8:=by
  rw[refused_eq m hm.stack op (by unfold tameOp at h;omega),tame_extra m op h]
  split
  · exact Or.inr (Or.inl rfl)
  · split
    · exact Or.inr (Or.inr rfl)
    · exact Or.inl rfl
theorem tame_calm (r:List (Int×Int)):∀ m:MS,(∀ x∈r,baseOk x∧tameOp x.1)→MOk m→NoExtra r m:=by
  induction r with
  | nil=>intro m _ _;trivial
  | cons x r ih =>
    intro m hb hm
    obtain⟨h1,h2⟩:=hb x (by simp)
    exact⟨tame_refused m hm x.1 h2,fun h0=>ih _ (fun y hy=>hb y (by simp[hy])) (doS_mok m hm x.1 x.2 h1.1 h1.2 h0)⟩
theorem tame_le {op:Int} (h:tameOp op):op≤25:=by unfold tameOp at h;omega
theorem rule_tame {old short:List (Int×Int)} (ho:∀ x∈old,baseOk x∧tameOp x.1) (hs:∀ x∈short,baseOk x∧tameOp x.1) (h:∀ m,MOk m→(rowX old m).2.1=0→(rowX short m).2.1=0→(rowX short m).1=(rowX old m).1):RuleOk old short :=
  ⟨fun m hm=>⟨tame_calm old m ho hm,tame_calm short m hs hm⟩,⟨fun x hx=>⟨(ho x hx).1,tame_le (ho x hx).2⟩,fun x hx=>⟨(hs x hx).1,tame_le (hs x hx).2⟩⟩,h⟩
theorem shape1 {s:List Int} (h:1≤s.length):∃ t a,s=t++[a]:=by
  rcases List.eq_nil_or_concat s with rfl|⟨t,c,rfl⟩
  · simp at h
  · exact⟨t,c,List.concat_eq_append⟩
theorem shape2 {s:List Int} (h:2≤s.length):∃ t a b,s=t++[a]++[b]:=by
  obtain⟨t,b,rfl⟩:=shape1 (s:=s) (by omega)
  simp at h
  obtain⟨t,a,rfl⟩:=shape1 (s:=t) (by omega)
  exact⟨t,a,b,rfl⟩
theorem shape3 {s:List Int} (h:3≤s.length):∃ t a b c,s=t++[a]++[b]++[c]:=by
  obtain⟨t,b,c,rfl⟩:=shape2 (s:=s) (by omega)
  simp at h
  obtain⟨t,a,rfl⟩:=shape1 (s:=t) (by omega)
  exact⟨t,a,b,c,rfl⟩
theorem topL_snoc (l:List Int) (a:Int):topL (l++[a])=a:=by simp[topL]
theorem lit_base {n:Int} (h:inI n):baseOk (0,n):=⟨by simp,h⟩
theorem op_base {op:Int} (h:0≤op∧op≤32):baseOk (op,0):=⟨h,inI_zero⟩
theorem do_two (m:MS) (op arg:Int) (h:9≤op∧op≤20∧op≠17∧op≠18) {t:List Int} {a b:Int} (hs:m.stack=t++[a]++[b]):doS m op arg={ m with stack:=t++[twoS op a b] }:=by
  have e:doS m op arg={ m with stack:=m.stack.dropLast.dropLast++[twoS op (topL m.stack.dropLast) (topL m.stack)] }:=by
    unfold doS
    simp only[if_neg (show ¬ op=0 by omega),if_neg (show ¬ op=1 by omega),if_neg (show ¬ op=2 by omega),if_neg (show ¬ op=3 by omega),if_neg (show ¬ op=4 by omega),if_neg (show ¬ op=5 by omega),if_neg (show ¬ op=6 by omega),if_neg (show ¬ op=7 by omega),if_neg (show ¬ (op=8∨op=28) by omega),if_neg (show ¬ op=17 by omega),if_neg (show ¬ op=18 by omega),if_pos (show 9≤op∧op≤20 by omega)]
  rw[e,hs,List.dropLast_concat,List.dropLast_concat,topL_snoc,topL_snoc]
theorem needs_two {op:Int} (h:9≤op∧op≤20∧op≠17∧op≠18):(needsS op).1=2:=by
  have hop:op=9∨op=10∨op=11∨op=12∨op=13∨op=14∨op=15∨op=16∨op=19∨op=20:=by omega
  rcases hop with rfl|rfl|rfl|rfl|rfl|rfl|rfl|rfl|rfl|rfl<;>decide
theorem doY_lit (m:MS) (n:Int):doS m 0 n={ m with stack:=m.stack++[n] }:=rfl
theorem rule_swap {op:Int} (h:tameOp op∧9≤op∧op≤20∧op≠17∧op≠18) (hc:∀ u t,twoS op t u=twoS op u t):RuleOk [(23,0),(op,0)] [(op,0)]:=by
  have hb:baseOk (op,0):=op_base (by omega)
  refine rule_tame (fun x hx=>?_) (fun x hx=>?_) (fun m _ ho hs=>?_)
  · simp at hx
    rcases hx with rfl|rfl
    · exact⟨op_base (by simp),by unfold tameOp;simp⟩
    · exact⟨hb,h.1⟩
  · simp at hx
    subst hx
    exact⟨hb,h.1⟩
  · obtain⟨r1,r2,e1⟩:=row_cons_ok (by simp) ho
    obtain⟨r3,_,e2⟩:=row_cons_ok hb.1 r2
    obtain⟨r4,_,e4⟩:=row_cons_ok hb.1 hs
    have hn:=need_le r1
    obtain⟨t,a,b,hst⟩:=shape2 (s:=m.stack) (by simp[needsS]at hn;omega)
    have ed:doS m 23 0={ m with stack:=t++[b]++[a] }:=by
      have:doS m 23 0={ m with stack:=m.stack.dropLast.dropLast++[topL m.stack,topL m.stack.dropLast] }:=rfl
      rw[this,hst,List.dropLast_concat,List.dropLast_concat,topL_snoc,topL_snoc,List.append_assoc]
      rfl
    rw[e4,e1,e2,ed]
    simp only[rowX]
    rw[do_two m op 0 h.2 hst,do_two _ op 0 h.2 (t:=t) (a:=b) (b:=a) rfl,hc]
theorem rule_lit {k op:Int} (hk:inI k) (h:9≤op∧op≤20∧op≠17∧op≠18) (hc:∀ u,inI u→twoS op u k=u) (hcalm:∀ m,MOk m→NoExtra [(0,k),(op,0)] m):RuleOk [(0,k),(op,0)] []:=by
  refine⟨fun m hm=>⟨hcalm m hm,trivial⟩,⟨fun x hx=>?_,fun x hx=>by simp at hx⟩,fun m hm ho _=>?_⟩
  · simp at hx
    rcases hx with rfl|rfl
    · exact⟨lit_base hk,by simp⟩
    · exact⟨op_base (by omega),by simp only;omega⟩
  · obtain⟨r1,r2,e1⟩:=row_cons_ok (by simp) ho
    obtain⟨r3,_,e2⟩:=row_cons_ok (by simp only;omega) r2
    have hn:=need_le r3
    simp only at hn
    rw[needs_two h,doY_lit]at hn
    obtain⟨t,a,hst⟩:=shape1 (s:=m.stack) (by simp at hn;omega)
    rw[e1,e2]
    simp only[rowX]
    rw[do_two _ op 0 h (t:=t) (a:=a) (b:=k) (by rw[doY_lit];simp only;rw[hst]),hc a (hm.ints.1 a (by rw[hst];simp)),doY_lit]
    simp only
    rw[← hst]
theorem calm_lit {k op:Int} (hk:inI k) (h:tameOp op) (m:MS) (hm:MOk m):NoExtra [(0,k),(op,0)] m:=by
  refine tame_calm _ m (fun x hx=>?_) hm
  simp at hx
  rcases hx with rfl|rfl
  · exact⟨lit_base hk,Or.inl rfl⟩
  · exact⟨op_base (by unfold tameOp at h;omega),h⟩
theorem calm_div (m:MS) (hm:MOk m):NoExtra [(0,1),(12,0)] m:=by
  refine⟨tame_refused m hm 0 (Or.inl rfl),fun h0=>⟨?_,fun _=>trivial⟩⟩
  have hm1:=doS_mok m hm 0 1 (by simp) (by unfold inI;simp) h0
  show refusedS (doS m 0 1) 12=0∨refusedS (doS m 0 1) 12=7∨refusedS (doS m 0 1) 12=8
  rw[refused_eq _ hm1.stack 12 (by simp)]
  have e:extraS (doS m 0 1) 12=0:=by
    have ht:topS (doS m 0 1)=1:=by
      rw[doY_lit]
      unfold topS
      simp
    unfold extraS
    rw[ht]
    have:¬ (((doS m 0 1).side.length:Int)<0):=by omega
    simp[asideS,this]
  rw[e]
  split
  · exact Or.inr (Or.inl rfl)
  · split
    · exact Or.inr (Or.inr rfl)
    · exact Or.inl rfl
theorem rule_small {old short:List (Int×Int)} (ho:∀ x∈old,x=(23,0)∨x=(25,0)∨x=(17,0)∨x=(18,0)∨x=(21,0)∨x=(22,0)∨x=(24,0)∨x=(9,0)∨x=(10,0)) (hs:∀ x∈short,x=(21,0)∨x=(9,0)∨x=(10,0)) (h:∀ m,MOk m→(rowX old m).2.1=0→(rowX short m).2.1=0→(rowX short m).1=(rowX old m).1):RuleOk old short:=by
  refine rule_tame (fun x hx=>?_) (fun x hx=>?_) h
  · rcases ho x hx with rfl|rfl|rfl|rfl|rfl|rfl|rfl|rfl|rfl<;>exact⟨op_base (by simp),by unfold tameOp;simp⟩
  · rcases hs x hx with rfl|rfl|rfl<;>exact⟨op_base (by simp),by unfold tameOp;simp⟩
theorem do_swap (m:MS) {t:List Int} {a b:Int} (h:m.stack=t++[a]++[b]):doS m 23 0={ m with stack:=t++[b]++[a] }:=by
  have:doS m 23 0={ m with stack:=m.stack.dropLast.dropLast++[topL m.stack,topL m.stack.dropLast] }:=rfl
  rw[this,h,List.dropLast_concat,List.dropLast_concat,topL_snoc,topL_snoc,List.append_assoc]
  rfl
theorem do_rot (m:MS) {t:List Int} {a b c:Int} (h:m.stack=t++[a]++[b]++[c]):doS m 25 0={ m with stack:=t++[b]++[c]++[a] }:=by
  have:doS m 25 0={ m with stack:=m.stack.dropLast.dropLast.dropLast++[topL m.stack.dropLast,topL m.stack,topL m.stack.dropLast.dropLast] }:=rfl
  rw[this,h,List.dropLast_concat,List.dropLast_concat,List.dropLast_concat,topL_snoc,topL_snoc,topL_snoc,List.append_assoc,List.append_assoc]
  rfl
theorem do_inv (m:MS) {t:List Int} {a:Int} (h:m.stack=t++[a]):doS m 17 0={ m with stack:=t++[-1-a] }:=by
  have:doS m 17 0={ m with stack:=m.stack.dropLast++[-1-topL m.stack] }:=rfl
  rw[this,h,List.dropLast_concat,topL_snoc]
theorem do_neg (m:MS) {t:List Int} {a:Int} (h:m.stack=t++[a]):doS m 18 0={ m with stack:=t++[wrap64 (-a)] }:=by
  have:doS m 18 0={ m with stack:=m.stack.dropLast++[wrap64 (-topL m.stack)] }:=rfl
  rw[this,h,List.dropLast_concat,topL_snoc]
theorem do_dup (m:MS) {t:List Int} {a:Int} (h:m.stack=t++[a]):doS m 21 0={ m with stack:=t++[a]++[a] }:=by
  have:doS m 21 0={ m with stack:=m.stack++[topL m.stack] }:=rfl
  rw[this,h,topL_snoc]
theorem do_drop (m:MS) {t:List Int} {a:Int} (h:m.stack=t++[a]):doS m 22 0={ m with stack:=t }:=by
  have:doS m 22 0={ m with stack:=m.stack.dropLast }:=rfl
  rw[this,h,List.dropLast_concat]
theorem do_over (m:MS) {t:List Int} {a b:Int} (h:m.stack=t++[a]++[b]):doS m 24 0={ m with stack:=t++[a]++[b]++[a] }:=by
  have:doS m 24 0={ m with stack:=m.stack++[topL m.stack.dropLast] }:=rfl
  rw[this,h,List.dropLast_concat,topL_snoc]
theorem stack_same (m:MS) {s:List Int} (h:m.stack=s):({ m with stack:=s }:MS)=m:=by subst h;rfl
theorem ok_swap2:RuleOk [(23,0),(23,0)] []:=by
  refine rule_small (by simp) (by simp) (fun m _ ho _=>?_)
  obtain⟨r1,r2,e1⟩:=row_cons_ok (by simp) ho
  obtain⟨_,_,e2⟩:=row_cons_ok (by simp) r2
  have hn:=need_le r1
  obtain⟨t,a,b,hst⟩:=shape2 (s:=m.stack) (by simp[needsS]at hn;omega)
  rw[e1,e2]
  simp only[rowX]
  rw[do_swap m hst,do_swap _ (t:=t) (a:=b) (b:=a) rfl]
  exact (stack_same m hst).symm
theorem ok_rot3:RuleOk [(25,0),(25,0),(25,0)] []:=by
  refine rule_small (by simp) (by simp) (fun m _ ho _=>?_)
  obtain⟨r1,r2,e1⟩:=row_cons_ok (by simp) ho
  obtain⟨_,r3,e2⟩:=row_cons_ok (by simp) r2
  obtain⟨_,_,e3⟩:=row_cons_ok (by simp) r3
  have hn:=need_le r1
  obtain⟨t,a,b,c,hst⟩:=shape3 (s:=m.stack) (by simp[needsS]at hn;omega)
  rw[e1,e2,e3]
  simp only[rowX]
  rw[do_rot m hst,do_rot { m with stack:=t++[b]++[c]++[a] } (t:=t) (a:=b) (b:=c) (c:=a) rfl,do_rot { m with stack:=t++[c]++[a]++[b] } (t:=t) (a:=c) (b:=a) (c:=b) rfl]
  exact (stack_same m hst).symm
theorem ok_inv2:RuleOk [(17,0),(17,0)] []:=by
  refine rule_small (by simp) (by simp) (fun m _ ho _=>?_)
  obtain⟨r1,r2,e1⟩:=row_cons_ok (by simp) ho
  obtain⟨_,_,e2⟩:=row_cons_ok (by simp) r2
  have hn:=need_le r1
  obtain⟨t,a,hst⟩:=shape1 (s:=m.stack) (by simp[needsS]at hn;omega)
  rw[e1,e2]
  simp only[rowX]
  rw[do_inv m hst,do_inv _ (t:=t) (a:=-1-a) rfl,show -1-(-1-a)=a by omega]
  exact (stack_same m hst).symm
theorem ok_neg2:RuleOk [(18,0),(18,0)] []:=by
  refine rule_small (by simp) (by simp) (fun m hm ho _=>?_)
  obtain⟨r1,r2,e1⟩:=row_cons_ok (by simp) ho
  obtain⟨_,_,e2⟩:=row_cons_ok (by simp) r2
  have hn:=need_le r1
  obtain⟨t,a,hst⟩:=shape1 (s:=m.stack) (by simp[needsS]at hn;omega)
  have ha:inI a:=hm.ints.1 a (by rw[hst];simp)
  rw[e1,e2]
  simp only[rowX]
  rw[do_neg m hst,do_neg _ (t:=t) (a:=wrap64 (-a)) rfl,show wrap64 (-wrap64 (-a))=a by unfold inI at ha;unfold wrap64;omega]
  exact (stack_same m hst).symm
theorem ok_dupDrop:RuleOk [(21,0),(22,0)] []:=by
  refine rule_small (by simp) (by simp) (fun m _ ho _=>?_)
  obtain⟨r1,r2,e1⟩:=row_cons_ok (by simp) ho
  obtain⟨_,_,e2⟩:=row_cons_ok (by simp) r2
  have hn:=need_le r1
  obtain⟨t,a,hst⟩:=shape1 (s:=m.stack) (by simp[needsS]at hn;omega)
  rw[e1,e2]
  simp only[rowX]
  rw[do_dup m hst,do_drop _ (t:=t++[a]) (a:=a) rfl]
  exact (stack_same m hst).symm
theorem ok_overDrop:RuleOk [(24,0),(22,0)] []:=by
  refine rule_small (by simp) (by simp) (fun m _ ho _=>?_)
  obtain⟨r1,r2,e1⟩:=row_cons_ok (by simp) ho
  obtain⟨_,_,e2⟩:=row_cons_ok (by simp) r2
  have hn:=need_le r1
  obtain⟨t,a,b,hst⟩:=shape2 (s:=m.stack) (by simp[needsS]at hn;omega)
  rw[e1,e2]
  simp only[rowX]
  rw[do_over m hst,do_drop _ (t:=t++[a]++[b]) (a:=a) rfl]
  exact (stack_same m hst).symm
theorem ok_dupSwap:RuleOk [(21,0),(23,0)] [(21,0)]:=by
  refine rule_small (by simp) (by simp) (fun m _ ho hs=>?_)
  obtain⟨r1,r2,e1⟩:=row_cons_ok (by simp) ho
  obtain⟨_,_,e2⟩:=row_cons_ok (by simp) r2
  obtain⟨_,_,e3⟩:=row_cons_ok (by simp) hs
  have hn:=need_le r1
  obtain⟨t,a,hst⟩:=shape1 (s:=m.stack) (by simp[needsS]at hn;omega)
  rw[e1,e2,e3]
  simp only[rowX]
  rw[do_dup m hst,do_swap _ (t:=t) (a:=a) (b:=a) rfl]
theorem ok_negTwo {op op':Int} (h:op=9∧op'=10∨op=10∧op'=9):RuleOk [(18,0),(op,0)] [(op',0)]:=by
  have h9:9≤op∧op≤20∧op≠17∧op≠18:=by omega
  have h9':9≤op'∧op'≤20∧op'≠17∧op'≠18:=by omega
  refine rule_small (fun x hx=>?_) (fun x hx=>?_) (fun m _ ho hs=>?_)
  · simp at hx
    rcases hx with rfl|rfl
    · simp
    · rcases h with ⟨rfl,_⟩|⟨rfl,_⟩<;>simp
  · simp at hx
    subst hx
    rcases h with ⟨_,rfl⟩|⟨_,rfl⟩<;>simp
  · obtain⟨r1,r2,e1⟩:=row_cons_ok (by simp) ho
    obtain⟨r3,_,e2⟩:=row_cons_ok (by simp only;omega) r2
    obtain⟨r4,_,e3⟩:=row_cons_ok (by simp only;omega) hs
    have hn:=need_le r4
    simp only at hn
    rw[needs_two h9']at hn
    obtain⟨t,a,b,hst⟩:=shape2 (s:=m.stack) (by omega)
    rw[e1,e2,e3]
    simp only[rowX]
    rw[do_neg m hst,do_two _ op 0 h9 (t:=t) (a:=a) (b:=wrap64 (-b)) rfl,do_two m op' 0 h9' hst]
    have:twoS op' a b=twoS op a (wrap64 (-b)):=by
      rcases h with ⟨rfl,rfl⟩|⟨rfl,rfl⟩
      · show wrap64 (a-b)=wrap64 (a+wrap64 (-b))
        unfold wrap64
        omega
      · show wrap64 (a+b)=wrap64 (a-wrap64 (-b))
        unfold wrap64
        omega
    rw[this]
theorem reck_op {x:Int×Int} (h:reckS x=true):x.1=0∨9≤x.1∧x.1≤25:=of_decide_eq_true h
theorem topL_base (base s:List Int) (h:1≤s.length):topL (base++s)=topL s:=by
  obtain⟨t,a,rfl⟩:=shape1 h
  rw[← List.append_assoc,topL_snoc,topL_snoc]
theorem dropLast_app (base s:List Int) (h:1≤s.length):(base++s).dropLast=base++s.dropLast:=by
  obtain⟨t,a,rfl⟩:=shape1 h
  rw[← List.append_assoc,List.dropLast_concat,List.dropLast_concat]
theorem do_frame (m g:MS) (op arg:Int) (h:op=0∨9≤op∧op≤25) (base:List Int) (hs:m.stack=base++g.stack) (hn:(needsS op).1≤(g.stack.length:Int)):doS m op arg={ m with stack:=base++(doS g op arg).stack }:=by
  have hop:op=0∨op=9∨op=10∨op=11∨op=12∨op=13∨op=14∨op=15∨op=16∨op=17∨op=18∨op=19∨op=20∨op=21∨op=22∨op=23∨op=24∨op=25:=by omega
  clear h
  rcases hop with rfl|rfl|rfl|rfl|rfl|rfl|rfl|rfl|rfl|rfl|rfl|rfl|rfl|rfl|rfl|rfl|rfl|rfl
  all_goals simp[needsS]at hn
  · rw[doY_lit,doY_lit,hs,List.append_assoc]
  all_goals
    have h1:1≤g.stack.length:=by omega
    have k1:=topL_base base g.stack h1
    have k2:=dropLast_app base g.stack h1
  all_goals first
    | (show ({ m with stack := m.stack.dropLast ++ [-1 - topL m.stack] } : MS) = { m with stack := base ++ (g.stack.dropLast ++ [-1 - topL g.stack]) }
       rw[hs,k1,k2,List.append_assoc];done)
    | (show ({ m with stack := m.stack.dropLast ++ [wrap64 (-topL m.stack)] } : MS) = { m with stack := base ++ (g.stack.dropLast ++ [wrap64 (-topL g.stack)]) }
       rw[hs,k1,k2,List.append_assoc];done)
    | (show ({ m with stack := m.stack ++ [topL m.stack] } : MS) = { m with stack := base ++ (g.stack ++ [topL g.stack]) }
       rw[hs,k1,List.append_assoc];done)
    | (show ({ m with stack := m.stack.dropLast } : MS) = { m with stack := base ++ g.stack.dropLast }
       rw[hs,k2];done)
    | skip
  all_goals
    have h2:1≤g.stack.dropLast.length:=by simp;omega
    have k3:=topL_base base g.stack.dropLast h2
    have k4:=dropLast_app base g.stack.dropLast h2
  all_goals first
    | (show ({ m with stack := m.stack.dropLast.dropLast ++ [twoS _ (topL m.stack.dropLast) (topL m.stack)] } : MS) = { m with stack := base ++ (g.stack.dropLast.dropLast ++ [twoS _ (topL g.stack.dropLast) (topL g.stack)]) }
       rw[hs,k1,k2,k3,k4,List.append_assoc];done)
    | (show ({ m with stack := m.stack.dropLast.dropLast ++ [topL m.stack, topL m.stack.dropLast] } : MS) = { m with stack := base ++ (g.stack.dropLast.dropLast ++ [topL g.stack, topL g.stack.dropLast]) }
       rw[hs,k1,k2,k3,k4,List.append_assoc];done)
    | (show ({ m with stack := m.stack ++ [topL m.stack.dropLast] } : MS) = { m with stack := base ++ (g.stack ++ [topL g.stack.dropLast]) }
       rw[hs,k2,k3,List.append_assoc];done)
    | skip
  have h3:1≤g.stack.dropLast.dropLast.length:=by simp;omega
  have k5:=topL_base base g.stack.dropLast.dropLast h3
  have k6:=dropLast_app base g.stack.dropLast.dropLast h3
  show ({ m with stack:=m.stack.dropLast.dropLast.dropLast++[topL m.stack.dropLast,topL m.stack,topL m.stack.dropLast.dropLast] }:MS)={ m with stack:=base++(g.stack.dropLast.dropLast.dropLast++[topL g.stack.dropLast,topL g.stack,topL g.stack.dropLast.dropLast]) }
  rw[hs,k1,k2,k3,k4,k5,k6,List.append_assoc]
theorem frame_row (r:List (Int×Int)):∀ (m g:MS) (base:List Int),(∀ x∈r,baseOk x∧reckS x=true)→MOk m→m.stack=base++g.stack→(rowX r g).2.1=0→NoExtra r m∧((rowX r m).2.1=0→(rowX r m).1={ m with stack:=base++(rowX r g).1.stack }):=by
  induction r with
  | nil =>
    intro m g base _ _ hs _
    exact⟨trivial,fun _=>(stack_same m hs).symm⟩
  | cons x r ih =>
    intro m g base hb hm hs h0
    obtain⟨hx,hxr⟩:=hb x (by simp)
    have hop:=reck_op hxr
    obtain⟨g1,g2,g3⟩:=row_cons_ok hx.1 h0
    have hn:=need_le g1
    have ed:=do_frame m g x.1 x.2 hop base hs hn
    have hre:=refused_eq m hm.stack x.1 hx.1
    have hex:extraS m x.1=0:=by
      by_cases h12:x.1=12∨x.1=13
      · have ht:topS g≠0:=by
          intro ht
          have e:refusedS g x.1=13:=by
            have e2:refusedS g x.1=if (g.stack.length:Int)<(needsS x.1).1 then 7 else if 0<(needsS x.1).2∧g.ls<g.stack.length+(needsS x.1).2 then 8 else extraS g x.1:=rfl
            have e3:extraS g x.1=13:=by
              unfold extraS
              have h0':¬ ((g.side.length:Int)<0):=by omega
              rcases h12 with e|e<;>(rw[e,ht];simp[asideS,h0'])
            have h8:¬ 0<(needsS x.1).2:=by rcases h12 with e|e<;>(rw[e];decide)
            rw[e2,if_neg (by omega),if_neg (fun h=>h8 h.1),e3]
          rw[e]at g1
          cases g1
        have hl:1≤g.stack.length:=by
          rcases h12 with e|e<;>(rw[e]at hn;simp[needsS]at hn;omega)
        have htm:topS m=topS g:=by
          show topL m.stack=topL g.stack
          rw[hs,topL_base base g.stack hl]
        unfold extraS
        rw[htm]
        have h0':¬ ((m.side.length:Int)<0):=by omega
        rcases h12 with e|e<;>(rw[e];simp[asideS,h0',ht])
      · refine tame_extra m x.1 ?_
        unfold tameOp
        omega
    rw[hex]at hre
    have hr3:refusedS m x.1=0∨refusedS m x.1=7∨refusedS m x.1=8:=by
      rw[hre]
      split
      · exact Or.inr (Or.inl rfl)
      · split
        · exact Or.inr (Or.inr rfl)
        · exact Or.inl rfl
    have rest:refusedS m x.1=0→NoExtra r (doS m x.1 x.2)∧((rowX r (doS m x.1 x.2)).2.1=0→(rowX r (doS m x.1 x.2)).1={ (doS m x.1 x.2) with stack:=base++(rowX r (doS g x.1 x.2)).1.stack }):=fun h =>
      ih (doS m x.1 x.2) (doS g x.1 x.2) base (fun y hy=>hb y (by simp[hy])) (doS_mok m hm x.1 x.2 hx.1 hx.2 h) (by rw[ed]) g2
    refine⟨⟨hr3,fun h=>(rest h).1⟩,fun hm0=>?_⟩
    obtain⟨m1,m2,m3⟩:=row_cons_ok hx.1 hm0
    rw[m3,(rest m1).2 m2,g3,ed]
theorem lits_row (st:List Int):∀ m:MS,(rowX (st.map (fun p=>((0:Int),p))) m).2.1=0→(rowX (st.map (fun p=>((0:Int),p))) m).1={ m with stack:=m.stack++st }:=by
  induction st with
  | nil=>intro m _;simp[rowX]
  | cons a st ih =>
    intro m h
    obtain⟨_,h2,h3⟩:=row_cons_ok (x:=(0,a)) (by simp) h
    rw[List.map_cons,h3,ih _ h2]
    simp only[doY_lit]
    rw[List.append_assoc]
    rfl
theorem reck_run {row s:List (Int×Int)} (h:reckonedS row=some s):row.all reckS=true∧∃ st:List Int,s=st.map (fun p=>((0:Int),p))∧(rowX row { startM 0 1000 1000 1000 1000 0 0 with pc:=((0+row.length:Nat):Int) }).2.1=0∧(rowX row { startM 0 1000 1000 1000 1000 0 0 with pc:=((0+row.length:Nat):Int) }).1.stack=st:=by
  unfold reckonedS at h
  split at h
  · cases h
  next h1 =>
    split at h
    · cases h
    next h2 =>
      have hall:row.all reckS=true:=by
        cases e:row.all reckS with
        | true=>rfl
        | false=>exact absurd (Or.inr e) h1
      refine⟨hall,(reckRun row).1.stack,(Option.some.inj h).symm,?_⟩
      have h0:(reckRun row).2.1=0:=by
        refine Classical.byContradiction (fun hne=>h2 (Or.inl hne))
      obtain⟨k,_,_,hE⟩:=run_ends (row++[(5,0)]) (row.length+1) 0 (startM 0 1000 1000 1000 1000 0 0) (by show (reckRun row).2.1≠15;rw[h0];decide)
      have eo:obsOf (runM (row++[(5,0)]) (row.length+1) 0 (startM 0 1000 1000 1000 1000 0 0))=(0,(reckRun row).1.stack,(reckRun row).1.cells,(reckRun row).1.out):=by
        show obsOf (reckRun row)=_
        unfold obsOf
        rw[h0]
        rfl
      rw[eo]at hE
      have hpl:∀ y∈row,plainOp y.1:=fun y hy=>by
        have:=reck_op (List.all_eq_true.1 hall y hy)
        unfold plainOp
        omega
      have hrow:=ends_row (l:=row++[(5,0)]) row 0 (startM 0 1000 1000 1000 1000 0 0) (fun i x hx=>by
        rw[Nat.zero_add,List.getElem?_append_left (List.getElem?_eq_some_iff.1 hx).1]
        exact hx) (plain_all hpl) rfl rfl
      have hkeep:=row_keep row { startM 0 1000 1000 1000 1000 0 0 with pc:=((0+row.length:Nat):Int) } hpl
      generalize rowX row { startM 0 1000 1000 1000 1000 0 0 with pc:=((0+row.length:Nat):Int) }=z at *
      by_cases hz:z.2.1=0
      · refine⟨hz,?_⟩
        obtain⟨k',_,hE2⟩:=(hrow.2 hz).2 _ _ hE
        have hzl:(row++[((5:Int),(0:Int))])[z.1.pc.toNat]? = some (5,0):=by
          rw[hkeep.1]
          simp
        have hzh:z.1.halted=false:=hkeep.2.1
        have hs:=stepM_ins hzl
        have r5:refusedS { z.1 with pc:=z.1.pc+1 } 5=0:=by
          unfold refusedS
          have h1':¬ ((z.1.stack.length:Int)<0):=by omega
          have h2':¬ ((z.1.side.length:Int)<0):=by omega
          simp[needsS,asideS,h1',h2']
        rw[ins_base _ _ (by simp),r5,if_pos rfl]at hs
        have hs1:(stepM (row++[(5,0)]) z.1).1.halted=true:=by rw[hs];rfl
        have hs2:(stepM (row++[(5,0)]) z.1).1.stack=z.1.stack:=by rw[hs];rfl
        generalize ho:((0:Int),(reckRun row).1.stack,(reckRun row).1.cells,(reckRun row).1.out)=o at hE2
        cases hE2 with
        | halt h1=>rw[hzh]at h1;cases h1
        | err _ h1=>rw[hs]at h1;exact absurd rfl h1
        | step _ _ h2 =>
          cases h2 with
          | halt _ =>
            simp only[Prod.mk.injEq]at ho
            rw[ho.2.1,hs2]
          | err h1 _=>rw[hs1]at h1;cases h1
          | step h1 _ _=>rw[hs1]at h1;cases h1
      · exfalso
        have:=((hrow.1 hz).2 _ _ hE).2
        simp only[Prod.mk.injEq]at this
        exact hz this.1.symm
theorem ok_reckoned {row s:List (Int×Int)} (hb:∀ x∈row,baseOk x) (h:reckonedS row=some s):RuleOk row s:=by
  have hsb:=reckonedS_ok (fun x hx=>(hb x hx).2) h
  obtain⟨hall,st,rfl,h0,hst⟩:=reck_run h
  have hr:∀ x∈row,baseOk x∧reckS x=true:=fun x hx=>⟨hb x hx,List.all_eq_true.1 hall x hx⟩
  have fr:=fun m (hm:MOk m)=>frame_row row m { startM 0 1000 1000 1000 1000 0 0 with pc:=((0+row.length:Nat):Int) } m.stack hr hm (by simp[startM]) h0
  have hlit:∀ x∈st.map (fun p=>((0:Int),p)),baseOk x∧tameOp x.1:=fun x hx=>by
    refine⟨hsb x hx,?_⟩
    obtain⟨p,_,rfl⟩:=List.mem_map.1 hx
    exact Or.inl rfl
  refine⟨fun m hm=>⟨(fr m hm).1,tame_calm _ m hlit hm⟩,⟨fun x hx=>⟨hb x hx,by have:=reck_op (hr x hx).2;omega⟩,fun x hx=>⟨(hlit x hx).1,tame_le (hlit x hx).2⟩⟩,fun m hm ho hs=>?_⟩
  rw[lits_row st m hs,(fr m hm).2 ho,hst]
theorem link_ops {f g j o:Int} (h:linkS f g=some (j,o)):(∀ p,p=f∨p=g∨p=j∨p=o→p=9∨p=10∨p=11∨p=14∨p=15∨p=16):=by
  unfold linkS at h
  intro p hp
  split at h
  · simp only[Option.some.injEq,Prod.mk.injEq]at h;omega
  · split at h
    · simp only[Option.some.injEq,Prod.mk.injEq]at h;omega
    · split at h
      · cases h
      · split at h
        · simp only[Option.some.injEq,Prod.mk.injEq]at h;omega
        · cases h
theorem ok_chained {row s:List (Int×Int)} (hb:∀ x∈row,baseOk x) (h:chainedS row=some s):RuleOk row s:=by
  have hsb:=chainedS_ok (fun x hx=>(hb x hx).2) h
  unfold chainedS at h
  split at h
  next a b c d =>
    split at h
    next hac =>
      split at h
      next j o hl =>
        cases hr:reckonedS [(0,a.2),(0,c.2),(j,0)] with
        | none=>rw[hr]at h;cases h
        | some t =>
          rw[hr]at h
          obtain rfl:=Option.some.inj h
          have hj:=link_ops hl j (by simp)
          have ho:=link_ops hl o (by simp)
          have hbb:=link_ops hl b.1 (by simp)
          have hd:=link_ops hl d.1 (by simp)
          obtain⟨_,st,rfl,h0,hst⟩:=reck_run hr
          have est:st=[twoS j a.2 c.2]:=by
            obtain⟨_,q1,q2⟩:=row_cons_ok (by simp) h0
            obtain⟨_,q3,q4⟩:=row_cons_ok (by simp) q1
            obtain⟨_,q5,q6⟩:=row_cons_ok (by simp only;omega) q3
            rw[q2,q4,q6]at hst
            simp only[rowX]at hst
            rw[do_two _ j 0 (by omega) (t:=[]) (a:=a.2) (b:=c.2) rfl]at hst
            exact hst.symm
          subst est
          have ha2:=(hb a (by simp)).2
          have hc2:=(hb c (by simp)).2
          have htame:∀ p:Int,(p=9∨p=10∨p=11∨p=14∨p=15∨p=16)→tameOp p:=fun p hp=>by unfold tameOp;omega
          refine rule_tame (fun x hx=>?_) (fun x hx=>?_) (fun m _ hold hnew=>?_)
          · simp at hx
            rcases hx with rfl|rfl|rfl|rfl
            · exact⟨hb _ (by simp),Or.inl hac.1⟩
            · exact⟨hb _ (by simp),htame _ hbb⟩
            · exact⟨hb _ (by simp),Or.inl hac.2⟩
            · exact⟨hb _ (by simp),htame _ hd⟩
          · refine⟨hsb x hx,?_⟩
            simp at hx
            rcases hx with rfl|rfl
            · exact Or.inl rfl
            · exact htame _ ho
          · have hnew:(rowX [(0,twoS j a.2 c.2),(o,0)] m).2.1=0:=hnew
            obtain⟨_,o1,f1⟩:=row_cons_ok (hb a (by simp)).1 hold
            obtain⟨n1,o2,f2⟩:=row_cons_ok (hb b (by simp)).1 o1
            obtain⟨_,o3,f3⟩:=row_cons_ok (hb c (by simp)).1 o2
            obtain⟨_,_,f4⟩:=row_cons_ok (hb d (by simp)).1 o3
            obtain⟨_,o5,f5⟩:=row_cons_ok (x:=(0,twoS j a.2 c.2)) (by simp) hnew
            obtain⟨_,_,f6⟩:=row_cons_ok (x:=(o,0)) (by simp only;omega) o5
            have hn:=need_le n1
            rw[needs_two (by omega),hac.1,doY_lit]at hn
            obtain⟨t,u,hu⟩:=shape1 (s:=m.stack) (by simp at hn;omega)
            have e5:(rowX [(0,twoS j a.2 c.2),(o,0)] m).1={ m with stack:=t++[twoS o u (twoS j a.2 c.2)] }:=by
              rw[f5,f6]
              simp only[rowX]
              rw[do_two _ o 0 (by omega) (t:=t) (a:=u) (b:=twoS j a.2 c.2) (by rw[doY_lit,hu])]
              rfl
            have e1:(rowX [a,b,c,d] m).1={ m with stack:=t++[twoS d.1 (twoS b.1 u a.2) c.2] }:=by
              rw[f1,f2,f3,f4,hac.1,hac.2]
              simp only[rowX]
              rw[do_two (doS m 0 a.2) b.1 b.2 (by omega) (t:=t) (a:=u) (b:=a.2) (by rw[doY_lit,hu]),do_two _ d.1 d.2 (by omega) (t:=t) (a:=twoS b.1 u a.2) (b:=c.2) rfl]
              rfl
            show (rowX [(0,twoS j a.2 c.2),(o,0)] m).1=_
            rw[e5,e1,link_eq hl]
      · cases h
    · cases h
  · cases h
theorem ok_decided {row s:List (Int×Int)} (hb:∀ x∈row,baseOk x) (h:decidedS row=some s):RuleOk row s:=by
  have hsb:=decidedS_ok (fun x hx=>(hb x hx).2) h
  unfold decidedS at h
  split at h
  next a b =>
    split at h
    next hab =>
      have hold:∀ x∈[a,b],baseOk x∧tameOp x.1:=fun x hx=>by
        refine⟨hb x hx,?_⟩
        simp at hx
        rcases hx with rfl|rfl
        · exact Or.inl hab.1
        · exact Or.inr (Or.inr (Or.inl hab.2))
      have run:∀ m,(rowX [a,b] m).2.1=0→(rowX [a,b] m).1=if a.2=0 then { m with pc:=b.2 } else m:=by
        intro m h0
        obtain⟨_,o1,f1⟩:=row_cons_ok (hb a (by simp)).1 h0
        obtain⟨_,_,f2⟩:=row_cons_ok (hb b (by simp)).1 o1
        rw[f1,f2,hab.1,hab.2,doY_lit]
        simp only[rowX]
        show (if topL (m.stack++[a.2])=0 then ({ m with stack:=(m.stack++[a.2]).dropLast,pc:=b.2 }:MS) else { m with stack:=(m.stack++[a.2]).dropLast })=_
        rw[topL_snoc,List.dropLast_concat]
      split at h
      next hne =>
        obtain rfl:=Option.some.inj h
        refine rule_tame hold (by simp) (fun m _ h0 _=>?_)
        rw[run m h0,if_neg hne]
        rfl
      next he =>
        obtain rfl:=Option.some.inj h
        refine rule_tame hold (fun x hx=>?_) (fun m _ h0 h1=>?_)
        · refine⟨hsb x hx,?_⟩
          simp at hx
          subst hx
          exact Or.inr (Or.inl rfl)
        · have he:a.2=0:=by simpa using he
          obtain⟨_,_,f1⟩:=row_cons_ok (x:=(1,b.2)) (by simp) h1
          rw[run m h0,if_pos he,f1]
          rfl
    · cases h
  · cases h
theorem rule_fine {r:List (Int×Int)→Option (List (Int×Int))} (hr:r∈rulesS) {row s:List (Int×Int)} (hb:∀ x∈row,baseOk x) (h:r row=some s):RuleOk row s:=by
  unfold rulesS at hr
  simp only[List.mem_cons,List.not_mem_nil,or_false]at hr
  have one:inI 1:=by unfold inI;simp
  have mone:inI (-1):=by unfold inI;simp
  rcases hr with rfl|rfl|rfl|hr
  · exact ok_reckoned hb h
  · exact ok_chained hb h
  · exact ok_decided hb h
  · rcases hr with rfl|rfl|rfl|rfl|rfl|rfl|rfl|rfl|rfl|rfl|rfl|rfl|rfl|rfl|rfl|rfl|rfl|rfl|rfl|rfl|rfl|rfl<;>obtain⟨rfl,rfl⟩:=isS_some h
    · exact ok_swap2
    · exact ok_rot3
    · exact ok_inv2
    · exact ok_neg2
    · exact ok_dupDrop
    · exact ok_overDrop
    · exact ok_dupSwap
    · exact ok_negTwo (Or.inl ⟨rfl,rfl⟩)
    · exact ok_negTwo (Or.inr ⟨rfl,rfl⟩)
    · exact rule_swap (by unfold tameOp;simp) (fun u t=>by show wrap64 (t+u)=wrap64 (u+t);rw[Int.add_comm])
    · exact rule_swap (by unfold tameOp;simp) (fun u t=>by show wrap64 (t * u)=wrap64 (u * t);rw[Int.mul_comm])
    · exact rule_swap (by unfold tameOp;simp) (fun u t=>and_comm' t u)
    · exact rule_swap (by unfold tameOp;simp) (fun u t=>or_comm' t u)
    · exact rule_swap (by unfold tameOp;simp) (fun u t=>xor_comm' t u)
    · exact rule_swap (by unfold tameOp;simp) (fun u t=>by
        show truthS (t == u)=truthS (u == t)
        rw[BEq.comm])
    · exact rule_lit inI_zero (by simp) (fun u hu=>by show wrap64 (u+0)=u;rw[Int.add_zero,wrap_in hu]) (calm_lit inI_zero (by unfold tameOp;simp))
    · exact rule_lit inI_zero (by simp) (fun u hu=>by show wrap64 (u-0)=u;rw[Int.sub_zero,wrap_in hu]) (calm_lit inI_zero (by unfold tameOp;simp))
    · exact rule_lit one (by simp) (fun u hu=>by show wrap64 (u * 1)=u;rw[Int.mul_one,wrap_in hu]) (calm_lit one (by unfold tameOp;simp))
    · exact rule_lit one (by simp) (fun u _=>div_one) calm_div
    · exact rule_lit mone (by simp) (fun u hu=>and_ones hu) (calm_lit mone (by unfold tameOp;simp))
    · exact rule_lit inI_zero (by simp) (fun u hu=>or_none hu) (calm_lit inI_zero (by unfold tameOp;simp))
    · exact rule_lit inI_zero (by simp) (fun u hu=>xor_none hu) (calm_lit inI_zero (by unfold tameOp;simp))
end Go.Proofs.YtmeiikjpaepogaaGreatDoor
