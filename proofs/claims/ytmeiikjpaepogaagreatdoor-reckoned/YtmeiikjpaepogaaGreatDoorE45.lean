/- Runs: blocks that are joined again. -/
import Derived.Test.YtmeiikjpaepogaaGreatDoorE40
namespace Go.Proofs.YtmeiikjpaepogaaGreatDoor
open Go Go.RowKit
def renM (F:Int→Int) (m:MS):MS:={ m with pc:=F m.pc,calls:=m.calls.map F }
def renX (F:Int→Int) (x:Int×Int):Int×Int:=if namesS x.1=true then (x.1,F x.2) else x
theorem ren_refused (F:Int→Int) (m:MS) (op:Int):refusedS (renM F m) op=refusedS m op:=by
  unfold refusedS renM topS
  simp only[List.length_map]
theorem ren_plain (F:Int→Int) (m:MS) (op arg:Int) (h:plainOp op):doS (renM F m) op arg=renM F (doS m op arg):=by
  have e:renM F m={ ({ m with calls:=m.calls.map F }:MS) with pc:=F m.pc }:=rfl
  rw[e,doP_pc _ _ _ _ h,doS_calls m _ op arg h.2.2.1 h.2.2.2.1]
  obtain⟨k1,_,k3⟩:=doS_keep m op arg h
  unfold renM
  rw[k1,k3]
theorem topL_map (F:Int→Int) (c:List Int) (h:c≠[]):topL (c.map F)=F (topL c):=by
  unfold topL
  rw[List.getLast?_map]
  cases e:c.getLast? with
  | none=>rw[List.getLast?_eq_none_iff]at e;exact absurd e h
  | some y=>rfl
theorem ren_do (F:Int→Int) (m:MS) (op arg:Int) (hr:refusedS m op=0):doS (renM F m) op (if namesS op=true then F arg else arg)=renM F (doS m op arg):=by
  by_cases h:plainOp op
  · have hn:namesS op=false:=by
      obtain⟨h1,h2,h3,h4,h5,h7⟩:=h
      unfold namesS
      simp[h1,h2,h3,h7]
    rw[hn]
    exact ren_plain F m op arg h
  · have h':op=1∨op=2∨op=3∨op=4∨op=5∨op=7:=by
      unfold plainOp at h
      omega
    rcases h' with rfl|rfl|rfl|rfl|rfl|rfl
    · rfl
    · show (if topL m.stack=0 then _ else _)=renM F (if topL m.stack=0 then _ else _)
      split<;>rfl
    · show _=renM F { m with calls:=m.calls++[m.pc],pc:=arg }
      unfold renM
      simp only[List.map_append,List.map_cons,List.map_nil]
      rfl
    · have hc:m.calls≠[]:=by
        intro e
        rw[ref_ret,e]at hr
        simp at hr
      show ({ m with calls:=(m.calls.map F).dropLast,pc:=topL (m.calls.map F) }:MS)=_
      rw[topL_map F _ hc,← List.map_dropLast]
      rfl
    · rfl
    · show (if wrap64 (topL m.side+1)=topL m.side.dropLast then _ else _)=renM F (if wrap64 (topL m.side+1)=topL m.side.dropLast then _ else _)
      split<;>rfl
theorem ren_ins (F:Int→Int) (m:MS) (x:Int×Int):insX (renX F x) (renM F m)=(renM F (insX x m).1,(insX x m).2):=by
  by_cases h:plainOp x.1
  · have hn:namesS x.1=false:=by
      obtain⟨h1,h2,h3,h4,h5,h7⟩:=h
      unfold namesS
      simp[h1,h2,h3,h7]
    have e:renX F x=x:=by unfold renX;rw[hn];rfl
    rw[e]
    have key:∀ (ps:List Int) (m:MS),(∀ o∈ps,plainOp o)→partsRun x.2 ps (renM F m)=(renM F (partsRun x.2 ps m).1,(partsRun x.2 ps m).2):=by
      intro ps
      induction ps with
      | nil=>intro m _;rfl
      | cons op r ih =>
        intro m hp
        unfold partsRun
        rw[ren_refused]
        by_cases h0:refusedS m op=0
        · rw[if_pos h0,if_pos h0,ren_plain F m op x.2 (hp op (by simp))]
          exact ih _ (fun o ho=>hp o (by simp[ho]))
        · rw[if_neg h0,if_neg h0]
    exact key _ m (parts_flat _ h)
  · have h':x.1=1∨x.1=2∨x.1=3∨x.1=4∨x.1=5∨x.1=7:=by
      unfold plainOp at h
      omega
    have hp:partsS x.1=[x.1]:=by rcases h' with e|e|e|e|e|e<;>(rw[e];decide)
    have h1:(renX F x).1=x.1:=by unfold renX;split<;>rfl
    have h2:(renX F x).2=if namesS x.1=true then F x.2 else x.2:=by unfold renX;split<;>rfl
    show partsRun (renX F x).2 (partsS (renX F x).1) (renM F m)=_
    rw[h1,h2]
    show _=(renM F (partsRun x.2 (partsS x.1) m).1,(partsRun x.2 (partsS x.1) m).2)
    rw[hp]
    unfold partsRun
    rw[ren_refused]
    by_cases h0:refusedS m x.1=0
    · rw[if_pos h0,if_pos h0,ren_do F m x.1 x.2 h0]
      rfl
    · rw[if_neg h0,if_neg h0]
theorem ren_row (F:Int→Int) (r:List (Int×Int)):∀ m:MS,rowX (r.map (renX F)) (renM F m)=(renM F (rowX r m).1,(rowX r m).2.1,(rowX r m).2.2):=by
  induction r with
  | nil=>intro m;rfl
  | cons x r ih =>
    intro m
    rw[List.map_cons,rowX,rowX,ren_ins]
    simp only
    by_cases h:(insX x m).2=0
    · rw[if_pos h,if_pos h,ih]
    · rw[if_neg h,if_neg h]
theorem ins_next {P:Int→Prop} (x:Int×Int) (m:MS) (hh:m.halted=false) (hc:∀ c∈m.calls,P c) (hx:namesS x.1=true→P x.2) (hg:goesS x.1=true→P m.pc) (h0:(insX x m).2=0) :
    (insX x m).1.halted=true∨((insX x m).1.halted=false∧P (insX x m).1.pc∧∀ c∈(insX x m).1.calls,P c):=by
  by_cases h:plainOp x.1
  · obtain⟨_,k1,k2,k3⟩:=partsP_pc x.2 0 (partsS x.1) (parts_flat _ h) m
    right
    have hgo:goesS x.1=true:=by
      obtain⟨h1,h2,h3,h4,h5,h7⟩:=h
      unfold goesS
      simp[h1,h4,h5]
    exact⟨by rw[k2];exact hh,by rw[k1];exact hg hgo,by rw[k3];exact hc⟩
  · have h':x.1=1∨x.1=2∨x.1=3∨x.1=4∨x.1=5∨x.1=7:=by
      unfold plainOp at h
      omega
    have hp:partsS x.1=[x.1]:=by rcases h' with e|e|e|e|e|e<;>(rw[e];decide)
    have e:insX x m=if refusedS m x.1=0 then (doS m x.1 x.2,0) else (m,refusedS m x.1):=by
      show partsRun x.2 (partsS x.1) m=_
      rw[hp]
      rfl
    have hr:refusedS m x.1=0:=by
      refine Classical.byContradiction (fun hne=>?_)
      rw[e,if_neg hne]at h0
      exact hne h0
    rw[e,if_pos hr]
    simp only
    rcases h' with e|e|e|e|e|e
    · right
      rw[e]at hx ⊢
      exact⟨hh,hx rfl,hc⟩
    · right
      rw[e]at hx hg ⊢
      show (if topL m.stack=0 then _ else _:MS).halted=false∧_
      have e2:doS m 2 x.2=if topL m.stack=0 then { m with stack:=m.stack.dropLast,pc:=x.2 } else { m with stack:=m.stack.dropLast }:=rfl
      rw[e2]
      split
      · exact⟨hh,hx rfl,hc⟩
      · exact⟨hh,hg rfl,hc⟩
    · right
      rw[e]at hx hg ⊢
      refine⟨hh,hx rfl,fun c hcc=>?_⟩
      have e2:(doS m 3 x.2).calls=m.calls++[m.pc]:=rfl
      rw[e2]at hcc
      rcases List.mem_append.1 hcc with h1|h1
      · exact hc c h1
      · simp at h1
        subst h1
        exact hg rfl
    · right
      rw[e]at hr ⊢
      have hne:m.calls≠[]:=by
        intro e
        rw[ref_ret,e]at hr
        simp at hr
      refine⟨hh,?_,fun c hcc=>hc c ((List.dropLast_sublist _).subset hcc)⟩
      show P (topL m.calls)
      unfold topL
      cases e2:m.calls.getLast? with
      | none=>rw[List.getLast?_eq_none_iff]at e2;exact absurd e2 hne
      | some y=>exact hc y (List.mem_of_getLast? e2)
    · left
      rw[e]
      rfl
    · right
      rw[e]at hx hg ⊢
      have e2:doS m 7 x.2=if wrap64 (topL m.side+1)=topL m.side.dropLast then { m with side:=m.side.dropLast.dropLast } else { m with side:=m.side.dropLast.dropLast++[topL m.side.dropLast,wrap64 (topL m.side+1)],pc:=x.2 }:=rfl
      rw[e2]
      split
      · exact⟨hh,hg rfl,hc⟩
      · exact⟨hh,hx rfl,hc⟩
theorem row_next {P:Int→Prop} (r:List (Int×Int)):∀ m:MS,PlainRow r→r≠[]→m.halted=false→(∀ c∈m.calls,P c)→(∀ x∈r,namesS x.1=true→P x.2)→(∀ x,r.getLast? = some x→goesS x.1=true→P m.pc)→(rowX r m).2.1=0 →
    (rowX r m).1.halted=true∨((rowX r m).1.halted=false∧P (rowX r m).1.pc∧∀ c∈(rowX r m).1.calls,P c):=by
  induction r with
  | nil=>intro m _ h;exact absurd rfl h
  | cons x r ih =>
    intro m hp _ hh hc hn hg h0
    rw[rowX]at h0 ⊢
    by_cases hi:(insX x m).2=0
    · rw[if_pos hi]at h0 ⊢
      simp only at h0 ⊢
      by_cases hr:r=[]
      · subst hr
        simp only[rowX]
        exact ins_next x m hh hc (hn x (by simp)) (hg x rfl) hi
      · have hpl:=hp 0 x rfl (by have:=List.length_pos_iff.2 hr;simp;omega)
        obtain⟨_,k1,k2,k3⟩:=partsP_pc x.2 0 (partsS x.1) (parts_flat _ hpl) m
        refine ih (insX x m).1 hp.tail hr (by rw[k2];exact hh) (by rw[k3];exact hc) (fun y hy=>hn y (by simp[hy])) (fun y hy hgy=>?_) h0
        rw[k1]
        exact hg y (by rw[List.getLast?_cons,hy];rfl) hgy
    · rw[if_neg hi]at h0
      exact absurd h0 hi
theorem ins_mok (x:Int×Int) (hx:inI x.2) (m:MS) (h:MOk m):MOk (insX x m).1:=partsRun_mok x.2 hx _ _ h (parts_range _)
theorem row_mok (r:List (Int×Int)):∀ m:MS,(∀ x∈r,inI x.2)→MOk m→MOk (rowX r m).1:=by
  induction r with
  | nil=>intro m _ h;exact h
  | cons x r ih =>
    intro m hx h
    have h1:=ins_mok x (hx x (by simp)) m h
    rw[rowX]
    split
    · exact ih _ (fun y hy=>hx y (by simp[hy])) h1
    · exact h1
def RowSim (nxt:Int) (r r':List (Int×Int)):Prop:=∀ m:MS,MOk m→m.halted=false→m.pc=nxt →
  (rowX r' m).2.1=(rowX r m).2.1∧(rowX r' m).2.2≤(rowX r m).2.2∧(rowX r' m).1.out=(rowX r m).1.out∧((rowX r m).2.1=0→(rowX r' m).1=(rowX r m).1)
theorem RowSim.refl (nxt:Int) (r:List (Int×Int)):RowSim nxt r r:=fun _ _ _ _=>⟨rfl,Nat.le_refl _,rfl,fun _=>rfl⟩
theorem RowSim.trans {nxt:Int} {a b c:List (Int×Int)} (h1:RowSim nxt a b) (h2:RowSim nxt b c):RowSim nxt a c:=by
  intro m hm hh hp
  obtain⟨a1,a2,a3,a4⟩:=h1 m hm hh hp
  obtain⟨b1,b2,b3,b4⟩:=h2 m hm hh hp
  exact⟨b1.trans a1,Nat.le_trans b2 a2,b3.trans a3,fun h=>(b4 (a1.trans h)).trans (a4 h)⟩
theorem flat_at {cs:List Blo} {i:Nat} {c:Blo} (hc:cs[i]? = some c) {m:Nat} (hm:m<c.2.length):(cs.flatMap (·.2))[((cs.take i).flatMap (·.2)).length+m]? = c.2[m]?:=by
  have hi:=(List.getElem?_eq_some_iff.1 hc).1
  have e:cs=cs.take i++c :: cs.drop (i+1):=by
    have e1:=List.drop_eq_getElem_cons hi
    rw[(List.getElem?_eq_some_iff.1 hc).2]at e1
    rw[← e1,List.take_append_drop]
  have e2:cs.flatMap (·.2)=(cs.take i).flatMap (·.2)++(c.2++(cs.drop (i+1)).flatMap (·.2)):=by
    conv=>lhs;rw[e]
    rw[List.flatMap_append,List.flatMap_cons]
  rw[e2,List.getElem?_append_right (by omega),Nat.add_sub_cancel_left,List.getElem?_append_left hm]
theorem flat_next {cs:List Blo} {i:Nat} {c:Blo} (hc:cs[i]? = some c):((cs.take (i+1)).flatMap (·.2)).length=((cs.take i).flatMap (·.2)).length+c.2.length:=by
  rw[List.take_add_one,hc,List.flatMap_append,List.length_append]
  simp
def BloAt (bs:List Blo) (G:Nat→Prop) (t:Int):Prop:=∃ (i:Nat) (b:Blo),bs[i]? = some b∧(b.1:Int)=t∧G b.1
def numF (p:PrS) (f:Blo→Blo) (t:Int):Int:=if t<p.1.length then (numsTo ((blocksS p.1 p.2).map f) p.1.length ((blocksS p.1 p.2).map f).length).1.getD t.toNat 0 else ((((blocksS p.1 p.2).map f).flatMap (·.2)).length:Nat)
theorem numF_first {p:PrS} (hp:PrOk p) {f:Blo→Blo} (hf:∀ b,(f b).1=b.1) {i:Nat} {b:Blo} (hb:(blocksS p.1 p.2)[i]? = some b):numF p f b.1=((((blocksS p.1 p.2).map f).take i).flatMap (·.2)).length:=by
  have ok:=blocks_ok hp
  have hap:((blocksS p.1 p.2).map f).Pairwise (fun a b=>a.1≠b.1):=by
    rw[List.pairwise_map]
    exact (firsts_apart ok.firsts ok.full).imp (fun h=>by rw[hf,hf];exact h)
  have hbi:((blocksS p.1 p.2).map f)[i]? = some (f b):=by rw[List.getElem?_map,hb];rfl
  have:=numFold_get ((blocksS p.1 p.2).map f) (((blocksS p.1 p.2).map f).take i) (List.replicate p.1.length 0,0) p.1.length (by simp) (fun c hc=>by
    obtain⟨d,hd,rfl⟩:=List.mem_map.1 hc
    rw[hf]
    exact ok.low d hd) hap i (f b) hbi rfl
  have hlow:=ok.low b (List.mem_of_getElem? hb)
  unfold numF
  rw[if_pos (by omega),Int.toNat_natCast]
  unfold numsTo
  rw[List.take_length]
  rw[hf]at this
  rw[List.getD_eq_getElem?_getD,this]
  simp
theorem block_next {p:PrS} (hp:PrOk p) {i:Nat} {b:Blo} (hb:(blocksS p.1 p.2)[i]? = some b):(∃ c,(blocksS p.1 p.2)[i+1]? = some c∧c.1=b.1+b.2.length)∨(i+1=(blocksS p.1 p.2).length∧b.1+b.2.length=p.1.length):=by
  have ok:=blocks_ok hp
  have hi:=(List.getElem?_eq_some_iff.1 hb).1
  have h1:=ok.firsts i b hb
  have h2:=flat_next hb
  by_cases h:i+1<(blocksS p.1 p.2).length
  · left
    obtain⟨c,hc⟩:∃ c,(blocksS p.1 p.2)[i+1]? = some c:=⟨_,List.getElem?_eq_getElem h⟩
    have h3:=ok.firsts (i+1) c hc
    exact⟨c,hc,by omega⟩
  · right
    refine⟨by omega,?_⟩
    have e:(blocksS p.1 p.2).take (i+1)=blocksS p.1 p.2:=List.take_of_length_le (by omega)
    rw[e,ok.flat]at h2
    omega
theorem numF_next {p:PrS} (hp:PrOk p) {f:Blo→Blo} (hf:∀ b,(f b).1=b.1) {i:Nat} {b:Blo} (hb:(blocksS p.1 p.2)[i]? = some b):numF p f ((b.1+b.2.length:Nat):Int)=((((blocksS p.1 p.2).map f).take i).flatMap (·.2)).length+(f b).2.length:=by
  have hbi:((blocksS p.1 p.2).map f)[i]? = some (f b):=by rw[List.getElem?_map,hb];rfl
  have h2:=flat_next hbi
  rcases block_next hp hb with ⟨c,hc,e⟩|⟨h,e⟩
  · rw[← e,numF_first hp hf hc]
    omega
  · rw[e]
    unfold numF
    rw[if_neg (by omega)]
    have e3:((blocksS p.1 p.2).map f).take (i+1)=(blocksS p.1 p.2).map f:=List.take_of_length_le (by simp;omega)
    rw[e3]at h2
    omega
theorem block_plain {p:PrS} (hp:PrOk p) {b:Blo} (hb:b∈blocksS p.1 p.2):PlainRow b.2:=by
  intro j x hx hj
  have ok:=blocks_ok hp
  obtain⟨i,hi⟩:=List.getElem?_of_mem hb
  have h1:=ok.inner b hb (j+1) (by omega) hj
  have h2:=block_at ok.flat ok.firsts hi (m:=j) (by omega)
  rw[hx]at h2
  refine Classical.byContradiction (fun hn=>?_)
  have h3:=begS_after p.1 p.2 (b.1+j) x h2 (by
    unfold plainOp at hn
    unfold namesS goesS
    simp
    omega)
  rw[show b.1+(j+1)=b.1+j+1 by omega,h3]at h1
  cases h1
theorem join_sim {p:PrS} (hp:PrOk p) {f:Blo→Blo} (hf:∀ b,(f b).1=b.1) {G:Nat→Prop}
    (hin:∀ b∈blocksS p.1 p.2,PlainRow (f b).2∧∀ y∈(f b).2,namesS y.1=true→Target p.1 y.2)
    (hG:∀ b∈blocksS p.1 p.2,G b.1→(∀ x∈b.2,namesS x.1=true→G x.2.toNat)∧(∀ x,b.2.getLast? = some x→goesS x.1=true→G (b.1+b.2.length)))
    (hsim:∀ b∈blocksS p.1 p.2,G b.1→RowSim ((b.1+b.2.length:Nat):Int) b.2 (f b).2) (k:Nat) :
    ∀ (m:MS) (o:Obs),Ends p.1 m k o→MOk m→(m.halted=true∨(m.halted=false∧BloAt (blocksS p.1 p.2) G m.pc∧∀ c∈m.calls,BloAt (blocksS p.1 p.2) G c))→∃ k',k'≤k∧Ends (joinedS p.1.length p.2 ((blocksS p.1 p.2).map f)).1 (renM (numF p f) m) k' o:=by
  have ok:=blocks_ok hp
  induction k using Nat.strongRecOn with
  | ind k ih =>
    intro m o he hm hc
    rcases hc with hh|⟨hh,⟨i,b,hi,hpc,hg⟩,hcalls⟩
    · cases he with
      | halt _=>exact⟨0,Nat.le_refl _,Ends.halt (m:=renM (numF p f) m) hh⟩
      | err h1 _=>rw[hh]at h1;cases h1
      | step h1 _ _=>rw[hh]at h1;cases h1
    · have hbm:=List.mem_of_getElem? hi
      have hne:=ok.full b hbm
      obtain⟨hpl,htar⟩:=hin b hbm
      obtain⟨g1,g2⟩:=hG b hbm hg
      have hmemp:∀ x∈b.2,x∈p.1:=fun x hx=>by
        rw[← ok.flat]
        exact List.mem_flatMap.2 ⟨b,hbm,hx⟩
      have hold:=ends_row (l:=p.1) b.2 b.1 m (fun j x hx=>by
        rw[block_at ok.flat ok.firsts hi (List.getElem?_eq_some_iff.1 hx).1]
        exact hx) (block_plain hp hbm) hpc.symm hh
      have hbi:((blocksS p.1 p.2).map f)[i]? = some (f b):=by rw[List.getElem?_map,hi];rfl
      have hnew:=ends_row (l:=(joinedS p.1.length p.2 ((blocksS p.1 p.2).map f)).1) ((f b).2.map (renX (numF p f))) ((((blocksS p.1 p.2).map f).take i).flatMap (·.2)).length (renM (numF p f) m) (fun j x hx=>by
        rw[List.getElem?_map]at hx
        obtain⟨y,hy,rfl⟩:=Option.map_eq_some_iff.1 hx
        have hjl:=(List.getElem?_eq_some_iff.1 hy).1
        have e:=flat_at hbi hjl
        show (listTo _ _ _)[_]? = _
        rw[listTo_flat,List.getElem?_map,e,hy]
        simp only[Option.map_some,Option.some.injEq]
        unfold renS renX
        split
        next hn =>
          have:=(begS_of_target hp (htar y (List.mem_of_getElem? hy) hn)).2.1
          have h0:=(begS_of_target hp (htar y (List.mem_of_getElem? hy) hn)).1
          unfold numF
          rw[if_pos (by omega)]
        · rfl) (fun j x hx hj=>by
        rw[List.getElem?_map]at hx
        obtain⟨y,hy,rfl⟩:=Option.map_eq_some_iff.1 hx
        rw[List.length_map]at hj
        have:(renX (numF p f) y).1=y.1:=by unfold renX;split<;>rfl
        rw[this]
        exact hpl j y hy hj) (by
        show numF p f m.pc=_
        rw[← hpc,numF_first hp hf hi]) hh
      have est:({ renM (numF p f) m with pc:=((((((blocksS p.1 p.2).map f).take i).flatMap (·.2)).length+((f b).2.map (renX (numF p f))).length:Nat):Int) }:MS)=renM (numF p f) { m with pc:=((b.1+b.2.length:Nat):Int) }:=by
        unfold renM
        rw[numF_next hp hf hi,List.length_map]
        simp
      rw[est,ren_row]at hnew
      simp only at hnew
      obtain⟨s1,s2,s3,s4⟩:=hsim b hbm hg { m with pc:=((b.1+b.2.length:Nat):Int) } (hm.pc _) hh rfl
      generalize hz:rowX b.2 { m with pc:=((b.1+b.2.length:Nat):Int) }=z at *
      generalize hz':rowX (f b).2 { m with pc:=((b.1+b.2.length:Nat):Int) }=z' at *
      by_cases h0:z.2.1=0
      · obtain⟨k1,e1,he1⟩:=(hold.2 h0).2 k o he
        have hst:=rowX_steps b.2 { m with pc:=((b.1+b.2.length:Nat):Int) }
        rw[hz]at hst
        have hlen:=List.length_pos_iff.2 hne
        have hz2:=hst.1 h0
        have hmz:MOk z.1:=by
          rw[← hz]
          exact row_mok _ _ (fun x hx=>(hp.base x (hmemp x hx)).2) (hm.pc _)
        have hnx:=row_next (P:=BloAt (blocksS p.1 p.2) G) b.2 { m with pc:=((b.1+b.2.length:Nat):Int) } (block_plain hp hbm) hne hh hcalls (fun x hx hn=>by
          obtain⟨t1,t2,t3⟩:=begS_of_target hp ⟨x,hmemp x hx,hn,rfl⟩
          obtain⟨c,hcm,hc1⟩:=ok.has _ t2 t3
          obtain⟨j,hj⟩:=List.getElem?_of_mem hcm
          exact⟨j,c,hj,by omega,by rw[hc1];exact g1 x hx hn⟩) (fun x hx hgo=>by
          rcases block_next hp hi with ⟨c,hc,e⟩|⟨h,e⟩
          · exact⟨i+1,c,hc,by rw[e],by rw[e];exact g2 x hx hgo⟩
          · exfalso
            have hlast:p.1.getLast? = some x:=by
              rw[← ok.flat]
              refine (flat_last (c:=b) ?_ hne).trans hx
              rw[List.getLast?_eq_getElem?,← hi]
              congr 1
              omega
            rw[goes_last hp.last x hlast]at hgo
            cases hgo) (by rw[hz];exact h0)
        rw[hz]at hnx
        obtain⟨k2,h2,he2⟩:=ih k1 (by omega) z.1 o he1 hmz hnx
        rw[← s4 h0]at he2
        exact⟨k2+z'.2.2,by omega,(hnew.2 (s1.trans h0)).1 k2 o he2⟩
      · obtain⟨e1,e2⟩:=(hold.1 h0).2 k o he
        refine⟨z'.2.2,by omega,?_⟩
        have:=(hnew.1 (by rw[s1];exact h0)).1
        rw[e2,← s1,← s3]
        exact this
def Short (p q:PrS):Prop:=∀ (k:Nat) (o:Obs) (m:MS),MOk m→m.calls=[]→m.halted=false→Ends p.1 { m with pc:=p.2 } k o→∃ k',k'≤k∧Ends q.1 { m with pc:=q.2 } k' o
theorem Short.refl (p:PrS):Short p p:=fun k _ _ _ _ _ h=>⟨k,Nat.le_refl _,h⟩
theorem Short.trans {p q r:PrS} (h1:Short p q) (h2:Short q r):Short p r:=by
  intro k o m hm hc hh h
  obtain⟨k1,l1,e1⟩:=h1 k o m hm hc hh h
  obtain⟨k2,l2,e2⟩:=h2 k1 o m hm hc hh e1
  exact⟨k2,by omega,e2⟩
theorem join_short {p:PrS} (hp:PrOk p) {f:Blo→Blo} (hf:∀ b,(f b).1=b.1) {G:Nat→Prop} (hent:G p.2)
    (hin:∀ b∈blocksS p.1 p.2,PlainRow (f b).2∧∀ y∈(f b).2,namesS y.1=true→Target p.1 y.2)
    (hG:∀ b∈blocksS p.1 p.2,G b.1→(∀ x∈b.2,namesS x.1=true→G x.2.toNat)∧(∀ x,b.2.getLast? = some x→goesS x.1=true→G (b.1+b.2.length)))
    (hsim:∀ b∈blocksS p.1 p.2,G b.1→RowSim ((b.1+b.2.length:Nat):Int) b.2 (f b).2):Short p (joinedS p.1.length p.2 ((blocksS p.1 p.2).map f)):=by
  intro k o m hm hc hh h
  have ok:=blocks_ok hp
  have he:=hp.entry
  obtain⟨b,hb,hb1⟩:=ok.has p.2 he (begS_entry p.1 p.2 he)
  obtain⟨i,hi⟩:=List.getElem?_of_mem hb
  obtain⟨k',hk,hE⟩:=join_sim hp hf hin hG hsim k { m with pc:=p.2 } o h (hm.pc _) (Or.inr ⟨hh,⟨i,b,hi,by rw[hb1],by rw[hb1];exact hent⟩,by simp only;rw[hc];intro c h;cases h⟩)
  refine⟨k',hk,?_⟩
  have e:renM (numF p f) { m with pc:=p.2 }={ m with pc:=(((joinedS p.1.length p.2 ((blocksS p.1 p.2).map f)).2:Nat):Int) }:=by
    have h1:=numF_first hp hf hi
    rw[hb1]at h1
    have h2:numF p f (p.2:Int)=(numsTo ((blocksS p.1 p.2).map f) p.1.length ((blocksS p.1 p.2).map f).length).1.getD p.2 0:=by
      unfold numF
      rw[if_pos (by omega),Int.toNat_natCast]
    have h3:(((joinedS p.1.length p.2 ((blocksS p.1 p.2).map f)).2:Nat):Int)=numF p f (p.2:Int):=by
      show (((numsTo ((blocksS p.1 p.2).map f) p.1.length ((blocksS p.1 p.2).map f).length).1.getD p.2 0).toNat:Int)=_
      rw[h2]at h1 ⊢
      rw[h1]
      simp
    unfold renM
    simp only
    rw[h3,hc]
    rfl
  rw[e]at hE
  exact hE
theorem row_keep (r:List (Int×Int)):∀ m:MS,(∀ x∈r,plainOp x.1)→(rowX r m).1.pc=m.pc∧(rowX r m).1.halted=m.halted∧(rowX r m).1.calls=m.calls:=by
  induction r with
  | nil=>intro m _;exact⟨rfl,rfl,rfl⟩
  | cons x r ih =>
    intro m hx
    obtain⟨_,k1,k2,k3⟩:=partsP_pc x.2 0 (partsS x.1) (parts_flat _ (hx x (by simp))) m
    rw[rowX]
    split
    · obtain⟨h1,h2,h3⟩:=ih (insX x m).1 (fun y hy=>hx y (by simp[hy]))
      exact⟨h1.trans k1,h2.trans k2,h3.trans k3⟩
    · exact⟨k1,k2,k3⟩
theorem plain_init {r:List (Int×Int)} {x:Int×Int} (h:PlainRow (r++[x])):∀ y∈r,plainOp y.1:=by
  intro y hy
  obtain⟨i,hi⟩:=List.getElem?_of_mem hy
  have hl:=(List.getElem?_eq_some_iff.1 hi).1
  exact h i y (by rw[List.getElem?_append_left hl];exact hi) (by simp;omega)
theorem plain_all {r:List (Int×Int)} (h:∀ y∈r,plainOp y.1):PlainRow r:=fun _ x hx _=>h x (List.mem_of_getElem? hx)
theorem last_split {r:List (Int×Int)} {x:Int×Int} (h:r.getLast? = some x):r=r.dropLast++[x]:=by
  rcases List.eq_nil_or_concat r with rfl|⟨t,c,rfl⟩
  · simp at h
  · rw[List.concat_eq_append]at h ⊢
    simp at h
    subst h
    simp
theorem idle_row {nxt:Int} {r:List (Int×Int)} (hr:∀ y∈r,plainOp y.1):RowSim nxt (r++[(1,nxt)]) r:=by
  intro m _ _ hpc
  rw[rowX_app]
  by_cases h:(rowX r m).2.1=0
  · rw[if_pos h]
    have e:rowX [(1,nxt)] (rowX r m).1=({ (rowX r m).1 with pc:=nxt },0,1):=by
      have e1:insX (1,nxt) (rowX r m).1=({ (rowX r m).1 with pc:=nxt },0):=by
        show partsRun nxt (partsS 1) _=_
        rw[parts_one 1 (Or.inl rfl)]
        unfold partsRun
        rw[ref_jump,if_pos rfl]
        rfl
      rw[rowX,e1]
      rfl
    rw[e]
    simp only
    refine⟨h,by omega,trivial,fun _=>?_⟩
    have:=(row_keep r m hr).1
    rw[hpc]at this
    rw[← this]
  · rw[if_neg h]
    exact⟨rfl,Nat.le_refl _,rfl,fun _=>rfl⟩
theorem short4 {p:PrS} (hp:PrOk p):Short p (stage4 p):=by
  have ok:=blocks_ok hp
  have mem:∀ b∈blocksS p.1 p.2,∀ y∈b.2,y∈p.1:=fun b hb y hy=>by rw[← ok.flat];exact List.mem_flatMap.2 ⟨b,hb,hy⟩
  refine join_short hp (f:=idleS) (fun b=>by unfold idleS;split<;>rfl) (G:=fun _=>True) trivial (fun b hb=>?_) (fun _ _ _=>⟨fun _ _ _=>trivial,fun _ _ _=>trivial⟩) (fun b hb _=>?_)
  · have hpl:=block_plain hp hb
    unfold idleS
    split
    next h =>
      have e:=last_split h
      rw[e]at hpl
      exact⟨plain_all (plain_init hpl),fun y hy hn=>⟨y,mem b hb y ((List.dropLast_sublist _).subset hy),hn,rfl⟩⟩
    · exact⟨hpl,fun y hy hn=>⟨y,mem b hb y hy,hn,rfl⟩⟩
  · have hpl:=block_plain hp hb
    unfold idleS
    split
    next h =>
      have e:=last_split h
      rw[e]at hpl
      have:=idle_row (nxt:=((b.1+b.2.length:Nat):Int)) (plain_init hpl)
      rw[← e]at this
      exact this
    · exact RowSim.refl _ _
theorem short3 {p:PrS} (hp:PrOk p):Short p (stage3 p):=by
  have ok:=blocks_ok hp
  have inv:=reached_inv hp
  have mem:∀ b∈blocksS p.1 p.2,∀ y∈b.2,y∈p.1:=fun b hb y hy=>by rw[← ok.flat];exact List.mem_flatMap.2 ⟨b,hb,hy⟩
  refine join_short hp (f:=unreachS (reachedS p.1 p.2)) (fun b=>by unfold unreachS;split<;>rfl) (G:=fun t=>(reachedS p.1 p.2).getD t false=true) ?_ (fun b hb=>?_) (fun b hb hg=>?_) (fun b hb hg=>?_)
  · rcases inv.entry with h|h
    · exact h
    · simp at h
  · unfold unreachS
    split
    · exact⟨block_plain hp hb,fun y hy hn=>⟨y,mem b hb y hy,hn,rfl⟩⟩
    · exact⟨fun i x hx=>by simp at hx,fun y hy=>by simp at hy⟩
  · obtain⟨i,hi⟩:=List.getElem?_of_mem hb
    refine⟨fun x hx hn=>?_,fun x hx hgo=>?_⟩
    · obtain⟨j,hj⟩:=List.getElem?_of_mem hx
      have hjl:=(List.getElem?_eq_some_iff.1 hj).1
      have h1:=reached_all hp ok hi hg j hjl
      have h2:=block_at ok.flat ok.firsts hi hjl
      rw[hj]at h2
      rcases inv.names _ x h2 h1 hn with h|h
      · exact h
      · simp at h
    · rw[List.getLast?_eq_getElem?]at hx
      have hjl:=(List.getElem?_eq_some_iff.1 hx).1
      have h1:=reached_all hp ok hi hg _ hjl
      have h2:=block_at ok.flat ok.firsts hi hjl
      rw[hx]at h2
      rcases inv.goes _ x h2 h1 hgo with h|h
      · rw[show b.1+(b.2.length-1)+1=b.1+b.2.length by omega]at h
        exact h
      · simp at h
  · unfold unreachS
    rw[if_pos hg]
    exact RowSim.refl _ _
theorem doS_arg (m:MS) (op a b:Int) (h:plainOp op) (h0:op≠0):doS m op a=doS m op b:=by
  obtain⟨h1,h2,h3,h4,h5,h7⟩:=h
  unfold doS
  simp only[if_neg h0,if_neg h1,if_neg h2,if_neg h3,if_neg h4,if_neg h5,if_neg h7]
theorem parts_base (op:Int) (h:0≤op∧op≤32):partsS op=[op]:=by
  have:∀ k:Fin 33,partsS ((k.val:Nat):Int)=[((k.val:Nat):Int)]:=by decide
  have h1:=this ⟨op.toNat,by omega⟩
  simp only at h1
  rwa [show ((op.toNat:Nat):Int)=op by omega]at h1
theorem ins_base (x:Int×Int) (m:MS) (h:0≤x.1∧x.1≤32):insX x m=if refusedS m x.1=0 then (doS m x.1 x.2,0) else (m,refusedS m x.1):=by
  show partsRun x.2 (partsS x.1) m=_
  rw[parts_base _ h]
  rfl
theorem parts_row (v:Int) (ps:List Int):∀ (row:List (Int×Int)) (m:MS),row.length=ps.length→(∀ (j:Nat) (p:Int) (x:Int×Int),ps[j]? = some p→row[j]? = some x→x.1=p∧(0≤p∧p≤32)∧plainOp p∧(p=0→x.2=v))→(rowX row m).1=(partsRun v ps m).1∧(rowX row m).2.1=(partsRun v ps m).2∧(ps≠[]→1≤(rowX row m).2.2):=by
  induction ps with
  | nil =>
    intro row m hl _
    obtain rfl:=List.length_eq_zero_iff.1 hl
    exact⟨rfl,rfl,fun h=>absurd rfl h⟩
  | cons p ps ih =>
    intro row m hl h
    cases row with
    | nil=>simp at hl
    | cons x row =>
      obtain⟨h1,h2,h3,h4⟩:=h 0 p x rfl rfl
      subst h1
      rw[rowX,ins_base x m h2]
      unfold partsRun
      by_cases h0:refusedS m x.1=0
      · rw[if_pos h0,if_pos h0]
        simp only[if_true]
        have e:doS m x.1 x.2=doS m x.1 v:=by
          by_cases hz:x.1=0
          · rw[h4 hz]
          · exact doS_arg m x.1 _ _ h3 hz
        rw[e]
        obtain⟨i1,i2,_⟩:=ih row (doS m x.1 v) (by simpa using hl) (fun j p y hp hy=>h (j+1) p y (by simpa using hp) (by simpa using hy))
        exact⟨i1,i2,fun _=>by omega⟩
      · rw[if_neg h0,if_neg h0]
        simp only
        rw[if_neg h0]
        exact⟨rfl,rfl,fun _=>Nat.le_refl _⟩
theorem numGo_lit {n:Int} {row:List (Int×Int)} {ps:List Int} {v:Int} (h:numGo n row ps=some v):(ps.count 0=0→v=n)∧(ps.count 0≤1→∀ (j:Nat) (x:Int×Int),ps[j]? = some 0→row[j]? = some x→x.2=v):=by
  induction ps generalizing n row with
  | nil =>
    unfold numGo at h
    exact⟨fun _=>(Option.some.inj h).symm,fun _ j x hj=>by simp at hj⟩
  | cons q ps ih =>
    cases row with
    | nil=>cases h
    | cons y r =>
      unfold numGo at h
      split at h
      next hy =>
        obtain⟨i1,i2⟩:=ih h
        by_cases hq:q=0
        · rw[if_pos hq]at i1
          subst hq
          simp only[List.count_cons_self]
          refine⟨fun hc=>by omega,fun hc j x hj hx=>?_⟩
          cases j with
          | zero=>simp at hx;subst hx;exact (i1 (by omega)).symm
          | succ j=>exact i2 (by omega) j x (by simpa using hj) (by simpa using hx)
        · rw[if_neg hq]at i1
          rw[List.count_cons_of_ne hq]
          refine⟨i1,fun hc j x hj hx=>?_⟩
          cases j with
          | zero=>simp at hj;exact absurd hj hq
          | succ j=>exact i2 hc j x (by simpa using hj) (by simpa using hx)
      · cases h
theorem super_fine (op:Nat) (h:40≤op) (h':op<60):(superS op).count 0≤1∧(∀ p∈superS op,(0≤p∧p≤32)∧plainOp p)∧superS op≠[]∧partsS op=superS op:=by
  have:∀ k:Fin 20,(superS ((k.val+40:Nat):Int)).count 0≤1∧(∀ p∈superS ((k.val+40:Nat):Int),(0≤p∧p≤32)∧plainOp p)∧superS ((k.val+40:Nat):Int)≠[]∧partsS ((k.val+40:Nat):Int)=superS ((k.val+40:Nat):Int):=by decide
  have h1:=this ⟨op-40,by omega⟩
  have e:op-40+40=op:=by omega
  simp only[e]at h1
  exact h1
theorem piece_row {row:List (Int×Int)} {p:Pc} (h:p∈piecesS row) (m:MS):(rowX (row.take p.2.2.toNat) m).1=(insX (p.1,p.2.1) m).1∧(rowX (row.take p.2.2.toNat) m).2.1=(insX (p.1,p.2.1) m).2∧1≤(rowX (row.take p.2.2.toNat) m).2.2∧(40≤p.1∧p.1<60)∧1≤p.2.2.toNat∧∀ (j:Nat) (x:Int×Int),j<p.2.2.toNat→row[j]? = some x→plainOp x.1:=by
  have hp:=pieces_parts h
  unfold piecesS piecesTo at h
  obtain⟨op,hop,he⟩:=List.mem_filterMap.1 h
  obtain⟨i,hi,rfl⟩:=List.mem_map.1 hop
  have hi:=List.mem_range.1 hi
  unfold pieceAt at he
  obtain⟨n,hn,rfl⟩:=Option.map_eq_some_iff.1 he
  obtain⟨f1,f2,f3,f4⟩:=super_fine (i+40) (by omega) (by omega)
  simp only[Int.toNat_natCast]at hp ⊢
  have hops:=numGo_ops hn
  have key:∀ (j:Nat) (p:Int) (x:Int×Int),(superS ((i+40:Nat):Int))[j]? = some p→row[j]? = some x→x.1=p∧(0≤p∧p≤32)∧plainOp p∧(p=0→x.2=n):=by
    intro j p x hj hx
    obtain⟨y,hy,e⟩:=hops j p hj
    rw[hx]at hy
    obtain rfl:=Option.some.inj hy
    have:=f2 p (List.mem_of_getElem? hj)
    exact⟨e,this.1,this.2,fun h0=>(numGo_lit hn).2 f1 j x (by rw[hj,h0]) hx⟩
  have hr:=parts_row n (superS ((i+40:Nat):Int)) (row.take (superS ((i+40:Nat):Int)).length) m (by rw[List.length_take];omega) (fun j p x hj hx=>by
    rw[List.getElem?_take]at hx
    split at hx
    · exact key j p x hj hx
    · cases hx)
  have e:insX (((i+40:Nat):Int),n) m=partsRun n (superS ((i+40:Nat):Int)) m:=by
    show partsRun n (partsS _) m=_
    rw[f4]
  rw[e]
  refine⟨hr.1,hr.2.1,hr.2.2 f3,by omega,by have:=List.length_pos_iff.2 f3;omega,fun j x hj hx=>?_⟩
  obtain⟨p,hp⟩:∃ p,(superS ((i+40:Nat):Int))[j]? = some p:=⟨_,List.getElem?_eq_getElem hj⟩
  obtain⟨e1,_,e3,_⟩:=key j p x hp hx
  rw[e1]
  exact e3
theorem pick_sim (row:List (Int×Int)) (n:Nat):∀ (i:Nat) (m:MS),row.length-i≤n→(rowX (pickGo ((few row).map Prod.fst) n i) m).1=(rowX (row.drop i) m).1∧(rowX (pickGo ((few row).map Prod.fst) n i) m).2.1=(rowX (row.drop i) m).2.1∧(rowX (pickGo ((few row).map Prod.fst) n i) m).2.2≤(rowX (row.drop i) m).2.2:=by
  induction n with
  | zero =>
    intro i m h
    rw[List.drop_eq_nil_of_le (by omega)]
    exact⟨rfl,rfl,Nat.le_refl _⟩
  | succ n ih =>
    intro i m h
    cases hx:row[i]? with
    | none =>
      have hl:=List.getElem?_eq_none_iff.1 hx
      have:((few row).map Prod.fst)[i]? = none:=by
        rw[List.getElem?_eq_none_iff,List.length_map,few_len]
        exact hl
      unfold pickGo
      rw[this,List.drop_eq_nil_of_le hl]
      exact⟨rfl,rfl,Nat.le_refl _⟩
    | some x =>
      have hil:=(List.getElem?_eq_some_iff.1 hx).1
      obtain⟨p,_,h2,h3⟩:=pick_at (n:=n) hx
      rw[h2]
      rcases h3 with rfl|h3
      · have e:row.drop i=x :: row.drop (i+1):=by
          rw[List.drop_eq_getElem_cons hil,(List.getElem?_eq_some_iff.1 hx).2]
        rw[e,rowX,rowX]
        simp only[Int.toNat_one]
        by_cases h0:(insX x m).2=0
        · have h0':(insX (x.1,x.2) m).2=0:=h0
          rw[if_pos h0,if_pos h0']
          obtain⟨i1,i2,i3⟩:=ih (i+1) (insX x m).1 (by omega)
          exact⟨i1,i2,Nat.succ_le_succ i3⟩
        · have h0':¬ (insX (x.1,x.2) m).2=0:=h0
          rw[if_neg h0,if_neg h0']
          exact⟨rfl,rfl,Nat.le_refl _⟩
      · obtain⟨q1,q2,q3,_,q5,_⟩:=piece_row h3 m
        have e:row.drop i=(row.drop i).take p.2.2.toNat++row.drop (i+p.2.2.toNat):=by
          rw[← List.drop_drop,List.take_append_drop]
        have e2:rowX (row.drop i) m=rowX ((row.drop i).take p.2.2.toNat++row.drop (i+p.2.2.toNat)) m:=by rw[← e]
        rw[e2,rowX_app,rowX]
        rw[q1,q2]
        by_cases h0:(insX (p.1,p.2.1) m).2=0
        · rw[if_pos h0,if_pos h0]
          obtain⟨i1,i2,i3⟩:=ih (i+p.2.2.toNat) (insX (p.1,p.2.1) m).1 (by omega)
          exact⟨i1,i2,by simp only;omega⟩
        · rw[if_neg h0,if_neg h0]
          exact⟨q1.symm,q2.symm,q3⟩
theorem pick_plain (row:List (Int×Int)) (hr:PlainRow row) (n:Nat):∀ i:Nat,PlainRow (pickGo ((few row).map Prod.fst) n i):=by
  induction n with
  | zero=>intro i j x hx;simp[pickGo]at hx
  | succ n ih =>
    intro i
    cases hx:row[i]? with
    | none =>
      have hl:=List.getElem?_eq_none_iff.1 hx
      have:((few row).map Prod.fst)[i]? = none:=by
        rw[List.getElem?_eq_none_iff,List.length_map,few_len]
        exact hl
      unfold pickGo
      rw[this]
      intro j x hx
      simp at hx
    | some x =>
      obtain⟨p,_,h2,h3⟩:=pick_at (n:=n) hx
      rw[h2]
      intro j y hy hj
      cases j with
      | succ j=>exact ih _ j y (by simpa using hy) (by simpa using hj)
      | zero =>
        simp at hy
        subst hy
        rcases h3 with rfl|h3
        · by_cases hend:i+1<row.length
          · exact hr i x hx hend
          · exfalso
            have:pickGo ((few row).map Prod.fst) n (i+((x.1,x.2,(1:Int)):Pc).2.2.toNat)=[]:=by
              cases n with
              | zero=>rfl
              | succ n =>
                unfold pickGo
                rw[List.getElem?_eq_none]
                rw[List.length_map,few_len]
                simp only[Int.toNat_one]
                omega
            rw[this]at hj
            simp at hj
        · obtain⟨_,_,_,q4,_⟩:=piece_row h3 (startM 0 1 1 1 1 0 0)
          unfold plainOp
          simp only
          omega
theorem shortSuper {p:PrS} (hp:PrOk p):Short p (superP p):=by
  have ok:=blocks_ok hp
  have mem:∀ b∈blocksS p.1 p.2,∀ y∈b.2,y∈p.1:=fun b hb y hy=>by rw[← ok.flat];exact List.mem_flatMap.2 ⟨b,hb,hy⟩
  refine join_short hp (f:=fun b=>(b.1,fewestS b.2)) (fun b=>rfl) (G:=fun _=>True) trivial (fun b hb=>⟨pick_plain b.2 (block_plain hp hb) _ _,fun y hy hn=>?_⟩) (fun _ _ _=>⟨fun _ _ _=>trivial,fun _ _ _=>trivial⟩) (fun b hb _ m _ _ _=>?_)
  · rcases pick_mem b.2 (fun x hx=>hp.base x (mem b hb x hx)) _ _ y hy with h|h
    · exact⟨y,mem b hb y h,hn,rfl⟩
    · rw[names_not (Or.inr (by omega))]at hn
      cases hn
  · obtain⟨h1,h2,h3⟩:=pick_sim b.2 b.2.length 0 m (by omega)
    rw[List.drop_zero]at h1 h2 h3
    exact⟨h2,h3,by show (rowX (pickGo _ _ _) m).1.out=_;rw[h1],fun _=>h1⟩
end Go.Proofs.YtmeiikjpaepogaaGreatDoor
