/- What a token keeps; a round of the reader's loop. -/
import Derived.Test.YtmeiikjpaepogaaGreatDoorN01
import Derived.Deep.CutRange
import Derived.Test.YtmeiikjpaepogaaGreatDoorN02
namespace Go.Proofs.YtmeiikjpaepogaaGreatDoor
open Go Go.RowKit
theorem Inv.cut {st:RS} {m:Nat} (h:Inv st m) {l:List (ByteArray×Int×Int)} (hl:∀ x∈l,x∈st.opens) (hn:l.length≤m):Inv { st with opens:=l } m:=by
  have h1:=h.lens
  unfold YtmeiikjpaepogaaGreatDoor.lens at h1
  exact⟨h.size,h.next,h.place,by unfold YtmeiikjpaepogaaGreatDoor.lens;simp;omega,h.start,fun x hx=>h.opens x (hl x hx),h.token⟩
theorem tellS_inv {st:RS} {m:Nat} (h:Inv st m) (n:Nat):Inv (tellS st n) m:=by
  have ho:∀ x∈(tellS st n).opens,openOk (hereS (tellS st n)) x:=by
    rw[tellS_opens,hereS_tell];exact h.opens
  have hl:=h.lens
  have hs:=h.start
  unfold lens at hl
  refine⟨?_,?_,?_,?_,?_,ho,?_⟩
  all_goals unfold tellS;split
  all_goals first|exact h.size|exact h.next|exact h.place|exact h.token|(unfold lens;simp[setArg_length];omega)|(simp[setArg_length];omega)|omega
theorem openS_inv {st:RS} {m:Nat} (h:Inv st m) {x:ByteArray×Int×Int} (hx:openOk (hereS st) x) (hn:st.opens.length+1≤m):Inv (openS st x) m:=by
  have hl:=h.lens
  unfold lens at hl
  refine⟨h.size,h.next,h.place,by unfold lens openS;simp;omega,h.start,?_,h.token⟩
  intro y hy
  unfold openS at hy
  simp only[List.mem_append,List.mem_singleton]at hy
  rcases hy with hy|rfl
  · exact h.opens y hy
  · exact hx
theorem defineS_inv {st:RS} {m:Nat} (h:Inv st m):Inv (defineS st) (m+1):=by
  have hni:=newNameS_inv h
  have hsame:=newNameS_same st
  have hnl:=hni.lens
  unfold lens at hnl
  unfold defineS
  split
  · split
    · exact (failS_inv h _).mono (by omega)
    · rename_i hno
      have hp:=putS_inv h 4 0
      have hl:=h.lens
      unfold lens at hl
      have hop:st.opens=[]:=by
        rcases Classical.em (st.opens=[]) with e|e
        · exact e
        · exact absurd (Or.inr e) hno
      have hpo:(putS st 4 0).opens=[]:=by rw[putS_opens,hop]
      have hpl:=hp.lens
      unfold lens at hpl
      have hpn:(putS st 4 0).names=st.names:=by unfold putS;split<;>rfl
      refine⟨hp.size,hp.next,hp.place,?_,?_,?_,hp.token⟩
      · unfold lens semiS;simp[hpn];rw[hpn]at hpl;omega
      · unfold semiS;simp
      · unfold semiS;simp[hpo]
  · split
    · exact (failS_inv h _).mono (by omega)
    · rename_i hno
      have hop:(newNameS st).opens=[]:=by
        rw[hsame.1]
        rcases Classical.em (st.opens=[]) with e|e
        · exact e
        · exact absurd (Or.inr e) hno
      split
      · exact hni.mono (by omega)
      · split
        · refine⟨hni.size,hni.next,hni.place,?_,?_,?_,hni.token⟩
          · unfold lens colonS;simp;omega
          · unfold colonS;simp
          · unfold colonS;simp[hop]
        · split
          · refine⟨hni.size,hni.next,hni.place,?_,hni.start,?_,hni.token⟩
            · unfold lens variableS;simp;omega
            · unfold variableS;simp[hop]
          · have hc:=constant3_inv hni
            have hcl:=hc.lens
            unfold lens at hcl
            have hco:(constant3 (newNameS st)).opens=[]:=by
              unfold constant3
              split
              · exact hop
              · rw[(failS_same _ _).1];exact hop
            refine⟨hc.size,hc.next,hc.place,?_,hc.start,?_,hc.token⟩
            · unfold lens constantS;simp;omega
            · unfold constantS;simp[hco]
theorem closeS_inv {st:RS} {m:Nat} (h:Inv st m) (l:List (ByteArray×Int×Int)) (x:ByteArray×Int×Int) (ho:st.opens=l++[x]):Inv (closeS st l x) (m+1):=by
  have hx:=h.opens x (by rw[ho];simp)
  have hl:=h.lens
  unfold lens at hl
  have hln:l.length+1≤m:=by rw[ho]at hl;simp at hl;omega
  have hcut:=h.cut (l:=l) (fun y hy=>by rw[ho];simp[hy]) (by omega)
  obtain⟨⟨ha0,ha1⟩,hn0,hn1⟩:=hx
  unfold closeS
  simp only
  split
  · refine openS_inv (tellS_inv (putS_inv hcut 1 0) _) ?_ (by rw[tellS_opens,putS_opens];simp;omega)
    rw[hereS_tell,hereS_put,hereS_opens]
    exact⟨⟨by simp,by simp;omega⟩,by simp,fun _=>by simp;omega⟩
  · split
    · exact (tellS_inv hcut _).mono (by omega)
    · split
      · exact putS_inv hcut _ _
      · split
        · refine openS_inv (putS_inv hcut 2 0) ?_ (by rw[putS_opens];simp;omega)
          rw[hereS_put,hereS_opens]
          exact⟨⟨ha0,by simp;omega⟩,by simp,fun _=>by simp;omega⟩
        · split
          · exact tellS_inv (putS_inv hcut _ _) _
          · split
            · exact putS_inv hcut _ _
            · exact (failS_inv h _).mono (by omega)
theorem controlS_inv {st:RS} {m:Nat} (h:Inv st m):Inv (controlS st) (m+1):=by
  have hl:=h.lens
  unfold lens at hl
  unfold controlS
  simp only
  split
  · refine openS_inv (putS_inv h 2 0) ?_ (by rw[putS_opens];omega)
    rw[hereS_put]
    exact⟨⟨by simp,by simp;omega⟩,by simp,fun _=>by simp;omega⟩
  · split
    · refine openS_inv (h.mono (by omega)) ?_ (by omega)
      exact⟨⟨by simp,by simp⟩,by simp,fun e=>by simp[ByteArray.toList_eq]at e⟩
    · split
      · refine openS_inv (putS_inv h 6 0) ?_ (by rw[putS_opens];omega)
        rw[hereS_put]
        exact⟨⟨by simp;omega,by simp⟩,by simp,fun e=>by simp[ByteArray.toList_eq]at e⟩
      · split
        · exact (failS_inv h _).mono (by omega)
        · rename_i x hx
          exact closeS_inv h _ _ (opens_last hx)
theorem elementS_inv {st:RS} {m:Nat} (h:Inv st m):Inv (elementS st) (m+1):=by
  unfold elementS
  split
  · exact putS_inv h _ _
  · split
    · exact putS_inv h _ _
    · split
      · split
        · exact putS_inv h _ _
        · exact h.mono (by omega)
      · split
        · exact putS_inv h _ _
        · exact (failS_inv h _).mono (by omega)
theorem itemS_inv {st:RS} {m:Nat} (h:Inv st m):Inv (itemS st) (m+1):=by
  unfold itemS
  split
  · exact defineS_inv h
  · split
    · exact controlS_inv h
    · exact elementS_inv h
def Adv (st st':RS):Prop:=st'.s=st.s∧st.next≤st'.next
theorem Adv.refl (st:RS):Adv st st:=⟨rfl,Nat.le_refl _⟩
theorem Adv.trans {a b c:RS} (h:Adv a b) (k:Adv b c):Adv a c:=⟨k.1.trans h.1,Nat.le_trans h.2 k.2⟩
theorem adv_fail (st:RS) (e:Int):Adv st (failS st e):=⟨(failS_same st e).2.2.2.1,by rw[(failS_same st e).2.2.2.2];exact Nat.le_refl _⟩
theorem adv_put (st:RS) (op arg:Int):Adv st (putS st op arg):=by unfold putS;split<;>exact⟨rfl,Nat.le_refl _⟩
theorem adv_tell (st:RS) (n:Nat):Adv st (tellS st n):=by unfold tellS;split<;>exact⟨rfl,Nat.le_refl _⟩
theorem adv_open (st:RS) (x:ByteArray×Int×Int):Adv st (openS st x):=⟨rfl,Nat.le_refl _⟩
theorem adv_cut (st:RS) (l:List (ByteArray×Int×Int)):Adv st { st with opens:=l }:=⟨rfl,Nat.le_refl _⟩
theorem adv_step {st:RS} {m:Nat} (h:Inv st m):Adv st (stepS st):=⟨rfl,Nat.le_trans (stepS_inv h).2 (stepS_inv h).1.place⟩
theorem adv_newName {st:RS} {m:Nat} (h:Inv st m):Adv st (newNameS st):=by
  unfold newNameS
  split
  · exact (adv_step h).trans (adv_fail _ _)
  · exact adv_step h
theorem adv_define {st:RS} {m:Nat} (h:Inv st m):Adv st (defineS st):=by
  unfold defineS
  split
  · split
    · exact adv_fail _ _
    · exact (adv_put st 4 0).trans ⟨rfl,Nat.le_refl _⟩
  · split
    · exact adv_fail _ _
    · split
      · exact adv_newName h
      · split
        · exact (adv_newName h).trans ⟨rfl,Nat.le_refl _⟩
        · split
          · exact (adv_newName h).trans ⟨rfl,Nat.le_refl _⟩
          · have h3:Adv (newNameS st) (constant3 (newNameS st)):=by
              unfold constant3
              split
              · exact adv_step (newNameS_inv h)
              · exact (adv_step (newNameS_inv h)).trans (adv_fail _ _)
            exact ((adv_newName h).trans h3).trans ⟨rfl,Nat.le_refl _⟩
theorem adv_control (st:RS):Adv st (controlS st):=by
  unfold controlS
  simp only
  split
  · exact (adv_put st _ _).trans (adv_open _ _)
  · split
    · exact adv_open _ _
    · split
      · exact (adv_put st _ _).trans (adv_open _ _)
      · split
        · exact adv_fail _ _
        · unfold closeS
          simp only
          split
          · exact (((adv_cut st _).trans (adv_put _ _ _)).trans (adv_tell _ _)).trans (adv_open _ _)
          · split
            · exact (adv_cut st _).trans (adv_tell _ _)
            · split
              · exact (adv_cut st _).trans (adv_put _ _ _)
              · split
                · exact ((adv_cut st _).trans (adv_put _ _ _)).trans (adv_open _ _)
                · split
                  · exact ((adv_cut st _).trans (adv_put _ _ _)).trans (adv_tell _ _)
                  · split
                    · exact (adv_cut st _).trans (adv_put _ _ _)
                    · exact adv_fail _ _
theorem adv_element (st:RS):Adv st (elementS st):=by
  unfold elementS
  split
  · exact adv_put _ _ _
  · split
    · exact adv_put _ _ _
    · split
      · split
        · exact adv_put _ _ _
        · exact Adv.refl _
      · split
        · exact adv_put _ _ _
        · exact adv_fail _ _
theorem adv_item {st:RS} {m:Nat} (h:Inv st m):Adv st (itemS st):=by
  unfold itemS
  split
  · exact adv_define h
  · split
    · exact adv_control st
    · exact adv_element st
def startS (s:ByteArray):RS:={ s:=s,next:=0,place0:=0,token:=⟨#[]⟩,c0:=[],c1:=[],names:=[],opens:=[],start:=-1,name:=⟨#[]⟩,cells:=0,heads:=[],err:=0,place:=0 }
def fuelS (st:RS):Nat:=st.s.size-st.place0+1
def finS (s:ByteArray):RS:=loopS (fuelS (stepS (startS s))) (stepS (startS s))
def endS (s:ByteArray):RS:=if (finS s).err=0∧(0≤(finS s).start∨(finS s).opens≠[]) then failS (finS s) 4 else finS s
theorem start_inv (s:ByteArray) (h:s.size≤2000):Inv (startS s) 0 :=
  ⟨h,Nat.zero_le _,Nat.le_refl _,by unfold lens startS;simp,by unfold startS;simp,by unfold startS;simp,by
    unfold startS
    simp
    rfl⟩
theorem token_full {st:RS} {m:Nat} (h:Inv st m) (hne:st.token.toList.isEmpty=false):st.place0<st.next:=by
  rcases Nat.lt_or_ge st.place0 st.next with e|e
  · exact e
  · exfalso
    have hl:st.token.size=0:=by rw[h.token,ByteArray.size_extract];omega
    have:=bytes_len st.token
    rw[hl]at this
    rw[List.eq_nil_of_length_eq_zero this]at hne
    simp at hne
theorem round_inv {st:RS} {m:Nat} (h:Inv st m) (hm:m≤st.place0) (hne:st.token.toList.isEmpty=false) :
    Inv (stepS (itemS st)) (m+1)∧m+1≤(stepS (itemS st)).place0∧st.place0<(stepS (itemS st)).place0∧(stepS (itemS st)).s=st.s:=by
  have h1:=itemS_inv h
  have h2:=stepS_inv h1
  have h3:=adv_item h
  have h4:=token_full h hne
  have:=h3.2
  exact⟨h2.1,by omega,by omega,h3.1⟩
theorem loop_stop {st:RS} (f:Nat) (h:st.token.toList.isEmpty=true∨st.err≠0):loopS f st=st:=by
  cases f with
  | zero=>rfl
  | succ f=>unfold loopS;rw[if_pos (by simpa using h)]
theorem loop_more {st:RS} {m:Nat} (f:Nat) (h:Inv st m) (hf:st.s.size-st.place0<f):∀ k,f+k≥0→loopS (f+k) st=loopS f st:=by
  induction f generalizing st m with
  | zero=>omega
  | succ f ih =>
    intro k _
    by_cases hs:st.token.toList.isEmpty=true∨st.err≠0
    · rw[loop_stop _ hs,loop_stop _ hs]
    · have e:f+1+k=(f+k)+1:=by omega
      rw[e,loopS,loopS,if_neg (by simpa using hs),if_neg (by simpa using hs)]
      have hne:st.token.toList.isEmpty=false:=by
        cases e:st.token.toList.isEmpty
        · rfl
        · exact absurd (Or.inl e) hs
      unfold roundS
      split
      · have h1:=itemS_inv h
        have h2:=stepS_inv h1
        have h3:=adv_item h
        have h4:=token_full h hne
        have h5:=h3.2
        have h6:=h2.1.place
        have h7:=h2.1.next
        have h8:(stepS (itemS st)).s=st.s:=h3.1
        refine ih h2.1 ?_ k (by omega)
        rw[h8]
        rw[h8]at h7
        omega
      · rename_i he
        rw[loop_stop _ (Or.inr he),loop_stop _ (Or.inr he)]
theorem loop_round {st:RS} {m:Nat} (h:Inv st m) (hm:m≤st.place0) (hne:st.token.toList.isEmpty=false) (h0:st.err=0) (he:(itemS st).err=0) :
    loopS (fuelS st) st=loopS (fuelS (stepS (itemS st))) (stepS (itemS st)):=by
  obtain⟨h1,h2,h3,h4⟩:=round_inv h hm hne
  have h5:=token_full h hne
  have h6:=h.next
  have h7:=h1.next
  have h8:=h1.place
  rw[h4]at h7
  have e:fuelS st=(st.s.size-st.place0)+1:=rfl
  rw[e,loopS,if_neg (by simp[hne,h0])]
  have e2:roundS st=stepS (itemS st):=by unfold roundS;rw[if_pos he]
  rw[e2]
  have e3:st.s.size-st.place0=fuelS (stepS (itemS st))+(st.s.size-st.place0-fuelS (stepS (itemS st))):=by
    unfold fuelS;rw[h4];omega
  rw[e3]
  exact loop_more _ h1 (by unfold fuelS;omega) _ (by omega)
theorem loop_end {st:RS} (hne:st.token.toList.isEmpty=false) (h0:st.err=0) (he:(itemS st).err≠0) :
    loopS (fuelS st) st=itemS st:=by
  have e:fuelS st=(st.s.size-st.place0)+1:=rfl
  rw[e,loopS,if_neg (by simp[hne,h0])]
  have e2:roundS st=itemS st:=by unfold roundS;rw[if_neg he]
  rw[e2,loop_stop _ (Or.inr he)]
def shiftS (e:Int) (x:Int×Int):Int×Int:=if x.1=1∨x.1=2∨x.1=7 then (x.1,wrap64 (x.2+e)) else x
def fullS (st:RS):List (Int×Int):=st.c0++st.c1.map (shiftS st.c0.length)++[(5,0)]
section
variable {B:Nat} {w:World} {b p:Nat} {st:RS} {v4 v5 v6 v7 v11:Value} {l:List (Int×Int)} {he:List Int} {vL vH:Value}
end
def jumpB (op:Int):Bool:=op == 1 || op == 2 || op == 7
theorem shiftS_eq (e:Int) (x:Int×Int):shiftS e x=(x.1,if jumpB x.1 then wrap64 (x.2+e) else x.2):=by
  unfold shiftS jumpB
  by_cases h:x.1=1∨x.1=2∨x.1=7
  · rw[if_pos h]
    rcases h with h|h|h<;>simp[h]
  · rw[if_neg h]
    have h1:x.1≠1:=fun e=>h (Or.inl e)
    have h2:x.1≠2:=fun e=>h (Or.inr (Or.inl e))
    have h3:x.1≠7:=fun e=>h (Or.inr (Or.inr e))
    simp[h1,h2,h3]
theorem take_one {α:Type} (l:List α) (k:Nat) (c:α) (h:l[k]? = some c):l.take (k+1)=l.take k++[c]:=by
  obtain⟨hlt,rfl⟩:=List.getElem?_eq_some_iff.1 h
  rw[List.take_succ_eq_append_getElem hlt]
theorem own_none {w:World} {base:Nat} {e:TypeId} {size n cap:Nat} {xs:List Value} (h:w.ownsRow base e size (.slice none n cap) n xs):cap=0:=by
  rcases h.2 with ⟨h2,_⟩|⟨g,cap',cur,hv,_⟩
  · simp at h2;exact h2.2
  · simp at hv
theorem own_news {w:World} {base:Nat} {e:TypeId} {size n g cap:Nat} {xs:List Value} (h:w.ownsRow base e size (.slice (some ⟨g,0,none⟩) n cap) n xs):∀ j u,xs[j]? = some u→w.cell? ((⟨g,0,none⟩:Addr).add j)=some u:=by
  intro j u hu
  have hadd:(⟨g,0,none⟩:Addr).add j=⟨g,j,none⟩:=by unfold Addr.add;split<;>simp_all
  have hj:j<n * size:=by have:=(List.getElem?_eq_some_iff.1 hu).1;rw[h.1]at this;exact this
  rw[hadd,own_cell h j hj,hu]
theorem instr_oneCell (l:List (Int×Int)):∀ u∈instrCells l,u.oneCell'=true:=by
  intro u hu
  unfold instrCells at hu
  rw[List.mem_flatMap]at hu
  obtain⟨x,_,hx⟩:=hu
  simp at hx
  rcases hx with rfl|rfl<;>rfl
def insOk (h d:Nat) (x:Int×Int):Prop:=(0≤x.1∧x.1≤32)∧inI x.2∧(x.1=1∨x.1=2∨x.1=7→0≤x.2∧x.2≤h)∧(x.1=3→0≤x.2∧x.2≤d)
structure Good (st:RS):Prop where
  c0:∀ x∈st.c0,insOk st.c0.length (st.c0.length+st.c1.length) x
  c1:∀ x∈st.c1,insOk st.c1.length (st.c0.length+st.c1.length) x
  names:∀ x∈st.names,(x.2.1=0∨x.2.1=3)∧inI x.2.2∧(x.2.1=3→0≤x.2.2∧x.2.2≤st.c0.length)
theorem insOk_mono {h d h' d':Nat} {x:Int×Int} (hx:insOk h d x) (hh:h≤h') (hd:d≤d'):insOk h' d' x:=by
  obtain⟨h1,h2,h3,h4⟩:=hx
  exact⟨h1,h2,fun e=>by have:=h3 e;omega,fun e=>by have:=h4 e;omega⟩
theorem inI_small {x:Int} (h0:0≤x) (h1:x≤100000):inI x:=⟨by omega,by omega⟩
theorem insOk_plain {h d:Nat} {op arg:Int} (h0:0≤op∧op≤32) (ha:inI arg) (hn:op≠1∧op≠2∧op≠7∧op≠3):insOk h d (op,arg) :=
  ⟨h0,ha,fun e=>absurd e (by simp<;>omega),fun e=>absurd e (by simp<;>omega)⟩
theorem put_good {st:RS} (g:Good st) {op arg:Int} (ho:insOk (hereS st) (st.c0.length+st.c1.length) (op,arg)):Good (putS st op arg):=by
  unfold putS
  unfold hereS at ho
  split
  · rename_i hs
    rw[if_pos hs]at ho
    refine⟨?_,?_,?_⟩
    · intro x hx
      simp only[List.mem_append,List.mem_singleton]at hx
      rcases hx with hx|rfl
      · exact insOk_mono (g.c0 x hx) (by simp) (by simp<;>omega)
      · exact insOk_mono ho (by simp) (by simp<;>omega)
    · intro x hx
      exact insOk_mono (g.c1 x hx) (by simp) (by simp<;>omega)
    · intro x hx
      obtain⟨a,b,c⟩:=g.names x hx
      exact⟨a,b,fun e=>by have:=c e;simp;omega⟩
  · rename_i hs
    rw[if_neg hs]at ho
    refine⟨?_,?_,?_⟩
    · intro x hx
      exact insOk_mono (g.c0 x hx) (by simp) (by simp<;>omega)
    · intro x hx
      simp only[List.mem_append,List.mem_singleton]at hx
      rcases hx with hx|rfl
      · exact insOk_mono (g.c1 x hx) (by simp) (by simp<;>omega)
      · exact insOk_mono ho (by simp) (by simp<;>omega)
    · intro x hx
      exact g.names x hx
theorem setArg_mem {l:List (Int×Int)} {n:Nat} {a:Int} {x:Int×Int} (h:x∈setArg l n a):x∈l∨∃ y∈l,x=(y.1,a):=by
  unfold setArg at h
  obtain⟨i,hi⟩:=List.getElem?_of_mem h
  rw[List.getElem?_modify]at hi
  cases e:l[i]? with
  | none=>rw[e]at hi;simp at hi
  | some y =>
    have hy:=List.mem_of_getElem? e
    rw[e]at hi
    by_cases hn:n=i
    · simp[hn]at hi
      exact Or.inr ⟨y,hy,hi.symm⟩
    · simp[hn]at hi
      exact Or.inl (by rw[← hi];exact hy)
theorem tell_good {st:RS} (g:Good st) (hl:st.c0.length≤4000∧st.c1.length≤4000) (n:Nat):Good (tellS st n):=by
  unfold tellS
  split
  · refine⟨?_,?_,?_⟩
    · intro x hx
      simp only[setArg_length]
      rcases setArg_mem hx with hx|⟨y,hy,rfl⟩
      · exact g.c0 x hx
      · obtain⟨a,b,c,d⟩:=g.c0 y hy
        exact⟨a,inI_small (by simp) (by simp<;>omega),fun e=>⟨by simp,by simp⟩,fun e=>⟨by simp,by simp;omega⟩⟩
    · intro x hx
      simp only[setArg_length]
      exact g.c1 x hx
    · intro x hx
      simp only[setArg_length]
      exact g.names x hx
  · refine⟨?_,?_,?_⟩
    · intro x hx
      simp only[setArg_length]
      exact g.c0 x hx
    · intro x hx
      simp only[setArg_length]
      rcases setArg_mem hx with hx|⟨y,hy,rfl⟩
      · exact g.c1 x hx
      · obtain⟨a,b,c,d⟩:=g.c1 y hy
        exact⟨a,inI_small (by simp) (by simp<;>omega),fun e=>⟨by simp,by simp⟩,fun e=>⟨by simp,by simp;omega⟩⟩
    · intro x hx
      exact g.names x hx
theorem Good.of {st st':RS} (g:Good st) (h0:st'.c0=st.c0) (h1:st'.c1=st.c1) (hn:st'.names=st.names):Good st':=by
  refine⟨?_,?_,?_⟩
  · rw[h0,h1];exact g.c0
  · rw[h0,h1];exact g.c1
  · rw[hn,h0];exact g.names
theorem fail_good {st:RS} (g:Good st) (e:Int):Good (failS st e):=by
  unfold failS
  split
  · exact g.of rfl rfl rfl
  · exact g
theorem step_good {st:RS} (g:Good st):Good (stepS st):=g.of rfl rfl rfl
theorem newName_good {st:RS} (g:Good st):Good (newNameS st):=by
  unfold newNameS
  split
  · exact fail_good (step_good g) _
  · exact step_good g
theorem numFrom_le {D:List UInt8} {most n:Nat} (h:numFrom D most=some n):n≤most:=by
  unfold numFrom at h
  split at h
  · simp at h
  · split at h
    · rename_i hc
      simp at h hc
      omega
    · simp at h
theorem numV_in (s:ByteArray):inI (numV s):=by
  unfold numV numS
  split
  · cases e:numFrom s.toList.tail 9223372036854775808 with
    | none=>simp[inI]
    | some n =>
      have:=numFrom_le e
      simp[inI]
      omega
  · cases e:numFrom s.toList 9223372036854775807 with
    | none=>simp[inI]
    | some n =>
      have:=numFrom_le e
      simp[inI]
      omega
theorem plainS_range (s:ByteArray) (h:0≤plainS s):8≤plainS s∧plainS s≤32:=by
  unfold plainS at *
  cases e:plainWords.find? (fun x=>x.1.toList == s.toList) with
  | none=>rw[e]at h;simp at h
  | some x =>
    have hx:=List.mem_of_find?_eq_some e
    have:∀ x∈plainWords,8≤x.2∧x.2≤32:=by
      unfold plainWords
      simp
    exact this x hx
theorem names_more {st:RS} (g:Good st) {x:ByteArray×Int×Int} (hx:(x.2.1=0∨x.2.1=3)∧inI x.2.2∧(x.2.1=3→0≤x.2.2∧x.2.2≤st.c0.length)) {st':RS} (h0:st'.c0=st.c0) (h1:st'.c1=st.c1) (hn:st'.names=st.names++[x]):Good st':=by
  refine⟨?_,?_,?_⟩
  · rw[h0,h1];exact g.c0
  · rw[h0,h1];exact g.c1
  · rw[hn,h0]
    intro y hy
    simp only[List.mem_append,List.mem_singleton]at hy
    rcases hy with hy|rfl
    · exact g.names y hy
    · exact hx
theorem defineS_good {st:RS} {m:Nat} (h:Inv st m) (hm:m<3000) (g:Good st):Good (defineS st):=by
  have gn:=newName_good g
  have hni:=newNameS_inv h
  have hnl:=hni.lens
  have hl:=h.lens
  unfold lens at hnl hl
  unfold defineS
  split
  · split
    · exact fail_good g _
    · rename_i hno
      have hs:0≤st.start:=by omega
      have gp:Good (putS st 4 0):=put_good g (insOk_plain (by omega) (inI_small (by omega) (by omega)) (by omega))
      have hst:=h.start
      refine names_more gp (x:=((putS st 4 0).name,3,(putS st 4 0).start)) ?_ rfl rfl rfl
      have e:(putS st 4 0).start=st.start:=by unfold putS;split<;>rfl
      have e2:(putS st 4 0).c0.length=st.c0.length+1:=by unfold putS;rw[if_pos hs];simp
      simp only[e,e2]
      exact⟨Or.inr trivial,inI_small hs (by omega),fun _=>⟨hs,by omega⟩⟩
  · split
    · exact fail_good g _
    · split
      · exact gn
      · split
        · exact gn.of rfl rfl rfl
        · split
          · refine names_more gn (x:=((stepS st).token,0,(newNameS st).cells)) ?_ rfl rfl rfl
            refine⟨Or.inl rfl,inI_small ?_ ?_,fun e=>?_⟩<;>simp_all<;>omega
          · have gc:Good (constant3 (newNameS st)):=by
              unfold constant3
              split
              · exact step_good gn
              · exact fail_good (step_good gn) _
            refine names_more gc (x:=((stepS st).token,0,numV (stepS (newNameS st)).token)) ?_ rfl rfl rfl
            refine⟨Or.inl rfl,numV_in _,fun e=>?_⟩
            simp at e
theorem insOk_jump {h d:Nat} {op arg:Int} (ho:op=1∨op=2∨op=7) (h0:0≤arg) (h1:arg≤h) (hh:h≤4000):insOk h d (op,arg) :=
  ⟨by simp;omega,inI_small (by simpa using h0) (by simp<;>omega),fun _=>⟨h0,h1⟩,fun e=>absurd e (by simp<;>omega)⟩
theorem hereS_le {st:RS} {m:Nat} (h:lens st m):hereS st≤m:=by
  unfold lens at h
  unfold hereS
  split<;>omega
theorem put_lens {st:RS} {m:Nat} (h:lens st m) (op arg:Int):lens (putS st op arg) (m+1):=by
  unfold lens at *
  unfold putS
  split<;>simp<;>omega
theorem closeS_good {st:RS} {m:Nat} (h:Inv st m) (hm:m<3000) (g:Good st) (l:List (ByteArray×Int×Int)) (x:ByteArray×Int×Int) (ho:st.opens=l++[x]):Good (closeS st l x):=by
  have hx:=h.opens x (by rw[ho];simp)
  have hl:=h.lens
  have hh:=hereS_le hl
  have gu:Good { st with opens:=l }:=g.of rfl rfl rfl
  have hlu:lens { st with opens:=l } m:=by
    unfold lens at hl ⊢
    rw[ho]at hl
    simp at hl ⊢
    omega
  have gj:∀ (op arg:Int),op=1∨op=2∨op=7→0≤arg→arg≤hereS st→Good (putS { st with opens:=l } op arg)∧(putS { st with opens:=l } op arg).c0.length≤4000∧(putS { st with opens:=l } op arg).c1.length≤4000:=by
    intro op arg h1 h2 h3
    have hp:=put_lens hlu op arg
    unfold lens at hp
    exact⟨put_good gu (insOk_jump h1 h2 (by rw[hereS_opens];exact h3) (by rw[hereS_opens];omega)),by omega,by omega⟩
  obtain⟨⟨ha0,ha1⟩,hn0,hn1⟩:=hx
  unfold closeS
  simp only
  split
  · have k:=gj 1 0 (by omega) (by omega) (by omega)
    exact (tell_good k.1 k.2 _).of rfl rfl rfl
  · split
    · unfold lens at hlu
      exact tell_good gu (by simp at hlu ⊢;omega) _
    · split
      · exact (gj 2 _ (by omega) ha0 ha1).1
      · split
        · exact (gj 2 0 (by omega) (by omega) (by omega)).1.of rfl rfl rfl
        · split
          · have k:=gj 1 x.2.1 (by omega) ha0 ha1
            exact tell_good k.1 k.2 _
          · split
            · exact (gj 7 _ (by omega) ha0 ha1).1
            · exact fail_good g _
theorem controlS_good {st:RS} {m:Nat} (h:Inv st m) (hm:m<3000) (g:Good st):Good (controlS st):=by
  have hl:=h.lens
  have hh:=hereS_le hl
  unfold controlS
  simp only
  split
  · exact (put_good g (insOk_jump (by omega) (by omega) (by omega) (by omega))).of rfl rfl rfl
  · split
    · exact g.of rfl rfl rfl
    · split
      · exact (put_good g (insOk_plain (by omega) (inI_small (by omega) (by omega)) (by omega))).of rfl rfl rfl
      · split
        · exact fail_good g _
        · rename_i x hx
          exact closeS_good h hm g _ _ (opens_last hx)
theorem elementS_good {st:RS} {m:Nat} (h:Inv st m) (hm:m<3000) (g:Good st):Good (elementS st):=by
  have hst:=h.start
  have hl:=h.lens
  unfold lens at hl
  unfold elementS
  split
  · rename_i hp
    have:=plainS_range _ hp
    exact put_good g (insOk_plain (by omega) (inI_small (by omega) (by omega)) (by omega))
  · split
    · exact put_good g (insOk_plain (by omega) (numV_in _) (by omega))
    · split
      · split
        · rename_i x hx
          obtain⟨a,b,c⟩:=g.names x (List.mem_of_getElem? hx)
          refine put_good g ⟨by simp;omega,b,fun e=>?_,fun e=>?_⟩
          · simp at e;omega
          · have:=c e;simp;omega
        · exact g
      · split
        · rename_i hr
          refine put_good g ⟨by simp,inI_small (by simpa using hr.2) (by simp<;>omega),fun e=>?_,fun e=>?_⟩
          · simp at e
          · simp;omega
        · exact fail_good g _
theorem itemS_good {st:RS} {m:Nat} (h:Inv st m) (hm:m<3000) (g:Good st):Good (itemS st):=by
  unfold itemS
  split
  · exact defineS_good h hm g
  · split
    · exact controlS_good h hm g
    · exact elementS_good h hm g
theorem loop_good (f:Nat):∀ {st:RS} {m:Nat},Inv st m→m≤st.place0→Good st→Good (loopS f st)∧∃ k,Inv (loopS f st) k∧k≤2001:=by
  induction f with
  | zero =>
    intro st m h hm g
    have h1:=h.place
    have h2:=h.next
    have h3:=h.size
    exact⟨g,m,h,by omega⟩
  | succ f ih =>
    intro st m h hm g
    have h1:=h.place
    have h2:=h.next
    have h3:=h.size
    unfold loopS
    split
    · exact⟨g,m,h,by omega⟩
    · rename_i hno
      have hne:st.token.toList.isEmpty=false:=by
        cases e:st.token.toList.isEmpty
        · rfl
        · exact absurd (Or.inl e) hno
      have gi:=itemS_good h (by omega) g
      have hr:=round_inv h hm hne
      unfold roundS
      split
      · exact ih hr.1 hr.2.1 (step_good gi)
      · rename_i he
        rw[loop_stop _ (Or.inr he)]
        exact⟨gi,m+1,itemS_inv h,by omega⟩
theorem start_good (s:ByteArray):Good (startS s):=⟨by simp[startS],by simp[startS],by simp[startS]⟩
theorem end_good (s:ByteArray) (hs:s.size≤2000):Good (endS s)∧∃ k,Inv (endS s) k∧k≤2001:=by
  have h0:=stepS_inv (start_inv s hs)
  have k:=loop_good (fuelS (stepS (startS s))) h0.1 (Nat.zero_le _) (step_good (start_good s))
  obtain⟨g,m,hi,hm⟩:=k
  unfold endS
  split
  · exact⟨fail_good g _,m,failS_inv hi _,hm⟩
  · exact⟨g,m,hi,hm⟩
structure CodeOk (l:List (Int×Int)):Prop where
  ins:∀ x∈l,(0≤x.1∧x.1≤32∨40≤x.1∧x.1≤59)∧inI x.2∧(namesS x.1=true→0≤x.2∧x.2<l.length)
  last:∃ x,l.getLast? = some x∧(x.1=1∨x.1=4∨x.1=5)
  small:l.length≤5000
theorem full_ok {st:RS} {m:Nat} (h:Inv st m) (hm:m≤2001) (g:Good st):CodeOk (fullS st):=by
  have hl:=h.lens
  unfold lens at hl
  have hlen:(fullS st).length=st.c0.length+st.c1.length+1:=by simp[fullS];omega
  refine⟨?_,⟨(5,0),by simp[fullS],by simp⟩,by omega⟩
  intro x hx
  rw[hlen]
  unfold fullS at hx
  simp only[List.mem_append,List.mem_singleton,List.mem_map]at hx
  have key:∀ x:Int×Int,insOk (st.c0.length+st.c1.length) (st.c0.length+st.c1.length) x→(0≤x.1∧x.1≤32∨40≤x.1∧x.1≤59)∧inI x.2∧(namesS x.1=true→0≤x.2∧x.2<((st.c0.length+st.c1.length+1:Nat):Int)):=by
    intro x ⟨a,b,c,d⟩
    refine⟨Or.inl a,b,fun e=>?_⟩
    unfold namesS at e
    simp at e
    rcases e with ((e|e)|e)|e
    · have:=c (Or.inl e);omega
    · have:=c (Or.inr (Or.inl e));omega
    · have:=d e;omega
    · have:=c (Or.inr (Or.inr e));omega
  rcases hx with (hx|⟨y,hy,rfl⟩)|rfl
  · exact key x (insOk_mono (g.c0 x hx) (by omega) (Nat.le_refl _))
  · have hy':=g.c1 y hy
    apply key
    obtain⟨a,b,c,d⟩:=hy'
    unfold shiftS
    split
    · rename_i e
      have:=c e
      have hw:wrap64 (y.2+(st.c0.length:Int))=y.2+st.c0.length:=by
        unfold wrap64;omega
      rw[hw]
      exact⟨a,inI_small (by simp<;>omega) (by simp<;>omega),fun _=>⟨by simp;omega,by simp;omega⟩,fun e3=>by simp at e3;omega⟩
    · exact⟨a,b,fun e=>by rename_i hn;exact absurd e hn,d⟩
  · exact key (5,0) (insOk_plain (by omega) (inI_small (by omega) (by omega)) (by omega))
end Go.Proofs.YtmeiikjpaepogaaGreatDoor
