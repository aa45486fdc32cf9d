/- A run of code that may be run stays within it; the whole run as a plain function; how many cells a text has. -/
import Derived.Test.YtmeiikjpaepogaaGreatDoorN04
namespace Go.Proofs.YtmeiikjpaepogaaGreatDoor
open Go Go.RowKit
structure RunOk (l:List (Int×Int)) (m:MS):Prop where
  pc:0≤m.pc∧m.pc<l.length
  calls:∀ c∈m.calls,0≤c∧c<l.length
theorem ite_pred {c:Prop} [Decidable c] {p:MS→Prop} {a b:MS} (ha:p a) (hb:p b):p (if c then a else b):=by split<;>assumption
theorem doS_pc (m:MS) (op arg:Int) (h:op≠1∧op≠2∧op≠3∧op≠4∧op≠5∧op≠7):(doS m op arg).pc=m.pc∧(doS m op arg).calls=m.calls:=by
  obtain⟨h1,h2,h3,h4,h5,h7⟩:=h
  unfold doS
  simp only[if_neg h1,if_neg h2,if_neg h3,if_neg h4,if_neg h5,if_neg h7]
  repeat' (first|refine ite_pred (p:=fun z=>z.pc=m.pc∧z.calls=m.calls) ?_ ?_|exact⟨rfl,rfl⟩)
theorem partsRun_pc (arg:Int) (ps:List Int) (m:MS) (h:∀ op∈ps,op≠1∧op≠2∧op≠3∧op≠4∧op≠5∧op≠7):(partsRun arg ps m).1.pc=m.pc∧(partsRun arg ps m).1.calls=m.calls:=by
  induction ps generalizing m with
  | nil=>exact⟨rfl,rfl⟩
  | cons op r ih =>
    unfold partsRun
    split
    · have h1:=ih (doS m op arg) (fun o ho=>h o (List.mem_cons_of_mem _ ho))
      have h2:=doS_pc m op arg (h op (List.mem_cons_self ..))
      exact⟨h1.1.trans h2.1,h1.2.trans h2.2⟩
    · exact⟨rfl,rfl⟩
theorem parts_super (op:Int) (h:40≤op):∀ x∈partsS op,x≠1∧x≠2∧x≠3∧x≠4∧x≠5∧x≠7:=by
  unfold partsS
  split
  · rename_i y hy
    have hm:=List.mem_of_find?_eq_some hy
    have:∀ y∈partsTab,∀ x∈y.2,x≠1∧x≠2∧x≠3∧x≠4∧x≠5∧x≠7:=by
      unfold partsTab
      simp
    exact this y hm
  · rw[if_neg (by omega)];simp
theorem parts_plain (op:Int) (h:0≤op∧op≤32):partsS op=[op]:=by
  unfold partsS
  split
  · rename_i y hy
    have hm:=List.mem_of_find?_eq_some hy
    have hp:=List.find?_some hy
    have:∀ y∈partsTab,40≤y.1:=by
      unfold partsTab
      simp
    have:=this y hm
    simp at hp
    omega
  · rw[if_pos h]
theorem topL_mem (l:List Int) (h:0<l.length):topL l∈l:=by
  have:=form1 l (by omega)
  rw[this,topL_app]
  simp
theorem dropLast_mem {l:List Int} {x:Int} (h:x∈l.dropLast):x∈l:=List.dropLast_subset l h
theorem stepM_ok (l:List (Int×Int)) (m:MS) (hl:CodeOk l) (h:RunOk l m) (he:(stepM l m).2=0):(stepM l m).1.halted=true∨RunOk l (stepM l m).1:=by
  obtain⟨k0,hk0⟩:∃ k0:Nat,m.pc=k0:=⟨m.pc.toNat,by have:=h.pc;omega⟩
  have hlt:k0<l.length:=by have:=h.pc;omega
  obtain⟨x,hx⟩:∃ x,l[k0]? = some x:=⟨_,List.getElem?_eq_getElem hlt⟩
  have hxok:=hl.ins x (List.mem_of_getElem? hx)
  have hst:stepM l m=partsRun x.2 (partsS x.1) { m with pc:=m.pc+1 }:=by
    unfold stepM
    rw[hk0,Int.toNat_natCast,hx]
  rw[hst]at he ⊢
  have hnext:x.1≠1→x.1≠4→x.1≠5→m.pc+1<l.length:=by
    intro h1 h4 h5
    obtain⟨y,hy,hyo⟩:=hl.last
    have hne:k0≠l.length-1:=by
      rintro rfl
      rw[List.getLast?_eq_getElem?]at hy
      rw[hx]at hy
      obtain rfl:=Option.some.inj hy
      omega
    omega
  rcases hxok.1 with hp|hs
  · rw[parts_plain x.1 hp]at he ⊢
    unfold partsRun at he ⊢
    by_cases hz:refusedS { m with pc:=m.pc+1 } x.1=0
    · rw[if_pos hz]at he ⊢
      unfold partsRun at he ⊢
      simp only
      have hcalls:=h.calls
      have hpc:=h.pc
      obtain⟨z1,z2,z3,z4,z5,z6,z7,z8,z9,z10⟩:=refused_zero _ _ hz
      have hnames:x.1=1∨x.1=2∨x.1=3∨x.1=7→0≤x.2∧x.2<l.length:=by
        intro e
        refine hxok.2.2 ?_
        unfold namesS
        rcases e with e|e|e|e<;>simp[e]
      by_cases o1:x.1=1
      · right
        have e:doS { m with pc:=m.pc+1 } x.1 x.2={ m with pc:=x.2 }:=by rw[o1];rfl
        rw[e]
        exact⟨hnames (Or.inl o1),hcalls⟩
      by_cases o2:x.1=2
      · right
        have hn:=hnext (by omega) (by omega) (by omega)
        have hr:=hnames (Or.inr (Or.inl o2))
        rw[o2]
        show RunOk l (if topL m.stack=0 then { m with stack:=m.stack.dropLast,pc:=x.2 } else { m with stack:=m.stack.dropLast,pc:=m.pc+1 })
        split
        · exact⟨hr,hcalls⟩
        · exact⟨⟨by simp;omega,hn⟩,hcalls⟩
      by_cases o3:x.1=3
      · right
        have hn:=hnext (by omega) (by omega) (by omega)
        have e:doS { m with pc:=m.pc+1 } x.1 x.2={ m with calls:=m.calls++[m.pc+1],pc:=x.2 }:=by rw[o3];rfl
        rw[e]
        refine⟨hnames (Or.inr (Or.inr (Or.inl o3))),?_⟩
        intro c hc
        simp only[List.mem_append,List.mem_singleton]at hc
        rcases hc with hc|rfl
        · exact hcalls c hc
        · omega
      by_cases o4:x.1=4
      · right
        have e:doS { m with pc:=m.pc+1 } x.1 x.2={ m with calls:=m.calls.dropLast,pc:=topL m.calls }:=by rw[o4];rfl
        rw[e]
        refine⟨hcalls _ (topL_mem _ (z6 o4)),fun c hc=>hcalls c (dropLast_mem hc)⟩
      by_cases o5:x.1=5
      · left
        rw[o5];rfl
      by_cases o7:x.1=7
      · right
        have hn:=hnext (by omega) (by omega) (by omega)
        have hr:=hnames (Or.inr (Or.inr (Or.inr o7)))
        rw[o7]
        show RunOk l (if wrap64 (topL m.side+1)=topL m.side.dropLast then { m with side:=m.side.dropLast.dropLast,pc:=m.pc+1 } else { m with side:=m.side.dropLast.dropLast++[topL m.side.dropLast,wrap64 (topL m.side+1)],pc:=x.2 })
        split
        · exact⟨⟨by simp;omega,hn⟩,hcalls⟩
        · exact⟨hr,hcalls⟩
      · right
        have hd:=doS_pc { m with pc:=m.pc+1 } x.1 x.2 ⟨o1,o2,o3,o4,o5,o7⟩
        have hn:=hnext o1 o4 o5
        refine⟨?_,?_⟩
        · rw[hd.1];simp only;omega
        · rw[hd.2];exact hcalls
    · rw[if_neg hz]at he
      exact absurd he hz
  · right
    have hd:=partsRun_pc x.2 (partsS x.1) { m with pc:=m.pc+1 } (parts_super x.1 hs.1)
    have hn:=hnext (by omega) (by omega) (by omega)
    have hpc:=h.pc
    refine⟨?_,?_⟩
    · rw[hd.1];simp only;omega
    · rw[hd.2];exact h.calls
def runM (l:List (Int×Int)):Nat→Int→MS→MS×Int×Int
  | 0,s,m=>if m.halted then (m,0,s) else (m,15,s)
  | f+1,s,m=>if m.halted then (m,0,s) else if (stepM l m).2=0 then runM l f (s+1) (stepM l m).1 else ((stepM l m).1,(stepM l m).2,s+1)
def cellsOk (st:RS):Prop:=2 * st.cells≤st.place0
theorem put_cells (st:RS) (op arg:Int):(putS st op arg).cells=st.cells:=by unfold putS;split<;>rfl
theorem tell_cells (st:RS) (n:Nat):(tellS st n).cells=st.cells:=by unfold tellS;split<;>rfl
theorem fail_cells (st:RS) (e:Int):(failS st e).cells=st.cells:=by unfold failS;split<;>rfl
theorem newName_cells (st:RS):(newNameS st).cells=st.cells:=by
  unfold newNameS
  split
  · rw[fail_cells];rfl
  · rfl
theorem close_cells (st:RS) (l:List (ByteArray×Int×Int)) (x:ByteArray×Int×Int):(closeS st l x).cells=st.cells:=by
  unfold closeS
  simp only
  split
  · show (tellS _ _).cells=_
    rw[tell_cells,put_cells]
  · split
    · rw[tell_cells]
    · split
      · rw[put_cells]
      · split
        · show (putS _ _ _).cells=_
          rw[put_cells]
        · split
          · rw[tell_cells,put_cells]
          · split
            · rw[put_cells]
            · rw[fail_cells]
theorem control_cells (st:RS):(controlS st).cells=st.cells:=by
  unfold controlS
  simp only
  split
  · show (putS _ _ _).cells=_
    rw[put_cells]
  · split
    · rfl
    · split
      · show (putS _ _ _).cells=_
        rw[put_cells]
      · split
        · rw[fail_cells]
        · rw[close_cells]
theorem element_cells (st:RS):(elementS st).cells=st.cells:=by
  unfold elementS
  split
  · rw[put_cells]
  · split
    · rw[put_cells]
    · split
      · split
        · rw[put_cells]
        · rfl
      · split
        · rw[put_cells]
        · rw[fail_cells]
theorem define_cells (st:RS):(defineS st).cells=st.cells∨(defineS st).cells=st.cells+1∧(st.token.toList == [118,97,114,105,97,98,108,101])=true:=by
  unfold defineS
  split
  · split
    · left;rw[fail_cells]
    · left
      show (putS _ _ _).cells=_
      rw[put_cells]
  · split
    · left;rw[fail_cells]
    · split
      · left;rw[newName_cells]
      · split
        · left
          show (newNameS st).cells=_
          rw[newName_cells]
        · split
          · right
            refine⟨?_,by assumption⟩
            show (newNameS st).cells+1=_
            rw[newName_cells]
          · left
            show (constant3 (newNameS st)).cells=_
            unfold constant3
            split
            · exact newName_cells st
            · rw[fail_cells];exact newName_cells st
theorem item_cells {st:RS} {m:Nat} (h:Inv st m) (hc:cellsOk st):2 * (itemS st).cells≤st.next:=by
  have hp:=h.place
  unfold cellsOk at hc
  unfold itemS
  split
  · rcases define_cells st with e|⟨e,ht⟩
    · rw[e];omega
    · have hsz:st.token.size=8:=by
        have e1:st.token.toList=[118,97,114,105,97,98,108,101]:=by simpa using ht
        have:=bytes_len st.token
        rw[e1]at this
        simpa using this.symm
      rw[h.token,ByteArray.size_extract]at hsz
      have:=h.next
      rw[e];omega
  · split
    · rw[control_cells];omega
    · rw[element_cells];omega
theorem loop_cells (f:Nat):∀ {st:RS} {m:Nat},Inv st m→m≤st.place0→cellsOk st→2 * (loopS f st).cells≤2000:=by
  induction f with
  | zero =>
    intro st m h hm hc
    have h1:=h.place
    have h2:=h.next
    have h3:=h.size
    unfold cellsOk at hc
    unfold loopS
    omega
  | succ f ih =>
    intro st m h hm hc
    have h1:=h.place
    have h2:=h.next
    have h3:=h.size
    unfold loopS
    split
    · unfold cellsOk at hc
      omega
    · rename_i hno
      have hne:st.token.toList.isEmpty=false:=by
        cases e:st.token.toList.isEmpty
        · rfl
        · exact absurd (Or.inl e) hno
      have hi:=item_cells h hc
      have hr:=round_inv h hm hne
      have ha:=adv_item h
      unfold roundS
      split
      · refine ih hr.1 hr.2.1 ?_
        unfold cellsOk
        have hs:=(stepS_inv (itemS_inv h)).2
        have hn:=ha.2
        show 2 * (itemS st).cells≤_
        omega
      · rename_i he
        rw[loop_stop _ (Or.inr he)]
        omega
theorem end_cells (s:ByteArray) (hs:s.size≤2000):(endS s).cells≤1000:=by
  have h0:=stepS_inv (start_inv s hs)
  have k:=loop_cells (fuelS (stepS (startS s))) h0.1 (Nat.zero_le _) (by unfold cellsOk;show (0:Int)≤_;omega)
  unfold endS
  split
  · rw[fail_cells];show (loopS _ _).cells≤_;omega
  · show (loopS _ _).cells≤_;omega
end Go.Proofs.YtmeiikjpaepogaaGreatDoor
