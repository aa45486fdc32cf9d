/- The program's machine: the limits. -/
import Derived.Test.YtmeiikjpaepogaaGreatDoorU18
import Derived.Test.YtmeiikjpaepogaaGreatDoorU20
import Derived.Test.YtmeiikjpaepogaaGreatDoorU22
import Derived.Test.YtmeiikjpaepogaaGreatDoorU06
import Derived.Test.YtmeiikjpaepogaaGreatDoorU10
set_option maxRecDepth 100000
set_option maxHeartbeats 16000000
namespace Go.Proofs.YtmeiikjpaepogaaGreatDoor
open Go Go.RowKit
def plimOk (n:Int):Bool:=decide (1≤n∧n≤1000)
theorem areLimits_any (q c:Nat) (a0 a1 a2 a3:Int) (w:World) (hq:∀ j:Nat,w.cell? ⟨q,j,none⟩=(#[.int .i64 a0,.int .i64 a1,.int .i64 a2,.int .i64 a3]:Array Value)[j]?) :
    Calls Tryz.prog 61 #[.slice (some ⟨q,0,none⟩) 4 c] w (fun e w'=>e=.returned (.bool (plimOk a0&&plimOk a1&&plimOk a2&&plimOk a3))∧w'=w):=by
  have hval:∀ k:Nat,k<4→∃ x,([a0,a1,a2,a3]:List Int)[k]? = some x∧w.cell? ⟨q,k,none⟩=some (.int .i64 x):=by
    intro k hk
    rw[hq k]
    match k,hk with
    | 0,_=>exact⟨_,rfl,rfl⟩
    | 1,_=>exact⟨_,rfl,rfl⟩
    | 2,_=>exact⟨_,rfl,rfl⟩
    | 3,_=>exact⟨_,rfl,rfl⟩
  have hall:(plimOk a0&&plimOk a1&&plimOk a2&&plimOk a3)=([a0,a1,a2,a3]:List Int).all plimOk:=by simp[Bool.and_assoc]
  have HV:=V hval
  have HA:=V hall
  generalize (plimOk a0&&plimOk a1&&plimOk a2&&plimOk a3)=rr at *
  generalize hls:([a0,a1,a2,a3]:List Int)=ls at *
  have hlen:ls.length=4:=by rw[← hls];rfl
  clear hq hval hall hls
  go_enter Tryz.func61,Tryz.ntmps61
  go_wp2_with fail
  go_loop [7] (fun i=>∃ k:Nat,k≤4∧i=.int .i64 k∧(ls.take k).all plimOk=true) (fun i=>4-(intOf i).toNat)
  case atStart=>exact⟨0,by omega,rfl,rfl⟩
  case round =>
    obtain⟨k,hk,rfl,hok⟩:=hrel
    by_cases hlt:k<4
    · obtain⟨x,hx,hcx⟩:=U HV k hlt
      have hltI:(k:Int)<4:=by omega
      have hnx:(ls.take (k+1)).all plimOk=plimOk x:=by rw[List.take_add_one,hx];simp[hok]
      have HNX:=V hnx
      have HX:=V hx
      by_cases h1:x<1
      · clear hnx hx
        go_wp2_with fail
        go_ret
        refine⟨congrArg (fun c=>Ending.returned (.bool c)) ?_,rfl⟩
        rw[U HA]
        symm
        rw[List.all_eq_false]
        exact⟨x,List.mem_of_getElem? (U HX),by simp[plimOk];omega⟩
      · by_cases h2:1000<x
        · clear hnx hx
          go_wp2_with fail
          go_ret
          refine⟨congrArg (fun c=>Ending.returned (.bool c)) ?_,rfl⟩
          rw[U HA]
          symm
          rw[List.all_eq_false]
          exact⟨x,List.mem_of_getElem? (U HX),by simp[plimOk];omega⟩
        · have HOK:Hid (plimOk x=true):=by show plimOk x=true;simp[plimOk];omega
          clear hnx hx
          go_wp2_with fail
          go_round
          case rel=>exact⟨k+1,by omega,by go_num,by rw[U HNX];exact U HOK⟩
          case measure=>simp[intOf];omega
    · have hk4:k=4:=by omega
      subst hk4
      have HOK:=V hok
      clear hok
      go_wp2_with fail
      go_ret
      refine⟨congrArg (fun c=>Ending.returned (.bool c)) ?_,rfl⟩
      rw[U HA]
      have:=U HOK
      rw[List.take_of_length_le (by omega)]at this
      exact this.symm
theorem start_mok (p:Nat) (ls la lc lo en:Int) (c:Nat) (hc:c≤1000) (hl:limsOk ls la lc lo):MOk (startM p ls la lc lo en c):=by
  obtain⟨h1,h2,h3,h4⟩:=hl
  unfold limOk at h1 h2 h3 h4
  have h0:(⟨#[]⟩:ByteArray).size=0:=rfl
  refine⟨⟨h1,h2,h3,h4⟩,?_,?_,?_,?_,?_,?_,?_,?_⟩
  · simp[startM];omega
  · simp[startM];omega
  · simp[startM];omega
  · simp[startM];omega
  · simp[startM,h0];omega
  · simp[startM]
  · simp[startM]
  · intro x hx
    simp[startM]at hx
    rw[hx.2]
    exact inI_zero
theorem pmachine_new (W:World) (B tb p:Nat) (vl:Value) (ls la lc lo en:Int) (c:Nat) (hB:B≤W.heap.size) (hc:c≤1000) :
    PmE B ((W.alloc (.cells (madeCells #[.int .i64 0] c) 2)).alloc (.cells #[.pointer (some ⟨tb,0,none⟩),.int .i64 ls,.int .i64 la,.int .i64 lc,.int .i64 lo,vl,.int .i64 en,.int .i64 0,.bool false,.slice none 0 0,.slice none 0 0,.slice none 0 0,.slice (some ⟨W.heap.size,0,none⟩) c c,.slice none 0 0] 122)).drew (W.heap.size+1) tb vl (startM p ls la lc lo en c) 0:=by
  have hs1:(W.alloc (.cells (madeCells #[.int .i64 0] c) 2)).heap.size=W.heap.size+1:=by simp
  have hrow:((W.alloc (.cells (madeCells #[.int .i64 0] c) 2)).alloc (.cells #[.pointer (some ⟨tb,0,none⟩),.int .i64 ls,.int .i64 la,.int .i64 lc,.int .i64 lo,vl,.int .i64 en,.int .i64 0,.bool false,.slice none 0 0,.slice none 0 0,.slice none 0 0,.slice (some ⟨W.heap.size,0,none⟩) c c,.slice none 0 0] 122)).drew.ownsRow B 2 1 (.slice (some ⟨W.heap.size,0,none⟩) c c) c (intCells (List.replicate c 0)):=by
    refine⟨by simp[intCells],Or.inr ⟨W.heap.size,c,madeCells #[.int .i64 0] c,rfl,hB,((Blk.new W _ _).alloc _).drew,Nat.le_refl _,by unfold maxLen;omega,by rw[size_madeCells];omega,?_⟩⟩
    rw[made_ints,List.take_of_length_le (by simp[intCells])]
  have hb:=Blk.new (W.alloc (.cells (madeCells #[.int .i64 0] c) 2)) #[.pointer (some ⟨tb,0,none⟩),.int .i64 ls,.int .i64 la,.int .i64 lc,.int .i64 lo,vl,.int .i64 en,.int .i64 0,.bool false,.slice none 0 0,.slice none 0 0,.slice none 0 0,.slice (some ⟨W.heap.size,0,none⟩) c c,.slice none 0 0] 122
  rw[hs1]at hb
  refine⟨.slice none 0 0,.slice none 0 0,.slice none 0 0,.slice (some ⟨W.heap.size,0,none⟩) c c,.slice none 0 0,⟨hb.drew,by omega,⟨?_,?_,?_,rfl⟩⟩⟩
  · intro i v t hv ht
    have hi:i<5:=(List.getElem?_eq_some_iff.1 hv).1
    match i,hi with
    | 0,_=>simp[pmRows,startM,intCells]at hv ht;subst hv ht;exact World.ownsRow_nil _ _ _ _
    | 1,_=>simp[pmRows,startM,intCells]at hv ht;subst hv ht;exact World.ownsRow_nil _ _ _ _
    | 2,_=>simp[pmRows,startM,intCells]at hv ht;subst hv ht;exact World.ownsRow_nil _ _ _ _
    | 3, _ =>
      simp only[pmRows,startM,List.getElem?_cons_succ,List.getElem?_cons_zero,Option.some.injEq,Int.toNat_natCast,List.length_replicate]at hv ht
      subst hv ht
      exact hrow
    | 4, _ =>
      simp only[List.getElem?_cons_succ,List.getElem?_cons_zero,Option.some.injEq]at hv
      subst hv
      have e0:byteCells ⟨#[]⟩=[]:=by unfold byteCells;rw[ByteArray.toList_eq];rfl
      have e:t=⟨5,1,0,[]⟩:=by
        have:=Option.some.inj ht
        rw[← this,← e0]
        rfl
      rw[e]
      exact World.ownsRow_nil _ _ _ _
  · intro i j v v' k hv hv' hk hk'
    have hi:i<5:=(List.getElem?_eq_some_iff.1 hv).1
    have hj:j<5:=(List.getElem?_eq_some_iff.1 hv').1
    match i,hi with
    | 0,_=>simp at hv;subst hv;simp[Value.ownBlock]at hk
    | 1,_=>simp at hv;subst hv;simp[Value.ownBlock]at hk
    | 2,_=>simp at hv;subst hv;simp[Value.ownBlock]at hk
    | 4,_=>simp at hv;subst hv;simp[Value.ownBlock]at hk
    | 3, _ =>
      match j,hj with
      | 0,_=>simp at hv';subst hv';simp[Value.ownBlock]at hk'
      | 1,_=>simp at hv';subst hv';simp[Value.ownBlock]at hk'
      | 2,_=>simp at hv';subst hv';simp[Value.ownBlock]at hk'
      | 4,_=>simp at hv';subst hv';simp[Value.ownBlock]at hk'
      | 3,_=>rfl
  · intro i v b hv hb e
    simp at hb
    subst hb
    have hi:i<5:=(List.getElem?_eq_some_iff.1 hv).1
    match i,hi with
    | 0,_=>simp at hv;subst hv;simp[Value.ownBlock]at e
    | 1,_=>simp at hv;subst hv;simp[Value.ownBlock]at e
    | 2,_=>simp at hv;subst hv;simp[Value.ownBlock]at e
    | 3,_=>simp at hv;subst hv;simp[Value.ownBlock]at e
    | 4,_=>simp at hv;subst hv;simp[Value.ownBlock]at e
theorem newMachine_any (tb p g len cap:Nat) (ls la lc lo en ce:Int) (w:World) (hce:0≤ce∧ce≤1000) :
    Calls Tryz.prog 62 #[.pointer (some ⟨tb,0,none⟩),.agg #[.slice (some ⟨g,0,none⟩) len cap,.int .i64 en,.int .i64 ce],.agg #[.int .i64 ls,.int .i64 la,.int .i64 lc,.int .i64 lo]] w fun e w'=>∃ b,e=.returned (.pointer (some ⟨b,0,none⟩))∧PmE w.heap.size w' b tb (.slice (some ⟨g,0,none⟩) len cap) (startM p ls la lc lo en ce) 0∧Below w.heap.size w w':=by
  obtain⟨c,rfl⟩:∃ c:Nat,ce=c:=⟨ce.toNat,by omega⟩
  have hmk:=run_make_row' (P:=Tryz.prog) 42 2 (.int .i64 0) 8 Tryz.underlying42 Tryz.infoInt64 rfl .i64 .i64 c (by omega) (by omega)
  go_enter Tryz.func62,Tryz.ntmps62
  go_wp2_with fail
  have hp:=Blk.new w #[.slice (some ⟨g,0,none⟩) len cap,.int .i64 en,.int .i64 c] 73
  have hl:=Blk.new (w.alloc (.cells #[.slice (some ⟨g,0,none⟩) len cap,.int .i64 en,.int .i64 c] 73)) #[.int .i64 ls,.int .i64 la,.int .i64 lc,.int .i64 lo] 39
  rw[size_up']at hl
  have hbw:=below_box2 w (.cells #[.slice (some ⟨g,0,none⟩) len cap,.int .i64 en,.int .i64 c] 73) (.cells #[.int .i64 ls,.int .i64 la,.int .i64 lc,.int .i64 lo] 39)
  have hsz:((w.alloc (.cells #[.slice (some ⟨g,0,none⟩) len cap,.int .i64 en,.int .i64 c] 73)).alloc (.cells #[.int .i64 ls,.int .i64 la,.int .i64 lc,.int .i64 lo] 39)).heap.size=w.heap.size+2:=by simp
  have hp2:=hp.alloc (.cells #[.int .i64 ls,.int .i64 la,.int .i64 lc,.int .i64 lo] 39)
  generalize (w.alloc (.cells #[.slice (some ⟨g,0,none⟩) len cap,.int .i64 en,.int .i64 c] 73)).alloc (.cells #[.int .i64 ls,.int .i64 la,.int .i64 lc,.int .i64 lo] 39)=W at *
  have hcp:=hp2.cell
  have hcl:=hl.cell
  have hcp1:=(hp2.alloc (.cells (madeCells #[.int .i64 0] c) 2)).cell
  have hcl1:=(hl.alloc (.cells (madeCells #[.int .i64 0] c) 2)).cell
  have hcp2:=((hp2.alloc (.cells (madeCells #[.int .i64 0] c) 2)).drew).cell
  have hcl2:=((hl.alloc (.cells (madeCells #[.int .i64 0] c) 2)).drew).cell
  have hwl:w.heap.size<W.heap.size:=by omega
  have hwl1:w.heap.size+1<W.heap.size:=by omega
  have HB:=V hbw
  have HSZ:=V hsz
  clear hp hp2 hl hbw hsz
  go_region
  all_goals
    go_wp2_with fail
    go_ret
    refine⟨_,rfl,pmachine_new W w.heap.size tb p _ ls la lc lo en c (U HB).size (by omega),?_⟩
    exact (((U HB).alloc (U HB).size _).alloc (by have:=(U HB).size;simp;omega) _).drew
theorem strOfNums_bytes (s:ByteArray):strOfNums (s.toList.map (fun c=>(c.toNat:Int)))=s:=by
  apply ByteArray.ext
  apply Array.ext'
  rw[ByteArray.toList_eq]
  simp[strOfNums,Function.comp_def]
theorem conv_out (w:World) (B:Nat) (vO:Value) (s:ByteArray) (h:w.ownsRow B 5 1 vO s.size (byteCells s)):(convert 86 9 vO).run Tryz.prog w=.ok (.string s) w:=by
  by_cases h0:0<s.size
  · obtain⟨g,cap,rfl,_,_⟩:=h.form h0
    have hr:=run_convert_bytes_arg (P:=Tryz.prog) w 86 5 Tryz.underlying86 Tryz.underlying5 g 0 s.size cap (s.toList.map (fun c=>(c.toNat:Int))) (by rw[List.length_map];exact bytes_len s) (fun i hi=>by
      have hc:=own_cell h i (by omega)
      rw[Nat.zero_add,hc]
      unfold byteCells
      have hi':i<s.toList.length:=by rw[bytes_len];exact hi
      rw[List.getElem?_map,List.getElem?_eq_getElem hi',List.getD_eq_getElem?_getD,List.getElem?_map,List.getElem?_eq_getElem hi']
      rfl) 9 Tryz.underlying9
    rw[strOfNums_bytes]at hr
    exact hr
  · have hz:s.size=0:=by omega
    have hs:s=ByteArray.empty:=ByteArray.ext (Array.eq_empty_of_size_eq_zero hz)
    obtain⟨h1,h2⟩:=h
    rcases h2 with ⟨rfl,_⟩|⟨g,cap,cs,rfl,h3,h4,h5,h6,h7,h8⟩
    · rw[hs]
      exact run_convert_bytes_nil (P:=Tryz.prog) w 86 5 Tryz.underlying86 Tryz.underlying5 _ _ 9 Tryz.underlying9
    · have hr:=run_convert_bytes_arg (P:=Tryz.prog) w 86 5 Tryz.underlying86 Tryz.underlying5 g 0 s.size cap [] (by simp[hz]) (fun i hi=>by omega) 9 Tryz.underlying9
      rw[show strOfNums []=s by rw[hs];rfl]at hr
      exact hr
theorem plims {ls la lc lo:Int}:(plimOk ls&&plimOk la&&plimOk lc&&plimOk lo)=true↔limsOk ls la lc lo:=by
  unfold plimOk limsOk limOk
  simp[and_assoc]
theorem plims_no {ls la lc lo:Int} (h:¬ limsOk ls la lc lo):(plimOk ls&&plimOk la&&plimOk lc&&plimOk lo)=false:=by
  cases e:(plimOk ls&&plimOk la&&plimOk lc&&plimOk lo)
  · rfl
  · exact absurd (plims.1 e) h
def askW (w:World) (vl:Value) (en ce ls la lc lo:Int):World :=
  (((w.alloc (.cells #[vl,.int .i64 en,.int .i64 ce] 73)).alloc (.cells #[.int .i64 ls,.int .i64 la,.int .i64 lc,.int .i64 lo] 39)).alloc (.cells #[.int .i64 0,.slice none 0 0,.slice none 0 0,.string ⟨#[]⟩,.int .i64 0] 44)).alloc (.cells #[.int .i64 ls,.int .i64 la,.int .i64 lc,.int .i64 lo] 3)
structure AskOk (w:World) (vl:Value) (en ce ls la lc lo:Int) (W:World):Prop where
  p:Blk W w.heap.size #[vl,.int .i64 en,.int .i64 ce] 73
  l:Blk W (w.heap.size+1) #[.int .i64 ls,.int .i64 la,.int .i64 lc,.int .i64 lo] 39
  r:Blk W (w.heap.size+1+1) #[.int .i64 0,.slice none 0 0,.slice none 0 0,.string ⟨#[]⟩,.int .i64 0] 44
  a:Blk W (w.heap.size+1+1+1) #[.int .i64 ls,.int .i64 la,.int .i64 lc,.int .i64 lo] 3
  size:W.heap.size=w.heap.size+4
  below:Below w.heap.size w W
theorem ask_ok (w:World) (vl:Value) (en ce ls la lc lo:Int):AskOk w vl en ce ls la lc lo (askW w vl en ce ls la lc lo):=by
  unfold askW
  refine⟨?_,?_,?_,?_,by simp,?_⟩
  · (repeat (first|with_reducible refine Blk.drew ?_|with_reducible refine Blk.drewN ?_ _|(with_reducible refine blk_newAt _ _ ?_;(first|omega|((repeat (first|rw[World.size_up]|rw[World.size_dr]|rw[World.size_drN]))<;>omega)))|with_reducible refine Blk.alloc ?_ _));(first|done|with_reducible assumption)
  · (repeat (first|with_reducible refine Blk.drew ?_|with_reducible refine Blk.drewN ?_ _|(with_reducible refine blk_newAt _ _ ?_;(first|omega|((repeat (first|rw[World.size_up]|rw[World.size_dr]|rw[World.size_drN]))<;>omega)))|with_reducible refine Blk.alloc ?_ _));(first|done|with_reducible assumption)
  · (repeat (first|with_reducible refine Blk.drew ?_|with_reducible refine Blk.drewN ?_ _|(with_reducible refine blk_newAt _ _ ?_;(first|omega|((repeat (first|rw[World.size_up]|rw[World.size_dr]|rw[World.size_drN]))<;>omega)))|with_reducible refine Blk.alloc ?_ _));(first|done|with_reducible assumption)
  · (repeat (first|with_reducible refine Blk.drew ?_|with_reducible refine Blk.drewN ?_ _|(with_reducible refine blk_newAt _ _ ?_;(first|omega|((repeat (first|rw[World.size_up]|rw[World.size_dr]|rw[World.size_drN]))<;>omega)))|with_reducible refine Blk.alloc ?_ _));(first|done|with_reducible assumption)
  · (repeat (first|with_reducible refine below_drew ?_|with_reducible refine below_drawn ?_ _|with_reducible refine below_longer ?_ _|(with_reducible refine Below.alloc ?_ ?_ _;rotate_left;(first|omega|((repeat (first|rw[World.size_up]|rw[World.size_dr]|rw[World.size_drN]))<;>omega)))));(with_reducible exact Below.refl _ _)
theorem tableRun_no (tb g len cap:Nat) (en ce ls la lc lo fuel:Int) (w:World) (hno:¬ limsOk ls la lc lo) :
    Calls Tryz.prog 40 #[.pointer (some ⟨tb,0,none⟩),.agg #[.slice (some ⟨g,0,none⟩) len cap,.int .i64 en,.int .i64 ce],.agg #[.int .i64 ls,.int .i64 la,.int .i64 lc,.int .i64 lo],.int .i64 fuel] w fun e w'=>e=.returned (outV 6 (.slice none 0 0) (.slice none 0 0) ⟨#[]⟩ 0)∧Below w.heap.size w w':=by
  unfold outV
  have hask:=ask_ok w (.slice (some ⟨g,0,none⟩) len cap) en ce ls la lc lo
  have HAL:=V (areLimits_any (w.heap.size+1+1+1) 4 ls la lc lo _ hask.a.cell)
  rw[plims_no hno]at HAL
  have HASK:=V hask
  unfold askW at HAL HASK
  clear hask
  go_enter Tryz.func40,Tryz.ntmps40
  go_wp2_with fail
  refine (U HAL).mono ?_
  rintro e w1 ⟨rfl,hw⟩
  rw[← hw]at HASK
  clear hw HAL
  have hc:=(U HASK).r.cell
  have hf:=(U HASK).r.free
  have hl:=(U HASK).r.lt
  go_wp2_with fail
  refine bodyPost_ret (results_cell_row (P:=Tryz.prog) rfl _ _ (w.heap.size+1+1) 44 _ (0,0) _ rfl (out_set (U HASK).r rfl) Tryz.underlying44 rfl Tryz.sizeOutcome) rfl ?_
  exact⟨rfl,(((((U HASK).below.setCell (by simp;omega) _).setCell (by simp;omega) _).setCell (by simp;omega) _).setCell (by simp;omega) _).setCell (by simp;omega) _⟩
theorem out_two {w:World} {x:Nat} {er st:Int} {out:ByteArray} (h:Blk w x #[.int .i64 er,.slice none 0 0,.slice none 0 0,.string out,.int .i64 st] 44) (a b:Value) :
    Blk ((w.setCell ⟨x,1,none⟩ a).setCell ⟨x,2,none⟩ b) x #[.int .i64 er,a,b,.string out,.int .i64 st] 44:=by
  have h2:=(h.set 1 a).set 2 b
  simpa only [List.setIfInBounds_toArray,List.set_cons_succ,List.set_cons_zero] using h2
theorem out_owt {w:World} {x:Nat} {er st:Int} {out:ByteArray} (h:Blk w x #[.int .i64 er,.slice none 0 0,.slice none 0 0,.string out,.int .i64 st] 44) (a b:Value) :
    Blk ((w.setCell ⟨x,2,none⟩ b).setCell ⟨x,1,none⟩ a) x #[.int .i64 er,a,b,.string out,.int .i64 st] 44:=by
  have h2:=(h.set 2 b).set 1 a
  simpa only [List.setIfInBounds_toArray,List.set_cons_succ,List.set_cons_zero] using h2
def RunOut (w:World) (r:MS×Int×Int) (e:Ending) (w':World):Prop :=
  ∃ vS vC, e = .returned (outV r.2.1 vS vC r.1.out r.2.2) ∧
    (r.2.1=0→w'.ownsRow w.heap.size 2 1 vS r.1.stack.length (intCells r.1.stack)∧w'.ownsRow w.heap.size 2 1 vC r.1.cells.length (intCells r.1.cells)∧r.1.stack.length≤1000∧r.1.cells.length≤1000∧∀ j,vS.ownBlock=some j→vC.ownBlock≠some j) ∧
    (r.2.1≠0→vS=.slice none 0 0∧vC=.slice none 0 0)∧Below w.heap.size w w'
theorem tableRun_any (tb g cap p : Nat) (l : List (Int × Int)) (en ce ls la lc lo fuel : Int) (w : World) (hT : TabAt w tb) (ht : Lib.TabBelow Tryz.prog w.heap.size w "internal/strconv.uint64pow10" .u64 Lib.pow10Tab) (hg : ListAt w.heap.size w g l) (hok : CodeOk l) (hen : 0 ≤ en ∧ en < l.length) (hce : 0 ≤ ce ∧ ce ≤ 1000) (hyes : limsOk ls la lc lo) (hfu : fuel ≤ 1000000000) :
    Calls Tryz.prog 40 #[.pointer (some ⟨tb,0,none⟩),.agg #[.slice (some ⟨g,0,none⟩) l.length cap,.int .i64 en,.int .i64 ce],.agg #[.int .i64 ls,.int .i64 la,.int .i64 lc,.int .i64 lo],.int .i64 fuel] w (RunOut w (runM l fuel.toNat 0 (startM p ls la lc lo en ce))):=by
  have hask:=ask_ok w (.slice (some ⟨g,0,none⟩) l.length cap) en ce ls la lc lo
  have HAL:=V (areLimits_any (w.heap.size+1+1+1) 4 ls la lc lo _ hask.a.cell)
  rw[plims.2 hyes]at HAL
  have HASK:=V hask
  have hbw:=hask.below
  have hwsz:w.heap.size≤(askW w (.slice (some ⟨g,0,none⟩) l.length cap) en ce ls la lc lo).heap.size:=hbw.size
  have HT:Hid (TableOk (askW w (.slice (some ⟨g,0,none⟩) l.length cap) en ce ls la lc lo).heap.size (askW w (.slice (some ⟨g,0,none⟩) l.length cap) en ce ls la lc lo) tb):=hT.ok hbw hwsz (fun w' h'=>ht w' (hbw.trans (h'.mono hwsz)))
  have hla:=hg.to hbw
  have HG:Hid (ListAt (askW w (.slice (some ⟨g,0,none⟩) l.length cap) en ce ls la lc lo).heap.size (askW w (.slice (some ⟨g,0,none⟩) l.length cap) en ce ls la lc lo) g l):=⟨Nat.lt_of_lt_of_le hla.low hwsz,hla.cell⟩
  have HNM:=V (newMachine_any tb p g l.length cap ls la lc lo en ce (askW w (.slice (some ⟨g,0,none⟩) l.length cap) en ce ls la lc lo) hce)
  have hmo:MOk (startM p ls la lc lo en ce):=by
    obtain⟨c,rfl⟩:∃ c:Nat,ce=c:=⟨ce.toNat,by omega⟩
    exact start_mok p ls la lc lo en c (by omega) hyes
  have hro:RunOk l (startM p ls la lc lo en ce):=⟨hen,by simp[startM]⟩
  have HMO:=V hmo
  have HRO:=V hro
  have HOK:=V hok
  generalize startM p ls la lc lo en ce=m0 at *
  clear hask hbw hwsz hT ht hla hmo hro hok hg hyes hce hen
  unfold askW at HAL HASK HT HG HNM
  go_enter Tryz.func40,Tryz.ntmps40
  go_wp2_with fail
  refine (U HAL).mono ?_
  rintro e W ⟨rfl,hw⟩
  rw[← hw]at HASK HT HG HNM
  clear hw HAL
  have hcp:=(U HASK).p.cell
  have hcl:=(U HASK).l.cell
  have hl1:=(U HASK).p.lt
  have hl2:=(U HASK).l.lt
  go_wp2_with fail
  refine (U HNM).mono ?_
  rintro e w1 ⟨b,rfl,hpm,hb1⟩
  have HRUN:=V (pmRun_any W.heap.size b tb g cap l m0 w1 W fuel hfu hb1 (U HT) hpm (U HMO) (U HOK) (U HRO) (U HG))
  have HB1:=V hb1
  generalize runM l fuel.toNat 0 m0=res at *
  obtain⟨rm,re,rs⟩:=res
  clear hpm hb1 HNM hcp hcl hl1 hl2 HT HG HRO HMO HOK
  go_wp2_with fail
  refine (U HRUN).mono ?_
  rintro e w2 ⟨rfl,hpm,hmo,hb2⟩
  have hbB:Below W.heap.size W w2:=(U HB1).trans hb2
  obtain⟨vS,vA,vC,vE,vO,hp⟩:=hpm
  obtain⟨aS,kS,hvS⟩:=own_shape hp.oS
  obtain⟨aE,kE,hvE⟩:=own_shape hp.oE
  obtain⟨aO,kO,hvO⟩:=own_shape hp.oO
  subst hvS hvE hvO
  have hsm1:rm.stack.length≤1000:=by have:=hmo.stack;have:=hmo.lims;omega
  have hsm2:rm.cells.length≤1000:=hmo.cells
  have hoS:=hp.oS
  have hoE:=hp.oE
  have hap:∀ j,(Value.slice aS rm.stack.length kS).ownBlock=some j→(Value.slice aE rm.cells.length kE).ownBlock≠some j:=by
    intro j h1 h2
    have:=hp.owned.apart 0 3 _ _ j rfl rfl h1 h2
    omega
  have hcvW:∀ W',Below w2.heap.size w2 W'→(convert 86 9 (.slice aO rm.out.size kO)).run Tryz.prog W'=.ok (.string rm.out) W':=fun W' hW=>conv_out W' W.heap.size _ rm.out (hp.below hW).oO
  have hcv0:=hcvW w2 (Below.refl _ _)
  have hcv1:=hcvW w2.drew (below_drew (Below.refl _ _))
  have hcv2:=hcvW (w2.alloc (.cells #[.int .i64 0,.slice none 0 0,.slice none 0 0,.string ⟨#[]⟩,.int .i64 0] 44)) (below_box _ _)
  have hcv3:=hcvW (w2.alloc (.cells #[.int .i64 0,.slice none 0 0,.slice none 0 0,.string ⟨#[]⟩,.int .i64 0] 44)).drew (below_drew (below_box _ _))
  have hc:=hp.blk.cell
  unfold pmArr at hc
  have hbl:=hp.blk.lt
  have hbB2:W.heap.size≤b:=hp.base
  have hrb:=(U HASK).r.below hbB (U HASK).r.lt
  have hsz:=(U HASK).size
  have HP:=V hp
  have HR:=V hrb
  have HBB:=V hbB
  have HOS:=V hoS
  have HOE:=V hoE
  have HAP:=V hap
  clear hcvW hp hrb hbB hoS hoE hap hb2 hmo HRUN HB1
  generalize hout:rm.out=out at *
  have HOUT:=V hout
  clear hout
  go_wp2_with fail
  go_cut [11] from 12 to 54 (fun s11 wc=>∃ x,s11=.pointer (some ⟨x,0,none⟩)∧Blk wc x #[.int .i64 re,.slice none 0 0,.slice none 0 0,.string out,.int .i64 rs] 44∧w2.heap.size≤x∧Below w2.heap.size w2 wc)
  case first =>
    go_region
    all_goals
      go_wp2_with fail
      go_meet
      refine⟨w2.heap.size,rfl,?_,Nat.le_refl _,?_⟩
      · (repeat (first|with_reducible refine Blk.drew ?_|with_reducible refine Blk.drewN ?_ _|(with_reducible refine blk_newAt _ _ ?_;(first|omega|((repeat (first|rw[World.size_up]|rw[World.size_dr]|rw[World.size_drN]))<;>omega)))|with_reducible refine Blk.alloc ?_ _));(first|done|with_reducible assumption)
      · (repeat (first|with_reducible refine below_drew ?_|with_reducible refine below_drawn ?_ _|with_reducible refine below_longer ?_ _|(with_reducible refine Below.alloc ?_ ?_ _;rotate_left;(first|omega|((repeat (first|rw[World.size_up]|rw[World.size_dr]|rw[World.size_drN]))<;>omega)))));(with_reducible exact Below.refl _ _)
  case rest =>
    obtain⟨x,rfl,hx,hxg,hbc⟩:=hcut
    obtain⟨w3,rfl⟩:∃ w3:World,w3=wc:=⟨_,rfl⟩
    have hr3:=(U HR).below hbc (U HR).lt
    have hcx:=hx.cell
    have hfx:=hx.free
    have hxl:=hx.lt
    have hcr:=hr3.cell
    have hfr:=hr3.free
    have hrl:=(U HR).lt
    have hxr:x≠w.heap.size+1+1:=by omega
    have hb3:Below w.heap.size w w3:=(U HASK).below.trans (((U HBB).trans (hbc.mono (U HBB).size)).mono (U HASK).below.size)
    have HX:=V hx
    have HR3:=V hr3
    have HB3:=V hb3
    by_cases he:re=0
    · subst he
      have hp3:=(U HP).below hbc
      have hc3:=hp3.blk.cell
      unfold pmArr at hc3
      have hbl3:=hp3.blk.lt
      have hxb:x≠b:=by omega
      have hnS:(Value.slice aS rm.stack.length kS).ownBlock≠some x:=fun e=>by have:=(ownsRow_lt (U HOS) e).1;omega
      have hnE:(Value.slice aE rm.cells.length kE).ownBlock≠some x:=fun e=>by have:=(ownsRow_lt (U HOE) e).1;omega
      have hrS:(Value.slice aS rm.stack.length kS).ownBlock≠some (w.heap.size+1+1):=fun e=>by have:=(ownsRow_lt (U HOS) e).2;omega
      have hrE:(Value.slice aE rm.cells.length kE).ownBlock≠some (w.heap.size+1+1):=fun e=>by have:=(ownsRow_lt (U HOE) e).2;omega
      have HS3:=V (And.intro hp3.oS hp3.oE)
      clear hc hx hr3 hb3 hbc hp3 hcv0 hcv1 hcv2 hcv3 hcr hfr
      go_wp2_with fail
      go_cut [] from 12 to 54 (fun wd=>Blk wd x #[.int .i64 0,.slice aS rm.stack.length kS,.slice aE rm.cells.length kE,.string out,.int .i64 rs] 44∧Blk wd (w.heap.size+1+1) #[.int .i64 0,.slice none 0 0,.slice none 0 0,.string ⟨#[]⟩,.int .i64 0] 44∧wd.ownsRow W.heap.size 2 1 (.slice aS rm.stack.length kS) rm.stack.length (intCells rm.stack)∧wd.ownsRow W.heap.size 2 1 (.slice aE rm.cells.length kE) rm.cells.length (intCells rm.cells)∧Below w.heap.size w wd)
      case first =>
        have hxw:w.heap.size≤x:=by omega
        have HXW:=V hxw
        have HN:=V (And.intro hnS hnE)
        have HXR:=V hxr
        clear hnS hnE hrS hrE
        go_region
        all_goals
          go_wp2_with fail
          go_meet
          refine⟨?_,?_,?_,?_,?_⟩
          · first|exact (out_two (U HX) _ _).drew|exact (out_owt (U HX) _ _).drew|exact out_two (U HX).drew _ _|exact out_owt (U HX).drew _ _
          · exact ((U HR3).drew.far (U HXR).symm _).far (U HXR).symm _
          · exact ownsRow_far (ownsRow_far (w:=w3.drew) (U HS3).1 (U HN).1 _) (U HN).1 _
          · exact ownsRow_far (ownsRow_far (w:=w3.drew) (U HS3).2 (U HN).2 _) (U HN).2 _
          · exact ((below_drew (U HB3)).setCell (U HXW) _).setCell (U HXW) _
      case rest =>
        obtain⟨d1,d2,d3,d4,d5⟩:=hcut
        have hcd:=d1.cell
        have hfd:=d1.free
        have hld:=d1.lt
        have hcr:=d2.cell
        have hfr:=d2.free
        have hrl2:=d2.lt
        have D1:=V d1
        have D2:=V d2
        have D3:=V d3
        have D4:=V d4
        have D5:=V d5
        clear d1 d2 d3 d4 d5 hcx hfx hc3
        go_wp2_with fail
        refine bodyPost_ret (results_cell_row (P:=Tryz.prog) rfl _ _ (w.heap.size+1+1) 44 _ (0,0) _ rfl (out_set (U D2) rfl) Tryz.underlying44 rfl Tryz.sizeOutcome) rfl ?_
        refine⟨.slice aS rm.stack.length kS,.slice aE rm.cells.length kE,(by show _=Ending.returned (outV _ _ _ rm.out _);rw[U HOUT];rfl),fun _=>⟨?_,?_,hsm1,hsm2,U HAP⟩,fun e=>absurd rfl e,?_⟩
        · exact ownsRow_base (ownsRow_far (ownsRow_far (ownsRow_far (ownsRow_far (ownsRow_far (U D3) hrS _) hrS _) hrS _) hrS _) hrS _) (by omega)
        · exact ownsRow_base (ownsRow_far (ownsRow_far (ownsRow_far (ownsRow_far (ownsRow_far (U D4) hrE _) hrE _) hrE _) hrE _) hrE _) (by omega)
        · exact (((((U D5).setCell (by simp;omega) _).setCell (by simp;omega) _).setCell (by simp;omega) _).setCell (by simp;omega) _).setCell (by simp;omega) _
    · have he':(re == 0)=false:=by simpa using he
      clear hc hx hr3 hb3 hbc hcv0 hcv1 hcv2 hcv3
      go_wp2_with fail
      refine bodyPost_ret (results_cell_row (P:=Tryz.prog) rfl _ _ (w.heap.size+1+1) 44 _ (0,0) _ rfl (out_set (U HR3) rfl) Tryz.underlying44 rfl Tryz.sizeOutcome) rfl ?_
      exact⟨.slice none 0 0,.slice none 0 0,(by show _=Ending.returned (outV _ _ _ rm.out _);rw[U HOUT];rfl),fun e=>absurd e he,fun _=>⟨rfl,rfl⟩,(((((U HB3).setCell (by simp;omega) _).setCell (by simp;omega) _).setCell (by simp;omega) _).setCell (by simp;omega) _).setCell (by simp;omega) _⟩
end Go.Proofs.YtmeiikjpaepogaaGreatDoor
