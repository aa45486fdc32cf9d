/- The program's options: Fold, Super: where blocks begin. -/
import Derived.Test.YtmeiikjpaepogaaGreatDoorN27
import Derived.Laws.OwnMore
import Derived.Test.YtmeiikjpaepogaaGreatDoorN26
set_option maxRecDepth 100000
set_option maxHeartbeats 8000000
namespace Go.Proofs.YtmeiikjpaepogaaGreatDoor
open Go Go.RowKit
def boolCells (b:List Bool):List Value:=b.map Value.bool
def OwnB (B:Nat) (w:World) (g:Nat) (b:List Bool):Prop:=w.ownsRow B 4 1 (.slice (some ⟨g,0,none⟩) b.length b.length) b.length (boolCells b)
theorem Tryz.infoBool:(Tryz.prog.info? 4).map (fun i=>(i.zero,i.size,i.bytes))=some (some (.bool false),1,1):=by kernel_rfl
theorem run_makeB (n:Nat) (hn:n≤17592186044416) (w:World) :
    (Instr.makeSlice 182 (.int .i64 (n:Int)) (.int .i64 (n:Int))).run Tryz.prog w=.ok (.slice (some ⟨w.heap.size,0,none⟩) n n) (w.alloc (.cells (madeCells #[.bool false] (n * 1)) 4)):=by
  obtain⟨iI,hiI,hzI0,hzI1,hzI2⟩:=info_parts Tryz.infoBool
  have hr:=run_make (P:=Tryz.prog) w 182 4 iI _ Tryz.underlying182 hiI hzI0 .i64 .i64 n n (by omega) (Int.le_refl _) (by rw[hzI2];omega) (by omega)
  simp only[Int.toNat_natCast,hzI1]at hr
  exact hr
theorem made_bools (w:World) (n:Nat) (hn:n≤17592186044416):OwnB w.heap.size (w.alloc (.cells (madeCells #[.bool false] (n * 1)) 4)) w.heap.size (List.replicate n false):=by
  have e:madeCells #[.bool false] (n * 1)=(boolCells (List.replicate n false)).toArray:=by
    apply Array.ext'
    rw[Nat.mul_one,toList_madeCells_one]
    simp[boolCells]
  rw[e]
  refine⟨by simp[boolCells],Or.inr ⟨w.heap.size,n,_,by simp,Nat.le_refl _,Blk.new w _ _,by simp,by unfold maxLen;omega,by simp[boolCells],by simp[boolCells]⟩⟩
theorem OwnB.set {B:Nat} {w:World} {g:Nat} {b:List Bool} (h:OwnB B w g b) (j:Nat) (v:Bool):OwnB B (w.setCell ⟨g,j,none⟩ (.bool v)) g (b.set j v):=by
  unfold OwnB at h ⊢
  rw[List.length_set]
  have:=own_set h j (.bool v)
  have e:boolCells (b.set j v)=(boolCells b).set j (.bool v):=by unfold boolCells;rw[List.map_set]
  rw[e]
  exact this
theorem OwnB.cell {B:Nat} {w:World} {g:Nat} {b:List Bool} (h:OwnB B w g b) {j:Nat} {v:Bool} (hv:b[j]? = some v):w.cell? ⟨g,j,none⟩=some (.bool v):=by
  unfold OwnB at h
  have hj:=(List.getElem?_eq_some_iff.1 hv).1
  rw[own_cell h j (by omega)]
  unfold boolCells
  rw[List.getElem?_map,hv]
  rfl
theorem OwnB.free {B:Nat} {w:World} {g:Nat} {b:List Bool} (h:OwnB B w g b) (j:Nat):w.frozen? ⟨g,j,none⟩=false:=own_free h j
theorem OwnB.lt {B:Nat} {w:World} {g:Nat} {b:List Bool} (h:OwnB B w g b):g<w.heap.size∧B≤g:=ownsRow_lt h (k:=g) rfl
theorem OwnB.base {B B':Nat} {w:World} {g:Nat} {b:List Bool} (h:OwnB B w g b) (hb:B'≤B):OwnB B' w g b:=ownsRow_base h hb
theorem OwnB.alloc {B:Nat} {w:World} {g:Nat} {b:List Bool} (h:OwnB B w g b) (o:Obj):OwnB B (w.alloc o) g b:=ownsRow_alloc h o
def begStep (b:List Bool) (i:Nat) (x:Int×Int):List Bool :=
  let c:=if namesS x.1=true then b.set x.2.toNat true else b
  if namesS x.1=true∨(x.1=1∨x.1=4∨x.1=5) then c.set (i+1) true else c
def begTo (l:List (Int×Int)) (en:Nat):Nat→List Bool
  | 0=>((List.replicate (l.length+1) false).set 0 true).set en true
  | k + 1 => match l[k]? with
    | some x=>begStep (begTo l en k) k x
    | none=>begTo l en k
def begS (l:List (Int×Int)) (en:Nat):List Bool:=begTo l en l.length
theorem begStep_len (b:List Bool) (i:Nat) (x:Int×Int):(begStep b i x).length=b.length:=by
  unfold begStep
  simp only
  split<;>split<;>simp
theorem begTo_len (l:List (Int×Int)) (en k:Nat):(begTo l en k).length=l.length+1:=by
  induction k with
  | zero=>simp[begTo]
  | succ k ih =>
    unfold begTo
    split
    · rw[begStep_len,ih]
    · exact ih
theorem beginnings_any (ao:Option Addr) (c en:Nat) (ce:Int) (l:List (Int×Int)) (w:World) (hin:InL w ao l) (hn:l.length≤100000) (hen:en<l.length) (hj:∀ x∈l,namesS x.1=true→0≤x.2∧x.2<l.length) :
    Calls Tryz.prog 155 #[.agg #[.slice ao l.length c,.int .i64 en,.int .i64 ce]] w fun e w'=>∃ g,e=.returned (.slice (some ⟨g,0,none⟩) (begS l en).length (begS l en).length)∧OwnB w.heap.size w' g (begS l en)∧Below w.heap.size w w':=by
  have hnI:(l.length:Int)≤100000:=by omega
  have henI:(en:Int)<l.length:=by omega
  have hP:=Blk.new w #[.slice ao l.length c,.int .i64 en,.int .i64 ce] 73
  have hbP:=below_box w (.cells #[.slice ao l.length c,.int .i64 en,.int .i64 ce] 73)
  have hmk:=run_makeB (l.length+1) (by omega)
  rw[show ((l.length+1:Nat):Int)=(l.length:Int)+1 by omega]at hmk
  have hB0:=made_bools (w.alloc (.cells #[.slice ao l.length c,.int .i64 en,.int .i64 ce] 73)) (l.length+1) (by omega)
  have hb1:=hbP.trans ((below_box (w.alloc (.cells #[.slice ao l.length c,.int .i64 en,.int .i64 ce] 73)) (.cells (madeCells #[.bool false] ((l.length+1) * 1)) 4)).mono hbP.size)
  have hP1:=hP.alloc (.cells (madeCells #[.bool false] ((l.length+1) * 1)) 4)
  have hsz:(w.alloc (.cells #[.slice ao l.length c,.int .i64 en,.int .i64 ce] 73)).heap.size=w.heap.size+1:=by simp
  rw[hsz]at hB0
  simp only[Nat.mul_one]at hB0 hb1 hP1
  have HB0:=V hB0
  have HB1:=V hb1
  have HP1:=V hP1
  have HIN:=V hin
  have HJ:=V hj
  clear hP hbP hB0 hb1 hP1 hin hj
  go_enter Tryz.func155,Tryz.ntmps155
  go_wp2_with fail
  generalize (w.alloc (.cells #[.slice ao l.length c,.int .i64 en,.int .i64 ce] 73)).alloc (.cells (madeCells #[.bool false] (l.length+1)) 4)=W at *
  have hcP:=(U HP1).cell
  have hlP:=(U HP1).lt
  have hc0:W.cell? ⟨w.heap.size+1,0,none⟩=some (.bool false):=(U HB0).cell (j:=0) (by simp)
  have hce:W.cell? ⟨w.heap.size+1,en,none⟩=some (.bool false):=(U HB0).cell (j:=en) (by rw[List.getElem?_replicate,if_pos (by omega)])
  have hfr:=(U HB0).free
  have hgl:=(U HB0).lt.1
  clear hmk hsz
  go_cut [] from 11 to 17 (fun wc=>∃ n,wc=((W.setCell ⟨w.heap.size+1,0,none⟩ (.bool true)).setCell ⟨w.heap.size+1,en,none⟩ (.bool true)).drewN n)
  case first =>
    by_cases h0:en=0
    · subst h0
      go_region
      all_goals
        go_wp2_with fail
        go_meet
        exact⟨_,rfl⟩
    · go_region
      all_goals
        go_wp2_with fail
        go_meet
        exact⟨_,rfl⟩
  case rest =>
    obtain⟨n,rfl⟩:=hcut
    have HB2:Hid (OwnB w.heap.size (((W.setCell ⟨w.heap.size+1,0,none⟩ (.bool true)).setCell ⟨w.heap.size+1,en,none⟩ (.bool true)).drewN n) (w.heap.size+1) (begTo l en 0)):=by
      have:=(((U HB0).set 0 true).set en true).base (Nat.le_succ w.heap.size)
      exact this
    have HW2:Hid (Below w.heap.size w (((W.setCell ⟨w.heap.size+1,0,none⟩ (.bool true)).setCell ⟨w.heap.size+1,en,none⟩ (.bool true)).drewN n)):=below_drawn (((U HB1).setCell (by simp) _).setCell (by simp) _) n
    have hP2:Blk (((W.setCell ⟨w.heap.size+1,0,none⟩ (.bool true)).setCell ⟨w.heap.size+1,en,none⟩ (.bool true)).drewN n) w.heap.size #[.slice ao l.length c,.int .i64 en,.int .i64 ce] 73:=(((U HP1).far (a:=⟨w.heap.size+1,0,none⟩) (by simp) _).far (a:=⟨w.heap.size+1,en,none⟩) (by simp) _).drewN n
    clear hcP hlP hc0 hce hfr hgl HB0 HB1 HP1
    generalize ((W.setCell ⟨w.heap.size+1,0,none⟩ (.bool true)).setCell ⟨w.heap.size+1,en,none⟩ (.bool true)).drewN n=W2 at *
    have hcP:=hP2.cell
    have hlP:=hP2.lt
    clear hP2
    go_wp2_with fail
    go_loopw [20] (fun i wr=>∃ k:Nat,i=.int .i64 k∧k≤l.length∧OwnB w.heap.size wr (w.heap.size+1) (begTo l en k)∧Below w.heap.size w wr) (fun i _=>l.length-(intOf i).toNat)
    case atStart=>exact⟨0,rfl,Nat.zero_le _,U HB2,U HW2⟩
    case round =>
      clear hcP hlP
      obtain⟨k,rfl,hk,hown,hbw⟩:=hrel
      have HOWN:=V hown
      have HBW:=V hbw
      by_cases hlt:k<l.length
      · obtain⟨x,hx⟩:∃ x,l[k]? = some x:=⟨_,List.getElem?_eq_getElem hlt⟩
        obtain⟨g,off,rfl,hgl,c1,c2⟩:=in_at ((U HIN).below hbw) hx
        have hltI:(k:Int)<l.length:=by omega
        have HNX:Hid (begTo l en (k+1)=begStep (begTo l en k) k x):=by
          show begTo l en (k+1)=_
          rw[begTo,hx]
        have hlen:=begTo_len l en k
        have hjx:=U HJ x (List.mem_of_getElem? hx)
        obtain⟨x1,x2⟩:=x
        simp only at c1 c2 hjx
        have HBN:Hid (Below w.heap.size w (wr.alloc (.cells #[.int .i64 x1,.int .i64 x2] 65))):=hbw.trans ((below_box wr _).mono hbw.size)
        have HN1:=V (fun W=>namesIns_any x1 W)
        have HG1:=V (fun W=>goesOn_any x1 W)
        have HO1:=V (hown.alloc (.cells #[.int .i64 x1,.int .i64 x2] 65))
        have hbx:=Blk.new wr #[.int .i64 x1,.int .i64 x2] 65
        have HBX:=V hbx
        have hgw:=hown.lt.1
        clear hown hbw hx hbx
        generalize hb:begTo l en k=b at *
        clear hb
        go_wp2_with fail
        refine (U HN1 _).mono ?_
        rintro e w1 ⟨rfl,hw1⟩
        rw[← hw1]at HBN HO1 HBX
        clear hw1 c1 c2
        have hcx:=(U HBX).cell
        have hlx:=(U HBX).lt
        by_cases hnm:namesS x1=true
        · have hxr:=hjx hnm
          obtain⟨un,rfl⟩:∃ un:Nat,x2=un:=⟨x2.toNat,by omega⟩
          obtain⟨v,hv⟩:∃ v,b[un]? = some v:=⟨_,List.getElem?_eq_getElem (by omega)⟩
          have hcv:=(U HO1).cell hv
          have hfv:=(U HO1).free
          have hgv:=(U HO1).lt.1
          have hunI:(un:Int)<(l.length:Int)+1:=by omega
          rw[hnm]
          clear hv
          go_wp2_with fail
          refine (U HN1 _).mono ?_
          rintro e w2 ⟨rfl,hw2⟩
          have HO2:Hid (OwnB w.heap.size w2 (w.heap.size+1) (b.set un true)):=by rw[hw2];exact (U HO1).set un true
          have HBN2:Hid (Below w.heap.size w w2):=by rw[hw2];exact (U HBN).setCell (by simp) _
          obtain⟨v2,hv2⟩:∃ v,(b.set un true)[k+1]? = some v:=⟨_,List.getElem?_eq_getElem (by rw[List.length_set];omega)⟩
          have hcv2:=(U HO2).cell hv2
          have hfv2:=(U HO2).free
          have hgv2:=(U HO2).lt.1
          rw[hnm]
          clear hw2 hcv hfv hgv hcx hlx HN1 HG1 hv2
          go_wp2_with fail
          go_roundw
          case rel =>
            refine⟨k+1,by go_num,by omega,?_,(U HBN2).setCell (by simp) _⟩
            rw[U HNX]
            unfold begStep
            simp only[hnm,if_true,true_or,Int.toNat_natCast]
            exact (U HO2).set (k+1) true
          case measure=>simp[intOf];omega
        · have hnf:namesS x1=false:=by simpa using hnm
          rw[hnf]
          go_wp2_with fail
          refine (U HN1 _).mono ?_
          rintro e w2 ⟨rfl,hw2⟩
          obtain rfl:=hw2.symm
          clear hw2
          rw[hnf]
          go_wp2_with fail
          refine (U HG1 _).mono ?_
          rintro e w2 ⟨rfl,hw2⟩
          obtain rfl:=hw2.symm
          clear hw2 HN1 HG1
          by_cases hend:x1=1∨x1=4∨x1=5
          · have hde:decide (x1=1∨x1=4∨x1=5)=true:=decide_eq_true hend
            rw[hde]
            obtain⟨v2,hv2⟩:∃ v,b[k+1]? = some v:=⟨_,List.getElem?_eq_getElem (by omega)⟩
            have hcv2:=(U HO1).cell hv2
            have hfv2:=(U HO1).free
            have hgv2:=(U HO1).lt.1
            clear hv2 hde
            go_wp2_with fail
            go_roundw
            case rel =>
              refine⟨k+1,by go_num,by omega,?_,(U HBN).setCell (by simp) _⟩
              rw[U HNX]
              unfold begStep
              simp only[hnf,hend,or_true,if_true]
              exact (U HO1).set (k+1) true
            case measure=>simp[intOf];omega
          · have hde:decide (x1=1∨x1=4∨x1=5)=false:=decide_eq_false hend
            rw[hde]
            clear hde
            go_wp2_with fail
            go_roundw
            case rel =>
              refine⟨k+1,by go_num,by omega,?_,U HBN⟩
              rw[U HNX]
              unfold begStep
              simp only[hnf,hend]
              exact U HO1
            case measure=>simp[intOf];omega
      · have hkk:k=l.length:=by omega
        subst hkk
        have el:(begS l en).length=l.length+1:=begTo_len l en l.length
        clear hown hbw
        go_wp2_with fail
        go_ret
        exact⟨w.heap.size+1,by rw[el];rfl,U HOWN,U HBW⟩
theorem TabAt.below {w w':World} {tb:Nat} (h:TabAt w tb) (hb:Below w.heap.size w w'):TabAt w' tb:=by
  obtain⟨cs,h1,h2,h3⟩:=h
  exact⟨cs,h1.below hb h1.lt,h2.keep (KeepT.ofBelow hb),fun op a b=>(h3 op a b).keep (KeepT.ofBelow hb)⟩
theorem change_small (op:Nat) (h:op<33):(0≤(changeS op).1∧(changeS op).1≤3)∧(0≤(changeS op).2∧(changeS op).2≤3):=by
  have e:changeS op=(((entS op).1:Int),((entS op).2.1:Int)):=by
    unfold changeS
    rw[if_pos (by omega),Int.toNat_natCast]
  have:=ent_small op h
  rw[e]
  simp only
  omega
def knownStep (k:Int×Int) (c:Int×Int):Int×Int:=(max k.1 c.1+(c.2-c.1),max k.2 (c.2-c.1)-(c.2-c.1))
def knownTo (row:List (Int×Int)):Nat→Int×Int
  | 0=>(0,0)
  | n + 1 => match row[n]? with
    | some x=>knownStep (knownTo row n) (changeS x.1)
    | none=>knownTo row n
def knownS (row:List (Int×Int)):Int×Int:=knownTo row row.length
theorem knownTo_small (row:List (Int×Int)) (h:∀ x∈row,0≤x.1∧x.1≤32) (n:Nat):(0≤(knownTo row n).1∧(knownTo row n).1≤3 * n)∧(0≤(knownTo row n).2∧(knownTo row n).2≤3 * n):=by
  induction n with
  | zero=>simp[knownTo]
  | succ n ih =>
    unfold knownTo
    split
    next x hx =>
      have hx1:=h x (List.mem_of_getElem? hx)
      have e:x.1=((x.1.toNat:Nat):Int):=by omega
      have:=change_small x.1.toNat (by omega)
      rw[← e]at this
      unfold knownStep
      simp only
      omega
    next=>omega
def FoldAt (w:World) (fb tb:Nat) (rv:Value):Prop:=Blk w fb #[.pointer (some ⟨tb,0,none⟩),rv] 203∧TabAt w tb
theorem FoldAt.below {w w':World} {fb tb:Nat} {rv:Value} (h:FoldAt w fb tb rv) (hb:Below w.heap.size w w'):FoldAt w' fb tb rv:=⟨h.1.below hb h.1.lt,h.2.below hb⟩
theorem Tryz.name248 : (Tryz.f248.name == "runtime.NumGoroutine") = false := by kernel_rfl
theorem Tryz.body248:Tryz.f248.body.isNone=false:=by kernel_rfl
theorem Tryz.sizeKnown:(Tryz.prog.info? 277).map (fun i=>i.size)=some 2:=by kernel_rfl
theorem knownBehind_any (fb tb:Nat) (rv:Value) (ao:Option Addr) (c:Nat) (row:List (Int×Int)) (w:World) (hf:FoldAt w fb tb rv) (hin:InL w ao row) (hn:row.length≤100000) (hops:∀ x∈row,0≤x.1∧x.1≤32) :
    Calls Tryz.prog 240 #[.pointer (some ⟨fb,0,none⟩),.slice ao row.length c] w fun e w'=>e=.returned (.agg #[.int .i64 (knownS row).1,.int .i64 (knownS row).2])∧Below w.heap.size w w':=by
  have hnI:(row.length:Int)≤100000:=by omega
  have hb0:=below_box2 w (.cells #[.int .i64 0,.int .i64 0] 277) (.cells #[.int .i64 0,.int .i64 0] 277)
  have hk0:=blk_two w (.cells #[.int .i64 0,.int .i64 0] 277) #[.int .i64 0,.int .i64 0] 277
  have hr0:Blk ((w.alloc (.cells #[.int .i64 0,.int .i64 0] 277)).alloc (.cells #[.int .i64 0,.int .i64 0] 277)) w.heap.size #[.int .i64 0,.int .i64 0] 277:=(Blk.new w _ _).alloc _
  have HB0:=V hb0
  have HK0:=V hk0
  have HR0:=V hr0
  have HF:=V hf
  have HIN:=V hin
  have HOPS:=V hops
  clear hb0 hk0 hr0 hf hin hops
  go_enter Tryz.func240,Tryz.ntmps240
  go_wp2_with fail
  go_loopw [12] (fun i wr=>∃ k:Nat,i=.int .i64 k∧k≤row.length∧Blk wr (w.heap.size+1) #[.int .i64 (knownTo row k).1,.int .i64 (knownTo row k).2] 277∧Blk wr w.heap.size #[.int .i64 0,.int .i64 0] 277∧Below w.heap.size w wr) (fun i _=>row.length-(intOf i).toNat)
  case atStart=>exact⟨0,rfl,Nat.zero_le _,U HK0,U HR0,U HB0⟩
  case round =>
    obtain⟨k,rfl,hk,hkn,hrs,hbw⟩:=hrel
    have HKN:=V hkn
    have HRS:=V hrs
    have HBW:=V hbw
    by_cases hlt:k<row.length
    · obtain⟨x,hx⟩:∃ x,row[k]? = some x:=⟨_,List.getElem?_eq_getElem hlt⟩
      obtain⟨g,off,rfl,hgl,c1,c2⟩:=in_at ((U HIN).below hbw) hx
      have hltI:(k:Int)<row.length:=by omega
      have hxo:=U HOPS x (List.mem_of_getElem? hx)
      have HNX:Hid (knownTo row (k+1)=knownStep (knownTo row k) (changeS x.1)):=by
        show knownTo row (k+1)=_
        rw[knownTo,hx]
      have hsm:=knownTo_small row (U HOPS) k
      obtain⟨x1,x2⟩:=x
      simp only at c1 c2 hxo HNX
      obtain⟨op,rfl⟩:∃ op:Nat,x1=op:=⟨x1.toNat,by omega⟩
      have hcs:=change_small op (by omega)
      have hbx:=Blk.new wr #[.int .i64 op,.int .i64 x2] 65
      have hbN:Below wr.heap.size wr (wr.alloc (.cells #[.int .i64 op,.int .i64 x2] 65)):=below_box wr _
      have HBX:=V hbx
      have HBN:=V hbN
      have HFO:Hid (∀ W,Below wr.heap.size wr W→FoldAt W fb tb rv):=fun W hW=>((U HF).below (U HBW)).below hW
      have HCH:Hid (∀ W,Below wr.heap.size wr W→Calls Tryz.prog 248 #[.pointer (some ⟨tb,0,none⟩),.int .i64 op] W fun e w'=>e=.returned (.agg #[.int .i64 (changeS op).1,.int .i64 (changeS op).2])∧Below W.heap.size W w'):=fun W hW=>change_any tb op W (U HFO W hW).2 (Or.inl (by omega))
      clear hkn hrs hbw hx hbx hbN
      generalize hkt:knownTo row k=kt at *
      clear hkt
      generalize hct:changeS op=ct at *
      clear hct
      obtain⟨k1,k2⟩:=kt
      obtain⟨t,gv⟩:=ct
      simp only at hsm hcs HCH HKN
      have hfb:=(U HFO _ (U HBN)).1
      have hcf:=hfb.cell
      have hlf:=hfb.lt
      go_wp2_with fail
      generalize hW0:wr.alloc (.cells #[.int .i64 op,.int .i64 x2] 65)=W0 at *
      have hcx:=(U HBX).cell
      have hlx:=(U HBX).lt
      have hWs:wr.heap.size<W0.heap.size:=hlx
      have HCH0:Hid (∀ W,Below W0.heap.size W0 W→Calls Tryz.prog 248 #[.pointer (some ⟨tb,0,none⟩),.int .i64 op] W fun e w'=>e=.returned (.agg #[.int .i64 t,.int .i64 gv])∧Below W.heap.size W w'):=fun W hW=>U HCH W ((U HBN).trans (hW.mono (by omega)))
      clear hW0 hfb c1 c2
      go_cut [8] from 13 to 42 (fun s8 wc=>∃ q,s8=.pointer (some ⟨q,0,none⟩)∧Blk wc q #[.int .i64 t,.int .i64 gv] 107∧W0.heap.size≤q∧Below W0.heap.size W0 wc)
      case first =>
        go_region_law (first
          | (refine step_call rfl 248 #[.tmp 19,.tmp 21] #[82,3] rfl Tryz.func248 Tryz.name248 Tryz.body248 #[.pointer (some ⟨tb,0,none⟩),.int .i64 op] (by first|(simp[Act.eval];done)|rfl) (U HCH0 _ (by (repeat (first|with_reducible refine below_drew ?_|with_reducible refine below_drawn ?_ _|with_reducible refine below_longer ?_ _|(with_reducible refine Below.alloc ?_ ?_ _;rotate_left;(first|omega|((repeat (first|rw[World.size_up]|rw[World.size_dr]|rw[World.size_drN]))<;>omega)))));(with_reducible exact Below.refl _ _))) ?_;rintro e w1 ⟨rfl,h1⟩;refine⟨_,rfl,?_⟩;have hjb:Blk w1 W0.heap.size #[.int .i64 0,.int .i64 0] 107:=Blk.below (by (repeat (first|with_reducible refine Blk.drew ?_|with_reducible refine Blk.drewN ?_ _|(with_reducible refine blk_newAt _ _ ?_;(first|omega|((repeat (first|rw[World.size_up]|rw[World.size_dr]|rw[World.size_drN]))<;>omega)))|with_reducible refine Blk.alloc ?_ _));(first|done|with_reducible assumption)) h1 (by simp);have hcj:=hjb.cell;have hfj:=hjb.free;have hlj:=hjb.lt;have HJ:=V hjb;clear hjb;have H1:Hid (Below W0.heap.size W0 w1):=Below.trans (by (repeat (first|with_reducible refine below_drew ?_|with_reducible refine below_drawn ?_ _|with_reducible refine below_longer ?_ _|(with_reducible refine Below.alloc ?_ ?_ _;rotate_left;(first|omega|((repeat (first|rw[World.size_up]|rw[World.size_dr]|rw[World.size_drN]))<;>omega)))));(with_reducible exact Below.refl _ _)) (h1.mono (by simp));clear h1)
          | (refine step_call rfl 248 #[.tmp 19,.tmp 21] #[82,3] rfl Tryz.func248 Tryz.name248 Tryz.body248 #[.pointer (some ⟨tb,0,none⟩),.int .i64 op] (by first|(simp[Act.eval];done)|rfl) (U HCH0 _ (by (repeat (first|with_reducible refine below_drew ?_|with_reducible refine below_drawn ?_ _|with_reducible refine below_longer ?_ _|(with_reducible refine Below.alloc ?_ ?_ _;rotate_left;(first|omega|((repeat (first|rw[World.size_up]|rw[World.size_dr]|rw[World.size_drN]))<;>omega)))));(with_reducible exact Below.refl _ _))) ?_;rintro e w1 ⟨rfl,h1⟩;refine⟨_,rfl,?_⟩;have H1:Hid (Below W0.heap.size W0 w1):=Below.trans (by (repeat (first|with_reducible refine below_drew ?_|with_reducible refine below_drawn ?_ _|with_reducible refine below_longer ?_ _|(with_reducible refine Below.alloc ?_ ?_ _;rotate_left;(first|omega|((repeat (first|rw[World.size_up]|rw[World.size_dr]|rw[World.size_drN]))<;>omega)))));(with_reducible exact Below.refl _ _)) (h1.mono (by simp));clear h1))
        all_goals
          go_wp2_with fail
          go_meet
          first
          | exact⟨_,rfl,Blk.new _ _ _,(U H1).size,(U H1).trans ((below_box _ _).mono (U H1).size)⟩
          | exact⟨_,rfl,two_cells (U HJ) rfl,Nat.le_refl _,((U H1).setCell (Nat.le_refl _) _).setCell (Nat.le_refl _) _⟩
      case rest =>
        obtain⟨q,rfl,hq,hqg,hbc⟩:=hcut
        obtain⟨w3,rfl⟩:∃ w3:World,w3=wc:=⟨_,rfl⟩
        have hb3:Below wr.heap.size wr w3:=(U HBN).trans (hbc.mono (by omega))
        have hkn3:=(U HKN).below hb3 (U HKN).lt
        have hrs3:=(U HRS).below hb3 (U HRS).lt
        have hcq:=hq.cell
        have hlq:=hq.lt
        have hck:=hkn3.cell
        have hfk:=hkn3.free
        have hlk:=hkn3.lt
        have HK3:=V hkn3
        have HR3:=V hrs3
        have HB3:Hid (Below w.heap.size w w3):=(U HBW).trans (hb3.mono (U HBW).size)
        clear hq hbc hb3 hkn3 hrs3 hcf hlf hcx hlx HCH HCH0
        go_wp2_with fail
        go_roundw
        case rel =>
          refine⟨k+1,by go_num,by omega,?_,(((U HR3).far (a:=⟨w.heap.size+1,0,none⟩) (by simp) _).far (a:=⟨w.heap.size+1,1,none⟩) (by simp) _),((U HB3).setCell (by simp) _).setCell (by simp) _⟩
          rw[U HNX]
          exact two_cells (U HK3) rfl
        case measure=>simp[intOf];omega
    · have hkk:k=row.length:=by omega
      subst hkk
      have hck:=hkn.cell
      have hlk:=hkn.lt
      have hcr:=hrs.cell
      have hfr:=hrs.free
      have hlr:=hrs.lt
      clear hkn hrs hbw
      go_wp2_with fail
      refine bodyPost_ret (results_cell_row (P:=Tryz.prog) rfl _ _ w.heap.size 277 _ (0,0) _ rfl (two_cells (U HRS) rfl) Tryz.underlying277 rfl Tryz.sizeKnown) rfl ?_
      exact⟨rfl,((U HBW).setCell (Nat.le_refl _) _).setCell (Nat.le_refl _) _⟩
def OwnC (B:Nat) (w:World) (v:Value) (l:List (Int×Int)):Prop:=w.ownsRow B 107 2 v l.length (instrCells l)
theorem OwnC.below {B:Nat} {w w':World} {v:Value} {l:List (Int×Int)} (h:OwnC B w v l) (hb:Below w.heap.size w w'):OwnC B w' v l:=by
  unfold OwnC at h ⊢
  exact (LawStill.ofBelow hb).row h
theorem OwnC.pairs {B:Nat} {w:World} {ao:Option Addr} {n c:Nat} {l:List (Int×Int)} (h:OwnC B w (.slice ao n c) l):PairsAt w ao l:=by
  unfold OwnC at h
  obtain⟨a,k,hv⟩:=own_shape h
  simp only[Value.slice.injEq]at hv
  obtain⟨rfl,rfl,rfl⟩:=hv
  rcases h.2 with ⟨e1,e2⟩|⟨g,cap,cur,e,_⟩
  · have:l.length=0:=by
      simp only[Value.slice.injEq]at e1
      exact e1.2.1
    exact Or.inl (List.length_eq_zero_iff.1 this)
  · simp only[Value.slice.injEq]at e
    obtain⟨rfl,_,rfl⟩:=e
    refine Or.inr ⟨g,rfl,(ownsRow_lt h (k:=g) rfl).1,fun k x hx=>?_⟩
    have hk:k<l.length:=(List.getElem?_eq_some_iff.1 hx).1
    have c1:=own_cell h (k * 2) (by omega)
    have c2:=own_cell h (k * 2+1) (by omega)
    rw[(instrCells_at _ _ _ hx).1]at c1
    rw[(instrCells_at _ _ _ hx).2]at c2
    exact⟨c1,c2⟩
theorem Tryz.infoChange:(Tryz.prog.info? 107).map (fun i=>(i.zero,i.size,i.bytes))=some (some (.agg #[.int .i64 0,.int .i64 0]),2,16):=by kernel_rfl
def chRow (row:List (Int×Int)):List (Int×Int):=row.map (fun x=>changeS x.1)
theorem chRow_app (a b:List (Int×Int)):chRow (a++b)=chRow a++chRow b:=List.map_append ..
theorem chRow_next {row:List (Int×Int)} {k:Nat} {x:Int×Int} (h:row[k]? = some x):chRow (row.take (k+1))=chRow (row.take k)++[changeS x.1]:=by
  rw[List.take_add_one,h,chRow_app]
  rfl
theorem chRow_len (row:List (Int×Int)):(chRow row).length=row.length:=List.length_map ..
theorem changesOf_any (fb tb q cq:Nat) (rv:Value) (rs:List (Option Addr×Nat×List (Int×Int))) (w:World) (hf:FoldAt w fb tb rv) (hq:RowsAt w q rs) (hn:rs.length≤100) (hs:(catS rs).length≤1000) (hops:∀ x∈catS rs,0≤x.1∧x.1≤32) :
    Calls Tryz.prog 246 #[.pointer (some ⟨fb,0,none⟩),.slice (some ⟨q,0,none⟩) rs.length cq] w fun e w'=>∃ ao c,e=.returned (.slice ao (chRow (catS rs)).length c)∧OwnC w.heap.size w' (.slice ao (chRow (catS rs)).length c) (chRow (catS rs))∧Below w.heap.size w w':=by
  obtain⟨iI,hiI,hzI0,hzI1,hzI2⟩:=info_parts Tryz.infoChange
  have hnI:(rs.length:Int)≤100:=by omega
  have HF:=V hf
  have HQ:=V hq
  have HOPS:=V hops
  have hql:=hq.1
  clear hf hq hops
  go_enter Tryz.func246,Tryz.ntmps246
  go_wp2_with fail
  go_loopw [5,12] (fun lv i wr=>∃ (k:Nat) (ao:Option Addr) (c:Nat),i=.int .i64 k∧k≤rs.length∧lv=.slice ao (chRow (catS (rs.take k))).length c∧OwnC w.heap.size wr (.slice ao (chRow (catS (rs.take k))).length c) (chRow (catS (rs.take k)))∧Below w.heap.size w wr) (fun _ i _=>rs.length-(intOf i).toNat)
  case atStart=>exact⟨0,none,0,rfl,Nat.zero_le _,rfl,⟨rfl,Or.inl ⟨rfl,rfl⟩⟩,Below.refl _ _⟩
  case round =>
    obtain⟨k,ao,c,rfl,hk,rfl,hown,hbw⟩:=hrel
    have HOWN:=V hown
    have HBW:=V hbw
    by_cases hlt:k<rs.length
    · obtain⟨r,hr⟩:∃ r,rs[k]? = some r:=⟨_,List.getElem?_eq_getElem hlt⟩
      obtain⟨hc,hin⟩:=((U HQ).below hbw).2 k r hr
      have hqb:=((U HQ).below hbw).1
      have hltI:(k:Int)<rs.length:=by omega
      have HNX:=V (catS_next hr)
      have e1:=congrArg List.length (catS_next hr)
      rw[List.length_append]at e1
      have e2:=catS_le rs (k+1)
      have hro:∀ x∈r.2.2,0≤x.1∧x.1≤32:=fun x hx=>U HOPS x (List.mem_flatMap.2 ⟨r,List.mem_of_getElem? hr,hx⟩)
      have HRO:=V hro
      have HIN:=V hin
      have HIN0:=V ((U HQ).2 k r hr).2
      have hlb:(chRow (catS (rs.take k))).length+r.2.2.length≤1000:=by rw[chRow_len];omega
      obtain⟨ra,rc,row⟩:=r
      simp only at hc HIN HIN0 HNX HRO hlb
      generalize hcl:catS (rs.take k)=cl at *
      have hrI:(row.length:Int)≤1000:=by omega
      obtain⟨w0,hw0⟩:∃ w0:World,w0=wr:=⟨_,rfl⟩
      rw[hw0.symm]at HOWN HBW HIN hc hqb ⊢
      clear e1 e2 hr hown hbw hin hro hcl hw0
      go_wp2_with fail
      go_loopw [5,18] (fun lv i wr=>∃ (j:Nat) (ao:Option Addr) (c:Nat),i=.int .i64 j∧j≤row.length∧lv=.slice ao (chRow cl++chRow (row.take j)).length c∧OwnC w.heap.size wr (.slice ao (chRow cl++chRow (row.take j)).length c) (chRow cl++chRow (row.take j))∧Below w.heap.size w wr∧InL wr ra row) (fun _ i _=>row.length-(intOf i).toNat)
      case atStart=>exact⟨0,ao,c,rfl,Nat.zero_le _,by simp[chRow],by simpa [chRow] using U HOWN,U HBW,U HIN⟩
      case round =>
        obtain⟨j,ao,c,rfl,hj,rfl,hown,hbw,hin⟩:=hrel
        have HOWN:=V hown
        have HBW:=V hbw
        have HIN:=V hin
        by_cases hlj:j<row.length
        · obtain⟨x,hx⟩:∃ x,row[j]? = some x:=⟨_,List.getElem?_eq_getElem hlj⟩
          obtain⟨g,off,rfl,hgl,c1,c2⟩:=in_at hin hx
          have hljI:(j:Int)<row.length:=by omega
          have hxo:=U HRO x (List.mem_of_getElem? hx)
          have HNJ:=V (chRow_next hx)
          have hle:(chRow cl++chRow (row.take j)).length<1000:=by rw[List.length_append,chRow_len (row.take j),List.length_take];omega
          obtain⟨x1,x2⟩:=x
          simp only at c1 c2 hxo HNJ
          obtain⟨op,rfl⟩:∃ op:Nat,x1=op:=⟨x1.toNat,by omega⟩
          have hbN:Below wr.heap.size wr (wr.alloc (.cells #[.int .i64 op,.int .i64 x2] 65)):=below_box wr _
          have HBX:=V (Blk.new wr #[.int .i64 op,.int .i64 x2] 65)
          have HBN:=V hbN
          have HFO:Hid (∀ W,Below wr.heap.size wr W→FoldAt W fb tb rv):=fun W hW=>((U HF).below (U HBW)).below hW
          have HCH:Hid (∀ W,Below wr.heap.size wr W→Calls Tryz.prog 248 #[.pointer (some ⟨tb,0,none⟩),.int .i64 op] W fun e w'=>e=.returned (.agg #[.int .i64 (changeS op).1,.int .i64 (changeS op).2])∧Below W.heap.size W w'):=fun W hW=>change_any tb op W (U HFO W hW).2 (Or.inl (by omega))
          clear hown hbw hx hbN hin
          generalize hl1:chRow cl++chRow (row.take j)=l1 at *
          have HL1:=V hl1
          generalize hct:changeS op=ct at *
          clear hct hl1
          obtain⟨t,gv⟩:=ct
          simp only at HCH
          have hfb:=(U HFO _ (U HBN)).1
          have hcf:=hfb.cell
          have hlf:=hfb.lt
          have hws:=(U HBW).size
          go_wp2_with fail
          generalize hW0:wr.alloc (.cells #[.int .i64 op,.int .i64 x2] 65)=W0 at *
          have hcx:=(U HBX).cell
          have hlx:=(U HBX).lt
          have HCH0:Hid (∀ W,Below W0.heap.size W0 W→Calls Tryz.prog 248 #[.pointer (some ⟨tb,0,none⟩),.int .i64 op] W fun e w'=>e=.returned (.agg #[.int .i64 t,.int .i64 gv])∧Below W.heap.size W w'):=fun W hW=>U HCH W ((U HBN).trans (hW.mono (by omega)))
          clear hW0 hfb c1 c2
          go_region_law (first
              | (refine step_call rfl 248 #[.tmp 26,.tmp 28] #[82,3] rfl Tryz.func248 Tryz.name248 Tryz.body248 #[.pointer (some ⟨tb,0,none⟩),.int .i64 op] (by first|(simp[Act.eval];done)|rfl) (U HCH0 _ (by (repeat (first|with_reducible refine below_drew ?_|with_reducible refine below_drawn ?_ _|with_reducible refine below_longer ?_ _|(with_reducible refine Below.alloc ?_ ?_ _;rotate_left;(first|omega|((repeat (first|rw[World.size_up]|rw[World.size_dr]|rw[World.size_drN]))<;>omega)))));(with_reducible exact Below.refl _ _))) ?_;rintro e w1 ⟨rfl,h1⟩;refine⟨_,rfl,?_⟩;have H1:Hid (Below W0.heap.size W0 w1):=Below.trans (by (repeat (first|with_reducible refine below_drew ?_|with_reducible refine below_drawn ?_ _|with_reducible refine below_longer ?_ _|(with_reducible refine Below.alloc ?_ ?_ _;rotate_left;(first|omega|((repeat (first|rw[World.size_up]|rw[World.size_dr]|rw[World.size_drN]))<;>omega)))));(with_reducible exact Below.refl _ _)) (h1.mono (by simp));clear h1;have H2:Hid (Below wr.heap.size wr w1):=(U HBN).trans ((U H1).mono (by omega));have HW1:=V (ownsRow_alloc ((U HOWN).below (U H2)) (.cells #[.int .i64 t,.int .i64 gv] 107));have hs1:=(U H2).size;have HS1:Hid (w.heap.size≤(w1.alloc (.cells #[.int .i64 t,.int .i64 gv] 107)).heap.size):=V (by simp;omega))
              | (refine step_append_lies _ rfl (.tmp 22) (.tmp 30) 288 rfl w.heap.size 107 iI _ 2 16 Tryz.underlying288 hiI hzI0 hzI1 hzI2 rfl (by decide) (.slice ao l1.length c) l1.length (instrCells l1) (by simp[Act.eval]) (U HW1) ⟨w1.heap.size,0,none⟩ 1 1 [.int .i64 t,.int .i64 gv] (by simp[Act.eval]) rfl (World.news_of_block (Blk.new w1 _ _)) (oneCells2 t gv) (by omega) (by unfold maxLen;omega) (by omega) (U HS1) _ rfl ?_;intro g5 cap5 w5 hown5 hgrow hat hlt1;have HO:=V hown5;have HG:=V hgrow;clear hown5 hgrow hat))
          all_goals
            go_wp2_with fail
            go_roundw
            case rel =>
              have e5:chRow cl++chRow (row.take (j+1))=l1++[(t,gv)]:=by rw[U HNJ,← List.append_assoc,U HL1]
              have el:(l1++[(t,gv)]).length=l1.length+1:=by simp
              have hb5:Below w.heap.size w w5:=(((U HBW).trans ((U H2).mono hws)).trans ((below_box w1 _).mono (by omega))).grown (U HG) (U HS1) (fun j hj=>(ownsRow_lt (U HOWN) hj).2)
              refine⟨j+1,some ⟨g5,0,none⟩,cap5,by go_num,by omega,?_,?_,?_,?_⟩
              · rw[e5,el]
              · rw[e5,el]
                unfold OwnC
                rw[el,instr_app]
                exact U HO
              · exact hb5
              · exact (U HIN0).below hb5
            case measure=>simp[intOf];omega
        · have hjj:j=row.length:=by omega
          subst hjj
          rw[List.take_length,← chRow_app]at HOWN ⊢
          clear hown hbw hin
          go_wp2_with fail
          go_roundw
          case rel =>
            refine⟨k+1,ao,c,by go_num,by omega,?_,?_,U HBW⟩
            · rw[U HNX]
            · rw[U HNX];exact U HOWN
          case measure=>simp[intOf];omega
    · have hkk:k=rs.length:=by omega
      subst hkk
      rw[List.take_length]at HOWN ⊢
      clear hown hbw
      go_wp2_with fail
      go_ret
      exact⟨ao,c,rfl,U HOWN,U HBW⟩
end Go.Proofs.YtmeiikjpaepogaaGreatDoor
