/- The program's options: Fold: where a jump goes in the end. -/
import Derived.Test.YtmeiikjpaepogaaGreatDoorU28
import Derived.Laws.OwnMore
import Derived.Test.YtmeiikjpaepogaaGreatDoorU27
set_option maxRecDepth 100000
set_option maxHeartbeats 8000000
namespace Go.Proofs.YtmeiikjpaepogaaGreatDoor
open Go Go.RowKit
def goalS (l:List (Int×Int)):Nat→Int→Int
  | 0,k=>k
  | n + 1, k => match l[k.toNat]? with
    | some x=>if x.1=1 then goalS l n x.2 else k
    | none=>k
theorem goal_any (ao:Option Addr) (c:Nat) (l:List (Int×Int)) (k:Int) (w:World) (hin:InL w ao l) (hn:l.length≤1000000) (hj:∀ x∈l,x.1=1→0≤x.2∧x.2<l.length) (hk:0≤k∧k<l.length) :
    Calls Tryz.prog 153 #[.slice ao l.length c,.int .i64 k] w fun e w'=>e=.returned (.int .i64 (goalS l l.length k))∧w'=w:=by
  have hnI:(l.length:Int)≤1000000:=by omega
  generalize hres:goalS l l.length k=res
  have HRES:=V hres
  have HIN:=V hin
  have HJ:=V hj
  have HKK:=V hk
  clear hin hj hres hk
  go_enter Tryz.func153,Tryz.ntmps153
  go_wp2_with fail
  go_loopw [1,7] (fun kv i wr=>∃ (n:Nat) (u:Int),i=.int .i64 n∧kv=.int .i64 u∧n≤l.length∧(0≤u∧u<l.length)∧goalS l (l.length-n) u=res∧wr=w) (fun _ i _=>l.length-(intOf i).toNat)
  case atStart=>exact⟨0,k,rfl,rfl,Nat.zero_le _,U HKK,U HRES,rfl⟩
  case round =>
    obtain⟨n,u,rfl,rfl,hnl,hu,hrun,hw⟩:=hrel
    obtain rfl:=hw.symm
    clear hw
    by_cases hlt:n<l.length
    · obtain⟨un,rfl⟩:∃ un:Nat,u=un:=⟨u.toNat,by omega⟩
      obtain⟨x,hx⟩:∃ x,l[un]? = some x:=⟨_,List.getElem?_eq_getElem (by omega)⟩
      obtain⟨g,off,rfl,hgl,c1,c2⟩:=in_at (U HIN) hx
      have hltI:(n:Int)<l.length:=by omega
      have e:l.length-n=(l.length-(n+1))+1:=by omega
      rw[e]at hrun
      unfold goalS at hrun
      simp only[Int.toNat_natCast,hx]at hrun
      have hxm:=List.mem_of_getElem? hx
      by_cases h1:x.1=1
      · rw[if_pos h1]at hrun
        have hnx:=U HJ x hxm h1
        rw[h1]at c1
        have HRUN:=V hrun
        clear hrun hx e hxm h1
        go_wp2_with fail
        go_roundw
        case rel=>exact⟨n+1,x.2,by go_num,rfl,by omega,hnx,U HRUN,trivial⟩
        case measure=>simp[intOf];omega
      · rw[if_neg h1]at hrun
        have h1':(x.1 != 1)=true:=by simpa using h1
        subst hrun
        clear hx e hxm h1
        go_wp2_with fail
        go_ret
        exact⟨rfl,rfl⟩
    · have hkk:n=l.length:=by omega
      subst hkk
      rw[Nat.sub_self]at hrun
      unfold goalS at hrun
      subst hrun
      go_wp2_with fail
      go_ret
      exact⟨rfl,rfl⟩
def renS (nums:List Int) (x:Int×Int):Int×Int:=if namesS x.1=true then (x.1,nums.getD x.2.toNat 0) else x
def renamedS (nums:List Int) (row:List (Int×Int)):List (Int×Int):=row.map (renS nums)
theorem renamed_any (q cq c:Nat) (ao:Option Addr) (nums:List Int) (row:List (Int×Int)) (w:World) (hq:IntsAt w q nums) (hin:InL w ao row) (hn:row.length≤1000000∧nums.length≤1000000) (hj:∀ x∈row,namesS x.1=true→0≤x.2∧x.2<nums.length) :
    Calls Tryz.prog 157 #[.slice (some ⟨q,0,none⟩) nums.length cq,.slice ao row.length c] w (RowOut w (renamedS nums row)):=by
  have hnI:(row.length:Int)≤1000000∧(nums.length:Int)≤1000000:=by omega
  have hmk:=run_make2 row.length (by omega)
  have hrow0:=made_row w row.length (by omega)
  have hb0:=below_box w (.cells (madeCells #[.int .i64 0,.int .i64 0] (row.length * 2)) 65)
  have HROW0:=V hrow0
  have HB0:=V hb0
  have HQ:=V hq
  have HIN:=V hin
  have HJ:=V hj
  obtain⟨f,hf⟩:∃ f:Nat→Int×Int,f=fun i=>renS nums (row.getD i (0,0)):=⟨_,rfl⟩
  have HF:Hid (∀ i x,row[i]? = some x→f i=renS nums x):=fun i x hx=>by rw[hf];simp[List.getD,hx]
  clear hrow0 hb0 hq hf hin hj
  go_enter Tryz.func157,Tryz.ntmps157
  go_wp2_with fail
  go_loopw [13] (fun i wr=>∃ k:Nat,i=.int .i64 k∧k≤row.length∧wr.ownsRow w.heap.size 65 2 (.slice (some ⟨w.heap.size,0,none⟩) row.length row.length) row.length (instrCells (fillS f row.length k))∧Below w.heap.size w wr) (fun i _=>row.length-(intOf i).toNat)
  case atStart=>exact⟨0,rfl,Nat.zero_le _,by rw[fillS_zero];exact U HROW0,U HB0⟩
  case round =>
    clear hmk
    obtain⟨k,rfl,hk,hrow,hbw⟩:=hrel
    have HROW:=V hrow
    have HBW:=V hbw
    by_cases hlt:k<row.length
    · obtain⟨x,hx⟩:∃ x,row[k]? = some x:=⟨_,List.getElem?_eq_getElem hlt⟩
      obtain⟨g,off,rfl,hgl,c1,c2⟩:=in_at ((U HIN).below hbw) hx
      have hltI:(k:Int)<row.length:=by omega
      have hbN:Below w.heap.size w (wr.alloc (.cells #[.int .i64 x.1,.int .i64 x.2] 65)):=hbw.trans ((below_box wr _).mono hbw.size)
      have HBN:=V hbN
      have HNM:=V (namesIns_any x.1 (wr.alloc (.cells #[.int .i64 x.1,.int .i64 x.2] 65)))
      have hown1:=ownsRow_alloc hrow (.cells #[.int .i64 x.1,.int .i64 x.2] 65)
      have hX:=fillS_at f row.length k k hlt
      have k1:=own_cell hown1 (k * 2) (by omega)
      have k2:=own_cell hown1 (k * 2+1) (by omega)
      rw[(instrCells_at _ _ _ hX).1]at k1
      rw[(instrCells_at _ _ _ hX).2]at k2
      have hfree:=own_free hown1
      have hgl2:=(ownsRow_lt hown1 (k:=w.heap.size) rfl).1
      have HOWN1:=V hown1
      have HNX:=V (fillS_next f row.length k hlt)
      have HFK:=V (U HF k x hx)
      have HX:=V hX
      have hjx:=U HJ x (List.mem_of_getElem? hx)
      have hbx:=Blk.new wr #[.int .i64 x.1,.int .i64 x.2] 65
      have hneq:w.heap.size<wr.heap.size:=(ownsRow_lt hrow (k:=w.heap.size) rfl).1
      have hcx:=hbx.cell
      have hfx:=hbx.free
      have hlx:=hbx.lt
      have HBX:=V hbx
      clear hrow hbw hbN hx hX hown1 hbx
      have HQ1:=V (U HQ)
      go_wp2_with fail
      refine (U HNM).mono ?_
      rintro e w1 ⟨rfl,hw1⟩
      rw[← hw1]at HBN k1 k2 hfree hgl2 HOWN1 hcx hfx hlx HBX
      clear hw1 HNM c1 c2
      by_cases hnm:namesS x.1=true
      · have hxr:=hjx hnm
        obtain⟨un,hun⟩:∃ un:Nat,x.2=un:=⟨x.2.toNat,by omega⟩
        obtain⟨p,hp⟩:∃ p,nums[un]? = some p:=⟨_,List.getElem?_eq_getElem (by omega)⟩
        have hcq:w1.cell? ⟨q,un,none⟩=some (.int .i64 p):=by
          rw[(U HBN).cell (by simpa using (U HQ).1)]
          exact (U HQ).2 un p hp
        have hql:q<w1.heap.size:=by have:=(U HQ).1;have:=(U HBN).size;omega
        have HFP:Hid (f k=(x.1,p)):=by
          have:=U HFK
          unfold renS at this
          rw[if_pos hnm,hun,Int.toNat_natCast]at this
          exact V (by simpa [List.getD,hp] using this)
        have hunI:(un:Int)<nums.length:=by omega
        rw[hnm]
        rw[hun]at hcx
        generalize x.1=xo at *
        clear hp hjx HFK hxr hun HJ HF
        go_wp2_with fail
        go_roundw
        case rel =>
          refine⟨k+1,by go_num,by omega,?_,(((U HBN).setCell (by simp;omega) _).setCell (Nat.le_refl _) _).setCell (Nat.le_refl _) _⟩
          have h1:=own_set (own_set (ownsRow_far (U HOWN1) (a:=⟨wr.heap.size,1,none⟩) (by simp[Value.ownBlock];omega) (.int .i64 p)) (k * 2) (.int .i64 xo)) (k * 2+1) (.int .i64 p)
          rw[instr_set2 _ k _ (U HX) xo p]at h1
          rw[U HNX,U HFP]
          exact h1
        case measure=>simp[intOf];omega
      · have hnf:namesS x.1=false:=by simpa using hnm
        have HFP:Hid (f k=(x.1,x.2)):=by
          have:=U HFK
          unfold renS at this
          rw[if_neg hnm]at this
          exact this
        rw[hnf]
        generalize x.1=xo at *
        generalize x.2=xa at *
        clear hjx HFK HJ HF
        go_wp2_with fail
        go_roundw
        case rel =>
          refine⟨k+1,by go_num,by omega,?_,((U HBN).setCell (Nat.le_refl _) _).setCell (Nat.le_refl _) _⟩
          have h1:=own_set (own_set (U HOWN1) (k * 2) (.int .i64 xo)) (k * 2+1) (.int .i64 xa)
          rw[instr_set2 _ k _ (U HX) xo xa]at h1
          rw[U HNX,U HFP]
          exact h1
        case measure=>simp[intOf];omega
    · have hkk:k=row.length:=by omega
      subst hkk
      have he:=fillS_all row (renS nums) f (U HF)
      have HE:=V he
      clear hrow hbw he
      go_wp2_with fail
      go_ret
      have el:(renamedS nums row).length=row.length:=List.length_map ..
      refine⟨some ⟨w.heap.size,0,none⟩,row.length,by rw[el];rfl,?_,U HBW⟩
      unfold OwnI
      rw[el]
      unfold renamedS
      rw[← U HE]
      exact U HROW
def boolCells (b:List Bool):List Value:=b.map Value.bool
def OwnB (B:Nat) (w:World) (g:Nat) (b:List Bool):Prop:=w.ownsRow B 4 1 (.slice (some ⟨g,0,none⟩) b.length b.length) b.length (boolCells b)
theorem Tryz.infoBool:(Tryz.prog.info? 4).map (fun i=>(i.zero,i.size,i.bytes))=some (some (.bool false),1,1):=by kernel_rfl
theorem run_makeB (n:Nat) (hn:n≤17592186044416) (w:World) :
    (Instr.makeSlice 182 (.int .i64 (n:Int)) (.int .i64 (n:Int))).run Tryz.prog w=.ok (.slice (some ⟨w.heap.size,0,none⟩) n n) (w.alloc (.cells (madeCells #[.bool false] (n * 1)) 4)):=by
  obtain⟨iI,hiI,hzI0,hzI1,hzI2⟩:=info_parts Tryz.infoBool
  have hr:=run_make (P:=Tryz.prog) w 182 4 iI _ Tryz.underlying182 hiI hzI0 .i64 .i64 n n (by omega) (Int.le_refl _) (by rw[hzI2];omega) (by omega)
  simp only[Int.toNat_natCast,hzI1]at hr
  exact hr
theorem made_bools (w:World) (n:Nat) (hn:n≤17592186044416):OwnB w.heap.size (w.alloc (.cells (madeCells #[.bool false] (n * 1)) 4)) w.heap.size (List.replicate n false):=by
  have e:madeCells #[.bool false] (n * 1)=(boolCells (List.replicate n false)).toArray:=by
    apply Array.ext'
    rw[Nat.mul_one,toList_madeCells_one]
    simp[boolCells]
  rw[e]
  refine⟨by simp[boolCells],Or.inr ⟨w.heap.size,n,_,by simp,Nat.le_refl _,Blk.new w _ _,by simp,by unfold maxLen;omega,by simp[boolCells],by simp[boolCells]⟩⟩
theorem OwnB.set {B:Nat} {w:World} {g:Nat} {b:List Bool} (h:OwnB B w g b) (j:Nat) (v:Bool):OwnB B (w.setCell ⟨g,j,none⟩ (.bool v)) g (b.set j v):=by
  unfold OwnB at h ⊢
  rw[List.length_set]
  have:=own_set h j (.bool v)
  have e:boolCells (b.set j v)=(boolCells b).set j (.bool v):=by unfold boolCells;rw[List.map_set]
  rw[e]
  exact this
theorem OwnB.cell {B:Nat} {w:World} {g:Nat} {b:List Bool} (h:OwnB B w g b) {j:Nat} {v:Bool} (hv:b[j]? = some v):w.cell? ⟨g,j,none⟩=some (.bool v):=by
  unfold OwnB at h
  have hj:=(List.getElem?_eq_some_iff.1 hv).1
  rw[own_cell h j (by omega)]
  unfold boolCells
  rw[List.getElem?_map,hv]
  rfl
theorem OwnB.free {B:Nat} {w:World} {g:Nat} {b:List Bool} (h:OwnB B w g b) (j:Nat):w.frozen? ⟨g,j,none⟩=false:=own_free h j
theorem OwnB.lt {B:Nat} {w:World} {g:Nat} {b:List Bool} (h:OwnB B w g b):g<w.heap.size∧B≤g:=ownsRow_lt h (k:=g) rfl
theorem OwnB.base {B B':Nat} {w:World} {g:Nat} {b:List Bool} (h:OwnB B w g b) (hb:B'≤B):OwnB B' w g b:=ownsRow_base h hb
theorem OwnB.alloc {B:Nat} {w:World} {g:Nat} {b:List Bool} (h:OwnB B w g b) (o:Obj):OwnB B (w.alloc o) g b:=ownsRow_alloc h o
def begStep (b:List Bool) (i:Nat) (x:Int×Int):List Bool :=
  let c:=if namesS x.1=true then b.set x.2.toNat true else b
  if namesS x.1=true∨(x.1=1∨x.1=4∨x.1=5) then c.set (i+1) true else c
def begTo (l:List (Int×Int)) (en:Nat):Nat→List Bool
  | 0=>((List.replicate (l.length+1) false).set 0 true).set en true
  | k + 1 => match l[k]? with
    | some x=>begStep (begTo l en k) k x
    | none=>begTo l en k
def begS (l:List (Int×Int)) (en:Nat):List Bool:=begTo l en l.length
theorem begStep_len (b:List Bool) (i:Nat) (x:Int×Int):(begStep b i x).length=b.length:=by
  unfold begStep
  simp only
  split<;>split<;>simp
theorem begTo_len (l:List (Int×Int)) (en k:Nat):(begTo l en k).length=l.length+1:=by
  induction k with
  | zero=>simp[begTo]
  | succ k ih =>
    unfold begTo
    split
    · rw[begStep_len,ih]
    · exact ih
theorem beginnings_any (ao:Option Addr) (c en:Nat) (ce:Int) (l:List (Int×Int)) (w:World) (hin:InL w ao l) (hn:l.length≤100000) (hen:en<l.length) (hj:∀ x∈l,namesS x.1=true→0≤x.2∧x.2<l.length) :
    Calls Tryz.prog 155 #[.agg #[.slice ao l.length c,.int .i64 en,.int .i64 ce]] w fun e w'=>∃ g,e=.returned (.slice (some ⟨g,0,none⟩) (begS l en).length (begS l en).length)∧OwnB w.heap.size w' g (begS l en)∧Below w.heap.size w w':=by
  have hnI:(l.length:Int)≤100000:=by omega
  have henI:(en:Int)<l.length:=by omega
  have hP:=Blk.new w #[.slice ao l.length c,.int .i64 en,.int .i64 ce] 73
  have hbP:=below_box w (.cells #[.slice ao l.length c,.int .i64 en,.int .i64 ce] 73)
  have hmk:=run_makeB (l.length+1) (by omega)
  rw[show ((l.length+1:Nat):Int)=(l.length:Int)+1 by omega]at hmk
  have hB0:=made_bools (w.alloc (.cells #[.slice ao l.length c,.int .i64 en,.int .i64 ce] 73)) (l.length+1) (by omega)
  have hb1:=hbP.trans ((below_box (w.alloc (.cells #[.slice ao l.length c,.int .i64 en,.int .i64 ce] 73)) (.cells (madeCells #[.bool false] ((l.length+1) * 1)) 4)).mono hbP.size)
  have hP1:=hP.alloc (.cells (madeCells #[.bool false] ((l.length+1) * 1)) 4)
  have hsz:(w.alloc (.cells #[.slice ao l.length c,.int .i64 en,.int .i64 ce] 73)).heap.size=w.heap.size+1:=by simp
  rw[hsz]at hB0
  simp only[Nat.mul_one]at hB0 hb1 hP1
  have HB0:=V hB0
  have HB1:=V hb1
  have HP1:=V hP1
  have HIN:=V hin
  have HJ:=V hj
  clear hP hbP hB0 hb1 hP1 hin hj
  go_enter Tryz.func155,Tryz.ntmps155
  go_wp2_with fail
  generalize (w.alloc (.cells #[.slice ao l.length c,.int .i64 en,.int .i64 ce] 73)).alloc (.cells (madeCells #[.bool false] (l.length+1)) 4)=W at *
  have hcP:=(U HP1).cell
  have hlP:=(U HP1).lt
  have hc0:W.cell? ⟨w.heap.size+1,0,none⟩=some (.bool false):=(U HB0).cell (j:=0) (by simp)
  have hce:W.cell? ⟨w.heap.size+1,en,none⟩=some (.bool false):=(U HB0).cell (j:=en) (by rw[List.getElem?_replicate,if_pos (by omega)])
  have hfr:=(U HB0).free
  have hgl:=(U HB0).lt.1
  clear hmk hsz
  go_cut [] from 11 to 17 (fun wc=>∃ n,wc=((W.setCell ⟨w.heap.size+1,0,none⟩ (.bool true)).setCell ⟨w.heap.size+1,en,none⟩ (.bool true)).drewN n)
  case first =>
    by_cases h0:en=0
    · subst h0
      go_region
      all_goals
        go_wp2_with fail
        go_meet
        exact⟨_,rfl⟩
    · go_region
      all_goals
        go_wp2_with fail
        go_meet
        exact⟨_,rfl⟩
  case rest =>
    obtain⟨n,rfl⟩:=hcut
    have HB2:Hid (OwnB w.heap.size (((W.setCell ⟨w.heap.size+1,0,none⟩ (.bool true)).setCell ⟨w.heap.size+1,en,none⟩ (.bool true)).drewN n) (w.heap.size+1) (begTo l en 0)):=by
      have:=(((U HB0).set 0 true).set en true).base (Nat.le_succ w.heap.size)
      exact this
    have HW2:Hid (Below w.heap.size w (((W.setCell ⟨w.heap.size+1,0,none⟩ (.bool true)).setCell ⟨w.heap.size+1,en,none⟩ (.bool true)).drewN n)):=below_drawn (((U HB1).setCell (by simp) _).setCell (by simp) _) n
    have hP2:Blk (((W.setCell ⟨w.heap.size+1,0,none⟩ (.bool true)).setCell ⟨w.heap.size+1,en,none⟩ (.bool true)).drewN n) w.heap.size #[.slice ao l.length c,.int .i64 en,.int .i64 ce] 73:=(((U HP1).far (a:=⟨w.heap.size+1,0,none⟩) (by simp) _).far (a:=⟨w.heap.size+1,en,none⟩) (by simp) _).drewN n
    clear hcP hlP hc0 hce hfr hgl HB0 HB1 HP1
    generalize ((W.setCell ⟨w.heap.size+1,0,none⟩ (.bool true)).setCell ⟨w.heap.size+1,en,none⟩ (.bool true)).drewN n=W2 at *
    have hcP:=hP2.cell
    have hlP:=hP2.lt
    clear hP2
    go_wp2_with fail
    go_loopw [20] (fun i wr=>∃ k:Nat,i=.int .i64 k∧k≤l.length∧OwnB w.heap.size wr (w.heap.size+1) (begTo l en k)∧Below w.heap.size w wr) (fun i _=>l.length-(intOf i).toNat)
    case atStart=>exact⟨0,rfl,Nat.zero_le _,U HB2,U HW2⟩
    case round =>
      clear hcP hlP
      obtain⟨k,rfl,hk,hown,hbw⟩:=hrel
      have HOWN:=V hown
      have HBW:=V hbw
      by_cases hlt:k<l.length
      · obtain⟨x,hx⟩:∃ x,l[k]? = some x:=⟨_,List.getElem?_eq_getElem hlt⟩
        obtain⟨g,off,rfl,hgl,c1,c2⟩:=in_at ((U HIN).below hbw) hx
        have hltI:(k:Int)<l.length:=by omega
        have HNX:Hid (begTo l en (k+1)=begStep (begTo l en k) k x):=by
          show begTo l en (k+1)=_
          rw[begTo,hx]
        have hlen:=begTo_len l en k
        have hjx:=U HJ x (List.mem_of_getElem? hx)
        obtain⟨x1,x2⟩:=x
        simp only at c1 c2 hjx
        have HBN:Hid (Below w.heap.size w (wr.alloc (.cells #[.int .i64 x1,.int .i64 x2] 65))):=hbw.trans ((below_box wr _).mono hbw.size)
        have HN1:=V (fun W=>namesIns_any x1 W)
        have HG1:=V (fun W=>goesOn_any x1 W)
        have HO1:=V (hown.alloc (.cells #[.int .i64 x1,.int .i64 x2] 65))
        have hbx:=Blk.new wr #[.int .i64 x1,.int .i64 x2] 65
        have HBX:=V hbx
        have hgw:=hown.lt.1
        clear hown hbw hx hbx
        generalize hb:begTo l en k=b at *
        clear hb
        go_wp2_with fail
        refine (U HN1 _).mono ?_
        rintro e w1 ⟨rfl,hw1⟩
        rw[← hw1]at HBN HO1 HBX
        clear hw1 c1 c2
        have hcx:=(U HBX).cell
        have hlx:=(U HBX).lt
        by_cases hnm:namesS x1=true
        · have hxr:=hjx hnm
          obtain⟨un,rfl⟩:∃ un:Nat,x2=un:=⟨x2.toNat,by omega⟩
          obtain⟨v,hv⟩:∃ v,b[un]? = some v:=⟨_,List.getElem?_eq_getElem (by omega)⟩
          have hcv:=(U HO1).cell hv
          have hfv:=(U HO1).free
          have hgv:=(U HO1).lt.1
          have hunI:(un:Int)<(l.length:Int)+1:=by omega
          rw[hnm]
          clear hv
          go_wp2_with fail
          refine (U HN1 _).mono ?_
          rintro e w2 ⟨rfl,hw2⟩
          have HO2:Hid (OwnB w.heap.size w2 (w.heap.size+1) (b.set un true)):=by rw[hw2];exact (U HO1).set un true
          have HBN2:Hid (Below w.heap.size w w2):=by rw[hw2];exact (U HBN).setCell (by simp) _
          obtain⟨v2,hv2⟩:∃ v,(b.set un true)[k+1]? = some v:=⟨_,List.getElem?_eq_getElem (by rw[List.length_set];omega)⟩
          have hcv2:=(U HO2).cell hv2
          have hfv2:=(U HO2).free
          have hgv2:=(U HO2).lt.1
          rw[hnm]
          clear hw2 hcv hfv hgv hcx hlx HN1 HG1 hv2
          go_wp2_with fail
          go_roundw
          case rel =>
            refine⟨k+1,by go_num,by omega,?_,(U HBN2).setCell (by simp) _⟩
            rw[U HNX]
            unfold begStep
            simp only[hnm,if_true,true_or,Int.toNat_natCast]
            exact (U HO2).set (k+1) true
          case measure=>simp[intOf];omega
        · have hnf:namesS x1=false:=by simpa using hnm
          rw[hnf]
          go_wp2_with fail
          refine (U HN1 _).mono ?_
          rintro e w2 ⟨rfl,hw2⟩
          obtain rfl:=hw2.symm
          clear hw2
          rw[hnf]
          go_wp2_with fail
          refine (U HG1 _).mono ?_
          rintro e w2 ⟨rfl,hw2⟩
          obtain rfl:=hw2.symm
          clear hw2 HN1 HG1
          by_cases hend:x1=1∨x1=4∨x1=5
          · have hde:decide (x1=1∨x1=4∨x1=5)=true:=decide_eq_true hend
            rw[hde]
            obtain⟨v2,hv2⟩:∃ v,b[k+1]? = some v:=⟨_,List.getElem?_eq_getElem (by omega)⟩
            have hcv2:=(U HO1).cell hv2
            have hfv2:=(U HO1).free
            have hgv2:=(U HO1).lt.1
            clear hv2 hde
            go_wp2_with fail
            go_roundw
            case rel =>
              refine⟨k+1,by go_num,by omega,?_,(U HBN).setCell (by simp) _⟩
              rw[U HNX]
              unfold begStep
              simp only[hnf,hend,or_true,if_true]
              exact (U HO1).set (k+1) true
            case measure=>simp[intOf];omega
          · have hde:decide (x1=1∨x1=4∨x1=5)=false:=decide_eq_false hend
            rw[hde]
            clear hde
            go_wp2_with fail
            go_roundw
            case rel =>
              refine⟨k+1,by go_num,by omega,?_,U HBN⟩
              rw[U HNX]
              unfold begStep
              simp only[hnf,hend]
              exact U HO1
            case measure=>simp[intOf];omega
      · have hkk:k=l.length:=by omega
        subst hkk
        have el:(begS l en).length=l.length+1:=begTo_len l en l.length
        clear hown hbw
        go_wp2_with fail
        go_ret
        exact⟨w.heap.size+1,by rw[el];rfl,U HOWN,U HBW⟩
theorem TabAt.below {w w':World} {tb:Nat} (h:TabAt w tb) (hb:Below w.heap.size w w'):TabAt w' tb:=by
  obtain⟨cs,h1,h2,h3⟩:=h
  exact⟨cs,h1.below hb h1.lt,h2.keep (KeepT.ofBelow hb),fun op a b=>(h3 op a b).keep (KeepT.ofBelow hb)⟩
theorem change_small (op:Nat) (h:op<33):(0≤(changeS op).1∧(changeS op).1≤3)∧(0≤(changeS op).2∧(changeS op).2≤3):=by
  have e:changeS op=(((entS op).1:Int),((entS op).2.1:Int)):=by
    unfold changeS
    rw[if_pos (by omega),Int.toNat_natCast]
  have:=ent_small op h
  rw[e]
  simp only
  omega
def knownStep (k:Int×Int) (c:Int×Int):Int×Int:=(max k.1 c.1+(c.2-c.1),max k.2 (c.2-c.1)-(c.2-c.1))
def knownTo (row:List (Int×Int)):Nat→Int×Int
  | 0=>(0,0)
  | n + 1 => match row[n]? with
    | some x=>knownStep (knownTo row n) (changeS x.1)
    | none=>knownTo row n
def knownS (row:List (Int×Int)):Int×Int:=knownTo row row.length
theorem knownTo_small (row:List (Int×Int)) (h:∀ x∈row,0≤x.1∧x.1≤32) (n:Nat):(0≤(knownTo row n).1∧(knownTo row n).1≤3 * n)∧(0≤(knownTo row n).2∧(knownTo row n).2≤3 * n):=by
  induction n with
  | zero=>simp[knownTo]
  | succ n ih =>
    unfold knownTo
    split
    next x hx =>
      have hx1:=h x (List.mem_of_getElem? hx)
      have e:x.1=((x.1.toNat:Nat):Int):=by omega
      have:=change_small x.1.toNat (by omega)
      rw[← e]at this
      unfold knownStep
      simp only
      omega
    next=>omega
def FoldAt (w:World) (fb tb:Nat) (rv:Value):Prop:=Blk w fb #[.pointer (some ⟨tb,0,none⟩),rv] 203∧TabAt w tb
theorem FoldAt.below {w w':World} {fb tb:Nat} {rv:Value} (h:FoldAt w fb tb rv) (hb:Below w.heap.size w w'):FoldAt w' fb tb rv:=⟨h.1.below hb h.1.lt,h.2.below hb⟩
theorem Tryz.name248 : (Tryz.f248.name == "runtime.NumGoroutine") = false := by kernel_rfl
theorem Tryz.body248:Tryz.f248.body.isNone=false:=by kernel_rfl
theorem Tryz.sizeKnown:(Tryz.prog.info? 277).map (fun i=>i.size)=some 2:=by kernel_rfl
theorem knownBehind_any (fb tb:Nat) (rv:Value) (ao:Option Addr) (c:Nat) (row:List (Int×Int)) (w:World) (hf:FoldAt w fb tb rv) (hin:InL w ao row) (hn:row.length≤100000) (hops:∀ x∈row,0≤x.1∧x.1≤32) :
    Calls Tryz.prog 240 #[.pointer (some ⟨fb,0,none⟩),.slice ao row.length c] w fun e w'=>e=.returned (.agg #[.int .i64 (knownS row).1,.int .i64 (knownS row).2])∧Below w.heap.size w w':=by
  have hnI:(row.length:Int)≤100000:=by omega
  have hb0:=below_box2 w (.cells #[.int .i64 0,.int .i64 0] 277) (.cells #[.int .i64 0,.int .i64 0] 277)
  have hk0:=blk_two w (.cells #[.int .i64 0,.int .i64 0] 277) #[.int .i64 0,.int .i64 0] 277
  have hr0:Blk ((w.alloc (.cells #[.int .i64 0,.int .i64 0] 277)).alloc (.cells #[.int .i64 0,.int .i64 0] 277)) w.heap.size #[.int .i64 0,.int .i64 0] 277:=(Blk.new w _ _).alloc _
  have HB0:=V hb0
  have HK0:=V hk0
  have HR0:=V hr0
  have HF:=V hf
  have HIN:=V hin
  have HOPS:=V hops
  clear hb0 hk0 hr0 hf hin hops
  go_enter Tryz.func240,Tryz.ntmps240
  go_wp2_with fail
  go_loopw [12] (fun i wr=>∃ k:Nat,i=.int .i64 k∧k≤row.length∧Blk wr (w.heap.size+1) #[.int .i64 (knownTo row k).1,.int .i64 (knownTo row k).2] 277∧Blk wr w.heap.size #[.int .i64 0,.int .i64 0] 277∧Below w.heap.size w wr) (fun i _=>row.length-(intOf i).toNat)
  case atStart=>exact⟨0,rfl,Nat.zero_le _,U HK0,U HR0,U HB0⟩
  case round =>
    obtain⟨k,rfl,hk,hkn,hrs,hbw⟩:=hrel
    have HKN:=V hkn
    have HRS:=V hrs
    have HBW:=V hbw
    by_cases hlt:k<row.length
    · obtain⟨x,hx⟩:∃ x,row[k]? = some x:=⟨_,List.getElem?_eq_getElem hlt⟩
      obtain⟨g,off,rfl,hgl,c1,c2⟩:=in_at ((U HIN).below hbw) hx
      have hltI:(k:Int)<row.length:=by omega
      have hxo:=U HOPS x (List.mem_of_getElem? hx)
      have HNX:Hid (knownTo row (k+1)=knownStep (knownTo row k) (changeS x.1)):=by
        show knownTo row (k+1)=_
        rw[knownTo,hx]
      have hsm:=knownTo_small row (U HOPS) k
      obtain⟨x1,x2⟩:=x
      simp only at c1 c2 hxo HNX
      obtain⟨op,rfl⟩:∃ op:Nat,x1=op:=⟨x1.toNat,by omega⟩
      have hcs:=change_small op (by omega)
      have hbx:=Blk.new wr #[.int .i64 op,.int .i64 x2] 65
      have hbN:Below wr.heap.size wr (wr.alloc (.cells #[.int .i64 op,.int .i64 x2] 65)):=below_box wr _
      have HBX:=V hbx
      have HBN:=V hbN
      have HFO:Hid (∀ W,Below wr.heap.size wr W→FoldAt W fb tb rv):=fun W hW=>((U HF).below (U HBW)).below hW
      have HCH:Hid (∀ W,Below wr.heap.size wr W→Calls Tryz.prog 248 #[.pointer (some ⟨tb,0,none⟩),.int .i64 op] W fun e w'=>e=.returned (.agg #[.int .i64 (changeS op).1,.int .i64 (changeS op).2])∧Below W.heap.size W w'):=fun W hW=>change_any tb op W (U HFO W hW).2 (Or.inl (by omega))
      clear hkn hrs hbw hx hbx hbN
      generalize hkt:knownTo row k=kt at *
      clear hkt
      generalize hct:changeS op=ct at *
      clear hct
      obtain⟨k1,k2⟩:=kt
      obtain⟨t,gv⟩:=ct
      simp only at hsm hcs HCH HKN
      have hfb:=(U HFO _ (U HBN)).1
      have hcf:=hfb.cell
      have hlf:=hfb.lt
      go_wp2_with fail
      generalize hW0:wr.alloc (.cells #[.int .i64 op,.int .i64 x2] 65)=W0 at *
      have hcx:=(U HBX).cell
      have hlx:=(U HBX).lt
      have hWs:wr.heap.size<W0.heap.size:=hlx
      have HCH0:Hid (∀ W,Below W0.heap.size W0 W→Calls Tryz.prog 248 #[.pointer (some ⟨tb,0,none⟩),.int .i64 op] W fun e w'=>e=.returned (.agg #[.int .i64 t,.int .i64 gv])∧Below W.heap.size W w'):=fun W hW=>U HCH W ((U HBN).trans (hW.mono (by omega)))
      clear hW0 hfb c1 c2
      go_cut [8] from 13 to 42 (fun s8 wc=>∃ q,s8=.pointer (some ⟨q,0,none⟩)∧Blk wc q #[.int .i64 t,.int .i64 gv] 107∧W0.heap.size≤q∧Below W0.heap.size W0 wc)
      case first =>
        go_region_law (first
          | (refine step_call rfl 248 #[.tmp 19,.tmp 21] #[82,3] rfl Tryz.func248 Tryz.name248 Tryz.body248 #[.pointer (some ⟨tb,0,none⟩),.int .i64 op] (by first|(simp[Act.eval];done)|rfl) (U HCH0 _ (by (repeat (first|with_reducible refine below_drew ?_|with_reducible refine below_drawn ?_ _|with_reducible refine below_longer ?_ _|(with_reducible refine Below.alloc ?_ ?_ _;rotate_left;(first|omega|((repeat (first|rw[World.size_up]|rw[World.size_dr]|rw[World.size_drN]))<;>omega)))));(with_reducible exact Below.refl _ _))) ?_;rintro e w1 ⟨rfl,h1⟩;refine⟨_,rfl,?_⟩;have hjb:Blk w1 W0.heap.size #[.int .i64 0,.int .i64 0] 107:=Blk.below (by (repeat (first|with_reducible refine Blk.drew ?_|with_reducible refine Blk.drewN ?_ _|(with_reducible refine blk_newAt _ _ ?_;(first|omega|((repeat (first|rw[World.size_up]|rw[World.size_dr]|rw[World.size_drN]))<;>omega)))|with_reducible refine Blk.alloc ?_ _));(first|done|with_reducible assumption)) h1 (by simp);have hcj:=hjb.cell;have hfj:=hjb.free;have hlj:=hjb.lt;have HJ:=V hjb;clear hjb;have H1:Hid (Below W0.heap.size W0 w1):=Below.trans (by (repeat (first|with_reducible refine below_drew ?_|with_reducible refine below_drawn ?_ _|with_reducible refine below_longer ?_ _|(with_reducible refine Below.alloc ?_ ?_ _;rotate_left;(first|omega|((repeat (first|rw[World.size_up]|rw[World.size_dr]|rw[World.size_drN]))<;>omega)))));(with_reducible exact Below.refl _ _)) (h1.mono (by simp));clear h1)
          | (refine step_call rfl 248 #[.tmp 19,.tmp 21] #[82,3] rfl Tryz.func248 Tryz.name248 Tryz.body248 #[.pointer (some ⟨tb,0,none⟩),.int .i64 op] (by first|(simp[Act.eval];done)|rfl) (U HCH0 _ (by (repeat (first|with_reducible refine below_drew ?_|with_reducible refine below_drawn ?_ _|with_reducible refine below_longer ?_ _|(with_reducible refine Below.alloc ?_ ?_ _;rotate_left;(first|omega|((repeat (first|rw[World.size_up]|rw[World.size_dr]|rw[World.size_drN]))<;>omega)))));(with_reducible exact Below.refl _ _))) ?_;rintro e w1 ⟨rfl,h1⟩;refine⟨_,rfl,?_⟩;have H1:Hid (Below W0.heap.size W0 w1):=Below.trans (by (repeat (first|with_reducible refine below_drew ?_|with_reducible refine below_drawn ?_ _|with_reducible refine below_longer ?_ _|(with_reducible refine Below.alloc ?_ ?_ _;rotate_left;(first|omega|((repeat (first|rw[World.size_up]|rw[World.size_dr]|rw[World.size_drN]))<;>omega)))));(with_reducible exact Below.refl _ _)) (h1.mono (by simp));clear h1))
        all_goals
          go_wp2_with fail
          go_meet
          first
          | exact⟨_,rfl,Blk.new _ _ _,(U H1).size,(U H1).trans ((below_box _ _).mono (U H1).size)⟩
          | exact⟨_,rfl,two_cells (U HJ) rfl,Nat.le_refl _,((U H1).setCell (Nat.le_refl _) _).setCell (Nat.le_refl _) _⟩
      case rest =>
        obtain⟨q,rfl,hq,hqg,hbc⟩:=hcut
        obtain⟨w3,rfl⟩:∃ w3:World,w3=wc:=⟨_,rfl⟩
        have hb3:Below wr.heap.size wr w3:=(U HBN).trans (hbc.mono (by omega))
        have hkn3:=(U HKN).below hb3 (U HKN).lt
        have hrs3:=(U HRS).below hb3 (U HRS).lt
        have hcq:=hq.cell
        have hlq:=hq.lt
        have hck:=hkn3.cell
        have hfk:=hkn3.free
        have hlk:=hkn3.lt
        have HK3:=V hkn3
        have HR3:=V hrs3
        have HB3:Hid (Below w.heap.size w w3):=(U HBW).trans (hb3.mono (U HBW).size)
        clear hq hbc hb3 hkn3 hrs3 hcf hlf hcx hlx HCH HCH0
        go_wp2_with fail
        go_roundw
        case rel =>
          refine⟨k+1,by go_num,by omega,?_,(((U HR3).far (a:=⟨w.heap.size+1,0,none⟩) (by simp) _).far (a:=⟨w.heap.size+1,1,none⟩) (by simp) _),((U HB3).setCell (by simp) _).setCell (by simp) _⟩
          rw[U HNX]
          exact two_cells (U HK3) rfl
        case measure=>simp[intOf];omega
    · have hkk:k=row.length:=by omega
      subst hkk
      have hck:=hkn.cell
      have hlk:=hkn.lt
      have hcr:=hrs.cell
      have hfr:=hrs.free
      have hlr:=hrs.lt
      clear hkn hrs hbw
      go_wp2_with fail
      refine bodyPost_ret (results_cell_row (P:=Tryz.prog) rfl _ _ w.heap.size 277 _ (0,0) _ rfl (two_cells (U HRS) rfl) Tryz.underlying277 rfl Tryz.sizeKnown) rfl ?_
      exact⟨rfl,((U HBW).setCell (Nat.le_refl _) _).setCell (Nat.le_refl _) _⟩
end Go.Proofs.YtmeiikjpaepogaaGreatDoor
