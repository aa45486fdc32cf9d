/- The program's options: Fold: foldedRow. -/
import Derived.Test.YtmeiikjpaepogaaGreatDoorE33
import Derived.Deep.AppendLies
set_option maxRecDepth 100000
set_option maxHeartbeats 16000000
namespace Go.Proofs.YtmeiikjpaepogaaGreatDoor
open Go Go.RowKit
theorem foldedRow_any (fb tb rb:Nat) (ao:Option Addr) (c:Nat) (row:List (Int×Int)) (w:World) (hf:FolderAt w fb tb rb) (hin:InL w ao row) (hn:row.length≤100000) (hcap:row.length≤c) (hok:∀ x∈row,baseOk x) :
    Calls Tryz.prog 154 #[.pointer (some ⟨fb,0,none⟩),.slice ao row.length c] w (RowOut w (doneTo row row.length)):=by
  have hnI:(row.length:Int)≤100000:=by omega
  have hcapI:(row.length:Int)≤c:=by omega
  have HF:=V hf
  have HIN:=V hin
  have HOK:=V hok
  clear hf hin hok
  go_enter Tryz.func154,Tryz.ntmps154
  go_wp2_with fail
  go_loopw [5,11] (fun v i wr=>∃ (k:Nat) (a:Option Addr) (c:Nat),i=.int .i64 k∧v=.slice a (doneTo row k).length c∧OwnI w.heap.size wr (.slice a (doneTo row k).length c) (doneTo row k)∧k≤row.length∧Below w.heap.size w wr) (fun _ i _=>row.length-(intOf i).toNat)
  case atStart=>exact⟨0,none,0,rfl,rfl,World.ownsRow_nil _ _ _ _,Nat.zero_le _,Below.refl _ _⟩
  case round =>
    obtain⟨k,a,c1,rfl,rfl,hown,hk,hbw⟩:=hrel
    have HOWN:=V hown
    have HBW:=V hbw
    by_cases hlt:k<row.length
    · obtain⟨x,hx⟩:∃ x,row[k]? = some x:=⟨_,List.getElem?_eq_getElem hlt⟩
      obtain⟨g,off,rfl,hgl,d1,d2⟩:=in_at ((U HIN).below hbw) hx
      have hltI:(k:Int)<row.length:=by omega
      have HNXT:Hid (doneTo row (k+1)=settledS ((row.drop (k+1)).take 1) ((doneTo row k).length+1) (doneTo row k++[x])):=by
        show doneTo row (k+1)=_
        rw[doneTo,hx]
      have hdl:=doneTo_len row k
      have hdo:=doneTo_ok row (U HOK) k
      have hxo:=U HOK x (List.mem_of_getElem? hx)
      obtain⟨x1,x2⟩:=x
      simp only at d1 d2
      generalize doneTo row k=dn at *
      have hb2:=below_box2 wr (.cells #[.int .i64 x1,.int .i64 x2] 65) (.cells #[.int .i64 x1,.int .i64 x2] 65)
      have HOW2:=V (hown.below hb2)
      have HIX:Hid (InL ((wr.alloc (.cells #[.int .i64 x1,.int .i64 x2] 65)).alloc (.cells #[.int .i64 x1,.int .i64 x2] 65)) (some ⟨wr.heap.size+1,0,none⟩) [(x1,x2)]):=by
        have hbx:=blk_two wr (.cells #[.int .i64 x1,.int .i64 x2] 65) #[.int .i64 x1,.int .i64 x2] 65
        refine Or.inr ⟨wr.heap.size+1,0,rfl,hbx.lt,fun j u hj=>?_⟩
        rw[hbx.cell,Nat.zero_add]
        simpa [instrCells] using hj
      have HBW2:Hid (Below w.heap.size w ((wr.alloc (.cells #[.int .i64 x1,.int .i64 x2] 65)).alloc (.cells #[.int .i64 x1,.int .i64 x2] 65))):=hbw.trans (hb2.mono hbw.size)
      have hbx:=Blk.new wr #[.int .i64 x1,.int .i64 x2] 65
      have hcx:=hbx.cell
      have hlx:=hbx.lt
      have HSET:Hid (∀ (no:Option Addr) (nc:Nat) (next:List (Int×Int)) (W:World) (a3:Option Addr) (c3:Nat),next=(row.drop (k+1)).take 1→InL w no next→Below w.heap.size w W→OwnI w.heap.size W (.slice a3 (dn++[(x1,x2)]).length c3) (dn++[(x1,x2)])→Calls Tryz.prog 204 #[.pointer (some ⟨fb,0,none⟩),.slice a3 (dn++[(x1,x2)]).length c3,.slice no next.length nc] W fun e w'=>∃ a c',e=.returned (.slice a (doneTo row (k+1)).length c')∧OwnI w.heap.size w' (.slice a (doneTo row (k+1)).length c') (doneTo row (k+1))∧Below w.heap.size w w'):=fun no nc next W a3 c3 hnx hin2 hW ho=>by
        have hl:(dn++[(x1,x2)]).length=dn.length+1:=by simp
        have:=settled_any fb tb rb a3 no c3 nc (dn++[(x1,x2)]) next w W (U HF) hW ho hin2 (by omega) (by rw[hnx,List.length_take];omega) (fun y hy=>by
          rcases List.mem_append.1 hy with h|h
          · exact hdo y h
          · simp at h;subst h;exact hxo) (fun y hy=>by
          rw[hnx]at hy
          exact U HOK y (List.mem_of_mem_drop (List.mem_of_mem_take hy)))
        rw[hl,hnx]at this
        rw[U HNXT]
        rw[hl,hnx]
        exact this
      have hk1:IntKind.i64.wrap ((k:Int)+1)=(k:Int)+1:=by rw[IntKind.wrap_i64];omega
      have hk2:IntKind.i64.wrap ((k:Int)+2)=(k:Int)+2:=by rw[IntKind.wrap_i64];omega
      clear hown hbw hb2 hbx hdo hxo
      by_cases hend:k+1<row.length
      · have hmin:min ((k:Int)+2) (row.length:Int)=(k:Int)+2:=by omega
        have hendI:(k:Int)+1<row.length:=by omega
        have hk2c:(k:Int)+2≤c:=by omega
        obtain⟨y,hy⟩:∃ y,row[k+1]? = some y:=⟨_,List.getElem?_eq_getElem hend⟩
        have HNE:Hid ([y]=(row.drop (k+1)).take 1):=by
          show [y]=_
          rw[List.take_one,List.head?_drop,hy]
          rfl
        have HIN2:Hid (InL w (some ⟨g,off+(k+1) * 2,none⟩) [y]):=by
          show InL _ _ _
          rw[U HNE]
          exact ((U HIN).drop (k+1)).take 1
        go_wp2_with (at_builtin;refine wpList_appI rfl (.tmp 26) (.tmp 28) rfl w.heap.size w _ dn [(x1,x2)] (some ⟨wr.heap.size+1,0,none⟩) 1 (by simp[Act.eval]) (by simp[Act.eval]) (U HOW2) (U HIX) (by simp;omega) (U HBW2) (U HBW2).size _ rfl ?_;intro a3 c3 w3 HO3 HB3)
        have hl:(dn++[(x1,x2)]).length=dn.length+1:=by simp
        have hl1:[y].length=1:=rfl
        have HC:=V (U HSET (some ⟨g,off+(k+1) * 2,none⟩) (c-(k+1)) [y] w3 a3 c3 (U HNE) (U HIN2) (U HB3) (U HO3))
        rw[hl,hl1]at HC
        refine (U HC).mono ?_
        rintro e w4 ⟨a4,c4,rfl,ho4,hb4⟩
        have HO4:=V ho4
        have HB4:=V hb4
        clear ho4 hb4 HC hl hl1
        go_wp2_with fail
        go_roundw
        case rel=>exact⟨k+1,a4,c4,by go_num,rfl,U HO4,by omega,U HB4⟩
        case measure=>simp[intOf];omega
      · have hmin:min ((k:Int)+2) (row.length:Int)=(k:Int)+1:=by omega
        have hk1c:(k:Int)+1≤c:=by omega
        have HNE:Hid (([]:List (Int×Int))=(row.drop (k+1)).take 1):=by
          show _=_
          rw[List.drop_of_length_le (by omega)]
          rfl
        obtain⟨ad,had⟩:∃ ad,(if c=k+1 then (some ⟨g,off,none⟩:Option Addr) else some ⟨g,off+(k+1) * 2,none⟩)=ad:=⟨_,rfl⟩
        go_wp2_with (at_builtin;refine wpList_appI rfl (.tmp 26) (.tmp 28) rfl w.heap.size w _ dn [(x1,x2)] (some ⟨wr.heap.size+1,0,none⟩) 1 (by simp[Act.eval]) (by simp[Act.eval]) (U HOW2) (U HIX) (by simp;omega) (U HBW2) (U HBW2).size _ rfl ?_;intro a3 c3 w3 HO3 HB3)
        have hl:(dn++[(x1,x2)]).length=dn.length+1:=by simp
        have hl1:([]:List (Int×Int)).length=0:=rfl
        have HC:=V (U HSET ad (c-(k+1)) [] w3 a3 c3 (U HNE) (Or.inl rfl) (U HB3) (U HO3))
        rw[hl,hl1]at HC
        refine (U HC).mono ?_
        rintro e w4 ⟨a4,c4,rfl,ho4,hb4⟩
        have HO4:=V ho4
        have HB4:=V hb4
        clear ho4 hb4 HC hl hl1
        go_wp2_with fail
        go_roundw
        case rel=>exact⟨k+1,a4,c4,by go_num,rfl,U HO4,by omega,U HB4⟩
        case measure=>simp[intOf];omega
    · have hkk:k=row.length:=by omega
      subst hkk
      clear hown hbw
      go_wp2_with fail
      go_ret
      exact⟨a,c1,rfl,U HOWN,U HBW⟩
structure BlR (B M:Nat) (w:World) (lg lc n:Nat) (rs:List LBl) (f:Nat) (a:Option Addr) (c:Nat) (row:List (Int×Int)):Prop where
  own:w.ownsRow B 161 2 (.slice (some ⟨lg,0,none⟩) (n+1) lc) (n+1) (blkCells (rs++[(f,a,c,row)]))
  rows:∀ r∈rs,RowAt lg M w r
  last:OwnI M w (.slice a row.length c) row
  low:lg<M
  size:M≤w.heap.size
  num:n=rs.length
def BlRun (B:Nat) (w:World) (lv:Value) (bs:List Blo):Prop:=(bs=[]∧lv=.slice none 0 0)∨∃ M lg lc n rs f a c row,lv=.slice (some ⟨lg,0,none⟩) (n+1) lc∧BlR B M w lg lc n rs f a c row∧rs.map LBl.blo++[(f,row)]=bs
theorem BlRun.ofR {B M:Nat} {w:World} {lg lc n:Nat} {rs:List LBl} {f:Nat} {a:Option Addr} {c:Nat} {row:List (Int×Int)} {bs:List Blo} (h:BlR B M w lg lc n rs f a c row) (hb:rs.map LBl.blo++[(f,row)]=bs):BlRun B w (.slice (some ⟨lg,0,none⟩) (n+1) lc) bs:=Or.inr ⟨M,lg,lc,n,rs,f,a,c,row,rfl,h,hb⟩
theorem BlRun.row {B:Nat} {w:World} {lv:Value} {bs:List Blo} (h:BlRun B w lv bs):∃ a n c cells,lv=.slice a n c∧n=bs.length∧w.ownsRow B 161 2 (.slice a n c) n cells:=by
  rcases h with ⟨rfl,rfl⟩|⟨M,lg,lc,n,rs,f,a,c,row,rfl,h,rfl⟩
  · exact⟨none,0,0,[],rfl,rfl,World.ownsRow_nil _ _ _ _⟩
  · exact⟨_,_,_,_,rfl,by rw[List.length_append,List.length_map,← h.num];rfl,h.own⟩
theorem BlR.next {B M:Nat} {W W2 w3:World} {lg lc n:Nat} {rs:List LBl} {f:Nat} {a:Option Addr} {c:Nat} {row:List (Int×Int)} (h:BlR B M W lg lc n rs f a c row) (x1 x2:Int) {o:Obj} (hb:Below B W2 W) (hB:B≤M)
    {g3 cap3:Nat} (hg:(W.alloc o).drew.grownBy w3 (Value.slice a row.length c).ownBlock) (ho:w3.ownsRow M 65 2 (.slice (some ⟨g3,0,none⟩) (row.length+1) cap3) (row.length+1) (instrCells row++[.int .i64 x1,.int .i64 x2])) :
    BlR B M (w3.setCell ⟨lg,n * 2+1,none⟩ (.slice (some ⟨g3,0,none⟩) (row.length+1) cap3)) lg lc n rs f (some ⟨g3,0,none⟩) cap3 (row++[(x1,x2)])∧Below B W2 (w3.setCell ⟨lg,n * 2+1,none⟩ (.slice (some ⟨g3,0,none⟩) (row.length+1) cap3)):=by
  have hM:=h.size
  have hlow:=h.low
  have b0:Below M W (W.alloc o).drew:=below_drew' ((below_box W o).mono h.size)
  have hs0:M≤(W.alloc o).drew.heap.size:=Nat.le_trans h.size b0.size
  have b1:Below M W w3:=b0.grown hg hs0 (fun j hj=>(ownsRow_lt h.last hj).2)
  have hown3:w3.ownsRow B 161 2 (.slice (some ⟨lg,0,none⟩) (n+1) lc) (n+1) (blkCells (rs++[(f,a,c,row)])):=ownsRow_of_block h.own (fun k e _=>b1.block k (by
    have:k=lg:=(Option.some.inj e).symm
    omega))
  have hBl:=(ownsRow_lt h.own (k:=lg) rfl).2
  refine⟨⟨?_,fun r hr=>((h.rows r hr).below b1).set _ _,?_,h.low,?_,h.num⟩,?_⟩
  · have hat:(rs++[(f,a,c,row)])[n]? = some (f,a,c,row):=by rw[h.num];simp
    have:=own_set hown3 (n * 2+1) (.slice (some ⟨g3,0,none⟩) (row.length+1) cap3)
    have e:=blk_set (rs++[(f,a,c,row)]) n _ hat (some ⟨g3,0,none⟩) cap3 (row++[(x1,x2)])
    have el:(row++[(x1,x2)]).length=row.length+1:=by simp
    rw[el]at e
    rw[e]at this
    have e2:(rs++[(f,a,c,row)]).set n (f,some ⟨g3,0,none⟩,cap3,row++[(x1,x2)])=rs++[(f,some ⟨g3,0,none⟩,cap3,row++[(x1,x2)])]:=by rw[h.num];simp
    simp only at this
    rw[e2]at this
    exact this
  · unfold OwnI
    have el:(row++[(x1,x2)]).length=row.length+1:=by simp
    rw[el,instr_app]
    exact ownsRow_setCell_below ho (by simpa using h.low) _
  · have:=b1.size
    simp[World.setCell]
    omega
  · exact (hb.trans (b1.mono hB)).setCell hBl _
theorem BlRun.begin {B:Nat} {W W2 w5:World} {lv:Value} {bs:List Blo} (h:BlRun B W lv bs) {o:Obj} (hb:Below B W2 W) (hB:B≤W.heap.size) {n:Nat} {cells:List Value} (hn:n=bs.length) (hcells:W.ownsRow B 161 2 lv n cells) (k:Nat)
    {g5 cap5:Nat} (hg:(W.alloc o).grownBy w5 lv.ownBlock) (ho:w5.ownsRow B 161 2 (.slice (some ⟨g5,0,none⟩) (n+1) cap5) (n+1) (cells++[.int .i64 k,.slice none 0 0])) (hat:lv.ownBlock=some g5∨g5=(W.alloc o).heap.size) (hlt:g5<w5.heap.size) :
    ∃ rs,BlR B w5.heap.size w5 g5 cap5 n rs k none 0 []∧rs.map LBl.blo=bs∧Below B W2 w5:=by
  have hbel:Below B W2 w5:=(hb.trans ((below_box W o).mono hB)).grown hg (Nat.le_trans hB (below_box W o).size) (fun j hj=>(ownsRow_lt hcells hj).2)
  have hnil:OwnI w5.heap.size w5 (.slice none ([]:List (Int×Int)).length 0) []:=World.ownsRow_nil _ _ _ _
  rcases h with ⟨rfl,rfl⟩|⟨M,lg,lc,m,rs,f,a,c,row,rfl,h,rfl⟩
  · refine⟨[],⟨?_,by simp,hnil,hlt,Nat.le_refl _,by simpa using hn⟩,rfl,hbel⟩
    have e:cells=[]:=by
      have:=hcells.1
      simp at hn
      subst hn
      exact List.length_eq_zero_iff.1 (by omega)
    subst e
    exact ho
  · have hnm:n=m+1:=by rw[hn,List.length_append,List.length_map,← h.num];rfl
    subst hnm
    have e:cells=blkCells (rs++[(f,a,c,row)]):=by
      rcases hcells.2 with ⟨e1,_⟩|⟨g1,cap1,cur1,e1,_,h1,_,_,_,t1⟩
      · simp at e1
      · rcases h.own.2 with ⟨e2,_⟩|⟨g2,cap2,cur2,e2,_,h2,_,_,_,t2⟩
        · simp at e2
        · simp only[Value.slice.injEq,Option.some.injEq,Addr.mk.injEq,and_true,true_and]at e1 e2
          obtain⟨rfl,rfl⟩:=e1
          obtain⟨rfl,rfl⟩:=e2
          rw[h1]at h2
          simp only[Option.some.injEq,Obj.cells.injEq,and_true]at h2
          rw[← t1,← t2,h2]
    subst e
    have hsz:=below_box W o
    have hal:∀ r∈rs++[(f,a,c,row)],RowAt lg W.heap.size W r:=by
      intro r hr
      rcases List.mem_append.1 hr with h1|h1
      · exact (h.rows r h1).up h.size
      · simp at h1
        subst h1
        exact RowAt.ofOwn h.last h.low
    refine⟨rs++[(f,a,c,row)],⟨?_,fun r hr=>?_,hnil,hlt,Nat.le_refl _,by rw[List.length_append,← h.num];rfl⟩,by rw[List.map_append];rfl,hbel⟩
    · rw[blkCells_app]
      exact ho
    · refine (RowAt.grown (lg':=g5) (((hal r hr).below hsz)) hsz.size hg ?_).up (Nat.le_trans hsz.size hg.size)
      rcases hat with h1|h1
      · exact Or.inl (Option.some.inj h1).symm
      · exact Or.inr (by omega)
theorem BlRun.done {B:Nat} {w:World} {lv:Value} {bs:List Blo} (h:BlRun B w lv bs) (hne:bs≠[]):∃ lg lc rs,lv=.slice (some ⟨lg,0,none⟩) rs.length lc∧BlksAt B w lg lc rs∧rs.map LBl.blo=bs:=by
  rcases h with ⟨rfl,_⟩|⟨M,lg,lc,n,rs,f,a,c,row,rfl,h,rfl⟩
  · exact absurd rfl hne
  · have el:(rs++[(f,a,c,row)]).length=n+1:=by rw[List.length_append,← h.num];rfl
    refine⟨lg,lc,rs++[(f,a,c,row)],by rw[el],⟨by rw[el];exact h.own,fun r hr=>?_⟩,by rw[List.map_append];rfl⟩
    rcases List.mem_append.1 hr with h1|h1
    · exact (h.rows r h1).up h.size
    · simp at h1
      subst h1
      exact RowAt.ofOwn h.last h.low
theorem blocksOf_any (ao:Option Addr) (c en:Nat) (ce:Int) (l:List (Int×Int)) (w:World) (hin:InL w ao l) (hn:l.length≤100000) (hen:en<l.length) (hj:∀ x∈l,namesS x.1=true→0≤x.2∧x.2<l.length) :
    Calls Tryz.prog 85 #[.agg #[.slice ao l.length c,.int .i64 en,.int .i64 ce]] w fun e w'=>∃ lg lc rs,e=.returned (.slice (some ⟨lg,0,none⟩) rs.length lc)∧BlksAt w.heap.size w' lg lc rs∧rs.map LBl.blo=blocksS l en∧Below w.heap.size w w':=by
  have hnI:(l.length:Int)≤100000:=by omega
  obtain⟨iB,hiB,hzB0,hzB1,hzB2⟩:=info_parts Tryz.infoBlock
  obtain⟨iI,hiI,hzI0,hzI1,hzI2⟩:=info_parts Tryz.infoInstr
  have hP:=Blk.new w #[.slice ao l.length c,.int .i64 en,.int .i64 ce] 73
  have hbP:=below_box w (.cells #[.slice ao l.length c,.int .i64 en,.int .i64 ce] 73)
  have HBEG:=V (beginnings_any ao c en ce l _ (hin.below hbP) hn hen hj)
  have HP:=V hP
  have HBP:=V hbP
  have HIN:=V hin
  have HFI:=V (blkTo_fine l (begS l en) (begTo_head l en l.length))
  have hbl:(begS l en).length=l.length+1:=begTo_len l en l.length
  rw[hbl]at HBEG
  have HBL:=V hbl
  have h0:=begTo_head l en l.length
  obtain⟨beg,hbeg⟩:∃ beg,beg=begS l en:=⟨_,rfl⟩
  have HRES:Hid (blocksS l en=blkTo l beg l.length):=by rw[hbeg];exact V rfl
  rw[← hbeg]at HBEG HFI HBL
  have HH0:Hid (beg.getD 0 false=true):=by rw[hbeg];exact h0
  clear hP hbP hin hj hbeg hbl h0
  go_enter Tryz.func85,Tryz.ntmps85
  go_wp2_with fail
  refine (U HBEG).mono ?_
  rintro e W2 ⟨gb,rfl,hob,hb2⟩
  have hp2:=Blk.below (U HP) hb2 (by simp)
  have HP2:=V hp2
  have HB20:Hid (Below w.heap.size w W2):=(U HBP).trans (hb2.mono (U HBP).size)
  have HOB:=V hob
  have hcp:=hp2.cell
  have hlp:=hp2.lt
  clear HBEG hob hb2 hp2 HP HBP
  go_wp2_with fail
  go_loopw [3,12] (fun lv i wr=>∃ k:Nat,i=.int .i64 k∧k≤l.length∧BlRun W2.heap.size wr lv (blkTo l beg k)∧Below W2.heap.size W2 wr) (fun _ i _=>l.length-(intOf i).toNat)
  case atStart=>exact⟨0,rfl,Nat.zero_le _,Or.inl ⟨rfl,rfl⟩,Below.refl _ _⟩
  case round =>
    clear hcp hlp
    obtain⟨k,rfl,hk,hrun,hbw⟩:=hrel
    have HRUN:=V hrun
    have HBW:=V hbw
    by_cases hlt:k<l.length
    · obtain⟨x,hx⟩:∃ x,l[k]? = some x:=⟨_,List.getElem?_eq_getElem hlt⟩
      have hin2:=(U HIN).below (U HB20)
      obtain⟨ag,aoff,rfl,hagl0,c10,c20⟩:=in_at hin2 hx
      have hltI:(k:Int)<l.length:=by omega
      have hlt1:(k:Int)<(l.length:Int)+1:=by omega
      have HNX:Hid (blkTo l beg (k+1)=blkStep (blkTo l beg k) (beg.getD k false) k x):=by
        show blkTo l beg (k+1)=_
        rw[blkTo,hx]
      have hfi:=U HFI k hk
      have HF:=V hfi
      obtain⟨b,hbk⟩:∃ b,beg[k]? = some b:=⟨_,List.getElem?_eq_getElem (by have:=U HBL;omega)⟩
      have hgd:beg.getD k false=b:=by rw[List.getD_eq_getElem?_getD,hbk];rfl
      have hcb0:=((U HOB).cell hbk)
      have hbgl:=(U HOB).lt.1
      have hcb:wr.cell? ⟨gb,k,none⟩=some (.bool b):=by rw[hbw.cell (by simpa using hbgl)];exact hcb0
      have hgbl:gb<wr.heap.size:=by have:=hbw.size;omega
      rw[hgd]at HNX
      have HK0:Hid (k=0→b=true):=fun e=>by subst e;rw[← hgd];exact U HH0
      have hsz:=hbw.size
      obtain⟨x1,x2⟩:=x
      simp only at c10 c20
      have HX:Hid (∀ W,Below W2.heap.size W2 W→(W.cell? ⟨ag,aoff+k * 2,none⟩=some (.int .i64 x1)∧W.cell? ⟨ag,aoff+k * 2+1,none⟩=some (.int .i64 x2)∧ag<W.heap.size)∧(∀ i,W.cell? ⟨w.heap.size,i,none⟩=#[Value.slice (some ⟨ag,aoff,none⟩) l.length c,.int .i64 en,.int .i64 ce][i]?)∧w.heap.size<W.heap.size):=fun W hW=>by
        have h1:=(U HP2).below hW (U HP2).lt
        refine⟨⟨?_,?_,by have:=hW.size;omega⟩,h1.cell,h1.lt⟩
        · rw[hW.cell (by simpa using hagl0)];exact c10
        · rw[hW.cell (by simpa using hagl0)];exact c20
      obtain⟨la,n0,lc0,cells,hlv,hn0,hrow⟩:=hrun.row
      have hn0k:n0≤k:=by rw[hn0];exact hfi.len
      subst hlv
      have HROW:=V hrow
      have HN0:=V hn0
      clear hbw hx hbk hgd hbgl hrow hn0 hin2 c10 c20 hagl0 hcb0 hfi
      cases b with
      | true =>
        clear hrun HK0
        have HW:=V (ownsRow_alloc (U HROW) (.cells #[.int .i64 k,.slice none 0 0] 161))
        have HNB:=V (Blk.new wr #[.int .i64 k,.slice none 0 0] 161)
        have HBS:Hid (W2.heap.size≤(wr.alloc (.cells #[.int .i64 k,.slice none 0 0] 161)).heap.size):=V (by simp;omega)
        have HRUN':Hid (BlRun W2.heap.size wr (.slice la n0 lc0) (blkTo l beg k)):=HRUN
        have hsubn:IntKind.i64.wrap ((n0:Int)+1-1)=n0:=by rw[IntKind.wrap_i64];omega
        have hnn:(n0:Int)<(n0:Int)+1:=by omega
        have hnI2:(n0:Int)≤100000:=by omega
        go_wp2_with (at_builtin;refine wpList_append_lies _ rfl (.tmp 19) (.tmp 22) 158 rfl W2.heap.size 161 iB _ 2 32 Tryz.underlying158 hiB hzB0 hzB1 hzB2 rfl (by decide) (.slice la n0 lc0) n0 cells (by simp[Act.eval]) (U HW) ⟨wr.heap.size,0,none⟩ 1 1 [.int .i64 k,.slice none 0 0] (by simp[Act.eval]) rfl (World.news_of_block (U HNB)) (oneCells_blk _ _ _ _) (by omega) (by unfold maxLen;omega) (by omega) (U HBS) _ rfl ?_;intro lg lc W hown hgrow hat hlt5;have HBN:=V (BlRun.begin (U HRUN') (U HBW) hsz (U HN0) (U HROW) k hgrow hown hat hlt5);clear hown hgrow hat)
        obtain⟨rs,hbl,hrs,hbW⟩:=U HBN
        have HBR:=V hbl
        have HBWW:=V hbW
        have HEQ:Hid (rs.map LBl.blo++[(k,([]:List (Int×Int))++[(x1,x2)])]=blkTo l beg (k+1)):=by
          show _=_
          rw[U HNX,hrs]
          unfold blkStep
          rw[if_pos rfl,addLast_snoc]
        have hBM:W2.heap.size≤W.heap.size:=hbW.size
        obtain⟨M,hM⟩:∃ M,M=W.heap.size:=⟨_,rfl⟩
        rw[← hM]at HBR hBM
        have hWM:M≤W.heap.size:=by omega
        clear HBN HRUN HRUN' HROW HW HNB HBS hbl hrs hbW hcb hgbl hM
        have hcl1:=(own_cell (U HBR).own (n0 * 2) (by omega)).trans (blkCells_at (rs++[(k,none,0,([]:List (Int×Int)))]) n0 (k,none,0,([]:List (Int×Int))) (by rw[(U HBR).num];simp)).1
        have hcl2:=(own_cell (U HBR).own (n0 * 2+1) (by omega)).trans (blkCells_at (rs++[(k,none,0,([]:List (Int×Int)))]) n0 (k,none,0,([]:List (Int×Int))) (by rw[(U HBR).num];simp)).2
        simp only at hcl1 hcl2
        have HE2:Hid ((blkCells (rs++[(k,none,0,([]:List (Int×Int)))]))[n0 * 2+1]? = some (.slice none 0 0)):=(blkCells_at (rs++[(k,none,0,([]:List (Int×Int)))]) n0 (k,none,0,([]:List (Int×Int))) (by rw[(U HBR).num];simp)).2
        have hfl:=own_free (U HBR).own
        have hll:=(ownsRow_lt (U HBR).own (k:=lg) rfl).1
        obtain⟨⟨c1,c2,hagl⟩,hcp,hlp⟩:=U HX W (U HBWW)
        have HWO:=V (ownsRow_alloc (U HBR).last (.cells #[.int .i64 x1,.int .i64 x2] 65))
        have HMS:Hid (M≤(W.alloc (.cells #[.int .i64 x1,.int .i64 x2] 65)).drew.heap.size):=V (by have:=(U HBR).size;show M≤(W.alloc _).heap.size;simp;omega)
        have HKP:Hid (∀ w3,(W.alloc (.cells #[.int .i64 x1,.int .i64 x2] 65)).drew.grownBy w3 (Value.slice none 0 0).ownBlock→w3.ownsRow W2.heap.size 161 2 (.slice (some ⟨lg,0,none⟩) (n0+1) lc) (n0+1) (blkCells (rs++[(k,none,0,([]:List (Int×Int)))]))):=fun w3 hg=>by
          refine World.ownsRow.kept (w:=(W.alloc (.cells #[.int .i64 x1,.int .i64 x2] 65)).drew) (ownsRow_alloc (U HBR).own (.cells #[.int .i64 x1,.int .i64 x2] 65)) hg (Or.inr ?_)
          intro e
          have:=(ownsRow_lt (U HBR).last (k:=lg) e.symm).2
          have:=(U HBR).low
          omega
        skip
        go_region_law (refine step_append_lies _ rfl (.tmp 33) (.tmp 39) 33 rfl M 65 iI _ 2 16 Tryz.underlying33 hiI hzI0 hzI1 hzI2 rfl (by decide) (.slice none 0 0) 0 (instrCells ([]:List (Int×Int))) (by simp[Act.eval]) (U HWO) ⟨W.heap.size,0,none⟩ 1 1 [.int .i64 x1,.int .i64 x2] (by simp[Act.eval]) rfl (World.news_of_block (Blk.new W _ _)) (oneCells2 x1 x2) (by omega) (by unfold maxLen;omega) (by omega) (U HMS) _ rfl ?_;intro g3 cap3 w3 hown3 hgrow3 hat3 hlt3;have HO3:=V hown3;have HG3:=V hgrow3;have hkeep3:=U HKP w3 hgrow3;have hc3:=(own_cell hkeep3 (n0 * 2+1) (by omega)).trans (U HE2);have hf3:=own_free hkeep3;have hl3:=(ownsRow_lt hkeep3 (k:=lg) rfl).1;clear hown3 hgrow3 hat3 hkeep3)
        all_goals
          go_wp2_with fail
          go_roundw
          case rel =>
            have hfin:=BlR.next (U HBR) x1 x2 (U HBWW) hBM (U HG3) (U HO3)
            exact⟨k+1,by go_num,by omega,BlRun.ofR hfin.1 (U HEQ),hfin.2⟩
          case measure=>simp[intOf];omega
      | false =>
        have hne:blkTo l beg k≠[]:=(U HF).some (by
          refine Nat.pos_of_ne_zero (fun e=>?_)
          have:=U HK0 e
          cases this)
        obtain⟨W,hW⟩:∃ W:World,W=wr:=⟨_,rfl⟩
        rw[hW.symm]at hrun HBW hcb hgbl hsz ⊢
        clear hW
        rcases hrun with ⟨h1,_⟩|⟨M,lg,lc,n1,rs,f,ra,rc,row,hlv,hbr,hrs⟩
        · exact absurd h1 hne
        simp only[Value.slice.injEq]at hlv
        obtain⟨rfl,rfl,rfl⟩:=hlv
        have hrl:row.length≤k:=(U HF).row (b:=(f,row)) (by rw[← hrs];simp)
        have HBR:=V hbr
        have HBWW:=HBW
        have HEQ:Hid (rs.map LBl.blo++[(f,row++[(x1,x2)])]=blkTo l beg (k+1)):=by
          show _=_
          rw[U HNX,← hrs]
          unfold blkStep
          rw[if_neg (by simp),addLast_snoc]
        have hBM:W2.heap.size≤M:=by have:=(ownsRow_lt hbr.own (k:=lg) rfl).2;have:=hbr.low;omega
        clear HRUN HROW hne hrs hbr HK0
        obtain⟨n0,hn0⟩:∃ n0,n0=n1:=⟨_,rfl⟩
        rw[← hn0]at HBR hn0k ⊢
        clear hn0
        have hn0k:n0≤k:=by omega
        have hsubn:IntKind.i64.wrap ((n0:Int)+1-1)=n0:=by rw[IntKind.wrap_i64];omega
        have hnn:(n0:Int)<(n0:Int)+1:=by omega
        have hnI2:(n0:Int)≤100000:=by omega
        have hcl1:=(own_cell (U HBR).own (n0 * 2) (by omega)).trans (blkCells_at (rs++[(f,ra,rc,row)]) n0 (f,ra,rc,row) (by rw[(U HBR).num];simp)).1
        have hcl2:=(own_cell (U HBR).own (n0 * 2+1) (by omega)).trans (blkCells_at (rs++[(f,ra,rc,row)]) n0 (f,ra,rc,row) (by rw[(U HBR).num];simp)).2
        simp only at hcl1 hcl2
        have HE2:Hid ((blkCells (rs++[(f,ra,rc,row)]))[n0 * 2+1]? = some (.slice ra row.length rc)):=(blkCells_at (rs++[(f,ra,rc,row)]) n0 (f,ra,rc,row) (by rw[(U HBR).num];simp)).2
        have hfl:=own_free (U HBR).own
        have hll:=(ownsRow_lt (U HBR).own (k:=lg) rfl).1
        obtain⟨⟨c1,c2,hagl⟩,hcp,hlp⟩:=U HX W (U HBWW)
        have HWO:=V (ownsRow_alloc (U HBR).last (.cells #[.int .i64 x1,.int .i64 x2] 65))
        have HMS:Hid (M≤(W.alloc (.cells #[.int .i64 x1,.int .i64 x2] 65)).drew.heap.size):=V (by have:=(U HBR).size;show M≤(W.alloc _).heap.size;simp;omega)
        have HKP:Hid (∀ w3,(W.alloc (.cells #[.int .i64 x1,.int .i64 x2] 65)).drew.grownBy w3 (Value.slice ra row.length rc).ownBlock→w3.ownsRow W2.heap.size 161 2 (.slice (some ⟨lg,0,none⟩) (n0+1) lc0) (n0+1) (blkCells (rs++[(f,ra,rc,row)]))):=fun w3 hg=>by
          refine World.ownsRow.kept (w:=(W.alloc (.cells #[.int .i64 x1,.int .i64 x2] 65)).drew) (ownsRow_alloc (U HBR).own (.cells #[.int .i64 x1,.int .i64 x2] 65)) hg (Or.inr ?_)
          intro e
          have:=(ownsRow_lt (U HBR).last (k:=lg) e.symm).2
          have:=(U HBR).low
          omega
        go_wp2_with fail
        go_region_law (refine step_append_lies _ rfl (.tmp 33) (.tmp 39) 33 rfl M 65 iI _ 2 16 Tryz.underlying33 hiI hzI0 hzI1 hzI2 rfl (by decide) (.slice ra row.length rc) row.length (instrCells row) (by simp[Act.eval]) (U HWO) ⟨W.heap.size,0,none⟩ 1 1 [.int .i64 x1,.int .i64 x2] (by simp[Act.eval]) rfl (World.news_of_block (Blk.new W _ _)) (oneCells2 x1 x2) (by omega) (by unfold maxLen;omega) (by omega) (U HMS) _ rfl ?_;intro g3 cap3 w3 hown3 hgrow3 hat3 hlt3;have HO3:=V hown3;have HG3:=V hgrow3;have hkeep3:=U HKP w3 hgrow3;have hc3:=(own_cell hkeep3 (n0 * 2+1) (by omega)).trans (U HE2);have hf3:=own_free hkeep3;have hl3:=(ownsRow_lt hkeep3 (k:=lg) rfl).1;clear hown3 hgrow3 hat3 hkeep3)
        all_goals
          go_wp2_with fail
          go_roundw
          case rel =>
            have hfin:=BlR.next (U HBR) x1 x2 (U HBWW) hBM (U HG3) (U HO3)
            exact⟨k+1,by go_num,by omega,BlRun.ofR hfin.1 (U HEQ),hfin.2⟩
          case measure=>simp[intOf];omega
    · have hkk:k=l.length:=by omega
      subst hkk
      obtain⟨lg,lc,rs,rfl,hbl,hrs⟩:=hrun.done ((U HFI l.length (Nat.le_refl _)).some (by omega))
      have HBL2:=V hbl
      have HRS:=V hrs
      clear hrun hbw hbl hrs
      go_wp2_with fail
      go_ret
      exact⟨lg,lc,rs,rfl,(U HBL2).base (U HB20).size,by rw[U HRS,U HRES],(U HB20).trans ((U HBW).mono (U HB20).size)⟩
end Go.Proofs.YtmeiikjpaepogaaGreatDoor
