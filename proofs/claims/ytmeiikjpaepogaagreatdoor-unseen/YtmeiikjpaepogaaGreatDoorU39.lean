/- The program's options: Fold, Super: blocksOf. -/
import Derived.Test.YtmeiikjpaepogaaGreatDoorU35
import Derived.Deep.AppendLies
import Derived.Test.YtmeiikjpaepogaaGreatDoorU36
import Derived.Test.YtmeiikjpaepogaaGreatDoorU37
import Derived.Test.YtmeiikjpaepogaaGreatDoorU38
set_option maxRecDepth 100000
set_option maxHeartbeats 16000000
namespace Go.Proofs.YtmeiikjpaepogaaGreatDoor
open Go Go.RowKit
theorem blocksOf_any (ao:Option Addr) (c en:Nat) (ce:Int) (l:List (Int×Int)) (w:World) (hin:InL w ao l) (hn:l.length≤100000) (hen:en<l.length) (hj:∀ x∈l,namesS x.1=true→0≤x.2∧x.2<l.length) :
    Calls Tryz.prog 85 #[.agg #[.slice ao l.length c,.int .i64 en,.int .i64 ce]] w fun e w'=>∃ lg lc rs,e=.returned (.slice (some ⟨lg,0,none⟩) rs.length lc)∧BlksAt w.heap.size w' lg lc rs∧rs.map LBl.blo=blocksS l en∧Below w.heap.size w w':=by
  have hnI:(l.length:Int)≤100000:=by omega
  obtain⟨iB,hiB,hzB0,hzB1,hzB2⟩:=info_parts Tryz.infoBlock
  obtain⟨iI,hiI,hzI0,hzI1,hzI2⟩:=info_parts Tryz.infoInstr
  have hP:=Blk.new w #[.slice ao l.length c,.int .i64 en,.int .i64 ce] 73
  have hbP:=below_box w (.cells #[.slice ao l.length c,.int .i64 en,.int .i64 ce] 73)
  have HBEG:=V (beginnings_any ao c en ce l _ (hin.below hbP) hn hen hj)
  have HP:=V hP
  have HBP:=V hbP
  have HIN:=V hin
  have HFI:=V (blkTo_fine l (begS l en) (begTo_head l en l.length))
  have hbl:(begS l en).length=l.length+1:=begTo_len l en l.length
  rw[hbl]at HBEG
  have HBL:=V hbl
  have h0:=begTo_head l en l.length
  obtain⟨beg,hbeg⟩:∃ beg,beg=begS l en:=⟨_,rfl⟩
  have HRES:Hid (blocksS l en=blkTo l beg l.length):=by rw[hbeg];exact V rfl
  rw[← hbeg]at HBEG HFI HBL
  have HH0:Hid (beg.getD 0 false=true):=by rw[hbeg];exact h0
  clear hP hbP hin hj hbeg hbl h0
  go_enter Tryz.func85,Tryz.ntmps85
  go_wp2_with fail
  refine (U HBEG).mono ?_
  rintro e W2 ⟨gb,rfl,hob,hb2⟩
  have hp2:=Blk.below (U HP) hb2 (by simp)
  have HP2:=V hp2
  have HB20:Hid (Below w.heap.size w W2):=(U HBP).trans (hb2.mono (U HBP).size)
  have HOB:=V hob
  have hcp:=hp2.cell
  have hlp:=hp2.lt
  clear HBEG hob hb2 hp2 HP HBP
  go_wp2_with fail
  go_loopw [3,12] (fun lv i wr=>∃ k:Nat,i=.int .i64 k∧k≤l.length∧BlRun W2.heap.size wr lv (blkTo l beg k)∧Below W2.heap.size W2 wr) (fun _ i _=>l.length-(intOf i).toNat)
  case atStart=>exact⟨0,rfl,Nat.zero_le _,Or.inl ⟨rfl,rfl⟩,Below.refl _ _⟩
  case round =>
    clear hcp hlp
    obtain⟨k,rfl,hk,hrun,hbw⟩:=hrel
    have HRUN:=V hrun
    have HBW:=V hbw
    by_cases hlt:k<l.length
    · obtain⟨x,hx⟩:∃ x,l[k]? = some x:=⟨_,List.getElem?_eq_getElem hlt⟩
      have hin2:=(U HIN).below (U HB20)
      obtain⟨ag,aoff,rfl,hagl0,c10,c20⟩:=in_at hin2 hx
      have hltI:(k:Int)<l.length:=by omega
      have hlt1:(k:Int)<(l.length:Int)+1:=by omega
      have HNX:Hid (blkTo l beg (k+1)=blkStep (blkTo l beg k) (beg.getD k false) k x):=by
        show blkTo l beg (k+1)=_
        rw[blkTo,hx]
      have hfi:=U HFI k hk
      have HF:=V hfi
      obtain⟨b,hbk⟩:∃ b,beg[k]? = some b:=⟨_,List.getElem?_eq_getElem (by have:=U HBL;omega)⟩
      have hgd:beg.getD k false=b:=by rw[List.getD_eq_getElem?_getD,hbk];rfl
      have hcb0:=((U HOB).cell hbk)
      have hbgl:=(U HOB).lt.1
      have hcb:wr.cell? ⟨gb,k,none⟩=some (.bool b):=by rw[hbw.cell (by simpa using hbgl)];exact hcb0
      have hgbl:gb<wr.heap.size:=by have:=hbw.size;omega
      rw[hgd]at HNX
      have HK0:Hid (k=0→b=true):=fun e=>by subst e;rw[← hgd];exact U HH0
      have hsz:=hbw.size
      obtain⟨x1,x2⟩:=x
      simp only at c10 c20
      have HX:Hid (∀ W,Below W2.heap.size W2 W→(W.cell? ⟨ag,aoff+k * 2,none⟩=some (.int .i64 x1)∧W.cell? ⟨ag,aoff+k * 2+1,none⟩=some (.int .i64 x2)∧ag<W.heap.size)∧(∀ i,W.cell? ⟨w.heap.size,i,none⟩=#[Value.slice (some ⟨ag,aoff,none⟩) l.length c,.int .i64 en,.int .i64 ce][i]?)∧w.heap.size<W.heap.size):=fun W hW=>by
        have h1:=(U HP2).below hW (U HP2).lt
        refine⟨⟨?_,?_,by have:=hW.size;omega⟩,h1.cell,h1.lt⟩
        · rw[hW.cell (by simpa using hagl0)];exact c10
        · rw[hW.cell (by simpa using hagl0)];exact c20
      obtain⟨la,n0,lc0,cells,hlv,hn0,hrow⟩:=hrun.row
      have hn0k:n0≤k:=by rw[hn0];exact hfi.len
      subst hlv
      have HROW:=V hrow
      have HN0:=V hn0
      clear hbw hx hbk hgd hbgl hrow hn0 hin2 c10 c20 hagl0 hcb0 hfi
      cases b with
      | true =>
        clear hrun HK0
        have HW:=V (ownsRow_alloc (U HROW) (.cells #[.int .i64 k,.slice none 0 0] 161))
        have HNB:=V (Blk.new wr #[.int .i64 k,.slice none 0 0] 161)
        have HBS:Hid (W2.heap.size≤(wr.alloc (.cells #[.int .i64 k,.slice none 0 0] 161)).heap.size):=V (by simp;omega)
        have HRUN':Hid (BlRun W2.heap.size wr (.slice la n0 lc0) (blkTo l beg k)):=HRUN
        have hsubn:IntKind.i64.wrap ((n0:Int)+1-1)=n0:=by rw[IntKind.wrap_i64];omega
        have hnn:(n0:Int)<(n0:Int)+1:=by omega
        have hnI2:(n0:Int)≤100000:=by omega
        go_wp2_with (at_builtin;refine wpList_append_lies _ rfl (.tmp 19) (.tmp 22) 158 rfl W2.heap.size 161 iB _ 2 32 Tryz.underlying158 hiB hzB0 hzB1 hzB2 rfl (by decide) (.slice la n0 lc0) n0 cells (by simp[Act.eval]) (U HW) ⟨wr.heap.size,0,none⟩ 1 1 [.int .i64 k,.slice none 0 0] (by simp[Act.eval]) rfl (World.news_of_block (U HNB)) (oneCells_blk _ _ _ _) (by omega) (by unfold maxLen;omega) (by omega) (U HBS) _ rfl ?_;intro lg lc W hown hgrow hat hlt5;have HBN:=V (BlRun.begin (U HRUN') (U HBW) hsz (U HN0) (U HROW) k hgrow hown hat hlt5);clear hown hgrow hat)
        obtain⟨rs,hbl,hrs,hbW⟩:=U HBN
        have HBR:=V hbl
        have HBWW:=V hbW
        have HEQ:Hid (rs.map LBl.blo++[(k,([]:List (Int×Int))++[(x1,x2)])]=blkTo l beg (k+1)):=by
          show _=_
          rw[U HNX,hrs]
          unfold blkStep
          rw[if_pos rfl,addLast_snoc]
        have hBM:W2.heap.size≤W.heap.size:=hbW.size
        obtain⟨M,hM⟩:∃ M,M=W.heap.size:=⟨_,rfl⟩
        rw[← hM]at HBR hBM
        have hWM:M≤W.heap.size:=by omega
        clear HBN HRUN HRUN' HROW HW HNB HBS hbl hrs hbW hcb hgbl hM
        have hcl1:=(own_cell (U HBR).own (n0 * 2) (by omega)).trans (blkCells_at (rs++[(k,none,0,([]:List (Int×Int)))]) n0 (k,none,0,([]:List (Int×Int))) (by rw[(U HBR).num];simp)).1
        have hcl2:=(own_cell (U HBR).own (n0 * 2+1) (by omega)).trans (blkCells_at (rs++[(k,none,0,([]:List (Int×Int)))]) n0 (k,none,0,([]:List (Int×Int))) (by rw[(U HBR).num];simp)).2
        simp only at hcl1 hcl2
        have HE2:Hid ((blkCells (rs++[(k,none,0,([]:List (Int×Int)))]))[n0 * 2+1]? = some (.slice none 0 0)):=(blkCells_at (rs++[(k,none,0,([]:List (Int×Int)))]) n0 (k,none,0,([]:List (Int×Int))) (by rw[(U HBR).num];simp)).2
        have hfl:=own_free (U HBR).own
        have hll:=(ownsRow_lt (U HBR).own (k:=lg) rfl).1
        obtain⟨⟨c1,c2,hagl⟩,hcp,hlp⟩:=U HX W (U HBWW)
        have HWO:=V (ownsRow_alloc (U HBR).last (.cells #[.int .i64 x1,.int .i64 x2] 65))
        have HMS:Hid (M≤(W.alloc (.cells #[.int .i64 x1,.int .i64 x2] 65)).drew.heap.size):=V (by have:=(U HBR).size;show M≤(W.alloc _).heap.size;simp;omega)
        have HKP:Hid (∀ w3,(W.alloc (.cells #[.int .i64 x1,.int .i64 x2] 65)).drew.grownBy w3 (Value.slice none 0 0).ownBlock→w3.ownsRow W2.heap.size 161 2 (.slice (some ⟨lg,0,none⟩) (n0+1) lc) (n0+1) (blkCells (rs++[(k,none,0,([]:List (Int×Int)))]))):=fun w3 hg=>by
          refine World.ownsRow.kept (w:=(W.alloc (.cells #[.int .i64 x1,.int .i64 x2] 65)).drew) (ownsRow_alloc (U HBR).own (.cells #[.int .i64 x1,.int .i64 x2] 65)) hg (Or.inr ?_)
          intro e
          have:=(ownsRow_lt (U HBR).last (k:=lg) e.symm).2
          have:=(U HBR).low
          omega
        skip
        go_region_law (refine step_append_lies _ rfl (.tmp 33) (.tmp 39) 33 rfl M 65 iI _ 2 16 Tryz.underlying33 hiI hzI0 hzI1 hzI2 rfl (by decide) (.slice none 0 0) 0 (instrCells ([]:List (Int×Int))) (by simp[Act.eval]) (U HWO) ⟨W.heap.size,0,none⟩ 1 1 [.int .i64 x1,.int .i64 x2] (by simp[Act.eval]) rfl (World.news_of_block (Blk.new W _ _)) (oneCells2 x1 x2) (by omega) (by unfold maxLen;omega) (by omega) (U HMS) _ rfl ?_;intro g3 cap3 w3 hown3 hgrow3 hat3 hlt3;have HO3:=V hown3;have HG3:=V hgrow3;have hkeep3:=U HKP w3 hgrow3;have hc3:=(own_cell hkeep3 (n0 * 2+1) (by omega)).trans (U HE2);have hf3:=own_free hkeep3;have hl3:=(ownsRow_lt hkeep3 (k:=lg) rfl).1;clear hown3 hgrow3 hat3 hkeep3)
        all_goals
          go_wp2_with fail
          go_roundw
          case rel =>
            have hfin:=BlR.next (U HBR) x1 x2 (U HBWW) hBM (U HG3) (U HO3)
            exact⟨k+1,by go_num,by omega,BlRun.ofR hfin.1 (U HEQ),hfin.2⟩
          case measure=>simp[intOf];omega
      | false =>
        have hne:blkTo l beg k≠[]:=(U HF).some (by
          refine Nat.pos_of_ne_zero (fun e=>?_)
          have:=U HK0 e
          cases this)
        obtain⟨W,hW⟩:∃ W:World,W=wr:=⟨_,rfl⟩
        rw[hW.symm]at hrun HBW hcb hgbl hsz ⊢
        clear hW
        rcases hrun with ⟨h1,_⟩|⟨M,lg,lc,n1,rs,f,ra,rc,row,hlv,hbr,hrs⟩
        · exact absurd h1 hne
        simp only[Value.slice.injEq]at hlv
        obtain⟨rfl,rfl,rfl⟩:=hlv
        have hrl:row.length≤k:=(U HF).row (b:=(f,row)) (by rw[← hrs];simp)
        have HBR:=V hbr
        have HBWW:=HBW
        have HEQ:Hid (rs.map LBl.blo++[(f,row++[(x1,x2)])]=blkTo l beg (k+1)):=by
          show _=_
          rw[U HNX,← hrs]
          unfold blkStep
          rw[if_neg (by simp),addLast_snoc]
        have hBM:W2.heap.size≤M:=by have:=(ownsRow_lt hbr.own (k:=lg) rfl).2;have:=hbr.low;omega
        clear HRUN HROW hne hrs hbr HK0
        obtain⟨n0,hn0⟩:∃ n0,n0=n1:=⟨_,rfl⟩
        rw[← hn0]at HBR hn0k ⊢
        clear hn0
        have hn0k:n0≤k:=by omega
        have hsubn:IntKind.i64.wrap ((n0:Int)+1-1)=n0:=by rw[IntKind.wrap_i64];omega
        have hnn:(n0:Int)<(n0:Int)+1:=by omega
        have hnI2:(n0:Int)≤100000:=by omega
        have hcl1:=(own_cell (U HBR).own (n0 * 2) (by omega)).trans (blkCells_at (rs++[(f,ra,rc,row)]) n0 (f,ra,rc,row) (by rw[(U HBR).num];simp)).1
        have hcl2:=(own_cell (U HBR).own (n0 * 2+1) (by omega)).trans (blkCells_at (rs++[(f,ra,rc,row)]) n0 (f,ra,rc,row) (by rw[(U HBR).num];simp)).2
        simp only at hcl1 hcl2
        have HE2:Hid ((blkCells (rs++[(f,ra,rc,row)]))[n0 * 2+1]? = some (.slice ra row.length rc)):=(blkCells_at (rs++[(f,ra,rc,row)]) n0 (f,ra,rc,row) (by rw[(U HBR).num];simp)).2
        have hfl:=own_free (U HBR).own
        have hll:=(ownsRow_lt (U HBR).own (k:=lg) rfl).1
        obtain⟨⟨c1,c2,hagl⟩,hcp,hlp⟩:=U HX W (U HBWW)
        have HWO:=V (ownsRow_alloc (U HBR).last (.cells #[.int .i64 x1,.int .i64 x2] 65))
        have HMS:Hid (M≤(W.alloc (.cells #[.int .i64 x1,.int .i64 x2] 65)).drew.heap.size):=V (by have:=(U HBR).size;show M≤(W.alloc _).heap.size;simp;omega)
        have HKP:Hid (∀ w3,(W.alloc (.cells #[.int .i64 x1,.int .i64 x2] 65)).drew.grownBy w3 (Value.slice ra row.length rc).ownBlock→w3.ownsRow W2.heap.size 161 2 (.slice (some ⟨lg,0,none⟩) (n0+1) lc0) (n0+1) (blkCells (rs++[(f,ra,rc,row)]))):=fun w3 hg=>by
          refine World.ownsRow.kept (w:=(W.alloc (.cells #[.int .i64 x1,.int .i64 x2] 65)).drew) (ownsRow_alloc (U HBR).own (.cells #[.int .i64 x1,.int .i64 x2] 65)) hg (Or.inr ?_)
          intro e
          have:=(ownsRow_lt (U HBR).last (k:=lg) e.symm).2
          have:=(U HBR).low
          omega
        go_wp2_with fail
        go_region_law (refine step_append_lies _ rfl (.tmp 33) (.tmp 39) 33 rfl M 65 iI _ 2 16 Tryz.underlying33 hiI hzI0 hzI1 hzI2 rfl (by decide) (.slice ra row.length rc) row.length (instrCells row) (by simp[Act.eval]) (U HWO) ⟨W.heap.size,0,none⟩ 1 1 [.int .i64 x1,.int .i64 x2] (by simp[Act.eval]) rfl (World.news_of_block (Blk.new W _ _)) (oneCells2 x1 x2) (by omega) (by unfold maxLen;omega) (by omega) (U HMS) _ rfl ?_;intro g3 cap3 w3 hown3 hgrow3 hat3 hlt3;have HO3:=V hown3;have HG3:=V hgrow3;have hkeep3:=U HKP w3 hgrow3;have hc3:=(own_cell hkeep3 (n0 * 2+1) (by omega)).trans (U HE2);have hf3:=own_free hkeep3;have hl3:=(ownsRow_lt hkeep3 (k:=lg) rfl).1;clear hown3 hgrow3 hat3 hkeep3)
        all_goals
          go_wp2_with fail
          go_roundw
          case rel =>
            have hfin:=BlR.next (U HBR) x1 x2 (U HBWW) hBM (U HG3) (U HO3)
            exact⟨k+1,by go_num,by omega,BlRun.ofR hfin.1 (U HEQ),hfin.2⟩
          case measure=>simp[intOf];omega
    · have hkk:k=l.length:=by omega
      subst hkk
      obtain⟨lg,lc,rs,rfl,hbl,hrs⟩:=hrun.done ((U HFI l.length (Nat.le_refl _)).some (by omega))
      have HBL2:=V hbl
      have HRS:=V hrs
      clear hrun hbw hbl hrs
      go_wp2_with fail
      go_ret
      exact⟨lg,lc,rs,rfl,(U HBL2).base (U HB20).size,by rw[U HRS,U HRES],(U HB20).trans ((U HBW).mono (U HB20).size)⟩
def OwnN (B:Nat) (w:World) (g:Nat) (b:List Int):Prop:=w.ownsRow B 3 1 (.slice (some ⟨g,0,none⟩) b.length b.length) b.length (intCells b)
theorem run_makeN (n:Nat) (hn:n≤17592186044416) (w:World) :
    (Instr.makeSlice 115 (.int .i64 (n:Int)) (.int .i64 (n:Int))).run Tryz.prog w=.ok (.slice (some ⟨w.heap.size,0,none⟩) n n) (w.alloc (.cells (madeCells #[.int .i64 0] (n * 1)) 3)):=by
  obtain⟨iI,hiI,hzI0,hzI1,hzI2⟩:=info_parts Tryz.infoInt
  have hr:=run_make (P:=Tryz.prog) w 115 3 iI _ Tryz.underlying115 hiI hzI0 .i64 .i64 n n (by omega) (Int.le_refl _) (by rw[hzI2];omega) (by omega)
  simp only[Int.toNat_natCast,hzI1]at hr
  exact hr
theorem made_nums (w:World) (n:Nat) (hn:n≤17592186044416):OwnN w.heap.size (w.alloc (.cells (madeCells #[.int .i64 0] (n * 1)) 3)) w.heap.size (List.replicate n 0):=by
  have e:madeCells #[.int .i64 0] (n * 1)=(intCells (List.replicate n 0)).toArray:=by
    apply Array.ext'
    rw[Nat.mul_one,toList_madeCells_one]
    simp[intCells]
  rw[e]
  refine⟨by simp[intCells],Or.inr ⟨w.heap.size,n,_,by simp,Nat.le_refl _,Blk.new w _ _,by simp,by unfold maxLen;omega,by simp[intCells],by simp[intCells]⟩⟩
theorem OwnN.set {B:Nat} {w:World} {g:Nat} {b:List Int} (h:OwnN B w g b) (j:Nat) (v:Int):OwnN B (w.setCell ⟨g,j,none⟩ (.int .i64 v)) g (b.set j v):=by
  unfold OwnN at h ⊢
  rw[List.length_set]
  have:=own_set h j (.int .i64 v)
  have e:intCells (b.set j v)=(intCells b).set j (.int .i64 v):=by unfold intCells;rw[List.map_set]
  rw[e]
  exact this
theorem OwnN.cell {B:Nat} {w:World} {g:Nat} {b:List Int} (h:OwnN B w g b) {j:Nat} {v:Int} (hv:b[j]? = some v):w.cell? ⟨g,j,none⟩=some (.int .i64 v):=by
  unfold OwnN at h
  have hj:=(List.getElem?_eq_some_iff.1 hv).1
  rw[own_cell h j (by omega)]
  unfold intCells
  rw[List.getElem?_map,hv]
  rfl
theorem OwnN.free {B:Nat} {w:World} {g:Nat} {b:List Int} (h:OwnN B w g b) (j:Nat):w.frozen? ⟨g,j,none⟩=false:=own_free h j
theorem OwnN.lt {B:Nat} {w:World} {g:Nat} {b:List Int} (h:OwnN B w g b):g<w.heap.size∧B≤g:=ownsRow_lt h (k:=g) rfl
theorem OwnN.below {B:Nat} {w w':World} {g:Nat} {b:List Int} (h:OwnN B w g b) (hb:Below w.heap.size w w'):OwnN B w' g b:=(LawStill.ofBelow hb).row h
theorem OwnN.ints {B:Nat} {w:World} {g:Nat} {b:List Int} (h:OwnN B w g b):IntsAt w g b:=⟨h.lt.1,fun _ _ hj=>h.cell hj⟩
theorem run_make0 (n:Nat) (hn:n≤17592186044416) (w:World) :
    (Instr.makeSlice 33 (.int .i64 0) (.int .i64 (n:Int))).run Tryz.prog w=.ok (.slice (some ⟨w.heap.size,0,none⟩) 0 n) (w.alloc (.cells (madeCells #[.int .i64 0,.int .i64 0] (n * 2)) 65)):=by
  obtain⟨iI,hiI,hzI0,hzI1,hzI2⟩:=info_parts Tryz.infoInstr
  have hr:=run_make (P:=Tryz.prog) w 33 65 iI _ Tryz.underlying33 hiI hzI0 .i64 .i64 0 n (by omega) (by omega) (by rw[hzI2];omega) (by omega)
  simp only[Int.toNat_natCast,hzI1]at hr
  exact hr
theorem made_row0 (w:World) (n:Nat) (hn:n≤17592186044416):OwnI w.heap.size (w.alloc (.cells (madeCells #[.int .i64 0,.int .i64 0] (n * 2)) 65)) (.slice (some ⟨w.heap.size,0,none⟩) 0 n) []:=by
  refine⟨by simp[instrCells],Or.inr ⟨w.heap.size,n,_,by simp,Nat.le_refl _,Blk.new w _ _,Nat.zero_le _,by unfold maxLen;omega,?_,by simp[instrCells]⟩⟩
  rw[made2]
  simp[instrCells_length]
theorem joined_any (B:Nat) (ao:Option Addr) (c n en:Nat) (ce:Int) (lg lc:Nat) (rs:List LBl) (bs:List Blo) (w:World) (hb:BlksAt B w lg lc rs) (hbs:rs.map LBl.blo=bs) (hlow:∀ b∈bs,b.1<n) (hj:∀ b∈bs,∀ x∈b.2,namesS x.1=true→0≤x.2∧x.2<n) (hen:en<n) (hn:n≤100000) (hs:(bs.flatMap (·.2)).length≤100000) (hl:rs.length≤100000) :
    Calls Tryz.prog 87 #[.agg #[.slice ao n c,.int .i64 en,.int .i64 ce],.slice (some ⟨lg,0,none⟩) rs.length lc] w fun e w'=>∃ a c',e=.returned (.agg #[.slice a (joinedS n en bs).1.length c',.int .i64 (joinedS n en bs).2,.int .i64 ce])∧OwnI w.heap.size w' (.slice a (joinedS n en bs).1.length c') (joinedS n en bs).1∧Below w.heap.size w w':=by
  have hlI:(rs.length:Int)≤100000:=by omega
  have hnI:(n:Int)≤100000:=by omega
  have henI:(en:Int)<n:=by omega
  have hlen:rs.length=bs.length:=by rw[← hbs,List.length_map]
  have hmk:=run_makeN n (by omega)
  have hw2:=below_box2 w (.cells #[.slice ao n c,.int .i64 en,.int .i64 ce] 73) (.cells #[.slice none 0 0,.int .i64 0,.int .i64 0] 73)
  have hP:Blk ((w.alloc (.cells #[.slice ao n c,.int .i64 en,.int .i64 ce] 73)).alloc (.cells #[.slice none 0 0,.int .i64 0,.int .i64 0] 73)) w.heap.size #[.slice ao n c,.int .i64 en,.int .i64 ce] 73:=(Blk.new w _ _).alloc _
  have hR:=blk_two w (.cells #[.slice ao n c,.int .i64 en,.int .i64 ce] 73) #[.slice none 0 0,.int .i64 0,.int .i64 0] 73
  have hsz2:((w.alloc (.cells #[.slice ao n c,.int .i64 en,.int .i64 ce] 73)).alloc (.cells #[.slice none 0 0,.int .i64 0,.int .i64 0] 73)).heap.size=w.heap.size+2:=by simp
  have HN0:=V (made_nums ((w.alloc (.cells #[.slice ao n c,.int .i64 en,.int .i64 ce] 73)).alloc (.cells #[.slice none 0 0,.int .i64 0,.int .i64 0] 73)) n (by omega))
  have HW2:=V hw2
  have HP:=V hP
  have HR:=V hR
  have HB:=V hb
  have HLOW:=V hlow
  have HJ:=V hj
  have HBS:=V hbs
  have HLEN:=V hlen
  simp only[Nat.mul_one]at hmk HN0
  clear hw2 hP hR hb hlow hj hbs hlen
  have HSZ2:=V hsz2
  clear hsz2
  go_enter Tryz.func87,Tryz.ntmps87
  go_wp2_with fail
  generalize (w.alloc (.cells #[.slice ao n c,.int .i64 en,.int .i64 ce] 73)).alloc (.cells #[.slice none 0 0,.int .i64 0,.int .i64 0] 73)=W1 at *
  have hsz2:W1.heap.size=w.heap.size+1+1:=U HSZ2
  have hn0:=U HN0
  rw[hsz2]at hn0
  have HON:Hid (OwnN (w.heap.size+1+1) (W1.alloc (.cells (madeCells #[.int .i64 0] n) 3)) (w.heap.size+1+1) (List.replicate n 0)):=hn0
  have HBA:Hid (Below (w.heap.size+1+1) W1 (W1.alloc (.cells (madeCells #[.int .i64 0] n) 3))):=(below_box W1 _).mono (by omega)
  clear hn0 HN0 hmk
  go_loopw [6,18] (fun sv i wr=>∃ k:Nat,i=.int .i64 k∧k≤rs.length∧sv=.int .i64 (((bs.take k).flatMap (·.2)).length:Nat)∧OwnN (w.heap.size+1+1) wr (w.heap.size+1+1) (numsTo bs n k).1∧Below (w.heap.size+1+1) W1 wr) (fun _ i _=>rs.length-(intOf i).toNat)
  case atStart=>exact⟨0,rfl,Nat.zero_le _,rfl,U HON,U HBA⟩
  case round =>
    obtain⟨k,rfl,hk,rfl,hon,hbw⟩:=hrel
    have HO:=V hon
    have HBW:=V hbw
    have hbww:Below w.heap.size w wr:=(U HW2).trans (hbw.mono (by omega))
    have hbk:=(U HB).below hbww
    by_cases hlt:k<rs.length
    · obtain⟨r,hr⟩:∃ r,rs[k]? = some r:=⟨_,List.getElem?_eq_getElem hlt⟩
      have hrb:bs[k]? = some r.blo:=by rw[← U HBS,List.getElem?_map,hr];rfl
      obtain⟨e1,e2,_,_⟩:=hbk.cells hr
      have hlgl:=hbk.lt.1
      have hltI:(k:Int)<rs.length:=by omega
      have hrn:r.1<n:=U HLOW _ (List.mem_of_getElem? hrb)
      have hrnI:(r.1:Int)<n:=by omega
      have HNX:=V (numsTo_next (n:=n) hrb)
      have HT2:=V (numsTo_len bs n k).2
      have hnl:=(numsTo_len bs n k).1
      obtain⟨v,hv⟩:∃ v,(numsTo bs n k).1[r.1]? = some v:=⟨_,List.getElem?_eq_getElem (by omega)⟩
      have hbx:=below_box wr (.cells #[.int .i64 r.1,.slice r.2.1 r.2.2.2.length r.2.2.1] 161)
      have hon2:=hon.below hbx
      have hcv:=hon2.cell hv
      have hfv:=hon2.free
      have hlv:=hon2.lt.1
      have HO2:=V hon2
      have HBX:Hid (Below (w.heap.size+1+1) W1 (wr.alloc (.cells #[.int .i64 r.1,.slice r.2.1 r.2.2.2.length r.2.2.1] 161))):=hbw.trans (hbx.mono (by have:=hon.lt.1;omega))
      have e3:((bs.take (k+1)).flatMap (·.2)).length=((bs.take k).flatMap (·.2)).length+r.2.2.2.length:=by
        rw[List.take_add_one,hrb,List.flatMap_append,List.length_append]
        simp[LBl.blo]
      have e4:=flat_le bs (k+1)
      have hsum:IntKind.i64.wrap ((((bs.take k).flatMap (·.2)).length:Int)+(r.2.2.2.length:Int))=(((bs.take k).flatMap (·.2)).length:Int)+(r.2.2.2.length:Int):=by rw[IntKind.wrap_i64];omega
      have HE3:=V e3
      have hbxb:=Blk.new wr #[.int .i64 r.1,.slice r.2.1 r.2.2.2.length r.2.2.1] 161
      have hcx:=hbxb.cell
      have hlx:=hbxb.lt
      have hnex:w.heap.size+1+1≠wr.heap.size:=by have:=hon.lt.1;omega
      have hbxs:=hbxb.far (a:=⟨w.heap.size+1+1,r.1,none⟩) (fun e=>hnex e.symm) (.int .i64 (((bs.take k).flatMap (·.2)).length:Nat))
      have hcx2:=hbxs.cell
      have hlx2:=hbxs.lt
      obtain⟨rf,ra,rc,rl⟩:=r
      simp only at *
      generalize ((bs.take k).flatMap (·.2)).length=m at *
      generalize rl.length=rll at *
      clear hon hbw hbww hbk hr hrb hv hbx hon2 e3 e4 hbxb hbxs
      go_wp2_with fail
      go_roundw
      case rel =>
        refine⟨k+1,by go_num,by omega,by rw[U HE3];first|rfl|go_num,?_,(U HBX).setCell (by simp) _⟩
        rw[U HNX]
        unfold numStep
        simp only
        rw[U HT2]
        exact (U HO2).set rf _
      case measure=>simp[intOf];omega
    · have hkk:k=rs.length:=by omega
      subst hkk
      have hbl:rs.length=bs.length:=U HLEN
      have htk:bs.take rs.length=bs:=by rw[hbl,List.take_length]
      rw[htk]
      have hnums:(numsTo bs n rs.length).1=(numsTo bs n bs.length).1:=by rw[hbl]
      rw[hnums]at HO hon
      have hnl:=(numsTo_len bs n bs.length).1
      have hpos:=numsTo_pos bs n bs.length
      have HJS:Hid ((joinedS n en bs).1=listTo (numsTo bs n bs.length).1 bs bs.length∧((joinedS n en bs).2:Int)=(numsTo bs n bs.length).1.getD en 0):=by
        refine⟨rfl,?_⟩
        unfold joinedS
        simp only
        obtain⟨v,hv⟩:∃ v,(numsTo bs n bs.length).1[en]? = some v:=⟨_,List.getElem?_eq_getElem (by omega)⟩
        have:=hpos v (List.mem_of_getElem? hv)
        rw[List.getD_eq_getElem?_getD,hv]
        simp only[Option.getD_some]
        omega
      obtain⟨ve,hve⟩:∃ v,(numsTo bs n bs.length).1[en]? = some v:=⟨_,List.getElem?_eq_getElem (by omega)⟩
      have HVE:Hid ((numsTo bs n bs.length).1.getD en 0=ve):=by
        show _=_
        rw[List.getD_eq_getElem?_getD,hve]
        rfl
      have HLT:=V (fun k=>listTo_len (numsTo bs n bs.length).1 bs k)
      have hmk0:=run_make0 (bs.flatMap (·.2)).length (by omega)
      have HROW0:=V (made_row0 wr (bs.flatMap (·.2)).length (by omega))
      have HB3:=V (below_box wr (.cells (madeCells #[.int .i64 0,.int .i64 0] ((bs.flatMap (·.2)).length * 2)) 65))
      have hfI:((bs.flatMap (·.2)).length:Int)≤100000:=by omega
      have HVEQ:=V hve
      generalize hnm:(numsTo bs n bs.length).1=nums at *
      have HNM:=V hnl
      generalize hT:(bs.flatMap (·.2)).length=T at *
      have HTT:=V hT
      have HBWW:=V hbww
      clear hon hbw hbww hbk hnums hpos hve hnm hT hbl htk
      go_wp2_with fail
      clear hmk0
      obtain⟨W4,hW4⟩:∃ W4,W4=wr.alloc (.cells (madeCells #[.int .i64 0,.int .i64 0] (T * 2)) 65):=⟨_,rfl⟩
      rw[← hW4]at HROW0 HB3 ⊢
      obtain⟨w3,hw3⟩:∃ w3:World,w3=wr:=⟨_,rfl⟩
      rw[← hw3]at HROW0 HB3 HBWW HBW HO ⊢
      clear hW4 hw3
      go_loopw [9,37] (fun sv i wr=>∃ (k:Nat) (a:Option Addr) (c:Nat),i=.int .i64 k∧k≤rs.length∧sv=.slice a (listTo nums bs k).length c∧OwnI w3.heap.size wr (.slice a (listTo nums bs k).length c) (listTo nums bs k)∧Below w3.heap.size w3 wr) (fun _ i _=>rs.length-(intOf i).toNat)
      case atStart=>exact⟨0,some ⟨w3.heap.size,0,none⟩,T,rfl,Nat.zero_le _,rfl,U HROW0,U HB3⟩
      case round =>
        obtain⟨k,a,c1,rfl,hk,rfl,hown,hbw⟩:=hrel
        have HOWN:=V hown
        have HBW3:=V hbw
        have hbww:Below w.heap.size w wr:=(U HBWW).trans (hbw.mono (U HBWW).size)
        have hbk:=(U HB).below hbww
        by_cases hlt:k<rs.length
        · obtain⟨r,hr⟩:∃ r,rs[k]? = some r:=⟨_,List.getElem?_eq_getElem hlt⟩
          have hrb:bs[k]? = some r.blo:=by rw[← U HBS,List.getElem?_map,hr];rfl
          have hrm:=List.mem_of_getElem? hrb
          obtain⟨e1,e2,hinr,_⟩:=hbk.cells hr
          have hlgl:=hbk.lt.1
          have hltI:(k:Int)<rs.length:=by omega
          have HNX:=V (listTo_next (nums:=nums) hrb)
          have hbx:=below_box wr (.cells #[.int .i64 r.1,.slice r.2.1 r.2.2.2.length r.2.2.1] 161)
          have hbxb:=Blk.new wr #[.int .i64 r.1,.slice r.2.1 r.2.2.2.length r.2.2.1] 161
          have hcx:=hbxb.cell
          have hlx:=hbxb.lt
          have h4:=flat_le bs (k+1)
          have h5:=U HLT (k+1)
          have h6:=congrArg List.length (U HNX)
          rw[List.length_append]at h6
          have hTT:=U HTT
          have hrl:r.2.2.2.length≤100000:=by
            have:(renamedS nums r.blo.2).length=r.2.2.2.length:=by simp[renamedS,LBl.blo]
            omega
          have HSM:Hid ((listTo nums bs k).length+(renamedS nums r.2.2.2).length≤1000000):=by
            show _≤_
            have:(renamedS nums r.blo.2).length=(renamedS nums r.2.2.2).length:=rfl
            omega
          have hi0:=((U HO).below hbw).below hbx
          have HREN:=V (renamed_any (w.heap.size+1+1) nums.length r.2.2.1 r.2.1 nums r.2.2.2 (wr.alloc (.cells #[.int .i64 r.1,.slice r.2.1 r.2.2.2.length r.2.2.1] 161)) hi0.ints (hinr.below hbx) ⟨by omega,by omega⟩ (fun x hx hn=>by rw[hnl];exact U HJ _ hrm x hx hn))
          have HOWX:=V (hown.below hbx)
          have HBX:Hid (Below w3.heap.size w3 (wr.alloc (.cells #[.int .i64 r.1,.slice r.2.1 r.2.2.2.length r.2.2.1] 161))):=hbw.trans (hbx.mono hbw.size)
          rw[hnl]at HREN
          obtain⟨rf,ra,rc,rl⟩:=r
          simp only[LBl.blo]at *
          generalize hnx:listTo nums bs k=l1 at *
          clear hown hbw hbww hbk hr hrb hrm hinr hbx hbxb h4 h5 h6 hTT hi0 hnx
          go_wp2_with fail
          refine (U HREN).mono ?_
          rintro e w5 ⟨a5,c5,rfl,ho5,hb5⟩
          have HB5:Hid (Below w3.heap.size w3 w5):=(U HBX).trans (hb5.mono (U HBX).size)
          have HO5:=V ((U HOWX).below hb5)
          have HI5:=V ho5.isIn.1
          clear ho5 hb5 HREN hcx hlx e1 e2
          generalize hrs2:renamedS nums rl=l2 at *
          go_wp2_with (at_builtin;refine wpList_appI rfl (.tmp 41) (.tmp 45) rfl w3.heap.size w3 _ l1 l2 a5 c5 (by simp[Act.eval]) (by simp[Act.eval]) (U HO5) (U HI5) (U HSM) (U HB5) (U HB5).size _ rfl ?_;intro a6 c6 w6 HO6 HB6)
          go_roundw
          case rel =>
            refine⟨k+1,a6,c6,by go_num,by omega,?_,?_,U HB6⟩
            · rw[U HNX,List.length_append]
            · rw[U HNX];exact U HO6
          case measure=>simp[intOf];omega
        · have hkk:k=rs.length:=by omega
          subst hkk
          have hP3:=((U HP).below (U HBW) (by omega)).below hbw (by have:=(U HO).lt.1;omega)
          have hR3:=((U HR).below (U HBW) (by omega)).below hbw (by have:=(U HO).lt.1;omega)
          have hcp:=hP3.cell
          have hlp:=hP3.lt
          have hcr:=hR3.cell
          have hfr:=hR3.free
          have hlr:=hR3.lt
          have hce:=((U HO).below hbw).cell (U HVEQ)
          have hle:=((U HO).below hbw).lt.1
          have HR3:=V hR3
          have hll:listTo nums bs rs.length=(joinedS n en bs).1:=by rw[U HLEN];exact (U HJS).1.symm
          have hve2:((joinedS n en bs).2:Int)=ve:=by rw[(U HJS).2];exact U HVE
          rw[hll]at HOWN ⊢
          have HV2:=V hve2
          have HBF:=V hbww
          have hne:w.heap.size≠w.heap.size+1:=by omega
          have hww:Hid (w.heap.size≤w3.heap.size):=(U HBWW).size
          clear hown hbw hbww hbk hP3 hR3 hll hve2
          generalize hq:joinedS n en bs=q at *
          go_wp2_with fail
          go_region
          all_goals
            go_wp2_with fail
            refine bodyPost_ret (results_row3 (P:=Tryz.prog) rfl _ _ (w.heap.size+1) 73 _ (0,0) _ rfl (triple_set (U HR3) rfl) Tryz.underlying73 rfl Tryz.sizeProgram) rfl ?_
            have hn:(Value.slice a q.1.length c1).ownBlock≠some (w.heap.size+1):=fun e=>row_not_blk (U HR3) (U HOWN) (by decide) e
            rw[hq]
            refine⟨a,c1,by rw[U HV2],?_,below_drawn (((U HBF).setCell (by simp) _).setCell (by simp) _ |>.setCell (by simp) _) _⟩
            exact ownsRow_base (ownsRow_far (ownsRow_far (ownsRow_far (U HOWN) hn _) hn _) hn _) (U hww)
theorem folded_any (fb tb rb:Nat) (ao:Option Addr) (c en:Nat) (ce:Int) (l:List (Int×Int)) (w:World) (hf:FolderAt w fb tb rb) (hin:InL w ao l) (hp:PrOk (l,en)) :
    Calls Tryz.prog 84 #[.pointer (some ⟨fb,0,none⟩),.agg #[.slice ao l.length c,.int .i64 en,.int .i64 ce]] w (ProgOut w (joinedS l.length en ((blocksS l en).map (fun b=>(b.1,foldRowS b.2)))) ce):=by
  have hw2:=below_box2 w (.cells #[.slice ao l.length c,.int .i64 en,.int .i64 ce] 73) (.cells #[.slice none 0 0,.int .i64 0,.int .i64 0] 73)
  have hP:Blk ((w.alloc (.cells #[.slice ao l.length c,.int .i64 en,.int .i64 ce] 73)).alloc (.cells #[.slice none 0 0,.int .i64 0,.int .i64 0] 73)) w.heap.size #[.slice ao l.length c,.int .i64 en,.int .i64 ce] 73:=(Blk.new w _ _).alloc _
  have hR:=blk_two w (.cells #[.slice ao l.length c,.int .i64 en,.int .i64 ce] 73) #[.slice none 0 0,.int .i64 0,.int .i64 0] 73
  have hsz2:((w.alloc (.cells #[.slice ao l.length c,.int .i64 en,.int .i64 ce] 73)).alloc (.cells #[.slice none 0 0,.int .i64 0,.int .i64 0] 73)).heap.size=w.heap.size+2:=by simp
  have hent:en<l.length:=hp.entry
  have hsm:l.length≤5000:=hp.small
  have hfine:=blocks_fine (l:=l) (en:=en)
  have hflat:=hfine.flat
  rw[List.take_length]at hflat
  have HBO:=V (blocksOf_any ao c en ce l _ (hin.below hw2) (by omega) hent hp.names)
  have HMEM:Hid (∀ b∈blocksS l en,∀ x∈b.2,x∈l):=fun b hb x hx=>by rw[← hflat];exact List.mem_flatMap.2 ⟨b,hb,hx⟩
  have HROW:Hid (∀ b∈blocksS l en,b.2.length≤5000):=fun b hb=>Nat.le_trans (hfine.row hb) hsm
  have HLOW:=V hfine.low
  have hbl:(blocksS l en).length≤l.length:=hfine.len
  have HP:=V hP
  have HR:=V hR
  have HW2:=V hw2
  have HPR:=V hp
  have HSZ2:=V hsz2
  have HNAM:Hid (∀ b∈(blocksS l en).map (fun b=>(b.1,foldRowS b.2)),∀ x∈b.2,namesS x.1=true→0≤x.2∧x.2<l.length):=fun b hb x hx hn=>by
    obtain⟨b',hb',rfl⟩:=List.mem_map.1 hb
    exact doneTo_names (P:=fun t=>0≤t∧t<(l.length:Int)) b'.2 (fun y hy hny=>hp.names y (U HMEM b' hb' y hy) hny) b'.2.length x hx hn
  have HFL:Hid (((blocksS l en).flatMap (·.2)).length≤5000):=by rw[hflat];exact hsm
  have HBASE:Hid (∀ x∈l,baseOk x):=hp.base
  have HFO:=V (hf.below hw2)
  generalize hbs:blocksS l en=bs at *
  clear hw2 hP hR hp hfine hflat hin hsz2 hbs hf
  go_enter Tryz.func84,Tryz.ntmps84
  go_wp2_with fail
  generalize ((w.alloc (.cells #[.slice ao l.length c,.int .i64 en,.int .i64 ce] 73)).alloc (.cells #[.slice none 0 0,.int .i64 0,.int .i64 0] 73))=W1 at *
  refine (U HBO).mono ?_
  rintro e W2 ⟨lg,lc,rs,rfl,hbk,hrs,hb2⟩
  have hlen:rs.length=bs.length:=by rw[← hrs,List.length_map]
  have hlgs:=hbk.lt
  have HBK:=V hbk
  have HRS:=V hrs
  have HB2:=V hb2
  have HLEN:=V hlen
  obtain⟨m,hm⟩:∃ m,m=rs.length:=⟨_,rfl⟩
  rw[← hm]at hlen ⊢
  have HM:=V hm
  have hm5:m≤5000:=by omega
  have hmI:(m:Int)≤5000:=by omega
  have HLG:Hid (W1.heap.size≤lg):=hlgs.2
  clear hbk hrs hb2 HBO hm hlen hlgs
  go_wp2_with fail
  go_loopw [11] (fun i wr=>∃ (k:Nat) (rs':List LBl),i=.int .i64 k∧k≤m∧rs'.length=m∧BlksAt W1.heap.size wr lg lc rs'∧rs'.map LBl.blo=mapTo (fun b=>(b.1,foldRowS b.2)) bs k∧Below W1.heap.size W1 wr) (fun i _=>m-(intOf i).toNat)
  case atStart=>exact⟨0,rs,rfl,Nat.zero_le _,(U HM).symm,U HBK,by rw[mapTo_zero];exact U HRS,U HB2⟩
  case round =>
    obtain⟨k,rs',rfl,hk,hl',hbk,hmap,hbw⟩:=hrel
    have HBK':=V hbk
    have HMAP:=V hmap
    have HBW:=V hbw
    have HL':=V hl'
    by_cases hlt:k<m
    · obtain⟨r,hr⟩:∃ r,rs'[k]? = some r:=⟨_,List.getElem?_eq_getElem (by omega)⟩
      have hkb:k<bs.length:=by have:=U HLEN;have:=U HM;omega
      have hrb:bs[k]? = some r.blo:=by
        rw[← mapTo_at (fun b=>(b.1,foldRowS b.2)) bs k hkb,← hmap,List.getElem?_map,hr]
        rfl
      have hrm:=List.mem_of_getElem? hrb
      obtain⟨e1,e2,hinr,hcapr⟩:=hbk.cells hr
      have hfree:=own_free hbk.1
      have hlgl:=hbk.lt.1
      have hltI:(k:Int)<m:=by omega
      obtain⟨rf,ra,rc,rl⟩:=r
      simp only[LBl.blo]at e1 e2 hinr hcapr hrb hrm
      have hrl:rl.length≤5000:=U HROW _ hrm
      have HCALL:Hid (Calls Tryz.prog 154 #[.pointer (some ⟨fb,0,none⟩),.slice ra rl.length rc] wr (RowOut wr (foldRowS rl))):=foldedRow_any fb tb rb ra rc rl wr ((U HFO).below hbw) hinr (by omega) hcapr (fun x hx=>U HBASE x (U HMEM _ hrm x hx))
      have HNX:=V (mapTo_next (fun b=>(b.1,foldRowS b.2)) hrb)
      have HSET:=V (fun (w':World) (a:Option Addr) (c:Nat) (hb:Below wr.heap.size wr w') (ho:OwnI wr.heap.size w' (.slice a (foldRowS rl).length c) (foldRowS rl))=>(hbk.below hb).set hr a c (foldRowS rl) ho.isIn.1 ho.cap (fun g off e=>by
        subst e
        have:=(ownsRow_lt ho (k:=g) rfl).2
        omega))
      have HRR:=V hr
      have HKE:Hid (∀ w',Below wr.heap.size wr w'→w'.cell? ⟨lg,k * 2+1,none⟩=some (.slice ra rl.length rc)∧(∀ j,w'.frozen? ⟨lg,j,none⟩=false)∧lg<w'.heap.size):=fun w' hb=>by
        have h1:=hbk.below hb
        exact⟨(h1.cells hr).2.1,own_free h1.1,h1.lt.1⟩
      clear hbk hmap hbw hrb hrm hinr hcapr hr hl'
      go_wp2_with fail
      refine (U HCALL).mono ?_
      rintro e w3 ⟨a3,c3,rfl,ho3,hb3⟩
      obtain⟨k1,k2,k3⟩:=U HKE w3 hb3
      have HO3:=V ho3
      have HB3:=V hb3
      clear ho3 hb3 HCALL e1 e2 hfree hlgl
      generalize hrw:foldRowS rl=rw' at *
      go_wp2_with fail
      go_roundw
      case rel =>
        refine⟨k+1,rs'.set k (rf,a3,c3,rw'),by go_num,by omega,by rw[List.length_set];exact U HL',U HSET w3 a3 c3 (U HB3) (U HO3),?_,((U HBW).trans ((U HB3).mono (U HBW).size)).setCell (U HLG) _⟩
        rw[List.map_set,U HMAP,U HNX]
        rw[← hrw]
        rfl
      case measure=>simp[intOf];omega
    · have hkk:k=m:=by omega
      subst hkk
      have hmb:k=bs.length:=by rw[U HM];exact U HLEN
      have hmap2:rs'.map LBl.blo=bs.map (fun b=>(b.1,foldRowS b.2)):=by rw[hmap,hmb,mapTo_all]
      have hPw:=Blk.below (U HP) hbw (U HP).lt
      have hRw:=Blk.below (U HR) hbw (U HR).lt
      have HJO:=V (joined_any W1.heap.size ao c l.length en ce lg lc rs' (bs.map (fun b=>(b.1,foldRowS b.2))) wr hbk hmap2 (fun b hb=>by
        obtain⟨b',hb',rfl⟩:=List.mem_map.1 hb
        have e:((fun b=>(b.1,foldRowS b.2)) b').1=b'.1:=by first|rfl|(unfold unreachS;split<;>rfl)|(unfold idleS;split<;>rfl)
        rw[e]
        exact U HLOW b' hb') (U HNAM) hent (by omega) (by
        have:=map_flat_le (fun b=>(b.1,foldRowS b.2)) (fun b=>doneTo_len b.2 b.2.length) bs
        have h2:=U HFL
        omega) (by omega))
      rw[hl']at HJO
      have hcp:=hPw.cell
      have hlp:=hPw.lt
      have HRW:=V hRw
      clear hbk hmap hmap2 hPw hRw hl' hmb hbw
      generalize hq:joinedS l.length en (bs.map (fun b=>(b.1,foldRowS b.2)))=q at *
      go_wp2_with fail
      refine (U HJO).mono ?_
      rintro e w4 ⟨a4,c4,rfl,ho4,hb4⟩
      have hR4:=Blk.below (U HRW) hb4 (U HRW).lt
      have hcr:=hR4.cell
      have hfr:=hR4.free
      have hlr:=hR4.lt
      have HR4:=V hR4
      have HO4:=V ho4
      have HB4:=V hb4
      clear ho4 hb4 HJO hR4 HRW hcp hlp
      go_wp2_with fail
      refine bodyPost_ret (results_row3 (P:=Tryz.prog) rfl _ _ (w.heap.size+1) 73 _ (0,0) _ rfl (triple_set (U HR4) rfl) Tryz.underlying73 rfl Tryz.sizeProgram) rfl ?_
      have hsz:=U HSZ2
      have hww:w.heap.size≤wr.heap.size:=by have:=(U HBW).size;omega
      have hn:(Value.slice a4 q.1.length c4).ownBlock≠some (w.heap.size+1):=fun e=>row_not_blk (U HR4) (U HO4) (by decide) e
      have hb5:Below w.heap.size w w4:=(U HW2).trans (((U HBW).trans ((U HB4).mono (U HBW).size)).mono (by omega))
      try rw[hq]
      refine⟨a4,c4,rfl,?_,((hb5.setCell (by simp) _).setCell (by simp) _).setCell (by simp) _⟩
      exact ownsRow_base (ownsRow_far (ownsRow_far (ownsRow_far (U HO4) hn _) hn _) hn _) hww
end Go.Proofs.YtmeiikjpaepogaaGreatDoor
