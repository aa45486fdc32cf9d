/- The program's options: Fold: a row that the machine itself reckons. -/
import Derived.Test.YtmeiikjpaepogaaGreatDoorU30
import Derived.Deep.RegionHeldLaw
import Derived.Test.YtmeiikjpaepogaaGreatDoorU31
set_option maxRecDepth 100000
set_option maxHeartbeats 16000000
namespace Go.Proofs.YtmeiikjpaepogaaGreatDoor
open Go Go.RowKit
def ReckCut (W0:World) (L:List (Int×Int)) (s8:Value) (wc:World):Prop:=∃ q er a1 n1 k1 a4 n4 k4 out st,s8=.pointer (some ⟨q,0,none⟩)∧Blk wc q #[.int .i64 er,.slice a1 n1 k1,.slice a4 n4 k4,.string out,.int .i64 st] 44∧er=(runM L (L.length:Int).toNat 0 (startM 0 1000 1000 1000 1000 0 0)).2.1∧(er=0→IntsL wc a1 (runM L (L.length:Int).toNat 0 (startM 0 1000 1000 1000 1000 0 0)).1.stack∧n1=(runM L (L.length:Int).toNat 0 (startM 0 1000 1000 1000 1000 0 0)).1.stack.length∧n1≤1000)∧Below W0.heap.size W0 wc
theorem reckLim:limsOk 1000 1000 1000 1000:=by unfold limsOk limOk;omega
theorem ReckCut.new {W0 W wu:World} {L:List (Int×Int)} {er:Int} {a1 a4:Option Addr} {n1 k1 n4 k4:Nat} {out:ByteArray} {st:Int} (h:CodeRes W L 0 0 0 1000 1000 1000 1000 L.length er (.slice a1 n1 k1) (.slice a4 n4 k4) out st wu) (h1:Below W0.heap.size W0 wu) :
    ReckCut W0 L (.pointer (some ⟨wu.heap.size,0,none⟩)) (wu.alloc (.cells #[.int .i64 er,.slice a1 n1 k1,.slice a4 n4 k4,.string out,.int .i64 st] 44)):=by
  refine⟨wu.heap.size,er,a1,n1,k1,a4,n4,k4,out,st,rfl,Blk.new _ _ _,(h.yes reckLim).1,fun h0=>?_,h1.trans ((below_box _ _).mono h1.size)⟩
  obtain⟨o1,_,o3,_⟩:=h.ok reckLim h0
  obtain⟨i1,i2⟩:=ints_row o1
  exact⟨i1.below (below_box _ _),i2,by rw[i2];exact o3⟩
theorem ReckCut.old {W0 W wu:World} {L:List (Int×Int)} {er:Int} {a1 a4:Option Addr} {n1 k1 n4 k4:Nat} {out:ByteArray} {st:Int} (h:CodeRes W L 0 0 0 1000 1000 1000 1000 L.length er (.slice a1 n1 k1) (.slice a4 n4 k4) out st wu) (h1:Below W0.heap.size W0 wu) (hW:W0.heap.size<W.heap.size)
    (hj:Blk wu W0.heap.size #[.int .i64 0,.slice none 0 0,.slice none 0 0,.string ⟨#[]⟩,.int .i64 0] 44) :
    ReckCut W0 L (.pointer (some ⟨W0.heap.size,0,none⟩)) (((((wu.setCell ⟨W0.heap.size,0,none⟩ (.int .i64 er)).setCell ⟨W0.heap.size,1,none⟩ (.slice a1 n1 k1)).setCell ⟨W0.heap.size,2,none⟩ (.slice a4 n4 k4)).setCell ⟨W0.heap.size,3,none⟩ (.string out)).setCell ⟨W0.heap.size,4,none⟩ (.int .i64 st)):=by
  refine⟨W0.heap.size,er,a1,n1,k1,a4,n4,k4,out,st,rfl,out_set hj rfl,(h.yes reckLim).1,fun h0=>?_,((((h1.setCell (Nat.le_refl _) _).setCell (Nat.le_refl _) _).setCell (Nat.le_refl _) _).setCell (Nat.le_refl _) _).setCell (Nat.le_refl _) _⟩
  obtain⟨o1,_,o3,_⟩:=h.ok reckLim h0
  have hne:(Value.slice a1 n1 k1).ownBlock≠some W0.heap.size:=fun e=>by
    have:=(ownsRow_lt o1 e).2
    omega
  obtain⟨i1,i2⟩:=ints_row (ownsRow_far (ownsRow_far (ownsRow_far (ownsRow_far (ownsRow_far o1 (a:=⟨W0.heap.size,0,none⟩) hne _) (a:=⟨W0.heap.size,1,none⟩) hne _) (a:=⟨W0.heap.size,2,none⟩) hne _) (a:=⟨W0.heap.size,3,none⟩) hne _) (a:=⟨W0.heap.size,4,none⟩) hne _)
  exact⟨i1,i2,by rw[i2];exact o3⟩
theorem CodeRes.sz {W wu:World} {l:List (Int×Int)} {p:Nat} {en ce ls la lc lo fuel er:Int} {vS vC:Value} {out:ByteArray} {st:Int} (_:CodeRes W l p en ce ls la lc lo fuel er vS vC out st wu) {n:Nat} (h:n<W.heap.size):Hid (n<W.heap.size):=V h
theorem reck_no {row:List (Int×Int)} {x:Int×Int} (hx:row.getD 0 (0,0)=x) (h:x.1≠0∨row.all reckS=false):reckonedS row=none:=by
  unfold reckonedS
  rw[hx,if_pos h]
theorem reck_bad {row:List (Int×Int)} (h:(reckRun row).2.1≠0∨row.length≤(reckRun row).1.stack.length):reckonedS row=none:=by
  unfold reckonedS
  split
  · rfl
  · first
    | rfl
    | rw[if_pos h]
theorem reck_yes {row:List (Int×Int)} {x:Int×Int} (hx:row.getD 0 (0,0)=x) (h0:x.1=0) (h1:row.all reckS=true) (h2:(reckRun row).2.1=0) (h3:¬ row.length≤(reckRun row).1.stack.length):reckonedS row=some ((reckRun row).1.stack.map (fun p=>((0:Int),p))):=by
  unfold reckonedS
  rw[hx,if_neg (by rw[h1];simp[h0]),if_neg (by rw[h2];simp;omega)]
theorem reckoned_any (fb tb : Nat) (rv : Value) (ao : Option Addr) (c : Nat) (row : List (Int × Int)) (w : World) (hf : FoldAt w fb tb rv) (ht : Lib.TabIs Tryz.prog w "internal/strconv.uint64pow10" .u64 Lib.pow10Tab) (hin : InL w ao row) (hpos : 0 < row.length) (hn : row.length ≤ 1000) (hi : ∀ x ∈ row, inI x.2) :
    Calls Tryz.prog 198 #[.pointer (some ⟨fb,0,none⟩),.slice ao row.length c] w fun e w'=>RuleOut w.heap.size w' (reckonedS row) e∧Below w.heap.size w w':=by
  obtain⟨x,hx⟩:∃ x,row[0]? = some x:=⟨_,List.getElem?_eq_getElem hpos⟩
  have hx0:row.getD 0 (0,0)=x:=by simp[List.getD,hx]
  have hnI:(row.length:Int)≤1000:=by omega
  have hposI:(0:Int)<row.length:=by omega
  generalize hres:reckonedS row=res
  have HRS:=V hres
  obtain⟨g,off,rfl,hgl,c1,c2⟩:=in_at hin hx
  simp only[Nat.zero_mul,Nat.add_zero]at c1 c2
  by_cases h0:x.1=0
  · rw[h0]at c1
    have HAR:=V (areReckoning_any (some ⟨g,off,none⟩) c row w hin (by omega))
    have hall:∀ q,row.all reckS=q→q=true∨q=false:=fun q _=>by cases q<;>simp
    cases hq:row.all reckS with
    | false =>
      have hr0:=(U HRS).symm.trans (reck_no hx0 (Or.inr hq))
      subst hr0
      rw[hq]at HAR
      clear hf ht hin hi hx hx0 h0 hq hall hres
      go_enter Tryz.func198,Tryz.ntmps198
      go_wp2_with fail
      refine (U HAR).mono ?_
      rintro e w1 ⟨rfl,hb1⟩
      have HB1:=V hb1
      clear hb1 HAR
      go_wp2_with fail
      go_ret2
      exact⟨rfl,U HB1⟩
    | true =>
      have HYS:Hid ((reckRun row).2.1=0→¬ row.length≤(reckRun row).1.stack.length→res=some ((reckRun row).1.stack.map (fun p=>((0:Int),p)))):=fun u1 u2=>(U HRS).symm.trans (reck_yes hx0 h0 hq u1 u2)
      have HNS:Hid ((reckRun row).2.1≠0∨row.length≤(reckRun row).1.stack.length→res=none):=fun u=>(U HRS).symm.trans (reck_bad u)
      rw[hq]at HAR
      have HOK:=V (reck_ok hq hi hn)
      have HF:=V hf
      have HT:=V (Lib.tabBelow_of_tabIs ht)
      have HIN:=V hin
      clear hf ht hin hi hx hx0 h0 hq hall hres HRS
      go_enter Tryz.func198,Tryz.ntmps198
      go_wp2_with fail
      refine (U HAR).mono ?_
      rintro e w1 ⟨rfl,hb1⟩
      have HB1:=V hb1
      have HOPS:=V (ops_out (some ⟨w1.heap.size,0,none⟩) 1 [5] (w1.alloc (.cells #[.int .i64 5] 3)) (ints_new w1 _ [5] rfl _) (by simp))
      clear hb1 HAR
      go_wp2_with fail
      refine (U HOPS).mono ?_
      rintro e w2 ⟨a2,c2',rfl,ho2,hb2⟩
      have hb12:Below w1.heap.size w1 w2:=(below_box w1 _).trans (hb2.mono (below_box w1 _).size)
      have HB2:Hid (Below w.heap.size w w2):=(U HB1).trans (hb12.mono (U HB1).size)
      have hin2:=(U HIN).below (U HB2)
      have HCC:=V (concat_any w2.heap.size 2 [(some ⟨g,off,none⟩,c,row),(a2,c2',[(5,0)])] _ (rows_two w2 (some ⟨g,off,none⟩) a2 c c2' row [(5,0)] hin2 ho2.isIn.1 33) (by simp) (by simp[catS];omega))
      clear HOPS ho2 hb2 hb12 hin2
      have ecat:catS [(some (⟨g,off,none⟩:Addr),c,row),(a2,c2',[((5:Int),(0:Int))])]=row++[(5,0)]:=by simp[catS]
      rw[ecat]at HCC
      clear ecat
      obtain⟨L,hL⟩:∃ L,L=row++[((5:Int),(0:Int))]:=⟨_,rfl⟩
      rw[← hL]at HCC HOK
      have hLl:L.length=row.length+1:=by rw[hL];simp
      have HL:=V hL
      have HLL:=V hLl
      have hL1:0<L.length:=by omega
      have hL2:L.length≤1001:=by omega
      clear hL hLl
      go_wp2_with fail
      refine (U HCC).mono ?_
      rintro e w3 ⟨a3,c3,rfl,ho3,hb3⟩
      have HB3:Hid (Below w.heap.size w w3):=(U HB2).trans (((below_box w2 _).trans (hb3.mono (below_box w2 _).size)).mono (U HB2).size)
      have ho3':w3.ownsRow 0 65 2 (.slice a3 L.length c3) L.length (instrCells L):=ownsRow_base ho3 (Nat.zero_le _)
      obtain⟨g3,c3',e3,_,_⟩:=ho3'.form (by omega)
      simp only[Value.slice.injEq,true_and]at e3
      obtain⟨rfl,rfl⟩:=e3
      have HLA:=V (ListAt.ofRow ho3')
      clear HCC ho3 hb3 ho3'
      have hbA:=below_box2 w3 (.cells #[.slice (some ⟨g3,0,none⟩) L.length c3,.int .i64 0,.int .i64 0] 73) (.cells #[.int .i64 1000,.int .i64 1000,.int .i64 1000,.int .i64 1000] 39)
      have hPb:Blk ((w3.alloc (.cells #[.slice (some ⟨g3,0,none⟩) L.length c3,.int .i64 0,.int .i64 0] 73)).alloc (.cells #[.int .i64 1000,.int .i64 1000,.int .i64 1000,.int .i64 1000] 39)) w3.heap.size #[.slice (some ⟨g3,0,none⟩) L.length c3,.int .i64 0,.int .i64 0] 73:=(Blk.new w3 _ _).alloc _
      have hLb:=blk_two w3 (.cells #[.slice (some ⟨g3,0,none⟩) L.length c3,.int .i64 0,.int .i64 0] 73) #[.int .i64 1000,.int .i64 1000,.int .i64 1000,.int .i64 1000] 39
      have HBA:=V hbA
      have HPB:=V hPb
      have HLB:=V hLb
      clear hbA hPb hLb
      go_wp2_with fail
      generalize (w3.alloc (.cells #[.slice (some ⟨g3,0,none⟩) L.length c3,.int .i64 0,.int .i64 0] 73)).alloc (.cells #[.int .i64 1000,.int .i64 1000,.int .i64 1000,.int .i64 1000] 39)=W0 at *
      have HBW0:Hid (Below w.heap.size w W0):=(U HB3).trans ((U HBA).mono (U HB3).size)
      have hfo:=((U HF).below (U HBW0)).1
      have hcf:=hfo.cell
      have hlf:=hfo.lt
      have hcp:=(U HPB).cell
      have hlp:=(U HPB).lt
      have hcl:=(U HLB).cell
      have hll:=(U HLB).lt
      have HRUN:Hid (∀ W,Below W0.heap.size W0 W→Calls Tryz.prog 40 #[.pointer (some ⟨tb,0,none⟩),.agg #[.slice (some ⟨g3,0,none⟩) L.length c3,.int .i64 0,.int .i64 0],.agg #[.int .i64 1000,.int .i64 1000,.int .i64 1000,.int .i64 1000],.int .i64 L.length] W (CodeOut W L 0 0 0 1000 1000 1000 1000 L.length)):=fun W hW=>by
        have hbW:Below w.heap.size w W:=(U HBW0).trans (hW.mono (U HBW0).size)
        have hla:=((U HLA).to (U HBA))
        have hla2:=hla.to (hW.mono (U HBA).size)
        have hsz:w3.heap.size≤W.heap.size:=Nat.le_trans (U HBA).size hW.size
        exact tableRun_all tb g3 c3 0 L 0 0 1000 1000 1000 1000 L.length W ((U HF).below hbW).2 (U HT W hbW) ⟨Nat.lt_of_lt_of_le hla2.low hsz,hla2.cell⟩ (U HOK) (by omega) (by omega) (by omega)
      have HSK:Hid (∀ w',Below W0.heap.size W0 w'→w'.cell? ⟨fb,0,none⟩=some (.pointer (some ⟨tb,0,none⟩))∧w'.cell? ⟨w3.heap.size,0,none⟩=some (.slice (some ⟨g3,0,none⟩) L.length c3)∧w'.cell? ⟨w3.heap.size,1,none⟩=some (.int .i64 0)∧w'.cell? ⟨w3.heap.size,2,none⟩=some (.int .i64 0)∧w'.cell? ⟨w3.heap.size+1,0,none⟩=some (.int .i64 1000)∧w'.cell? ⟨w3.heap.size+1,1,none⟩=some (.int .i64 1000)∧w'.cell? ⟨w3.heap.size+1,2,none⟩=some (.int .i64 1000)∧w'.cell? ⟨w3.heap.size+1,3,none⟩=some (.int .i64 1000)):=fun W hW=>by
        have hf2:=hfo.below hW hfo.lt
        have hp2:=(U HPB).below hW (U HPB).lt
        have hl2:=(U HLB).below hW (U HLB).lt
        exact⟨hf2.cell 0,hp2.cell 0,hp2.cell 1,hp2.cell 2,hl2.cell 0,hl2.cell 1,hl2.cell 2,hl2.cell 3⟩
      clear hfo
      go_cut [8] from 26 to 49 (fun s8 wc=>ReckCut W0 L s8 wc)
      case first =>
        go_region_held_law (fun w'=>w'.cell? ⟨fb,0,none⟩=some (.pointer (some ⟨tb,0,none⟩))∧w'.cell? ⟨w3.heap.size,0,none⟩=some (.slice (some ⟨g3,0,none⟩) L.length c3)∧w'.cell? ⟨w3.heap.size,1,none⟩=some (.int .i64 0)∧w'.cell? ⟨w3.heap.size,2,none⟩=some (.int .i64 0)∧w'.cell? ⟨w3.heap.size+1,0,none⟩=some (.int .i64 1000)∧w'.cell? ⟨w3.heap.size+1,1,none⟩=some (.int .i64 1000)∧w'.cell? ⟨w3.heap.size+1,2,none⟩=some (.int .i64 1000)∧w'.cell? ⟨w3.heap.size+1,3,none⟩=some (.int .i64 1000)) (first
          | with_reducible exact U HSK _ (U H1)
          | with_reducible exact U HSK _ ((U H1).trans ((below_box _ _).mono (U H1).size))
          | with_reducible exact U HSK _ ((((((U H1).setCell (Nat.le_refl _) _).setCell (Nat.le_refl _) _).setCell (Nat.le_refl _) _).setCell (Nat.le_refl _) _).setCell (Nat.le_refl _) _)
          | with_reducible exact U HSK _ (by (repeat (first|with_reducible refine below_drew ?_|with_reducible refine below_drawn ?_ _|with_reducible refine below_longer ?_ _|(with_reducible refine Below.alloc ?_ ?_ _;rotate_left;(first|omega|((repeat (first|rw[World.size_up]|rw[World.size_dr]|rw[World.size_drN]))<;>omega)))));(with_reducible exact Below.refl _ _))) (first
          | (refine step_call rfl 40 #[.tmp 29,.tmp 30,.tmp 31,.tmp 34] #[82,73,39,3] rfl Tryz.func40 Tryz.name40 Tryz.body40 #[.pointer (some ⟨tb,0,none⟩),.agg #[.slice (some ⟨g3,0,none⟩) L.length c3,.int .i64 0,.int .i64 0],.agg #[.int .i64 1000,.int .i64 1000,.int .i64 1000,.int .i64 1000],.int .i64 L.length] (by first|rfl|(simp[Act.eval];done)|(simp[Act.eval,Act.put];done)) (U HRUN _ (by (repeat (first|with_reducible refine below_drew ?_|with_reducible refine below_drawn ?_ _|with_reducible refine below_longer ?_ _|(with_reducible refine Below.alloc ?_ ?_ _;rotate_left;(first|omega|((repeat (first|rw[World.size_up]|rw[World.size_dr]|rw[World.size_drN]))<;>omega)))));(with_reducible exact Below.refl _ _))) ?_;rintro e wu hout;obtain⟨er,a1,n1,k1,a4,n4,k4,out,st,rfl,hres⟩:=hout.res;have hjb:Blk wu W0.heap.size #[.int .i64 0,.slice none 0 0,.slice none 0 0,.string ⟨#[]⟩,.int .i64 0] 44:=Blk.below (by (repeat (first|with_reducible refine Blk.drew ?_|with_reducible refine Blk.drewN ?_ _|(with_reducible refine blk_newAt _ _ ?_;(first|omega|((repeat (first|rw[World.size_up]|rw[World.size_dr]|rw[World.size_drN]))<;>omega)))|with_reducible refine Blk.alloc ?_ _));(first|done|with_reducible assumption)) hres.below (by simp);have hcj:=hjb.cell;have hfj:=hjb.free;have hlj:=hjb.lt;have HJ:=V hjb;clear hjb;have H1:Hid (Below W0.heap.size W0 wu):=Below.trans (by (repeat (first|with_reducible refine below_drew ?_|with_reducible refine below_drawn ?_ _|with_reducible refine below_longer ?_ _|(with_reducible refine Below.alloc ?_ ?_ _;rotate_left;(first|omega|((repeat (first|rw[World.size_up]|rw[World.size_dr]|rw[World.size_drN]))<;>omega)))));(with_reducible exact Below.refl _ _)) (hres.below.mono (by simp));have HRES:=V hres;have HSZ:Hid (W0.heap.size<_):=hres.sz (by simp);clear hres hout;refine⟨_,rfl,?_⟩)
          | (refine step_call rfl 40 #[.tmp 29,.tmp 30,.tmp 31,.tmp 34] #[82,73,39,3] rfl Tryz.func40 Tryz.name40 Tryz.body40 #[.pointer (some ⟨tb,0,none⟩),.agg #[.slice (some ⟨g3,0,none⟩) L.length c3,.int .i64 0,.int .i64 0],.agg #[.int .i64 1000,.int .i64 1000,.int .i64 1000,.int .i64 1000],.int .i64 L.length] (by first|rfl|(simp[Act.eval];done)|(simp[Act.eval,Act.put];done)) (U HRUN _ (by (repeat (first|with_reducible refine below_drew ?_|with_reducible refine below_drawn ?_ _|with_reducible refine below_longer ?_ _|(with_reducible refine Below.alloc ?_ ?_ _;rotate_left;(first|omega|((repeat (first|rw[World.size_up]|rw[World.size_dr]|rw[World.size_drN]))<;>omega)))));(with_reducible exact Below.refl _ _))) ?_;rintro e wu hout;obtain⟨er,a1,n1,k1,a4,n4,k4,out,st,rfl,hres⟩:=hout.res;have H1:Hid (Below W0.heap.size W0 wu):=Below.trans (by (repeat (first|with_reducible refine below_drew ?_|with_reducible refine below_drawn ?_ _|with_reducible refine below_longer ?_ _|(with_reducible refine Below.alloc ?_ ?_ _;rotate_left;(first|omega|((repeat (first|rw[World.size_up]|rw[World.size_dr]|rw[World.size_drN]))<;>omega)))));(with_reducible exact Below.refl _ _)) (hres.below.mono (by simp));have HRES:=V hres;clear hres hout;refine⟨_,rfl,?_⟩))
        all_goals
          go_wp2_with fail
          go_meet
          first
          | with_reducible exact ReckCut.new (U HRES) (U H1)
          | with_reducible exact ReckCut.old (U HRES) (U H1) (U HSZ) (U HJ)
      case rest =>
        obtain⟨q,er,a1,n1,k1,a4,n4,k4,out,st,rfl,hq,her,hst,hbc⟩:=hcut
        obtain⟨w5,rfl⟩:∃ w5:World,w5=wc:=⟨_,rfl⟩
        have hrr:reckRun row=runM L (L.length:Int).toNat 0 (startM 0 1000 1000 1000 1000 0 0):=by
          unfold reckRun
          rw[← U HL,← U HLL,Int.toNat_natCast]
        rw[← hrr]at her hst
        have HER:=V her
        have HST:=V hst
        have HB5:Hid (Below w.heap.size w w5):=(U HBW0).trans (hbc.mono (U HBW0).size)
        have hcq:=hq.cell
        have hlq:=hq.lt
        clear hq hbc her hst hrr HRUN HSK hcf hlf hcp hlp hcl hll c1 c2
        by_cases he:er=0
        · subst he
          obtain⟨i1,i2,i3⟩:=U HST rfl
          have HI1:=V i1
          by_cases hle:row.length≤n1
          · have hleI:(row.length:Int)≤n1:=by omega
            have HI2:=V i2
            clear i1 i2
            go_wp2_with fail
            go_ret2
            rw[U HNS (Or.inr (by rw[← U HI2];exact hle))]
            exact⟨rfl,U HB5⟩
          · have hleI:¬ ((row.length:Int)≤n1):=by omega
            have hlt0:(n1:Int)<row.length:=by omega
            have HLT:=V (lits_out a1 k1 (reckRun row).1.stack w5 i1 (by omega))
            rw[← i2]at HLT
            have HI2:=V i2
            have HER':Hid ((reckRun row).2.1=0):=(U HER).symm
            clear i1 i2
            go_wp2_with fail
            refine (U HLT).mono ?_
            rintro e w6 ⟨a6,c6,rfl,ho6,hb6⟩
            have HO6:=V ho6
            have HB6:=V hb6
            clear HLT ho6 hb6
            go_wp2_with fail
            go_ret2
            rw[U HYS (U HER') (by rw[← U HI2];exact hle)]
            refine⟨⟨.slice a6 (reckRun row).1.stack.length c6,rfl,?_⟩,(U HB5).trans ((U HB6).mono (U HB5).size)⟩
            have h6:=U HO6
            unfold OwnI at h6
            rw[List.length_map]at h6 ⊢
            exact ownsRow_base h6 (U HB5).size
        · have he':(er != 0)=true:=by simpa using he
          go_wp2_with fail
          go_ret2
          rw[U HNS (Or.inl (by rw[← U HER];exact he))]
          exact⟨rfl,U HB5⟩
  · have hr0:=(U HRS).symm.trans (reck_no hx0 (Or.inl h0))
    subst hr0
    have h0':(x.1 != 0)=true:=by simpa using h0
    clear hf ht hin hi hx hx0 h0 hres HRS
    go_enter Tryz.func198,Tryz.ntmps198
    go_wp2_with fail
    go_ret2
    exact⟨rfl,Below.refl _ _⟩
def IntsB (w:World) (so:Option Addr) (ps:List Int):Prop:=ps=[]∨∃ q,so=some ⟨q,0,none⟩∧Blk w q (ps.map (Value.int .i64)).toArray 3
theorem IntsB.ints {w:World} {so:Option Addr} {ps:List Int} (h:IntsB w so ps):IntsL w so ps:=by
  rcases h with h|⟨q,h1,h2⟩
  · exact Or.inl h
  · refine Or.inr ⟨q,h1,h2.lt,fun j p hj=>?_⟩
    rw[h2.cell]
    simp[hj]
theorem IntsB.below {w w':World} {so:Option Addr} {ps:List Int} (h:IntsB w so ps) (hb:Below w.heap.size w w'):IntsB w' so ps:=by
  rcases h with h|⟨q,h1,h2⟩
  · exact Or.inl h
  · exact Or.inr ⟨q,h1,h2.below hb h2.lt⟩
theorem blk_apart {w:World} {a b:Nat} {cs ds:Array Value} {T U:TypeId} (h:Blk w a cs T) (k:Blk w b ds U) (hT:T≠U):a≠b:=by
  intro e
  subst e
  exact hT (blk_type h k)
def IsAt (w:World) (v:Value) (pat:List (Int×Int)) (short:List Int):Prop:=∃ b1 b2 po pc so sc,v=.func (.func 228) #[] #[.pointer (some ⟨b1,0,none⟩),.pointer (some ⟨b2,0,none⟩)]∧Blk w b1 #[.slice po pat.length pc] 33∧Blk w b2 #[.slice so short.length sc] 115∧OwnI 0 w (.slice po pat.length pc) pat∧IntsB w so short
theorem IsAt.below {w w':World} {v:Value} {pat:List (Int×Int)} {short:List Int} (h:IsAt w v pat short) (hb:Below w.heap.size w w'):IsAt w' v pat short:=by
  obtain⟨b1,b2,po,pc,so,sc,h1,h2,h3,h4,h5⟩:=h
  exact⟨b1,b2,po,pc,so,sc,h1,h2.below hb h2.lt,h3.below hb h3.lt,h4.below hb,h5.below hb⟩
theorem IsAt.far {w:World} {v:Value} {pat:List (Int×Int)} {short:List Int} (h:IsAt w v pat short) {b:Nat} {cs:Array Value} {T:TypeId} (hb:Blk w b cs T) (h1:33≠T) (h2:115≠T) (h3:65≠T) (h4:3≠T) (i:Nat) (u:Value):IsAt (w.setCell ⟨b,i,none⟩ u) v pat short:=by
  obtain⟨b1,b2,po,pc,so,sc,e,k2,k3,k4,k5⟩:=h
  refine⟨b1,b2,po,pc,so,sc,e,k2.far (a:=⟨b,i,none⟩) (blk_apart k2 hb h1) _,k3.far (a:=⟨b,i,none⟩) (blk_apart k3 hb h2) _,ownsRow_far k4 (a:=⟨b,i,none⟩) (row_not_blk hb k4 h3) _,?_⟩
  rcases k5 with k5|⟨q,k6,k7⟩
  · exact Or.inl k5
  · exact Or.inr ⟨q,k6,k7.far (a:=⟨b,i,none⟩) (blk_apart k7 hb h4) _⟩
def RuleV (w:World) (spec:List (Int×Int)→Option (List (Int×Int))) (v:Value):Prop :=
  ∃ F bound cap, v = .func (.func F) bound cap ∧ (∃ fn : Func, Tryz.prog.funcs[F]? = some fn ∧ (fn.name == "runtime.NumGoroutine") = false ∧ fn.body.isNone = false) ∧
  ∀ w', Below w.heap.size w w' → ∀ ao c row, InL w' ao row → 0 < row.length → row.length ≤ 1000 → (∀ x ∈ row, inI x.2) →
    Calls Tryz.prog F (bound++#[.slice ao row.length c]++cap) w' fun e w''=>RuleOut w'.heap.size w'' (spec row) e∧Below w'.heap.size w' w''
theorem IsAt.rule {w:World} {v:Value} {pat:List (Int×Int)} {short:List Int} (h:IsAt w v pat short) (hp:pat.length≤1000∧short.length≤1000):RuleV w (isS pat short) v:=by
  obtain⟨b1,b2,po,pc,so,sc,rfl,h2,h3,h4,h5⟩:=h
  refine⟨_,_,_,rfl,⟨_,Tryz.func228,by kernel_rfl,by kernel_rfl⟩,fun w' hw' ao c row hin _ hl _=>?_⟩
  exact is1_any ao po so c pc sc _ _ row pat short w' hin (h4.below hw').isIn.1 (h5.below hw').ints (h2.below hw' h2.lt) (h3.below hw' h3.lt) ⟨by omega,by omega,hp.2⟩
theorem RuleV.below {w w':World} {s:List (Int×Int)→Option (List (Int×Int))} {v:Value} (h:RuleV w s v) (hb:Below w.heap.size w w'):RuleV w' s v:=by
  obtain⟨F,bound,cap,h1,h2,h3⟩:=h
  exact⟨F,bound,cap,h1,h2,fun w'' hw''=>h3 w'' (hb.trans (hw''.mono hb.size))⟩
theorem is_at (po so:Option Addr) (pc sc:Nat) (pat:List (Int×Int)) (short:List Int) (w:World) (hpat:OwnI 0 w (.slice po pat.length pc) pat) (hsh:IntsB w so short) :
    Calls Tryz.prog 201 #[.slice po pat.length pc,.slice so short.length sc] w fun e w'=>∃ v,e=.returned v∧IsAt w' v pat short∧Below w.heap.size w w':=by
  have hb:=below_box2 w (.cells #[.slice po pat.length pc] 33) (.cells #[.slice so short.length sc] 115)
  have H:Hid (IsAt ((w.alloc (.cells #[.slice po pat.length pc] 33)).alloc (.cells #[.slice so short.length sc] 115)) (.func (.func 228) #[] #[.pointer (some ⟨w.heap.size,0,none⟩),.pointer (some ⟨w.heap.size+1,0,none⟩)]) pat short) :=
    ⟨_,_,po,pc,so,sc,rfl,(Blk.new w _ _).alloc _,blk_two w _ _ _,hpat.below hb,hsh.below hb⟩
  have HB:=V hb
  clear hpat hsh hb
  go_enter Tryz.func201,Tryz.ntmps201
  go_wp2_with fail
  go_ret
  exact⟨_,rfl,U H,U HB⟩
def IsList (w:World) (vs:List Value) (sp:List (List (Int×Int)×List Int)):Prop:=vs.length=sp.length∧∀ (j:Nat) (v:Value) (s:List (Int×Int)×List Int),vs[j]? = some v→sp[j]? = some s→IsAt w v s.1 s.2
theorem IsList.cons {w w':World} {vs:List Value} {sp:List (List (Int×Int)×List Int)} (h:IsList w vs sp) (hb:Below w.heap.size w w') {v:Value} {pat:List (Int×Int)} {short:List Int} (hv:IsAt w' v pat short):IsList w' (v :: vs) ((pat,short) :: sp):=by
  refine⟨by simp[h.1],fun j u s hu hs=>?_⟩
  cases j with
  | zero=>simp at hu hs;subst hu hs;exact hv
  | succ j=>exact (h.2 j u s (by simpa using hu) (by simpa using hs)).below hb
theorem IsList.nil (w:World):IsList w [] []:=⟨rfl,fun j v s h=>by simp at h⟩
def RulesAt (w:World) (rb:Nat):Prop:=rb<w.heap.size∧∀ j r,rulesS[j]? = some r→∃ v,w.cell? ⟨rb,j,none⟩=some v∧RuleV w r v
def FolderAt (w:World) (fb tb rb:Nat):Prop:=FoldAt w fb tb (.slice (some ⟨rb,0,none⟩) 25 25)∧RulesAt w rb
theorem FolderAt.below {w w':World} {fb tb rb:Nat} (h:FolderAt w fb tb rb) (hb:Below w.heap.size w w'):FolderAt w' fb tb rb:=by
  refine⟨h.1.below hb,by have:=h.2.1;have:=hb.size;omega,fun j r hr=>?_⟩
  obtain⟨v,h1,h2⟩:=h.2.2 j r hr
  exact⟨v,by rw[hb.cell (by simpa using h.2.1)];exact h1,h2.below hb⟩
end Go.Proofs.YtmeiikjpaepogaaGreatDoor
