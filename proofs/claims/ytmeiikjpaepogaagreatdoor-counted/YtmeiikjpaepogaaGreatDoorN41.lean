/- The program's options: Super: fewest. -/
import Derived.Test.YtmeiikjpaepogaaGreatDoorN39
import Derived.Deep.RegionHeld
import Derived.Test.YtmeiikjpaepogaaGreatDoorN34
import Derived.Test.YtmeiikjpaepogaaGreatDoorN37
import Derived.Test.YtmeiikjpaepogaaGreatDoorN40
import Derived.Test.YtmeiikjpaepogaaGreatDoorN36
set_option maxRecDepth 100000
set_option maxHeartbeats 16000000
namespace Go.Proofs.YtmeiikjpaepogaaGreatDoor
open Go Go.RowKit
abbrev FewS (w:World) (g off i:Nat) (x1 x2 s0:Int) (w':World):Prop:=w'.cell? ⟨g,off+i * 2,none⟩=some (.int .i64 x1)∧w'.cell? ⟨g,off+i * 2+1,none⟩=some (.int .i64 x2)∧w'.cell? ⟨w.heap.size+1,i+1,none⟩=some (.int .i64 s0)
theorem FewS.set {w:World} {g off i:Nat} {x1 x2 s0:Int} {w':World} (h:FewS w g off i x1 x2 s0 w') {b j:Nat} (hb:b≠g) (hj:¬ (b=w.heap.size+1∧j=i+1)) (v:Value):FewS w g off i x1 x2 s0 (w'.setCell ⟨b,j,none⟩ v):=by
  obtain⟨h1,h2,h3⟩:=h
  refine⟨?_,?_,?_⟩
  · rw[World.cell?_setCell_other _ _ _ _ (by intro e;simp only[Addr.mk.injEq]at e;exact hb e.1)];exact h1
  · rw[World.cell?_setCell_other _ _ _ _ (by intro e;simp only[Addr.mk.injEq]at e;exact hb e.1)];exact h2
  · rw[World.cell?_setCell_other _ _ _ _ (by intro e;simp only[Addr.mk.injEq]at e;exact hj ⟨e.1,e.2.1⟩)];exact h3
theorem fewest_any (ao:Option Addr) (c:Nat) (row:List (Int×Int)) (w:World) (hin:InL w ao row) (hn:row.length≤100000) (hcap:row.length≤c) :
    Calls Tryz.prog 86 #[.slice ao row.length c] w (RowOut w (fewestS row)):=by
  have hnI:(row.length:Int)≤100000:=by omega
  have hcapI:(row.length:Int)≤c:=by omega
  have hmp:=run_makeP row.length (by omega)
  have hmn:=run_makeN (row.length+1) (by omega)
  rw[show ((row.length+1:Nat):Int)=(row.length:Int)+1 by omega]at hmn
  have hbP:=below_box w (.cells (madeCells #[.int .i64 0,.int .i64 0,.int .i64 0] (row.length * 3)) 211)
  have hbN:=below_box (w.alloc (.cells (madeCells #[.int .i64 0,.int .i64 0,.int .i64 0] (row.length * 3)) 211)) (.cells (madeCells #[.int .i64 0] ((row.length+1) * 1)) 3)
  have hop:=(made_pieces w row.length (by omega)).below hbN
  have hon:=made_nums (w.alloc (.cells (madeCells #[.int .i64 0,.int .i64 0,.int .i64 0] (row.length * 3)) 211)) (row.length+1) (by omega)
  have hsz:(w.alloc (.cells (madeCells #[.int .i64 0,.int .i64 0,.int .i64 0] (row.length * 3)) 211)).heap.size=w.heap.size+1:=by simp
  rw[hsz]at hon
  have hb0:=hbP.trans (hbN.mono hbP.size)
  have hs0:bestL row row.length=List.replicate row.length ((0:Int),(0:Int),(0:Int)):=by unfold bestL;simp[few]
  have hs1:sizeL row row.length=List.replicate (row.length+1) 0:=by unfold sizeL sizesS;simp[few,List.replicate_succ']
  rw[← hs0]at hop
  rw[← hs1]at hon
  simp only[Nat.mul_one]at hmn hb0 hop hon
  have HOP:=V hop
  have HON:Hid (OwnN w.heap.size _ _ _):=ownsRow_base hon (by omega)
  have HB0:=V hb0
  have HIN:=V hin
  have hsub0:IntKind.i64.wrap ((row.length:Int)-1)=(row.length:Int)-1:=by rw[IntKind.wrap_i64];omega
  clear hbP hbN hop hon hb0 hs0 hs1 hin hsz
  go_enter Tryz.func86,Tryz.ntmps86
  go_wp2_with fail
  generalize ((w.alloc (.cells (madeCells #[.int .i64 0,.int .i64 0,.int .i64 0] (row.length * 3)) 211)).alloc (.cells (madeCells #[.int .i64 0] (row.length+1)) 3))=W0 at *
  go_loopw [5] (fun v wr=>∃ j:Nat,v=.int .i64 ((j:Int)-1)∧j≤row.length∧OwnP w.heap.size wr w.heap.size (bestL row j)∧OwnN w.heap.size wr (w.heap.size+1) (sizeL row j)∧Below w.heap.size w wr) (fun v _=>(intOf v+1).toNat)
  case atStart=>exact⟨row.length,rfl,Nat.le_refl _,U HOP,U HON,U HB0⟩
  case round =>
    clear hmp hmn
    obtain⟨j,rfl,hj,hop,hon,hbw⟩:=hrel
    cases j with
    | zero =>
      have hdr:row.drop 0=row:=List.drop_zero
      have hbl:bestL row 0=(few row).map Prod.fst:=by unfold bestL;rw[hdr];rfl
      rw[hbl]at hop
      have hfl:((few row).map Prod.fst).length=row.length:=by rw[List.length_map,few_len]
      have hfo:∀ p∈(few row).map Prod.fst,1≤p.2.2∧p.2.2≤3:=fun p hp=>by
        obtain⟨b,hb,rfl⟩:=List.mem_map.1 hp
        have:=(few_ok row b hb).1
        omega
      have HRES:Hid (pickGo ((few row).map Prod.fst) row.length 0=fewestS row):=rfl
      generalize (few row).map Prod.fst=best at *
      have HOP2:=V hop
      have HFO:=V hfo
      have HBW:=V hbw
      obtain⟨w1,hw1⟩:∃ w1:World,w1=wr:=⟨_,rfl⟩
      rw[← hw1]at HOP2 HBW ⊢
      clear hop hon hbw hdr hbl hw1 hfo
      go_wp2_with fail
      go_loopw [9,10] (fun v i wr=>∃ (acc:List (Int×Int)) (a:Option Addr) (c:Nat) (k f:Nat),v=.slice a acc.length c∧i=.int .i64 k∧OwnI w1.heap.size wr (.slice a acc.length c) acc∧acc++pickGo best f k=fewestS row∧row.length≤k+f∧acc.length≤k∧k≤row.length+3∧Below w1.heap.size w1 wr) (fun _ i _=>row.length+3-(intOf i).toNat)
      case atStart=>exact⟨[],none,0,0,row.length,rfl,rfl,World.ownsRow_nil _ _ _ _,by rw[List.nil_append];exact U HRES,by omega,Nat.le_refl _,by omega,Below.refl _ _⟩
      case round =>
        obtain⟨acc,a,c1,k,f,rfl,rfl,hown,hgo,hkf,hak,hk3,hb1⟩:=hrel
        have HOWN:=V hown
        have HB1:=V hb1
        by_cases hlt:k<row.length
        · obtain⟨f',rfl⟩:∃ f',f=f'+1:=⟨f-1,by omega⟩
          obtain⟨p,hp⟩:∃ p,best[k]? = some p:=⟨_,List.getElem?_eq_getElem (by omega)⟩
          have hgo2:(acc++[(p.1,p.2.1)])++pickGo best f' (k+p.2.2.toNat)=fewestS row:=by
            rw[← hgo]
            conv=>rhs;rw[pickGo]
            rw[hp]
            simp
          have hpo:=U HFO p (List.mem_of_getElem? hp)
          have hopw:=(U HOP2).below hb1
          obtain⟨c1',c2',c3'⟩:=hopw.cell hp
          have hlb:=hopw.lt.1
          have hltI:(k:Int)<row.length:=by omega
          have HOWA:=V (hown.below (below_box wr (.cells #[.int .i64 p.1,.int .i64 p.2.1] 65)))
          have HIX:Hid (InL (wr.alloc (.cells #[.int .i64 p.1,.int .i64 p.2.1] 65)) (some ⟨wr.heap.size,0,none⟩) [(p.1,p.2.1)]):=by
            have hbx:=Blk.new wr #[.int .i64 p.1,.int .i64 p.2.1] 65
            refine Or.inr ⟨wr.heap.size,0,rfl,hbx.lt,fun j u hj=>?_⟩
            rw[hbx.cell,Nat.zero_add]
            simpa [instrCells] using hj
          have HBA:Hid (Below w1.heap.size w1 (wr.alloc (.cells #[.int .i64 p.1,.int .i64 p.2.1] 65))):=hb1.trans ((below_box wr _).mono hb1.size)
          have HGO2:=V hgo2
          have HKP:Hid (∀ w3,Below w1.heap.size w1 w3→w3.cell? ⟨w.heap.size,k * 3+2,none⟩=some (.int .i64 p.2.2)∧w.heap.size<w3.heap.size):=fun w3 h3=>by
            have h4:=(U HOP2).below h3
            exact⟨(h4.cell hp).2.2,h4.lt.1⟩
          obtain⟨p1,p2,p3⟩:=p
          simp only at *
          obtain⟨pn,rfl⟩:∃ pn:Nat,p3=pn:=⟨p3.toNat,by omega⟩
          have hadd:IntKind.i64.wrap ((k:Int)+pn)=(k:Int)+pn:=by rw[IntKind.wrap_i64];omega
          rw[Int.toNat_natCast]at HGO2
          clear hown hgo hb1 hgo2 hp hopw
          go_wp2_with (at_builtin;refine wpList_appI rfl (.tmp 85) (.tmp 91) rfl w1.heap.size w1 _ acc [(p1,p2)] (some ⟨wr.heap.size,0,none⟩) 1 (by simp[Act.eval]) (by simp[Act.eval]) (U HOWA) (U HIX) (by simp;omega) (U HBA) (U HBA).size _ rfl ?_;intro a3 c3 w3 HO3 HB3;have hk3':=U HKP w3 (U HB3);obtain⟨t1,t2⟩:=hk3')
          go_roundw
          case rel =>
            refine⟨_,_,_,_,_,_,_,_,_,_,_,_,_,_,_,_,_,_,_,_,_,?_,rfl⟩
            exact⟨acc++[(p1,p2)],a3,c3,k+pn,f',by rw[List.length_append];rfl,by go_num,U HO3,U HGO2,by omega,by rw[List.length_append];simp;omega,by omega,U HB3⟩
          case measure=>simp[intOf];omega
        · have hres:acc=fewestS row:=by
            rw[← hgo]
            cases f with
            | zero=>simp[pickGo]
            | succ f =>
              rw[pickGo,List.getElem?_eq_none (by omega)]
              simp
          have HACC:=V hres
          have hnlt:¬ ((k:Int)<row.length):=by omega
          clear hown hgo hb1 hres
          go_wp2_with fail
          go_ret
          rw[← U HACC]
          exact⟨a,c1,rfl,(U HOWN).base (U HBW).size,(U HBW).trans ((U HB1).mono (U HBW).size)⟩
    | succ i =>
      have hiI:((i+1:Nat):Int)-1=(i:Int):=by omega
      rw[hiI]
      obtain⟨⟨x1,x2⟩,hx⟩:∃ x,row[i]? = some x:=⟨_,List.getElem?_eq_getElem (by omega)⟩
      obtain⟨w1,hw1⟩:∃ w1:World,w1=wr:=⟨_,rfl⟩
      subst hw1
      have hbl:=bestL_len row (i+1) hj
      have hsl:=sizeL_len row (i+1) hj
      have hfd:=few_done hx
      have hdc:row.drop i=(x1,x2) :: row.drop (i+1):=by
        have hi:=(List.getElem?_eq_some_iff.1 hx).1
        rw[List.drop_eq_getElem_cons hi,(List.getElem?_eq_some_iff.1 hx).2]
      have hsz0:(sizeL row (i+1))[i+1]? = some ((sizesS (few (row.drop (i+1)))).getD 0 0):=by
        unfold sizeL
        rw[List.getElem?_append_right (by simp),List.length_replicate,Nat.sub_self,List.getD_eq_getElem?_getD]
        unfold sizesS
        cases few (row.drop (i+1))<;>rfl
      obtain⟨g,off,rfl,hgl0,d10,d20⟩:=in_at (U HIN) hx
      have d1:w1.cell? ⟨g,off+i * 2,none⟩=some (.int .i64 x1):=by rw[hbw.cell (by simpa using hgl0)];exact d10
      have d2:w1.cell? ⟨g,off+i * 2+1,none⟩=some (.int .i64 x2):=by rw[hbw.cell (by simpa using hgl0)];exact d20
      have hgl:g<w1.heap.size:=by have:=hbw.size;omega
      have hgn1:g≠w.heap.size:=by omega
      have hgn2:g≠w.heap.size+1:=by omega
      have hgn3:w.heap.size≠g:=by omega
      have hgn4:w.heap.size+1≠g:=by omega
      obtain⟨bo,hbo⟩:∃ bo,(bestL row (i+1))[i]? = some bo:=⟨_,List.getElem?_eq_getElem (by omega)⟩
      obtain⟨so,hso⟩:∃ so,(sizeL row (i+1))[i]? = some so:=⟨_,List.getElem?_eq_getElem (by omega)⟩
      have hcs0:=hon.cell hso
      obtain⟨hcb1,hcb2,hcb3⟩:=hop.cell hbo
      have hff:=hop.free
      have hfn:=hon.free
      have hlp:=hop.lt.1
      have hln:=hon.lt.1
      have hiL:(i:Int)<row.length:=by omega
      have hiL1:(i:Int)<(row.length:Int)+1:=by omega
      have hiL2:(i:Int)+1<(row.length:Int)+1:=by omega
      have hi1:IntKind.i64.wrap ((i:Int)+1)=(i:Int)+1:=by rw[IntKind.wrap_i64];omega
      have hszs:=sizes_at (few (row.drop (i+1))) row.length (fun b hb=>(few_ok _ b hb).mono (by rw[List.length_drop];omega)) 0
      obtain⟨s0,hs0⟩:∃ s0,(sizesS (few (row.drop (i+1)))).getD 0 0=s0:=⟨_,rfl⟩
      rw[hs0]at hsz0 hszs
      have hcs:=hon.cell hsz0
      have hs01:IntKind.i64.wrap (s0+1)=s0+1:=by rw[IntKind.wrap_i64];omega
      have hop1:=hop.set i (by omega) x1 x2 1
      have hon1:=OwnN.set (ownsRow_far (ownsRow_far (ownsRow_far hon (a:=⟨w.heap.size,i * 3,none⟩) (by simp[Value.ownBlock]) (.int .i64 x1)) (a:=⟨w.heap.size,i * 3+1,none⟩) (by simp[Value.ownBlock]) (.int .i64 x2)) (a:=⟨w.heap.size,i * 3+2,none⟩) (by simp[Value.ownBlock]) (.int .i64 1)) i (s0+1)
      have hb1:Below w.heap.size w ((((w1.setCell ⟨w.heap.size,i * 3,none⟩ (.int .i64 x1)).setCell ⟨w.heap.size,i * 3+1,none⟩ (.int .i64 x2)).setCell ⟨w.heap.size,i * 3+2,none⟩ (.int .i64 1)).setCell ⟨w.heap.size+1,i,none⟩ (.int .i64 (s0+1))):=(((hbw.setCell (Nat.le_refl _) _).setCell (Nat.le_refl _) _).setCell (Nat.le_refl _) _).setCell (by simp) _
      have hop2:=ownsRow_far hop1 (a:=⟨w.heap.size+1,i,none⟩) (by simp[Value.ownBlock]) (.int .i64 (s0+1))
      have HOP1:Hid (OwnP w.heap.size _ w.heap.size _):=hop2
      have HON1:=V hon1
      have HB1:=V hb1
      have HFD:=V hfd
      have HDC:=V hdc
      have HX:=V hx
      have HS0:=V hs0
      have HS1:Hid (FewS w g off i x1 x2 s0 w1.drew):=⟨d1,d2,hcs⟩
      have hS0:FewS w g off i x1 x2 s0 w1:=⟨d1,d2,hcs⟩
      have hS2:=((hS0.set hgn3 (j:=i * 3) (by simp) (.int .i64 x1)).set hgn3 (j:=i * 3+1) (by simp) (.int .i64 x2)).set hgn3 (j:=i * 3+2) (by simp) (.int .i64 1)
      have hS3:=hS2.set hgn4 (j:=i) (by simp) (.int .i64 (s0+1))
      have HS2:Hid (FewS w g off i x1 x2 s0 (((w1.setCell ⟨w.heap.size,i * 3,none⟩ (.int .i64 x1)).setCell ⟨w.heap.size,i * 3+1,none⟩ (.int .i64 x2)).setCell ⟨w.heap.size,i * 3+2,none⟩ (.int .i64 1)).drew):=hS2
      have HS3:Hid (FewS w g off i x1 x2 s0 ((((w1.setCell ⟨w.heap.size,i * 3,none⟩ (.int .i64 x1)).setCell ⟨w.heap.size,i * 3+1,none⟩ (.int .i64 x2)).setCell ⟨w.heap.size,i * 3+2,none⟩ (.int .i64 1)).setCell ⟨w.heap.size+1,i,none⟩ (.int .i64 (s0+1))).drew):=hS3
      clear hS0 hS2 hS3
      clear hop hon hbw hop1 hon1 hb1 hop2 hfd hdc hx hsz0 hbo hso hs0 d10 d20
      go_wp2_with fail
      go_cut [] from 21 to 73 (fun wc=>∃ n,wc=((((w1.setCell ⟨w.heap.size,i * 3,none⟩ (.int .i64 x1)).setCell ⟨w.heap.size,i * 3+1,none⟩ (.int .i64 x2)).setCell ⟨w.heap.size,i * 3+2,none⟩ (.int .i64 1)).setCell ⟨w.heap.size+1,i,none⟩ (.int .i64 (s0+1))).drewN n)
      case first =>
        go_region_held (fun w'=>w'.cell? ⟨g,off+i * 2,none⟩=some (.int .i64 x1)∧w'.cell? ⟨g,off+i * 2+1,none⟩=some (.int .i64 x2)∧w'.cell? ⟨w.heap.size+1,i+1,none⟩=some (.int .i64 s0)) (first|with_reducible exact U HS1|with_reducible exact U HS2|with_reducible exact U HS3) (fail)
        all_goals
          go_wp2_with fail
          go_meet
          exact⟨_,rfl⟩
      case rest =>
        obtain⟨n1,hwc⟩:=hcut
        have hopc:OwnP w.heap.size wc w.heap.size ((bestL row (i+1)).set i (x1,x2,1)):=by rw[hwc];exact U HOP1
        have honc:OwnN w.heap.size wc (w.heap.size+1) ((sizeL row (i+1)).set i (s0+1)):=by rw[hwc];exact U HON1
        have hbc:Below w.heap.size w wc:=by rw[hwc];exact below_drawn (U HB1) n1
        have hinc:=(U HIN).below hbc
        have hdl:(row.drop i).length=row.length-i:=List.length_drop
        have HPI:=V (piecesAt_any (some ⟨g,off+i * 2,none⟩) (c-i) (row.drop i) wc (hinc.drop i) (by omega))
        rw[hdl]at HPI
        have haddr:(if c=i then (some ⟨g,off,none⟩:Option Addr) else some ⟨g,off+i * 2,none⟩)=some ⟨g,off+i * 2,none⟩:=if_neg (by omega)
        have hic:(i:Int)≤c:=by omega
        have HBT0:Hid (bestTo (x1,x2) (row.drop (i+1)) (few (row.drop (i+1))) 0=((x1,x2,1),s0+1)):=by
          show bestTo _ _ _ 0=_
          unfold bestTo
          rw[U HS0]
          rfl
        have HPN:Hid (∀ k p,(piecesS (row.drop i))[k]? = some p→bestTo (x1,x2) (row.drop (i+1)) (few (row.drop (i+1))) (k+1)=fewStep (0 :: sizesS (few (row.drop (i+1)))) (bestTo (x1,x2) (row.drop (i+1)) (few (row.drop (i+1))) k) p∧2≤p.2.2∧p.2.2≤3∧p.2.2≤(row.length-i:Nat)):=fun k p hp=>by
          have h1:=pieces_parts (List.mem_of_getElem? hp)
          rw[hdl]at h1
          rw[U HDC]at hp
          exact⟨bestTo_next hp,h1⟩
        have HOKB:Hid (∀ k,FewOk (row.length+1) (bestTo (x1,x2) (row.drop (i+1)) (few (row.drop (i+1))) k)):=fun k=>(bestTo_ok (x1,x2) (row.drop (i+1)) _ (few_len _) (few_ok _) k).mono (by rw[List.length_drop];omega)
        have HSZS:Hid (∀ j,0≤(sizesS (few (row.drop (i+1)))).getD j 0∧(sizesS (few (row.drop (i+1)))).getD j 0≤row.length):=fun j=>sizes_at (few (row.drop (i+1))) row.length (fun b hb=>(few_ok _ b hb).mono (by rw[List.length_drop];omega)) j
        have HSL:Hid ((sizesS (few (row.drop (i+1)))).length=row.length-i):=by
          show _=_
          unfold sizesS
          rw[List.length_append,List.length_map,few_len,List.length_drop]
          simp
          omega
        have HSS:=V (fun e=>sizeL_set row i e)
        have HBSS:=V (fun e=>bestL_set row i e)
        obtain⟨bt,hbt⟩:∃ bt:Nat→Pc×Int,bt=bestTo (x1,x2) (row.drop (i+1)) (few (row.drop (i+1))):=⟨_,rfl⟩
        rw[← hbt]at HBT0 HPN HOKB
        have HFD2:Hid (bestL row i=(bestL row (i+1)).set i (bt (piecesS (row.drop i)).length).1∧sizeL row i=(sizeL row (i+1)).set i (bt (piecesS (row.drop i)).length).2):=by rw[hbt];exact U HFD
        generalize sizesS (few (row.drop (i+1)))=ss at *
        generalize hps:piecesS (row.drop i)=ps at *
        have HOPC:=V hopc
        have HONC:=V honc
        have HBC:=V hbc
        have hps20:ps.length≤20:=by rw[← hps];exact piecesTo_len _ _
        obtain⟨w5,hw5⟩:∃ w5:World,w5=wc:=⟨_,rfl⟩
        rw[← hw5]at HPI HOPC HONC HBC ⊢
        have hszw:w.heap.size+1<w5.heap.size:=by rw[hw5];exact honc.lt.1
        clear hopc honc hbc hinc hwc hw5 hdl hbt HFD HDC HX HS0 hps HOP1 HON1 HB1 HS1 HS2 HS3 hcs hcs0 hcb1 hcb2 hcb3 hff hfn hlp hln d1 d2 hgl hszs
        go_wp2_with fail
        refine (U HPI).mono ?_
        rintro e wp ⟨v,rfl,hpo,hbp⟩
        obtain⟨av,cv,rfl⟩:=own_shape hpo
        have HOPP:=V ((U HOPC).below hbp)
        have HONP:=V ((U HONC).below hbp)
        have HBP:Hid (Below w.heap.size w wp):=(U HBC).trans (hbp.mono (U HBC).size)
        have HPO:=V hpo
        have hpsI:(ps.length:Int)≤20:=by omega
        clear hpo hbp HPI HOPC HONC HBC
        go_wp2_with fail
        go_loopw [47] (fun iv wr=>∃ k:Nat,iv=.int .i64 k∧k≤ps.length∧OwnP w.heap.size wr w.heap.size ((bestL row (i+1)).set i (bt k).1)∧OwnN w.heap.size wr (w.heap.size+1) ((sizeL row (i+1)).set i (bt k).2)∧wr.ownsRow w5.heap.size 211 3 (.slice av ps.length cv) ps.length (pieceCells ps)∧Below w.heap.size w wr) (fun iv _=>ps.length-(intOf iv).toNat)
        case atStart=>exact⟨0,rfl,Nat.zero_le _,by rw[U HBT0];exact U HOPP,by rw[U HBT0];exact U HONP,U HPO,U HBP⟩
        case round =>
          obtain⟨k,rfl,hk,hop,hon,hpo,hbw⟩:=hrel
          have HOP:=V hop
          have HON:=V hon
          have HPO2:=V hpo
          have HBW:=V hbw
          by_cases hlt:k<ps.length
          · obtain⟨⟨p1,p2,p3⟩,hp⟩:∃ p,ps[k]? = some p:=⟨_,List.getElem?_eq_getElem hlt⟩
            obtain⟨hnx,hp1,hp2,hp3⟩:=U HPN k _ hp
            simp only at hp1 hp2 hp3
            obtain⟨pn,rfl⟩:∃ pn:Nat,p3=pn:=⟨p3.toNat,by omega⟩
            obtain⟨gp,cp,e3,_,_⟩:=World.ownsRow.form hpo (by omega)
            simp only[Value.slice.injEq,true_and]at e3
            obtain⟨rfl,rfl⟩:=e3
            obtain⟨m1,m2,m3⟩:=pieceCells_at ps k _ hp
            have y1:=(own_cell hpo (k * 3) (by omega)).trans m1
            have y2:=(own_cell hpo (k * 3+1) (by omega)).trans m2
            have y3:=(own_cell hpo (k * 3+2) (by omega)).trans m3
            simp only at y1 y2 y3
            have y4:=(ownsRow_lt hpo (k:=gp) rfl).1
            have hltI:(k:Int)<ps.length:=by omega
            have hcur:=U HOKB k
            generalize hbk:bt k=cur at *
            obtain⟨⟨u1,u2,u3⟩,cs⟩:=cur
            have hcs2:=hcur.2
            simp only at hcs2
            have hsi:((sizeL row (i+1)).set i cs)[i]? = some cs:=by rw[U HSS,List.getElem?_append_right (by simp)];simp
            obtain⟨sv,hsv⟩:∃ sv,ss[pn-1]? = some sv:=⟨_,List.getElem?_eq_getElem (by have:=U HSL;omega)⟩
            have hspn:((sizeL row (i+1)).set i cs)[i+pn]? = some sv:=by
              rw[U HSS,List.getElem?_append_right (by simp),List.length_replicate,show i+pn-i=(pn-1)+1 by omega,List.getElem?_cons_succ]
              exact hsv
            have hsvd:(0 :: ss).getD pn 0=sv:=by
              obtain⟨q,rfl⟩:∃ q,pn=q+1:=⟨pn-1,by omega⟩
              rw[List.getD_eq_getElem?_getD,List.getElem?_cons_succ]
              rw[Nat.add_sub_cancel]at hsv
              rw[hsv]
              rfl
            have hsvb:=U HSZS (pn-1)
            rw[List.getD_eq_getElem?_getD,hsv]at hsvb
            simp only[Option.getD_some]at hsvb
            have hstep:fewStep (0 :: ss) ((u1,u2,u3),cs) (p1,p2,(pn:Int))=if sv+1<cs then ((p1,p2,(pn:Int)),sv+1) else ((u1,u2,u3),cs):=by
              unfold fewStep
              simp only[Int.toNat_natCast,hsvd]
            rw[hstep]at hnx
            have HNX:=V hnx
            have hbx:=below_box wr (.cells #[.int .i64 p1,.int .i64 p2,.int .i64 pn] 211)
            have hop2:=hop.below hbx
            have hon2:=hon.below hbx
            have hpo2:=ownsRow_alloc hpo (.cells #[.int .i64 p1,.int .i64 p2,.int .i64 pn] 211)
            have hbw2:=hbw.trans (hbx.mono hbw.size)
            have hbb:=Blk.new wr #[.int .i64 p1,.int .i64 p2,.int .i64 pn] 211
            have z1:=hbb.cell
            have z2:=hbb.lt
            have z3:=hon2.cell hspn
            have z4:=hon2.cell hsi
            have z5:=hon2.free
            have z6:=hon2.lt.1
            have hbi:((bestL row (i+1)).set i (u1,u2,u3))[i]? = some (u1,u2,u3):=by rw[U HBSS,List.getElem?_append_right (by simp)];simp
            obtain⟨z7,z8,z9⟩:=hop2.cell hbi
            have z10:=hop2.free
            have z11:=hop2.lt.1
            have hnb1:w.heap.size≠wr.heap.size:=by have:=hop.lt.1;omega
            have hnb2:w.heap.size+1≠wr.heap.size:=by have:=hon.lt.1;omega
            have hipn:IntKind.i64.wrap ((i:Int)+pn)=(i:Int)+pn:=by rw[IntKind.wrap_i64];omega
            have hipl:(i:Int)+pn<(row.length:Int)+1:=by omega
            have hiL3:(i:Int)<(row.length:Int)+1:=by omega
            have hsv1:IntKind.i64.wrap (sv+1)=sv+1:=by rw[IntKind.wrap_i64];omega
            have HOP3:=V hop2
            have HON3:=V hon2
            have HPO3:=V hpo2
            have HBW3:=V hbw2
            have hgp:w5.heap.size≤gp:=(ownsRow_lt hpo (k:=gp) rfl).2
            clear hop hon hpo hbw hp hnx m1 m2 m3 hbk hsi hsv hspn hsvd hbx hop2 hon2 hpo2 hbw2 hbb hbi hstep hcur
            by_cases hless:sv+1<cs
            · have HNX2:Hid (bt (k+1)=((p1,p2,(pn:Int)),sv+1)):=by
                show _=_
                rw[U HNX,if_pos hless]
              have HFP:Hid (OwnP w.heap.size (((((wr.alloc (.cells #[.int .i64 p1,.int .i64 p2,.int .i64 pn] 211)).setCell ⟨w.heap.size,i * 3,none⟩ (.int .i64 p1)).setCell ⟨w.heap.size,i * 3+1,none⟩ (.int .i64 p2)).setCell ⟨w.heap.size,i * 3+2,none⟩ (.int .i64 pn)).setCell ⟨w.heap.size+1,i,none⟩ (.int .i64 (sv+1))) w.heap.size ((bestL row (i+1)).set i (p1,p2,(pn:Int)))):=by
                have h1:=(U HOP3).set i (by rw[List.length_set];omega) p1 p2 pn
                rw[List.set_set]at h1
                exact ownsRow_far h1 (a:=⟨w.heap.size+1,i,none⟩) (by simp[Value.ownBlock]) _
              have HFN:Hid (OwnN w.heap.size (((((wr.alloc (.cells #[.int .i64 p1,.int .i64 p2,.int .i64 pn] 211)).setCell ⟨w.heap.size,i * 3,none⟩ (.int .i64 p1)).setCell ⟨w.heap.size,i * 3+1,none⟩ (.int .i64 p2)).setCell ⟨w.heap.size,i * 3+2,none⟩ (.int .i64 pn)).setCell ⟨w.heap.size+1,i,none⟩ (.int .i64 (sv+1))) (w.heap.size+1) ((sizeL row (i+1)).set i (sv+1))):=by
                have h1:=OwnN.set (ownsRow_far (ownsRow_far (ownsRow_far (U HON3) (a:=⟨w.heap.size,i * 3,none⟩) (by simp[Value.ownBlock]) (.int .i64 p1)) (a:=⟨w.heap.size,i * 3+1,none⟩) (by simp[Value.ownBlock]) (.int .i64 p2)) (a:=⟨w.heap.size,i * 3+2,none⟩) (by simp[Value.ownBlock]) (.int .i64 pn)) i (sv+1)
                rw[List.set_set]at h1
                exact h1
              have HFO:Hid ((((((wr.alloc (.cells #[.int .i64 p1,.int .i64 p2,.int .i64 pn] 211)).setCell ⟨w.heap.size,i * 3,none⟩ (.int .i64 p1)).setCell ⟨w.heap.size,i * 3+1,none⟩ (.int .i64 p2)).setCell ⟨w.heap.size,i * 3+2,none⟩ (.int .i64 pn)).setCell ⟨w.heap.size+1,i,none⟩ (.int .i64 (sv+1))).ownsRow w5.heap.size 211 3 (.slice (some ⟨gp,0,none⟩) ps.length cv) ps.length (pieceCells ps)):=ownsRow_far (ownsRow_far (ownsRow_far (ownsRow_far (U HPO3) (a:=⟨w.heap.size,i * 3,none⟩) (by simp[Value.ownBlock];omega) _) (a:=⟨w.heap.size,i * 3+1,none⟩) (by simp[Value.ownBlock];omega) _) (a:=⟨w.heap.size,i * 3+2,none⟩) (by simp[Value.ownBlock];omega) _) (a:=⟨w.heap.size+1,i,none⟩) (by simp[Value.ownBlock];omega) _
              go_wp2_with fail
              go_roundw
              case rel=>exact⟨k+1,by go_num,by omega,by rw[U HNX2];exact U HFP,by rw[U HNX2];exact U HFN,U HFO,((((U HBW3).setCell (Nat.le_refl _) _).setCell (Nat.le_refl _) _).setCell (Nat.le_refl _) _).setCell (by simp) _⟩
              case measure=>simp[intOf];omega
            · have HNX2:Hid (bt (k+1)=((u1,u2,u3),cs)):=by
                show _=_
                rw[U HNX,if_neg hless]
              go_wp2_with fail
              go_roundw
              case rel=>exact⟨k+1,by go_num,by omega,by rw[U HNX2];exact U HOP3,by rw[U HNX2];exact U HON3,U HPO3,U HBW3⟩
              case measure=>simp[intOf];omega
          · have hkk:k=ps.length:=by omega
            subst hkk
            have hi1':IntKind.i64.wrap ((i:Int)-1)=(i:Int)-1:=by rw[IntKind.wrap_i64];omega
            clear hop hon hpo hbw
            go_wp2_with fail
            go_roundw
            case rel=>exact⟨i,rfl,by omega,by rw[(U HFD2).1];exact U HOP,by rw[(U HFD2).2];exact U HON,U HBW⟩
            case measure=>simp[intOf]
theorem super_any (ao:Option Addr) (c en:Nat) (ce:Int) (l:List (Int×Int)) (w:World) (hin:InL w ao l) (hp:PrOk (l,en)) :
    Calls Tryz.prog 55 #[.agg #[.slice ao l.length c,.int .i64 en,.int .i64 ce]] w (ProgOut w (joinedS l.length en ((blocksS l en).map (fun b=>(b.1,fewestS b.2)))) ce):=by
  have hw2:=below_box2 w (.cells #[.slice ao l.length c,.int .i64 en,.int .i64 ce] 73) (.cells #[.slice none 0 0,.int .i64 0,.int .i64 0] 73)
  have hP:Blk ((w.alloc (.cells #[.slice ao l.length c,.int .i64 en,.int .i64 ce] 73)).alloc (.cells #[.slice none 0 0,.int .i64 0,.int .i64 0] 73)) w.heap.size #[.slice ao l.length c,.int .i64 en,.int .i64 ce] 73:=(Blk.new w _ _).alloc _
  have hR:=blk_two w (.cells #[.slice ao l.length c,.int .i64 en,.int .i64 ce] 73) #[.slice none 0 0,.int .i64 0,.int .i64 0] 73
  have hsz2:((w.alloc (.cells #[.slice ao l.length c,.int .i64 en,.int .i64 ce] 73)).alloc (.cells #[.slice none 0 0,.int .i64 0,.int .i64 0] 73)).heap.size=w.heap.size+2:=by simp
  have hent:en<l.length:=hp.entry
  have hsm:l.length≤5000:=hp.small
  have hfine:=blocks_fine (l:=l) (en:=en)
  have hflat:=hfine.flat
  rw[List.take_length]at hflat
  have HBO:=V (blocksOf_any ao c en ce l _ (hin.below hw2) (by omega) hent hp.names)
  have HMEM:Hid (∀ b∈blocksS l en,∀ x∈b.2,x∈l):=fun b hb x hx=>by rw[← hflat];exact List.mem_flatMap.2 ⟨b,hb,hx⟩
  have HROW:Hid (∀ b∈blocksS l en,b.2.length≤5000):=fun b hb=>Nat.le_trans (hfine.row hb) hsm
  have HLOW:=V hfine.low
  have hbl:(blocksS l en).length≤l.length:=hfine.len
  have HP:=V hP
  have HR:=V hR
  have HW2:=V hw2
  have HPR:=V hp
  have HSZ2:=V hsz2
  have HNAM:Hid (∀ b∈(blocksS l en).map (fun b=>(b.1,fewestS b.2)),∀ x∈b.2,namesS x.1=true→0≤x.2∧x.2<l.length):=fun b hb x hx hn=>by
    obtain⟨b',hb',rfl⟩:=List.mem_map.1 hb
    rcases pick_mem b'.2 (fun y hy=>hp.base y (U HMEM b' hb' y hy)) _ _ x hx with h|h
    · exact hp.names x (U HMEM b' hb' x h) hn
    · rw[names_not (Or.inr (by omega))]at hn
      cases hn
  have HFL:Hid (((blocksS l en).flatMap (·.2)).length≤5000):=by rw[hflat];exact hsm
  generalize hbs:blocksS l en=bs at *
  clear hw2 hP hR hp hfine hflat hin hsz2 hbs
  go_enter Tryz.func55,Tryz.ntmps55
  go_wp2_with fail
  generalize ((w.alloc (.cells #[.slice ao l.length c,.int .i64 en,.int .i64 ce] 73)).alloc (.cells #[.slice none 0 0,.int .i64 0,.int .i64 0] 73))=W1 at *
  refine (U HBO).mono ?_
  rintro e W2 ⟨lg,lc,rs,rfl,hbk,hrs,hb2⟩
  have hlen:rs.length=bs.length:=by rw[← hrs,List.length_map]
  have hlgs:=hbk.lt
  have HBK:=V hbk
  have HRS:=V hrs
  have HB2:=V hb2
  have HLEN:=V hlen
  obtain⟨m,hm⟩:∃ m,m=rs.length:=⟨_,rfl⟩
  rw[← hm]at hlen ⊢
  have HM:=V hm
  have hm5:m≤5000:=by omega
  have hmI:(m:Int)≤5000:=by omega
  have HLG:Hid (W1.heap.size≤lg):=hlgs.2
  clear hbk hrs hb2 HBO hm hlen hlgs
  go_wp2_with fail
  go_loopw [9] (fun i wr=>∃ (k:Nat) (rs':List LBl),i=.int .i64 k∧k≤m∧rs'.length=m∧BlksAt W1.heap.size wr lg lc rs'∧rs'.map LBl.blo=mapTo (fun b=>(b.1,fewestS b.2)) bs k∧Below W1.heap.size W1 wr) (fun i _=>m-(intOf i).toNat)
  case atStart=>exact⟨0,rs,rfl,Nat.zero_le _,(U HM).symm,U HBK,by rw[mapTo_zero];exact U HRS,U HB2⟩
  case round =>
    obtain⟨k,rs',rfl,hk,hl',hbk,hmap,hbw⟩:=hrel
    have HBK':=V hbk
    have HMAP:=V hmap
    have HBW:=V hbw
    have HL':=V hl'
    by_cases hlt:k<m
    · obtain⟨r,hr⟩:∃ r,rs'[k]? = some r:=⟨_,List.getElem?_eq_getElem (by omega)⟩
      have hkb:k<bs.length:=by have:=U HLEN;have:=U HM;omega
      have hrb:bs[k]? = some r.blo:=by
        rw[← mapTo_at (fun b=>(b.1,fewestS b.2)) bs k hkb,← hmap,List.getElem?_map,hr]
        rfl
      have hrm:=List.mem_of_getElem? hrb
      obtain⟨e1,e2,hinr,hcapr⟩:=hbk.cells hr
      have hfree:=own_free hbk.1
      have hlgl:=hbk.lt.1
      have hltI:(k:Int)<m:=by omega
      obtain⟨rf,ra,rc,rl⟩:=r
      simp only[LBl.blo]at e1 e2 hinr hcapr hrb hrm
      have hrl:rl.length≤5000:=U HROW _ hrm
      have HCALL:Hid (Calls Tryz.prog 86 #[.slice ra rl.length rc] wr (RowOut wr (fewestS rl))):=fewest_any ra rc rl wr hinr (by omega) hcapr
      have HNX:=V (mapTo_next (fun b=>(b.1,fewestS b.2)) hrb)
      have HSET:=V (fun (w':World) (a:Option Addr) (c:Nat) (hb:Below wr.heap.size wr w') (ho:OwnI wr.heap.size w' (.slice a (fewestS rl).length c) (fewestS rl))=>(hbk.below hb).set hr a c (fewestS rl) ho.isIn.1 ho.cap (fun g off e=>by
        subst e
        have:=(ownsRow_lt ho (k:=g) rfl).2
        omega))
      have HRR:=V hr
      have HKE:Hid (∀ w',Below wr.heap.size wr w'→w'.cell? ⟨lg,k * 2+1,none⟩=some (.slice ra rl.length rc)∧(∀ j,w'.frozen? ⟨lg,j,none⟩=false)∧lg<w'.heap.size):=fun w' hb=>by
        have h1:=hbk.below hb
        exact⟨(h1.cells hr).2.1,own_free h1.1,h1.lt.1⟩
      clear hbk hmap hbw hrb hrm hinr hcapr hr hl'
      go_wp2_with fail
      refine (U HCALL).mono ?_
      rintro e w3 ⟨a3,c3,rfl,ho3,hb3⟩
      obtain⟨k1,k2,k3⟩:=U HKE w3 hb3
      have HO3:=V ho3
      have HB3:=V hb3
      clear ho3 hb3 HCALL e1 e2 hfree hlgl
      generalize hrw:fewestS rl=rw' at *
      go_wp2_with fail
      go_roundw
      case rel =>
        refine⟨k+1,rs'.set k (rf,a3,c3,rw'),by go_num,by omega,by rw[List.length_set];exact U HL',U HSET w3 a3 c3 (U HB3) (U HO3),?_,((U HBW).trans ((U HB3).mono (U HBW).size)).setCell (U HLG) _⟩
        rw[List.map_set,U HMAP,U HNX]
        rw[← hrw]
        rfl
      case measure=>simp[intOf];omega
    · have hkk:k=m:=by omega
      subst hkk
      have hmb:k=bs.length:=by rw[U HM];exact U HLEN
      have hmap2:rs'.map LBl.blo=bs.map (fun b=>(b.1,fewestS b.2)):=by rw[hmap,hmb,mapTo_all]
      have hPw:=Blk.below (U HP) hbw (U HP).lt
      have hRw:=Blk.below (U HR) hbw (U HR).lt
      have HJO:=V (joined_any W1.heap.size ao c l.length en ce lg lc rs' (bs.map (fun b=>(b.1,fewestS b.2))) wr hbk hmap2 (fun b hb=>by
        obtain⟨b',hb',rfl⟩:=List.mem_map.1 hb
        have e:((fun b=>(b.1,fewestS b.2)) b').1=b'.1:=by first|rfl|(unfold unreachS;split<;>rfl)|(unfold idleS;split<;>rfl)
        rw[e]
        exact U HLOW b' hb') (U HNAM) hent (by omega) (by
        have:=map_flat_le (fun b=>(b.1,fewestS b.2)) (fun b=>pickGo_len _ _ _) bs
        have h2:=U HFL
        omega) (by omega))
      rw[hl']at HJO
      have hcp:=hPw.cell
      have hlp:=hPw.lt
      have HRW:=V hRw
      clear hbk hmap hmap2 hPw hRw hl' hmb hbw
      generalize hq:joinedS l.length en (bs.map (fun b=>(b.1,fewestS b.2)))=q at *
      go_wp2_with fail
      refine (U HJO).mono ?_
      rintro e w4 ⟨a4,c4,rfl,ho4,hb4⟩
      have hR4:=Blk.below (U HRW) hb4 (U HRW).lt
      have hcr:=hR4.cell
      have hfr:=hR4.free
      have hlr:=hR4.lt
      have HR4:=V hR4
      have HO4:=V ho4
      have HB4:=V hb4
      clear ho4 hb4 HJO hR4 HRW hcp hlp
      go_wp2_with fail
      refine bodyPost_ret (results_row3 (P:=Tryz.prog) rfl _ _ (w.heap.size+1) 73 _ (0,0) _ rfl (triple_set (U HR4) rfl) Tryz.underlying73 rfl Tryz.sizeProgram) rfl ?_
      have hsz:=U HSZ2
      have hww:w.heap.size≤wr.heap.size:=by have:=(U HBW).size;omega
      have hn:(Value.slice a4 q.1.length c4).ownBlock≠some (w.heap.size+1):=fun e=>row_not_blk (U HR4) (U HO4) (by decide) e
      have hb5:Below w.heap.size w w4:=(U HW2).trans (((U HBW).trans ((U HB4).mono (U HBW).size)).mono (by omega))
      try rw[hq]
      refine⟨a4,c4,rfl,?_,((hb5.setCell (by simp) _).setCell (by simp) _).setCell (by simp) _⟩
      exact ownsRow_base (ownsRow_far (ownsRow_far (ownsRow_far (U HO4) hn _) hn _) hn _) hww
end Go.Proofs.YtmeiikjpaepogaaGreatDoor
