/- The program's options: joined. -/
import Derived.Test.YtmeiikjpaepogaaGreatDoorN34
import Derived.Test.YtmeiikjpaepogaaGreatDoorN35
import Derived.Test.YtmeiikjpaepogaaGreatDoorN36
import Derived.Test.YtmeiikjpaepogaaGreatDoorN26
set_option maxRecDepth 100000
set_option maxHeartbeats 16000000
namespace Go.Proofs.YtmeiikjpaepogaaGreatDoor
open Go Go.RowKit
def OwnN (B:Nat) (w:World) (g:Nat) (b:List Int):Prop:=w.ownsRow B 3 1 (.slice (some ⟨g,0,none⟩) b.length b.length) b.length (intCells b)
theorem run_makeN (n:Nat) (hn:n≤17592186044416) (w:World) :
    (Instr.makeSlice 115 (.int .i64 (n:Int)) (.int .i64 (n:Int))).run Tryz.prog w=.ok (.slice (some ⟨w.heap.size,0,none⟩) n n) (w.alloc (.cells (madeCells #[.int .i64 0] (n * 1)) 3)):=by
  obtain⟨iI,hiI,hzI0,hzI1,hzI2⟩:=info_parts Tryz.infoInt
  have hr:=run_make (P:=Tryz.prog) w 115 3 iI _ Tryz.underlying115 hiI hzI0 .i64 .i64 n n (by omega) (Int.le_refl _) (by rw[hzI2];omega) (by omega)
  simp only[Int.toNat_natCast,hzI1]at hr
  exact hr
theorem made_nums (w:World) (n:Nat) (hn:n≤17592186044416):OwnN w.heap.size (w.alloc (.cells (madeCells #[.int .i64 0] (n * 1)) 3)) w.heap.size (List.replicate n 0):=by
  have e:madeCells #[.int .i64 0] (n * 1)=(intCells (List.replicate n 0)).toArray:=by
    apply Array.ext'
    rw[Nat.mul_one,toList_madeCells_one]
    simp[intCells]
  rw[e]
  refine⟨by simp[intCells],Or.inr ⟨w.heap.size,n,_,by simp,Nat.le_refl _,Blk.new w _ _,by simp,by unfold maxLen;omega,by simp[intCells],by simp[intCells]⟩⟩
theorem OwnN.set {B:Nat} {w:World} {g:Nat} {b:List Int} (h:OwnN B w g b) (j:Nat) (v:Int):OwnN B (w.setCell ⟨g,j,none⟩ (.int .i64 v)) g (b.set j v):=by
  unfold OwnN at h ⊢
  rw[List.length_set]
  have:=own_set h j (.int .i64 v)
  have e:intCells (b.set j v)=(intCells b).set j (.int .i64 v):=by unfold intCells;rw[List.map_set]
  rw[e]
  exact this
theorem OwnN.cell {B:Nat} {w:World} {g:Nat} {b:List Int} (h:OwnN B w g b) {j:Nat} {v:Int} (hv:b[j]? = some v):w.cell? ⟨g,j,none⟩=some (.int .i64 v):=by
  unfold OwnN at h
  have hj:=(List.getElem?_eq_some_iff.1 hv).1
  rw[own_cell h j (by omega)]
  unfold intCells
  rw[List.getElem?_map,hv]
  rfl
theorem OwnN.free {B:Nat} {w:World} {g:Nat} {b:List Int} (h:OwnN B w g b) (j:Nat):w.frozen? ⟨g,j,none⟩=false:=own_free h j
theorem OwnN.lt {B:Nat} {w:World} {g:Nat} {b:List Int} (h:OwnN B w g b):g<w.heap.size∧B≤g:=ownsRow_lt h (k:=g) rfl
theorem OwnN.below {B:Nat} {w w':World} {g:Nat} {b:List Int} (h:OwnN B w g b) (hb:Below w.heap.size w w'):OwnN B w' g b:=(LawStill.ofBelow hb).row h
theorem OwnN.ints {B:Nat} {w:World} {g:Nat} {b:List Int} (h:OwnN B w g b):IntsAt w g b:=⟨h.lt.1,fun _ _ hj=>h.cell hj⟩
theorem run_make0 (n:Nat) (hn:n≤17592186044416) (w:World) :
    (Instr.makeSlice 33 (.int .i64 0) (.int .i64 (n:Int))).run Tryz.prog w=.ok (.slice (some ⟨w.heap.size,0,none⟩) 0 n) (w.alloc (.cells (madeCells #[.int .i64 0,.int .i64 0] (n * 2)) 65)):=by
  obtain⟨iI,hiI,hzI0,hzI1,hzI2⟩:=info_parts Tryz.infoInstr
  have hr:=run_make (P:=Tryz.prog) w 33 65 iI _ Tryz.underlying33 hiI hzI0 .i64 .i64 0 n (by omega) (by omega) (by rw[hzI2];omega) (by omega)
  simp only[Int.toNat_natCast,hzI1]at hr
  exact hr
theorem made_row0 (w:World) (n:Nat) (hn:n≤17592186044416):OwnI w.heap.size (w.alloc (.cells (madeCells #[.int .i64 0,.int .i64 0] (n * 2)) 65)) (.slice (some ⟨w.heap.size,0,none⟩) 0 n) []:=by
  refine⟨by simp[instrCells],Or.inr ⟨w.heap.size,n,_,by simp,Nat.le_refl _,Blk.new w _ _,Nat.zero_le _,by unfold maxLen;omega,?_,by simp[instrCells]⟩⟩
  rw[made2]
  simp[instrCells_length]
theorem joined_any (B:Nat) (ao:Option Addr) (c n en:Nat) (ce:Int) (lg lc:Nat) (rs:List LBl) (bs:List Blo) (w:World) (hb:BlksAt B w lg lc rs) (hbs:rs.map LBl.blo=bs) (hlow:∀ b∈bs,b.1<n) (hj:∀ b∈bs,∀ x∈b.2,namesS x.1=true→0≤x.2∧x.2<n) (hen:en<n) (hn:n≤100000) (hs:(bs.flatMap (·.2)).length≤100000) (hl:rs.length≤100000) :
    Calls Tryz.prog 87 #[.agg #[.slice ao n c,.int .i64 en,.int .i64 ce],.slice (some ⟨lg,0,none⟩) rs.length lc] w fun e w'=>∃ a c',e=.returned (.agg #[.slice a (joinedS n en bs).1.length c',.int .i64 (joinedS n en bs).2,.int .i64 ce])∧OwnI w.heap.size w' (.slice a (joinedS n en bs).1.length c') (joinedS n en bs).1∧Below w.heap.size w w':=by
  have hlI:(rs.length:Int)≤100000:=by omega
  have hnI:(n:Int)≤100000:=by omega
  have henI:(en:Int)<n:=by omega
  have hlen:rs.length=bs.length:=by rw[← hbs,List.length_map]
  have hmk:=run_makeN n (by omega)
  have hw2:=below_box2 w (.cells #[.slice ao n c,.int .i64 en,.int .i64 ce] 73) (.cells #[.slice none 0 0,.int .i64 0,.int .i64 0] 73)
  have hP:Blk ((w.alloc (.cells #[.slice ao n c,.int .i64 en,.int .i64 ce] 73)).alloc (.cells #[.slice none 0 0,.int .i64 0,.int .i64 0] 73)) w.heap.size #[.slice ao n c,.int .i64 en,.int .i64 ce] 73:=(Blk.new w _ _).alloc _
  have hR:=blk_two w (.cells #[.slice ao n c,.int .i64 en,.int .i64 ce] 73) #[.slice none 0 0,.int .i64 0,.int .i64 0] 73
  have hsz2:((w.alloc (.cells #[.slice ao n c,.int .i64 en,.int .i64 ce] 73)).alloc (.cells #[.slice none 0 0,.int .i64 0,.int .i64 0] 73)).heap.size=w.heap.size+2:=by simp
  have HN0:=V (made_nums ((w.alloc (.cells #[.slice ao n c,.int .i64 en,.int .i64 ce] 73)).alloc (.cells #[.slice none 0 0,.int .i64 0,.int .i64 0] 73)) n (by omega))
  have HW2:=V hw2
  have HP:=V hP
  have HR:=V hR
  have HB:=V hb
  have HLOW:=V hlow
  have HJ:=V hj
  have HBS:=V hbs
  have HLEN:=V hlen
  simp only[Nat.mul_one]at hmk HN0
  clear hw2 hP hR hb hlow hj hbs hlen
  have HSZ2:=V hsz2
  clear hsz2
  go_enter Tryz.func87,Tryz.ntmps87
  go_wp2_with fail
  generalize (w.alloc (.cells #[.slice ao n c,.int .i64 en,.int .i64 ce] 73)).alloc (.cells #[.slice none 0 0,.int .i64 0,.int .i64 0] 73)=W1 at *
  have hsz2:W1.heap.size=w.heap.size+1+1:=U HSZ2
  have hn0:=U HN0
  rw[hsz2]at hn0
  have HON:Hid (OwnN (w.heap.size+1+1) (W1.alloc (.cells (madeCells #[.int .i64 0] n) 3)) (w.heap.size+1+1) (List.replicate n 0)):=hn0
  have HBA:Hid (Below (w.heap.size+1+1) W1 (W1.alloc (.cells (madeCells #[.int .i64 0] n) 3))):=(below_box W1 _).mono (by omega)
  clear hn0 HN0 hmk
  go_loopw [6,18] (fun sv i wr=>∃ k:Nat,i=.int .i64 k∧k≤rs.length∧sv=.int .i64 (((bs.take k).flatMap (·.2)).length:Nat)∧OwnN (w.heap.size+1+1) wr (w.heap.size+1+1) (numsTo bs n k).1∧Below (w.heap.size+1+1) W1 wr) (fun _ i _=>rs.length-(intOf i).toNat)
  case atStart=>exact⟨0,rfl,Nat.zero_le _,rfl,U HON,U HBA⟩
  case round =>
    obtain⟨k,rfl,hk,rfl,hon,hbw⟩:=hrel
    have HO:=V hon
    have HBW:=V hbw
    have hbww:Below w.heap.size w wr:=(U HW2).trans (hbw.mono (by omega))
    have hbk:=(U HB).below hbww
    by_cases hlt:k<rs.length
    · obtain⟨r,hr⟩:∃ r,rs[k]? = some r:=⟨_,List.getElem?_eq_getElem hlt⟩
      have hrb:bs[k]? = some r.blo:=by rw[← U HBS,List.getElem?_map,hr];rfl
      obtain⟨e1,e2,_,_⟩:=hbk.cells hr
      have hlgl:=hbk.lt.1
      have hltI:(k:Int)<rs.length:=by omega
      have hrn:r.1<n:=U HLOW _ (List.mem_of_getElem? hrb)
      have hrnI:(r.1:Int)<n:=by omega
      have HNX:=V (numsTo_next (n:=n) hrb)
      have HT2:=V (numsTo_len bs n k).2
      have hnl:=(numsTo_len bs n k).1
      obtain⟨v,hv⟩:∃ v,(numsTo bs n k).1[r.1]? = some v:=⟨_,List.getElem?_eq_getElem (by omega)⟩
      have hbx:=below_box wr (.cells #[.int .i64 r.1,.slice r.2.1 r.2.2.2.length r.2.2.1] 161)
      have hon2:=hon.below hbx
      have hcv:=hon2.cell hv
      have hfv:=hon2.free
      have hlv:=hon2.lt.1
      have HO2:=V hon2
      have HBX:Hid (Below (w.heap.size+1+1) W1 (wr.alloc (.cells #[.int .i64 r.1,.slice r.2.1 r.2.2.2.length r.2.2.1] 161))):=hbw.trans (hbx.mono (by have:=hon.lt.1;omega))
      have e3:((bs.take (k+1)).flatMap (·.2)).length=((bs.take k).flatMap (·.2)).length+r.2.2.2.length:=by
        rw[List.take_add_one,hrb,List.flatMap_append,List.length_append]
        simp[LBl.blo]
      have e4:=flat_le bs (k+1)
      have hsum:IntKind.i64.wrap ((((bs.take k).flatMap (·.2)).length:Int)+(r.2.2.2.length:Int))=(((bs.take k).flatMap (·.2)).length:Int)+(r.2.2.2.length:Int):=by rw[IntKind.wrap_i64];omega
      have HE3:=V e3
      have hbxb:=Blk.new wr #[.int .i64 r.1,.slice r.2.1 r.2.2.2.length r.2.2.1] 161
      have hcx:=hbxb.cell
      have hlx:=hbxb.lt
      have hnex:w.heap.size+1+1≠wr.heap.size:=by have:=hon.lt.1;omega
      have hbxs:=hbxb.far (a:=⟨w.heap.size+1+1,r.1,none⟩) (fun e=>hnex e.symm) (.int .i64 (((bs.take k).flatMap (·.2)).length:Nat))
      have hcx2:=hbxs.cell
      have hlx2:=hbxs.lt
      obtain⟨rf,ra,rc,rl⟩:=r
      simp only at *
      generalize ((bs.take k).flatMap (·.2)).length=m at *
      generalize rl.length=rll at *
      clear hon hbw hbww hbk hr hrb hv hbx hon2 e3 e4 hbxb hbxs
      go_wp2_with fail
      go_roundw
      case rel =>
        refine⟨k+1,by go_num,by omega,by rw[U HE3];first|rfl|go_num,?_,(U HBX).setCell (by simp) _⟩
        rw[U HNX]
        unfold numStep
        simp only
        rw[U HT2]
        exact (U HO2).set rf _
      case measure=>simp[intOf];omega
    · have hkk:k=rs.length:=by omega
      subst hkk
      have hbl:rs.length=bs.length:=U HLEN
      have htk:bs.take rs.length=bs:=by rw[hbl,List.take_length]
      rw[htk]
      have hnums:(numsTo bs n rs.length).1=(numsTo bs n bs.length).1:=by rw[hbl]
      rw[hnums]at HO hon
      have hnl:=(numsTo_len bs n bs.length).1
      have hpos:=numsTo_pos bs n bs.length
      have HJS:Hid ((joinedS n en bs).1=listTo (numsTo bs n bs.length).1 bs bs.length∧((joinedS n en bs).2:Int)=(numsTo bs n bs.length).1.getD en 0):=by
        refine⟨rfl,?_⟩
        unfold joinedS
        simp only
        obtain⟨v,hv⟩:∃ v,(numsTo bs n bs.length).1[en]? = some v:=⟨_,List.getElem?_eq_getElem (by omega)⟩
        have:=hpos v (List.mem_of_getElem? hv)
        rw[List.getD_eq_getElem?_getD,hv]
        simp only[Option.getD_some]
        omega
      obtain⟨ve,hve⟩:∃ v,(numsTo bs n bs.length).1[en]? = some v:=⟨_,List.getElem?_eq_getElem (by omega)⟩
      have HVE:Hid ((numsTo bs n bs.length).1.getD en 0=ve):=by
        show _=_
        rw[List.getD_eq_getElem?_getD,hve]
        rfl
      have HLT:=V (fun k=>listTo_len (numsTo bs n bs.length).1 bs k)
      have hmk0:=run_make0 (bs.flatMap (·.2)).length (by omega)
      have HROW0:=V (made_row0 wr (bs.flatMap (·.2)).length (by omega))
      have HB3:=V (below_box wr (.cells (madeCells #[.int .i64 0,.int .i64 0] ((bs.flatMap (·.2)).length * 2)) 65))
      have hfI:((bs.flatMap (·.2)).length:Int)≤100000:=by omega
      have HVEQ:=V hve
      generalize hnm:(numsTo bs n bs.length).1=nums at *
      have HNM:=V hnl
      generalize hT:(bs.flatMap (·.2)).length=T at *
      have HTT:=V hT
      have HBWW:=V hbww
      clear hon hbw hbww hbk hnums hpos hve hnm hT hbl htk
      go_wp2_with fail
      clear hmk0
      obtain⟨W4,hW4⟩:∃ W4,W4=wr.alloc (.cells (madeCells #[.int .i64 0,.int .i64 0] (T * 2)) 65):=⟨_,rfl⟩
      rw[← hW4]at HROW0 HB3 ⊢
      obtain⟨w3,hw3⟩:∃ w3:World,w3=wr:=⟨_,rfl⟩
      rw[← hw3]at HROW0 HB3 HBWW HBW HO ⊢
      clear hW4 hw3
      go_loopw [9,37] (fun sv i wr=>∃ (k:Nat) (a:Option Addr) (c:Nat),i=.int .i64 k∧k≤rs.length∧sv=.slice a (listTo nums bs k).length c∧OwnI w3.heap.size wr (.slice a (listTo nums bs k).length c) (listTo nums bs k)∧Below w3.heap.size w3 wr) (fun _ i _=>rs.length-(intOf i).toNat)
      case atStart=>exact⟨0,some ⟨w3.heap.size,0,none⟩,T,rfl,Nat.zero_le _,rfl,U HROW0,U HB3⟩
      case round =>
        obtain⟨k,a,c1,rfl,hk,rfl,hown,hbw⟩:=hrel
        have HOWN:=V hown
        have HBW3:=V hbw
        have hbww:Below w.heap.size w wr:=(U HBWW).trans (hbw.mono (U HBWW).size)
        have hbk:=(U HB).below hbww
        by_cases hlt:k<rs.length
        · obtain⟨r,hr⟩:∃ r,rs[k]? = some r:=⟨_,List.getElem?_eq_getElem hlt⟩
          have hrb:bs[k]? = some r.blo:=by rw[← U HBS,List.getElem?_map,hr];rfl
          have hrm:=List.mem_of_getElem? hrb
          obtain⟨e1,e2,hinr,_⟩:=hbk.cells hr
          have hlgl:=hbk.lt.1
          have hltI:(k:Int)<rs.length:=by omega
          have HNX:=V (listTo_next (nums:=nums) hrb)
          have hbx:=below_box wr (.cells #[.int .i64 r.1,.slice r.2.1 r.2.2.2.length r.2.2.1] 161)
          have hbxb:=Blk.new wr #[.int .i64 r.1,.slice r.2.1 r.2.2.2.length r.2.2.1] 161
          have hcx:=hbxb.cell
          have hlx:=hbxb.lt
          have h4:=flat_le bs (k+1)
          have h5:=U HLT (k+1)
          have h6:=congrArg List.length (U HNX)
          rw[List.length_append]at h6
          have hTT:=U HTT
          have hrl:r.2.2.2.length≤100000:=by
            have:(renamedS nums r.blo.2).length=r.2.2.2.length:=by simp[renamedS,LBl.blo]
            omega
          have HSM:Hid ((listTo nums bs k).length+(renamedS nums r.2.2.2).length≤1000000):=by
            show _≤_
            have:(renamedS nums r.blo.2).length=(renamedS nums r.2.2.2).length:=rfl
            omega
          have hi0:=((U HO).below hbw).below hbx
          have HREN:=V (renamed_any (w.heap.size+1+1) nums.length r.2.2.1 r.2.1 nums r.2.2.2 (wr.alloc (.cells #[.int .i64 r.1,.slice r.2.1 r.2.2.2.length r.2.2.1] 161)) hi0.ints (hinr.below hbx) ⟨by omega,by omega⟩ (fun x hx hn=>by rw[hnl];exact U HJ _ hrm x hx hn))
          have HOWX:=V (hown.below hbx)
          have HBX:Hid (Below w3.heap.size w3 (wr.alloc (.cells #[.int .i64 r.1,.slice r.2.1 r.2.2.2.length r.2.2.1] 161))):=hbw.trans (hbx.mono hbw.size)
          rw[hnl]at HREN
          obtain⟨rf,ra,rc,rl⟩:=r
          simp only[LBl.blo]at *
          generalize hnx:listTo nums bs k=l1 at *
          clear hown hbw hbww hbk hr hrb hrm hinr hbx hbxb h4 h5 h6 hTT hi0 hnx
          go_wp2_with fail
          refine (U HREN).mono ?_
          rintro e w5 ⟨a5,c5,rfl,ho5,hb5⟩
          have HB5:Hid (Below w3.heap.size w3 w5):=(U HBX).trans (hb5.mono (U HBX).size)
          have HO5:=V ((U HOWX).below hb5)
          have HI5:=V ho5.isIn.1
          clear ho5 hb5 HREN hcx hlx e1 e2
          generalize hrs2:renamedS nums rl=l2 at *
          go_wp2_with (at_builtin;refine wpList_appI rfl (.tmp 41) (.tmp 45) rfl w3.heap.size w3 _ l1 l2 a5 c5 (by simp[Act.eval]) (by simp[Act.eval]) (U HO5) (U HI5) (U HSM) (U HB5) (U HB5).size _ rfl ?_;intro a6 c6 w6 HO6 HB6)
          go_roundw
          case rel =>
            refine⟨k+1,a6,c6,by go_num,by omega,?_,?_,U HB6⟩
            · rw[U HNX,List.length_append]
            · rw[U HNX];exact U HO6
          case measure=>simp[intOf];omega
        · have hkk:k=rs.length:=by omega
          subst hkk
          have hP3:=((U HP).below (U HBW) (by omega)).below hbw (by have:=(U HO).lt.1;omega)
          have hR3:=((U HR).below (U HBW) (by omega)).below hbw (by have:=(U HO).lt.1;omega)
          have hcp:=hP3.cell
          have hlp:=hP3.lt
          have hcr:=hR3.cell
          have hfr:=hR3.free
          have hlr:=hR3.lt
          have hce:=((U HO).below hbw).cell (U HVEQ)
          have hle:=((U HO).below hbw).lt.1
          have HR3:=V hR3
          have hll:listTo nums bs rs.length=(joinedS n en bs).1:=by rw[U HLEN];exact (U HJS).1.symm
          have hve2:((joinedS n en bs).2:Int)=ve:=by rw[(U HJS).2];exact U HVE
          rw[hll]at HOWN ⊢
          have HV2:=V hve2
          have HBF:=V hbww
          have hne:w.heap.size≠w.heap.size+1:=by omega
          have hww:Hid (w.heap.size≤w3.heap.size):=(U HBWW).size
          clear hown hbw hbww hbk hP3 hR3 hll hve2
          generalize hq:joinedS n en bs=q at *
          go_wp2_with fail
          go_region
          all_goals
            go_wp2_with fail
            refine bodyPost_ret (results_row3 (P:=Tryz.prog) rfl _ _ (w.heap.size+1) 73 _ (0,0) _ rfl (triple_set (U HR3) rfl) Tryz.underlying73 rfl Tryz.sizeProgram) rfl ?_
            have hn:(Value.slice a q.1.length c1).ownBlock≠some (w.heap.size+1):=fun e=>row_not_blk (U HR3) (U HOWN) (by decide) e
            rw[hq]
            refine⟨a,c1,by rw[U HV2],?_,below_drawn (((U HBF).setCell (by simp) _).setCell (by simp) _ |>.setCell (by simp) _) _⟩
            exact ownsRow_base (ownsRow_far (ownsRow_far (ownsRow_far (U HOWN) hn _) hn _) hn _) (U hww)
theorem folded_any (fb tb rb:Nat) (ao:Option Addr) (c en:Nat) (ce:Int) (l:List (Int×Int)) (w:World) (hf:FolderAt w fb tb rb) (hin:InL w ao l) (hp:PrOk (l,en)) :
    Calls Tryz.prog 84 #[.pointer (some ⟨fb,0,none⟩),.agg #[.slice ao l.length c,.int .i64 en,.int .i64 ce]] w (ProgOut w (joinedS l.length en ((blocksS l en).map (fun b=>(b.1,foldRowS b.2)))) ce):=by
  have hw2:=below_box2 w (.cells #[.slice ao l.length c,.int .i64 en,.int .i64 ce] 73) (.cells #[.slice none 0 0,.int .i64 0,.int .i64 0] 73)
  have hP:Blk ((w.alloc (.cells #[.slice ao l.length c,.int .i64 en,.int .i64 ce] 73)).alloc (.cells #[.slice none 0 0,.int .i64 0,.int .i64 0] 73)) w.heap.size #[.slice ao l.length c,.int .i64 en,.int .i64 ce] 73:=(Blk.new w _ _).alloc _
  have hR:=blk_two w (.cells #[.slice ao l.length c,.int .i64 en,.int .i64 ce] 73) #[.slice none 0 0,.int .i64 0,.int .i64 0] 73
  have hsz2:((w.alloc (.cells #[.slice ao l.length c,.int .i64 en,.int .i64 ce] 73)).alloc (.cells #[.slice none 0 0,.int .i64 0,.int .i64 0] 73)).heap.size=w.heap.size+2:=by simp
  have hent:en<l.length:=hp.entry
  have hsm:l.length≤5000:=hp.small
  have hfine:=blocks_fine (l:=l) (en:=en)
  have hflat:=hfine.flat
  rw[List.take_length]at hflat
  have HBO:=V (blocksOf_any ao c en ce l _ (hin.below hw2) (by omega) hent hp.names)
  have HMEM:Hid (∀ b∈blocksS l en,∀ x∈b.2,x∈l):=fun b hb x hx=>by rw[← hflat];exact List.mem_flatMap.2 ⟨b,hb,hx⟩
  have HROW:Hid (∀ b∈blocksS l en,b.2.length≤5000):=fun b hb=>Nat.le_trans (hfine.row hb) hsm
  have HLOW:=V hfine.low
  have hbl:(blocksS l en).length≤l.length:=hfine.len
  have HP:=V hP
  have HR:=V hR
  have HW2:=V hw2
  have HPR:=V hp
  have HSZ2:=V hsz2
  have HNAM:Hid (∀ b∈(blocksS l en).map (fun b=>(b.1,foldRowS b.2)),∀ x∈b.2,namesS x.1=true→0≤x.2∧x.2<l.length):=fun b hb x hx hn=>by
    obtain⟨b',hb',rfl⟩:=List.mem_map.1 hb
    exact doneTo_names (P:=fun t=>0≤t∧t<(l.length:Int)) b'.2 (fun y hy hny=>hp.names y (U HMEM b' hb' y hy) hny) b'.2.length x hx hn
  have HFL:Hid (((blocksS l en).flatMap (·.2)).length≤5000):=by rw[hflat];exact hsm
  have HBASE:Hid (∀ x∈l,baseOk x):=hp.base
  have HFO:=V (hf.below hw2)
  generalize hbs:blocksS l en=bs at *
  clear hw2 hP hR hp hfine hflat hin hsz2 hbs hf
  go_enter Tryz.func84,Tryz.ntmps84
  go_wp2_with fail
  generalize ((w.alloc (.cells #[.slice ao l.length c,.int .i64 en,.int .i64 ce] 73)).alloc (.cells #[.slice none 0 0,.int .i64 0,.int .i64 0] 73))=W1 at *
  refine (U HBO).mono ?_
  rintro e W2 ⟨lg,lc,rs,rfl,hbk,hrs,hb2⟩
  have hlen:rs.length=bs.length:=by rw[← hrs,List.length_map]
  have hlgs:=hbk.lt
  have HBK:=V hbk
  have HRS:=V hrs
  have HB2:=V hb2
  have HLEN:=V hlen
  obtain⟨m,hm⟩:∃ m,m=rs.length:=⟨_,rfl⟩
  rw[← hm]at hlen ⊢
  have HM:=V hm
  have hm5:m≤5000:=by omega
  have hmI:(m:Int)≤5000:=by omega
  have HLG:Hid (W1.heap.size≤lg):=hlgs.2
  clear hbk hrs hb2 HBO hm hlen hlgs
  go_wp2_with fail
  go_loopw [11] (fun i wr=>∃ (k:Nat) (rs':List LBl),i=.int .i64 k∧k≤m∧rs'.length=m∧BlksAt W1.heap.size wr lg lc rs'∧rs'.map LBl.blo=mapTo (fun b=>(b.1,foldRowS b.2)) bs k∧Below W1.heap.size W1 wr) (fun i _=>m-(intOf i).toNat)
  case atStart=>exact⟨0,rs,rfl,Nat.zero_le _,(U HM).symm,U HBK,by rw[mapTo_zero];exact U HRS,U HB2⟩
  case round =>
    obtain⟨k,rs',rfl,hk,hl',hbk,hmap,hbw⟩:=hrel
    have HBK':=V hbk
    have HMAP:=V hmap
    have HBW:=V hbw
    have HL':=V hl'
    by_cases hlt:k<m
    · obtain⟨r,hr⟩:∃ r,rs'[k]? = some r:=⟨_,List.getElem?_eq_getElem (by omega)⟩
      have hkb:k<bs.length:=by have:=U HLEN;have:=U HM;omega
      have hrb:bs[k]? = some r.blo:=by
        rw[← mapTo_at (fun b=>(b.1,foldRowS b.2)) bs k hkb,← hmap,List.getElem?_map,hr]
        rfl
      have hrm:=List.mem_of_getElem? hrb
      obtain⟨e1,e2,hinr,hcapr⟩:=hbk.cells hr
      have hfree:=own_free hbk.1
      have hlgl:=hbk.lt.1
      have hltI:(k:Int)<m:=by omega
      obtain⟨rf,ra,rc,rl⟩:=r
      simp only[LBl.blo]at e1 e2 hinr hcapr hrb hrm
      have hrl:rl.length≤5000:=U HROW _ hrm
      have HCALL:Hid (Calls Tryz.prog 154 #[.pointer (some ⟨fb,0,none⟩),.slice ra rl.length rc] wr (RowOut wr (foldRowS rl))):=foldedRow_any fb tb rb ra rc rl wr ((U HFO).below hbw) hinr (by omega) hcapr (fun x hx=>U HBASE x (U HMEM _ hrm x hx))
      have HNX:=V (mapTo_next (fun b=>(b.1,foldRowS b.2)) hrb)
      have HSET:=V (fun (w':World) (a:Option Addr) (c:Nat) (hb:Below wr.heap.size wr w') (ho:OwnI wr.heap.size w' (.slice a (foldRowS rl).length c) (foldRowS rl))=>(hbk.below hb).set hr a c (foldRowS rl) ho.isIn.1 ho.cap (fun g off e=>by
        subst e
        have:=(ownsRow_lt ho (k:=g) rfl).2
        omega))
      have HRR:=V hr
      have HKE:Hid (∀ w',Below wr.heap.size wr w'→w'.cell? ⟨lg,k * 2+1,none⟩=some (.slice ra rl.length rc)∧(∀ j,w'.frozen? ⟨lg,j,none⟩=false)∧lg<w'.heap.size):=fun w' hb=>by
        have h1:=hbk.below hb
        exact⟨(h1.cells hr).2.1,own_free h1.1,h1.lt.1⟩
      clear hbk hmap hbw hrb hrm hinr hcapr hr hl'
      go_wp2_with fail
      refine (U HCALL).mono ?_
      rintro e w3 ⟨a3,c3,rfl,ho3,hb3⟩
      obtain⟨k1,k2,k3⟩:=U HKE w3 hb3
      have HO3:=V ho3
      have HB3:=V hb3
      clear ho3 hb3 HCALL e1 e2 hfree hlgl
      generalize hrw:foldRowS rl=rw' at *
      go_wp2_with fail
      go_roundw
      case rel =>
        refine⟨k+1,rs'.set k (rf,a3,c3,rw'),by go_num,by omega,by rw[List.length_set];exact U HL',U HSET w3 a3 c3 (U HB3) (U HO3),?_,((U HBW).trans ((U HB3).mono (U HBW).size)).setCell (U HLG) _⟩
        rw[List.map_set,U HMAP,U HNX]
        rw[← hrw]
        rfl
      case measure=>simp[intOf];omega
    · have hkk:k=m:=by omega
      subst hkk
      have hmb:k=bs.length:=by rw[U HM];exact U HLEN
      have hmap2:rs'.map LBl.blo=bs.map (fun b=>(b.1,foldRowS b.2)):=by rw[hmap,hmb,mapTo_all]
      have hPw:=Blk.below (U HP) hbw (U HP).lt
      have hRw:=Blk.below (U HR) hbw (U HR).lt
      have HJO:=V (joined_any W1.heap.size ao c l.length en ce lg lc rs' (bs.map (fun b=>(b.1,foldRowS b.2))) wr hbk hmap2 (fun b hb=>by
        obtain⟨b',hb',rfl⟩:=List.mem_map.1 hb
        have e:((fun b=>(b.1,foldRowS b.2)) b').1=b'.1:=by first|rfl|(unfold unreachS;split<;>rfl)|(unfold idleS;split<;>rfl)
        rw[e]
        exact U HLOW b' hb') (U HNAM) hent (by omega) (by
        have:=map_flat_le (fun b=>(b.1,foldRowS b.2)) (fun b=>doneTo_len b.2 b.2.length) bs
        have h2:=U HFL
        omega) (by omega))
      rw[hl']at HJO
      have hcp:=hPw.cell
      have hlp:=hPw.lt
      have HRW:=V hRw
      clear hbk hmap hmap2 hPw hRw hl' hmb hbw
      generalize hq:joinedS l.length en (bs.map (fun b=>(b.1,foldRowS b.2)))=q at *
      go_wp2_with fail
      refine (U HJO).mono ?_
      rintro e w4 ⟨a4,c4,rfl,ho4,hb4⟩
      have hR4:=Blk.below (U HRW) hb4 (U HRW).lt
      have hcr:=hR4.cell
      have hfr:=hR4.free
      have hlr:=hR4.lt
      have HR4:=V hR4
      have HO4:=V ho4
      have HB4:=V hb4
      clear ho4 hb4 HJO hR4 HRW hcp hlp
      go_wp2_with fail
      refine bodyPost_ret (results_row3 (P:=Tryz.prog) rfl _ _ (w.heap.size+1) 73 _ (0,0) _ rfl (triple_set (U HR4) rfl) Tryz.underlying73 rfl Tryz.sizeProgram) rfl ?_
      have hsz:=U HSZ2
      have hww:w.heap.size≤wr.heap.size:=by have:=(U HBW).size;omega
      have hn:(Value.slice a4 q.1.length c4).ownBlock≠some (w.heap.size+1):=fun e=>row_not_blk (U HR4) (U HO4) (by decide) e
      have hb5:Below w.heap.size w w4:=(U HW2).trans (((U HBW).trans ((U HB4).mono (U HBW).size)).mono (by omega))
      try rw[hq]
      refine⟨a4,c4,rfl,?_,((hb5.setCell (by simp) _).setCell (by simp) _).setCell (by simp) _⟩
      exact ownsRow_base (ownsRow_far (ownsRow_far (ownsRow_far (U HO4) hn _) hn _) hn _) hww
theorem Tryz.name153 : (Tryz.f153.name == "runtime.NumGoroutine") = false := by kernel_rfl
theorem Tryz.body153:Tryz.f153.body.isNone=false:=by kernel_rfl
theorem set_same2 {α:Type} {l:List α} {k:Nat} {x:α} (h:l[k]? = some x):l.set k x=l:=by
  apply List.ext_getElem?
  intro i
  by_cases e:k=i
  · subst e
    rw[List.getElem?_set_self (List.getElem?_eq_some_iff.1 h).1,h]
  · rw[List.getElem?_set_ne e]
theorem straightened_any (g cap en:Nat) (ce:Int) (l:List (Int×Int)) (w:World) (ho:OwnI 0 w (.slice (some ⟨g,0,none⟩) l.length cap) l) (hp:PrOk (l,en)) :
    Calls Tryz.prog 83 #[.agg #[.slice (some ⟨g,0,none⟩) l.length cap,.int .i64 en,.int .i64 ce]] w (ProgOut w (stage2 (l,en)) ce):=by
  have hpos:0<l.length:=by have:=hp.entry;simp only at this;omega
  have h5:l.length≤5000:=hp.small
  have hb0:=below_box2 w (.cells #[.slice (some ⟨g,0,none⟩) l.length cap,.int .i64 en,.int .i64 ce] 73) (.cells #[.slice none 0 0,.int .i64 0,.int .i64 0] 73)
  have hP:Blk ((w.alloc (.cells #[.slice (some ⟨g,0,none⟩) l.length cap,.int .i64 en,.int .i64 ce] 73)).alloc (.cells #[.slice none 0 0,.int .i64 0,.int .i64 0] 73)) w.heap.size #[.slice (some ⟨g,0,none⟩) l.length cap,.int .i64 en,.int .i64 ce] 73:=(Blk.new w _ _).alloc _
  have hR:=blk_two w (.cells #[.slice (some ⟨g,0,none⟩) l.length cap,.int .i64 en,.int .i64 ce] 73) #[.slice none 0 0,.int .i64 0,.int .i64 0] 73
  have hsz:((w.alloc (.cells #[.slice (some ⟨g,0,none⟩) l.length cap,.int .i64 en,.int .i64 ce] 73)).alloc (.cells #[.slice none 0 0,.int .i64 0,.int .i64 0] 73)).heap.size=w.heap.size+2:=by simp
  have HCL:=V (clone3_any g cap l _ ((LawStill.ofBelow hb0).row ho) hpos (by omega))
  have HB0:=V hb0
  have HP:=V hP
  have HR:=V hR
  have hlI:(l.length:Int)≤5000:=by omega
  have hl1:(1:Int)≤l.length:=by omega
  have HNM:Hid (∀ k,NamesIn l.length (strTo l k)):=fun k=>strTo_in hp.names k
  clear hb0 hP hR ho hp
  go_enter Tryz.func83,Tryz.ntmps83
  go_upto_region 1 with fail
  generalize (w.alloc (.cells #[.slice (some ⟨g,0,none⟩) l.length cap,.int .i64 en,.int .i64 ce] 73)).alloc (.cells #[.slice none 0 0,.int .i64 0,.int .i64 0] 73)=W at *
  have hcp:=(U HP).cell
  have hlp:=(U HP).lt
  go_wp2_with fail
  refine (U HCL).mono ?_
  rintro e w1 ⟨v,rfl,hv,hb1⟩
  obtain⟨g1,cap1,rfl,hg1,hg1l⟩:=hv.form hpos
  have hp1:=(U HP).below hb1 (U HP).lt
  have hr1:=(U HR).below hb1 (U HR).lt
  have hcp1:=hp1.cell
  have hfp1:=hp1.free
  have hlp1:=hp1.lt
  have hp2:=hp1.set 0 (.slice (some ⟨g1,0,none⟩) l.length cap1)
  simp only[List.setIfInBounds_toArray,List.set_cons_zero]at hp2
  have hr2:=hr1.far (a:=⟨w.heap.size,0,none⟩) (by simp) (.slice (some ⟨g1,0,none⟩) l.length cap1)
  have hv2:=ownsRow_far hv (fun e=>row_not_blk hp1 hv (by decide) e) (.slice (some ⟨g1,0,none⟩) l.length cap1) (a:=⟨w.heap.size,0,none⟩)
  have hbw1:Below w.heap.size w (w1.setCell ⟨w.heap.size,0,none⟩ (.slice (some ⟨g1,0,none⟩) l.length cap1)):=((U HB0).trans (hb1.mono (U HB0).size)).setCell (Nat.le_refl _) _
  have HP2:=V hp2
  have HR2:=V hr2
  have HV2:=V hv2
  have HBW1:=V hbw1
  have HW:Hid (W.heap.size=w.heap.size+2):=hsz
  clear hv hb1 hp1 hr1 hp2 hr2 hv2 hbw1 HCL hcp
  go_upto_region 2 with fail
  generalize w1.setCell ⟨w.heap.size,0,none⟩ (.slice (some ⟨g1,0,none⟩) l.length cap1)=w2 at *
  have hcq:=(U HP2).cell
  have hlq:=(U HP2).lt
  clear hcp1 hfp1 hlp1 hg1l
  go_wp2_with fail
  go_loopw [13] (fun i wr=>∃ k:Nat,i=.int .i64 k∧k≤l.length∧wr.ownsRow W.heap.size 65 2 (.slice (some ⟨g1,0,none⟩) l.length cap1) l.length (instrCells (strTo l k))∧Blk wr w.heap.size #[.slice (some ⟨g1,0,none⟩) l.length cap1,.int .i64 en,.int .i64 ce] 73∧Blk wr (w.heap.size+1) #[.slice none 0 0,.int .i64 0,.int .i64 0] 73∧Below w.heap.size w wr) (fun i _=>l.length-(intOf i).toNat)
  case atStart=>exact⟨0,rfl,Nat.zero_le _,U HV2,U HP2,U HR2,U HBW1⟩
  case round =>
    clear hcq hlq
    obtain⟨k,rfl,hk,hrow,hpb,hrb,hbw⟩:=hrel
    have HROW:=V hrow
    have HPB:=V hpb
    have HRB:=V hrb
    have HBW:=V hbw
    have hcp:=hpb.cell
    have hlp:=hpb.lt
    by_cases hlt:k<l.length
    · have hml:(strTo l k).length=l.length:=strTo_len l k
      have HNXT:Hid (strTo l (k+1)=strStep (strTo l k) k):=rfl
      have hnin:=U HNM k
      generalize strTo l k=m at *
      obtain⟨x,hx⟩:∃ x,m[k]? = some x:=⟨_,List.getElem?_eq_getElem (by omega)⟩
      have c1:=(own_cell hrow (k * 2) (by omega)).trans (instrCells_at m k x hx).1
      have c2:=(own_cell hrow (k * 2+1) (by omega)).trans (instrCells_at m k x hx).2
      have hfr:=own_free hrow
      have hgl:=(ownsRow_lt hrow (k:=g1) rfl).1
      have hltI:(k:Int)<l.length:=by omega
      have HN:=V (fun W=>namesIns_any x.1 W)
      have HX:=V hx
      clear hrow hpb hrb hbw
      go_wp2_with fail
      refine (U HN _).mono ?_
      rintro e w3 ⟨rfl,hw3⟩
      obtain rfl:=hw3.symm
      clear hw3 HN
      by_cases hnm:namesS x.1=true
      · rw[hnm]
        have hxr:=hnin x (List.mem_of_getElem? (U HX)) hnm
        have hjm:∀ y∈m,y.1=1→0≤y.2∧y.2<m.length:=fun y hy e=>by have:=hnin y hy (by rw[e];rfl);omega
        have hgin:=goalS_in hjm m.length x.2 (by omega)
        obtain⟨Gn,hG⟩:∃ Gn:Nat,goalS m m.length x.2=Gn:=⟨(goalS m m.length x.2).toNat,by omega⟩
        rw[hG]at hgin
        have HGO:Hid (∀ n,Calls Tryz.prog 153 #[.slice (some ⟨g1,0,none⟩) l.length cap1,.int .i64 x.2] (wr.drewN n) fun e w'=>e=.returned (.int .i64 Gn)∧w'=wr.drewN n):=fun n=>by
          have hin:InL wr (some ⟨g1,0,none⟩) m:=(OwnI.isIn (B:=W.heap.size) (l:=m) (n:=l.length) (c:=cap1) (by unfold OwnI;rw[hml];exact U HROW)).1
          have:=goal_any (some ⟨g1,0,none⟩) cap1 m x.2 (wr.drewN n) hin (by omega) hjm (by omega)
          rw[hG,hml]at this
          exact this
        have HSTEP:Hid (strStep m k=if x.1=1∧(((m.set k (x.1,(Gn:Int))).getD Gn (0,0)).1=4∨((m.set k (x.1,(Gn:Int))).getD Gn (0,0)).1=5) then (m.set k (x.1,(Gn:Int))).set k ((m.set k (x.1,(Gn:Int))).getD Gn (0,0)) else m.set k (x.1,(Gn:Int))):=by
          show strStep m k=_
          unfold strStep
          rw[U HX]
          simp only[hnm,if_true,hG,Int.toNat_natCast]
        have hrow1:=own_set (U HROW) (k * 2+1) (.int .i64 Gn)
        have e1:(instrCells m).set (k * 2+1) (.int .i64 Gn)=instrCells (m.set k (x.1,(Gn:Int))):=by
          rw[← instr_set2 m k x (U HX) x.1 Gn,set_same2 (instrCells_at m k x (U HX)).1]
        rw[e1]at hrow1
        have HROW1:=V hrow1
        clear hrow1 e1 hjm hxr hnin
        go_wp2_with fail
        go_cut [] from 14 to 62 (fun wc=>∃ n,wc=(wr.setCell ⟨g1,k * 2+1,none⟩ (.int .i64 Gn)).drewN n)
        case first =>
          go_region_law (refine step_call rfl 153 #[.tmp 28,.tmp 32] #[33,2] rfl Tryz.func153 Tryz.name153 Tryz.body153 #[.slice (some ⟨g1,0,none⟩) l.length cap1,.int .i64 x.2] (by first|rfl|(simp[Act.eval];done)) (U HGO _) ?_;rintro e wu ⟨rfl,hwu⟩;subst hwu;refine⟨_,rfl,?_⟩)
          all_goals
            go_wp2_with fail
            go_meet
            exact⟨_,rfl⟩
        case rest =>
          obtain⟨n1,hwc⟩:=hcut
          have hg1w:w.heap.size≤g1:=by have:=(ownsRow_lt (U HROW) (k:=g1) rfl).2;have:=U HW;omega
          have hnp:w.heap.size≠g1:=fun e=>row_not_blk (U HPB) (U HROW) (by decide) (by rw[e];rfl)
          have hnr:w.heap.size+1≠g1:=fun e=>row_not_blk (U HRB) (U HROW) (by decide) (by rw[e];rfl)
          have hrow2:wc.ownsRow W.heap.size 65 2 (.slice (some ⟨g1,0,none⟩) l.length cap1) l.length (instrCells (m.set k (x.1,(Gn:Int)))):=by rw[hwc];exact U HROW1
          have hpb2:Blk wc w.heap.size #[.slice (some ⟨g1,0,none⟩) l.length cap1,.int .i64 en,.int .i64 ce] 73:=by rw[hwc];exact ((U HPB).far (a:=⟨g1,k * 2+1,none⟩) hnp _).drewN n1
          have hrb2:Blk wc (w.heap.size+1) #[.slice none 0 0,.int .i64 0,.int .i64 0] 73:=by rw[hwc];exact ((U HRB).far (a:=⟨g1,k * 2+1,none⟩) hnr _).drewN n1
          have hbw2:Below w.heap.size w wc:=by rw[hwc];exact below_drawn ((U HBW).setCell hg1w _) n1
          have hm1l:(m.set k (x.1,(Gn:Int))).length=l.length:=by rw[List.length_set,hml]
          obtain⟨e,he⟩:∃ e,(m.set k (x.1,(Gn:Int)))[Gn]? = some e:=⟨_,List.getElem?_eq_getElem (by omega)⟩
          have hed:(m.set k (x.1,(Gn:Int))).getD Gn (0,0)=e:=by rw[List.getD_eq_getElem?_getD,he];rfl
          have hk1:(m.set k (x.1,(Gn:Int)))[k]? = some (x.1,(Gn:Int)):=List.getElem?_set_self (by omega)
          have HSTEP2:Hid (strStep m k=if x.1=1∧(e.1=4∨e.1=5) then (m.set k (x.1,(Gn:Int))).set k e else m.set k (x.1,(Gn:Int))):=by
            show _=_
            rw[U HSTEP,hed]
          generalize m.set k (x.1,(Gn:Int))=m1 at *
          obtain⟨w5,hw5⟩:∃ w5:World,w5=wc:=⟨_,rfl⟩
          rw[← hw5]at hrow2 hpb2 hrb2 hbw2 ⊢
          have q1:=(own_cell hrow2 (Gn * 2) (by omega)).trans (instrCells_at m1 Gn e he).1
          have q2:=(own_cell hrow2 (Gn * 2+1) (by omega)).trans (instrCells_at m1 Gn e he).2
          have q3:=(own_cell hrow2 (k * 2) (by omega)).trans (instrCells_at m1 k _ hk1).1
          have q4:=(own_cell hrow2 (k * 2+1) (by omega)).trans (instrCells_at m1 k _ hk1).2
          have q5:=(ownsRow_lt hrow2 (k:=g1) rfl).1
          have q6:=hpb2.cell
          have q7:=hpb2.lt
          have hGI:(Gn:Int)<l.length:=by omega
          simp only at q3 q4
          have hbx:=below_box w5 (.cells #[.int .i64 e.1,.int .i64 e.2] 65)
          have HROW3:=V (ownsRow_alloc hrow2 (.cells #[.int .i64 e.1,.int .i64 e.2] 65))
          have HPB3:=V (hpb2.alloc (.cells #[.int .i64 e.1,.int .i64 e.2] 65))
          have HRB3:=V (hrb2.alloc (.cells #[.int .i64 e.1,.int .i64 e.2] 65))
          have HBW3:=V (hbw2.trans (hbx.mono hbw2.size))
          have HEB:=V (Blk.new w5 #[.int .i64 e.1,.int .i64 e.2] 65)
          have HK1:=V hk1
          clear hw5 hwc hcp hlp c1 c2 hfr hgl hrow2 hpb2 hrb2 hbw2 he hed hk1 hbx HROW HROW1 HPB HRB HBW HSTEP HX HGO
          go_wp2_with fail
          go_cut [5] from 14 to 62 (fun s5 wd=>∃ n,s5=.pointer (some ⟨w5.heap.size,0,none⟩)∧wd=(w5.alloc (.cells #[.int .i64 e.1,.int .i64 e.2] 65)).drewN n)
          case first =>
            go_region
            all_goals
              go_wp2_with fail
              go_meet
              exact⟨_,rfl,rfl⟩
          case rest =>
            obtain⟨n2,rfl,hwd⟩:=hcut
            have hrow4:wc.ownsRow W.heap.size 65 2 (.slice (some ⟨g1,0,none⟩) l.length cap1) l.length (instrCells m1):=by rw[hwd];exact U HROW3
            have hpb4:Blk wc w.heap.size #[.slice (some ⟨g1,0,none⟩) l.length cap1,.int .i64 en,.int .i64 ce] 73:=by rw[hwd];exact (U HPB3).drewN n2
            have hrb4:Blk wc (w.heap.size+1) #[.slice none 0 0,.int .i64 0,.int .i64 0] 73:=by rw[hwd];exact (U HRB3).drewN n2
            have hbw4:Below w.heap.size w wc:=by rw[hwd];exact below_drawn (U HBW3) n2
            have hbe:Blk wc w5.heap.size #[.int .i64 e.1,.int .i64 e.2] 65:=by rw[hwd];exact (U HEB).drewN n2
            have r1:=hbe.cell
            have r2:=hbe.lt
            have r3:=(own_cell hrow4 (k * 2) (by omega)).trans (instrCells_at m1 k _ (U HK1)).1
            have r4:=(own_cell hrow4 (k * 2+1) (by omega)).trans (instrCells_at m1 k _ (U HK1)).2
            have r5:=own_free hrow4
            have r6:=(ownsRow_lt hrow4 (k:=g1) rfl).1
            simp only at r3 r4
            have HR4:=V hrow4
            have HP4:=V hpb4
            have HB4:=V hrb4
            have HW4:=V hbw4
            obtain⟨e1,e2⟩:=e
            obtain⟨x1,x2⟩:=x
            simp only at *
            clear hwd hrow4 hpb4 hrb4 hbw4 hbe q1 q2 q3 q4 q5 q6 q7 HROW3 HPB3 HRB3 HBW3 HEB hG
            by_cases hx1:x1=1
            · subst hx1
              by_cases h45:e1=4∨e1=5
              · have hfin:Hid (wc.setCell ⟨g1,k * 2,none⟩ (.int .i64 e1) |>.setCell ⟨g1,k * 2+1,none⟩ (.int .i64 e2) |>.ownsRow W.heap.size 65 2 (.slice (some ⟨g1,0,none⟩) l.length cap1) l.length (instrCells (m1.set k (e1,e2)))):=by
                  have:=own_set (own_set (U HR4) (k * 2) (.int .i64 e1)) (k * 2+1) (.int .i64 e2)
                  rw[instr_set2 m1 k _ (U HK1) e1 e2]at this
                  exact this
                have HST3:Hid (strTo l (k+1)=m1.set k (e1,e2)):=by
                  show _=_
                  rw[U HNXT,U HSTEP2,if_pos ⟨rfl,h45⟩]
                rcases h45 with rfl|rfl
                all_goals
                  go_wp2_with fail
                  go_roundw
                  case rel=>exact⟨k+1,by go_num,by omega,by rw[U HST3];exact U hfin,((U HP4).far (a:=⟨g1,k * 2,none⟩) hnp _).far (a:=⟨g1,k * 2+1,none⟩) hnp _,((U HB4).far (a:=⟨g1,k * 2,none⟩) hnr _).far (a:=⟨g1,k * 2+1,none⟩) hnr _,((U HW4).setCell hg1w _).setCell hg1w _⟩
                  case measure=>simp[intOf];omega
              · have h4':(e1 == 4)=false:=by simp;omega
                have h5':(e1 == 5)=false:=by simp;omega
                have HST3:Hid (strTo l (k+1)=m1):=by
                  show _=_
                  rw[U HNXT,U HSTEP2,if_neg (fun h=>h45 h.2)]
                go_wp2_with fail
                go_roundw
                case rel=>exact⟨k+1,by go_num,by omega,by rw[U HST3];exact U HR4,U HP4,U HB4,U HW4⟩
                case measure=>simp[intOf];omega
            · have hx1':(x1 == 1)=false:=by simpa using hx1
              have HST3:Hid (strTo l (k+1)=m1):=by
                show _=_
                rw[U HNXT,U HSTEP2,if_neg (fun h=>hx1 h.1)]
              go_wp2_with fail
              go_roundw
              case rel=>exact⟨k+1,by go_num,by omega,by rw[U HST3];exact U HR4,U HP4,U HB4,U HW4⟩
              case measure=>simp[intOf];omega
      · have hnf:namesS x.1=false:=by simpa using hnm
        rw[hnf]
        go_wp2_with fail
        go_roundw
        case rel =>
          refine⟨k+1,by go_num,by omega,?_,U HPB,U HRB,U HBW⟩
          rw[U HNXT]
          unfold strStep
          rw[U HX]
          simp only[hnf]
          exact U HROW
        case measure=>simp[intOf];omega
    · have hkk:k=l.length:=by omega
      subst hkk
      have hcr:=hrb.cell
      have hfr:=hrb.free
      have hlr:=hrb.lt
      have hne:w.heap.size≠w.heap.size+1:=by omega
      clear hrow hpb hrb hbw
      go_wp2_with fail
      refine bodyPost_ret (results_row3 (P:=Tryz.prog) rfl _ _ (w.heap.size+1) 73 _ (0,0) _ rfl (triple_set (U HRB) rfl) Tryz.underlying73 rfl Tryz.sizeProgram) rfl ?_
      have hn:(Value.slice (some ⟨g1,0,none⟩) l.length cap1).ownBlock≠some (w.heap.size+1):=fun e=>row_not_blk (U HRB) (U HROW) (by decide) e
      have el:(stage2 (l,en)).1.length=l.length:=strTo_len l l.length
      refine⟨some ⟨g1,0,none⟩,cap1,by rw[el];rfl,?_,(((U HBW).setCell (by simp) _).setCell (by simp) _).setCell (by simp) _⟩
      unfold OwnI
      rw[el]
      exact ownsRow_base (ownsRow_far (ownsRow_far (ownsRow_far (U HROW) hn _) hn _) hn _) (by have:=U HW;omega)
end Go.Proofs.YtmeiikjpaepogaaGreatDoor
