/- The program's options: Fold: straightened. -/
import Derived.Test.YtmeiikjpaepogaaGreatDoorU38
import Derived.Test.YtmeiikjpaepogaaGreatDoorU27
import Derived.Test.YtmeiikjpaepogaaGreatDoorU37
import Derived.Test.YtmeiikjpaepogaaGreatDoorU39
import Derived.Test.YtmeiikjpaepogaaGreatDoorU35
import Derived.Deep.AppendLies
set_option maxRecDepth 100000
set_option maxHeartbeats 16000000
namespace Go.Proofs.YtmeiikjpaepogaaGreatDoor
open Go Go.RowKit
theorem Tryz.name153 : (Tryz.f153.name == "runtime.NumGoroutine") = false := by kernel_rfl
theorem Tryz.body153:Tryz.f153.body.isNone=false:=by kernel_rfl
theorem set_same2 {α:Type} {l:List α} {k:Nat} {x:α} (h:l[k]? = some x):l.set k x=l:=by
  apply List.ext_getElem?
  intro i
  by_cases e:k=i
  · subst e
    rw[List.getElem?_set_self (List.getElem?_eq_some_iff.1 h).1,h]
  · rw[List.getElem?_set_ne e]
theorem straightened_any (g cap en:Nat) (ce:Int) (l:List (Int×Int)) (w:World) (ho:OwnI 0 w (.slice (some ⟨g,0,none⟩) l.length cap) l) (hp:PrOk (l,en)) :
    Calls Tryz.prog 83 #[.agg #[.slice (some ⟨g,0,none⟩) l.length cap,.int .i64 en,.int .i64 ce]] w (ProgOut w (stage2 (l,en)) ce):=by
  have hpos:0<l.length:=by have:=hp.entry;simp only at this;omega
  have h5:l.length≤5000:=hp.small
  have hb0:=below_box2 w (.cells #[.slice (some ⟨g,0,none⟩) l.length cap,.int .i64 en,.int .i64 ce] 73) (.cells #[.slice none 0 0,.int .i64 0,.int .i64 0] 73)
  have hP:Blk ((w.alloc (.cells #[.slice (some ⟨g,0,none⟩) l.length cap,.int .i64 en,.int .i64 ce] 73)).alloc (.cells #[.slice none 0 0,.int .i64 0,.int .i64 0] 73)) w.heap.size #[.slice (some ⟨g,0,none⟩) l.length cap,.int .i64 en,.int .i64 ce] 73:=(Blk.new w _ _).alloc _
  have hR:=blk_two w (.cells #[.slice (some ⟨g,0,none⟩) l.length cap,.int .i64 en,.int .i64 ce] 73) #[.slice none 0 0,.int .i64 0,.int .i64 0] 73
  have hsz:((w.alloc (.cells #[.slice (some ⟨g,0,none⟩) l.length cap,.int .i64 en,.int .i64 ce] 73)).alloc (.cells #[.slice none 0 0,.int .i64 0,.int .i64 0] 73)).heap.size=w.heap.size+2:=by simp
  have HCL:=V (clone3_any g cap l _ ((LawStill.ofBelow hb0).row ho) hpos (by omega))
  have HB0:=V hb0
  have HP:=V hP
  have HR:=V hR
  have hlI:(l.length:Int)≤5000:=by omega
  have hl1:(1:Int)≤l.length:=by omega
  have HNM:Hid (∀ k,NamesIn l.length (strTo l k)):=fun k=>strTo_in hp.names k
  clear hb0 hP hR ho hp
  go_enter Tryz.func83,Tryz.ntmps83
  go_upto_region 1 with fail
  generalize (w.alloc (.cells #[.slice (some ⟨g,0,none⟩) l.length cap,.int .i64 en,.int .i64 ce] 73)).alloc (.cells #[.slice none 0 0,.int .i64 0,.int .i64 0] 73)=W at *
  have hcp:=(U HP).cell
  have hlp:=(U HP).lt
  go_wp2_with fail
  refine (U HCL).mono ?_
  rintro e w1 ⟨v,rfl,hv,hb1⟩
  obtain⟨g1,cap1,rfl,hg1,hg1l⟩:=hv.form hpos
  have hp1:=(U HP).below hb1 (U HP).lt
  have hr1:=(U HR).below hb1 (U HR).lt
  have hcp1:=hp1.cell
  have hfp1:=hp1.free
  have hlp1:=hp1.lt
  have hp2:=hp1.set 0 (.slice (some ⟨g1,0,none⟩) l.length cap1)
  simp only[List.setIfInBounds_toArray,List.set_cons_zero]at hp2
  have hr2:=hr1.far (a:=⟨w.heap.size,0,none⟩) (by simp) (.slice (some ⟨g1,0,none⟩) l.length cap1)
  have hv2:=ownsRow_far hv (fun e=>row_not_blk hp1 hv (by decide) e) (.slice (some ⟨g1,0,none⟩) l.length cap1) (a:=⟨w.heap.size,0,none⟩)
  have hbw1:Below w.heap.size w (w1.setCell ⟨w.heap.size,0,none⟩ (.slice (some ⟨g1,0,none⟩) l.length cap1)):=((U HB0).trans (hb1.mono (U HB0).size)).setCell (Nat.le_refl _) _
  have HP2:=V hp2
  have HR2:=V hr2
  have HV2:=V hv2
  have HBW1:=V hbw1
  have HW:Hid (W.heap.size=w.heap.size+2):=hsz
  clear hv hb1 hp1 hr1 hp2 hr2 hv2 hbw1 HCL hcp
  go_upto_region 2 with fail
  generalize w1.setCell ⟨w.heap.size,0,none⟩ (.slice (some ⟨g1,0,none⟩) l.length cap1)=w2 at *
  have hcq:=(U HP2).cell
  have hlq:=(U HP2).lt
  clear hcp1 hfp1 hlp1 hg1l
  go_wp2_with fail
  go_loopw [13] (fun i wr=>∃ k:Nat,i=.int .i64 k∧k≤l.length∧wr.ownsRow W.heap.size 65 2 (.slice (some ⟨g1,0,none⟩) l.length cap1) l.length (instrCells (strTo l k))∧Blk wr w.heap.size #[.slice (some ⟨g1,0,none⟩) l.length cap1,.int .i64 en,.int .i64 ce] 73∧Blk wr (w.heap.size+1) #[.slice none 0 0,.int .i64 0,.int .i64 0] 73∧Below w.heap.size w wr) (fun i _=>l.length-(intOf i).toNat)
  case atStart=>exact⟨0,rfl,Nat.zero_le _,U HV2,U HP2,U HR2,U HBW1⟩
  case round =>
    clear hcq hlq
    obtain⟨k,rfl,hk,hrow,hpb,hrb,hbw⟩:=hrel
    have HROW:=V hrow
    have HPB:=V hpb
    have HRB:=V hrb
    have HBW:=V hbw
    have hcp:=hpb.cell
    have hlp:=hpb.lt
    by_cases hlt:k<l.length
    · have hml:(strTo l k).length=l.length:=strTo_len l k
      have HNXT:Hid (strTo l (k+1)=strStep (strTo l k) k):=rfl
      have hnin:=U HNM k
      generalize strTo l k=m at *
      obtain⟨x,hx⟩:∃ x,m[k]? = some x:=⟨_,List.getElem?_eq_getElem (by omega)⟩
      have c1:=(own_cell hrow (k * 2) (by omega)).trans (instrCells_at m k x hx).1
      have c2:=(own_cell hrow (k * 2+1) (by omega)).trans (instrCells_at m k x hx).2
      have hfr:=own_free hrow
      have hgl:=(ownsRow_lt hrow (k:=g1) rfl).1
      have hltI:(k:Int)<l.length:=by omega
      have HN:=V (fun W=>namesIns_any x.1 W)
      have HX:=V hx
      clear hrow hpb hrb hbw
      go_wp2_with fail
      refine (U HN _).mono ?_
      rintro e w3 ⟨rfl,hw3⟩
      obtain rfl:=hw3.symm
      clear hw3 HN
      by_cases hnm:namesS x.1=true
      · rw[hnm]
        have hxr:=hnin x (List.mem_of_getElem? (U HX)) hnm
        have hjm:∀ y∈m,y.1=1→0≤y.2∧y.2<m.length:=fun y hy e=>by have:=hnin y hy (by rw[e];rfl);omega
        have hgin:=goalS_in hjm m.length x.2 (by omega)
        obtain⟨Gn,hG⟩:∃ Gn:Nat,goalS m m.length x.2=Gn:=⟨(goalS m m.length x.2).toNat,by omega⟩
        rw[hG]at hgin
        have HGO:Hid (∀ n,Calls Tryz.prog 153 #[.slice (some ⟨g1,0,none⟩) l.length cap1,.int .i64 x.2] (wr.drewN n) fun e w'=>e=.returned (.int .i64 Gn)∧w'=wr.drewN n):=fun n=>by
          have hin:InL wr (some ⟨g1,0,none⟩) m:=(OwnI.isIn (B:=W.heap.size) (l:=m) (n:=l.length) (c:=cap1) (by unfold OwnI;rw[hml];exact U HROW)).1
          have:=goal_any (some ⟨g1,0,none⟩) cap1 m x.2 (wr.drewN n) hin (by omega) hjm (by omega)
          rw[hG,hml]at this
          exact this
        have HSTEP:Hid (strStep m k=if x.1=1∧(((m.set k (x.1,(Gn:Int))).getD Gn (0,0)).1=4∨((m.set k (x.1,(Gn:Int))).getD Gn (0,0)).1=5) then (m.set k (x.1,(Gn:Int))).set k ((m.set k (x.1,(Gn:Int))).getD Gn (0,0)) else m.set k (x.1,(Gn:Int))):=by
          show strStep m k=_
          unfold strStep
          rw[U HX]
          simp only[hnm,if_true,hG,Int.toNat_natCast]
        have hrow1:=own_set (U HROW) (k * 2+1) (.int .i64 Gn)
        have e1:(instrCells m).set (k * 2+1) (.int .i64 Gn)=instrCells (m.set k (x.1,(Gn:Int))):=by
          rw[← instr_set2 m k x (U HX) x.1 Gn,set_same2 (instrCells_at m k x (U HX)).1]
        rw[e1]at hrow1
        have HROW1:=V hrow1
        clear hrow1 e1 hjm hxr hnin
        go_wp2_with fail
        go_cut [] from 14 to 62 (fun wc=>∃ n,wc=(wr.setCell ⟨g1,k * 2+1,none⟩ (.int .i64 Gn)).drewN n)
        case first =>
          go_region_law (refine step_call rfl 153 #[.tmp 28,.tmp 32] #[33,2] rfl Tryz.func153 Tryz.name153 Tryz.body153 #[.slice (some ⟨g1,0,none⟩) l.length cap1,.int .i64 x.2] (by first|rfl|(simp[Act.eval];done)) (U HGO _) ?_;rintro e wu ⟨rfl,hwu⟩;subst hwu;refine⟨_,rfl,?_⟩)
          all_goals
            go_wp2_with fail
            go_meet
            exact⟨_,rfl⟩
        case rest =>
          obtain⟨n1,hwc⟩:=hcut
          have hg1w:w.heap.size≤g1:=by have:=(ownsRow_lt (U HROW) (k:=g1) rfl).2;have:=U HW;omega
          have hnp:w.heap.size≠g1:=fun e=>row_not_blk (U HPB) (U HROW) (by decide) (by rw[e];rfl)
          have hnr:w.heap.size+1≠g1:=fun e=>row_not_blk (U HRB) (U HROW) (by decide) (by rw[e];rfl)
          have hrow2:wc.ownsRow W.heap.size 65 2 (.slice (some ⟨g1,0,none⟩) l.length cap1) l.length (instrCells (m.set k (x.1,(Gn:Int)))):=by rw[hwc];exact U HROW1
          have hpb2:Blk wc w.heap.size #[.slice (some ⟨g1,0,none⟩) l.length cap1,.int .i64 en,.int .i64 ce] 73:=by rw[hwc];exact ((U HPB).far (a:=⟨g1,k * 2+1,none⟩) hnp _).drewN n1
          have hrb2:Blk wc (w.heap.size+1) #[.slice none 0 0,.int .i64 0,.int .i64 0] 73:=by rw[hwc];exact ((U HRB).far (a:=⟨g1,k * 2+1,none⟩) hnr _).drewN n1
          have hbw2:Below w.heap.size w wc:=by rw[hwc];exact below_drawn ((U HBW).setCell hg1w _) n1
          have hm1l:(m.set k (x.1,(Gn:Int))).length=l.length:=by rw[List.length_set,hml]
          obtain⟨e,he⟩:∃ e,(m.set k (x.1,(Gn:Int)))[Gn]? = some e:=⟨_,List.getElem?_eq_getElem (by omega)⟩
          have hed:(m.set k (x.1,(Gn:Int))).getD Gn (0,0)=e:=by rw[List.getD_eq_getElem?_getD,he];rfl
          have hk1:(m.set k (x.1,(Gn:Int)))[k]? = some (x.1,(Gn:Int)):=List.getElem?_set_self (by omega)
          have HSTEP2:Hid (strStep m k=if x.1=1∧(e.1=4∨e.1=5) then (m.set k (x.1,(Gn:Int))).set k e else m.set k (x.1,(Gn:Int))):=by
            show _=_
            rw[U HSTEP,hed]
          generalize m.set k (x.1,(Gn:Int))=m1 at *
          obtain⟨w5,hw5⟩:∃ w5:World,w5=wc:=⟨_,rfl⟩
          rw[← hw5]at hrow2 hpb2 hrb2 hbw2 ⊢
          have q1:=(own_cell hrow2 (Gn * 2) (by omega)).trans (instrCells_at m1 Gn e he).1
          have q2:=(own_cell hrow2 (Gn * 2+1) (by omega)).trans (instrCells_at m1 Gn e he).2
          have q3:=(own_cell hrow2 (k * 2) (by omega)).trans (instrCells_at m1 k _ hk1).1
          have q4:=(own_cell hrow2 (k * 2+1) (by omega)).trans (instrCells_at m1 k _ hk1).2
          have q5:=(ownsRow_lt hrow2 (k:=g1) rfl).1
          have q6:=hpb2.cell
          have q7:=hpb2.lt
          have hGI:(Gn:Int)<l.length:=by omega
          simp only at q3 q4
          have hbx:=below_box w5 (.cells #[.int .i64 e.1,.int .i64 e.2] 65)
          have HROW3:=V (ownsRow_alloc hrow2 (.cells #[.int .i64 e.1,.int .i64 e.2] 65))
          have HPB3:=V (hpb2.alloc (.cells #[.int .i64 e.1,.int .i64 e.2] 65))
          have HRB3:=V (hrb2.alloc (.cells #[.int .i64 e.1,.int .i64 e.2] 65))
          have HBW3:=V (hbw2.trans (hbx.mono hbw2.size))
          have HEB:=V (Blk.new w5 #[.int .i64 e.1,.int .i64 e.2] 65)
          have HK1:=V hk1
          clear hw5 hwc hcp hlp c1 c2 hfr hgl hrow2 hpb2 hrb2 hbw2 he hed hk1 hbx HROW HROW1 HPB HRB HBW HSTEP HX HGO
          go_wp2_with fail
          go_cut [5] from 14 to 62 (fun s5 wd=>∃ n,s5=.pointer (some ⟨w5.heap.size,0,none⟩)∧wd=(w5.alloc (.cells #[.int .i64 e.1,.int .i64 e.2] 65)).drewN n)
          case first =>
            go_region
            all_goals
              go_wp2_with fail
              go_meet
              exact⟨_,rfl,rfl⟩
          case rest =>
            obtain⟨n2,rfl,hwd⟩:=hcut
            have hrow4:wc.ownsRow W.heap.size 65 2 (.slice (some ⟨g1,0,none⟩) l.length cap1) l.length (instrCells m1):=by rw[hwd];exact U HROW3
            have hpb4:Blk wc w.heap.size #[.slice (some ⟨g1,0,none⟩) l.length cap1,.int .i64 en,.int .i64 ce] 73:=by rw[hwd];exact (U HPB3).drewN n2
            have hrb4:Blk wc (w.heap.size+1) #[.slice none 0 0,.int .i64 0,.int .i64 0] 73:=by rw[hwd];exact (U HRB3).drewN n2
            have hbw4:Below w.heap.size w wc:=by rw[hwd];exact below_drawn (U HBW3) n2
            have hbe:Blk wc w5.heap.size #[.int .i64 e.1,.int .i64 e.2] 65:=by rw[hwd];exact (U HEB).drewN n2
            have r1:=hbe.cell
            have r2:=hbe.lt
            have r3:=(own_cell hrow4 (k * 2) (by omega)).trans (instrCells_at m1 k _ (U HK1)).1
            have r4:=(own_cell hrow4 (k * 2+1) (by omega)).trans (instrCells_at m1 k _ (U HK1)).2
            have r5:=own_free hrow4
            have r6:=(ownsRow_lt hrow4 (k:=g1) rfl).1
            simp only at r3 r4
            have HR4:=V hrow4
            have HP4:=V hpb4
            have HB4:=V hrb4
            have HW4:=V hbw4
            obtain⟨e1,e2⟩:=e
            obtain⟨x1,x2⟩:=x
            simp only at *
            clear hwd hrow4 hpb4 hrb4 hbw4 hbe q1 q2 q3 q4 q5 q6 q7 HROW3 HPB3 HRB3 HBW3 HEB hG
            by_cases hx1:x1=1
            · subst hx1
              by_cases h45:e1=4∨e1=5
              · have hfin:Hid (wc.setCell ⟨g1,k * 2,none⟩ (.int .i64 e1) |>.setCell ⟨g1,k * 2+1,none⟩ (.int .i64 e2) |>.ownsRow W.heap.size 65 2 (.slice (some ⟨g1,0,none⟩) l.length cap1) l.length (instrCells (m1.set k (e1,e2)))):=by
                  have:=own_set (own_set (U HR4) (k * 2) (.int .i64 e1)) (k * 2+1) (.int .i64 e2)
                  rw[instr_set2 m1 k _ (U HK1) e1 e2]at this
                  exact this
                have HST3:Hid (strTo l (k+1)=m1.set k (e1,e2)):=by
                  show _=_
                  rw[U HNXT,U HSTEP2,if_pos ⟨rfl,h45⟩]
                rcases h45 with rfl|rfl
                all_goals
                  go_wp2_with fail
                  go_roundw
                  case rel=>exact⟨k+1,by go_num,by omega,by rw[U HST3];exact U hfin,((U HP4).far (a:=⟨g1,k * 2,none⟩) hnp _).far (a:=⟨g1,k * 2+1,none⟩) hnp _,((U HB4).far (a:=⟨g1,k * 2,none⟩) hnr _).far (a:=⟨g1,k * 2+1,none⟩) hnr _,((U HW4).setCell hg1w _).setCell hg1w _⟩
                  case measure=>simp[intOf];omega
              · have h4':(e1 == 4)=false:=by simp;omega
                have h5':(e1 == 5)=false:=by simp;omega
                have HST3:Hid (strTo l (k+1)=m1):=by
                  show _=_
                  rw[U HNXT,U HSTEP2,if_neg (fun h=>h45 h.2)]
                go_wp2_with fail
                go_roundw
                case rel=>exact⟨k+1,by go_num,by omega,by rw[U HST3];exact U HR4,U HP4,U HB4,U HW4⟩
                case measure=>simp[intOf];omega
            · have hx1':(x1 == 1)=false:=by simpa using hx1
              have HST3:Hid (strTo l (k+1)=m1):=by
                show _=_
                rw[U HNXT,U HSTEP2,if_neg (fun h=>hx1 h.1)]
              go_wp2_with fail
              go_roundw
              case rel=>exact⟨k+1,by go_num,by omega,by rw[U HST3];exact U HR4,U HP4,U HB4,U HW4⟩
              case measure=>simp[intOf];omega
      · have hnf:namesS x.1=false:=by simpa using hnm
        rw[hnf]
        go_wp2_with fail
        go_roundw
        case rel =>
          refine⟨k+1,by go_num,by omega,?_,U HPB,U HRB,U HBW⟩
          rw[U HNXT]
          unfold strStep
          rw[U HX]
          simp only[hnf]
          exact U HROW
        case measure=>simp[intOf];omega
    · have hkk:k=l.length:=by omega
      subst hkk
      have hcr:=hrb.cell
      have hfr:=hrb.free
      have hlr:=hrb.lt
      have hne:w.heap.size≠w.heap.size+1:=by omega
      clear hrow hpb hrb hbw
      go_wp2_with fail
      refine bodyPost_ret (results_row3 (P:=Tryz.prog) rfl _ _ (w.heap.size+1) 73 _ (0,0) _ rfl (triple_set (U HRB) rfl) Tryz.underlying73 rfl Tryz.sizeProgram) rfl ?_
      have hn:(Value.slice (some ⟨g1,0,none⟩) l.length cap1).ownBlock≠some (w.heap.size+1):=fun e=>row_not_blk (U HRB) (U HROW) (by decide) e
      have el:(stage2 (l,en)).1.length=l.length:=strTo_len l l.length
      refine⟨some ⟨g1,0,none⟩,cap1,by rw[el];rfl,?_,(((U HBW).setCell (by simp) _).setCell (by simp) _).setCell (by simp) _⟩
      unfold OwnI
      rw[el]
      exact ownsRow_base (ownsRow_far (ownsRow_far (ownsRow_far (U HROW) hn _) hn _) hn _) (by have:=U HW;omega)
def cntF (w:World) (g n:Nat):Nat:=(List.range n).countP (fun j=>match w.cell? ⟨g,j,none⟩ with|some (.bool false)=>true|_=>false)
theorem cntF_range (f:Nat→Bool) (r:List Bool):(∀ (j:Nat) (b:Bool),r[j]? = some b→f j=!b)→(List.range r.length).countP f=r.count false:=by
  generalize hn:r.length=n
  induction n generalizing r with
  | zero=>intro _;have:=List.length_eq_zero_iff.1 hn;subst this;rfl
  | succ n ih =>
    intro hf
    rcases List.eq_nil_or_concat r with rfl|⟨t,b,rfl⟩
    · simp at hn
    · rw[List.concat_eq_append]at hn hf ⊢
      have ht:t.length=n:=by simpa using hn
      rw[List.range_succ,List.countP_append,List.count_append,ih t ht (fun j c hj=>hf j c (by rw[List.getElem?_append_left (List.getElem?_eq_some_iff.1 hj).1];exact hj))]
      have:=hf t.length b (by simp)
      rw[ht]at this
      cases b<;>simp[this]
theorem cntF_own {B:Nat} {w:World} {g n:Nat} {r:List Bool} (h:OwnB B w g r) (hn:r.length=n):cntF w g n=r.count false:=by
  subst hn
  unfold cntF
  refine cntF_range _ r (fun j b hj=>?_)
  rw[h.cell hj]
  cases b<;>rfl
structure Rch (B:Nat) (w:World) (p:Array Value) (l:List (Int×Int)) (r:List Bool) (t:List Int) (v:Value):Prop where
  own:w.ownsRow (B+2) 3 1 v t.length (intCells t)
  reached:OwnB B w (B+1) r
  box:Blk w B p 73
  len:r.length=l.length
  low:∀ y∈t,0≤y∧y<(l.length:Int)
theorem Rch.measure {B:Nat} {w:World} {p:Array Value} {l:List (Int×Int)} {r:List Bool} {t:List Int} {v:Value} (h:Rch B w p l r t v):3 * cntF w (B+1) l.length+sliceLen v=reachM r t:=by
  obtain⟨a,c,rfl⟩:=own_shape h.own
  rw[cntF_own h.reached h.len]
  rfl
theorem own_len {w:World} {B:Nat} {e:TypeId} {s:Nat} {v:Value} {n m:Nat} {xs:List Value} (h:w.ownsRow B e s v n xs) (hn:n=m):w.ownsRow B e s v m xs:=hn▸h
theorem Rch.app {B:Nat} {W W5:World} {t:List Int} {v:Value} {n:Nat} {o:Obj} {y:Int} {g5 cap5:Nat} (hB:B+2≤W.heap.size) (own:W.ownsRow (B+2) 3 1 v n (intCells t)) (hg:(W.alloc o).grownBy W5 v.ownBlock) (ho:W5.ownsRow (B+2) 3 1 (.slice (some ⟨g5,0,none⟩) (n+1) cap5) (n+1) (intCells t++[.int .i64 y])) (hn:n=t.length) :
    W5.ownsRow (B+2) 3 1 (.slice (some ⟨g5,0,none⟩) (t++[y]).length cap5) (t++[y]).length (intCells (t++[y]))∧Below (B+2) W W5:=by
  have hb:=below_box W o
  refine⟨?_,(hb.mono hB).grown hg (Nat.le_trans hB hb.size) (fun j hj=>(ownsRow_lt own hj).2)⟩
  have e:(t++[y]).length=n+1:=by rw[List.length_append,hn];rfl
  have e2:intCells (t++[y])=intCells t++[.int .i64 y]:=by unfold intCells;rw[List.map_append];rfl
  rw[e,e2]
  exact ho
theorem OwnB.low {B M:Nat} {w w':World} {g:Nat} {b:List Bool} (h:OwnB B w g b) (hb:Below M w w') (hg:g<M):OwnB B w' g b:=ownsRow_of_block h (fun k e _=>hb.block k (by
  have:k=g:=(Option.some.inj e).symm
  omega))
theorem reachGo_step (l:List (Int×Int)) (f:Nat) (r:List Bool) (u:List Int) (y:Int) (h:reachM r (u++[y])≤f):∃ f',f=f'+1∧reachGo l f r (u++[y])=reachGo l f' (reachStep l r u y).1 (reachStep l r u y).2:=by
  unfold reachM at h
  rw[List.length_append]at h
  obtain⟨f',rfl⟩:∃ f',f=f'+1:=⟨f-1,by simp at h;omega⟩
  refine⟨f',rfl,?_⟩
  rw[reachGo]
  simp
theorem reachStep_yes {l:List (Int×Int)} {r:List Bool} {u:List Int} {y:Int} (h:r.getD y.toNat false=true):reachStep l r u y=(r,u):=by
  unfold reachStep
  rw[if_pos h]
theorem reachStep_no {l:List (Int×Int)} {r:List Bool} {u:List Int} {y:Int} {x:Int×Int} (h:r.getD y.toNat false=false) (hx:l[y.toNat]? = some x):reachStep l r u y=(r.set y.toNat true,u++(if namesS x.1=true then [x.2] else [])++(if goesS x.1=true then [y+1] else [])):=by
  unfold reachStep
  rw[h,if_neg (by simp),hx]
theorem reachedIn_any (ao:Option Addr) (c en:Nat) (ce:Int) (l:List (Int×Int)) (w:World) (hin:InL w ao l) (hp:PrOk (l,en)) :
    Calls Tryz.prog 152 #[.agg #[.slice ao l.length c,.int .i64 en,.int .i64 ce]] w fun e w'=>∃ g,e=.returned (.slice (some ⟨g,0,none⟩) l.length l.length)∧OwnB w.heap.size w' g (reachedS l en)∧Below w.heap.size w w':=by
  obtain⟨iN,hiN,hzN0,hzN1,hzN2⟩:=info_parts Tryz.infoInt
  have hent:en<l.length:=hp.entry
  have hsm:l.length≤5000:=hp.small
  have hsmI:(l.length:Int)≤5000:=by omega
  have hmk:=run_makeB l.length (by omega)
  have hb1:=below_box w (.cells #[.slice ao l.length c,.int .i64 en,.int .i64 ce] 73)
  have hP:=Blk.new w #[.slice ao l.length c,.int .i64 en,.int .i64 ce] 73
  have hb2:=below_box (w.alloc (.cells #[.slice ao l.length c,.int .i64 en,.int .i64 ce] 73)) (.cells (madeCells #[.bool false] (l.length * 1)) 4)
  have hO:=made_bools (w.alloc (.cells #[.slice ao l.length c,.int .i64 en,.int .i64 ce] 73)) l.length (by omega)
  have hsz:(w.alloc (.cells #[.slice ao l.length c,.int .i64 en,.int .i64 ce] 73)).heap.size=w.heap.size+1:=by simp
  have hsz2:((w.alloc (.cells #[.slice ao l.length c,.int .i64 en,.int .i64 ce] 73)).alloc (.cells (madeCells #[.bool false] (l.length * 1)) 4)).heap.size=w.heap.size+2:=by simp
  have hb3:=below_box ((w.alloc (.cells #[.slice ao l.length c,.int .i64 en,.int .i64 ce] 73)).alloc (.cells (madeCells #[.bool false] (l.length * 1)) 4)) (.cells #[.int .i64 en] 3)
  have hN:=Blk.new ((w.alloc (.cells #[.slice ao l.length c,.int .i64 en,.int .i64 ce] 73)).alloc (.cells (madeCells #[.bool false] (l.length * 1)) 4)) #[.int .i64 en] 3
  rw[hsz]at hO
  rw[hsz2]at hN
  have hR0:Rch w.heap.size (((w.alloc (.cells #[.slice ao l.length c,.int .i64 en,.int .i64 ce] 73)).alloc (.cells (madeCells #[.bool false] (l.length * 1)) 4)).alloc (.cells #[.int .i64 en] 3)) #[.slice ao l.length c,.int .i64 en,.int .i64 ce] l (List.replicate l.length false) [(en:Int)] (.slice (some ⟨w.heap.size+2,0,none⟩) 1 1):=by
    refine⟨⟨rfl,Or.inr ⟨w.heap.size+2,1,_,rfl,Nat.le_refl _,hN,Nat.le_refl _,by unfold maxLen;omega,rfl,rfl⟩⟩,OwnB.base (hO.alloc _) (by omega),(hP.alloc _).alloc _,by simp,fun y hy=>?_⟩
    simp at hy
    omega
  have hbel:Below w.heap.size w (((w.alloc (.cells #[.slice ao l.length c,.int .i64 en,.int .i64 ce] 73)).alloc (.cells (madeCells #[.bool false] (l.length * 1)) 4)).alloc (.cells #[.int .i64 en] 3)):=hb1.trans ((hb2.mono hb1.size).trans (hb3.mono (by simp;omega)))
  simp only[Nat.mul_one]at hR0 hbel
  have hcp0:=((hP.alloc (.cells (madeCells #[.bool false] (l.length * 1)) 4)).cell)
  simp only[Nat.mul_one]at hcp0
  have HR0:=V hR0
  have HBEL:=V hbel
  have HIN:=V hin
  have HPR:=V hp
  generalize hres:reachedS l en=res
  have HRES:Hid (reachGo l (3 * l.length+1) (List.replicate l.length false) [(en:Int)]=res):=hres
  clear hb1 hP hb2 hO hsz hsz2 hb3 hN hR0 hbel hin hp hres
  go_enter Tryz.func152,Tryz.ntmps152
  go_wp2_with fail
  generalize (((w.alloc (.cells #[.slice ao l.length c,.int .i64 en,.int .i64 ce] 73)).alloc (.cells (madeCells #[.bool false] l.length) 4)).alloc (.cells #[.int .i64 en] 3))=W0 at *
  clear hcp0
  go_loopw [4] (fun v wr=>∃ (r:List Bool) (t:List Int) (f:Nat),Rch w.heap.size wr #[.slice ao l.length c,.int .i64 en,.int .i64 ce] l r t v∧reachGo l f r t=res∧reachM r t≤f∧f≤3 * l.length+1∧Below w.heap.size w wr) (fun v wr=>3 * cntF wr (w.heap.size+1) l.length+sliceLen v)
  case atStart=>exact⟨_,_,_,U HR0,U HRES,by unfold reachM;simp,Nat.le_refl _,U HBEL⟩
  case round =>
    clear hmk
    obtain⟨r,t,f,hR,hgo,hfu,hf3,hbw⟩:=hrel
    have HR:=V hR
    have HBW:=V hbw
    have HMS:=V hR.measure
    rcases List.eq_nil_or_concat t with rfl|⟨u,y,rfl⟩
    · obtain⟨a,ca,rfl⟩:=own_shape hR.own
      have hrr:r=res:=by rw[← hgo];cases f<;>rfl
      have HRR:=V hrr
      clear hR hgo hfu hf3 hbw hrr
      go_wp2_with fail
      go_ret
      exact⟨w.heap.size+1,rfl,by rw[← U HRR];exact (U HR).reached,U HBW⟩
    · rw[List.concat_eq_append]at hR hgo hfu HR HMS
      obtain⟨f',rfl,hst⟩:=reachGo_step l f r u y hfu
      rw[hst]at hgo
      have hy:=hR.low y (by simp)
      obtain⟨yn,rfl⟩:∃ yn:Nat,y=yn:=⟨y.toNat,by omega⟩
      have hless:=reach_less (l:=l) (r:=r) (t:=u) hy hR.len
      have hlow':=reach_in (r:=r) (t:=u) (U HPR).names (U HPR).last hy (fun z hz=>hR.low z (by simp[hz]))
      have hyl:yn<l.length:=by omega
      have hul:(u++[(yn:Int)]).length=u.length+1:=by simp
      have hown:=hR.own
      rw[hul]at hown
      obtain⟨gt,ct,rfl,_,_⟩:=World.ownsRow.form hown (by omega)
      have hu5:u.length≤100000:=by
        unfold reachM at hfu
        rw[hul]at hfu
        omega
      have hcy:=own_cell hown u.length (by omega)
      have hcy2:(intCells (u++[(yn:Int)]))[u.length]? = some (.int .i64 yn):=by simp[intCells]
      rw[hcy2]at hcy
      have hcut:=own_cut hown u.length (by omega)
      have hct:(intCells (u++[(yn:Int)])).take (u.length * 1)=intCells u:=by simp[intCells]
      rw[hct]at hcut
      have hcap:=(own_cap hown).1
      have hcapI:(u.length:Int)+1≤ct:=by omega
      have hgl:=(ownsRow_lt hown (k:=gt) rfl).1
      have hsub:IntKind.i64.wrap ((u.length:Int)+1-1)=u.length:=by rw[IntKind.wrap_i64];omega
      have hult:(u.length:Int)<(u.length:Int)+1:=by omega
      have hucap:(u.length:Int)≤ct:=by omega
      obtain⟨b,hb⟩:∃ b,r[yn]? = some b:=⟨_,List.getElem?_eq_getElem (by have:=hR.len;omega)⟩
      have hcb:=hR.reached.cell hb
      have hfb:=hR.reached.free
      have hlb:=hR.reached.lt.1
      have hcp:=hR.box.cell
      have hlp:=hR.box.lt
      have hgd:r.getD ((yn:Int)).toNat false=b:=by rw[Int.toNat_natCast,List.getD_eq_getElem?_getD,hb];rfl
      have hylI:(yn:Int)<l.length:=by omega
      have HCUT:=V hcut
      have HLESS:=V hless
      have HLOW:=V hlow'
      have HGO:=V hgo
      have HFU:=V hfu
      cases b with
      | true =>
        rw[reachStep_yes hgd]at HGO HLESS HLOW
        clear hR hgo hfu hst hless hlow' hown hcut hb hbw hcy2 hct hgd
        go_wp2_with fail
        go_roundw
        case rel =>
          refine⟨r,u,f',⟨U HCUT,(U HR).reached,(U HR).box,(U HR).len,U HLOW⟩,U HGO,?_,by omega,U HBW⟩
          have:=(U HLESS).1
          have:=U HFU
          simp only at *
          omega
        case measure =>
          have h1:=Rch.measure (⟨U HCUT,(U HR).reached,(U HR).box,(U HR).len,U HLOW⟩:Rch w.heap.size wr #[.slice ao l.length c,.int .i64 en,.int .i64 ce] l r u _)
          have h2:=U HMS
          have h3:=(U HLESS).1
          simp only at h1 h2 h3 ⊢
          omega
      | false =>
        obtain⟨x,hx⟩:∃ x,l[yn]? = some x:=⟨_,List.getElem?_eq_getElem hyl⟩
        rw[reachStep_no hgd (by rw[Int.toNat_natCast];exact hx)]at HGO HLESS HLOW
        simp only[Int.toNat_natCast]at HGO HLESS HLOW
        obtain⟨ag,aoff,rfl,hagl0,d10,d20⟩:=in_at (U HIN) hx
        obtain⟨x1,x2⟩:=x
        simp only at d10 d20 HGO HLESS HLOW
        have hgtB:w.heap.size+2≤gt:=(ownsRow_lt hown (k:=gt) rfl).2
        have hsz2:w.heap.size+2≤wr.heap.size:=by omega
        have d1:(wr.setCell ⟨w.heap.size+1,yn,none⟩ (.bool true)).cell? ⟨ag,aoff+yn * 2,none⟩=some (.int .i64 x1):=by
          rw[World.cell?_setCell_other _ _ _ _ (by simp only[ne_eq,Addr.mk.injEq];omega),hbw.cell (by simpa using hagl0)]
          exact d10
        have d2:(wr.setCell ⟨w.heap.size+1,yn,none⟩ (.bool true)).cell? ⟨ag,aoff+yn * 2+1,none⟩=some (.int .i64 x2):=by
          rw[World.cell?_setCell_other _ _ _ _ (by simp only[ne_eq,Addr.mk.injEq];omega),hbw.cell (by simpa using hagl0)]
          exact d20
        have hss:(wr.setCell ⟨w.heap.size+1,yn,none⟩ (.bool true)).heap.size=wr.heap.size:=by simp[World.setCell]
        have hagl:ag<wr.heap.size:=by have:=hbw.size;omega
        have HW1:Hid (((wr.setCell ⟨w.heap.size+1,yn,none⟩ (.bool true)).alloc (.cells #[.int .i64 x1,.int .i64 x2] 65)).ownsRow (w.heap.size+2) 3 1 (.slice (some ⟨gt,0,none⟩) u.length ct) u.length (intCells u)):=ownsRow_alloc (ownsRow_far hcut (a:=⟨w.heap.size+1,yn,none⟩) (by simp[Value.ownBlock];omega) _) _
        have HO1:Hid (OwnB w.heap.size ((wr.setCell ⟨w.heap.size+1,yn,none⟩ (.bool true)).alloc (.cells #[.int .i64 x1,.int .i64 x2] 65)) (w.heap.size+1) (r.set yn true)):=(hR.reached.set yn true).alloc _
        have HP1:Hid (Blk ((wr.setCell ⟨w.heap.size+1,yn,none⟩ (.bool true)).alloc (.cells #[.int .i64 x1,.int .i64 x2] 65)) w.heap.size #[.slice (some ⟨ag,aoff,none⟩) l.length c,.int .i64 en,.int .i64 ce] 73):=(hR.box.far (a:=⟨w.heap.size+1,yn,none⟩) (by simp) _).alloc _
        have hx1:=Blk.new (wr.setCell ⟨w.heap.size+1,yn,none⟩ (.bool true)) #[.int .i64 x1,.int .i64 x2] 65
        rw[hss]at hx1
        have HX1:=V hx1
        have HB1:Hid (Below w.heap.size w ((wr.setCell ⟨w.heap.size+1,yn,none⟩ (.bool true)).alloc (.cells #[.int .i64 x1,.int .i64 x2] 65))):=(hbw.setCell (by simp) _).trans ((below_box _ _).mono (by rw[hss];exact hbw.size))
        have hWs:((wr.setCell ⟨w.heap.size+1,yn,none⟩ (.bool true)).alloc (.cells #[.int .i64 x1,.int .i64 x2] 65)).heap.size=wr.heap.size+1:=by rw[← hss];simp
        have HWS:=V hWs
        have HN:=V (fun W=>namesIns_any x1 W)
        have HG:=V (fun W=>goesOn_any x1 W)
        clear hR hgo hfu hst hless hlow' hown hcut hb hcy2 hct hgd hx hWs hx1 d10 d20
        clear hbw hss
        go_wp2_with fail
        refine (U HN _).mono ?_
        rintro e W ⟨rfl,hw1⟩
        rw[← hw1]at HW1 HO1 HP1 HX1 HB1 HWS
        clear hw1 hcy hcb hfb hlb hcp hlp d1 d2 hagl hgl HN
        have hWs:=U HWS
        have hcx:=(U HX1).cell
        have hlx:=(U HX1).lt
        by_cases hnm:namesS x1=true
        · rw[hnm]
          have HAW:=V (ownsRow_alloc (U HW1) (.cells #[.int .i64 x2] 3))
          have HNB:=V (Blk.new W #[.int .i64 x2] 3)
          have HBS:Hid (w.heap.size+2≤(W.alloc (.cells #[.int .i64 x2] 3)).heap.size):=V (by simp;omega)
          have HXA:=V ((U HX1).alloc (.cells #[.int .i64 x2] 3))
          have HNE:Hid ((Value.slice (some ⟨gt,0,none⟩) u.length ct).ownBlock≠some wr.heap.size):=row_not_blk (U HX1) (U HW1) (by decide)
          go_wp2_with (at_builtin;refine wpList_append_lies _ rfl (.tmp 43) (.tmp 46) 115 rfl (w.heap.size+2) 3 iN _ 1 8 Tryz.underlying115 hiN hzN0 hzN1 hzN2 rfl (by decide) (.slice (some ⟨gt,0,none⟩) u.length ct) u.length (intCells u) (by simp[Act.eval]) (U HAW) ⟨W.heap.size,0,none⟩ 1 1 [.int .i64 x2] (by simp[Act.eval]) rfl (World.news_of_block (U HNB)) (oneCells1 _) (by omega) (by unfold maxLen;omega) (by omega) (U HBS) _ rfl ?_;intro g5 cap5 W5 hown5 hgrow5 hat5 hlt5;have HAP:=V (Rch.app (by omega) (U HW1) hgrow5 hown5 rfl);have hx5:=(U HXA).grown hgrow5 (fun e=>U HNE e.symm);have HX5:=V hx5;have hcx5:=hx5.cell;have hlx5:=hx5.lt;clear hown5 hgrow5 hat5 hx5)
          have HAP1:Hid (W5.ownsRow (w.heap.size+2) 3 1 (.slice (some ⟨g5,0,none⟩) (u.length+1) cap5) (u.length+1) (intCells (u++[x2]))):=by
            have:=(U HAP).1
            rw[List.length_append]at this
            exact this
          have hgw:w.heap.size+2≤W5.heap.size:=(by have:=(U HAP).2.size;omega)
          refine (U HG _).mono ?_
          rintro e Wz ⟨rfl,hwz⟩
          obtain rfl:=hwz.symm
          clear hwz
          by_cases hgs:x1=1∨x1=4∨x1=5
          · have hde:decide (x1=1∨x1=4∨x1=5)=true:=decide_eq_true hgs
            have hgn:¬ (goesS x1=true):=by unfold goesS;rw[hde];simp
            rw[hde]
            go_wp2_with fail
            go_roundw
            case rel =>
              have hgo:=U HGO
              have hle:=U HLESS
              have hlo:=U HLOW
              rw[if_pos hnm,if_neg hgn]at hgo hle hlo
              try simp only[List.append_nil]at hgo hle hlo
              refine⟨r.set yn true,u++[x2],f',⟨own_len ((U HAP1)) (by simp),OwnB.low (U HO1) (U HAP).2 (by omega),Blk.below (U HP1) (U HAP).2 (by omega),hle.2,hlo⟩,hgo,?_,by omega,(U HB1).trans ((U HAP).2.mono (by omega))⟩
              have:=hle.1
              have:=U HFU
              omega
            case measure =>
              have hle:=U HLESS
              have hlo:=U HLOW
              rw[if_pos hnm,if_neg hgn]at hle hlo
              try simp only[List.append_nil]at hle hlo
              have h1:=Rch.measure (⟨own_len ((U HAP1)) (by simp),OwnB.low (U HO1) (U HAP).2 (by omega),Blk.below (U HP1) (U HAP).2 (by omega),hle.2,hlo⟩:Rch w.heap.size W5 #[.slice (some ⟨ag,aoff,none⟩) l.length c,.int .i64 en,.int .i64 ce] l (r.set yn true) (u++[x2]) _)
              have h2:=U HMS
              have h3:=hle.1
              rw[h1]
              omega
          · have hde:decide (x1=1∨x1=4∨x1=5)=false:=decide_eq_false hgs
            have hgy:goesS x1=true:=by unfold goesS;rw[hde];rfl
            rw[hde]
            have HAW2:=V (ownsRow_alloc ((U HAP1)) (.cells #[.int .i64 ((yn:Int)+1)] 3))
            have HNB2:=V (Blk.new W5 #[.int .i64 ((yn:Int)+1)] 3)
            have HBS2:Hid (w.heap.size+2≤(W5.alloc (.cells #[.int .i64 ((yn:Int)+1)] 3)).heap.size):=V (by simp;omega)
            have hy1:IntKind.i64.wrap ((yn:Int)+1)=(yn:Int)+1:=by rw[IntKind.wrap_i64];omega
            go_wp2_with (at_builtin;refine wpList_append_lies _ rfl (.tmp 51) (.tmp 54) 115 rfl (w.heap.size+2) 3 iN _ 1 8 Tryz.underlying115 hiN hzN0 hzN1 hzN2 rfl (by decide) (.slice (some ⟨g5,0,none⟩) (u.length+1) cap5) (u.length+1) (intCells (u++[x2])) (by simp[Act.eval]) (U HAW2) ⟨W5.heap.size,0,none⟩ 1 1 [.int .i64 ((yn:Int)+1)] (by simp[Act.eval]) rfl (World.news_of_block (U HNB2)) (oneCells1 _) (by omega) (by unfold maxLen;omega) (by omega) (U HBS2) _ rfl ?_;intro g6 cap6 W6 hown6 hgrow6 hat6 hlt6;have HAP2:=V (Rch.app hgw ((U HAP1)) hgrow6 hown6 (by simp));clear hown6 hgrow6 hat6)
            have hlen6:(u++[x2]++[(yn:Int)+1]).length=(u.length+1)+1:=by simp
            have HAP3:Hid (W6.ownsRow (w.heap.size+2) 3 1 (.slice (some ⟨g6,0,none⟩) ((u.length+1)+1) cap6) ((u.length+1)+1) (intCells (u++[x2]++[(yn:Int)+1]))):=by
              have:=(U HAP2).1
              rw[hlen6]at this
              exact this
            go_wp2_with fail
            go_roundw
            case rel =>
              have hgo:=U HGO
              have hle:=U HLESS
              have hlo:=U HLOW
              rw[if_pos hnm,if_pos hgy]at hgo hle hlo
              try simp only[List.append_nil]at hgo hle hlo
              refine⟨r.set yn true,u++[x2]++[(yn:Int)+1],f',⟨own_len (U HAP3) hlen6.symm,OwnB.low (OwnB.low (U HO1) (U HAP).2 (by omega)) (U HAP2).2 (by omega),Blk.below (Blk.below (U HP1) (U HAP).2 (by omega)) (U HAP2).2 (by omega),hle.2,hlo⟩,hgo,?_,by omega,((U HB1).trans ((U HAP).2.mono (by omega))).trans ((U HAP2).2.mono (by omega))⟩
              have:=hle.1
              have:=U HFU
              omega
            case measure =>
              have hle:=U HLESS
              have hlo:=U HLOW
              rw[if_pos hnm,if_pos hgy]at hle hlo
              try simp only[List.append_nil]at hle hlo
              have h1:=Rch.measure (⟨own_len (U HAP3) hlen6.symm,OwnB.low (OwnB.low (U HO1) (U HAP).2 (by omega)) (U HAP2).2 (by omega),Blk.below (Blk.below (U HP1) (U HAP).2 (by omega)) (U HAP2).2 (by omega),hle.2,hlo⟩:Rch w.heap.size W6 #[.slice (some ⟨ag,aoff,none⟩) l.length c,.int .i64 en,.int .i64 ce] l (r.set yn true) (u++[x2]++[(yn:Int)+1]) _)
              have h2:=U HMS
              have h3:=hle.1
              rw[h1]
              omega
        · have hnf:¬ (namesS x1=true):=hnm
          have hnf':namesS x1=false:=by simpa using hnm
          rw[hnf']
          go_wp2_with fail
          have hgw:w.heap.size+2≤W.heap.size:=(by omega)
          refine (U HG _).mono ?_
          rintro e Wz ⟨rfl,hwz⟩
          obtain rfl:=hwz.symm
          clear hwz
          by_cases hgs:x1=1∨x1=4∨x1=5
          · have hde:decide (x1=1∨x1=4∨x1=5)=true:=decide_eq_true hgs
            have hgn:¬ (goesS x1=true):=by unfold goesS;rw[hde];simp
            rw[hde]
            go_wp2_with fail
            go_roundw
            case rel =>
              have hgo:=U HGO
              have hle:=U HLESS
              have hlo:=U HLOW
              rw[if_neg hnf,if_neg hgn]at hgo hle hlo
              try simp only[List.append_nil]at hgo hle hlo
              refine⟨r.set yn true,u,f',⟨own_len ((U HW1)) (by simp),U HO1,U HP1,hle.2,hlo⟩,hgo,?_,by omega,U HB1⟩
              have:=hle.1
              have:=U HFU
              omega
            case measure =>
              have hle:=U HLESS
              have hlo:=U HLOW
              rw[if_neg hnf,if_neg hgn]at hle hlo
              try simp only[List.append_nil]at hle hlo
              have h1:=Rch.measure (⟨own_len ((U HW1)) (by simp),U HO1,U HP1,hle.2,hlo⟩:Rch w.heap.size W #[.slice (some ⟨ag,aoff,none⟩) l.length c,.int .i64 en,.int .i64 ce] l (r.set yn true) (u) _)
              have h2:=U HMS
              have h3:=hle.1
              rw[h1]
              omega
          · have hde:decide (x1=1∨x1=4∨x1=5)=false:=decide_eq_false hgs
            have hgy:goesS x1=true:=by unfold goesS;rw[hde];rfl
            rw[hde]
            have HAW2:=V (ownsRow_alloc ((U HW1)) (.cells #[.int .i64 ((yn:Int)+1)] 3))
            have HNB2:=V (Blk.new W #[.int .i64 ((yn:Int)+1)] 3)
            have HBS2:Hid (w.heap.size+2≤(W.alloc (.cells #[.int .i64 ((yn:Int)+1)] 3)).heap.size):=V (by simp;omega)
            have hy1:IntKind.i64.wrap ((yn:Int)+1)=(yn:Int)+1:=by rw[IntKind.wrap_i64];omega
            go_wp2_with (at_builtin;refine wpList_append_lies _ rfl (.tmp 51) (.tmp 54) 115 rfl (w.heap.size+2) 3 iN _ 1 8 Tryz.underlying115 hiN hzN0 hzN1 hzN2 rfl (by decide) (.slice (some ⟨gt,0,none⟩) u.length ct) u.length (intCells (u)) (by simp[Act.eval]) (U HAW2) ⟨W.heap.size,0,none⟩ 1 1 [.int .i64 ((yn:Int)+1)] (by simp[Act.eval]) rfl (World.news_of_block (U HNB2)) (oneCells1 _) (by omega) (by unfold maxLen;omega) (by omega) (U HBS2) _ rfl ?_;intro g6 cap6 W6 hown6 hgrow6 hat6 hlt6;have HAP2:=V (Rch.app hgw ((U HW1)) hgrow6 hown6 (by simp));clear hown6 hgrow6 hat6)
            have hlen6:(u++[(yn:Int)+1]).length=u.length+1:=by simp
            have HAP3:Hid (W6.ownsRow (w.heap.size+2) 3 1 (.slice (some ⟨g6,0,none⟩) (u.length+1) cap6) (u.length+1) (intCells (u++[(yn:Int)+1]))):=by
              have:=(U HAP2).1
              rw[hlen6]at this
              exact this
            go_wp2_with fail
            go_roundw
            case rel =>
              have hgo:=U HGO
              have hle:=U HLESS
              have hlo:=U HLOW
              rw[if_neg hnf,if_pos hgy]at hgo hle hlo
              try simp only[List.append_nil]at hgo hle hlo
              refine⟨r.set yn true,u++[(yn:Int)+1],f',⟨own_len (U HAP3) hlen6.symm,OwnB.low (U HO1) (U HAP2).2 (by omega),Blk.below (U HP1) (U HAP2).2 (by omega),hle.2,hlo⟩,hgo,?_,by omega,(U HB1).trans ((U HAP2).2.mono (by omega))⟩
              have:=hle.1
              have:=U HFU
              omega
            case measure =>
              have hle:=U HLESS
              have hlo:=U HLOW
              rw[if_neg hnf,if_pos hgy]at hle hlo
              try simp only[List.append_nil]at hle hlo
              have h1:=Rch.measure (⟨own_len (U HAP3) hlen6.symm,OwnB.low (U HO1) (U HAP2).2 (by omega),Blk.below (U HP1) (U HAP2).2 (by omega),hle.2,hlo⟩:Rch w.heap.size W6 #[.slice (some ⟨ag,aoff,none⟩) l.length c,.int .i64 en,.int .i64 ce] l (r.set yn true) (u++[(yn:Int)+1]) _)
              have h2:=U HMS
              have h3:=hle.1
              rw[h1]
              omega
end Go.Proofs.YtmeiikjpaepogaaGreatDoor
