/- The program's options: Fold: what operators take and give; where rows fail. -/
import Derived.Test.YtmeiikjpaepogaaGreatDoorN24
import Derived.Test.YtmeiikjpaepogaaGreatDoorN07
import Derived.Test.YtmeiikjpaepogaaGreatDoorN19
import Derived.Test.YtmeiikjpaepogaaGreatDoorN25
import Derived.Deep.MidRow
import Derived.OwnWalk
set_option maxRecDepth 100000
set_option maxHeartbeats 8000000
namespace Go.Proofs.YtmeiikjpaepogaaGreatDoor
open Go Go.RowKit
def changeS (op:Int):Int×Int:=if 0≤op∧op≤32 then ((entS op.toNat).1,(entS op.toNat).2.1) else (0,0)
theorem Tryz.sizeChange:(Tryz.prog.info? 107).map (fun i=>i.size)=some 2:=by kernel_rfl
theorem two_cells {w:World} {b:Nat} {cs:Array Value} {T:TypeId} {x0 x1 y0 y1:Value} (h:Blk w b cs T) (hcs:cs=#[x0,x1]) :
    Blk ((w.setCell ⟨b,0,none⟩ y0).setCell ⟨b,1,none⟩ y1) b #[y0,y1] T:=by
  subst hcs
  have h5:=(h.set 0 y0).set 1 y1
  simpa only [List.setIfInBounds_toArray,List.set_cons_succ,List.set_cons_zero] using h5
theorem change_any (tb:Nat) (op:Nat) (w:World) (hT:TabAt w tb) (hop:op<33∨40≤op∧op<60) :
    Calls Tryz.prog 248 #[.pointer (some ⟨tb,0,none⟩),.int .i64 op] w fun e w'=>e=.returned (.agg #[.int .i64 (changeS op).1,.int .i64 (changeS op).2])∧Below w.heap.size w w':=by
  obtain⟨cs,hblk,hbase,_⟩:=hT
  have hcell:w.cell? ⟨tb,op * 5,none⟩=some (.int .i64 (changeS op).1)∧w.cell? ⟨tb,op * 5+1,none⟩=some (.int .i64 (changeS op).2):=by
    rw[hblk.cell,hblk.cell]
    rcases hop with h|⟨h1,h2⟩
    · obtain⟨F,cap,a0,a1,_⟩:=hbase.base op h
      have e:changeS op=(((entS op).1:Int),((entS op).2.1:Int)):=by
        unfold changeS
        rw[if_pos (by omega),Int.toNat_natCast]
      rw[e]
      exact⟨a0,a1⟩
    · obtain⟨a0,a1,_⟩:=hbase.zero op h1 h2
      have e:changeS op=(0,0):=by
        unfold changeS
        rw[if_neg (by omega)]
      rw[e]
      exact⟨a0,a1⟩
  obtain⟨c0,c1⟩:=hcell
  have htl:=hblk.lt
  have hopI:(op:Int)<60:=by omega
  have hop0:(0:Int)≤op:=by omega
  have hR:=Blk.new w #[.int .i64 0,.int .i64 0] 107
  have HR:=V hR
  generalize (changeS op).1=t at *
  generalize (changeS op).2=g at *
  clear hblk hbase hop hR
  go_enter Tryz.func248,Tryz.ntmps248
  go_wp2_with fail
  refine bodyPost_ret (results_row3 (P:=Tryz.prog) rfl _ _ w.heap.size 107 _ (0,0) _ rfl (Blk.new w _ _) Tryz.underlying107 rfl Tryz.sizeChange) rfl ?_
  exact⟨rfl,below_box w _⟩
def failGo (lim:Int):List (Int×Int)→Int→Int→Int×Int
  | [],_,i=>(0,i)
  | c :: r,v,i=>if v<c.1 then (7,i+1) else if lim<v-c.1+c.2 then (8,i+1) else failGo lim r (v+(c.2-c.1)) (i+1)
def PairsAt (w:World) (ao:Option Addr) (l:List (Int×Int)):Prop:=l=[]∨∃ g,ao=some ⟨g,0,none⟩∧g<w.heap.size∧∀ k x,l[k]? = some x→w.cell? ⟨g,k * 2,none⟩=some (.int .i64 x.1)∧w.cell? ⟨g,k * 2+1,none⟩=some (.int .i64 x.2)
theorem PairsAt.below {w w':World} {ao:Option Addr} {l:List (Int×Int)} (h:PairsAt w ao l) (hb:Below w.heap.size w w'):PairsAt w' ao l:=by
  rcases h with h|⟨g,h1,h2,h3⟩
  · exact Or.inl h
  · exact Or.inr ⟨g,h1,by have:=hb.size;omega,fun k x hx=>by rw[hb.cell (by simpa using h2),hb.cell (by simpa using h2)];exact h3 k x hx⟩
theorem isOverL_any (t g n l:Int) (w:World) (hn:0≤n∧n≤1000000000) (ht:0≤t∧t≤10) (hg:0≤g∧g≤10) :
    Calls Tryz.prog 208 #[.agg #[.int .i64 t,.int .i64 g],.int .i64 n,.int .i64 l] w fun e w'=>e=.returned (.bool (decide (l<n-t+g)))∧w'=w.alloc (.cells #[.int .i64 t,.int .i64 g] 107):=by
  have h1:IntKind.i64.wrap (n-t)=n-t:=by rw[IntKind.wrap_i64];omega
  have h2:IntKind.i64.wrap (n-t+g)=n-t+g:=by rw[IntKind.wrap_i64];omega
  by_cases h:l<n-t+g
  · go_enter Tryz.func208,Tryz.ntmps208
    go_wp2_with fail
    go_ret
    exact⟨ret_bool (by simp[h]),rfl⟩
  · go_enter Tryz.func208,Tryz.ntmps208
    go_wp2_with fail
    go_ret
    exact⟨ret_bool (by simp[h]),rfl⟩
theorem failure_any (ao:Option Addr) (c:Nat) (l:List (Int×Int)) (v lim:Int) (w:World) (hl:PairsAt w ao l) (hn:l.length≤50) (hs:∀ x∈l,(0≤x.1∧x.1≤10)∧(0≤x.2∧x.2≤10)) (hv:0≤v∧v≤1000000) :
    Calls Tryz.prog 255 #[.slice ao l.length c,.int .i64 v,.int .i64 lim] w fun e w'=>e=.returned (.tuple #[.int .i64 (failGo lim l v 0).1,.int .i64 (failGo lim l v 0).2])∧Below w.heap.size w w':=by
  have hnI:(l.length:Int)≤50:=by omega
  generalize hres:failGo lim l v 0=res
  have HRES:=V hres
  have HL:=V hl
  have HS:=V hs
  clear hl hs hres
  go_enter Tryz.func255,Tryz.ntmps255
  go_wp2_with fail
  go_loopw [1,12] (fun vv i wr=>∃ (k:Nat) (u:Int),i=.int .i64 k∧vv=.int .i64 u∧k≤l.length∧failGo lim (l.drop k) u k=res∧(0≤u∧u≤1000000+10 * k)∧Below w.heap.size w wr) (fun _ i _=>l.length-(intOf i).toNat)
  case atStart=>exact⟨0,v,rfl,rfl,Nat.zero_le _,U HRES,by omega,Below.refl _ _⟩
  case round =>
    obtain⟨k,u,rfl,rfl,hk,hrun,hu,hbw⟩:=hrel
    have HBW:=V hbw
    by_cases hlt:k<l.length
    · obtain⟨x,hx⟩:∃ x,l[k]? = some x:=⟨_,List.getElem?_eq_getElem hlt⟩
      have hsx:=U HS x (List.mem_of_getElem? hx)
      have hd:l.drop k=x :: l.drop (k+1):=by
        obtain⟨h1,e⟩:=List.getElem?_eq_some_iff.1 hx
        rw[List.drop_eq_getElem_cons h1,e]
      rw[hd]at hrun
      unfold failGo at hrun
      rcases (U HL).below hbw with e0|⟨g,rfl,hg,hcells⟩
      · rw[e0]at hlt;simp at hlt
      obtain⟨c1,c2⟩:=hcells k x hx
      have hltI:(k:Int)<l.length:=by omega
      obtain⟨un,rfl⟩:∃ un:Nat,u=un:=⟨u.toNat,by omega⟩
      have HU:=V (fun W=>isUnder_any x.1 x.2 un W)
      have HO:=V (fun W=>isOverL_any x.1 x.2 un lim W (by omega) hsx.1 hsx.2)
      have hbN:Below w.heap.size w (wr.alloc (.cells #[.int .i64 x.1,.int .i64 x.2] 107)):=hbw.trans ((below_box wr _).mono hbw.size)
      have HBN:=V hbN
      generalize x.1=t at *
      generalize x.2=gv at *
      clear hx hd hcells hbw hbN
      go_wp2_with fail
      refine (U HU _).mono ?_
      rintro e w1 ⟨rfl,hw1⟩
      have hbox:Blk w1 wr.heap.size #[.int .i64 t,.int .i64 gv] 107:=by rw[hw1];exact (Blk.new wr _ _).alloc _
      have hb1:Below w.heap.size w w1:=by rw[hw1];exact (U HBN).trans ((below_box _ _).mono (U HBN).size)
      have hcb:=hbox.cell
      have hlb:=hbox.lt
      have HB1:=V hb1
      have HBOX:=V hbox
      clear hw1 hb1 hbox HU c1 c2
      by_cases h7:(un:Int)<t
      · rw[if_pos h7]at hrun
        have HRUN:=V hrun
        have h7':decide ((un:Int)<t)=true:=decide_eq_true h7
        clear hrun
        go_wp2_with fail
        go_ret2
        rw[← U HRUN]
        exact⟨rfl,U HB1⟩
      · rw[if_neg h7]at hrun
        have h7':decide ((un:Int)<t)=false:=decide_eq_false h7
        have HRUN:=V hrun
        clear hrun
        go_wp2_with fail
        refine (U HO _).mono ?_
        rintro e w2 ⟨rfl,hw2⟩
        have hbox2:Blk w2 wr.heap.size #[.int .i64 t,.int .i64 gv] 107:=by rw[hw2];exact (U HBOX).alloc _
        have hb2:Below w.heap.size w w2:=by rw[hw2];exact (U HB1).trans ((below_box _ _).mono (U HB1).size)
        have hcb2:=hbox2.cell
        have hlb2:=hbox2.lt
        have HB2:=V hb2
        clear hw2 hb2 hbox2 HO hcb hlb
        by_cases h8:lim<(un:Int)-t+gv
        · have hrun:=U HRUN
          rw[if_pos h8]at hrun
          have HR8:=V hrun
          have h8':decide (lim<(un:Int)-t+gv)=true:=decide_eq_true h8
          clear hrun
          go_wp2_with fail
          go_ret2
          rw[← U HR8]
          exact⟨rfl,U HB2⟩
        · have hrun:=U HRUN
          rw[if_neg h8]at hrun
          have HR8:=V hrun
          have h8':decide (lim<(un:Int)-t+gv)=false:=decide_eq_false h8
          clear hrun
          go_wp2_with fail
          go_roundw
          case rel =>
            refine⟨k+1,(un:Int)+(gv-t),by go_num,?_,by omega,?_,by omega,U HB2⟩
            · first|rfl|go_num
            · have:=U HR8
              rw[show ((k+1:Nat):Int)=(k:Int)+1 by omega]
              exact this
          case measure=>simp[intOf];omega
    · have hkk:k=l.length:=by omega
      subst hkk
      have hd:l.drop l.length=[]:=List.drop_length ..
      rw[hd]at hrun
      unfold failGo at hrun
      have HRUN:=V hrun
      clear hrun hd hbw
      go_wp2_with fail
      go_ret2
      rw[← U HRUN]
      exact⟨rfl,U HBW⟩
def alikeS (a b:List (Int×Int)) (v lim:Int):Bool:=(failGo lim a v 0).1 == (failGo lim b v 0).1&&decide ((failGo lim b v 0).2≤(failGo lim a v 0).2)
theorem isAlike_any (ao bo:Option Addr) (c d:Nat) (a b:List (Int×Int)) (v lim:Int) (w:World) (ha:PairsAt w ao a) (hb:PairsAt w bo b) (hn:a.length≤50∧b.length≤50) (hsa:∀ x∈a,(0≤x.1∧x.1≤10)∧(0≤x.2∧x.2≤10)) (hsb:∀ x∈b,(0≤x.1∧x.1≤10)∧(0≤x.2∧x.2≤10)) (hv:0≤v∧v≤1000000) :
    Calls Tryz.prog 247 #[.slice ao a.length c,.slice bo b.length d,.int .i64 v,.int .i64 lim] w fun e w'=>e=.returned (.bool (alikeS a b v lim))∧Below w.heap.size w w':=by
  have HA:=V (failure_any ao c a v lim w ha hn.1 hsa hv)
  have HB:Hid (∀ W,Below w.heap.size w W→Calls Tryz.prog 255 #[.slice bo b.length d,.int .i64 v,.int .i64 lim] W fun e w'=>e=.returned (.tuple #[.int .i64 (failGo lim b v 0).1,.int .i64 (failGo lim b v 0).2])∧Below W.heap.size W w'):=fun W hW=>failure_any bo d b v lim W (hb.below hW) hn.2 hsb hv
  unfold alikeS
  generalize failGo lim a v 0=ra at *
  generalize failGo lim b v 0=rb at *
  obtain⟨ea,sa⟩:=ra
  obtain⟨eb,sb⟩:=rb
  clear ha hb hsa hsb
  go_enter Tryz.func247,Tryz.ntmps247
  go_wp2_with fail
  refine (U HA).mono ?_
  rintro e w1 ⟨rfl,hb1⟩
  have HB1:=V hb1
  clear hb1 HA
  go_wp2_with fail
  refine (U HB w1 (U HB1)).mono ?_
  rintro e w2 ⟨rfl,hb2⟩
  have HB2:=V ((U HB1).trans (hb2.mono (U HB1).size))
  clear hb2 HB
  simp only
  by_cases he:ea=eb
  · subst he
    go_wp2_with fail
    go_ret
    refine⟨?_,U HB2⟩
    simp
  · have he':(ea == eb)=false:=by simpa using he
    go_wp2_with fail
    go_ret
    refine⟨?_,U HB2⟩
    simp[he']
def tailAt (l:List (Int×Int)) (k:Nat):Int×Int :=
  match l[k]?,l[k+1]? with
  | some x,some y=>if x.1=3∧y.1=4 then (1,x.2) else x
  | some x,none=>x
  | none,_=>(0,0)
def tailS (l:List (Int×Int)):List (Int×Int):=(List.range l.length).map (tailAt l)
structure TailTo (l m:List (Int×Int)) (k:Nat):Prop where
  len:m.length=l.length
  done:∀ i,i<k→i<l.length→m[i]? = some (tailAt l i)
  rest:∀ i,k≤i→m[i]? = l[i]?
theorem TailTo.all {l m:List (Int×Int)} (h:TailTo l m (l.length-1)):m=tailS l:=by
  apply List.ext_getElem?
  intro i
  unfold tailS
  rw[List.getElem?_map]
  by_cases hi:i<l.length
  · rw[List.getElem?_range hi]
    by_cases hk:i<l.length-1
    · rw[h.done i hk hi];rfl
    · rw[h.rest i (by omega),List.getElem?_eq_getElem hi]
      have hn:l[i+1]? = none:=List.getElem?_eq_none (by omega)
      have hs:l[i]? = some (l[i]'hi):=List.getElem?_eq_getElem hi
      show _=some (tailAt l i)
      unfold tailAt
      rw[hn,hs]
  · rw[List.getElem?_eq_none (by rw[h.len];omega),List.getElem?_eq_none (by simp;omega)]
    rfl
theorem TailTo.keep {l m:List (Int×Int)} {k:Nat} (h:TailTo l m k) {x y:Int×Int} (hx:l[k]? = some x) (hy:l[k+1]? = some y) (hn:¬ (x.1=3∧y.1=4)):TailTo l m (k+1):=by
  refine⟨h.len,fun i hi hl=>?_,fun i hi=>h.rest i (by omega)⟩
  by_cases e:i=k
  · subst e
    rw[h.rest i (Nat.le_refl _),hx]
    unfold tailAt
    rw[hx,hy]
    simp only
    rw[if_neg hn]
  · exact h.done i (by omega) hl
theorem TailTo.turn {l m:List (Int×Int)} {k:Nat} (h:TailTo l m k) {x y:Int×Int} (hx:l[k]? = some x) (hy:l[k+1]? = some y) (hn:x.1=3∧y.1=4):TailTo l (m.set k (1,x.2)) (k+1):=by
  have hk:k<l.length:=(List.getElem?_eq_some_iff.1 hx).1
  refine⟨by rw[List.length_set];exact h.len,fun i hi hl=>?_,fun i hi=>?_⟩
  · by_cases e:i=k
    · subst e
      rw[List.getElem?_set_self (by rw[h.len];exact hl)]
      unfold tailAt
      rw[hx,hy]
      simp only
      rw[if_pos hn]
    · rw[List.getElem?_set_ne (by omega)]
      exact h.done i (by omega) hl
  · rw[List.getElem?_set_ne (by omega)]
    exact h.rest i (by omega)
theorem instr_setop (l:List (Int×Int)) (k:Nat) (x:Int×Int) (hx:l[k]? = some x) (a:Int):(instrCells l).set (k * 2) (.int .i64 a)=instrCells (l.set k (a,x.2)):=by
  induction l generalizing k with
  | nil=>simp at hx
  | cons y l ih =>
    cases k with
    | zero =>
      simp at hx
      subst hx
      rfl
    | succ k =>
      have e:(k+1) * 2=k * 2+1+1:=by omega
      rw[e]
      have:=ih k (by simpa using hx)
      unfold instrCells at this ⊢
      simp only[List.flatMap_cons,List.set_cons_succ]
      rw[← this]
      rfl
theorem tail_any (g cap:Nat) (l:List (Int×Int)) (en ce:Int) (w:World) (ho:w.ownsRow 0 65 2 (.slice (some ⟨g,0,none⟩) l.length cap) l.length (instrCells l)) (hpos:0<l.length) (h5:l.length≤5000) :
    Calls Tryz.prog 53 #[.agg #[.slice (some ⟨g,0,none⟩) l.length cap,.int .i64 en,.int .i64 ce]] w fun e w'=>∃ g' cap',e=.returned (.agg #[.slice (some ⟨g',0,none⟩) l.length cap',.int .i64 en,.int .i64 ce])∧w'.ownsRow w.heap.size 65 2 (.slice (some ⟨g',0,none⟩) l.length cap') l.length (instrCells (tailS l))∧Below w.heap.size w w':=by
  have hb0:=below_box2 w (.cells #[.slice (some ⟨g,0,none⟩) l.length cap,.int .i64 en,.int .i64 ce] 73) (.cells #[.slice none 0 0,.int .i64 0,.int .i64 0] 73)
  have hP:Blk ((w.alloc (.cells #[.slice (some ⟨g,0,none⟩) l.length cap,.int .i64 en,.int .i64 ce] 73)).alloc (.cells #[.slice none 0 0,.int .i64 0,.int .i64 0] 73)) w.heap.size #[.slice (some ⟨g,0,none⟩) l.length cap,.int .i64 en,.int .i64 ce] 73:=by (repeat (first|with_reducible refine Blk.drew ?_|with_reducible refine Blk.drewN ?_ _|(with_reducible refine blk_newAt _ _ ?_;(first|omega|((repeat (first|rw[World.size_up]|rw[World.size_dr]|rw[World.size_drN]))<;>omega)))|with_reducible refine Blk.alloc ?_ _));(first|done|with_reducible assumption)
  have hR:Blk ((w.alloc (.cells #[.slice (some ⟨g,0,none⟩) l.length cap,.int .i64 en,.int .i64 ce] 73)).alloc (.cells #[.slice none 0 0,.int .i64 0,.int .i64 0] 73)) (w.heap.size+1) #[.slice none 0 0,.int .i64 0,.int .i64 0] 73:=by (repeat (first|with_reducible refine Blk.drew ?_|with_reducible refine Blk.drewN ?_ _|(with_reducible refine blk_newAt _ _ ?_;(first|omega|((repeat (first|rw[World.size_up]|rw[World.size_dr]|rw[World.size_drN]))<;>omega)))|with_reducible refine Blk.alloc ?_ _));(first|done|with_reducible assumption)
  have hsz:((w.alloc (.cells #[.slice (some ⟨g,0,none⟩) l.length cap,.int .i64 en,.int .i64 ce] 73)).alloc (.cells #[.slice none 0 0,.int .i64 0,.int .i64 0] 73)).heap.size=w.heap.size+2:=by simp
  have HCL:=V (clone3_any g cap l _ ((LawStill.ofBelow hb0).row ho) hpos (by omega))
  have HB0:=V hb0
  have HP:=V hP
  have HR:=V hR
  have hlI:(l.length:Int)≤5000:=by omega
  have hl1:(1:Int)≤l.length:=by omega
  clear hb0 hP hR ho
  go_enter Tryz.func53,Tryz.ntmps53
  go_upto_region 1 with fail
  generalize (w.alloc (.cells #[.slice (some ⟨g,0,none⟩) l.length cap,.int .i64 en,.int .i64 ce] 73)).alloc (.cells #[.slice none 0 0,.int .i64 0,.int .i64 0] 73)=W at *
  have hcp:=(U HP).cell
  have hlp:=(U HP).lt
  go_wp2_with fail
  refine (U HCL).mono ?_
  rintro e w1 ⟨v,rfl,hv,hb1⟩
  obtain⟨g1,cap1,rfl,hg1,hg1l⟩:=hv.form hpos
  have hp1:=(U HP).below hb1 (U HP).lt
  have hr1:=(U HR).below hb1 (U HR).lt
  have hcp1:=hp1.cell
  have hfp1:=hp1.free
  have hlp1:=hp1.lt
  have hp2:=hp1.set 0 (.slice (some ⟨g1,0,none⟩) l.length cap1)
  simp only[List.setIfInBounds_toArray,List.set_cons_zero]at hp2
  have hr2:=hr1.far (a:=⟨w.heap.size,0,none⟩) (by simp) (.slice (some ⟨g1,0,none⟩) l.length cap1)
  have hv2:=ownsRow_far hv (fun e=>row_not_blk hp1 hv (by decide) e) (.slice (some ⟨g1,0,none⟩) l.length cap1) (a:=⟨w.heap.size,0,none⟩)
  have hbw1:Below w.heap.size w (w1.setCell ⟨w.heap.size,0,none⟩ (.slice (some ⟨g1,0,none⟩) l.length cap1)):=((U HB0).trans (hb1.mono (U HB0).size)).setCell (Nat.le_refl _) _
  have HP2:=V hp2
  have HR2:=V hr2
  have HV2:=V hv2
  have HBW1:=V hbw1
  have HW:Hid (W.heap.size=w.heap.size+2):=hsz
  clear hv hb1 hp1 hr1 hp2 hr2 hv2 hbw1 HCL hcp
  go_upto_region 2 with fail
  generalize w1.setCell ⟨w.heap.size,0,none⟩ (.slice (some ⟨g1,0,none⟩) l.length cap1)=w2 at *
  have hcq:=(U HP2).cell
  have hlq:=(U HP2).lt
  clear hcp1 hfp1 hlp1 hg1l
  obtain⟨o,hko⟩:∃ o,(if cap1=1 then some (⟨g1,0,none⟩:Addr) else some ⟨g1,2,none⟩)=some ⟨g1,o,none⟩:=by
    split
    · exact⟨0,rfl⟩
    · exact⟨2,rfl⟩
  go_wp2_with fail
  have hsub:(l.length:Int)-1=((l.length-1:Nat):Int):=by omega
  generalize hL:l.length-1=L at *
  have HLL:=V hL
  have hLI:(L:Int)≤5000:=by omega
  have hLl:(l.length:Int)=L+1:=by omega
  go_loopw [12] (fun i wr=>∃ (k:Nat) (m:List (Int×Int)),i=.int .i64 k∧k≤L∧TailTo l m k∧wr.ownsRow W.heap.size 65 2 (.slice (some ⟨g1,0,none⟩) l.length cap1) l.length (instrCells m)∧Blk wr w.heap.size #[.slice (some ⟨g1,0,none⟩) l.length cap1,.int .i64 en,.int .i64 ce] 73∧Blk wr (w.heap.size+1) #[.slice none 0 0,.int .i64 0,.int .i64 0] 73∧Below w.heap.size w wr) (fun i _=>L-(intOf i).toNat)
  case atStart=>exact⟨0,l,rfl,Nat.zero_le _,⟨rfl,fun i hi=>absurd hi (Nat.not_lt_zero _),fun _ _=>rfl⟩,U HV2,U HP2,U HR2,U HBW1⟩
  case round =>
    obtain⟨k,m,rfl,hk,ht,hrow,hpb,hrb,hbw⟩:=hrel
    clear hcq hlq
    have hcp:=hpb.cell
    have hlp:=hpb.lt
    have hml:=ht.len
    have hg1r:=(ownsRow_lt hrow (k:=g1) rfl).1
    by_cases hlt:k<L
    · have hltI:(k:Int)<L:=by omega
      have hkl:(k:Int)<l.length:=by omega
      have hkl1:(k:Int)+1<l.length:=by omega
      have hLn:=U HLL
      obtain⟨x,hx⟩:∃ x,l[k]? = some x:=⟨_,List.getElem?_eq_getElem (by omega)⟩
      obtain⟨y,hy⟩:∃ y,l[k+1]? = some y:=⟨_,List.getElem?_eq_getElem (by omega)⟩
      have hmx:m[k]? = some x:=by rw[ht.rest k (Nat.le_refl _)];exact hx
      have hmy:m[k+1]? = some y:=by rw[ht.rest (k+1) (by omega)];exact hy
      have c1:=own_cell hrow (k * 2) (by omega)
      have c2:=own_cell hrow ((k+1) * 2) (by omega)
      rw[(instrCells_at _ _ _ hmx).1]at c1
      rw[(instrCells_at _ _ _ hmy).1]at c2
      have hnep:w.heap.size≠g1:=fun e=>by have:=(ownsRow_lt hrow (k:=g1) rfl).2;have:=U HW;omega
      have HT:=V ht
      have HROW:=V hrow
      have HPB:=V hpb
      have HRB:=V hrb
      have HB:=V hbw
      have HX:=V hx
      have HY:=V hy
      have HMX:=V hmx
      obtain⟨cs,fr,hfr⟩:∃ cs fr,wr.heap[g1]? = some (.cells cs 65 fr)∧fr=(0,0):=by
        obtain⟨_,hh⟩:=hrow
        rcases hh with ⟨e,_⟩|⟨g',c',cs',e,_,hb',_⟩
        · cases e
        · simp only[Value.slice.injEq,Option.some.injEq,Addr.mk.injEq,and_true]at e
          obtain⟨rfl,_⟩:=e
          exact⟨_,_,hb',rfl⟩
      have hfree:∀ i,wr.frozen? ⟨g1,i,none⟩=false:=fun i=>by
        have hbk:Blk wr g1 cs 65:=by unfold Blk;rw[hfr.1,hfr.2]
        exact hbk.free i
      clear ht hrow hpb hrb hbw hx hy hmx hmy hLn hfr
      by_cases h3:x.1=3
      · rw[h3]at c1
        by_cases h4:y.1=4
        · rw[h4]at c2
          have HTT:=V ((U HT).turn (U HX) (U HY) ⟨h3,h4⟩)
          clear h3 h4
          go_wp2_with fail
          go_roundw
          case rel =>
            refine⟨k+1,m.set k (1,x.2),by go_num,by omega,U HTT,?_,?_,?_,?_⟩
            · rw[← instr_setop m k x (U HMX) 1]
              exact own_set (U HROW) (k * 2) _
            · exact (U HPB).far (a:=⟨g1,k * 2,none⟩) hnep _
            · exact (U HRB).far (a:=⟨g1,k * 2,none⟩) (fun e=>by have:=(ownsRow_lt (U HROW) (k:=g1) rfl).2;have:=U HW;simp at e;omega) _
            · exact (U HB).setCell (by have:=(ownsRow_lt (U HROW) (k:=g1) rfl).2;have:=U HW;simp;omega) _
          case measure=>simp[intOf];omega
        · have HTT:=V ((U HT).keep (U HX) (U HY) (fun e=>h4 e.2))
          have h4':(y.1 == 4)=false:=by simpa using h4
          clear h3 h4
          generalize y.1=yo at *
          go_wp2_with fail
          go_roundw
          case rel=>exact⟨k+1,m,by go_num,by omega,U HTT,U HROW,U HPB,U HRB,U HB⟩
          case measure=>simp[intOf];omega
      · have HTT:=V ((U HT).keep (U HX) (U HY) (fun e=>h3 e.1))
        have h3':(x.1 == 3)=false:=by simpa using h3
        clear h3
        generalize x.1=xo at *
        go_wp2_with fail
        go_roundw
        case rel=>exact⟨k+1,m,by go_num,by omega,U HTT,U HROW,U HPB,U HRB,U HB⟩
        case measure=>simp[intOf];omega
    · have hkn:k=L:=by omega
      subst hkn
      have hcr:=hrb.cell
      have hfr:=hrb.free
      have hlr:=hrb.lt
      have hne:w.heap.size≠w.heap.size+1:=by omega
      have hall:m=tailS l:=by
        rw[← U HLL]at ht
        exact ht.all
      have HALL:=V hall
      have HROW:=V hrow
      have HRB:=V hrb
      have HB:=V hbw
      clear ht hrow hrb hbw hall
      go_wp2_with fail
      refine bodyPost_ret (results_row3 (P:=Tryz.prog) rfl _ _ (w.heap.size+1) 73 _ (0,0) _ rfl (triple_set (U HRB) rfl) Tryz.underlying73 rfl Tryz.sizeProgram) rfl ?_
      have hn:(Value.slice (some ⟨g1,0,none⟩) l.length cap1).ownBlock≠some (w.heap.size+1):=fun e=>row_not_blk (U HRB) (U HROW) (by decide) e
      refine⟨g1,cap1,rfl,?_,(((U HB).setCell (by simp) _).setCell (by simp) _).setCell (by simp) _⟩
      rw[← U HALL]
      exact ownsRow_base (ownsRow_far (ownsRow_far (ownsRow_far (U HROW) hn _) hn _) hn _) (by have:=U HW;omega)
def numGo (n:Int):List (Int×Int)→List Int→Option Int
  | _,[]=>some n
  | [],_ :: _=>none
  | x :: r,p :: ps=>if x.1=p then numGo (if p=0 then x.2 else n) r ps else none
theorem numGo_short (n:Int) (row:List (Int×Int)) (ps:List Int) (h:row.length<ps.length):numGo n row ps=none:=by
  induction ps generalizing row n with
  | nil=>simp at h
  | cons p ps ih =>
    cases row with
    | nil=>rfl
    | cons x r =>
      unfold numGo
      split
      · exact ih _ r (by simpa using h)
      · rfl
def IntsAt (w:World) (q:Nat) (ps:List Int):Prop:=q<w.heap.size∧∀ j p,ps[j]? = some p→w.cell? ⟨q,j,none⟩=some (.int .i64 p)
def nofV (r:Option Int):Value:=match r with|some n=>.tuple #[.int .i64 n,.bool true]|none=>.tuple #[.int .i64 0,.bool false]
theorem in_at {w:World} {ao:Option Addr} {row:List (Int×Int)} (h:InL w ao row) {k:Nat} {x:Int×Int} (hx:row[k]? = some x):∃ g off,ao=some ⟨g,off,none⟩∧g<w.heap.size∧w.cell? ⟨g,off+k * 2,none⟩=some (.int .i64 x.1)∧w.cell? ⟨g,off+k * 2+1,none⟩=some (.int .i64 x.2):=by
  rcases h with rfl|⟨g,off,h1,h2,h3⟩
  · simp at hx
  · obtain⟨c1,c2⟩:=in_cell h3 hx
    exact⟨g,off,h1,h2,c1,c2⟩
theorem numberOf_any (ao:Option Addr) (c q cq:Nat) (row:List (Int×Int)) (ps:List Int) (w:World) (hin:InL w ao row) (hq:IntsAt w q ps) (hr:row.length≤100000) (hp:ps.length≤100) :
    Calls Tryz.prog 205 #[.slice ao row.length c,.slice (some ⟨q,0,none⟩) ps.length cq] w fun e w'=>e=.returned (nofV (numGo 0 row ps))∧w'=w:=by
  have hrI:(row.length:Int)≤100000:=by omega
  have hpI:(ps.length:Int)≤100:=by omega
  by_cases hs:row.length<ps.length
  · rw[numGo_short 0 row ps hs]
    have hsI:(row.length:Int)<ps.length:=by omega
    clear hin hq
    go_enter Tryz.func205,Tryz.ntmps205
    go_wp2_with fail
    go_ret2
    exact⟨rfl,rfl⟩
  · have hsI:¬ (row.length:Int)<ps.length:=by omega
    generalize hres:numGo 0 row ps=res
    have HRES:=V hres
    have HIN:=V hin
    have HQ:=V hq
    have hql:=hq.1
    clear hin hq hres
    go_enter Tryz.func205,Tryz.ntmps205
    go_wp2_with fail
    go_loopw [6,16] (fun nv i wr=>∃ (k:Nat) (n:Int),i=.int .i64 k∧nv=.int .i64 n∧k≤ps.length∧numGo n (row.drop k) (ps.drop k)=res∧wr=w) (fun _ i _=>ps.length-(intOf i).toNat)
    case atStart=>exact⟨0,0,rfl,rfl,Nat.zero_le _,U HRES,rfl⟩
    case round =>
      obtain⟨k,n,rfl,rfl,hk,hrun,rfl⟩:=hrel
      by_cases hlt:k<ps.length
      · obtain⟨p,hp'⟩:∃ p,ps[k]? = some p:=⟨_,List.getElem?_eq_getElem hlt⟩
        obtain⟨x,hx⟩:∃ x,row[k]? = some x:=⟨_,List.getElem?_eq_getElem (by omega)⟩
        have hcq:=(U HQ).2 k p hp'
        obtain⟨g,off,rfl,hgl,c1,c2⟩:=in_at (U HIN) hx
        have hd1:row.drop k=x :: row.drop (k+1):=by
          obtain⟨h1,e⟩:=List.getElem?_eq_some_iff.1 hx
          rw[List.drop_eq_getElem_cons h1,e]
        have hd2:ps.drop k=p :: ps.drop (k+1):=by
          obtain⟨h1,e⟩:=List.getElem?_eq_some_iff.1 hp'
          rw[List.drop_eq_getElem_cons h1,e]
        rw[hd1,hd2]at hrun
        unfold numGo at hrun
        have hltI:(k:Int)<ps.length:=by omega
        have hltR:(k:Int)<row.length:=by omega
        by_cases he:x.1=p
        · rw[if_pos he]at hrun
          rw[he]at c1
          have HRUN:=V hrun
          clear hrun hd1 hd2 hx hp' he
          by_cases h0:p=0
          · subst h0
            go_wp2_with fail
            go_roundw
            case rel=>exact⟨k+1,x.2,by go_num,rfl,by omega,by simpa using U HRUN,trivial⟩
            case measure=>simp[intOf];omega
          · have h0':(p == 0)=false:=by simpa using h0
            go_wp2_with fail
            go_roundw
            case rel=>exact⟨k+1,n,by go_num,rfl,by omega,by have:=U HRUN;rw[if_neg h0]at this;exact this,trivial⟩
            case measure=>simp[intOf];omega
        · rw[if_neg he]at hrun
          subst hrun
          have he':(x.1 == p)=false:=by simpa using he
          have he2:(x.1 != p)=true:=by rw[bne,he'];rfl
          generalize x.1=xo at *
          clear hd1 hd2 hx hp' he
          go_wp2_with fail
          go_ret2
          exact⟨rfl,rfl⟩
      · have hkk:k=ps.length:=by omega
        subst hkk
        have hd:ps.drop ps.length=[]:=List.drop_length ..
        rw[hd]at hrun
        have hres:some n=res:=by
          rw[← hrun]
          cases row.drop ps.length<;>rfl
        subst hres
        clear hrun hd
        go_wp2_with fail
        go_ret2
        exact⟨rfl,rfl⟩
def fillS (f:Nat→Int×Int) (n k:Nat):List (Int×Int):=(List.range n).map (fun i=>if i<k then f i else (0,0))
theorem fillS_len (f:Nat→Int×Int) (n k:Nat):(fillS f n k).length=n:=by simp[fillS]
theorem fillS_at (f:Nat→Int×Int) (n k i:Nat) (h:i<n):(fillS f n k)[i]? = some (if i<k then f i else (0,0)):=by
  unfold fillS
  rw[List.getElem?_map,List.getElem?_range h]
  rfl
theorem fillS_next (f:Nat→Int×Int) (n k:Nat) (h:k<n):fillS f n (k+1)=(fillS f n k).set k (f k):=by
  apply List.ext_getElem?
  intro i
  by_cases hi:i<n
  · rw[fillS_at f n (k+1) i hi]
    by_cases e:i=k
    · subst e
      rw[List.getElem?_set_self (by rw[fillS_len];exact hi),if_pos (by omega)]
    · rw[List.getElem?_set_ne (by omega),fillS_at f n k i hi]
      by_cases h1:i<k
      · rw[if_pos h1,if_pos (by omega)]
      · rw[if_neg h1,if_neg (by omega)]
  · rw[List.getElem?_eq_none (by rw[fillS_len];omega),List.getElem?_eq_none (by rw[List.length_set,fillS_len];omega)]
theorem fillS_zero (f:Nat→Int×Int) (n:Nat):fillS f n 0=List.replicate n ((0:Int),(0:Int)):=by
  apply List.ext_getElem?
  intro i
  by_cases hi:i<n
  · rw[fillS_at f n 0 i hi,List.getElem?_replicate,if_pos hi];rfl
  · rw[List.getElem?_eq_none (by rw[fillS_len];omega),List.getElem?_eq_none (by simp;omega)]
theorem fillS_all {α:Type} (ps:List α) (g:α→Int×Int) (f:Nat→Int×Int) (hf:∀ i p,ps[i]? = some p→f i=g p):fillS f ps.length ps.length=ps.map g:=by
  apply List.ext_getElem?
  intro i
  by_cases hi:i<ps.length
  · rw[fillS_at f _ _ i hi,if_pos hi,List.getElem?_map,List.getElem?_eq_getElem hi]
    rw[hf i _ (List.getElem?_eq_getElem hi)]
    rfl
  · rw[List.getElem?_eq_none (by rw[fillS_len];omega),List.getElem?_eq_none (by simp;omega)]
theorem instr_set2 (l:List (Int×Int)) (k:Nat) (x:Int×Int) (hx:l[k]? = some x) (a b:Int):((instrCells l).set (k * 2) (.int .i64 a)).set (k * 2+1) (.int .i64 b)=instrCells (l.set k (a,b)):=by
  induction l generalizing k with
  | nil=>simp at hx
  | cons y l ih =>
    cases k with
    | zero=>rfl
    | succ k =>
      have e:(k+1) * 2=k * 2+1+1:=by omega
      rw[e]
      have:=ih k (by simpa using hx)
      unfold instrCells at this ⊢
      simp only[List.flatMap_cons,List.set_cons_succ]
      rw[← this]
      rfl
def IntsL (w:World) (ao:Option Addr) (ps:List Int):Prop:=ps=[]∨∃ q,ao=some ⟨q,0,none⟩∧IntsAt w q ps
theorem IntsL.below {w w':World} {ao:Option Addr} {ps:List Int} (h:IntsL w ao ps) (hb:Below w.heap.size w w'):IntsL w' ao ps:=by
  rcases h with h|⟨q,h1,h2,h3⟩
  · exact Or.inl h
  · exact Or.inr ⟨q,h1,by have:=hb.size;omega,fun j p hj=>by rw[hb.cell (by simpa using h2)];exact h3 j p hj⟩
theorem made_row (w:World) (n:Nat) (hn:n≤17592186044416):(w.alloc (.cells (madeCells #[.int .i64 0,.int .i64 0] (n * 2)) 65)).ownsRow w.heap.size 65 2 (.slice (some ⟨w.heap.size,0,none⟩) n n) n (instrCells (List.replicate n ((0:Int),(0:Int)))):=by
  have hl:=instrCells_length (List.replicate n ((0:Int),(0:Int)))
  rw[List.length_replicate]at hl
  refine⟨hl,Or.inr ⟨w.heap.size,n,madeCells #[.int .i64 0,.int .i64 0] (n * 2),rfl,Nat.le_refl _,Blk.new w _ _,Nat.le_refl _,by unfold maxLen;omega,by rw[size_madeCells],?_⟩⟩
  rw[made2]
  rw[List.take_of_length_le (by simp[hl])]
theorem ops_any (ao:Option Addr) (c:Nat) (ps:List Int) (w:World) (hq:IntsL w ao ps) (hn:ps.length≤1000) :
    Calls Tryz.prog 202 #[.slice ao ps.length c] w fun e w'=>∃ g,e=.returned (.slice (some ⟨g,0,none⟩) ps.length ps.length)∧w'.ownsRow w.heap.size 65 2 (.slice (some ⟨g,0,none⟩) ps.length ps.length) ps.length (instrCells (ps.map (fun p=>(p,(0:Int)))))∧Below w.heap.size w w':=by
  have hnI:(ps.length:Int)≤1000:=by omega
  have hmk:=run_make2 ps.length (by omega)
  have hrow0:=made_row w ps.length (by omega)
  have hb0:=below_box w (.cells (madeCells #[.int .i64 0,.int .i64 0] (ps.length * 2)) 65)
  have HROW0:=V hrow0
  have HB0:=V hb0
  have HQ:=V hq
  obtain⟨f,hf⟩:∃ f:Nat→Int×Int,f=fun i=>(ps.getD i 0,0):=⟨_,rfl⟩
  have HF:Hid (∀ i p,ps[i]? = some p→f i=(p,0)):=fun i p hp=>by rw[hf];simp[List.getD,hp]
  clear hrow0 hb0 hq hf
  go_enter Tryz.func202,Tryz.ntmps202
  go_wp2_with fail
  go_loopw [11] (fun i wr=>∃ k:Nat,i=.int .i64 k∧k≤ps.length∧wr.ownsRow w.heap.size 65 2 (.slice (some ⟨w.heap.size,0,none⟩) ps.length ps.length) ps.length (instrCells (fillS f ps.length k))∧Below w.heap.size w wr) (fun i _=>ps.length-(intOf i).toNat)
  case atStart=>exact⟨0,rfl,Nat.zero_le _,by rw[fillS_zero];exact U HROW0,U HB0⟩
  case round =>
    clear hmk
    obtain⟨k,rfl,hk,hrow,hbw⟩:=hrel
    have HROW:=V hrow
    have HBW:=V hbw
    by_cases hlt:k<ps.length
    · obtain⟨p,hp⟩:∃ p,ps[k]? = some p:=⟨_,List.getElem?_eq_getElem hlt⟩
      rcases (U HQ).below hbw with e0|⟨q,rfl,hq1,hq2⟩
      · rw[e0]at hlt;simp at hlt
      have hcq:=hq2 k p hp
      have hltI:(k:Int)<ps.length:=by omega
      have hx:=fillS_at f ps.length k k hlt
      have c1:=own_cell hrow (k * 2) (by omega)
      rw[(instrCells_at _ _ _ hx).1]at c1
      have hgl:=(ownsRow_lt hrow (k:=w.heap.size) rfl).1
      obtain⟨cs,hfr⟩:∃ cs,Blk wr w.heap.size cs 65:=by
        obtain⟨_,hh⟩:=hrow
        rcases hh with ⟨e,_⟩|⟨g',c',cs',e,_,hb',_⟩
        · cases e
        · simp only[Value.slice.injEq,Option.some.injEq,Addr.mk.injEq,and_true]at e
          obtain⟨rfl,_⟩:=e
          exact⟨_,hb'⟩
      have hfree:=hfr.free
      have HNX:=V (fillS_next f ps.length k hlt)
      have HFK:=V (U HF k p hp)
      have HX:=V hx
      clear hrow hbw hp hq2 hx hfr
      go_wp2_with fail
      go_roundw
      case rel =>
        refine⟨k+1,by go_num,by omega,?_,(U HBW).setCell (Nat.le_refl _) _⟩
        have h1:=own_set (U HROW) (k * 2) (.int .i64 p)
        rw[instr_setop _ k _ (U HX) p,if_neg (by omega)]at h1
        rw[U HNX,U HFK]
        exact h1
      case measure=>simp[intOf];omega
    · have hkk:k=ps.length:=by omega
      subst hkk
      have he:=fillS_all ps (fun p=>(p,(0:Int))) f (U HF)
      have HE:=V he
      clear hrow hbw he
      go_wp2_with fail
      go_ret
      refine⟨w.heap.size,rfl,?_,U HBW⟩
      rw[← U HE]
      exact U HROW
theorem lits_any (ao:Option Addr) (c:Nat) (ps:List Int) (w:World) (hq:IntsL w ao ps) (hn:ps.length≤1000000) :
    Calls Tryz.prog 226 #[.slice ao ps.length c] w fun e w'=>∃ g,e=.returned (.slice (some ⟨g,0,none⟩) ps.length ps.length)∧w'.ownsRow w.heap.size 65 2 (.slice (some ⟨g,0,none⟩) ps.length ps.length) ps.length (instrCells (ps.map (fun p=>((0:Int),p))))∧Below w.heap.size w w':=by
  have hnI:(ps.length:Int)≤1000000:=by omega
  have hmk:=run_make2 ps.length (by omega)
  have hrow0:=made_row w ps.length (by omega)
  have hb0:=below_box w (.cells (madeCells #[.int .i64 0,.int .i64 0] (ps.length * 2)) 65)
  have HROW0:=V hrow0
  have HB0:=V hb0
  have HQ:=V hq
  obtain⟨f,hf⟩:∃ f:Nat→Int×Int,f=fun i=>(0,ps.getD i 0):=⟨_,rfl⟩
  have HF:Hid (∀ i p,ps[i]? = some p→f i=(0,p)):=fun i p hp=>by rw[hf];simp[List.getD,hp]
  clear hrow0 hb0 hq hf
  go_enter Tryz.func226,Tryz.ntmps226
  go_wp2_with fail
  go_loopw [11] (fun i wr=>∃ k:Nat,i=.int .i64 k∧k≤ps.length∧wr.ownsRow w.heap.size 65 2 (.slice (some ⟨w.heap.size,0,none⟩) ps.length ps.length) ps.length (instrCells (fillS f ps.length k))∧Below w.heap.size w wr) (fun i _=>ps.length-(intOf i).toNat)
  case atStart=>exact⟨0,rfl,Nat.zero_le _,by rw[fillS_zero];exact U HROW0,U HB0⟩
  case round =>
    clear hmk
    obtain⟨k,rfl,hk,hrow,hbw⟩:=hrel
    have HROW:=V hrow
    have HBW:=V hbw
    by_cases hlt:k<ps.length
    · obtain⟨p,hp⟩:∃ p,ps[k]? = some p:=⟨_,List.getElem?_eq_getElem hlt⟩
      rcases (U HQ).below hbw with e0|⟨q,rfl,hq1,hq2⟩
      · rw[e0]at hlt;simp at hlt
      have hcq:=hq2 k p hp
      have hltI:(k:Int)<ps.length:=by omega
      have hx:=fillS_at f ps.length k k hlt
      have c1:=own_cell hrow (k * 2) (by omega)
      have c2:=own_cell hrow (k * 2+1) (by omega)
      rw[(instrCells_at _ _ _ hx).1]at c1
      rw[(instrCells_at _ _ _ hx).2]at c2
      have hfree:=own_free hrow
      have hgl:=(ownsRow_lt hrow (k:=w.heap.size) rfl).1
      have HNX:=V (fillS_next f ps.length k hlt)
      have HFK:=V (U HF k p hp)
      have HX:=V hx
      clear hrow hbw hp hq2 hx
      go_wp2_with fail
      go_roundw
      case rel =>
        refine⟨k+1,by go_num,by omega,?_,((U HBW).setCell (Nat.le_refl _) _).setCell (Nat.le_refl _) _⟩
        have h1:=own_set (own_set (U HROW) (k * 2) (.int .i64 0)) (k * 2+1) (.int .i64 p)
        rw[instr_set2 _ k _ (U HX) 0 p]at h1
        rw[U HNX,U HFK]
        exact h1
      case measure=>simp[intOf];omega
    · have hkk:k=ps.length:=by omega
      subst hkk
      have he:=fillS_all ps (fun p=>((0:Int),p)) f (U HF)
      have HE:=V he
      clear hrow hbw he
      go_wp2_with fail
      go_ret
      refine⟨w.heap.size,rfl,?_,U HBW⟩
      rw[← U HE]
      exact U HROW
def linkS (a b:Int):Option (Int×Int) :=
  if a=10∧b=10 then some (9,10)
  else if (a=10∧b=9)∨(a=9∧b=10) then some (10,a)
  else if a≠b then none
  else if a=9∨a=11∨a=14∨a=15∨a=16 then some (a,a) else none
def linkV (r:Option (Int×Int)):Value:=match r with|some (j,o)=>.tuple #[.int .i64 j,.int .i64 o,.bool true]|none=>.tuple #[.int .i64 0,.int .i64 0,.bool false]
theorem link_any (a b:Int) (w:World) :
    Calls Tryz.prog 227 #[.int .i64 a,.int .i64 b] w fun e w'=>e=.returned (linkV (linkS a b))∧w'=w:=by
  unfold linkS
  by_cases ha:a=10
  · subst ha
    by_cases hb:b=10
    · subst hb
      go_enter Tryz.func227,Tryz.ntmps227
      go_wp2_with fail
      go_ret3
      exact⟨rfl,rfl⟩
    · by_cases hb9:b=9
      · subst hb9
        go_enter Tryz.func227,Tryz.ntmps227
        go_wp2_with fail
        go_ret3
        exact⟨rfl,rfl⟩
      · have h1:(b == 10)=false:=by simpa using hb
        have h2:(b == 9)=false:=by simpa using hb9
        have h3:((10:Int) != b)=true:=by simp;omega
        have e:(if (10:Int)=10∧b=10 then some ((9:Int),(10:Int)) else if ((10:Int)=10∧b=9)∨((10:Int)=9∧b=10) then some (10,10) else if (10:Int)≠b then none else if (10:Int)=9∨(10:Int)=11∨(10:Int)=14∨(10:Int)=15∨(10:Int)=16 then some (10,10) else none)=none:=by
          rw[if_neg (by omega),if_neg (by omega),if_pos (by omega)]
        rw[e]
        clear hb hb9 e
        go_enter Tryz.func227,Tryz.ntmps227
        go_wp2_with fail
        go_ret3
        exact⟨rfl,rfl⟩
  · have h0:(a == 10)=false:=by simpa using ha
    by_cases hs:a=9∧b=10
    · obtain⟨rfl,rfl⟩:=hs
      go_enter Tryz.func227,Tryz.ntmps227
      go_wp2_with fail
      go_ret3
      exact⟨rfl,rfl⟩
    · rw[if_neg (by omega),if_neg (by omega)]
      by_cases hab:a=b
      · subst hab
        rw[if_neg (by simp)]
        by_cases hin:a=9∨a=11∨a=14∨a=15∨a=16
        · rw[if_pos hin]
          rcases hin with rfl|rfl|rfl|rfl|rfl
          all_goals
            go_enter Tryz.func227,Tryz.ntmps227
            go_wp2_with fail
            go_ret3
            exact⟨rfl,rfl⟩
        · rw[if_neg hin]
          have h9:(a == 9)=false:=by simp;omega
          have h11:(a == 11)=false:=by simp;omega
          have h14:(a == 14)=false:=by simp;omega
          have h15:(a == 15)=false:=by simp;omega
          have h16:(a == 16)=false:=by simp;omega
          have hne:(a != a)=false:=by simp
          clear ha hs hin
          go_enter Tryz.func227,Tryz.ntmps227
          go_wp2_with fail
          go_ret3
          exact⟨rfl,rfl⟩
      · rw[if_pos hab]
        have hne:(a != b)=true:=by simpa using hab
        by_cases h9:a=9
        · subst h9
          have hb:(b == 10)=false:=by simp;omega
          clear ha hs hab
          go_enter Tryz.func227,Tryz.ntmps227
          go_wp2_with fail
          go_ret3
          exact⟨rfl,rfl⟩
        · have h9':(a == 9)=false:=by simpa using h9
          clear ha hs hab h9
          go_enter Tryz.func227,Tryz.ntmps227
          go_wp2_with fail
          go_ret3
          exact⟨rfl,rfl⟩
end Go.Proofs.YtmeiikjpaepogaaGreatDoor
