/- The program's compiler: Compile. -/
import Derived.Test.YtmeiikjpaepogaaGreatDoorU16
import Derived.Test.YtmeiikjpaepogaaGreatDoorU23
import Derived.Test.YtmeiikjpaepogaaGreatDoorU08
import Derived.Test.YtmeiikjpaepogaaGreatDoorU07
set_option maxRecDepth 100000
set_option maxHeartbeats 16000000
namespace Go.Proofs.YtmeiikjpaepogaaGreatDoor
open Go Go.RowKit
theorem Tryz.sizeProgram:(Tryz.prog.info? 73).map (fun i=>i.size)=some 3:=by kernel_rfl
theorem Tryz.name79 : (Tryz.f79.name == "runtime.NumGoroutine") = false := by kernel_rfl
theorem Tryz.body79:Tryz.f79.body.isNone=false:=by kernel_rfl
theorem results_row_tmp2 {P:Program} {fn:Func} {p u v:Tmp} {ty:TypeId} (h:fn.results=#[.cell p ty,.tmp u,.tmp v]) (tmps:Array Value) (w:World) (g:Nat) (t:TypeId) (cs:Array Value) (fr:Nat×Nat) (d:TypeDesc)
    (hp:tmps.getD p undef=.pointer (some ⟨g,0,none⟩)) (hg:w.heap[g]? = some (.cells cs t fr))
    (hu:P.underlying ty=some d) (hd:(match d with|.struct _|.array _ _=>true|_=>false)=true) (hi:(P.info? ty).map (·.size)=some cs.size) :
    (results fn tmps).run P w=.ok (.tuple #[.agg cs,tmps.getD u undef,tmps.getD v undef]) w:=by
  have hp':tmps[p]?.getD undef=.pointer (some ⟨g,0,none⟩):=by simpa using hp
  simp only[results,h]
  simp[hp',asAddr,run_loadVar_row w g t ty cs fr d hg hu hd hi]
theorem triple_set {w:World} {b:Nat} {cs:Array Value} {T:TypeId} {x0 x1 x2 y0 y1 y2:Value} (h:Blk w b cs T) (hcs:cs=#[x0,x1,x2]) :
    Blk (((w.setCell ⟨b,0,none⟩ y0).setCell ⟨b,1,none⟩ y1).setCell ⟨b,2,none⟩ y2) b #[y0,y1,y2] T:=by
  subst hcs
  have h5:=((h.set 0 y0).set 1 y1).set 2 y2
  simpa only [List.setIfInBounds_toArray,List.set_cons_succ,List.set_cons_zero] using h5
theorem AtIs.int {w:World} {x:CX} {p:Nat} (h:AtIs w x p):YtmeiikjpaepogaaGreatDoor.cellInt w x.b 1=p:=by
  obtain⟨r,d,m,hx,mp,s0,c,vo,h⟩:=h
  have:=h.cell 1
  simp at this
  simp[YtmeiikjpaepogaaGreatDoor.cellInt,this,intOf]
def CompRel (B:Nat) (x:CX) (w:World) (s:ByteArray) (st:RS) (wr:World):Prop :=
  ∃ m:Nat,CpE B wr x st∧Inv st m∧m≤st.place0∧st.err=0∧NmOk st∧st.s=s∧loopS (fuelS st) st=finS s∧Below B w wr
theorem comp_next {B:Nat} {x:CX} {w wr w3:World} {s:ByteArray} {st:RS} (h:CompRel B x w s st wr) (hne:st.token.toList.isEmpty=false) (he:(itemS st).err=0) (h3:CpE B w3 x (stepS (itemS st))) (hb:Below B wr w3) :
    CompRel B x w s (stepS (itemS st)) w3∧s.size-(YtmeiikjpaepogaaGreatDoor.cellInt w3 x.b 1).toNat<s.size-(YtmeiikjpaepogaaGreatDoor.cellInt wr x.b 1).toNat:=by
  obtain⟨m,h1,hi,hm,h0,hn,hss,hl,hbw⟩:=h
  obtain⟨k1,k2,k3,k4⟩:=round_inv hi hm hne
  refine⟨⟨m+1,h3,k1,k2,he,nm_step (nm_item hi hn),by rw[k4,hss],by rw[← loop_round hi hm hne h0 he];exact hl,hbw.trans hb⟩,?_⟩
  rw[h3.atIs.int,h1.atIs.int]
  have h5:=k1.place
  have h6:=k1.next
  rw[k4,hss]at h6
  simp only[Int.toNat_natCast]
  omega
theorem comp_fail {B:Nat} {x:CX} {w wr:World} {s:ByteArray} {st:RS} (h:CompRel B x w s st wr) (hne:st.token.toList.isEmpty=false) (he:(itemS st).err≠0):endS s=itemS st:=by
  obtain⟨m,h1,hi,hm,h0,hn,hss,hl,hbw⟩:=h
  have e1:finS s=itemS st:=by rw[← hl,loop_end hne h0 he]
  unfold endS
  rw[e1,if_neg (fun e=>he e.1)]
theorem comp_open {B:Nat} {x:CX} {w wr:World} {s:ByteArray} {st:RS} (h:CompRel B x w s st wr) (hne:st.token.toList.isEmpty=true) (ho:0≤st.start∨st.opens≠[]):(endS s).err=4∧(endS s).place=(st.place0:Int):=by
  obtain⟨m,h1,hi,hm,h0,hn,hss,hl,hbw⟩:=h
  have e1:finS s=st:=by rw[← hl];exact loop_stop _ (Or.inl hne)
  unfold endS
  rw[e1,if_pos ⟨h0,ho⟩]
  unfold failS
  rw[if_pos h0]
  exact⟨rfl,rfl⟩
theorem comp_done {B:Nat} {x:CX} {w wr:World} {s:ByteArray} {st:RS} (h:CompRel B x w s st wr) (hne:st.token.toList.isEmpty=true) (ho:¬ (0≤st.start∨st.opens≠[])):endS s=st∧st.start<0∧st.opens=[]:=by
  obtain⟨m,h1,hi,hm,h0,hn,hss,hl,hbw⟩:=h
  have e1:finS s=st:=by rw[← hl];exact loop_stop _ (Or.inl hne)
  unfold endS
  rw[e1,if_neg (fun e=>ho e.2)]
  refine⟨rfl,by omega,?_⟩
  rcases Classical.em (st.opens=[]) with e|e
  · exact e
  · exact absurd (Or.inr e) ho
theorem full_pos {st:RS}:0<(fullS st).length:=by
  unfold fullS
  rw[List.length_append]
  exact Nat.succ_pos _
theorem full_done {st:RS}:st.c0++(st.c1++[(5,0)]).map (shiftS st.c0.length)=fullS st:=by
  unfold fullS
  simp[shiftS]
theorem results_row3 {P:Program} {fn:Func} {p:Tmp} {ty:TypeId} (h:fn.results=#[.cell p ty]) (tmps:Array Value) (w:World) (g:Nat) (t:TypeId) (cs:Array Value) (fr:Nat×Nat) (d:TypeDesc)
    (hp:tmps.getD p undef=.pointer (some ⟨g,0,none⟩)) (hg:w.heap[g]? = some (.cells cs t fr))
    (hu:P.underlying ty=some d) (hd:(match d with|.struct _|.array _ _=>true|_=>false)=true) (hi:(P.info? ty).map (·.size)=some cs.size) :
    (results fn tmps).run P w=.ok (.agg cs) w:=results_cell_row h tmps w g t cs fr d hp hg hu hd hi
theorem cprogram_any (B:Nat) (x:CX) (st:RS) (wc:World) (h:CpE B wc x { st with c1:=st.c1++[(5,0)] }) :
    Calls Tryz.prog 52 #[.pointer (some ⟨x.b,0,none⟩)] wc fun e w'=>∃ g cap,e=.returned (.agg #[.slice (some ⟨g,0,none⟩) (fullS st).length cap,.int .i64 st.c0.length,.int .i64 st.cells])∧w'.ownsRow wc.heap.size 65 2 (.slice (some ⟨g,0,none⟩) (fullS st).length cap) (fullS st).length (instrCells (fullS st))∧Below wc.heap.size wc w':=by
  obtain⟨s5,vd5,vm5,vo5,fw5,fo5,hcp5⟩:=h
  have hsm:=hcp5.small
  obtain⟨ad5,kd5,hvd5⟩:=own_shape hcp5.od
  subst hvd5
  have HJ:Hid (∀ W:World,Below wc.heap.size wc W→Calls Tryz.prog 79 #[.pointer (some ⟨x.d,0,none⟩),.pointer (some ⟨x.m,0,none⟩)] W fun e w'=>∃ g cap,e=.returned (.slice (some ⟨g,0,none⟩) (fullS st).length cap)∧w'.ownsRow W.heap.size 65 2 (.slice (some ⟨g,0,none⟩) (fullS st).length cap) (fullS st).length (instrCells (fullS st))∧Below W.heap.size W w'):=by
    intro W hW
    have hcW:=hcp5.below hW
    refine (join_any B x.d x.m _ _ st.c0 (st.c1++[(5,0)]) W hcW.dp hcW.mn hcW.od hcW.om hsm.1 hsm.2.1).mono ?_
    rintro e w' ⟨v,rfl,k1,k2⟩
    rw[full_done]at k1
    have el:st.c0.length+(st.c1++[(5,0)]).length=(fullS st).length:=by unfold fullS;simp<;>omega
    rw[el]at k1
    obtain⟨g,cap,rfl,_,_⟩:=k1.form full_pos
    exact⟨g,cap,rfl,k1,k2⟩
  have hb0:Below wc.heap.size wc (wc.alloc (.cells #[.slice none 0 0,.int .i64 0,.int .i64 0] 73)):=by (repeat (first|with_reducible refine below_drew ?_|with_reducible refine below_drawn ?_ _|with_reducible refine below_longer ?_ _|(with_reducible refine Below.alloc ?_ ?_ _;rotate_left;(first|omega|((repeat (first|rw[World.size_up]|rw[World.size_dr]|rw[World.size_drN]))<;>omega)))));(with_reducible exact Below.refl _ _)
  have hR:=Blk.new wc #[.slice none 0 0,.int .i64 0,.int .i64 0] 73
  have hS:∀ W:World,Below wc.heap.size wc W→W.cell? ⟨x.b,2,none⟩=some (.pointer (some ⟨x.d,0,none⟩))∧W.cell? ⟨x.b,3,none⟩=some (.pointer (some ⟨x.m,0,none⟩))∧W.cell? ⟨x.b,7,none⟩=some (.int .i64 st.cells)∧W.cell? ⟨x.d,0,none⟩=some (.slice ad5 st.c0.length kd5):=by
    intro W hW
    have h1:=(hcp5.below hW).blk.cell
    have h2:=(hcp5.below hW).dp.cell
    unfold cpArr at h1
    exact⟨h1 2,h1 3,h1 7,h2 0⟩
  have HS:=V hS
  have HB0:=V hb0
  have HR:=V hR
  have hlI:(st.c0.length:Int)≤4000:=by have:=hsm.1;simp at this;omega
  clear hcp5 hb0 hR hS hsm
  generalize hfl:fullS st=fl at *
  have HFL:=V hfl
  generalize st.c0.length=cl at *
  generalize st.cells=ce at *
  clear hfl
  go_enter Tryz.func52,Tryz.ntmps52
  go_wp2_with fail
  generalize wc.alloc (.cells #[.slice none 0 0,.int .i64 0,.int .i64 0] 73)=W0 at *
  have HS0:=V (U HS W0.drew (below_drew (U HB0)))
  have HJ0:=V (U HJ W0.drew (below_drew (U HB0)))
  clear HJ
  go_region_held_law (fun w'=>w'.cell? ⟨x.b,2,none⟩=some (.pointer (some ⟨x.d,0,none⟩))∧w'.cell? ⟨x.b,3,none⟩=some (.pointer (some ⟨x.m,0,none⟩))∧w'.cell? ⟨x.b,7,none⟩=some (.int .i64 ce)∧w'.cell? ⟨x.d,0,none⟩=some (.slice ad5 cl kd5)) (first|exact U HS5 _ _ _|exact U HS4|exact U HS0) ((refine step_call rfl 79 #[.tmp 6,.tmp 10] #[96,96] rfl Tryz.func79 Tryz.name79 Tryz.body79 #[.pointer (some ⟨x.d,0,none⟩),.pointer (some ⟨x.m,0,none⟩)] (by first|rfl|(simp[Act.eval];done)|(simp[Act.eval,Act.put];done)) (by exact U HJ0) ?_;rintro e w4 ⟨g,cap,rfl,ho4,hb4⟩;have hbw:=(below_drew (U HB0)).trans (hb4.mono (by have:=(U HB0).size;exact this));have HS4:=V (U HS w4 hbw);have HS5:=V (fun y0 y1 y2=>U HS (((w4.setCell ⟨wc.heap.size,0,none⟩ y0).setCell ⟨wc.heap.size,1,none⟩ y1).setCell ⟨wc.heap.size,2,none⟩ y2) (((hbw.setCell (Nat.le_refl _) y0).setCell (Nat.le_refl _) y1).setCell (Nat.le_refl _) y2));have hr4:=((U HR).below (below_drew (Below.refl _ _)) (U HR).lt).below hb4 (U HR).lt;have hcr:=hr4.cell;have hfr:=hr4.free;have hrl:=hr4.lt;have HR4:=V hr4;have HO4:=V ho4;have HBW:=V hbw;clear ho4 hb4 hbw hr4;refine⟨_,rfl,?_⟩))
  all_goals
    go_wp2_with fail
    refine bodyPost_ret (results_row3 (P:=Tryz.prog) rfl _ _ wc.heap.size 73 _ (0,0) _ rfl (triple_set (U HR4) rfl) Tryz.underlying73 rfl Tryz.sizeProgram) rfl ?_
    have hn:(Value.slice (some ⟨g,0,none⟩) fl.length cap).ownBlock≠some wc.heap.size:=fun e=>by have h2:=(ownsRow_lt (U HO4) e).2;have h4:=(U HR).lt;have h3:W0.drew.heap.size=W0.heap.size:=rfl;rw[h3]at h2;omega
    refine⟨g,cap,rfl,?_,(((U HBW).setCell (Nat.le_refl _) _).setCell (Nat.le_refl _) _).setCell (Nat.le_refl _) _⟩
    exact ownsRow_base (ownsRow_far (ownsRow_far (ownsRow_far (U HO4) hn _) hn _) hn _) (U HB0).size
def CompOut (w:World) (s:ByteArray) (e:Ending) (w':World):Prop :=
  (((endS s).err ≠ 0 ∧ e = .returned (.tuple #[.agg #[.slice none 0 0, .int .i64 0, .int .i64 0], .int .i64 (endS s).err, .int .i64 (endS s).place])) ∨
   ((endS s).err=0∧∃ v,e=.returned (.tuple #[.agg #[v,.int .i64 (endS s).c0.length,.int .i64 (endS s).cells],.int .i64 0,.int .i64 0])∧w'.ownsRow w.heap.size 65 2 v (fullS (endS s)).length (instrCells (fullS (endS s)))))∧Below w.heap.size w w'
theorem comp_long (s:ByteArray) (w:World) (hs:2000<s.size) :
    Calls Tryz.prog 34 #[.string s] w fun e w'=>e=.returned (.tuple #[.agg #[.slice none 0 0,.int .i64 0,.int .i64 0],.int .i64 1,.int .i64 0])∧Below w.heap.size w w':=by
  have h':(2000:Int)<s.size:=by omega
  go_enter Tryz.func34,Tryz.ntmps34
  go_wp2_with fail
  refine bodyPost_ret (results_row_tmp2 (P:=Tryz.prog) rfl _ _ w.heap.size 73 _ (0,0) _ rfl (Blk.new w _ _) Tryz.underlying73 rfl Tryz.sizeProgram) rfl ?_
  refine⟨rfl,?_⟩
  exact (Below.refl _ _).alloc (Nat.le_refl _) _
theorem comp_any (s:ByteArray) (w:World) (hs:s.size≤2000) (hV:VocOk w) (hE:ErrsOk w) :
    Calls Tryz.prog 34 #[.string s] w (CompOut w s):=by
  have h':(s.size:Int)≤2000:=by omega
  have h12:decide ((2000:Int)<(s.size:Int))=false:=by simp;omega
  have hbA:Below w.heap.size w (w.alloc (.cells #[.slice none 0 0,.int .i64 0,.int .i64 0] 73)):=by (repeat (first|with_reducible refine below_drew ?_|with_reducible refine below_drawn ?_ _|with_reducible refine below_longer ?_ _|(with_reducible refine Below.alloc ?_ ?_ _;rotate_left;(first|omega|((repeat (first|rw[World.size_up]|rw[World.size_dr]|rw[World.size_drN]))<;>omega)))));(with_reducible exact Below.refl _ _)
  have HNEW:=V (newCompiler_any s (w.alloc (.cells #[.slice none 0 0,.int .i64 0,.int .i64 0] 73)) hs)
  have HRB:=V (Blk.new w #[.slice none 0 0,.int .i64 0,.int .i64 0] 73)
  have HBA:=V hbA
  have HV:=V (hV.below hbA)
  have HE:=V (hE.below hbA)
  have h6:6≤(w.alloc (.cells #[.slice none 0 0,.int .i64 0,.int .i64 0] 73)).heap.size:=(hV.below hbA).2
  have H6:=V h6
  have hsz:(w.alloc (.cells #[.slice none 0 0,.int .i64 0,.int .i64 0] 73)).heap.size=w.heap.size+1:=by simp
  have HSZ:=V hsz
  clear hbA hV hE h6 hsz
  go_enter Tryz.func34,Tryz.ntmps34
  go_wp2_with fail
  generalize w.alloc (.cells #[.slice none 0 0,.int .i64 0,.int .i64 0] 73)=W0 at *
  refine (U HNEW).mono ?_
  rintro e w1 ⟨x,rfl,h1,hb1⟩
  have HN1:=V (cnext_any W0.heap.size x (startS s) w1 h1 (start_inv s hs).next)
  have HB1:=V hb1
  clear h1 hb1 HNEW
  go_wp2_with fail
  refine (U HN1).mono ?_
  rintro e w2 ⟨rfl,h2,hb2⟩
  have hrel0:CompRel W0.heap.size x W0 s (stepS (startS s)) w2:=⟨0,h2,(stepS_inv (start_inv s hs)).1,Nat.zero_le _,rfl,nm_step (nm_start s),rfl,rfl,(U HB1).trans hb2⟩
  have HREL0:=V hrel0
  clear h2 hb2 HN1 HB1 hrel0
  generalize stepS (startS s)=st0 at *
  go_wp2_with fail
  go_loopw [6] (fun tk wr=>∃ st,tk=.string st.token∧CompRel W0.heap.size x W0 s st wr) (fun _ wr=>s.size-(YtmeiikjpaepogaaGreatDoor.cellInt wr x.b 1).toNat)
  case atStart=>exact⟨st0,rfl,U HREL0⟩
  case round =>
    clear HREL0
    obtain⟨st,rfl,hrel⟩:=hrel
    have HREL:=V hrel
    obtain⟨m,h1,hi,hm,h0,hn,hss,hl,hbw⟩:=hrel
    have h3000:m<3000:=by have:=hi.place;have:=hi.next;have:=hi.size;omega
    have hrb:Blk wr w.heap.size #[.slice none 0 0,.int .i64 0,.int .i64 0] 73:=(U HRB).below hbw (by have:=U HSZ;omega)
    have HRW:=V hrb
    cases hne:st.token.toList.isEmpty
    · have HT:=V (ctake_any W0.heap.size x st wr h1 m hi h3000 hn h0 (U H6) ((U HV).low (U H6) hbw) ((U HE).low (U H6) hbw))
      have hnx:=(itemS_inv hi).next
      have HNX:Hid (∀ w2,CpE W0.heap.size w2 x (itemS st)→Calls Tryz.prog 48 #[.pointer (some ⟨x.b,0,none⟩)] w2 fun e w'=>e=.returned (.string (stepS (itemS st)).token)∧CpE W0.heap.size w' x (stepS (itemS st))∧Below W0.heap.size w2 w'):=fun w2 h2=>cnext_any W0.heap.size x (itemS st) w2 h2 hnx
      have HNE:=V hne
      have HBW:=V hbw
      clear h1 hi hm h0 hn hss hl hbw hnx hrb
      go_wp2_with fail
      refine (U HT).mono ?_
      rintro e w2 ⟨rfl,k1,k2,k3⟩
      clear HT
      by_cases he:(itemS st).err=0
      · have HC:=V (k1 he)
        have HEQ:=V he
        have HK:=V k3
        clear k1 k2 k3
        rw[he]
        clear he
        go_wp2_with fail
        refine (U HNX w2 (U HC)).mono ?_
        rintro e w3 ⟨rfl,k4,k5⟩
        have HK5:=V (comp_next (U HREL) (U HNE) (U HEQ) k4 ((U HK).trans k5))
        clear k4 k5
        go_wp2_with fail
        go_roundw
        case rel=>exact⟨_,rfl,(U HK5).1⟩
        case measure=>exact (U HK5).2
      · obtain⟨p,hp,hat⟩:=k2 he
        have HEND:=V (comp_fail (U HREL) (U HNE) he)
        have HP:=V hp
        have HEQ:=V he
        obtain⟨ar,ad,am,ahx,amp,as0,ac,avo,hatb⟩:=hat
        have hrb2:Blk w2 w.heap.size #[.slice none 0 0,.int .i64 0,.int .i64 0] 73:=(U HRW).below k3 (by have:=U HSZ;omega)
        have hca:=hatb.cell
        have hcr:=hrb2.cell
        have hfr:=hrb2.free
        have hne2:x.b≠w.heap.size:=fun e=>by rw[e]at hatb;exact absurd (Cr.bl hatb hrb2) (by decide)
        have HRB2:=V hrb2
        have HBB:=V ((U HBW).trans k3)
        have he':((itemS st).err == 0)=false:=by simpa using he
        clear k1 k2 k3 hp hrb2 hatb he HNX
        generalize herr:(itemS st).err=er at *
        have HERR:=V herr
        clear herr
        go_wp2_with fail
        go_region_law (fail)
        all_goals
          go_wp2_with fail
          refine bodyPost_ret (results_row_tmp2 (P:=Tryz.prog) rfl _ _ w.heap.size 73 _ (0,0) _ rfl (triple_set (U HRB2) rfl) Tryz.underlying73 rfl Tryz.sizeProgram) rfl ?_
          refine⟨Or.inl ⟨by rw[U HEND,U HERR];exact U HEQ,?_⟩,?_⟩
          · rw[U HEND,U HP,U HERR]
            rfl
          · have hb:=(U HBA).trans (below_less (U HBB) (by have:=U HSZ;omega))
            exact below_drew (((hb.setCell (Nat.le_refl _) _).setCell (Nat.le_refl _) _).setCell (Nat.le_refl _) _)
    · by_cases ho:0≤st.start∨st.opens≠[]
      · have HO:=V (comp_open (U HREL) hne ho)
        obtain⟨s0,vd,vm,vo,fw,fo,hcp⟩:=h1
        obtain⟨ao,co,hvo⟩:=own_shape hcp.oo
        subst hvo
        have hL:=hcp.openLen
        have hl0:0<(fw++fo).length:=by
          rcases ho with e|e
          · obtain⟨f,e,_⟩:=hcp.things.word e;rw[e];simp
          · have:=List.length_pos_iff.2 e
            have h1:=hcp.things.len
            simp;omega
        have hc:=hcp.blk.cell
        unfold cpArr at hc
        have hcr:=hrb.cell
        have hfr:=hrb.free
        have hne2:x.b≠w.heap.size:=fun e=>by have hb:=hcp.blk;rw[e]at hb;exact absurd (Cr.bl hb hrb) (by decide)
        have HBB:=V hbw
        clear hcp hi hm h0 hn hss hl hbw hrb ho
        generalize (fw++fo).length=L at *
        have hlI:(0:Int)<L:=by omega
        go_wp2_with fail
        go_region_law (fail)
        all_goals
          go_wp2_with fail
          refine bodyPost_ret (results_row_tmp2 (P:=Tryz.prog) rfl _ _ w.heap.size 73 _ (0,0) _ rfl (triple_set (U HRW) rfl) Tryz.underlying73 rfl Tryz.sizeProgram) rfl ?_
          obtain⟨e1,e2⟩:=U HO
          refine⟨Or.inl ⟨by rw[e1];decide,?_⟩,?_⟩
          · rw[e1,e2]
            rfl
          · have hb:=(U HBA).trans (below_less (U HBB) (by have:=U HSZ;omega))
            exact below_drew (((hb.setCell (Nat.le_refl _) _).setCell (Nat.le_refl _) _).setCell (Nat.le_refl _) _)
      · obtain⟨hend,hst,hop⟩:=comp_done (U HREL) hne ho
        have HEND:=V hend
        have HH:=V h1
        have hlens:=hi.lens
        unfold lens at hlens
        have h0':st.err=0:=h0
        have HE0:=V h0'
        obtain⟨fw,fo,hF⟩:=h1.f
        have e0:hereX x st=x.m:=by unfold hereX;rw[if_neg (by omega)]
        have eh:hereS st=st.c1.length:=by unfold hereS;rw[if_neg (by omega)]
        have ep:putS st 5 0={ st with c1:=st.c1++[(5,0)] }:=by unfold putS;rw[if_neg (by omega)]
        have HADD:=V (addW W0.heap.size x st wr fw fo hF 5 0 (by rw[eh];omega))
        rw[e0]at HADD
        obtain⟨s0,vd,vm,ao,co,hr⟩:=h1.bare hst hop
        have hc:=hr.blk.cell
        unfold crArr at hc
        have hxl:=hr.blk.lt
        have hxa:x.b<wr.heap.size+1:=by omega
        have hxb:x.b≤wr.heap.size:=by omega
        have hxc:x.b≤wr.heap.size+1:=by omega
        have hxd:x.b<wr.heap.size+1+1:=by omega
        have hwl:=hrb.lt
        have HBB:=V hbw
        have HST:=V (And.intro hst hop)
        have HEP:=V ep
        clear h1 hi hm h0 h0' hn hss hl hbw hrb ho hF hr hend e0 eh ep hst hop
        go_wp2_with fail
        go_cut [] from 8 to 67 (fun wc=>CpE W0.heap.size wc x { st with c1:=st.c1++[(5,0)] }∧Below W0.heap.size wr wc)
        case first =>
          go_region_law (first
            | (refine step_call rfl 51 #[.const (.int .i64 5)] #[3] rfl Tryz.func51 Tryz.name51 Tryz.body51 #[.int .i64 5] (by first|(simp[Act.eval];done)|(simp[Act.eval,Act.put];done)|rfl) (plainI_any 5 _) ?_;rintro e w1 ⟨rfl,rfl⟩;refine⟨_,rfl,?_⟩)
            | (refine step_call rfl 50 #[.tmp 45,.tmp 47] #[96,33] rfl Tryz.func50 Tryz.name50 Tryz.body50 #[.pointer (some ⟨x.m,0,none⟩),.slice (some ⟨wr.heap.size+1,0,none⟩) 1 1] (by first|(simp[Act.eval];done)|(simp[Act.eval,Act.put];done)|rfl) (U HADD _ (wr.heap.size+1) (by (repeat (first|with_reducible refine below_drew ?_|with_reducible refine below_drawn ?_ _|with_reducible refine below_longer ?_ _|(with_reducible refine Below.alloc ?_ ?_ _;rotate_left;(first|omega|((repeat (first|rw[World.size_up]|rw[World.size_dr]|rw[World.size_drN]))<;>omega)))));(with_reducible exact Below.refl _ _)) (by (repeat (first|with_reducible refine Blk.drew ?_|with_reducible refine Blk.drewN ?_ _|(with_reducible refine blk_newAt _ _ ?_;(first|omega|((repeat (first|rw[World.size_up]|rw[World.size_dr]|rw[World.size_drN]))<;>omega)))|with_reducible refine Blk.alloc ?_ _));(first|done|with_reducible assumption))) ?_;rintro e w1 ⟨rfl,h2,h1⟩;refine⟨_,rfl,?_⟩;have H1:=V h1;clear h1 h2))
          all_goals
            go_wp2_with fail
            go_meet
            obtain⟨k1,_,k2,k3⟩:=U H1
            rw[U HEP]at k1
            exact⟨k1.e,k3⟩
        case rest =>
          obtain⟨h5,hb5⟩:=hcut
          have HPR:=V (cprogram_any W0.heap.size x st wc h5)
          have hrb5:Blk wc w.heap.size #[.slice none 0 0,.int .i64 0,.int .i64 0] 73:=(U HRW).below hb5 (by have:=U HSZ;omega)
          have HRB5:=V hrb5
          have HB5:=V ((U HBB).trans hb5)
          have hrl5:=hrb5.lt
          clear h5 hrb5 hb5 hc hxa hxb hxc hxd HADD
          generalize hfl:fullS st=fl at *
          have HFL:=V hfl
          clear hfl
          generalize hcl:st.c0.length=cl at *
          have HCL:=V hcl
          clear hcl
          generalize hce:st.cells=ce at *
          have HCE:=V hce
          clear hce
          go_wp2_with fail
          refine (U HPR).mono ?_
          rintro e w6 ⟨gj,capj,rfl,h7,h8⟩
          have hrb7:=(U HRB5).below h8 hrl5
          have hcr7:=hrb7.cell
          have hfr7:=hrb7.free
          have hrl7:=hrb7.lt
          have HRB7:=V hrb7
          have H7:=V (And.intro h7 h8)
          clear h7 h8 hrb7 HPR
          go_wp2_with fail
          refine bodyPost_ret (results_row_tmp2 (P:=Tryz.prog) rfl _ _ w.heap.size 73 _ (0,0) _ rfl (triple_set (U HRB7) rfl) Tryz.underlying73 rfl Tryz.sizeProgram) rfl ?_
          obtain⟨h7,h8⟩:=U H7
          have hsz:=U HSZ
          have hbW:=(U HBA).trans (below_less (U HB5) (by omega))
          have hb9:Below w.heap.size w w6:=hbW.trans (below_less h8 hbW.size)
          refine⟨Or.inr ⟨by rw[U HEND];exact U HE0,.slice (some ⟨gj,0,none⟩) fl.length capj,?_,?_⟩,?_⟩
          · rw[U HEND,U HCL,U HCE]
            rfl
          · rw[U HEND,U HFL]
            have:=ownsRow_base h7 hbW.size
            exact ownsRow_far (ownsRow_far (ownsRow_far this (fun e=>row_not_blk (U HRB7) h7 (by decide) e) _) (fun e=>row_not_blk (U HRB7) h7 (by decide) e) _) (fun e=>row_not_blk (U HRB7) h7 (by decide) e) _
          · exact ((hb9.setCell (Nat.le_refl _) _).setCell (Nat.le_refl _) _).setCell (Nat.le_refl _) _
def CodeR3 (w:World) (c:Nat) (l:List (Int×Int)) (en ce:Int):Prop :=
  ∃ g cap,Blk w c #[.slice (some ⟨g,0,none⟩) l.length cap,.int .i64 en,.int .i64 ce] 78∧w.ownsRow 0 65 2 (.slice (some ⟨g,0,none⟩) l.length cap) l.length (instrCells l)
theorem CodeR3.law {w w':World} {c:Nat} {l:List (Int×Int)} {en ce:Int} (h:CodeR3 w c l en ce) (hl:LawStill w w'):CodeR3 w' c l en ce:=by
  obtain⟨g,cap,h1,h2⟩:=h
  exact⟨g,cap,hl.blk h1,hl.row h2⟩
theorem clone3_any (g cap:Nat) (l:List (Int×Int)) (w:World) (ho:w.ownsRow 0 65 2 (.slice (some ⟨g,0,none⟩) l.length cap) l.length (instrCells l)) (hpos:0<l.length) (hl:l.length≤50000) :
    Calls Tryz.prog 37 #[.slice (some ⟨g,0,none⟩) l.length cap] w fun e w'=>∃ v,e=.returned v∧w'.ownsRow w.heap.size 65 2 v l.length (instrCells l)∧Below w.heap.size w w':=by
  obtain⟨iI,hiI,hzI0,hzI1,hzI2⟩:=info_parts Tryz.infoInstr
  have hgl:=(ownsRow_lt ho (k:=g) rfl).1
  have hE:(w.alloc (.cells #[] 65)).ownsRow w.heap.size 65 2 (.slice (some ⟨w.heap.size,0,none⟩) 0 0) 0 []:=⟨rfl,Or.inr ⟨w.heap.size,0,#[],rfl,Nat.le_refl _,Blk.new w _ _,Nat.le_refl _,by unfold maxLen;omega,rfl,rfl⟩⟩
  have HE:=V hE
  have HN:=V (own_news (ownsRow_alloc ho (.cells #[] 65)))
  have HL:Hid ((instrCells l).length=l.length * 2):=ho.1
  have qn:∀ W:World,(binOp .eql 33 (.slice (some ⟨g,0,none⟩) l.length cap) (.slice none 0 0)).run Tryz.prog W=.ok (.bool false) W:=fun W=>Lib.run_eql_slice_nil W _ _ _ _ _ _ _ Tryz.underlying33
  clear hE ho
  go_enter Tryz.func37,Tryz.ntmps37
  go_wp2_with (at_builtin;refine wpList_append_lies _ rfl (.tmp 5) (.tmp 6) 33 rfl w.heap.size 65 iI _ 2 16 Tryz.underlying33 hiI hzI0 hzI1 hzI2 rfl (by decide) (.slice (some ⟨w.heap.size,0,none⟩) 0 0) 0 [] (by simp[Act.eval]) (U HE) ⟨g,0,none⟩ l.length cap (instrCells l) (by simp[Act.eval]) (U HL) (U HN) (instr_oneCell l) hpos (by unfold maxLen;omega) (by omega) (by simp) _ rfl ?_;intro g2 cap2 w5 hown hgrow hat hlt1;have HOW:=V hown;have HG:=V hgrow;clear hown hgrow hat)
  go_ret
  have ho:=U HOW
  rw[Nat.zero_add,List.nil_append]at ho
  refine⟨_,rfl,ho,((Below.refl _ _).alloc (Nat.le_refl _) _).grown (U HG) (by simp) (fun k hk=>by simp[Value.ownBlock]at hk;omega)⟩
theorem isNone_no (c g n cap:Nat) (x y:Value) (w:World) (h:Blk w c #[.slice (some ⟨g,0,none⟩) n cap,x,y] 78) (hn:0<n) :
    Calls Tryz.prog 36 #[.pointer (some ⟨c,0,none⟩)] w fun e w'=>e=.returned (.bool false)∧w'=w:=by
  have hc:=h.cell
  have hl:=h.lt
  have hnB:((n:Int) == 0)=false:=by
    have:¬ (n:Int)=0:=by omega
    simpa using this
  clear h
  go_enter Tryz.func36,Tryz.ntmps36
  go_wp2_with fail
  go_ret
  exact⟨rfl,rfl⟩
theorem Tryz.name39 : (Tryz.f39.name == "runtime.NumGoroutine") = false := by kernel_rfl
theorem Tryz.body39:Tryz.f39.body.isNone=false:=by kernel_rfl
theorem Tryz.name40 : (Tryz.f40.name == "runtime.NumGoroutine") = false := by kernel_rfl
theorem Tryz.body40:Tryz.f40.body.isNone=false:=by kernel_rfl
def CodeOut (w:World) (l:List (Int×Int)) (p:Nat) (en ce ls la lc lo fuel:Int) (e:Ending) (w':World):Prop :=
  (¬ limsOk ls la lc lo→e=.returned (outV 6 (.slice none 0 0) (.slice none 0 0) ⟨#[]⟩ 0)∧Below w.heap.size w w') ∧
  (limsOk ls la lc lo→RunOut w (runM l fuel.toNat 0 (startM p ls la lc lo en ce)) e w')
theorem tableRun_all (tb g cap p : Nat) (l : List (Int × Int)) (en ce ls la lc lo fuel : Int) (w : World) (hT : TabAt w tb) (ht : Lib.TabIs Tryz.prog w "internal/strconv.uint64pow10" .u64 Lib.pow10Tab) (hg : ListAt w.heap.size w g l) (hok : CodeOk l) (hen : 0 ≤ en ∧ en < l.length) (hce : 0 ≤ ce ∧ ce ≤ 1000) (hfu : fuel ≤ 1000000000) :
    Calls Tryz.prog 40 #[.pointer (some ⟨tb,0,none⟩),.agg #[.slice (some ⟨g,0,none⟩) l.length cap,.int .i64 en,.int .i64 ce],.agg #[.int .i64 ls,.int .i64 la,.int .i64 lc,.int .i64 lo],.int .i64 fuel] w (CodeOut w l p en ce ls la lc lo fuel):=by
  by_cases h:limsOk ls la lc lo
  · exact (tableRun_any tb g cap p l en ce ls la lc lo fuel w hT (Lib.tabBelow_of_tabIs ht) hg hok hen hce h hfu).mono (fun e w' h2=>⟨fun hn=>absurd h hn,fun _=>h2⟩)
  · exact (tableRun_no tb g l.length cap en ce ls la lc lo fuel w h).mono (fun e w' h2=>⟨fun _=>h2,fun hy=>absurd hy h⟩)
structure CodeRes (w:World) (l:List (Int×Int)) (p:Nat) (en ce ls la lc lo fuel:Int) (er:Int) (vS vC:Value) (out:ByteArray) (st:Int) (w':World):Prop where
  no:¬ limsOk ls la lc lo→er=6∧vS=.slice none 0 0∧vC=.slice none 0 0∧out=⟨#[]⟩∧st=0
  yes:limsOk ls la lc lo→er=(runM l fuel.toNat 0 (startM p ls la lc lo en ce)).2.1∧out=(runM l fuel.toNat 0 (startM p ls la lc lo en ce)).1.out∧st=(runM l fuel.toNat 0 (startM p ls la lc lo en ce)).2.2
  ok:limsOk ls la lc lo→er=0→w'.ownsRow w.heap.size 2 1 vS (runM l fuel.toNat 0 (startM p ls la lc lo en ce)).1.stack.length (intCells (runM l fuel.toNat 0 (startM p ls la lc lo en ce)).1.stack)∧w'.ownsRow w.heap.size 2 1 vC (runM l fuel.toNat 0 (startM p ls la lc lo en ce)).1.cells.length (intCells (runM l fuel.toNat 0 (startM p ls la lc lo en ce)).1.cells)∧(runM l fuel.toNat 0 (startM p ls la lc lo en ce)).1.stack.length≤1000∧(runM l fuel.toNat 0 (startM p ls la lc lo en ce)).1.cells.length≤1000∧∀ j,vS.ownBlock=some j→vC.ownBlock≠some j
  bad:er≠0→vS=.slice none 0 0∧vC=.slice none 0 0
  below:Below w.heap.size w w'
theorem CodeOut.res {w:World} {l:List (Int×Int)} {p:Nat} {en ce ls la lc lo fuel:Int} {e:Ending} {w':World} (h:CodeOut w l p en ce ls la lc lo fuel e w') :
    ∃ er a1 n1 k1 a2 n2 k2 out st,e=.returned (.agg #[.int .i64 er,.slice a1 n1 k1,.slice a2 n2 k2,.string out,.int .i64 st])∧CodeRes w l p en ce ls la lc lo fuel er (.slice a1 n1 k1) (.slice a2 n2 k2) out st w':=by
  obtain⟨hno,hyes⟩:=h
  by_cases hl:limsOk ls la lc lo
  · obtain⟨vS,vC,rfl,h0,h1,hb⟩:=hyes hl
    by_cases he:(runM l fuel.toNat 0 (startM p ls la lc lo en ce)).2.1=0
    · obtain⟨o1,o2,o3,o4,o5⟩:=h0 he
      obtain⟨a1,k1,rfl⟩:=own_shape o1
      obtain⟨a2,k2,rfl⟩:=own_shape o2
      exact⟨_,_,_,_,_,_,_,_,_,rfl,⟨fun hn=>absurd hl hn,fun _=>⟨rfl,rfl,rfl⟩,fun _ _=>⟨o1,o2,o3,o4,o5⟩,fun hn=>absurd he hn,hb⟩⟩
    · obtain⟨rfl,rfl⟩:=h1 he
      exact⟨_,_,_,_,_,_,_,_,_,rfl,⟨fun hn=>absurd hl hn,fun _=>⟨rfl,rfl,rfl⟩,fun _ hz=>absurd hz he,fun _=>⟨rfl,rfl⟩,hb⟩⟩
  · obtain⟨rfl,hb⟩:=hno hl
    exact⟨_,_,_,_,_,_,_,_,_,rfl,⟨fun _=>⟨rfl,rfl,rfl,rfl,rfl⟩,fun hy=>absurd hy hl,fun hy=>absurd hy hl,fun _=>⟨rfl,rfl⟩,hb⟩⟩
structure CallOk (w:World) (c:Nat) (vl:Value) (en ce ls la lc lo:Int) (W:World):Prop where
  c:Blk W c #[vl,.int .i64 en,.int .i64 ce] 78
  l:Blk W w.heap.size #[.int .i64 ls,.int .i64 la,.int .i64 lc,.int .i64 lo] 39
  r:Blk W (w.heap.size+1) #[.int .i64 0,.slice none 0 0,.slice none 0 0,.string ⟨#[]⟩,.int .i64 0] 44
  below:Below w.heap.size w W
  size:w.heap.size+2≤W.heap.size
theorem CallOk.on {w:World} {c:Nat} {vl:Value} {en ce ls la lc lo:Int} {W W':World} (h:CallOk w c vl en ce ls la lc lo W) (hb:Below W.heap.size W W'):CallOk w c vl en ce ls la lc lo W' :=
  ⟨h.c.below hb h.c.lt,h.l.below hb h.l.lt,h.r.below hb h.r.lt,h.below.trans (hb.mono h.below.size),Nat.le_trans h.size hb.size⟩
def CallS (w:World) (c:Nat) (vl:Value) (en ce ls la lc lo:Int) (W:World):Prop :=
  W.cell? ⟨c,0,none⟩=some vl∧W.cell? ⟨c,1,none⟩=some (.int .i64 en)∧W.cell? ⟨c,2,none⟩=some (.int .i64 ce)∧W.cell? ⟨w.heap.size,0,none⟩=some (.int .i64 ls)∧W.cell? ⟨w.heap.size,1,none⟩=some (.int .i64 la)∧W.cell? ⟨w.heap.size,2,none⟩=some (.int .i64 lc)∧W.cell? ⟨w.heap.size,3,none⟩=some (.int .i64 lo)
theorem CallOk.s {w:World} {c:Nat} {vl:Value} {en ce ls la lc lo:Int} {W:World} (h:CallOk w c vl en ce ls la lc lo W):CallS w c vl en ce ls la lc lo W :=
  ⟨h.c.cell 0,h.c.cell 1,h.c.cell 2,h.l.cell 0,h.l.cell 1,h.l.cell 2,h.l.cell 3⟩
theorem CallOk.s5 {w:World} {c:Nat} {vl:Value} {en ce ls la lc lo:Int} {W:World} (h:CallOk w c vl en ce ls la lc lo W) (hc:c<w.heap.size) (y0 y1 y2 y3 y4:Value):CallS w c vl en ce ls la lc lo (((((W.setCell ⟨w.heap.size+1,0,none⟩ y0).setCell ⟨w.heap.size+1,1,none⟩ y1).setCell ⟨w.heap.size+1,2,none⟩ y2).setCell ⟨w.heap.size+1,3,none⟩ y3).setCell ⟨w.heap.size+1,4,none⟩ y4):=by
  have n1:c≠w.heap.size+1:=by omega
  have n2:w.heap.size≠w.heap.size+1:=by omega
  have h1:=((((h.c.far (a:=⟨w.heap.size+1,0,none⟩) n1 y0).far (a:=⟨w.heap.size+1,1,none⟩) n1 y1).far (a:=⟨w.heap.size+1,2,none⟩) n1 y2).far (a:=⟨w.heap.size+1,3,none⟩) n1 y3).far (a:=⟨w.heap.size+1,4,none⟩) n1 y4
  have h2:=((((h.l.far (a:=⟨w.heap.size+1,0,none⟩) n2 y0).far (a:=⟨w.heap.size+1,1,none⟩) n2 y1).far (a:=⟨w.heap.size+1,2,none⟩) n2 y2).far (a:=⟨w.heap.size+1,3,none⟩) n2 y3).far (a:=⟨w.heap.size+1,4,none⟩) n2 y4
  exact⟨h1.cell 0,h1.cell 1,h1.cell 2,h2.cell 0,h2.cell 1,h2.cell 2,h2.cell 3⟩
theorem ListAt.ofRow {w:World} {g cap:Nat} {l:List (Int×Int)} (h:w.ownsRow 0 65 2 (.slice (some ⟨g,0,none⟩) l.length cap) l.length (instrCells l)):ListAt w.heap.size w g l:=by
  refine⟨(ownsRow_lt h (k:=g) rfl).1,fun k x hx=>?_⟩
  have hk:k<l.length:=(List.getElem?_eq_some_iff.1 hx).1
  obtain⟨e1,e2⟩:=instrCells_at l k x hx
  have c1:=own_cell h (k * 2) (by omega)
  have c2:=own_cell h (k * 2+1) (by omega)
  rw[e1]at c1
  rw[e2]at c2
  exact⟨c1,c2⟩
theorem run3_any (w : World) (c p : Nat) (l : List (Int × Int)) (en ce ls la lc lo fuel : Int) (h : CodeR3 w c l en ce) (ht : Lib.TabIs Tryz.prog w "internal/strconv.uint64pow10" .u64 Lib.pow10Tab) (hok : CodeOk l) (hen : 0 ≤ en ∧ en < l.length) (hce : 0 ≤ ce ∧ ce ≤ 1000) (hfu : fuel ≤ 1000000000) :
    Calls Tryz.prog 23 #[.pointer (some ⟨c,0,none⟩),.agg #[.int .i64 ls,.int .i64 la,.int .i64 lc,.int .i64 lo],.int .i64 fuel] w fun e w'=>∃ er vS vC out st,e=.returned (outV er vS vC out st)∧CodeRes w l p en ce ls la lc lo fuel er vS vC out st w':=by
  obtain⟨g,cap,hb,ho⟩:=h
  have hpos:0<l.length:=by omega
  have hcw:=hb.lt
  have hbw:=below_box2 w (.cells #[.int .i64 ls,.int .i64 la,.int .i64 lc,.int .i64 lo] 39) (.cells #[.int .i64 0,.slice none 0 0,.slice none 0 0,.string ⟨#[]⟩,.int .i64 0] 44)
  have hcall:CallOk w c (.slice (some ⟨g,0,none⟩) l.length cap) en ce ls la lc lo ((w.alloc (.cells #[.int .i64 ls,.int .i64 la,.int .i64 lc,.int .i64 lo] 39)).alloc (.cells #[.int .i64 0,.slice none 0 0,.slice none 0 0,.string ⟨#[]⟩,.int .i64 0] 44)):=by
    refine⟨hb.below hbw hb.lt,?_,?_,hbw,by simp⟩
    · (repeat (first|with_reducible refine Blk.drew ?_|with_reducible refine Blk.drewN ?_ _|(with_reducible refine blk_newAt _ _ ?_;(first|omega|((repeat (first|rw[World.size_up]|rw[World.size_dr]|rw[World.size_drN]))<;>omega)))|with_reducible refine Blk.alloc ?_ _));(first|done|with_reducible assumption)
    · (repeat (first|with_reducible refine Blk.drew ?_|with_reducible refine Blk.drewN ?_ _|(with_reducible refine blk_newAt _ _ ?_;(first|omega|((repeat (first|rw[World.size_up]|rw[World.size_dr]|rw[World.size_drN]))<;>omega)))|with_reducible refine Blk.alloc ?_ _));(first|done|with_reducible assumption)
  have hla:=(ListAt.ofRow ho).to hbw
  have HLA:=V (And.intro hla.low hla.cell)
  have hti : ∀ W', Below w.heap.size w W' → Lib.TabIs Tryz.prog W' "internal/strconv.uint64pow10" .u64 Lib.pow10Tab := Lib.tabBelow_of_tabIs ht
  have HTI:=V hti
  have HOK:=V hok
  have HNO:=V (isNone_no c g l.length cap _ _ _ hcall.c hpos)
  have HCA:=V hcall
  have hlist:ListAt w.heap.size w g l:=ListAt.ofRow ho
  have HLI:=V hlist
  clear hb ho hla hti hok hcall hbw hlist ht
  generalize hvl:(Value.slice (some ⟨g,0,none⟩) l.length cap)=vl at *
  have HVL:=V hvl
  clear hvl
  go_enter Tryz.func23,Tryz.ntmps23
  go_wp2_with fail
  refine (U HNO).mono ?_
  rintro e W ⟨rfl,hw⟩
  rw[← hw]at HCA
  clear hw HNO
  have HCD:=V ((U HCA).on (below_drew (Below.refl _ _)))
  have HS0:=V (U HCD).s
  have HNT:=V (newTable_any W.drew)
  have HRUN:Hid (∀ tb wt,TabAt wt tb→CallOk w c vl en ce ls la lc lo wt→Calls Tryz.prog 40 #[.pointer (some ⟨tb,0,none⟩),.agg #[vl,.int .i64 en,.int .i64 ce],.agg #[.int .i64 ls,.int .i64 la,.int .i64 lc,.int .i64 lo],.int .i64 fuel] wt (CodeOut wt l p en ce ls la lc lo fuel)):=by
    intro tb wt h1 h2
    rw[← U HVL]
    have hlb:=(U HLI).to h2.below
    exact tableRun_all tb g cap p l en ce ls la lc lo fuel wt h1 (U HTI wt h2.below) ⟨Nat.lt_of_lt_of_le hlb.low h2.below.size,hlb.cell⟩ (U HOK) hen hce hfu
  have hcl:=(U HCA).c.lt
  have hcl0:c<W.heap.size:=hcl
  unfold CallS at HS0
  go_wp2_with fail
  go_cut [] from 7 to 17 (fun wc=>∃ er a1 n1 k1 a2 n2 k2 out st wt wu,CallOk w c vl en ce ls la lc lo wt∧CodeRes wt l p en ce ls la lc lo fuel er (.slice a1 n1 k1) (.slice a2 n2 k2) out st wu∧wc=((((wu.setCell ⟨w.heap.size+1,0,none⟩ (.int .i64 er)).setCell ⟨w.heap.size+1,1,none⟩ (.slice a1 n1 k1)).setCell ⟨w.heap.size+1,2,none⟩ (.slice a2 n2 k2)).setCell ⟨w.heap.size+1,3,none⟩ (.string out)).setCell ⟨w.heap.size+1,4,none⟩ (.int .i64 st))
  case first =>
    go_region_held_law (fun w'=>w'.cell? ⟨c,0,none⟩=some vl∧w'.cell? ⟨c,1,none⟩=some (.int .i64 en)∧w'.cell? ⟨c,2,none⟩=some (.int .i64 ce)∧w'.cell? ⟨w.heap.size,0,none⟩=some (.int .i64 ls)∧w'.cell? ⟨w.heap.size,1,none⟩=some (.int .i64 la)∧w'.cell? ⟨w.heap.size,2,none⟩=some (.int .i64 lc)∧w'.cell? ⟨w.heap.size,3,none⟩=some (.int .i64 lo)) (first|with_reducible exact U HS5|with_reducible exact U HS6 _ _ _ _ _|with_reducible exact U HS4|with_reducible exact U HS0) (first
      | (refine step_call rfl 39 #[] #[] rfl Tryz.func39 Tryz.name39 Tryz.body39 #[] (by first|rfl|(simp;done)) (by exact U HNT) ?_;rintro e wt ⟨tb,rfl,hta,hbt⟩;have hct:=(U HCD).on hbt;have HS4:=V hct.s;unfold CallS at HS4;have HR4:=V (U HRUN tb wt hta hct);have HC4:=V hct;clear hta hbt hct;refine⟨_,rfl,?_⟩)
      | (refine step_call rfl 40 #[.tmp 10,.tmp 14,.tmp 15,.tmp 16] #[82,73,39,3] rfl Tryz.func40 Tryz.name40 Tryz.body40 #[.pointer (some ⟨tb,0,none⟩),.agg #[vl,.int .i64 en,.int .i64 ce],.agg #[.int .i64 ls,.int .i64 la,.int .i64 lc,.int .i64 lo],.int .i64 fuel] (by first|rfl|(simp[Act.eval];done)|(simp[Act.eval,Act.put];done)) (by exact U HR4) ?_;rintro e wu hout;obtain⟨er,a1,n1,k1,a2,n2,k2,out,st,rfl,hres⟩:=hout.res;have hcu:=(U HC4).on hres.below;have HS5:=V hcu.s;unfold CallS at HS5;have HS6:=V (hcu.s5 hcw);unfold CallS at HS6;have hcr:=hcu.r.cell;have hfr:=hcu.r.free;have hrl:=hcu.r.lt;have HRES:=V hres;clear hres hout hcu;refine⟨_,rfl,?_⟩))
    all_goals
      go_wp2_with fail
      go_meet
      exact⟨er,a1,n1,k1,a2,n2,k2,out,st,wt,wu,U HC4,U HRES,rfl⟩
  case rest =>
    obtain⟨er,a1,n1,k1,a2,n2,k2,out,st,wt,wu,hct,hres,rfl⟩:=hcut
    have hcu:=hct.on hres.below
    have HCU:=V hcu
    have HCT:=V hct
    have HRES:=V hres
    clear hcu hct hres HS0 HNT HRUN
    go_wp2_with fail
    refine bodyPost_ret (results_cell_row (P:=Tryz.prog) rfl _ _ (w.heap.size+1) 44 _ (0,0) _ rfl (out_set (U HCU).r rfl) Tryz.underlying44 rfl Tryz.sizeOutcome) rfl ?_
    have hres:=U HRES
    have hct:=U HCT
    have hsz:=hct.size
    have hn:∀ {v:Value} {n:Nat} {xs:List Value},wu.ownsRow wt.heap.size 2 1 v n xs→v.ownBlock≠some (w.heap.size+1):=fun ho e=>by have:=(ownsRow_lt ho e).2;omega
    refine⟨er,_,_,out,st,rfl,⟨hres.no,hres.yes,fun h1 h2=>?_,hres.bad,?_⟩⟩
    · obtain⟨o1,o2,o3⟩:=hres.ok h1 h2
      exact⟨ownsRow_base (ownsRow_far (ownsRow_far (ownsRow_far (ownsRow_far (ownsRow_far o1 (hn o1) _) (hn o1) _) (hn o1) _) (hn o1) _) (hn o1) _) (by omega),ownsRow_base (ownsRow_far (ownsRow_far (ownsRow_far (ownsRow_far (ownsRow_far o2 (hn o2) _) (hn o2) _) (hn o2) _) (hn o2) _) (hn o2) _) (by omega),o3⟩
    · have hb:Below w.heap.size w wu:=hct.below.trans (hres.below.mono (by omega))
      exact ((((hb.setCell (by simp) _).setCell (by simp) _).setCell (by simp) _).setCell (by simp) _).setCell (by simp) _
end Go.Proofs.YtmeiikjpaepogaaGreatDoor
