/- The script as it came in: its cells. -/
import Derived.Test.YtmeiikjpaepogaaGreatDoorE07
import Derived.Deep.CutRange
import Derived.ProofKit
import Derived.OpenShut
import Derived.Deep.Slices
import Derived.Deep.DeepHandedRow
import Derived.Test.YtmeiikjpaepogaaGreatDoorE13
import Derived.MakeChecks
import Derived.Deep.Strs
import Derived.LaidMore
import Derived.Stop.Joined
set_option maxRecDepth 100000
set_option maxHeartbeats 4000000
namespace Go.Proofs.YtmeiikjpaepogaaGreatDoor
open Go Go.RowKit Go.ChangeShapes Go.WideShapes Go.ChangeAt Go.Deep
theorem Tryz.cells3:Tryz.prog.cellsOf 3=1:=by kernel_rfl
theorem Tryz.cells9:Tryz.prog.cellsOf 9=1:=by kernel_rfl
section
variable {H:Type} {enc:TypeId×Value→H} {w:World} {base:Nat} {spare:Nat→Bool} {held:Bool}
end
section
variable {H:Type} {enc:TypeId×Value→H} {P:Program} {w:World} {base:Nat} {spare:Nat→Bool}
theorem trod_iface {t:TypeId} {ms:Array (String×TypeId)} {fuel:Nat} {cs:List Value} {nm:String} {d:DataW H} {p:List MemPlace} (ht:P.underlying t=some (.interface ms)) (h:DataW.trod enc P w base spare false fuel t cs=some (.iface nm d,p)):∃ u v,cs=[.iface u v]:=by
  cases fuel with
  | zero=>simp[DataW.trod]at h
  | succ n =>
    unfold DataW.trod at h
    rw[ht]at h
    split at h<;>simp_all
end
def vocRow (x:ByteArray×Int×Int):DataW Unit:=.agg [.lit (.string x.1.data.toList),.lit (.int .i64 x.2.1),.lit (.int .i64 x.2.2)]
theorem voc_datum:Rows.laid_fathom_compiler_vocabulary (H:=Unit)=.agg (vocab.map vocRow):=by kernel_rfl
theorem Tryz.cells146:Tryz.prog.cellsOf 146=3:=by kernel_rfl
theorem Tryz.cells144:Tryz.prog.cellsOf 144=1:=by kernel_rfl
theorem Tryz.cells194:Tryz.prog.cellsOf 194=117:=by kernel_rfl
theorem list3 {cs:List Value} (h:cs.length=3):∃ a b c,cs=[a,b,c]:=by
  match cs,h with
  | [a,b,c],_=>exact⟨a,b,c,rfl⟩
theorem voc_row {w:World} {base:Nat} {spare:Nat→Bool} {held:Bool} {fuel:Nat} {cs:List Value} {x:ByteArray×Int×Int} {p:List MemPlace} (h:DataW.trod (fun _=>()) Tryz.prog w base spare held fuel 146 cs=some (vocRow x,p)) :
    cs=[.string x.1,.int .i64 x.2.1,.int .i64 x.2.2]:=by
  obtain⟨y0,y1,y2,n,hx,hl,f0,f1,f2⟩:=trod_struct3 Tryz.underlying146 h
  rw[Tryz.cells146]at hl
  obtain⟨a,b,c,rfl⟩:=list3 hl
  simp only[Tryz.cells9,List.drop_zero,List.take_succ_cons,List.take_zero]at f0
  simp only[Tryz.cells144,List.drop_succ_cons,List.drop_zero,List.take_succ_cons,List.take_zero]at f1
  simp only[Tryz.cells3,List.drop_succ_cons,List.drop_zero,List.take_succ_cons,List.take_zero]at f2
  obtain⟨s,g0,e0,_⟩:=DataW.trod_string Tryz.underlying9 f0
  obtain⟨i,g1,e1,_⟩:=DataW.trod_int Tryz.underlying144 f1
  obtain⟨j,g2,e2,_⟩:=DataW.trod_int Tryz.underlying3 f2
  subst e0 e1 e2
  unfold vocRow at hx
  simp only[Prod.mk.injEq,DataW.agg.injEq,List.cons.injEq,DataW.lit.injEq,Lit.string.injEq,Lit.int.injEq,and_true,true_and]at hx
  simp only[List.cons.injEq,and_true]at g0 g1 g2
  obtain⟨⟨k0,k1,k2⟩,_⟩:=hx
  subst g0 g1 g2
  rw[k1,k2,bytes_ext k0]
theorem voc_cells {w:World} {base:Nat} {spare:Nat→Bool} {held:Bool} {fuel:Nat} {cs:List Value} {p:List MemPlace} (h:DataW.trod (fun _=>()) Tryz.prog w base spare held fuel 194 cs=some (.agg (vocab.map vocRow),p)) :
    cs=nameCells vocab:=by
  obtain⟨xs,m,_,hx,hl,hn,hel⟩:=DataW.trod_array Tryz.underlying194 h
  rw[Tryz.cells194]at hl
  simp only[Prod.mk.injEq,DataW.agg.injEq]at hx
  have hrow:∀ i,i<39→(cs.drop (i * 3)).take 3=((nameCells vocab).drop (i * 3)).take 3:=by
    intro i hi
    have h1:=hel i hi
    rw[Tryz.cells146,List.getElem?_eq_getElem (by omega)]at h1
    obtain⟨y,hy⟩:∃ y,vocab[i]? = some y:=⟨_,List.getElem?_eq_getElem (by rw[vocab_length];exact hi)⟩
    have h2:(xs[i]'(by omega)).1=vocRow y:=by
      have e1:(xs.map (·.1))[i]? = some (xs[i]'(by omega)).1:=by rw[List.getElem?_map,List.getElem?_eq_getElem (by omega)];rfl
      have e2:(vocab.map vocRow)[i]? = some (vocRow y):=by rw[List.getElem?_map,hy];rfl
      rw[← hx.1,e2]at e1
      exact (Option.some.inj e1).symm
    have h3:DataW.trod (fun _=>()) Tryz.prog w base spare held m 146 ((cs.drop (i * 3)).take 3)=some (vocRow y,(xs[i]'(by omega)).2):=by rw[h1,← h2]
    rw[voc_row h3]
    obtain⟨a1,a2,a3⟩:=nameCells_at vocab i y hy
    apply List.ext_getElem?
    intro j
    match j with
    | 0=>rw[List.getElem?_take,List.getElem?_drop];simpa using a1.symm
    | 1=>rw[List.getElem?_take,List.getElem?_drop];simpa using a2.symm
    | 2=>rw[List.getElem?_take,List.getElem?_drop];simpa using a3.symm
    | j+3=>rw[List.getElem?_take,if_neg (by omega)];rfl
  apply List.ext_getElem?
  intro j
  by_cases hj:j<117
  · have h1:=hrow (j / 3) (by omega)
    have h2:=congrArg (fun l=>l[j % 3]?) h1
    simp only[List.getElem?_take,List.getElem?_drop]at h2
    rw[if_pos (Nat.mod_lt _ (by decide)),if_pos (Nat.mod_lt _ (by decide))]at h2
    have e:j / 3 * 3+j % 3=j:=by omega
    rw[e]at h2
    exact h2
  · rw[List.getElem?_eq_none (by omega),List.getElem?_eq_none (by rw[nameCells_length,vocab_length];omega)]
theorem var_block {P:Program} {w:World} {n:String} {g:Nat} {cs:Array Value} (hg:P.globalNamed n=some g) (h:w.var? P n=some cs):∃ T fr,w.heap[g]? = some (.cells cs T fr):=by
  unfold World.var? at h
  rw[hg]at h
  simp only[Option.bind_some]at h
  split at h
  · rename_i c T fr hh
    obtain rfl:=Option.some.inj h
    exact⟨_,_,hh⟩
  · cases h
theorem Tryz.gVoc:(Rows.compilesRow.laid[5]?).bind (fun x=>Tryz.prog.globalNamed x.1)=some 0:=by kernel_rfl
theorem Tryz.gSyn:(Rows.compilesRow.laid[4]?).bind (fun x=>Tryz.prog.globalNamed x.1)=some 1:=by kernel_rfl
theorem Tryz.gRan:(Rows.compilesRow.laid[3]?).bind (fun x=>Tryz.prog.globalNamed x.1)=some 2:=by kernel_rfl
theorem Tryz.gB64:(Rows.compilesRow.laid[1]?).bind (fun x=>Tryz.prog.globalNamed x.1)=some 5:=by kernel_rfl
theorem Tryz.tVoc:(Tryz.prog.globals[0]?).map (·.type)=some 194:=by kernel_rfl
theorem Tryz.tSyn:(Tryz.prog.globals[1]?).map (·.type)=some 197:=by kernel_rfl
theorem Tryz.tRan:(Tryz.prog.globals[2]?).map (·.type)=some 197:=by kernel_rfl
theorem env_of_laid {W:World} (h:laidMetH Tryz.prog Rows.compilesRow.laid W):VocOk W∧ErrsOk W:=by
  rw[MakeChecks.laidMetH_plain _ _ _ (by kernel_rfl)]at h
  obtain⟨ps,⟨_,_,_,_,_,_,_,_,_,_,⟨g1,_,c1,_,_,_,hg1,_,hv1,_,⟨_,_,_,_,_,_,_,_,_,_,⟨g3,t3,c3,f3,p3,q3,hg3,ht3,hv3,hd3,⟨g4,t4,c4,f4,p4,q4,hg4,ht4,hv4,hd4,⟨g5,t5,c5,f5,p5,q5,hg5,ht5,hv5,hd5,_,_⟩,_⟩,_⟩,_⟩,_⟩,_⟩,_,_⟩:=h
  obtain rfl:=Option.some.inj (hg1.symm.trans Tryz.gB64)
  have h6:6≤W.heap.size:=by
    obtain⟨_,_,hb⟩:=var_block hg1 hv1
    exact lt_of_block hb
  obtain rfl:=Option.some.inj (hg3.symm.trans Tryz.gRan)
  obtain rfl:=Option.some.inj (hg4.symm.trans Tryz.gSyn)
  obtain rfl:=Option.some.inj (hg5.symm.trans Tryz.gVoc)
  obtain rfl:=Option.some.inj (ht3.symm.trans Tryz.tRan)
  obtain rfl:=Option.some.inj (ht4.symm.trans Tryz.tSyn)
  obtain rfl:=Option.some.inj (ht5.symm.trans Tryz.tVoc)
  have hd5':=hd5
  rw[voc_datum]at hd5'
  have e5:=voc_cells hd5'
  have e5':c5=vocA:=by
    unfold vocA
    rw[← e5]
  subst e5'
  obtain⟨u3,v3,e3⟩:=trod_iface Tryz.underlying197 hd3
  obtain⟨u4,v4,e4⟩:=trod_iface Tryz.underlying197 hd4
  have e3':c3=#[.iface u3 v3]:=by rw[← e3]
  have e4':c4=#[.iface u4 v4]:=by rw[← e4]
  subst e3' e4'
  refine⟨⟨var_block hg5 hv5,h6⟩,⟨u4,v4,?_⟩,⟨u3,v3,?_⟩,h6⟩
  · simpa using World.var?_cell hg4 hv4 0
  · simpa using World.var?_cell hg3 hv3 0
end Go.Proofs.YtmeiikjpaepogaaGreatDoor
namespace Go.Proofs.YtmeiikjpaepogaaGreatDoor
open Go Go.RowKit
theorem fol_op (B:Nat) (x:CX) (st:RS) (w:World) (h:CpE B w x st) (t:ByteArray) (o:Int) (hlen:hereS st<4000) (h0:st.err=0) :
    Calls Tryz.prog 75 #[.pointer (some ⟨x.b,0,none⟩),.agg #[.string t,.int .i64 0,.int .i64 o]] w (Took B w x (putS st o 0)):=by
  have hb0:Below w.heap.size w (w.alloc (.cells #[.string t,.int .i64 0,.int .i64 o] 146)):=by (repeat (first|with_reducible refine below_drew ?_|with_reducible refine below_drawn ?_ _|with_reducible refine below_longer ?_ _|(with_reducible refine Below.alloc ?_ ?_ _;rotate_left;(first|omega|((repeat (first|rw[World.size_up]|rw[World.size_dr]|rw[World.size_drN]))<;>omega)))));(with_reducible exact Below.refl _ _)
  have hmb:Blk (w.alloc (.cells #[.string t,.int .i64 0,.int .i64 o] 146)) w.heap.size #[.string t,.int .i64 0,.int .i64 o] 146:=Blk.new _ _ _
  have hB:=h.size
  obtain⟨fw,fo,hF⟩:=(h.below hb0).f
  obtain⟨s0,vo,hblk⟩:=hF.blk
  have hc:=hblk.cell
  unfold cpArr at hc
  have hmc:=hmb.cell
  have hml:=hmb.lt
  have hxl:=hblk.lt
  have HADD:=V (addW B x st _ fw fo hF o 0 hlen)
  have HB0:=V hb0
  have HP0:=V (show (putS st o 0).err=0 by unfold putS;split<;>exact h0)
  clear h hb0 hmb hblk hF h0
  generalize hereX x st=hx at *
  go_enter Tryz.func75,Tryz.ntmps75
  go_wp2_with fail
  generalize w.alloc (.cells #[.string t,.int .i64 0,.int .i64 o] 146)=W0 at *
  have hxa:x.b<W0.heap.size+1:=by omega
  have hxb:x.b≤W0.heap.size:=by omega
  have hxc:x.b≤W0.heap.size+1:=by omega
  have hxd:x.b<W0.heap.size+1+1:=by omega
  have hma:w.heap.size<W0.heap.size+1:=by omega
  have hmb:w.heap.size≤W0.heap.size:=by omega
  have hmc1:w.heap.size≤W0.heap.size+1:=by omega
  have hmd:w.heap.size<W0.heap.size+1+1:=by omega
  go_region_law (first
      | (refine step_call rfl 51 #[.tmp 18] #[3] rfl Tryz.func51 Tryz.name51 Tryz.body51 #[.int .i64 o] (by first|(simp[Act.eval];done)|(simp[Act.eval,Act.put];done)|rfl) (plainI_any o _) ?_;rintro e w1 ⟨rfl,rfl⟩;refine⟨_,rfl,?_⟩)
      | (refine step_call rfl 50 #[.tmp 16,.tmp 20] #[96,33] rfl Tryz.func50 Tryz.name50 Tryz.body50 #[.pointer (some ⟨hx,0,none⟩),.slice (some ⟨W0.heap.size+1,0,none⟩) 1 1] (by first|(simp[Act.eval];done)|(simp[Act.eval,Act.put];done)|rfl) (U HADD _ (W0.heap.size+1) (by (repeat (first|with_reducible refine below_drew ?_|with_reducible refine below_drawn ?_ _|with_reducible refine below_longer ?_ _|(with_reducible refine Below.alloc ?_ ?_ _;rotate_left;(first|omega|((repeat (first|rw[World.size_up]|rw[World.size_dr]|rw[World.size_drN]))<;>omega)))));(with_reducible exact Below.refl _ _)) (by (repeat (first|with_reducible refine Blk.drew ?_|with_reducible refine Blk.drewN ?_ _|(with_reducible refine blk_newAt _ _ ?_;(first|omega|((repeat (first|rw[World.size_up]|rw[World.size_dr]|rw[World.size_drN]))<;>omega)))|with_reducible refine Blk.alloc ?_ _));(first|done|with_reducible assumption))) ?_;rintro e w1 ⟨rfl,h2,h1⟩;refine⟨_,rfl,?_⟩;have H1:=V h1;clear h1 h2))
  all_goals
    go_wp2_with fail
    go_ret
    obtain⟨k1,_,k2,k3⟩:=U H1
    exact Took.ok (U HP0) k1.e ((below_less (U HB0) hB).trans k3)
theorem fol_recur (B:Nat) (x:CX) (w:World) (hB:B≤w.heap.size) (t:ByteArray) (o:Int) (r:RS)
    (hcall:∀ W:World,Below w.heap.size w W→Calls Tryz.prog 142 #[.pointer (some ⟨x.b,0,none⟩)] W (Took B W x r)) :
    Calls Tryz.prog 75 #[.pointer (some ⟨x.b,0,none⟩),.agg #[.string t,.int .i64 4,.int .i64 o]] w (Took B w x r):=by
  have hb0:Below w.heap.size w (w.alloc (.cells #[.string t,.int .i64 4,.int .i64 o] 146)):=by (repeat (first|with_reducible refine below_drew ?_|with_reducible refine below_drawn ?_ _|with_reducible refine below_longer ?_ _|(with_reducible refine Below.alloc ?_ ?_ _;rotate_left;(first|omega|((repeat (first|rw[World.size_up]|rw[World.size_dr]|rw[World.size_drN]))<;>omega)))));(with_reducible exact Below.refl _ _)
  have HC:=V (hcall _ hb0)
  have HB:=V (below_less hb0 hB)
  clear hcall hb0
  go_enter Tryz.func75,Tryz.ntmps75
  go_wp2_with fail
  refine (U HC).mono ?_
  rintro e w1 ⟨rfl,h1,h2,h3⟩
  have H1:=V (And.intro h1 (And.intro h2 h3))
  clear h1 h2 h3 HC
  go_wp2_with fail
  go_ret
  exact⟨rfl,(U H1).1,(U H1).2.1,(U HB).trans (U H1).2.2⟩
theorem fol_recurse (B:Nat) (x:CX) (st:RS) (w:World) (h:CpE B w x st) (t:ByteArray) (o:Int) (hlen:hereS st<4000) (h0:st.err=0) :
    Calls Tryz.prog 75 #[.pointer (some ⟨x.b,0,none⟩),.agg #[.string t,.int .i64 4,.int .i64 o]] w (Took B w x (if 0≤st.start then putS st 3 st.start else failS st 2)):=by
  refine fol_recur B x w h.size t o _ (fun W hW=>?_)
  have h1:=h.below hW
  by_cases hs:0≤st.start
  · rw[if_pos hs]
    refine (recur_yes B x st _ h1 hs hlen).mono ?_
    rintro e w' ⟨rfl,k1,_,k3⟩
    exact Took.ok (by unfold putS;split<;>exact h0) k1 k3
  · rw[if_neg hs]
    refine (recur_no B x st _ h1 (by omega)).mono ?_
    rintro e w' ⟨rfl,k0,k3⟩
    exact Took.fail h0 (by decide) k0.atIs k3
theorem fol_if (B:Nat) (x:CX) (st:RS) (w:World) (h:CpE B w x st) (t:ByteArray) (o:Int) (hlen:hereS st<4000) (hop:st.opens.length<3980) (h0:st.err=0) :
    Calls Tryz.prog 75 #[.pointer (some ⟨x.b,0,none⟩),.agg #[.string t,.int .i64 5,.int .i64 o]] w (Took B w x (openS (putS st 2 0) (⟨#[105,102]⟩,0,hereS st))):=by
  have hb0:Below w.heap.size w (w.alloc (.cells #[.string t,.int .i64 5,.int .i64 o] 146)):=by (repeat (first|with_reducible refine below_drew ?_|with_reducible refine below_drawn ?_ _|with_reducible refine below_longer ?_ _|(with_reducible refine Below.alloc ?_ ?_ _;rotate_left;(first|omega|((repeat (first|rw[World.size_up]|rw[World.size_dr]|rw[World.size_drN]))<;>omega)))));(with_reducible exact Below.refl _ _)
  have HC:=V (openIf_any B x st _ (h.below hb0) hlen hop)
  have HB:=V (below_less hb0 h.size)
  have HP0:=V (show (openS (putS st 2 0) (⟨#[105,102]⟩,0,hereS st)).err=0 by unfold openS putS;split<;>exact h0)
  clear h hb0 h0
  go_enter Tryz.func75,Tryz.ntmps75
  go_wp2_with fail
  refine (U HC).mono ?_
  rintro e w1 ⟨rfl,h1,_,h2⟩
  have H1:=V (And.intro h1 h2)
  clear h1 h2 HC
  go_wp2_with fail
  go_ret
  exact Took.ok (U HP0) (U H1).1 ((U HB).trans (U H1).2)
theorem fol_begin (B:Nat) (x:CX) (st:RS) (w:World) (h:CpE B w x st) (t:ByteArray) (o:Int) (hop:st.opens.length<3980) (h0:st.err=0) :
    Calls Tryz.prog 75 #[.pointer (some ⟨x.b,0,none⟩),.agg #[.string t,.int .i64 6,.int .i64 o]] w (Took B w x (openS st (⟨#[98,101,103,105,110]⟩,hereS st,0))):=by
  have hb0:Below w.heap.size w (w.alloc (.cells #[.string t,.int .i64 6,.int .i64 o] 146)):=by (repeat (first|with_reducible refine below_drew ?_|with_reducible refine below_drawn ?_ _|with_reducible refine below_longer ?_ _|(with_reducible refine Below.alloc ?_ ?_ _;rotate_left;(first|omega|((repeat (first|rw[World.size_up]|rw[World.size_dr]|rw[World.size_drN]))<;>omega)))));(with_reducible exact Below.refl _ _)
  have HC:=V (openBegin_any B x st _ (h.below hb0) hop)
  have HB:=V (below_less hb0 h.size)
  have HP0:=V (show (openS st (⟨#[98,101,103,105,110]⟩,hereS st,0)).err=0 from h0)
  clear h hb0 h0
  go_enter Tryz.func75,Tryz.ntmps75
  go_wp2_with fail
  refine (U HC).mono ?_
  rintro e w1 ⟨rfl,h1,_,h2⟩
  have H1:=V (And.intro h1 h2)
  clear h1 h2 HC
  go_wp2_with fail
  go_ret
  exact Took.ok (U HP0) (U H1).1 ((U HB).trans (U H1).2)
theorem fol_do (B:Nat) (x:CX) (st:RS) (w:World) (h:CpE B w x st) (t:ByteArray) (o:Int) (hlen:hereS st<4000) (hop:st.opens.length<3980) (h0:st.err=0) :
    Calls Tryz.prog 75 #[.pointer (some ⟨x.b,0,none⟩),.agg #[.string t,.int .i64 7,.int .i64 o]] w (Took B w x (openS (putS st 6 0) (⟨#[100,111]⟩,(hereS st:Int)+1,0))):=by
  have hb0:Below w.heap.size w (w.alloc (.cells #[.string t,.int .i64 7,.int .i64 o] 146)):=by (repeat (first|with_reducible refine below_drew ?_|with_reducible refine below_drawn ?_ _|with_reducible refine below_longer ?_ _|(with_reducible refine Below.alloc ?_ ?_ _;rotate_left;(first|omega|((repeat (first|rw[World.size_up]|rw[World.size_dr]|rw[World.size_drN]))<;>omega)))));(with_reducible exact Below.refl _ _)
  have HC:=V (openDo_any B x st _ (h.below hb0) hlen hop)
  have HB:=V (below_less hb0 h.size)
  have HP0:=V (show (openS (putS st 6 0) (⟨#[100,111]⟩,(hereS st:Int)+1,0)).err=0 by unfold openS putS;split<;>exact h0)
  clear h hb0 h0
  go_enter Tryz.func75,Tryz.ntmps75
  go_wp2_with fail
  refine (U HC).mono ?_
  rintro e w1 ⟨rfl,h1,_,h2⟩
  have H1:=V (And.intro h1 h2)
  clear h1 h2 HC
  go_wp2_with fail
  go_ret
  exact Took.ok (U HP0) (U H1).1 ((U HB).trans (U H1).2)
theorem fol_closes (B:Nat) (x:CX) (w:World) (hB:B≤w.heap.size) (t:ByteArray) (o:Int) (r:RS)
    (hcall:∀ W:World,Below w.heap.size w W→Calls Tryz.prog 146 #[.pointer (some ⟨x.b,0,none⟩),.string t] W (Took B W x r)) :
    Calls Tryz.prog 75 #[.pointer (some ⟨x.b,0,none⟩),.agg #[.string t,.int .i64 8,.int .i64 o]] w (Took B w x r):=by
  have hb0:Below w.heap.size w (w.alloc (.cells #[.string t,.int .i64 8,.int .i64 o] 146)):=by (repeat (first|with_reducible refine below_drew ?_|with_reducible refine below_drawn ?_ _|with_reducible refine below_longer ?_ _|(with_reducible refine Below.alloc ?_ ?_ _;rotate_left;(first|omega|((repeat (first|rw[World.size_up]|rw[World.size_dr]|rw[World.size_drN]))<;>omega)))));(with_reducible exact Below.refl _ _)
  have HC:=V (hcall _ hb0)
  have HB:=V (below_less hb0 hB)
  clear hcall hb0
  go_enter Tryz.func75,Tryz.ntmps75
  go_wp2_with fail
  refine (U HC).mono ?_
  rintro e w1 ⟨rfl,h1,h2,h3⟩
  have H1:=V (And.intro h1 (And.intro h2 h3))
  clear h1 h2 h3 HC
  go_wp2_with fail
  go_ret
  exact⟨rfl,(U H1).1,(U H1).2.1,(U HB).trans (U H1).2.2⟩
theorem fol_define (B:Nat) (x:CX) (w:World) (hB:B≤w.heap.size) (t:ByteArray) (k o:Int) (hk:k=1∨k=2∨k=3) (r:RS)
    (hcall:∀ W:World,Below w.heap.size w W→Calls Tryz.prog 147 #[.pointer (some ⟨x.b,0,none⟩),.int .i64 k] W (Took B W x r)) :
    Calls Tryz.prog 75 #[.pointer (some ⟨x.b,0,none⟩),.agg #[.string t,.int .i64 k,.int .i64 o]] w (Took B w x r):=by
  have hb0:Below w.heap.size w (w.alloc (.cells #[.string t,.int .i64 k,.int .i64 o] 146)):=by (repeat (first|with_reducible refine below_drew ?_|with_reducible refine below_drawn ?_ _|with_reducible refine below_longer ?_ _|(with_reducible refine Below.alloc ?_ ?_ _;rotate_left;(first|omega|((repeat (first|rw[World.size_up]|rw[World.size_dr]|rw[World.size_drN]))<;>omega)))));(with_reducible exact Below.refl _ _)
  have HC:=V (hcall _ hb0)
  have HB:=V (below_less hb0 hB)
  clear hcall hb0
  rcases hk with rfl|rfl|rfl
  all_goals
    go_enter Tryz.func75,Tryz.ntmps75
    go_wp2_with fail
    refine (U HC).mono ?_
    rintro e w1 ⟨rfl,h1,h2,h3⟩
    have H1:=V (And.intro h1 (And.intro h2 h3))
    clear h1 h2 h3 HC
    go_wp2_with fail
    go_ret
    exact⟨rfl,(U H1).1,(U H1).2.1,(U HB).trans (U H1).2.2⟩
theorem toL_iff (s:ByteArray) (l:List UInt8):(s.toList == l)=(s.data.toList == l):=by rw[ByteArray.toList_eq]
theorem bad_name {st:RS} (h0:st.err=0) (hb:¬ (newNameS st).err=0):badName (stepS st)=true∧newNameS st=failS (stepS st) 3:=by
  cases e:badName (stepS st)
  · unfold newNameS at hb
    rw[e]at hb
    exact absurd (show (stepS st).err=0 from h0) (by simpa using hb)
  · exact⟨rfl,by unfold newNameS;rw[e];rfl⟩
theorem cdefine_any (B:Nat) (x:CX) (st:RS) (w:World) (h:CpE B w x st) (m:Nat) (hi:Inv st m) (hm:m<3000) (h0:st.err=0) (hB:6≤B) (hV:VocOk w) (hE:ErrsOk w) (k:Int)
    (hk:k=1∧st.token.data.toList=[58]∨k=2∧st.token.data.toList=[118,97,114,105,97,98,108,101]∨k=3∧st.token.data.toList=[99,111,110,115,116,97,110,116]) :
    Calls Tryz.prog 147 #[.pointer (some ⟨x.b,0,none⟩),.int .i64 k] w (Took B w x (defineS st)):=by
  unfold defineS
  rw[toL_iff,toL_iff,toL_iff]
  have h59:(st.token.data.toList == [59])=false:=by rcases hk with ⟨_,e⟩|⟨_,e⟩|⟨_,e⟩<;>rw[e]<;>decide
  rw[h59]
  simp only[Bool.false_eq_true,if_false]
  by_cases hno:0≤st.start∨st.opens≠[]
  · rw[if_pos hno];exact cdef_nest B x st w h k hno h0
  · rw[if_neg hno]
    have hst:st.start<0:=by omega
    have hop:st.opens=[]:=by
      rcases Classical.em (st.opens=[]) with e|e
      · exact e
      · exact absurd (Or.inr e) hno
    by_cases hbad:(newNameS st).err=0
    · rw[if_neg (by simpa using hbad)]
      obtain⟨g1,g2,g3,g4,g5⟩:=good_name hi hbad
      rw[g2]
      rcases hk with ⟨rfl,e⟩|⟨rfl,e⟩|⟨rfl,e⟩
      · rw[e,if_pos (by decide)]
        exact cdef_colon B x st w h m hi hst hop h0 hB hV hE g1
      · rw[e,if_neg (by decide),if_pos (by decide)]
        exact cdef_variable B x st w h m hi hm hst hop h0 hB hV hE g1 g4
      · rw[e,if_neg (by decide),if_neg (by decide)]
        exact cdef_constant B x st w h m hi hm hst hop h0 hB hV hE g1 g4
    · rw[if_pos (by simpa using hbad)]
      obtain⟨g1,g2⟩:=bad_name h0 hbad
      rw[g2]
      exact cdef_bad B x st w h m hi k hst hop h0 hB hV hE g1
theorem CpE.kinds {B:Nat} {w:World} {x:CX} {st:RS} (h:CpE B w x st):∀ o∈st.opens,o.1=⟨#[105,102]⟩∨o.1=⟨#[101,108,115,101]⟩∨o.1=⟨#[98,101,103,105,110]⟩∨o.1=⟨#[119,104,105,108,101]⟩∨o.1=⟨#[100,111]⟩:=by
  obtain⟨_,_,_,_,fw,fo,h⟩:=h
  intro o ho
  obtain⟨i,hi⟩:=List.getElem?_of_mem ho
  have hl:=(List.getElem?_eq_some_iff.1 hi).1
  obtain⟨f,hf⟩:∃ f,fo[i]? = some f:=⟨_,List.getElem?_eq_getElem (by rw[h.things.len];exact hl)⟩
  obtain⟨cb,_,hc⟩:=h.things.each i f o hf hi
  rcases hc with ⟨e,_⟩|⟨e,_⟩|⟨e,_⟩|⟨e,_⟩|⟨e,_⟩
  · exact Or.inl e
  · exact Or.inr (Or.inl e)
  · exact Or.inr (Or.inr (Or.inl e))
  · exact Or.inr (Or.inr (Or.inr (Or.inl e)))
  · exact Or.inr (Or.inr (Or.inr (Or.inr e)))
theorem thing_close (st:RS) (l:List (ByteArray×Int×Int)) (o:ByteArray×Int×Int) (ho:o.1=⟨#[105,102]⟩∨o.1=⟨#[101,108,115,101]⟩∨o.1=⟨#[98,101,103,105,110]⟩∨o.1=⟨#[119,104,105,108,101]⟩∨o.1=⟨#[100,111]⟩) :
    closeS st l o=(thingR { st with opens:=l } o st.token).getD (failS st 4):=by
  obtain⟨t,a,n⟩:=o
  unfold closeS thingR closeIfR closeElseR closeBeginR closeWhileR closeDoR
  simp only[toL_iff]
  generalize st.token.data.toList=tk
  simp only at ho
  by_cases e1:tk=[101,108,115,101]
  · subst e1;rcases ho with rfl|rfl|rfl|rfl|rfl<;>rfl
  by_cases e2:tk=[116,104,101,110]
  · subst e2;rcases ho with rfl|rfl|rfl|rfl|rfl<;>rfl
  by_cases e3:tk=[117,110,116,105,108]
  · subst e3;rcases ho with rfl|rfl|rfl|rfl|rfl<;>rfl
  by_cases e4:tk=[119,104,105,108,101]
  · subst e4;rcases ho with rfl|rfl|rfl|rfl|rfl<;>rfl
  by_cases e5:tk=[114,101,112,101,97,116]
  · subst e5;rcases ho with rfl|rfl|rfl|rfl|rfl<;>rfl
  by_cases e6:tk=[108,111,111,112]
  · subst e6;rcases ho with rfl|rfl|rfl|rfl|rfl<;>rfl
  have n1:=beq_false_of_ne e1
  have n2:=beq_false_of_ne e2
  have n3:=beq_false_of_ne e3
  have n4:=beq_false_of_ne e4
  have n5:=beq_false_of_ne e5
  have n6:=beq_false_of_ne e6
  simp only[n1,n2,n3,n4,n5,n6,Bool.false_eq_true,false_and,if_false]
  split
  · rfl
  · split
    · rfl
    · split
      · rfl
      · split<;>rfl
theorem thing_err {st:RS} {o:ByteArray×Int×Int} {tok:ByteArray} {r:RS} (h:thingR st o tok=some r):r.err=st.err:=by
  have hp:∀ (u:RS) (a b:Int),(putS u a b).err=u.err:=fun u a b=>by unfold putS;split<;>rfl
  have ht:∀ (u:RS) (n:Nat),(tellS u n).err=u.err:=fun u n=>by unfold tellS;split<;>rfl
  unfold thingR closeIfR closeElseR closeBeginR closeWhileR closeDoR at h
  repeat' split at h
  all_goals first
    | (simp at h;done)
    | (obtain rfl:=Option.some.inj h;first|(rw[ht,hp];done)|(rw[ht];done)|(rw[hp];done)|(show (tellS _ _).err=_;rw[ht,hp];done)|(show (putS _ _ _).err=_;rw[hp];done))
theorem Done.took {B:Nat} {w:World} {x:CX} {st R:RS} {r:Option RS} (h0:st.err=0) (hr:R=r.getD (failS st 4)) (he:∀ s,r=some s→s.err=0) {e:Ending} {w':World} (h:Done B w x st.place0 r e w'):Took B w x R e w':=by
  obtain⟨h1,h2,h3,_,h5⟩:=h
  subst hr
  cases r with
  | none =>
    subst h1
    exact Took.fail h0 (by decide) (h3 rfl) h5
  | some s =>
    subst h1
    exact Took.ok (he s rfl) (h2 s rfl) h5
theorem ctrl_other {st:RS} (k1:isDefine st.token.toList=false) (k2:isControl st.token=true) (k3:(st.token.toList == [105,102])=false) (k4:(st.token.toList == [98,101,103,105,110])=false) (k5:(st.token.toList == [100,111])=false) :
    itemS st=match st.opens.getLast? with|none=>failS st 4|some x=>closeS st st.opens.dropLast x:=by
  unfold itemS controlS
  simp only[k1,k2,k3,k4,k5,Bool.false_eq_true,if_false,if_true]
  rfl
theorem semi_thing (st:RS) (o:ByteArray×Int×Int) (tok:ByteArray) (ht:tok.data.toList=[59]):thingR st o tok=none:=by
  unfold thingR closeIfR closeElseR closeBeginR closeWhileR closeDoR
  simp only[toL_iff,ht]
  split
  · rfl
  · split
    · rfl
    · split
      · rfl
      · split<;>rfl
theorem cclose_any (B:Nat) (x:CX) (st:RS) (w:World) (h:CpE B w x st) (m:Nat) (hi:Inv st m) (hm:m<3000) (hn:NmOk st) (h0:st.err=0)
    (hk:st.token.data.toList=[59]∨(isDefine st.token.toList=false∧isControl st.token=true∧(st.token.toList == [105,102])=false∧(st.token.toList == [98,101,103,105,110])=false∧(st.token.toList == [100,111])=false)) :
    Calls Tryz.prog 146 #[.pointer (some ⟨x.b,0,none⟩),.string st.token] w (Took B w x (itemS st)):=by
  have hl:=hi.lens
  unfold lens at hl
  have hlen:hereS st<4000:=by unfold hereS;split<;>omega
  rcases List.eq_nil_or_concat st.opens with hop|⟨l,o,hop⟩
  · -- nothing is open,but perhaps a word
    by_cases hs:0≤st.start
    · obtain⟨w1,w2,w3⟩:=hn.word hs
      refine (closeLast_word B x st w h hs hop st.token (by omega) (by omega) w2 w3).mono (fun e w' hd=>?_)
      refine hd.took h0 ?_ ?_
      · rcases hk with ht|⟨k1,k2,k3,k4,k5⟩
        · have e59:(st.token.toList == [59])=true:=by rw[toL_iff,ht];rfl
          have ed:isDefine st.token.toList=true:=by rw[ByteArray.toList_eq,ht];rfl
          unfold itemS defineS
          rw[ed,e59]
          simp only[if_true]
          rw[if_neg (by rintro (e|e);omega;exact e hop)]
          rfl
        · have e59:(st.token.toList == [59])=false:=by
            cases e:(st.token.toList == [59])
            · rfl
            · unfold isDefine at k1;rw[e]at k1;simp at k1
          rw[ctrl_other k1 k2 k3 k4 k5,e59,hop]
          rfl
      · intro s hs'
        split at hs'
        · obtain rfl:=Option.some.inj hs'
          unfold semiS putS
          split<;>exact h0
        · simp at hs'
    · refine (closeLast_empty B x st w h (by omega) hop st.token).mono (fun e w' hd=>?_)
      refine hd.took h0 ?_ (fun s e=>by simp at e)
      rcases hk with ht|⟨k1,k2,k3,k4,k5⟩
      · have e59:(st.token.toList == [59])=true:=by rw[toL_iff,ht];rfl
        have ed:isDefine st.token.toList=true:=by rw[ByteArray.toList_eq,ht];rfl
        unfold itemS defineS
        rw[ed,e59]
        simp only[if_true]
        rw[if_pos (Or.inl (by omega))]
        rfl
      · rw[ctrl_other k1 k2 k3 k4 k5,hop]
        rfl
  · rw[List.concat_eq_append]at hop
    have hin:o∈st.opens:=by rw[hop];simp
    refine (closeLast_thing B x st w h l o hop (hi.opens o hin) st.token hlen (by omega)).mono (fun e w' hd=>?_)
    refine hd.took h0 ?_ (fun s e=>by rw[thing_err e];exact h0)
    rcases hk with ht|⟨k1,k2,k3,k4,k5⟩
    · have e59:(st.token.toList == [59])=true:=by rw[toL_iff,ht];rfl
      have ed:isDefine st.token.toList=true:=by rw[ByteArray.toList_eq,ht];rfl
      rw[semi_thing _ _ _ ht]
      unfold itemS defineS
      rw[ed,e59]
      simp only[if_true]
      rw[if_pos (Or.inr (by rw[hop];simp))]
      rfl
    · rw[ctrl_other k1 k2 k3 k4 k5]
      have e1:st.opens.getLast? = some o:=by rw[hop];simp
      have e2:st.opens.dropLast=l:=by rw[hop];simp
      rw[e1,e2]
      exact thing_close st l o (h.kinds o hin)
theorem cfollow_any (B:Nat) (x:CX) (st:RS) (w:World) (h:CpE B w x st) (m:Nat) (hi:Inv st m) (hm:m<3000) (hn:NmOk st) (h0:st.err=0) (hB:6≤B) (hV:VocOk w) (hE:ErrsOk w) (y:ByteArray×Int×Int) (hy:meanS st.token=some y) :
    Calls Tryz.prog 75 #[.pointer (some ⟨x.b,0,none⟩),.agg #[.string y.1,.int .i64 y.2.1,.int .i64 y.2.2]] w (Took B w x (itemS st)):=by
  obtain⟨hl1,hl2⟩:=link hy
  have hlens:=hi.lens
  unfold lens at hlens
  have hlen:hereS st<4000:=by unfold hereS;split<;>omega
  have hBw:=h.size
  obtain⟨t,k,o⟩:=y
  simp only at hl1
  have etok:st.token.data.toList=t.data.toList:=by rw[hl1]
  have elist:st.token.toList=t.data.toList:=by rw[ByteArray.toList_eq,etok]
  unfold linkB at hl2
  simp only at hl2 ⊢
  by_cases k0:k=0
  · rw[item_op hy k0]
    subst k0
    exact fol_op B x st w h t o hlen h0
  rw[if_neg k0]at hl2
  have hdef:∀ {l:List UInt8},t.data.toList=l→isDefine l=true→itemS st=defineS st:=fun e1 e2=>by unfold itemS;rw[elist,e1,e2];rfl
  by_cases k1:k=1
  · rw[if_pos k1]at hl2
    have e1:t.data.toList=[58]:=by simpa using hl2
    rw[hdef e1 rfl]
    exact fol_define B x w hBw t k o (Or.inl k1) _ (fun W hW=>cdefine_any B x st W (h.below hW) m hi hm h0 hB (hV.below hW) (hE.below hW) k (Or.inl ⟨k1,by rw[etok,e1]⟩))
  rw[if_neg k1]at hl2
  by_cases k2:k=2
  · rw[if_pos k2]at hl2
    have e1:t.data.toList=[118,97,114,105,97,98,108,101]:=by simpa using hl2
    rw[hdef e1 rfl]
    exact fol_define B x w hBw t k o (Or.inr (Or.inl k2)) _ (fun W hW=>cdefine_any B x st W (h.below hW) m hi hm h0 hB (hV.below hW) (hE.below hW) k (Or.inr (Or.inl ⟨k2,by rw[etok,e1]⟩)))
  rw[if_neg k2]at hl2
  by_cases k3:k=3
  · rw[if_pos k3]at hl2
    have e1:t.data.toList=[99,111,110,115,116,97,110,116]:=by simpa using hl2
    rw[hdef e1 rfl]
    exact fol_define B x w hBw t k o (Or.inr (Or.inr k3)) _ (fun W hW=>cdefine_any B x st W (h.below hW) m hi hm h0 hB (hV.below hW) (hE.below hW) k (Or.inr (Or.inr ⟨k3,by rw[etok,e1]⟩)))
  rw[if_neg k3]at hl2
  by_cases k4:k=4
  · rw[item_rec hn hy k4]
    subst k4
    exact fol_recurse B x st w h t o hlen h0
  rw[if_neg k4]at hl2
  by_cases k5:k=5
  · rw[if_pos k5]at hl2
    have e1:t.data.toList=[105,102]:=by simpa using hl2
    have ei:itemS st=openS (putS st 2 0) (⟨#[105,102]⟩,0,hereS st):=by
      unfold itemS isControl controlS
      rw[structS_L,etok,elist,e1]
      rfl
    rw[ei]
    subst k5
    exact fol_if B x st w h t o hlen (by omega) h0
  rw[if_neg k5]at hl2
  by_cases k6:k=6
  · rw[if_pos k6]at hl2
    have e1:t.data.toList=[98,101,103,105,110]:=by simpa using hl2
    have ei:itemS st=openS st (⟨#[98,101,103,105,110]⟩,hereS st,0):=by
      unfold itemS isControl controlS
      rw[structS_L,etok,elist,e1]
      rfl
    rw[ei]
    subst k6
    exact fol_begin B x st w h t o (by omega) h0
  rw[if_neg k6]at hl2
  by_cases k7:k=7
  · rw[if_pos k7]at hl2
    have e1:t.data.toList=[100,111]:=by simpa using hl2
    have ei:itemS st=openS (putS st 6 0) (⟨#[100,111]⟩,(hereS st:Int)+1,0):=by
      unfold itemS isControl controlS
      rw[structS_L,etok,elist,e1]
      rfl
    rw[ei]
    subst k7
    exact fol_do B x st w h t o hlen (by omega) h0
  rw[if_neg k7]at hl2
  simp only[Bool.and_eq_true,beq_iff_eq,Bool.or_eq_true,Bool.not_eq_true']at hl2
  obtain⟨k8,hl2⟩:=hl2
  subst k8
  refine fol_closes B x w hBw t o _ (fun W hW=>?_)
  rw[← hl1]
  refine cclose_any B x st W (h.below hW) m hi hm hn h0 ?_
  rcases hl2 with e|⟨⟨⟨⟨⟨a,b⟩,c⟩,d⟩,e⟩,f⟩
  · exact Or.inl (by rw[etok,e])
  · refine Or.inr ⟨by rw[elist];exact c,?_,by rw[elist];exact d,by rw[elist];exact e,by rw[elist];exact f⟩
    unfold isControl
    rw[structS_L,etok,a,elist]
    unfold recL at b
    rw[b]
    rfl
end Go.Proofs.YtmeiikjpaepogaaGreatDoor
