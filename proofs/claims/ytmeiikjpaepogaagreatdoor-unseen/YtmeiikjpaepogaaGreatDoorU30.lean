/- The program's options: Fold: what rows take and give. -/
import Derived.Test.YtmeiikjpaepogaaGreatDoorU29
import Derived.Test.YtmeiikjpaepogaaGreatDoorU24
import Derived.Test.YtmeiikjpaepogaaGreatDoorU27
import Derived.Test.YtmeiikjpaepogaaGreatDoorU20
set_option maxRecDepth 100000
set_option maxHeartbeats 8000000
namespace Go.Proofs.YtmeiikjpaepogaaGreatDoor
open Go Go.RowKit
def OwnC (B:Nat) (w:World) (v:Value) (l:List (Int×Int)):Prop:=w.ownsRow B 107 2 v l.length (instrCells l)
theorem OwnC.below {B:Nat} {w w':World} {v:Value} {l:List (Int×Int)} (h:OwnC B w v l) (hb:Below w.heap.size w w'):OwnC B w' v l:=by
  unfold OwnC at h ⊢
  exact (LawStill.ofBelow hb).row h
theorem OwnC.pairs {B:Nat} {w:World} {ao:Option Addr} {n c:Nat} {l:List (Int×Int)} (h:OwnC B w (.slice ao n c) l):PairsAt w ao l:=by
  unfold OwnC at h
  obtain⟨a,k,hv⟩:=own_shape h
  simp only[Value.slice.injEq]at hv
  obtain⟨rfl,rfl,rfl⟩:=hv
  rcases h.2 with ⟨e1,e2⟩|⟨g,cap,cur,e,_⟩
  · have:l.length=0:=by
      simp only[Value.slice.injEq]at e1
      exact e1.2.1
    exact Or.inl (List.length_eq_zero_iff.1 this)
  · simp only[Value.slice.injEq]at e
    obtain⟨rfl,_,rfl⟩:=e
    refine Or.inr ⟨g,rfl,(ownsRow_lt h (k:=g) rfl).1,fun k x hx=>?_⟩
    have hk:k<l.length:=(List.getElem?_eq_some_iff.1 hx).1
    have c1:=own_cell h (k * 2) (by omega)
    have c2:=own_cell h (k * 2+1) (by omega)
    rw[(instrCells_at _ _ _ hx).1]at c1
    rw[(instrCells_at _ _ _ hx).2]at c2
    exact⟨c1,c2⟩
theorem Tryz.infoChange:(Tryz.prog.info? 107).map (fun i=>(i.zero,i.size,i.bytes))=some (some (.agg #[.int .i64 0,.int .i64 0]),2,16):=by kernel_rfl
def chRow (row:List (Int×Int)):List (Int×Int):=row.map (fun x=>changeS x.1)
theorem chRow_app (a b:List (Int×Int)):chRow (a++b)=chRow a++chRow b:=List.map_append ..
theorem chRow_next {row:List (Int×Int)} {k:Nat} {x:Int×Int} (h:row[k]? = some x):chRow (row.take (k+1))=chRow (row.take k)++[changeS x.1]:=by
  rw[List.take_add_one,h,chRow_app]
  rfl
theorem chRow_len (row:List (Int×Int)):(chRow row).length=row.length:=List.length_map ..
theorem changesOf_any (fb tb q cq:Nat) (rv:Value) (rs:List (Option Addr×Nat×List (Int×Int))) (w:World) (hf:FoldAt w fb tb rv) (hq:RowsAt w q rs) (hn:rs.length≤100) (hs:(catS rs).length≤1000) (hops:∀ x∈catS rs,0≤x.1∧x.1≤32) :
    Calls Tryz.prog 246 #[.pointer (some ⟨fb,0,none⟩),.slice (some ⟨q,0,none⟩) rs.length cq] w fun e w'=>∃ ao c,e=.returned (.slice ao (chRow (catS rs)).length c)∧OwnC w.heap.size w' (.slice ao (chRow (catS rs)).length c) (chRow (catS rs))∧Below w.heap.size w w':=by
  obtain⟨iI,hiI,hzI0,hzI1,hzI2⟩:=info_parts Tryz.infoChange
  have hnI:(rs.length:Int)≤100:=by omega
  have HF:=V hf
  have HQ:=V hq
  have HOPS:=V hops
  have hql:=hq.1
  clear hf hq hops
  go_enter Tryz.func246,Tryz.ntmps246
  go_wp2_with fail
  go_loopw [5,12] (fun lv i wr=>∃ (k:Nat) (ao:Option Addr) (c:Nat),i=.int .i64 k∧k≤rs.length∧lv=.slice ao (chRow (catS (rs.take k))).length c∧OwnC w.heap.size wr (.slice ao (chRow (catS (rs.take k))).length c) (chRow (catS (rs.take k)))∧Below w.heap.size w wr) (fun _ i _=>rs.length-(intOf i).toNat)
  case atStart=>exact⟨0,none,0,rfl,Nat.zero_le _,rfl,⟨rfl,Or.inl ⟨rfl,rfl⟩⟩,Below.refl _ _⟩
  case round =>
    obtain⟨k,ao,c,rfl,hk,rfl,hown,hbw⟩:=hrel
    have HOWN:=V hown
    have HBW:=V hbw
    by_cases hlt:k<rs.length
    · obtain⟨r,hr⟩:∃ r,rs[k]? = some r:=⟨_,List.getElem?_eq_getElem hlt⟩
      obtain⟨hc,hin⟩:=((U HQ).below hbw).2 k r hr
      have hqb:=((U HQ).below hbw).1
      have hltI:(k:Int)<rs.length:=by omega
      have HNX:=V (catS_next hr)
      have e1:=congrArg List.length (catS_next hr)
      rw[List.length_append]at e1
      have e2:=catS_le rs (k+1)
      have hro:∀ x∈r.2.2,0≤x.1∧x.1≤32:=fun x hx=>U HOPS x (List.mem_flatMap.2 ⟨r,List.mem_of_getElem? hr,hx⟩)
      have HRO:=V hro
      have HIN:=V hin
      have HIN0:=V ((U HQ).2 k r hr).2
      have hlb:(chRow (catS (rs.take k))).length+r.2.2.length≤1000:=by rw[chRow_len];omega
      obtain⟨ra,rc,row⟩:=r
      simp only at hc HIN HIN0 HNX HRO hlb
      generalize hcl:catS (rs.take k)=cl at *
      have hrI:(row.length:Int)≤1000:=by omega
      obtain⟨w0,hw0⟩:∃ w0:World,w0=wr:=⟨_,rfl⟩
      rw[hw0.symm]at HOWN HBW HIN hc hqb ⊢
      clear e1 e2 hr hown hbw hin hro hcl hw0
      go_wp2_with fail
      go_loopw [5,18] (fun lv i wr=>∃ (j:Nat) (ao:Option Addr) (c:Nat),i=.int .i64 j∧j≤row.length∧lv=.slice ao (chRow cl++chRow (row.take j)).length c∧OwnC w.heap.size wr (.slice ao (chRow cl++chRow (row.take j)).length c) (chRow cl++chRow (row.take j))∧Below w.heap.size w wr∧InL wr ra row) (fun _ i _=>row.length-(intOf i).toNat)
      case atStart=>exact⟨0,ao,c,rfl,Nat.zero_le _,by simp[chRow],by simpa [chRow] using U HOWN,U HBW,U HIN⟩
      case round =>
        obtain⟨j,ao,c,rfl,hj,rfl,hown,hbw,hin⟩:=hrel
        have HOWN:=V hown
        have HBW:=V hbw
        have HIN:=V hin
        by_cases hlj:j<row.length
        · obtain⟨x,hx⟩:∃ x,row[j]? = some x:=⟨_,List.getElem?_eq_getElem hlj⟩
          obtain⟨g,off,rfl,hgl,c1,c2⟩:=in_at hin hx
          have hljI:(j:Int)<row.length:=by omega
          have hxo:=U HRO x (List.mem_of_getElem? hx)
          have HNJ:=V (chRow_next hx)
          have hle:(chRow cl++chRow (row.take j)).length<1000:=by rw[List.length_append,chRow_len (row.take j),List.length_take];omega
          obtain⟨x1,x2⟩:=x
          simp only at c1 c2 hxo HNJ
          obtain⟨op,rfl⟩:∃ op:Nat,x1=op:=⟨x1.toNat,by omega⟩
          have hbN:Below wr.heap.size wr (wr.alloc (.cells #[.int .i64 op,.int .i64 x2] 65)):=below_box wr _
          have HBX:=V (Blk.new wr #[.int .i64 op,.int .i64 x2] 65)
          have HBN:=V hbN
          have HFO:Hid (∀ W,Below wr.heap.size wr W→FoldAt W fb tb rv):=fun W hW=>((U HF).below (U HBW)).below hW
          have HCH:Hid (∀ W,Below wr.heap.size wr W→Calls Tryz.prog 248 #[.pointer (some ⟨tb,0,none⟩),.int .i64 op] W fun e w'=>e=.returned (.agg #[.int .i64 (changeS op).1,.int .i64 (changeS op).2])∧Below W.heap.size W w'):=fun W hW=>change_any tb op W (U HFO W hW).2 (Or.inl (by omega))
          clear hown hbw hx hbN hin
          generalize hl1:chRow cl++chRow (row.take j)=l1 at *
          have HL1:=V hl1
          generalize hct:changeS op=ct at *
          clear hct hl1
          obtain⟨t,gv⟩:=ct
          simp only at HCH
          have hfb:=(U HFO _ (U HBN)).1
          have hcf:=hfb.cell
          have hlf:=hfb.lt
          have hws:=(U HBW).size
          go_wp2_with fail
          generalize hW0:wr.alloc (.cells #[.int .i64 op,.int .i64 x2] 65)=W0 at *
          have hcx:=(U HBX).cell
          have hlx:=(U HBX).lt
          have HCH0:Hid (∀ W,Below W0.heap.size W0 W→Calls Tryz.prog 248 #[.pointer (some ⟨tb,0,none⟩),.int .i64 op] W fun e w'=>e=.returned (.agg #[.int .i64 t,.int .i64 gv])∧Below W.heap.size W w'):=fun W hW=>U HCH W ((U HBN).trans (hW.mono (by omega)))
          clear hW0 hfb c1 c2
          go_region_law (first
              | (refine step_call rfl 248 #[.tmp 26,.tmp 28] #[82,3] rfl Tryz.func248 Tryz.name248 Tryz.body248 #[.pointer (some ⟨tb,0,none⟩),.int .i64 op] (by first|(simp[Act.eval];done)|rfl) (U HCH0 _ (by (repeat (first|with_reducible refine below_drew ?_|with_reducible refine below_drawn ?_ _|with_reducible refine below_longer ?_ _|(with_reducible refine Below.alloc ?_ ?_ _;rotate_left;(first|omega|((repeat (first|rw[World.size_up]|rw[World.size_dr]|rw[World.size_drN]))<;>omega)))));(with_reducible exact Below.refl _ _))) ?_;rintro e w1 ⟨rfl,h1⟩;refine⟨_,rfl,?_⟩;have H1:Hid (Below W0.heap.size W0 w1):=Below.trans (by (repeat (first|with_reducible refine below_drew ?_|with_reducible refine below_drawn ?_ _|with_reducible refine below_longer ?_ _|(with_reducible refine Below.alloc ?_ ?_ _;rotate_left;(first|omega|((repeat (first|rw[World.size_up]|rw[World.size_dr]|rw[World.size_drN]))<;>omega)))));(with_reducible exact Below.refl _ _)) (h1.mono (by simp));clear h1;have H2:Hid (Below wr.heap.size wr w1):=(U HBN).trans ((U H1).mono (by omega));have HW1:=V (ownsRow_alloc ((U HOWN).below (U H2)) (.cells #[.int .i64 t,.int .i64 gv] 107));have hs1:=(U H2).size;have HS1:Hid (w.heap.size≤(w1.alloc (.cells #[.int .i64 t,.int .i64 gv] 107)).heap.size):=V (by simp;omega))
              | (refine step_append_lies _ rfl (.tmp 22) (.tmp 30) 288 rfl w.heap.size 107 iI _ 2 16 Tryz.underlying288 hiI hzI0 hzI1 hzI2 rfl (by decide) (.slice ao l1.length c) l1.length (instrCells l1) (by simp[Act.eval]) (U HW1) ⟨w1.heap.size,0,none⟩ 1 1 [.int .i64 t,.int .i64 gv] (by simp[Act.eval]) rfl (World.news_of_block (Blk.new w1 _ _)) (oneCells2 t gv) (by omega) (by unfold maxLen;omega) (by omega) (U HS1) _ rfl ?_;intro g5 cap5 w5 hown5 hgrow hat hlt1;have HO:=V hown5;have HG:=V hgrow;clear hown5 hgrow hat))
          all_goals
            go_wp2_with fail
            go_roundw
            case rel =>
              have e5:chRow cl++chRow (row.take (j+1))=l1++[(t,gv)]:=by rw[U HNJ,← List.append_assoc,U HL1]
              have el:(l1++[(t,gv)]).length=l1.length+1:=by simp
              have hb5:Below w.heap.size w w5:=(((U HBW).trans ((U H2).mono hws)).trans ((below_box w1 _).mono (by omega))).grown (U HG) (U HS1) (fun j hj=>(ownsRow_lt (U HOWN) hj).2)
              refine⟨j+1,some ⟨g5,0,none⟩,cap5,by go_num,by omega,?_,?_,?_,?_⟩
              · rw[e5,el]
              · rw[e5,el]
                unfold OwnC
                rw[el,instr_app]
                exact U HO
              · exact hb5
              · exact (U HIN0).below hb5
            case measure=>simp[intOf];omega
        · have hjj:j=row.length:=by omega
          subst hjj
          rw[List.take_length,← chRow_app]at HOWN ⊢
          clear hown hbw hin
          go_wp2_with fail
          go_roundw
          case rel =>
            refine⟨k+1,ao,c,by go_num,by omega,?_,?_,U HBW⟩
            · rw[U HNX]
            · rw[U HNX];exact U HOWN
          case measure=>simp[intOf];omega
    · have hkk:k=rs.length:=by omega
      subst hkk
      rw[List.take_length]at HOWN ⊢
      clear hown hbw
      go_wp2_with fail
      go_ret
      exact⟨ao,c,rfl,U HOWN,U HBW⟩
def failsS (k:Int×Int) (old short next:List (Int×Int)):Bool :=
  (List.range (3 * (old.length+next.length)+1)).all fun i=>(List.range (3 * (old.length+next.length)+1)).all fun j=>alikeS (chRow (old++next)) (chRow (short++next)) (k.1+i) (k.1+i+(k.2+j))
theorem all_next (n:Nat) (f:Nat→Bool):(List.range (n+1)).all f=((List.range n).all f&&f n):=by
  rw[List.range_succ,List.all_append]
  simp
theorem all_false {n i:Nat} {f:Nat→Bool} (h:i<n) (hf:f i=false):(List.range n).all f=false:=by
  cases e:(List.range n).all f with
  | false=>rfl
  | true =>
    have:=List.all_eq_true.1 e i (List.mem_range.2 h)
    rw[hf]at this
    cases this
theorem rows_two (w:World) (a b:Option Addr) (c d:Nat) (l1 l2:List (Int×Int)) (h1:InL w a l1) (h2:InL w b l2) (T:TypeId):RowsAt (w.alloc (.cells #[.slice a l1.length c,.slice b l2.length d] T)) w.heap.size [(a,c,l1),(b,d,l2)]:=by
  have hb:=Blk.new w #[.slice a l1.length c,.slice b l2.length d] T
  have hbel:=below_box w (.cells #[.slice a l1.length c,.slice b l2.length d] T)
  refine⟨hb.lt,fun j r hj=>?_⟩
  rw[hb.cell]
  match j,hj with
  | 0,hj=>simp at hj;subst hj;exact⟨rfl,h1.below hbel⟩
  | 1,hj=>simp at hj;subst hj;exact⟨rfl,h2.below hbel⟩
  | j+2,hj=>simp at hj
theorem chRow_small {row:List (Int×Int)} (h:∀ x∈row,0≤x.1∧x.1≤32):∀ x∈chRow row,(0≤x.1∧x.1≤10)∧(0≤x.2∧x.2≤10):=by
  intro x hx
  obtain⟨y,hy,rfl⟩:=List.mem_map.1 hx
  have hy1:=h y hy
  have e:y.1=((y.1.toNat:Nat):Int):=by omega
  have:=change_small y.1.toNat (by omega)
  rw[← e]at this
  omega
theorem failsAlike_any (fb tb:Nat) (rv:Value) (k1 k2:Int) (ao so no:Option Addr) (ac sc nc:Nat) (old short next:List (Int×Int)) (w:World) (hf:FoldAt w fb tb rv) (ha:InL w ao old) (hs:InL w so short) (hx:InL w no next) (hn:old.length+next.length≤50∧short.length+next.length≤50) (hk:(0≤k1∧k1≤500000)∧(0≤k2∧k2≤500000))
    (hoa:∀ x∈old,0≤x.1∧x.1≤32) (hos:∀ x∈short,0≤x.1∧x.1≤32) (hox:∀ x∈next,0≤x.1∧x.1≤32) :
    Calls Tryz.prog 239 #[.pointer (some ⟨fb,0,none⟩),.agg #[.int .i64 k1,.int .i64 k2],.slice ao old.length ac,.slice so short.length sc,.slice no next.length nc] w fun e w'=>e=.returned (.bool (failsS (k1,k2) old short next))∧Below w.heap.size w w':=by
  have hb0:=below_box w (.cells #[.int .i64 k1,.int .i64 k2] 277)
  have hkb:=Blk.new w #[.int .i64 k1,.int .i64 k2] 277
  have eb:catS [(ao,ac,old),(no,nc,next)]=old++next:=by simp[catS]
  have ea:catS [(so,sc,short),(no,nc,next)]=short++next:=by simp[catS]
  have HC1:Hid (∀ W,Below w.heap.size w W→Calls Tryz.prog 246 #[.pointer (some ⟨fb,0,none⟩),.slice (some ⟨W.heap.size,0,none⟩) 2 2] (W.alloc (.cells #[.slice ao old.length ac,.slice no next.length nc] 33)) fun e w'=>∃ ao' c',e=.returned (.slice ao' (chRow (old++next)).length c')∧PairsAt w' ao' (chRow (old++next))∧Below W.heap.size W w'):=fun W hW=>by
    have hbW:=below_box W (.cells #[.slice ao old.length ac,.slice no next.length nc] 33)
    have:=changesOf_any fb tb W.heap.size 2 rv [(ao,ac,old),(no,nc,next)] _ ((hf.below hW).below hbW) (rows_two W ao no ac nc old next (ha.below hW) (hx.below hW) 33) (by simp) (by rw[eb,List.length_append];omega) (by rw[eb];intro x hx';rcases List.mem_append.1 hx' with h|h;exact hoa x h;exact hox x h)
    rw[eb]at this
    refine this.mono ?_
    rintro e w' ⟨a',c',rfl,h1,h2⟩
    exact⟨a',c',rfl,h1.pairs,hbW.trans (h2.mono hbW.size)⟩
  have HC2:Hid (∀ W,Below w.heap.size w W→Calls Tryz.prog 246 #[.pointer (some ⟨fb,0,none⟩),.slice (some ⟨W.heap.size,0,none⟩) 2 2] (W.alloc (.cells #[.slice so short.length sc,.slice no next.length nc] 33)) fun e w'=>∃ ao' c',e=.returned (.slice ao' (chRow (short++next)).length c')∧PairsAt w' ao' (chRow (short++next))∧Below W.heap.size W w'):=fun W hW=>by
    have hbW:=below_box W (.cells #[.slice so short.length sc,.slice no next.length nc] 33)
    have:=changesOf_any fb tb W.heap.size 2 rv [(so,sc,short),(no,nc,next)] _ ((hf.below hW).below hbW) (rows_two W so no sc nc short next (hs.below hW) (hx.below hW) 33) (by simp) (by rw[ea,List.length_append];omega) (by rw[ea];intro x hx';rcases List.mem_append.1 hx' with h|h;exact hos x h;exact hox x h)
    rw[ea]at this
    refine this.mono ?_
    rintro e w' ⟨a',c',rfl,h1,h2⟩
    exact⟨a',c',rfl,h1.pairs,hbW.trans (h2.mono hbW.size)⟩
  have hsb:∀ x∈chRow (old++next),(0≤x.1∧x.1≤10)∧(0≤x.2∧x.2≤10):=chRow_small (fun x hx'=>by rcases List.mem_append.1 hx' with h|h;exact hoa x h;exact hox x h)
  have hsa:∀ x∈chRow (short++next),(0≤x.1∧x.1≤10)∧(0≤x.2∧x.2≤10):=chRow_small (fun x hx'=>by rcases List.mem_append.1 hx' with h|h;exact hos x h;exact hox x h)
  have hlb:(chRow (old++next)).length=old.length+next.length:=by rw[chRow_len,List.length_append]
  have hla:(chRow (short++next)).length=short.length+next.length:=by rw[chRow_len,List.length_append]
  unfold failsS
  rw[← hlb]
  have hl50:(chRow (old++next)).length≤50:=by omega
  have hl51:(chRow (short++next)).length≤50:=by omega
  have HSB:=V hsb
  have HSA:=V hsa
  have HB0:=V hb0
  have HKB:=V hkb
  clear hf ha hs hx hoa hos hox eb ea hsb hsa hlb hla hb0 hkb hn
  generalize chRow (old++next)=b at *
  generalize chRow (short++next)=a at *
  simp only
  generalize hP:(fun (i j:Nat)=>alikeS b a (k1+i) (k1+i+(k2+j)))=P
  have HPE:Hid (∀ i j:Nat,P i j=alikeS b a (k1+i) (k1+i+(k2+j))):=fun i j=>by rw[← hP]
  have e2:((List.range (3 * b.length+1)).all fun i=>(List.range (3 * b.length+1)).all fun j=>alikeS b a (k1+i) (k1+i+(k2+j)))=(List.range (3 * b.length+1)).all (fun i=>(List.range (3 * b.length+1)).all (P i)):=by rw[← hP]
  rw[e2]
  clear hP e2
  have hsz:(w.alloc (.cells #[.int .i64 k1,.int .i64 k2] 277)).heap.size=w.heap.size+1:=by simp
  have hc1:=U HC1 _ (U HB0)
  rw[hsz]at hc1
  have HC1':=V hc1
  clear hc1 HC1
  generalize hres:((List.range (3 * b.length+1)).all (fun i=>(List.range (3 * b.length+1)).all (P i)))=res
  have HRES:=V hres
  clear hres
  go_enter Tryz.func239,Tryz.ntmps239
  go_wp2_with fail
  refine (U HC1').mono ?_
  rintro e w1 ⟨bo,bc,rfl,hpb,hb1⟩
  have hkb1:=Blk.below (U HKB) hb1 (by simp)
  have hbw1:Below w.heap.size w w1:=(U HB0).trans (hb1.mono (by omega))
  have HK1:=V hkb1
  have HBW1:=V hbw1
  have HPB:=V hpb
  have HC2':=V (U HC2 w1 hbw1)
  clear hpb hb1 hkb1 hbw1 HC1' HC2 HKB HB0
  go_wp2_with fail
  refine (U HC2').mono ?_
  rintro e w2 ⟨aa,ac2,rfl,hpa,hb2⟩
  have hkb2:=(U HK1).below hb2 (U HK1).lt
  have HBW2:Hid (Below w.heap.size w w2):=(U HBW1).trans (hb2.mono (U HBW1).size)
  have HPB2:=V ((U HPB).below hb2)
  have HPA:=V hpa
  have HK2:=V hkb2
  have hck:=hkb2.cell
  have hlk:=hkb2.lt
  clear hpa hb2 hkb2 HC2' HK1 HPB HBW1
  have hbI:(b.length:Int)≤50:=by omega
  have hm3:IntKind.i64.wrap (3 * (b.length:Int))=3 * (b.length:Int):=by rw[IntKind.wrap_i64];omega
  go_wp2_with fail
  go_loopw [14] (fun v wr=>∃ i:Nat,v=.int .i64 (k1+i)∧i≤3 * b.length+1∧(List.range i).all (fun i=>(List.range (3 * b.length+1)).all (P i))=true∧Below w2.heap.size w2 wr) (fun v _=>(3 * b.length+1)-(intOf v-k1).toNat)
  case atStart=>exact⟨0,by simp,Nat.zero_le _,rfl,Below.refl _ _⟩
  case round =>
    obtain⟨i,rfl,hi,hall,hbw⟩:=hrel
    have HBW:=V hbw
    have HALL:=V hall
    have hk3:=(U HK2).below hbw (U HK2).lt
    have hck3:=hk3.cell
    have hlk3:=hk3.lt
    clear hck hlk hall hbw hk3
    by_cases hlt:i<3 * b.length+1
    · have hg:(k1+i:Int)≤k1+3 * (b.length:Int):=by omega
      obtain⟨w0,hw0⟩:∃ w0:World,w0=wr:=⟨_,rfl⟩
      rw[hw0.symm]at HBW hck3 hlk3 ⊢
      clear hw0
      go_wp2_with fail
      go_loopw [15] (fun v wr=>∃ j:Nat,v=.int .i64 (k2+j)∧j≤3 * b.length+1∧(List.range j).all (P i)=true∧Below w2.heap.size w2 wr) (fun v _=>(3 * b.length+1)-(intOf v-k2).toNat)
      case atStart=>exact⟨0,by simp,Nat.zero_le _,rfl,U HBW⟩
      case round =>
        obtain⟨j,rfl,hj,hallj,hbw⟩:=hrel
        have HBJ:=V hbw
        have HALJ:=V hallj
        have hk4:=(U HK2).below hbw (U HK2).lt
        have hck4:=hk4.cell
        have hlk4:=hk4.lt
        clear hck3 hlk3 hallj hbw hk4
        by_cases hltj:j<3 * b.length+1
        · have hgj:(k2+j:Int)≤k2+3 * (b.length:Int):=by omega
          have HAL:=V (isAlike_any bo aa bc ac2 b a (k1+i) (k1+i+(k2+j)) wr ((U HPB2).below (U HBJ)) ((U HPA).below (U HBJ)) ⟨hl50,hl51⟩ (U HSB) (U HSA) (by omega))
          rw[← U HPE i j]at HAL
          generalize hpij:P i j=pij at *
          have HPIJ:=V hpij
          clear hpij
          go_wp2_with fail
          refine (U HAL).mono ?_
          rintro e w3 ⟨rfl,hb3⟩
          have HB3:Hid (Below w2.heap.size w2 w3):=(U HBJ).trans (hb3.mono (U HBJ).size)
          clear HAL hb3 hck4 hlk4
          cases pij with
          | true =>
            go_wp2_with fail
            go_roundw
            case rel=>exact⟨j+1,by go_num,by omega,by rw[all_next,U HALJ,U HPIJ];rfl,U HB3⟩
            case measure=>simp[intOf];omega
          | false =>
            go_wp2_with fail
            go_ret
            refine⟨?_,(U HBW2).trans ((U HB3).mono (U HBW2).size)⟩
            rw[← U HRES,all_false hlt (all_false hltj (U HPIJ))]
            rfl
        · have hjj:j=3 * b.length+1:=by omega
          subst hjj
          have hgj:¬ (k2+((3 * b.length+1:Nat):Int)≤k2+3 * (b.length:Int)):=by omega
          go_wp2_with fail
          go_roundw
          case rel=>exact⟨i+1,by go_num,by omega,by rw[all_next,U HALL,U HALJ];rfl,U HBJ⟩
          case measure=>simp[intOf];omega
    · have hii:i=3 * b.length+1:=by omega
      subst hii
      have hg:¬ (k1+((3 * b.length+1:Nat):Int)≤k1+3 * (b.length:Int)):=by omega
      go_wp2_with fail
      go_ret
      refine⟨?_,(U HBW2).trans ((U HBW).mono (U HBW2).size)⟩
      rw[← U HRES,U HALL]
      rfl
def reckRun (row:List (Int×Int)):MS×Int×Int:=runM (row++[(5,0)]) (row.length+1) 0 (startM 0 1000 1000 1000 1000 0 0)
def reckonedS (row:List (Int×Int)):Option (List (Int×Int)) :=
  if (row.getD 0 (0,0)).1≠0∨row.all reckS=false then none
  else if (reckRun row).2.1≠0∨row.length≤(reckRun row).1.stack.length then none
  else some ((reckRun row).1.stack.map (fun p=>((0:Int),p)))
theorem reck_ok {row:List (Int×Int)} (h:row.all reckS=true) (hi:∀ x∈row,inI x.2) (hn:row.length≤1000):CodeOk (row++[(5,0)]):=by
  refine⟨fun x hx=>?_,⟨(5,0),by simp,Or.inr (Or.inr rfl)⟩,by simp;omega⟩
  rcases List.mem_append.1 hx with hx|hx
  · have h1:=List.all_eq_true.1 h x hx
    have h2:x.1=0∨9≤x.1∧x.1≤25:=of_decide_eq_true h1
    refine⟨by omega,hi x hx,fun h3=>?_⟩
    exfalso
    unfold namesS at h3
    simp only[Bool.or_eq_true,beq_iff_eq]at h3
    omega
  · simp at hx
    subst hx
    exact⟨by simp,by unfold inI;simp,fun h3=>by simp[namesS]at h3⟩
theorem ints_row {B:Nat} {w:World} {ao:Option Addr} {n k:Nat} {l:List Int} (h:w.ownsRow B 2 1 (.slice ao n k) l.length (intCells l)):IntsL w ao l∧n=l.length:=by
  obtain⟨a,c,hv⟩:=own_shape h
  simp only[Value.slice.injEq]at hv
  obtain⟨rfl,rfl,rfl⟩:=hv
  refine⟨?_,rfl⟩
  rcases h.2 with ⟨e1,e2⟩|⟨g,cap,cur,e,_⟩
  · have:l.length=0:=by
      simp only[Value.slice.injEq]at e1
      exact e1.2.1
    exact Or.inl (List.length_eq_zero_iff.1 this)
  · simp only[Value.slice.injEq]at e
    obtain⟨rfl,_,rfl⟩:=e
    refine Or.inr ⟨g,rfl,(ownsRow_lt h (k:=g) rfl).1,fun j p hj=>?_⟩
    have hjl:j<l.length:=(List.getElem?_eq_some_iff.1 hj).1
    rw[own_cell h j (by omega)]
    unfold intCells
    rw[List.getElem?_map,hj]
    rfl
def pieceAt (row:List (Int×Int)) (op:Nat):Option (Int×Int×Int):=(numGo 0 row (superS op)).map (fun n=>((op:Int),n,((superS op).length:Int)))
def piecesTo (row:List (Int×Int)) (k:Nat):List (Int×Int×Int):=((List.range k).map (·+40)).filterMap (pieceAt row)
def piecesS (row:List (Int×Int)):List (Int×Int×Int):=piecesTo row 20
theorem piecesTo_next (row:List (Int×Int)) (k:Nat):piecesTo row (k+1)=piecesTo row k++(pieceAt row (k+40)).toList:=by
  unfold piecesTo
  rw[List.range_succ,List.map_append,List.filterMap_append]
  cases h:pieceAt row (k+40)<;>simp[h]
theorem piecesTo_len (row:List (Int×Int)) (k:Nat):(piecesTo row k).length≤k:=by
  induction k with
  | zero=>simp[piecesTo]
  | succ k ih =>
    rw[piecesTo_next,List.length_append]
    cases pieceAt row (k+40)<;>simp<;>omega
def pieceCells (l:List (Int×Int×Int)):List Value:=l.flatMap (fun x=>[.int .i64 x.1,.int .i64 x.2.1,.int .i64 x.2.2])
theorem pieceCells_length (l:List (Int×Int×Int)):(pieceCells l).length=l.length * 3:=by
  induction l with
  | nil=>rfl
  | cons x l ih =>
    show (pieceCells (x :: l)).length=_
    unfold pieceCells at ih ⊢
    simp only[List.flatMap_cons,List.length_append,List.length_cons,List.length_nil,ih]
    omega
theorem Tryz.infoPiece:(Tryz.prog.info? 211).map (fun i=>(i.zero,i.size,i.bytes))=some (some (.agg #[.int .i64 0,.int .i64 0,.int .i64 0]),3,24):=by kernel_rfl
theorem oneCells_int3 (a b c:Int):∀ u∈[Value.int .i64 a,.int .i64 b,.int .i64 c],u.oneCell'=true:=by
  intro u hu
  simp at hu
  rcases hu with rfl|rfl|rfl<;>rfl
theorem piecesAt_any (ao:Option Addr) (c:Nat) (row:List (Int×Int)) (w:World) (hin:InL w ao row) (hr:row.length≤100000) :
    Calls Tryz.prog 156 #[.slice ao row.length c] w fun e w'=>∃ v,e=.returned v∧w'.ownsRow w.heap.size 211 3 v (piecesS row).length (pieceCells (piecesS row))∧Below w.heap.size w w':=by
  obtain⟨iP,hiP,hzP0,hzP1,hzP2⟩:=info_parts Tryz.infoPiece
  have HIN:=V hin
  clear hin
  go_enter Tryz.func156,Tryz.ntmps156
  go_wp2_with fail
  go_loopw [3,4] (fun v i wr=>∃ (k:Nat) (a:Option Addr) (n c:Nat),i=.int .i64 ((k+40:Nat):Int)∧v=.slice a n c∧n=(piecesTo row k).length∧k≤20∧wr.ownsRow w.heap.size 211 3 (.slice a n c) n (pieceCells (piecesTo row k))∧Below w.heap.size w wr) (fun _ i _=>60-(intOf i).toNat)
  case atStart=>exact⟨0,none,0,0,rfl,rfl,rfl,by omega,World.ownsRow_nil _ _ _ _,Below.refl _ _⟩
  case round =>
    obtain⟨k,a,n,cc,rfl,rfl,hn,hk,hrow,hbw⟩:=hrel
    have HROW:=V hrow
    have HBW:=V hbw
    have HN:=V hn
    have hn20:n≤20:=by have:=piecesTo_len row k;omega
    clear hn
    by_cases hlt:k<20
    · have hltI:(((k+40:Nat)):Int)≤59:=by omega
      obtain⟨op,hop⟩:∃ op,op=k+40:=⟨_,rfl⟩
      have HSP:=V (superParts_any op ⟨by omega,by omega⟩ wr)
      obtain⟨_,hl3,_⟩:=super_parts op (by omega) (by omega)
      have hnx:=piecesTo_next row k
      rw[← hop]at hltI hnx ⊢
      have hopI:(op:Int)+1=((k+1+40:Nat):Int):=by omega
      have HOP:=V hop
      have HOPI:=V hopI
      have HNX:=V hnx
      clear hop hrow hbw hopI hnx
      go_wp2_with fail
      refine (U HSP).mono ?_
      rintro e w1 ⟨cs,rfl,hcs,hw1⟩
      have hsz:cs.size=(superS op).length:=by have:=congrArg List.length hcs;simpa using this
      have hb1:Below wr.heap.size wr w1:=by rw[hw1];exact below_box wr _
      have hq:IntsAt w1 wr.heap.size (superS op):=by
        have hblk:Blk w1 wr.heap.size cs 3:=by rw[hw1];exact Blk.new wr _ _
        refine⟨hblk.lt,fun j p hj=>?_⟩
        rw[hblk.cell]
        have:cs.toList[j]? = some (.int .i64 p):=by rw[hcs,List.getElem?_map,hj];rfl
        simpa using this
      have HNO:=V (numberOf_any ao c wr.heap.size (superS op).length row (superS op) w1 (((U HIN).below (U HBW)).below hb1) hq hr (by omega))
      rw[hsz]
      have hlI:((superS op).length:Int)≤3:=by omega
      have hrow1:=(LawStill.ofBelow hb1).row (U HROW)
      have HROW1:=V hrow1
      have HBW1:=V ((U HBW).trans (hb1.mono (U HBW).size))
      have hpa:pieceAt row op=(numGo 0 row (superS op)).map (fun n=>((op:Int),n,((superS op).length:Int))):=rfl
      have HPA:=V hpa
      clear hcs hw1 hsz hb1 hq HSP hrow1 hpa
      generalize hres:numGo 0 row (superS op)=res at HNO HPA
      generalize hpl:(superS op).length=pl at *
      clear hres hpl
      go_wp2_with fail
      refine (U HNO).mono ?_
      rintro e w2 ⟨rfl,hw2⟩
      obtain rfl:=hw2.symm
      clear hw2 HNO
      cases res with
      | none =>
        unfold nofV
        go_wp2_with fail
        go_roundw
        case rel =>
          refine⟨k+1,a,n,cc,by rw[← U HOPI],rfl,?_,by omega,?_,U HBW1⟩
          · rw[U HNX,U HPA];simpa using U HN
          · rw[U HNX,U HPA];simpa using U HROW1
        case measure=>simp[intOf];omega
      | some nv =>
        unfold nofV
        have HW:=V (ownsRow_alloc (U HROW1) (.cells #[.int .i64 op,.int .i64 nv,.int .i64 pl] 211))
        have HNB:=V (Blk.new w1 #[.int .i64 op,.int .i64 nv,.int .i64 pl] 211)
        have hBs:w.heap.size≤(w1.alloc (.cells #[.int .i64 op,.int .i64 nv,.int .i64 pl] 211)).heap.size:=by have:=(U HBW1).size;simp;omega
        have HBS:=V hBs
        have HPL:Hid ((pieceCells (piecesTo row k)).length=n * 3):=by rw[pieceCells_length,← U HN];exact V rfl
        clear hBs
        go_wp2_with (at_builtin;refine wpList_append_lies _ rfl (.tmp 21) (.tmp 28) 209 rfl w.heap.size 211 iP _ 3 24 Tryz.underlying209 hiP hzP0 hzP1 hzP2 rfl (by decide) (.slice a n cc) n (pieceCells (piecesTo row k)) (by simp[Act.eval]) (U HW) ⟨w1.heap.size,0,none⟩ 1 1 [.int .i64 op,.int .i64 nv,.int .i64 pl] (by simp[Act.eval]) rfl (World.news_of_block (U HNB)) (oneCells_int3 _ _ _) (by omega) (by unfold maxLen;omega) (by omega) (U HBS) _ rfl ?_;intro g5 cap5 w5 hown hgrow hat hlt1;have HO:=V hown;have HG:=V hgrow;clear hown hgrow hat)
        go_roundw
        case rel =>
          have e2:piecesTo row (k+1)=piecesTo row k++[((op:Int),nv,(pl:Int))]:=by rw[U HNX,U HPA];rfl
          refine⟨k+1,some ⟨g5,0,none⟩,n+1,cap5,by rw[← U HOPI],rfl,?_,by omega,?_,?_⟩
          · rw[e2,List.length_append,← U HN];rfl
          · have ho:=U HO
            have e3:pieceCells (piecesTo row (k+1))=pieceCells (piecesTo row k)++[.int .i64 op,.int .i64 nv,.int .i64 pl]:=by
              rw[e2]
              unfold pieceCells
              rw[List.flatMap_append]
              rfl
            rw[e3]
            exact ho
          · exact ((U HBW1).trans ((below_box w1 _).mono (U HBW1).size)).grown (U HG) (U HBS) (fun j hj=>(ownsRow_lt (U HROW1) hj).2)
        case measure=>simp[intOf];omega
    · have hk20:k=20:=by omega
      subst hk20
      have hN:=U HN
      subst hN
      go_wp2_with fail
      go_ret
      exact⟨_,rfl,U HROW,U HBW⟩
end Go.Proofs.YtmeiikjpaepogaaGreatDoor
