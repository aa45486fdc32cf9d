/- The program's options: Fold: does a shorter row fail alike? -/
import Derived.Test.YtmeiikjpaepogaaGreatDoorE28
import Derived.Test.YtmeiikjpaepogaaGreatDoorE23
import Derived.Test.YtmeiikjpaepogaaGreatDoorE26
import Derived.Test.YtmeiikjpaepogaaGreatDoorE19
set_option maxRecDepth 100000
set_option maxHeartbeats 8000000
namespace Go.Proofs.YtmeiikjpaepogaaGreatDoor
open Go Go.RowKit
def failsS (k:Int×Int) (old short next:List (Int×Int)):Bool :=
  (List.range (3 * (old.length+next.length)+1)).all fun i=>(List.range (3 * (old.length+next.length)+1)).all fun j=>alikeS (chRow (old++next)) (chRow (short++next)) (k.1+i) (k.1+i+(k.2+j))
theorem all_next (n:Nat) (f:Nat→Bool):(List.range (n+1)).all f=((List.range n).all f&&f n):=by
  rw[List.range_succ,List.all_append]
  simp
theorem all_false {n i:Nat} {f:Nat→Bool} (h:i<n) (hf:f i=false):(List.range n).all f=false:=by
  cases e:(List.range n).all f with
  | false=>rfl
  | true =>
    have:=List.all_eq_true.1 e i (List.mem_range.2 h)
    rw[hf]at this
    cases this
theorem rows_two (w:World) (a b:Option Addr) (c d:Nat) (l1 l2:List (Int×Int)) (h1:InL w a l1) (h2:InL w b l2) (T:TypeId):RowsAt (w.alloc (.cells #[.slice a l1.length c,.slice b l2.length d] T)) w.heap.size [(a,c,l1),(b,d,l2)]:=by
  have hb:=Blk.new w #[.slice a l1.length c,.slice b l2.length d] T
  have hbel:=below_box w (.cells #[.slice a l1.length c,.slice b l2.length d] T)
  refine⟨hb.lt,fun j r hj=>?_⟩
  rw[hb.cell]
  match j,hj with
  | 0,hj=>simp at hj;subst hj;exact⟨rfl,h1.below hbel⟩
  | 1,hj=>simp at hj;subst hj;exact⟨rfl,h2.below hbel⟩
  | j+2,hj=>simp at hj
theorem chRow_small {row:List (Int×Int)} (h:∀ x∈row,0≤x.1∧x.1≤32):∀ x∈chRow row,(0≤x.1∧x.1≤10)∧(0≤x.2∧x.2≤10):=by
  intro x hx
  obtain⟨y,hy,rfl⟩:=List.mem_map.1 hx
  have hy1:=h y hy
  have e:y.1=((y.1.toNat:Nat):Int):=by omega
  have:=change_small y.1.toNat (by omega)
  rw[← e]at this
  omega
theorem failsAlike_any (fb tb:Nat) (rv:Value) (k1 k2:Int) (ao so no:Option Addr) (ac sc nc:Nat) (old short next:List (Int×Int)) (w:World) (hf:FoldAt w fb tb rv) (ha:InL w ao old) (hs:InL w so short) (hx:InL w no next) (hn:old.length+next.length≤50∧short.length+next.length≤50) (hk:(0≤k1∧k1≤500000)∧(0≤k2∧k2≤500000))
    (hoa:∀ x∈old,0≤x.1∧x.1≤32) (hos:∀ x∈short,0≤x.1∧x.1≤32) (hox:∀ x∈next,0≤x.1∧x.1≤32) :
    Calls Tryz.prog 239 #[.pointer (some ⟨fb,0,none⟩),.agg #[.int .i64 k1,.int .i64 k2],.slice ao old.length ac,.slice so short.length sc,.slice no next.length nc] w fun e w'=>e=.returned (.bool (failsS (k1,k2) old short next))∧Below w.heap.size w w':=by
  have hb0:=below_box w (.cells #[.int .i64 k1,.int .i64 k2] 277)
  have hkb:=Blk.new w #[.int .i64 k1,.int .i64 k2] 277
  have eb:catS [(ao,ac,old),(no,nc,next)]=old++next:=by simp[catS]
  have ea:catS [(so,sc,short),(no,nc,next)]=short++next:=by simp[catS]
  have HC1:Hid (∀ W,Below w.heap.size w W→Calls Tryz.prog 246 #[.pointer (some ⟨fb,0,none⟩),.slice (some ⟨W.heap.size,0,none⟩) 2 2] (W.alloc (.cells #[.slice ao old.length ac,.slice no next.length nc] 33)) fun e w'=>∃ ao' c',e=.returned (.slice ao' (chRow (old++next)).length c')∧PairsAt w' ao' (chRow (old++next))∧Below W.heap.size W w'):=fun W hW=>by
    have hbW:=below_box W (.cells #[.slice ao old.length ac,.slice no next.length nc] 33)
    have:=changesOf_any fb tb W.heap.size 2 rv [(ao,ac,old),(no,nc,next)] _ ((hf.below hW).below hbW) (rows_two W ao no ac nc old next (ha.below hW) (hx.below hW) 33) (by simp) (by rw[eb,List.length_append];omega) (by rw[eb];intro x hx';rcases List.mem_append.1 hx' with h|h;exact hoa x h;exact hox x h)
    rw[eb]at this
    refine this.mono ?_
    rintro e w' ⟨a',c',rfl,h1,h2⟩
    exact⟨a',c',rfl,h1.pairs,hbW.trans (h2.mono hbW.size)⟩
  have HC2:Hid (∀ W,Below w.heap.size w W→Calls Tryz.prog 246 #[.pointer (some ⟨fb,0,none⟩),.slice (some ⟨W.heap.size,0,none⟩) 2 2] (W.alloc (.cells #[.slice so short.length sc,.slice no next.length nc] 33)) fun e w'=>∃ ao' c',e=.returned (.slice ao' (chRow (short++next)).length c')∧PairsAt w' ao' (chRow (short++next))∧Below W.heap.size W w'):=fun W hW=>by
    have hbW:=below_box W (.cells #[.slice so short.length sc,.slice no next.length nc] 33)
    have:=changesOf_any fb tb W.heap.size 2 rv [(so,sc,short),(no,nc,next)] _ ((hf.below hW).below hbW) (rows_two W so no sc nc short next (hs.below hW) (hx.below hW) 33) (by simp) (by rw[ea,List.length_append];omega) (by rw[ea];intro x hx';rcases List.mem_append.1 hx' with h|h;exact hos x h;exact hox x h)
    rw[ea]at this
    refine this.mono ?_
    rintro e w' ⟨a',c',rfl,h1,h2⟩
    exact⟨a',c',rfl,h1.pairs,hbW.trans (h2.mono hbW.size)⟩
  have hsb:∀ x∈chRow (old++next),(0≤x.1∧x.1≤10)∧(0≤x.2∧x.2≤10):=chRow_small (fun x hx'=>by rcases List.mem_append.1 hx' with h|h;exact hoa x h;exact hox x h)
  have hsa:∀ x∈chRow (short++next),(0≤x.1∧x.1≤10)∧(0≤x.2∧x.2≤10):=chRow_small (fun x hx'=>by rcases List.mem_append.1 hx' with h|h;exact hos x h;exact hox x h)
  have hlb:(chRow (old++next)).length=old.length+next.length:=by rw[chRow_len,List.length_append]
  have hla:(chRow (short++next)).length=short.length+next.length:=by rw[chRow_len,List.length_append]
  unfold failsS
  rw[← hlb]
  have hl50:(chRow (old++next)).length≤50:=by omega
  have hl51:(chRow (short++next)).length≤50:=by omega
  have HSB:=V hsb
  have HSA:=V hsa
  have HB0:=V hb0
  have HKB:=V hkb
  clear hf ha hs hx hoa hos hox eb ea hsb hsa hlb hla hb0 hkb hn
  generalize chRow (old++next)=b at *
  generalize chRow (short++next)=a at *
  simp only
  generalize hP:(fun (i j:Nat)=>alikeS b a (k1+i) (k1+i+(k2+j)))=P
  have HPE:Hid (∀ i j:Nat,P i j=alikeS b a (k1+i) (k1+i+(k2+j))):=fun i j=>by rw[← hP]
  have e2:((List.range (3 * b.length+1)).all fun i=>(List.range (3 * b.length+1)).all fun j=>alikeS b a (k1+i) (k1+i+(k2+j)))=(List.range (3 * b.length+1)).all (fun i=>(List.range (3 * b.length+1)).all (P i)):=by rw[← hP]
  rw[e2]
  clear hP e2
  have hsz:(w.alloc (.cells #[.int .i64 k1,.int .i64 k2] 277)).heap.size=w.heap.size+1:=by simp
  have hc1:=U HC1 _ (U HB0)
  rw[hsz]at hc1
  have HC1':=V hc1
  clear hc1 HC1
  generalize hres:((List.range (3 * b.length+1)).all (fun i=>(List.range (3 * b.length+1)).all (P i)))=res
  have HRES:=V hres
  clear hres
  go_enter Tryz.func239,Tryz.ntmps239
  go_wp2_with fail
  refine (U HC1').mono ?_
  rintro e w1 ⟨bo,bc,rfl,hpb,hb1⟩
  have hkb1:=Blk.below (U HKB) hb1 (by simp)
  have hbw1:Below w.heap.size w w1:=(U HB0).trans (hb1.mono (by omega))
  have HK1:=V hkb1
  have HBW1:=V hbw1
  have HPB:=V hpb
  have HC2':=V (U HC2 w1 hbw1)
  clear hpb hb1 hkb1 hbw1 HC1' HC2 HKB HB0
  go_wp2_with fail
  refine (U HC2').mono ?_
  rintro e w2 ⟨aa,ac2,rfl,hpa,hb2⟩
  have hkb2:=(U HK1).below hb2 (U HK1).lt
  have HBW2:Hid (Below w.heap.size w w2):=(U HBW1).trans (hb2.mono (U HBW1).size)
  have HPB2:=V ((U HPB).below hb2)
  have HPA:=V hpa
  have HK2:=V hkb2
  have hck:=hkb2.cell
  have hlk:=hkb2.lt
  clear hpa hb2 hkb2 HC2' HK1 HPB HBW1
  have hbI:(b.length:Int)≤50:=by omega
  have hm3:IntKind.i64.wrap (3 * (b.length:Int))=3 * (b.length:Int):=by rw[IntKind.wrap_i64];omega
  go_wp2_with fail
  go_loopw [14] (fun v wr=>∃ i:Nat,v=.int .i64 (k1+i)∧i≤3 * b.length+1∧(List.range i).all (fun i=>(List.range (3 * b.length+1)).all (P i))=true∧Below w2.heap.size w2 wr) (fun v _=>(3 * b.length+1)-(intOf v-k1).toNat)
  case atStart=>exact⟨0,by simp,Nat.zero_le _,rfl,Below.refl _ _⟩
  case round =>
    obtain⟨i,rfl,hi,hall,hbw⟩:=hrel
    have HBW:=V hbw
    have HALL:=V hall
    have hk3:=(U HK2).below hbw (U HK2).lt
    have hck3:=hk3.cell
    have hlk3:=hk3.lt
    clear hck hlk hall hbw hk3
    by_cases hlt:i<3 * b.length+1
    · have hg:(k1+i:Int)≤k1+3 * (b.length:Int):=by omega
      obtain⟨w0,hw0⟩:∃ w0:World,w0=wr:=⟨_,rfl⟩
      rw[hw0.symm]at HBW hck3 hlk3 ⊢
      clear hw0
      go_wp2_with fail
      go_loopw [15] (fun v wr=>∃ j:Nat,v=.int .i64 (k2+j)∧j≤3 * b.length+1∧(List.range j).all (P i)=true∧Below w2.heap.size w2 wr) (fun v _=>(3 * b.length+1)-(intOf v-k2).toNat)
      case atStart=>exact⟨0,by simp,Nat.zero_le _,rfl,U HBW⟩
      case round =>
        obtain⟨j,rfl,hj,hallj,hbw⟩:=hrel
        have HBJ:=V hbw
        have HALJ:=V hallj
        have hk4:=(U HK2).below hbw (U HK2).lt
        have hck4:=hk4.cell
        have hlk4:=hk4.lt
        clear hck3 hlk3 hallj hbw hk4
        by_cases hltj:j<3 * b.length+1
        · have hgj:(k2+j:Int)≤k2+3 * (b.length:Int):=by omega
          have HAL:=V (isAlike_any bo aa bc ac2 b a (k1+i) (k1+i+(k2+j)) wr ((U HPB2).below (U HBJ)) ((U HPA).below (U HBJ)) ⟨hl50,hl51⟩ (U HSB) (U HSA) (by omega))
          rw[← U HPE i j]at HAL
          generalize hpij:P i j=pij at *
          have HPIJ:=V hpij
          clear hpij
          go_wp2_with fail
          refine (U HAL).mono ?_
          rintro e w3 ⟨rfl,hb3⟩
          have HB3:Hid (Below w2.heap.size w2 w3):=(U HBJ).trans (hb3.mono (U HBJ).size)
          clear HAL hb3 hck4 hlk4
          cases pij with
          | true =>
            go_wp2_with fail
            go_roundw
            case rel=>exact⟨j+1,by go_num,by omega,by rw[all_next,U HALJ,U HPIJ];rfl,U HB3⟩
            case measure=>simp[intOf];omega
          | false =>
            go_wp2_with fail
            go_ret
            refine⟨?_,(U HBW2).trans ((U HB3).mono (U HBW2).size)⟩
            rw[← U HRES,all_false hlt (all_false hltj (U HPIJ))]
            rfl
        · have hjj:j=3 * b.length+1:=by omega
          subst hjj
          have hgj:¬ (k2+((3 * b.length+1:Nat):Int)≤k2+3 * (b.length:Int)):=by omega
          go_wp2_with fail
          go_roundw
          case rel=>exact⟨i+1,by go_num,by omega,by rw[all_next,U HALL,U HALJ];rfl,U HBJ⟩
          case measure=>simp[intOf];omega
    · have hii:i=3 * b.length+1:=by omega
      subst hii
      have hg:¬ (k1+((3 * b.length+1:Nat):Int)≤k1+3 * (b.length:Int)):=by omega
      go_wp2_with fail
      go_ret
      refine⟨?_,(U HBW2).trans ((U HBW).mono (U HBW2).size)⟩
      rw[← U HRES,U HALL]
      rfl
def reckRun (row:List (Int×Int)):MS×Int×Int:=runM (row++[(5,0)]) (row.length+1) 0 (startM 0 1000 1000 1000 1000 0 0)
def reckonedS (row:List (Int×Int)):Option (List (Int×Int)) :=
  if (row.getD 0 (0,0)).1≠0∨row.all reckS=false then none
  else if (reckRun row).2.1≠0∨row.length≤(reckRun row).1.stack.length then none
  else some ((reckRun row).1.stack.map (fun p=>((0:Int),p)))
theorem reck_ok {row:List (Int×Int)} (h:row.all reckS=true) (hi:∀ x∈row,inI x.2) (hn:row.length≤1000):CodeOk (row++[(5,0)]):=by
  refine⟨fun x hx=>?_,⟨(5,0),by simp,Or.inr (Or.inr rfl)⟩,by simp;omega⟩
  rcases List.mem_append.1 hx with hx|hx
  · have h1:=List.all_eq_true.1 h x hx
    have h2:x.1=0∨9≤x.1∧x.1≤25:=of_decide_eq_true h1
    refine⟨by omega,hi x hx,fun h3=>?_⟩
    exfalso
    unfold namesS at h3
    simp only[Bool.or_eq_true,beq_iff_eq]at h3
    omega
  · simp at hx
    subst hx
    exact⟨by simp,by unfold inI;simp,fun h3=>by simp[namesS]at h3⟩
theorem ints_row {B:Nat} {w:World} {ao:Option Addr} {n k:Nat} {l:List Int} (h:w.ownsRow B 2 1 (.slice ao n k) l.length (intCells l)):IntsL w ao l∧n=l.length:=by
  obtain⟨a,c,hv⟩:=own_shape h
  simp only[Value.slice.injEq]at hv
  obtain⟨rfl,rfl,rfl⟩:=hv
  refine⟨?_,rfl⟩
  rcases h.2 with ⟨e1,e2⟩|⟨g,cap,cur,e,_⟩
  · have:l.length=0:=by
      simp only[Value.slice.injEq]at e1
      exact e1.2.1
    exact Or.inl (List.length_eq_zero_iff.1 this)
  · simp only[Value.slice.injEq]at e
    obtain⟨rfl,_,rfl⟩:=e
    refine Or.inr ⟨g,rfl,(ownsRow_lt h (k:=g) rfl).1,fun j p hj=>?_⟩
    have hjl:j<l.length:=(List.getElem?_eq_some_iff.1 hj).1
    rw[own_cell h j (by omega)]
    unfold intCells
    rw[List.getElem?_map,hj]
    rfl
def pieceAt (row:List (Int×Int)) (op:Nat):Option (Int×Int×Int):=(numGo 0 row (superS op)).map (fun n=>((op:Int),n,((superS op).length:Int)))
def piecesTo (row:List (Int×Int)) (k:Nat):List (Int×Int×Int):=((List.range k).map (·+40)).filterMap (pieceAt row)
def piecesS (row:List (Int×Int)):List (Int×Int×Int):=piecesTo row 20
theorem piecesTo_next (row:List (Int×Int)) (k:Nat):piecesTo row (k+1)=piecesTo row k++(pieceAt row (k+40)).toList:=by
  unfold piecesTo
  rw[List.range_succ,List.map_append,List.filterMap_append]
  cases h:pieceAt row (k+40)<;>simp[h]
theorem piecesTo_len (row:List (Int×Int)) (k:Nat):(piecesTo row k).length≤k:=by
  induction k with
  | zero=>simp[piecesTo]
  | succ k ih =>
    rw[piecesTo_next,List.length_append]
    cases pieceAt row (k+40)<;>simp<;>omega
def pieceCells (l:List (Int×Int×Int)):List Value:=l.flatMap (fun x=>[.int .i64 x.1,.int .i64 x.2.1,.int .i64 x.2.2])
theorem pieceCells_length (l:List (Int×Int×Int)):(pieceCells l).length=l.length * 3:=by
  induction l with
  | nil=>rfl
  | cons x l ih =>
    show (pieceCells (x :: l)).length=_
    unfold pieceCells at ih ⊢
    simp only[List.flatMap_cons,List.length_append,List.length_cons,List.length_nil,ih]
    omega
theorem Tryz.infoPiece:(Tryz.prog.info? 211).map (fun i=>(i.zero,i.size,i.bytes))=some (some (.agg #[.int .i64 0,.int .i64 0,.int .i64 0]),3,24):=by kernel_rfl
theorem oneCells_int3 (a b c:Int):∀ u∈[Value.int .i64 a,.int .i64 b,.int .i64 c],u.oneCell'=true:=by
  intro u hu
  simp at hu
  rcases hu with rfl|rfl|rfl<;>rfl
theorem piecesAt_any (ao:Option Addr) (c:Nat) (row:List (Int×Int)) (w:World) (hin:InL w ao row) (hr:row.length≤100000) :
    Calls Tryz.prog 156 #[.slice ao row.length c] w fun e w'=>∃ v,e=.returned v∧w'.ownsRow w.heap.size 211 3 v (piecesS row).length (pieceCells (piecesS row))∧Below w.heap.size w w':=by
  obtain⟨iP,hiP,hzP0,hzP1,hzP2⟩:=info_parts Tryz.infoPiece
  have HIN:=V hin
  clear hin
  go_enter Tryz.func156,Tryz.ntmps156
  go_wp2_with fail
  go_loopw [3,4] (fun v i wr=>∃ (k:Nat) (a:Option Addr) (n c:Nat),i=.int .i64 ((k+40:Nat):Int)∧v=.slice a n c∧n=(piecesTo row k).length∧k≤20∧wr.ownsRow w.heap.size 211 3 (.slice a n c) n (pieceCells (piecesTo row k))∧Below w.heap.size w wr) (fun _ i _=>60-(intOf i).toNat)
  case atStart=>exact⟨0,none,0,0,rfl,rfl,rfl,by omega,World.ownsRow_nil _ _ _ _,Below.refl _ _⟩
  case round =>
    obtain⟨k,a,n,cc,rfl,rfl,hn,hk,hrow,hbw⟩:=hrel
    have HROW:=V hrow
    have HBW:=V hbw
    have HN:=V hn
    have hn20:n≤20:=by have:=piecesTo_len row k;omega
    clear hn
    by_cases hlt:k<20
    · have hltI:(((k+40:Nat)):Int)≤59:=by omega
      obtain⟨op,hop⟩:∃ op,op=k+40:=⟨_,rfl⟩
      have HSP:=V (superParts_any op ⟨by omega,by omega⟩ wr)
      obtain⟨_,hl3,_⟩:=super_parts op (by omega) (by omega)
      have hnx:=piecesTo_next row k
      rw[← hop]at hltI hnx ⊢
      have hopI:(op:Int)+1=((k+1+40:Nat):Int):=by omega
      have HOP:=V hop
      have HOPI:=V hopI
      have HNX:=V hnx
      clear hop hrow hbw hopI hnx
      go_wp2_with fail
      refine (U HSP).mono ?_
      rintro e w1 ⟨cs,rfl,hcs,hw1⟩
      have hsz:cs.size=(superS op).length:=by have:=congrArg List.length hcs;simpa using this
      have hb1:Below wr.heap.size wr w1:=by rw[hw1];exact below_box wr _
      have hq:IntsAt w1 wr.heap.size (superS op):=by
        have hblk:Blk w1 wr.heap.size cs 3:=by rw[hw1];exact Blk.new wr _ _
        refine⟨hblk.lt,fun j p hj=>?_⟩
        rw[hblk.cell]
        have:cs.toList[j]? = some (.int .i64 p):=by rw[hcs,List.getElem?_map,hj];rfl
        simpa using this
      have HNO:=V (numberOf_any ao c wr.heap.size (superS op).length row (superS op) w1 (((U HIN).below (U HBW)).below hb1) hq hr (by omega))
      rw[hsz]
      have hlI:((superS op).length:Int)≤3:=by omega
      have hrow1:=(LawStill.ofBelow hb1).row (U HROW)
      have HROW1:=V hrow1
      have HBW1:=V ((U HBW).trans (hb1.mono (U HBW).size))
      have hpa:pieceAt row op=(numGo 0 row (superS op)).map (fun n=>((op:Int),n,((superS op).length:Int))):=rfl
      have HPA:=V hpa
      clear hcs hw1 hsz hb1 hq HSP hrow1 hpa
      generalize hres:numGo 0 row (superS op)=res at HNO HPA
      generalize hpl:(superS op).length=pl at *
      clear hres hpl
      go_wp2_with fail
      refine (U HNO).mono ?_
      rintro e w2 ⟨rfl,hw2⟩
      obtain rfl:=hw2.symm
      clear hw2 HNO
      cases res with
      | none =>
        unfold nofV
        go_wp2_with fail
        go_roundw
        case rel =>
          refine⟨k+1,a,n,cc,by rw[← U HOPI],rfl,?_,by omega,?_,U HBW1⟩
          · rw[U HNX,U HPA];simpa using U HN
          · rw[U HNX,U HPA];simpa using U HROW1
        case measure=>simp[intOf];omega
      | some nv =>
        unfold nofV
        have HW:=V (ownsRow_alloc (U HROW1) (.cells #[.int .i64 op,.int .i64 nv,.int .i64 pl] 211))
        have HNB:=V (Blk.new w1 #[.int .i64 op,.int .i64 nv,.int .i64 pl] 211)
        have hBs:w.heap.size≤(w1.alloc (.cells #[.int .i64 op,.int .i64 nv,.int .i64 pl] 211)).heap.size:=by have:=(U HBW1).size;simp;omega
        have HBS:=V hBs
        have HPL:Hid ((pieceCells (piecesTo row k)).length=n * 3):=by rw[pieceCells_length,← U HN];exact V rfl
        clear hBs
        go_wp2_with (at_builtin;refine wpList_append_lies _ rfl (.tmp 21) (.tmp 28) 209 rfl w.heap.size 211 iP _ 3 24 Tryz.underlying209 hiP hzP0 hzP1 hzP2 rfl (by decide) (.slice a n cc) n (pieceCells (piecesTo row k)) (by simp[Act.eval]) (U HW) ⟨w1.heap.size,0,none⟩ 1 1 [.int .i64 op,.int .i64 nv,.int .i64 pl] (by simp[Act.eval]) rfl (World.news_of_block (U HNB)) (oneCells_int3 _ _ _) (by omega) (by unfold maxLen;omega) (by omega) (U HBS) _ rfl ?_;intro g5 cap5 w5 hown hgrow hat hlt1;have HO:=V hown;have HG:=V hgrow;clear hown hgrow hat)
        go_roundw
        case rel =>
          have e2:piecesTo row (k+1)=piecesTo row k++[((op:Int),nv,(pl:Int))]:=by rw[U HNX,U HPA];rfl
          refine⟨k+1,some ⟨g5,0,none⟩,n+1,cap5,by rw[← U HOPI],rfl,?_,by omega,?_,?_⟩
          · rw[e2,List.length_append,← U HN];rfl
          · have ho:=U HO
            have e3:pieceCells (piecesTo row (k+1))=pieceCells (piecesTo row k)++[.int .i64 op,.int .i64 nv,.int .i64 pl]:=by
              rw[e2]
              unfold pieceCells
              rw[List.flatMap_append]
              rfl
            rw[e3]
            exact ho
          · exact ((U HBW1).trans ((below_box w1 _).mono (U HBW1).size)).grown (U HG) (U HBS) (fun j hj=>(ownsRow_lt (U HROW1) hj).2)
        case measure=>simp[intOf];omega
    · have hk20:k=20:=by omega
      subst hk20
      have hN:=U HN
      subst hN
      go_wp2_with fail
      go_ret
      exact⟨_,rfl,U HROW,U HBW⟩
end Go.Proofs.YtmeiikjpaepogaaGreatDoor
