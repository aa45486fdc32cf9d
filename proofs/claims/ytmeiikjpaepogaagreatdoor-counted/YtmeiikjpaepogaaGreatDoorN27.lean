/- The program's options: Fold: what has to do with the stack alone; Jumpz that is decided. -/
import Derived.Test.YtmeiikjpaepogaaGreatDoorN26
import Derived.Laws.StructEq
import Derived.BigQuiet
import Derived.Laws.OwnMore
import Derived.Laws.AppendOwn
import Derived.Lib.AppendZeros
set_option maxRecDepth 100000
set_option maxHeartbeats 4000000
namespace Go.Proofs.YtmeiikjpaepogaaGreatDoor
open Go Go.RowKit
def reckS (x:Int×Int):Bool:=decide (x.1=0∨9≤x.1∧x.1≤25)
theorem areReckoning_any (ao:Option Addr) (c:Nat) (row:List (Int×Int)) (w:World) (hin:InL w ao row) (hn:row.length≤1000000) :
    Calls Tryz.prog 224 #[.slice ao row.length c] w fun e w'=>e=.returned (.bool (row.all reckS))∧Below w.heap.size w w':=by
  have hnI:(row.length:Int)≤1000000:=by omega
  generalize hres:row.all reckS=res
  have HRES:=V hres
  have HIN:=V hin
  clear hin hres
  go_enter Tryz.func224,Tryz.ntmps224
  go_wp2_with fail
  go_loopw [7] (fun i wr=>∃ k:Nat,i=.int .i64 k∧k≤row.length∧(row.drop k).all reckS=res∧Below w.heap.size w wr) (fun i _=>row.length-(intOf i).toNat)
  case atStart=>exact⟨0,rfl,Nat.zero_le _,U HRES,Below.refl _ _⟩
  case round =>
    obtain⟨k,rfl,hk,hrun,hbw⟩:=hrel
    have HBW:=V hbw
    by_cases hlt:k<row.length
    · obtain⟨x,hx⟩:∃ x,row[k]? = some x:=⟨_,List.getElem?_eq_getElem hlt⟩
      obtain⟨g,off,rfl,hgl,c1,c2⟩:=in_at ((U HIN).below hbw) hx
      have hd:row.drop k=x :: row.drop (k+1):=by
        obtain⟨h1,e⟩:=List.getElem?_eq_some_iff.1 hx
        rw[List.drop_eq_getElem_cons h1,e]
      rw[hd,List.all_cons]at hrun
      have hltI:(k:Int)<row.length:=by omega
      have hbN:Below w.heap.size w (wr.alloc (.cells #[.int .i64 x.1,.int .i64 x.2] 65)):=hbw.trans ((below_box wr _).mono hbw.size)
      have HBN:=V hbN
      by_cases hb:x.1=0∨9≤x.1∧x.1≤25
      · have hr:reckS x=true:=decide_eq_true hb
        rw[hr,Bool.true_and]at hrun
        have HRUN:=V hrun
        generalize x.1=o at *
        generalize x.2=v at *
        clear hrun hd hx hr hbw hbN
        by_cases h0:o=0
        · subst h0
          clear hb
          go_wp2_with fail
          go_roundw
          case rel=>exact⟨k+1,by go_num,by omega,U HRUN,U HBN⟩
          case measure=>simp[intOf];omega
        · have h0':(o != 0)=true:=by simpa using h0
          have h9:¬ o<9:=by omega
          have h25:¬ o > 25:=by omega
          have h9':decide (o<9)=false:=decide_eq_false h9
          have h25':decide (25<o)=false:=decide_eq_false (by omega)
          clear hb
          go_wp2_with fail
          go_roundw
          case rel=>exact⟨k+1,by go_num,by omega,U HRUN,U HBN⟩
          case measure=>simp[intOf];omega
      · have hr:reckS x=false:=decide_eq_false hb
        rw[hr,Bool.false_and]at hrun
        subst hrun
        generalize x.1=o at *
        generalize x.2=v at *
        clear hd hx hr hbw hbN
        have h0':(o != 0)=true:=by simp;omega
        by_cases h9:o<9
        · have h9':decide (o<9)=true:=decide_eq_true h9
          clear hb
          go_wp2_with fail
          go_ret
          exact⟨rfl,U HBN⟩
        · have h9':decide (o<9)=false:=decide_eq_false h9
          have h25':decide (25<o)=true:=decide_eq_true (by omega)
          have h25:25<o:=by omega
          clear hb
          go_wp2_with fail
          go_ret
          exact⟨rfl,U HBN⟩
    · have hkk:k=row.length:=by omega
      subst hkk
      rw[List.drop_length]at hrun
      subst hrun
      clear hbw
      go_wp2_with fail
      go_ret
      exact⟨rfl,U HBW⟩
def decidedS (row:List (Int×Int)):Option (List (Int×Int)):=match row with
  | [a,b]=>if a.1=0∧b.1=2 then (if a.2≠0 then some [] else some [(1,b.2)]) else none
  | _=>none
theorem two_of {row:List (Int×Int)} (h:row.length=2):∃ a b,row=[a,b]:=by
  cases row with
  | nil=>cases h
  | cons a r =>
    cases r with
    | nil=>cases h
    | cons b r =>
      cases r with
      | nil=>exact⟨a,b,rfl⟩
      | cons c r=>simp at h
def RuleOut (B:Nat) (w':World) (r:Option (List (Int×Int))) (e:Ending):Prop:=match r with
  | none=>e=.returned (.tuple #[.slice none 0 0,.bool false])
  | some l=>∃ v,e=.returned (.tuple #[v,.bool true])∧w'.ownsRow B 65 2 v l.length (instrCells l)
theorem decided_any (ao:Option Addr) (c:Nat) (row:List (Int×Int)) (w:World) (hin:InL w ao row) (hn:row.length≤1000000) :
    Calls Tryz.prog 200 #[.slice ao row.length c] w fun e w'=>RuleOut w.heap.size w' (decidedS row) e∧Below w.heap.size w w':=by
  have hnI:(row.length:Int)≤1000000:=by omega
  by_cases h2:row.length=2
  · obtain⟨a,b,rfl⟩:∃ a b,row=[a,b]:=two_of h2
    obtain⟨g,off,rfl,hgl,c1,c2⟩:=in_at hin (k:=0) (x:=a) rfl
    obtain⟨g',off',e',hgl',c3,c4⟩:=in_at hin (k:=1) (x:=b) rfl
    simp only[Option.some.injEq,Addr.mk.injEq,and_true]at e'
    obtain⟨rfl,rfl⟩:=e'
    obtain⟨a1,a2⟩:=a
    obtain⟨b1,b2⟩:=b
    simp only[Nat.zero_mul,Nat.add_zero,Nat.one_mul]at c1 c2 c3 c4
    have hlen:(([(a1,a2),(b1,b2)]:List (Int×Int)).length)=2:=rfl
    rw[hlen]
    unfold decidedS
    simp only
    clear hin h2 hn hnI hlen hgl'
    by_cases h:a1=0∧b1=2
    · obtain⟨rfl,rfl⟩:=h
      rw[if_pos ⟨rfl,rfl⟩]
      by_cases h0:a2=0
      · subst h0
        rw[if_neg (by simp)]
        go_enter Tryz.func200,Tryz.ntmps200
        go_wp2_with fail
        go_ret2
        refine⟨⟨_,rfl,?_⟩,below_box w _⟩
        exact⟨rfl,Or.inr ⟨w.heap.size,1,_,rfl,Nat.le_refl _,Blk.new w _ _,Nat.le_refl _,by unfold maxLen;omega,rfl,rfl⟩⟩
      · rw[if_pos h0]
        have h0':(a2 != 0)=true:=by simpa using h0
        clear h0
        go_enter Tryz.func200,Tryz.ntmps200
        go_wp2_with fail
        go_ret2
        exact⟨⟨_,rfl,rfl,Or.inl ⟨rfl,rfl⟩⟩,Below.refl _ _⟩
    · rw[if_neg h]
      by_cases ha:a1=0
      · subst ha
        have hb:(b1 != 2)=true:=by simp;omega
        clear h
        go_enter Tryz.func200,Tryz.ntmps200
        go_wp2_with fail
        go_ret2
        exact⟨rfl,Below.refl _ _⟩
      · have ha':(a1 != 0)=true:=by simpa using ha
        clear h ha
        go_enter Tryz.func200,Tryz.ntmps200
        go_wp2_with fail
        go_ret2
        exact⟨rfl,Below.refl _ _⟩
  · have e:decidedS row=none:=by
      unfold decidedS
      split
      · exact absurd rfl h2
      · rfl
    rw[e]
    have h2':((row.length:Int) != 2)=true:=by simp;omega
    clear hin h2 e
    go_enter Tryz.func200,Tryz.ntmps200
    go_wp2_with fail
    go_ret2
    exact⟨rfl,Below.refl _ _⟩
theorem part_int (t:TypeId) (xs:Array Value) (off:Nat) (v:Value) (hx:xs[off]? = some v) (ht:t=3∨t=2) (w:World):(part t xs off).run Tryz.prog w=.ok v w:=by
  have ha:(isAgg t).run Tryz.prog w=.ok false w:=by
    rcases ht with rfl|rfl
    · exact Tryz.isAgg3 w
    · exact Tryz.isAgg2 w
  simp[part,ha,hx]
theorem neq_instr (a b c d:Int) (w:World):(binOp .neq 65 (.agg #[.int .i64 a,.int .i64 b]) (.agg #[.int .i64 c,.int .i64 d])).run Tryz.prog w=.ok (.bool (!((a == c)&&(b == d)))) w:=by
  have hu:Tryz.prog.underlying 65=some (.struct (Tryz.prog.fieldsOf 65)):=by kernel_rfl
  have hp:Tryz.prog.stoodInHeld 65=false:=by kernel_rfl
  have hf : (Tryz.prog.fieldsOf 65).toList.map (fun f => (decide (f.name = "_"), f.type, f.offset)) = [(false, 3, 0), (false, 2, 1)] := by kernel_rfl
  rw[run_neq_struct,run_equalIn_agg _ _ _ _ _ hu hp]
  generalize (Tryz.prog.fieldsOf 65).toList=fs at hf
  obtain⟨f,r,rfl⟩:∃ f r,fs=f :: r:=by cases fs with|nil=>simp at hf|cons f r=>exact⟨f,r,rfl⟩
  obtain⟨g,r,rfl⟩:∃ f s,r=f :: s:=by cases r with|nil=>simp at hf|cons f r=>exact⟨f,r,rfl⟩
  obtain rfl:r=[]:=by cases r with|nil=>rfl|cons f r=>simp at hf
  simp only[List.map_cons,List.map_nil,List.cons.injEq,Prod.mk.injEq,and_true,decide_eq_false_iff_not]at hf
  obtain⟨⟨hn1,ht1,ho1⟩,hn2,ht2,ho2⟩:=hf
  have p1:=part_int f.type #[.int .i64 a,.int .i64 b] f.offset (.int .i64 a) (by rw[ho1];rfl) (Or.inl ht1) w
  have p2:=part_int f.type #[.int .i64 c,.int .i64 d] f.offset (.int .i64 c) (by rw[ho1];rfl) (Or.inl ht1) w
  have p3:=part_int g.type #[.int .i64 a,.int .i64 b] g.offset (.int .i64 b) (by rw[ho2];rfl) (Or.inr ht2) w
  have p4:=part_int g.type #[.int .i64 c,.int .i64 d] g.offset (.int .i64 d) (by rw[ho2];rfl) (Or.inr ht2) w
  have e1:(Op.equalIn 9999 f.type (.int .i64 a) (.int .i64 c)).run Tryz.prog w=.ok (a == c) w:=run_equalIn_int w 9998 f.type .i64 .i64 a c (by rw[ht1];exact Tryz.underlying3)
  have e2:(Op.equalIn 9999 g.type (.int .i64 b) (.int .i64 d)).run Tryz.prog w=.ok (b == d) w:=run_equalIn_int w 9998 g.type .i64 .i64 b d (by rw[ht2];exact Tryz.underlying2)
  simp only[Op.eqFields,hn1,hn2,ne_eq,not_false_eq_true,if_true,Sem.run_bind,p1,p2,p3,p4,e1,e2,Result.andThen_ok,Sem.run_ite,Sem.run_pure]
  cases hac:(a == c)<;>cases hbd:(b == d)<;>simp
theorem guard_instr (op:BinOp) (x y:Operand) (xs ys:Array Value) (w:World):(eqGuard op 65 x y (.agg xs) (.agg ys)).run Tryz.prog w=.ok () w :=
  run_eqGuard_agg w op 65 x y xs ys (by kernel_rfl)
theorem bothGo {a b:Int×Int}:((a.1 == b.1)&&(a.2 == b.2))=(a == b):=rfl
theorem equal_any (ao bo:Option Addr) (c d:Nat) (a b:List (Int×Int)) (w:World) (ha:InL w ao a) (hb:InL w bo b) (hn:a.length≤1000000∧b.length≤1000000) :
    Calls Tryz.prog 229 #[.slice ao a.length c,.slice bo b.length d] w fun e w'=>e=.returned (.bool (a == b))∧Below w.heap.size w w':=by
  have hnI:(a.length:Int)≤1000000∧(b.length:Int)≤1000000:=by omega
  by_cases hl:a.length=b.length
  · generalize hres:(a == b)=res
    have HRES:=V hres
    have HA:=V ha
    have HB:=V hb
    have HN:=V neq_instr
    have HG:=V guard_instr
    rw[← hl]
    have hlI:((a.length:Int) != a.length)=false:=by simp
    clear ha hb hres
    go_enter Tryz.func229,Tryz.ntmps229
    go_wp2_with fail
    go_loopw [13] (fun i wr=>∃ k:Nat,i=.int .i64 k∧k≤a.length∧(a.drop k == b.drop k)=res∧Below w.heap.size w wr) (fun i _=>a.length-(intOf i).toNat)
    case atStart=>exact⟨0,rfl,Nat.zero_le _,U HRES,Below.refl _ _⟩
    case round =>
      obtain⟨k,rfl,hk,hrun,hbw⟩:=hrel
      have HBW:=V hbw
      by_cases hlt:k<a.length
      · obtain⟨x,hx⟩:∃ x,a[k]? = some x:=⟨_,List.getElem?_eq_getElem hlt⟩
        obtain⟨y,hy⟩:∃ y,b[k]? = some y:=⟨_,List.getElem?_eq_getElem (by omega)⟩
        obtain⟨g,off,rfl,hgl,c1,c2⟩:=in_at ((U HA).below hbw) hx
        obtain⟨g',off',rfl,hgl',c3,c4⟩:=in_at ((U HB).below hbw) hy
        have hd1:a.drop k=x :: a.drop (k+1):=by
          obtain⟨h1,e⟩:=List.getElem?_eq_some_iff.1 hx
          rw[List.drop_eq_getElem_cons h1,e]
        have hd2:b.drop k=y :: b.drop (k+1):=by
          obtain⟨h1,e⟩:=List.getElem?_eq_some_iff.1 hy
          rw[List.drop_eq_getElem_cons h1,e]
        rw[hd1,hd2,List.cons_beq_cons]at hrun
        have hltI:(k:Int)<a.length:=by omega
        have hne:=U HN x.1 x.2 y.1 y.2
        rw[bothGo]at hne
        have hgd:=U HG
        have HRUN:=V hrun
        have HBD:Hid (∀ n,Below w.heap.size w (wr.drewN n)):=fun n=>below_drawn hbw n
        obtain⟨x1,x2⟩:=x
        obtain⟨y1,y2⟩:=y
        generalize hxy:(((x1,x2):Int×Int) == (y1,y2))=q at *
        simp only at c1 c2 c3 c4 hne
        clear hrun hd1 hd2 hx hy hbw hxy
        cases q with
        | true =>
          go_wp2_with fail
          go_quiet (fail)
          go_wp2_with fail
          go_roundw
          case rel=>exact⟨k+1,by go_num,by omega,by simpa using U HRUN,U HBD _⟩
          case measure=>simp[intOf];omega
        | false =>
          go_wp2_with fail
          go_quiet (fail)
          go_wp2_with fail
          go_ret
          have:=U HRUN
          simp only[Bool.false_and]at this
          rw[← this]
          exact⟨rfl,U HBD _⟩
      · have hkk:k=a.length:=by omega
        subst hkk
        rw[List.drop_length,hl,List.drop_length]at hrun
        subst hrun
        clear hbw
        go_wp2_with fail
        go_ret
        exact⟨rfl,U HBW⟩
  · have e:(a == b)=false:=by
      cases hc:(a == b) with
      | false=>rfl
      | true=>exact absurd (congrArg List.length (eq_of_beq hc)) hl
    rw[e]
    have hlI:((a.length:Int) != b.length)=true:=by simp;omega
    clear ha hb e hl
    go_enter Tryz.func229,Tryz.ntmps229
    go_wp2_with fail
    go_ret
    exact⟨rfl,Below.refl _ _⟩
def isS (pat:List (Int×Int)) (short:List Int) (row:List (Int×Int)):Option (List (Int×Int)):=if row == pat then some (short.map (fun p=>(p,(0:Int)))) else none
theorem is1_any (ao po so:Option Addr) (c pc sc b1 b2:Nat) (row pat:List (Int×Int)) (short:List Int) (w:World) (hin:InL w ao row) (hpat:InL w po pat) (hsh:IntsL w so short) (h1:Blk w b1 #[.slice po pat.length pc] 33) (h2:Blk w b2 #[.slice so short.length sc] 115) (hn:row.length≤1000000∧pat.length≤1000000∧short.length≤1000) :
    Calls Tryz.prog 228 #[.slice ao row.length c,.pointer (some ⟨b1,0,none⟩),.pointer (some ⟨b2,0,none⟩)] w fun e w'=>RuleOut w.heap.size w' (isS pat short row) e∧Below w.heap.size w w':=by
  have HE:=V (equal_any ao po c pc row pat w hin hpat ⟨hn.1,hn.2.1⟩)
  have HO:Hid (∀ W,Below w.heap.size w W→Calls Tryz.prog 202 #[.slice so short.length sc] W fun e w'=>∃ g,e=.returned (.slice (some ⟨g,0,none⟩) short.length short.length)∧w'.ownsRow W.heap.size 65 2 (.slice (some ⟨g,0,none⟩) short.length short.length) short.length (instrCells (short.map (fun p=>(p,(0:Int)))))∧Below W.heap.size W w'):=fun W hW=>ops_any so sc short W (hsh.below hW) hn.2.2
  have HK:Hid (∀ W,Below w.heap.size w W→Blk W b2 #[.slice so short.length sc] 115):=fun W hW=>h2.below hW h2.lt
  have c1:=h1.cell
  have c2:=h2.cell
  have l1:=h1.lt
  have l2:=h2.lt
  unfold isS
  generalize hq:(row == pat)=q at *
  clear hin hpat hsh h1 h2 hq
  go_enter Tryz.func228,Tryz.ntmps228
  go_wp2_with fail
  refine (U HE).mono ?_
  rintro e w1 ⟨rfl,hb1⟩
  have k2:=U HK w1 hb1
  have c3:=k2.cell
  have l3:=k2.lt
  have HB1:=V hb1
  clear HE hb1 k2 HK c1 c2 l1 l2
  cases q with
  | false =>
    go_wp2_with fail
    go_ret2
    exact⟨rfl,U HB1⟩
  | true =>
    go_wp2_with fail
    refine (U HO w1 (U HB1)).mono ?_
    rintro e w2 ⟨g,rfl,hrow,hb2⟩
    have HROW:=V hrow
    have HB2:=V hb2
    clear HO hrow hb2
    go_wp2_with fail
    go_ret2
    refine⟨⟨_,rfl,?_⟩,(U HB1).trans ((U HB2).mono (U HB1).size)⟩
    rw[List.length_map]
    exact ownsRow_base (U HROW) (U HB1).size
theorem run_append_none (w:World) (B:Nat) (ty:TypeId) (v:Value) (n c:Nat) (xs:List Value) (hown:w.ownsRow B 65 2 v n xs) :
    (Builtin.append_ #[33,33] ty #[v,.slice none 0 c]).run Tryz.prog w=.ok v w:=by
  obtain⟨i,hi,_⟩:=info_parts Tryz.infoInstr
  rcases hown.2 with ⟨rfl,rfl⟩|⟨g,cap,cur,rfl,_,_,hnc,_⟩
  · simp[Builtin.append_,run_underlying Tryz.underlying33,sizeOf,typeInfo,hi,Builtin.lenOf,Builtin.firstCells]
  · simp[Builtin.append_,run_underlying Tryz.underlying33,sizeOf,typeInfo,hi,Builtin.lenOf,Builtin.firstCells,hnc,storeCells]
def OwnI (B:Nat) (w:World) (v:Value) (l:List (Int×Int)):Prop:=w.ownsRow B 65 2 v l.length (instrCells l)
theorem OwnI.isIn {B:Nat} {w:World} {ao:Option Addr} {n c:Nat} {l:List (Int×Int)} (h:OwnI B w (.slice ao n c) l):InL w ao l∧n=l.length:=by
  unfold OwnI at h
  obtain⟨a,k,hv⟩:=own_shape h
  simp only[Value.slice.injEq]at hv
  obtain⟨rfl,rfl,rfl⟩:=hv
  refine⟨?_,rfl⟩
  rcases h.2 with ⟨e1,e2⟩|⟨g,cap,cur,e,_⟩
  · have:l.length=0:=by
      simp only[Value.slice.injEq]at e1
      exact e1.2.1
    exact Or.inl (List.length_eq_zero_iff.1 this)
  · simp only[Value.slice.injEq]at e
    obtain⟨rfl,_,rfl⟩:=e
    refine Or.inr ⟨g,0,rfl,(ownsRow_lt h (k:=g) rfl).1,fun j u hu=>?_⟩
    have:=own_news h j u hu
    rw[addr_off]at this
    exact this
theorem wpList_appI {w:World} {ops:Array Oper} {rest:List Oper} {o:Oper} {a:Act} {Q:Exit→Act→World→Prop} (hgd:o.guard=none) (s x:Operand)
    (ho:o.op=.call { callee:=.builtin .append,args:=#[s,x],argTypes:=#[33,33] })
    (B:Nat) (w0:World) (v:Value) (l l2:List (Int×Int)) (ao:Option Addr) (c:Nat) (hs:a.eval s=v) (hx:a.eval x=.slice ao l2.length c) (hown:OwnI B w v l) (hin:InL w ao l2) (hsm:l.length+l2.length≤1000000) (hb:Below B w0 w) (hB:B≤w.heap.size) (dst:Option Tmp) (hdst:o.dst=dst)
    (h:∀ ao' c' w',Hid (OwnI B w' (.slice ao' (l++l2).length c') (l++l2))→Hid (Below B w0 w')→wpList Tryz.prog ops Q rest (a.put dst (.slice ao' (l++l2).length c')) w') :
    wpList Tryz.prog ops Q (o :: rest) a w:=by
  subst hdst
  obtain⟨iI,hiI,hzI0,hzI1,hzI2⟩:=info_parts Tryz.infoInstr
  unfold OwnI at hown
  cases ao with
  | none =>
    obtain rfl:l2=[]:=by
      rcases hin with h0|⟨g,off,e,_⟩
      · exact h0
      · cases e
    refine wpList_plain hgd fun K hK=>?_
    have hrun:=run_append_none w B o.type v l.length c _ hown
    obtain⟨a1,k1,hv⟩:=own_shape hown
    have hfin:=h a1 k1 w (V (by rw[← List.append_nil l]at hown;rw[hv]at hown;simpa [OwnI] using hown)) (V hb)
    unfold Oper.wp
    simp only[List.length_nil]at hx
    simp[execOp,ho,resolve,invoke,builtin,hs,hx,hrun,Result.andThen]
    refine hK _ _ ?_
    rw[hv]
    simpa using hfin
  | some ad =>
    have hnews:∀ j u,(instrCells l2)[j]? = some u→w.cell? (ad.add j)=some u:=by
      rcases hin with rfl|⟨g,off,e,_,h3⟩
      · intro j u hu;simp[instrCells]at hu
      · simp only[Option.some.injEq]at e
        subst e
        intro j u hu
        rw[addr_off]
        exact h3 j u hu
    refine wpList_append_own w hgd s x 33 ho B 65 iI _ 2 16 Tryz.underlying33 hiI hzI0 hzI1 hzI2 rfl (by decide) v l.length (instrCells l) hs hown ad l2.length c (instrCells l2) hx (instrCells_length l2) hnews (instr_oneCell l2) (by unfold maxLen;omega) (by omega) hB ?_
    intro v' w' hown' hgrow _
    obtain⟨a1,k1,hv⟩:=own_shape hown'
    subst hv
    have e:(l++l2).length=l.length+l2.length:=List.length_append
    have:=h a1 k1 w' (V (by unfold OwnI;rw[e,instr_app];exact hown')) (V (hb.grown hgrow hB (fun j hj=>(ownsRow_lt hown hj).2)))
    rw[e]at this
    exact this
theorem ints_new (w:World) (cs:Array Value) (ps:List Int) (h:cs=(ps.map (fun p=>Value.int .i64 p)).toArray) (T:TypeId):IntsL (w.alloc (.cells cs T)) (some ⟨w.heap.size,0,none⟩) ps:=by
  refine Or.inr ⟨w.heap.size,rfl,(Blk.new w cs T).lt,fun j p hj=>?_⟩
  rw[(Blk.new w cs T).cell,h]
  simp[hj]
def RowOut (w:World) (l:List (Int×Int)) (e:Ending) (w':World):Prop:=∃ ao c,e=.returned (.slice ao l.length c)∧OwnI w.heap.size w' (.slice ao l.length c) l∧Below w.heap.size w w'
theorem ops_out (ao:Option Addr) (c:Nat) (ps:List Int) (w:World) (hq:IntsL w ao ps) (hn:ps.length≤1000) :
    Calls Tryz.prog 202 #[.slice ao ps.length c] w (RowOut w (ps.map (fun p=>(p,(0:Int))))):=by
  refine (ops_any ao c ps w hq hn).mono ?_
  rintro e w' ⟨g,rfl,h1,h2⟩
  have el:(ps.map (fun p=>(p,(0:Int)))).length=ps.length:=List.length_map ..
  exact⟨_,_,by rw[el],by unfold OwnI;rw[el];exact h1,h2⟩
theorem lits_out (ao:Option Addr) (c:Nat) (ps:List Int) (w:World) (hq:IntsL w ao ps) (hn:ps.length≤1000000) :
    Calls Tryz.prog 226 #[.slice ao ps.length c] w (RowOut w (ps.map (fun p=>((0:Int),p)))):=by
  refine (lits_any ao c ps w hq hn).mono ?_
  rintro e w' ⟨g,rfl,h1,h2⟩
  have el:(ps.map (fun p=>((0:Int),p))).length=ps.length:=List.length_map ..
  exact⟨_,_,by rw[el],by unfold OwnI;rw[el];exact h1,h2⟩
theorem OwnI.below {B:Nat} {w w':World} {v:Value} {l:List (Int×Int)} (h:OwnI B w v l) (hb:Below w.heap.size w w'):OwnI B w' v l:=by
  unfold OwnI at h ⊢
  exact (LawStill.ofBelow hb).row h
theorem OwnI.base {B B':Nat} {w:World} {v:Value} {l:List (Int×Int)} (h:OwnI B w v l) (hb:B'≤B):OwnI B' w v l:=by
  unfold OwnI at h ⊢
  exact ownsRow_base h hb
theorem litAnd_any (n:Int) (ao:Option Addr) (c:Nat) (ps:List Int) (w:World) (hq:IntsL w ao ps) (hn:ps.length≤1000) :
    Calls Tryz.prog 203 #[.int .i64 n,.slice ao ps.length c] w (RowOut w ((0,n) :: ps.map (fun p=>(p,(0:Int))))):=by
  have HL:=V (lits_out (some ⟨w.heap.size,0,none⟩) 1 [n] (w.alloc (.cells #[.int .i64 n] 2)) (ints_new w _ [n] rfl _) (by simp))
  have HO:Hid (∀ W,Below w.heap.size w W→Calls Tryz.prog 202 #[.slice ao ps.length c] W (RowOut W (ps.map (fun p=>(p,(0:Int)))))):=fun W hW=>ops_out ao c ps W (hq.below hW) hn
  have HB0:=V (below_box w (.cells #[.int .i64 n] 2))
  clear hq
  go_enter Tryz.func203,Tryz.ntmps203
  go_wp2_with fail
  refine (U HL).mono ?_
  rintro e w1 ⟨a1,c1,rfl,ho1,hb1⟩
  have HB1:Hid (Below w.heap.size w w1):=(U HB0).trans (hb1.mono (U HB0).size)
  have HO1:=V (ho1.base (U HB0).size)
  clear HL ho1 hb1
  go_wp2_with fail
  refine (U HO w1 (U HB1)).mono ?_
  rintro e w2 ⟨a2,c2,rfl,ho2,hb2⟩
  have HB2:Hid (Below w.heap.size w w2):=(U HB1).trans (hb2.mono (U HB1).size)
  have HO2:=V ((U HO1).below hb2)
  have HI2:=V (ho2.isIn).1
  clear HO HO1 ho2 hb2
  go_wp2_with (at_builtin;refine wpList_appI rfl (.tmp 7) (.tmp 9) rfl w.heap.size w _ _ (ps.map (fun p=>(p,(0:Int)))) a2 c2 (by simp[Act.eval]) (by simp[Act.eval]) (U HO2) (U HI2) (by simp;omega) (U HB2) (U HB2).size _ rfl ?_;intro a3 c3 w3 HO3 HB3)
  go_ret
  exact⟨a3,c3,by simp,by simpa using U HO3,U HB3⟩
theorem zeroCells_two (n:Nat):(Builtin.zeroCells (Value.agg #[.int .i64 0,.int .i64 0]).cells n).size=n * 2:=by
  simp[Builtin.zeroCells,Value.cells]
theorem growNil_any (n:Nat) (w:World) (hn:n≤1000000) :
    Calls Tryz.prog 238 #[.slice none 0 0,.int .i64 n] w (RowOut w []):=by
  have h1:¬ ((n:Int)<0):=by omega
  have h3:IntKind.i64.wrap ((n:Int)-0)=n:=by rw[IntKind.wrap_i64];omega
  obtain⟨iI,hiI,hzI0,hzI1,hzI2⟩:=info_parts Tryz.infoInstr
  by_cases h0:n=0
  · subst h0
    go_enter Tryz.func238,Tryz.ntmps238
    go_wp2_with fail
    go_ret
    exact⟨none,0,rfl,⟨rfl,Or.inl ⟨rfl,rfl⟩⟩,Below.refl _ _⟩
  · have h4:(n:Int) > 0:=by omega
    have hrz:∀ ty,(Builtin.append_ #[33,3] ty #[.slice none 0 0,.int .i64 n]).run Tryz.prog w=_:=fun ty=>Lib.run_append_nil_zeros w 33 3 ty 65 iI _ .i64 .i64 Tryz.underlying33 Tryz.underlying3 hiI hzI0 n (by omega) (by omega) (by omega) (by rw[hzI2];omega)
    have hG1:=grownCap_ge w n 0 65
    have hG2:=grownCap_le_maxLen w n 0 65 (by unfold maxLen;omega)
    have HR:=V hrz
    generalize grownCap w n 0 65=G at *
    have hG63:(G:Int)≤9223372036854775807:=by unfold maxLen at hG2;omega
    have HOW:Hid (OwnI w.heap.size (w.drew.alloc (.cells (Builtin.zeroCells (Value.agg #[.int .i64 0,.int .i64 0]).cells n++Builtin.zeroCells (Value.agg #[.int .i64 0,.int .i64 0]).cells (G-n)) 65)) (.slice (some ⟨w.heap.size,0,none⟩) 0 G) []):=by
      refine⟨rfl,Or.inr ⟨w.heap.size,G,_,rfl,Nat.le_refl _,Blk.new w.drew _ _,Nat.zero_le _,hG2,?_,by simp[instrCells]⟩⟩
      rw[Array.size_append,zeroCells_two,zeroCells_two]
      omega
    have HBE:Hid (Below w.heap.size w (w.drew.alloc (.cells (Builtin.zeroCells (Value.agg #[.int .i64 0,.int .i64 0]).cells n++Builtin.zeroCells (Value.agg #[.int .i64 0,.int .i64 0]).cells (G-n)) 65))):=(below_drawn (Below.refl _ _) 1).trans (below_box w.drew _)
    clear hrz
    go_enter Tryz.func238,Tryz.ntmps238
    go_wp2_with (at_builtin;refine Lib.wpList_append_run _ rfl _ _ _ _ rfl _ _ rfl rfl _ _ (U HR _) ?_)
    all_goals (go_ret;exact⟨_,_,rfl,U HOW,U HBE⟩)
def RowsAt (w:World) (q:Nat) (rs:List (Option Addr×Nat×List (Int×Int))):Prop:=q<w.heap.size∧∀ j r,rs[j]? = some r→w.cell? ⟨q,j,none⟩=some (.slice r.1 r.2.2.length r.2.1)∧InL w r.1 r.2.2
theorem RowsAt.below {w w':World} {q:Nat} {rs:List (Option Addr×Nat×List (Int×Int))} (h:RowsAt w q rs) (hb:Below w.heap.size w w'):RowsAt w' q rs :=
  ⟨by have:=hb.size;have:=h.1;omega,fun j r hj=>⟨by rw[hb.cell (by simpa using h.1)];exact (h.2 j r hj).1,(h.2 j r hj).2.below hb⟩⟩
def catS (rs:List (Option Addr×Nat×List (Int×Int))):List (Int×Int):=rs.flatMap (fun r=>r.2.2)
theorem catS_next {rs:List (Option Addr×Nat×List (Int×Int))} {k:Nat} {r:Option Addr×Nat×List (Int×Int)} (h:rs[k]? = some r):catS (rs.take (k+1))=catS (rs.take k)++r.2.2:=by
  unfold catS
  rw[List.take_add_one,h,List.flatMap_append]
  simp
theorem catS_le (rs:List (Option Addr×Nat×List (Int×Int))) (k:Nat):(catS (rs.take k)).length≤(catS rs).length:=by
  have:catS rs=catS (rs.take k)++catS (rs.drop k):=by
    unfold catS
    rw[← List.flatMap_append,List.take_append_drop]
  rw[this,List.length_append]
  omega
theorem concat_any (q cq:Nat) (rs:List (Option Addr×Nat×List (Int×Int))) (w:World) (hq:RowsAt w q rs) (hn:rs.length≤1000) (hs:(catS rs).length≤1000000) :
    Calls Tryz.prog 225 #[.slice (some ⟨q,0,none⟩) rs.length cq] w (RowOut w (catS rs)):=by
  have hnI:(rs.length:Int)≤1000:=by omega
  have HQ:=V hq
  have hql:=hq.1
  clear hq
  go_enter Tryz.func225,Tryz.ntmps225
  go_wp2_with fail
  go_loopw [3,11] (fun sv i wr=>∃ k:Nat,i=.int .i64 k∧k≤rs.length∧sv=.int .i64 ((catS (rs.take k)).length:Nat)∧wr=w) (fun _ i _=>rs.length-(intOf i).toNat)
  case atStart=>exact⟨0,rfl,Nat.zero_le _,rfl,rfl⟩
  case round =>
    obtain⟨k,rfl,hk,rfl,hw⟩:=hrel
    obtain rfl:=hw.symm
    clear hw
    by_cases hlt:k<rs.length
    · obtain⟨r,hr⟩:∃ r,rs[k]? = some r:=⟨_,List.getElem?_eq_getElem hlt⟩
      obtain⟨hc,_⟩:=(U HQ).2 k r hr
      have hltI:(k:Int)<rs.length:=by omega
      have e1:=congrArg List.length (catS_next hr)
      rw[List.length_append]at e1
      have e2:=catS_le rs (k+1)
      have HE1:=V e1
      have hsum:IntKind.i64.wrap (((catS (rs.take k)).length:Int)+(r.2.2.length:Int))=((catS (rs.take k)).length:Int)+(r.2.2.length:Int):=by rw[IntKind.wrap_i64];omega
      have hpos:¬ (((catS (rs.take k)).length:Int)+(r.2.2.length:Int)<0):=by omega
      have hb1:((catS (rs.take k)).length:Int)≤1000000:=by omega
      have hb2:(r.2.2.length:Int)≤1000000:=by omega
      generalize (catS (rs.take k)).length=m at *
      generalize r.2.2.length=rl at *
      clear e1 e2 hr
      go_wp2_with fail
      go_roundw
      case rel=>exact⟨k+1,by go_num,by omega,by rw[U HE1];first|rfl|go_num,trivial⟩
      case measure=>simp[intOf];omega
    · have hkk:k=rs.length:=by omega
      subst hkk
      rw[List.take_length]
      have HGR:=V (growNil_any (catS rs).length w hs)
      go_wp2_with fail
      refine (U HGR).mono ?_
      rintro e w1 ⟨a1,c1,rfl,ho1,hb1⟩
      have HO1:=V ho1
      have HB1:=V hb1
      clear HGR ho1 hb1
      go_wp2_with fail
      go_loopw [6,27] (fun sv i w2=>∃ (k:Nat) (ao:Option Addr) (c:Nat),i=.int .i64 k∧k≤rs.length∧sv=.slice ao (catS (rs.take k)).length c∧OwnI w.heap.size w2 (.slice ao (catS (rs.take k)).length c) (catS (rs.take k))∧Below w.heap.size w w2) (fun _ i _=>rs.length-(intOf i).toNat)
      case atStart=>exact⟨0,a1,c1,rfl,Nat.zero_le _,rfl,U HO1,U HB1⟩
      case round =>
        obtain⟨k,ao,c,rfl,hk,rfl,hown,hbw⟩:=hrel
        have HOWN:=V hown
        have HBW:=V hbw
        by_cases hlt:k<rs.length
        · obtain⟨r,hr⟩:∃ r,rs[k]? = some r:=⟨_,List.getElem?_eq_getElem hlt⟩
          obtain⟨hc,hin⟩:=((U HQ).below hbw).2 k r hr
          have hqb:=((U HQ).below hbw).1
          have hltI:(k:Int)<rs.length:=by omega
          have HNX:=V (catS_next hr)
          have e1:=congrArg List.length (catS_next hr)
          rw[List.length_append]at e1
          have e2:=catS_le rs (k+1)
          have hsm:(catS (rs.take k)).length+r.2.2.length≤1000000:=by omega
          have HIN:=V hin
          generalize catS (rs.take k)=l1 at *
          obtain⟨ra,rc,rl⟩:=r
          simp only at hc HIN HNX hsm
          clear e1 e2 hr hown hbw hin
          go_wp2_with (at_builtin;refine wpList_appI rfl (.tmp 31) (.tmp 32) rfl w.heap.size w _ l1 rl ra rc (by simp[Act.eval]) (by simp[Act.eval]) (U HOWN) (U HIN) hsm (U HBW) (U HBW).size _ rfl ?_;intro a3 c3 w3 HO3 HB3)
          go_roundw
          case rel =>
            refine⟨k+1,a3,c3,by go_num,by omega,?_,?_,U HB3⟩
            · rw[U HNX];simp
            · rw[U HNX];exact U HO3
          case measure=>simp[intOf];omega
        · have hkk:k=rs.length:=by omega
          subst hkk
          rw[List.take_length]at HOWN ⊢
          clear hown hbw
          go_wp2_with fail
          go_ret
          exact⟨ao,c,rfl,U HOWN,U HBW⟩
def goalS (l:List (Int×Int)):Nat→Int→Int
  | 0,k=>k
  | n + 1, k => match l[k.toNat]? with
    | some x=>if x.1=1 then goalS l n x.2 else k
    | none=>k
theorem goal_any (ao:Option Addr) (c:Nat) (l:List (Int×Int)) (k:Int) (w:World) (hin:InL w ao l) (hn:l.length≤1000000) (hj:∀ x∈l,x.1=1→0≤x.2∧x.2<l.length) (hk:0≤k∧k<l.length) :
    Calls Tryz.prog 153 #[.slice ao l.length c,.int .i64 k] w fun e w'=>e=.returned (.int .i64 (goalS l l.length k))∧w'=w:=by
  have hnI:(l.length:Int)≤1000000:=by omega
  generalize hres:goalS l l.length k=res
  have HRES:=V hres
  have HIN:=V hin
  have HJ:=V hj
  have HKK:=V hk
  clear hin hj hres hk
  go_enter Tryz.func153,Tryz.ntmps153
  go_wp2_with fail
  go_loopw [1,7] (fun kv i wr=>∃ (n:Nat) (u:Int),i=.int .i64 n∧kv=.int .i64 u∧n≤l.length∧(0≤u∧u<l.length)∧goalS l (l.length-n) u=res∧wr=w) (fun _ i _=>l.length-(intOf i).toNat)
  case atStart=>exact⟨0,k,rfl,rfl,Nat.zero_le _,U HKK,U HRES,rfl⟩
  case round =>
    obtain⟨n,u,rfl,rfl,hnl,hu,hrun,hw⟩:=hrel
    obtain rfl:=hw.symm
    clear hw
    by_cases hlt:n<l.length
    · obtain⟨un,rfl⟩:∃ un:Nat,u=un:=⟨u.toNat,by omega⟩
      obtain⟨x,hx⟩:∃ x,l[un]? = some x:=⟨_,List.getElem?_eq_getElem (by omega)⟩
      obtain⟨g,off,rfl,hgl,c1,c2⟩:=in_at (U HIN) hx
      have hltI:(n:Int)<l.length:=by omega
      have e:l.length-n=(l.length-(n+1))+1:=by omega
      rw[e]at hrun
      unfold goalS at hrun
      simp only[Int.toNat_natCast,hx]at hrun
      have hxm:=List.mem_of_getElem? hx
      by_cases h1:x.1=1
      · rw[if_pos h1]at hrun
        have hnx:=U HJ x hxm h1
        rw[h1]at c1
        have HRUN:=V hrun
        clear hrun hx e hxm h1
        go_wp2_with fail
        go_roundw
        case rel=>exact⟨n+1,x.2,by go_num,rfl,by omega,hnx,U HRUN,trivial⟩
        case measure=>simp[intOf];omega
      · rw[if_neg h1]at hrun
        have h1':(x.1 != 1)=true:=by simpa using h1
        subst hrun
        clear hx e hxm h1
        go_wp2_with fail
        go_ret
        exact⟨rfl,rfl⟩
    · have hkk:n=l.length:=by omega
      subst hkk
      rw[Nat.sub_self]at hrun
      unfold goalS at hrun
      subst hrun
      go_wp2_with fail
      go_ret
      exact⟨rfl,rfl⟩
def renS (nums:List Int) (x:Int×Int):Int×Int:=if namesS x.1=true then (x.1,nums.getD x.2.toNat 0) else x
def renamedS (nums:List Int) (row:List (Int×Int)):List (Int×Int):=row.map (renS nums)
theorem renamed_any (q cq c:Nat) (ao:Option Addr) (nums:List Int) (row:List (Int×Int)) (w:World) (hq:IntsAt w q nums) (hin:InL w ao row) (hn:row.length≤1000000∧nums.length≤1000000) (hj:∀ x∈row,namesS x.1=true→0≤x.2∧x.2<nums.length) :
    Calls Tryz.prog 157 #[.slice (some ⟨q,0,none⟩) nums.length cq,.slice ao row.length c] w (RowOut w (renamedS nums row)):=by
  have hnI:(row.length:Int)≤1000000∧(nums.length:Int)≤1000000:=by omega
  have hmk:=run_make2 row.length (by omega)
  have hrow0:=made_row w row.length (by omega)
  have hb0:=below_box w (.cells (madeCells #[.int .i64 0,.int .i64 0] (row.length * 2)) 65)
  have HROW0:=V hrow0
  have HB0:=V hb0
  have HQ:=V hq
  have HIN:=V hin
  have HJ:=V hj
  obtain⟨f,hf⟩:∃ f:Nat→Int×Int,f=fun i=>renS nums (row.getD i (0,0)):=⟨_,rfl⟩
  have HF:Hid (∀ i x,row[i]? = some x→f i=renS nums x):=fun i x hx=>by rw[hf];simp[List.getD,hx]
  clear hrow0 hb0 hq hf hin hj
  go_enter Tryz.func157,Tryz.ntmps157
  go_wp2_with fail
  go_loopw [13] (fun i wr=>∃ k:Nat,i=.int .i64 k∧k≤row.length∧wr.ownsRow w.heap.size 65 2 (.slice (some ⟨w.heap.size,0,none⟩) row.length row.length) row.length (instrCells (fillS f row.length k))∧Below w.heap.size w wr) (fun i _=>row.length-(intOf i).toNat)
  case atStart=>exact⟨0,rfl,Nat.zero_le _,by rw[fillS_zero];exact U HROW0,U HB0⟩
  case round =>
    clear hmk
    obtain⟨k,rfl,hk,hrow,hbw⟩:=hrel
    have HROW:=V hrow
    have HBW:=V hbw
    by_cases hlt:k<row.length
    · obtain⟨x,hx⟩:∃ x,row[k]? = some x:=⟨_,List.getElem?_eq_getElem hlt⟩
      obtain⟨g,off,rfl,hgl,c1,c2⟩:=in_at ((U HIN).below hbw) hx
      have hltI:(k:Int)<row.length:=by omega
      have hbN:Below w.heap.size w (wr.alloc (.cells #[.int .i64 x.1,.int .i64 x.2] 65)):=hbw.trans ((below_box wr _).mono hbw.size)
      have HBN:=V hbN
      have HNM:=V (namesIns_any x.1 (wr.alloc (.cells #[.int .i64 x.1,.int .i64 x.2] 65)))
      have hown1:=ownsRow_alloc hrow (.cells #[.int .i64 x.1,.int .i64 x.2] 65)
      have hX:=fillS_at f row.length k k hlt
      have k1:=own_cell hown1 (k * 2) (by omega)
      have k2:=own_cell hown1 (k * 2+1) (by omega)
      rw[(instrCells_at _ _ _ hX).1]at k1
      rw[(instrCells_at _ _ _ hX).2]at k2
      have hfree:=own_free hown1
      have hgl2:=(ownsRow_lt hown1 (k:=w.heap.size) rfl).1
      have HOWN1:=V hown1
      have HNX:=V (fillS_next f row.length k hlt)
      have HFK:=V (U HF k x hx)
      have HX:=V hX
      have hjx:=U HJ x (List.mem_of_getElem? hx)
      have hbx:=Blk.new wr #[.int .i64 x.1,.int .i64 x.2] 65
      have hneq:w.heap.size<wr.heap.size:=(ownsRow_lt hrow (k:=w.heap.size) rfl).1
      have hcx:=hbx.cell
      have hfx:=hbx.free
      have hlx:=hbx.lt
      have HBX:=V hbx
      clear hrow hbw hbN hx hX hown1 hbx
      have HQ1:=V (U HQ)
      go_wp2_with fail
      refine (U HNM).mono ?_
      rintro e w1 ⟨rfl,hw1⟩
      rw[← hw1]at HBN k1 k2 hfree hgl2 HOWN1 hcx hfx hlx HBX
      clear hw1 HNM c1 c2
      by_cases hnm:namesS x.1=true
      · have hxr:=hjx hnm
        obtain⟨un,hun⟩:∃ un:Nat,x.2=un:=⟨x.2.toNat,by omega⟩
        obtain⟨p,hp⟩:∃ p,nums[un]? = some p:=⟨_,List.getElem?_eq_getElem (by omega)⟩
        have hcq:w1.cell? ⟨q,un,none⟩=some (.int .i64 p):=by
          rw[(U HBN).cell (by simpa using (U HQ).1)]
          exact (U HQ).2 un p hp
        have hql:q<w1.heap.size:=by have:=(U HQ).1;have:=(U HBN).size;omega
        have HFP:Hid (f k=(x.1,p)):=by
          have:=U HFK
          unfold renS at this
          rw[if_pos hnm,hun,Int.toNat_natCast]at this
          exact V (by simpa [List.getD,hp] using this)
        have hunI:(un:Int)<nums.length:=by omega
        rw[hnm]
        rw[hun]at hcx
        generalize x.1=xo at *
        clear hp hjx HFK hxr hun HJ HF
        go_wp2_with fail
        go_roundw
        case rel =>
          refine⟨k+1,by go_num,by omega,?_,(((U HBN).setCell (by simp;omega) _).setCell (Nat.le_refl _) _).setCell (Nat.le_refl _) _⟩
          have h1:=own_set (own_set (ownsRow_far (U HOWN1) (a:=⟨wr.heap.size,1,none⟩) (by simp[Value.ownBlock];omega) (.int .i64 p)) (k * 2) (.int .i64 xo)) (k * 2+1) (.int .i64 p)
          rw[instr_set2 _ k _ (U HX) xo p]at h1
          rw[U HNX,U HFP]
          exact h1
        case measure=>simp[intOf];omega
      · have hnf:namesS x.1=false:=by simpa using hnm
        have HFP:Hid (f k=(x.1,x.2)):=by
          have:=U HFK
          unfold renS at this
          rw[if_neg hnm]at this
          exact this
        rw[hnf]
        generalize x.1=xo at *
        generalize x.2=xa at *
        clear hjx HFK HJ HF
        go_wp2_with fail
        go_roundw
        case rel =>
          refine⟨k+1,by go_num,by omega,?_,((U HBN).setCell (Nat.le_refl _) _).setCell (Nat.le_refl _) _⟩
          have h1:=own_set (own_set (U HOWN1) (k * 2) (.int .i64 xo)) (k * 2+1) (.int .i64 xa)
          rw[instr_set2 _ k _ (U HX) xo xa]at h1
          rw[U HNX,U HFP]
          exact h1
        case measure=>simp[intOf];omega
    · have hkk:k=row.length:=by omega
      subst hkk
      have he:=fillS_all row (renS nums) f (U HF)
      have HE:=V he
      clear hrow hbw he
      go_wp2_with fail
      go_ret
      have el:(renamedS nums row).length=row.length:=List.length_map ..
      refine⟨some ⟨w.heap.size,0,none⟩,row.length,by rw[el];rfl,?_,U HBW⟩
      unfold OwnI
      rw[el]
      unfold renamedS
      rw[← U HE]
      exact U HROW
end Go.Proofs.YtmeiikjpaepogaaGreatDoor
