/- The program's options: Fold: the folder. -/
import Derived.Test.YtmeiikjpaepogaaGreatDoorE32
import Derived.Test.YtmeiikjpaepogaaGreatDoorE31
import Derived.BigQuiet
import Derived.Test.YtmeiikjpaepogaaGreatDoorE29
set_option maxRecDepth 100000
set_option maxHeartbeats 16000000
namespace Go.Proofs.YtmeiikjpaepogaaGreatDoor
open Go Go.RowKit
def ChainedOk : Prop := ∀ (fb tb : Nat) (rv : Value) (ao : Option Addr) (c : Nat) (row : List (Int × Int)) (w : World), FoldAt w fb tb rv → Lib.TabIs Tryz.prog w "internal/strconv.uint64pow10" .u64 Lib.pow10Tab → InL w ao row → row.length ≤ 1000 → (∀ x ∈ row, inI x.2) →
    Calls Tryz.prog 199 #[.pointer (some ⟨fb,0,none⟩),.slice ao row.length c] w fun e w'=>RuleOut w.heap.size w' (chainedS row) e∧Below w.heap.size w w'
def ruleArr (fb:Nat) (bs:List (Nat×Nat)):Array Value:=#[.func (.func 198) #[.pointer (some ⟨fb,0,none⟩)] #[],.func (.func 199) #[.pointer (some ⟨fb,0,none⟩)] #[],.func (.func 200) #[] #[]]++(bs.reverse.map isV).toArray
structure FolderX (w:World) (fb tb rb:Nat) (bs:List (Nat×Nat)):Prop where
  fold:Blk w fb #[.pointer (some ⟨tb,0,none⟩),.slice (some ⟨rb,0,none⟩) 25 25] 203
  tab:TabAt w tb
  rules:Blk w rb (ruleArr fb bs) 239
  list:IsList w (bs.map isV) isSpecs
theorem TabAt.far {w:World} {tb:Nat} (h:TabAt w tb) {b:Nat} {zs:Array Value} (hb:Blk w b zs 73) (i:Nat) (v:Value):TabAt (w.setCell ⟨b,i,none⟩ v) tb:=by
  obtain⟨cs,h1,h2,h3⟩:=h
  exact⟨cs,h1.far (a:=⟨b,i,none⟩) (blk_apart h1 hb (by decide)) _,h2.keep (KeepT.prog hb i v),fun op a c=>(h3 op a c).keep (KeepT.prog hb i v)⟩
theorem FolderX.below {w w':World} {fb tb rb:Nat} {bs:List (Nat×Nat)} (h:FolderX w fb tb rb bs) (hb:Below w.heap.size w w'):FolderX w' fb tb rb bs :=
  ⟨h.fold.below hb h.fold.lt,h.tab.below hb,h.rules.below hb h.rules.lt,h.list.1,fun j v s hv hs=>(h.list.2 j v s hv hs).below hb⟩
theorem FolderX.far {w:World} {fb tb rb:Nat} {bs:List (Nat×Nat)} (h:FolderX w fb tb rb bs) {b:Nat} {zs:Array Value} (hb:Blk w b zs 73) (i:Nat) (v:Value):FolderX (w.setCell ⟨b,i,none⟩ v) fb tb rb bs :=
  ⟨h.fold.far (a:=⟨b,i,none⟩) (blk_apart h.fold hb (by decide)) _,h.tab.far hb i v,h.rules.far (a:=⟨b,i,none⟩) (blk_apart h.rules hb (by decide)) _,h.list.1,fun j u s hv hs=>(h.list.2 j u s hv hs).far hb (by decide) (by decide) (by decide) (by decide) i v⟩
theorem ruleArr_low (fb:Nat) (bs:List (Nat×Nat)) (j:Nat) (hj:j<3):(ruleArr fb bs)[j]? = #[Value.func (.func 198) #[.pointer (some ⟨fb,0,none⟩)] #[],.func (.func 199) #[.pointer (some ⟨fb,0,none⟩)] #[],.func (.func 200) #[] #[]][j]?:=by
  unfold ruleArr
  rw[Array.getElem?_append_left (by simpa using hj)]
theorem fn_reckoned : ∃ fn : Func, Tryz.prog.funcs[198]? = some fn ∧ (fn.name == "runtime.NumGoroutine") = false ∧ fn.body.isNone = false := ⟨_, Tryz.func198, by kernel_rfl, by kernel_rfl⟩
theorem fn_chained : ∃ fn : Func, Tryz.prog.funcs[199]? = some fn ∧ (fn.name == "runtime.NumGoroutine") = false ∧ fn.body.isNone = false := ⟨_, Tryz.func199, by kernel_rfl, by kernel_rfl⟩
theorem fn_decided : ∃ fn : Func, Tryz.prog.funcs[200]? = some fn ∧ (fn.name == "runtime.NumGoroutine") = false ∧ fn.body.isNone = false := ⟨_, Tryz.func200, by kernel_rfl, by kernel_rfl⟩
theorem rulesS_split:rulesS=[reckonedS,chainedS,decidedS]++isSpecs.reverse.map (fun s=>isS s.1 s.2):=rfl
theorem isSpecs_small:∀ s∈isSpecs,s.1.length≤1000∧s.2.length≤1000:=by decide
theorem FolderX.isAt (hch : ChainedOk) {w : World} {fb tb rb : Nat} {bs : List (Nat × Nat)} (h : FolderX w fb tb rb bs) (ht : Lib.TabIs Tryz.prog w "internal/strconv.uint64pow10" .u64 Lib.pow10Tab) : FolderAt w fb tb rb := by
  have hf:FoldAt w fb tb (.slice (some ⟨rb,0,none⟩) 25 25):=⟨h.fold,h.tab⟩
  have hc:=h.rules.cell
  refine⟨hf,h.rules.lt,fun j r hr=>?_⟩
  rw[hc]
  match j,hr with
  | 0, hr =>
    rw[rulesS_split]at hr
    simp at hr
    subst hr
    exact⟨_,ruleArr_low fb bs 0 (by omega),_,_,_,rfl,fn_reckoned,fun w' hw' ao c row hin hp hl hi=>reckoned_any fb tb _ ao c row w' (hf.below hw') (Lib.tabBelow_of_tabIs ht w' hw') hin hp hl hi⟩
  | 1, hr =>
    rw[rulesS_split]at hr
    simp at hr
    subst hr
    exact⟨_,ruleArr_low fb bs 1 (by omega),_,_,_,rfl,fn_chained,fun w' hw' ao c row hin _ hl hi=>hch fb tb _ ao c row w' (hf.below hw') (Lib.tabBelow_of_tabIs ht w' hw') hin hl hi⟩
  | 2, hr =>
    rw[rulesS_split]at hr
    simp at hr
    subst hr
    exact⟨_,ruleArr_low fb bs 2 (by omega),_,_,_,rfl,fn_decided,fun w' hw' ao c row hin _ hl _=>decided_any ao c row w' hin (by omega)⟩
  | j + 3, hr =>
    rw[rulesS_split,List.getElem?_append_right (by simp)]at hr
    simp only[List.length_cons,List.length_nil,Nat.zero_add,Nat.reduceAdd,Nat.add_sub_cancel,List.getElem?_map]at hr
    obtain⟨s,hs,rfl⟩:=Option.map_eq_some_iff.1 hr
    have hl:bs.length=isSpecs.length:=by have:=h.list.1;rwa [List.length_map]at this
    have hj:=(List.getElem?_eq_some_iff.1 hs).1
    rw[List.length_reverse]at hj
    rw[List.getElem?_reverse hj]at hs
    obtain⟨b,hb⟩:∃ b,bs[isSpecs.length-1-j]? = some b:=⟨_,List.getElem?_eq_getElem (by omega)⟩
    refine⟨isV b,?_,(h.list.2 (isSpecs.length-1-j) (isV b) s (by rw[List.getElem?_map,hb];rfl) hs).rule (isSpecs_small s (List.mem_of_getElem? hs))⟩
    unfold ruleArr
    rw[Array.getElem?_append_right (by simp)]
    simp only[List.getElem?_toArray,List.getElem?_map,List.size_toArray,List.length_cons,List.length_nil,Nat.zero_add,Nat.reduceAdd,Nat.add_sub_cancel]
    rw[List.getElem?_reverse (by omega),hl,hb]
    rfl
theorem newFolder_any (w:World):Calls Tryz.prog 80 #[] w fun e w'=>∃ fb tb rb bs,e=.returned (.pointer (some ⟨fb,0,none⟩))∧FolderX w' fb tb rb bs∧Below w.heap.size w w':=by
  have HT:=V (newTable_any w)
  go_enter Tryz.func80,Tryz.ntmps80
  go_wp2_with fail
  refine (U HT).mono ?_
  rintro e w1 ⟨tb,rfl,htab,hb1⟩
  have HTAB:=V htab
  have HB1:=V hb1
  have HM:=V (makeRules_any w1.heap.size (w1.alloc (.cells #[.pointer (some ⟨tb,0,none⟩),.slice none 0 0] 203)))
  have HF:=V (Blk.new w1 #[.pointer (some ⟨tb,0,none⟩),.slice none 0 0] 203)
  have HBX:=V (below_box w1 (.cells #[.pointer (some ⟨tb,0,none⟩),.slice none 0 0] 203))
  clear htab hb1 HT
  go_wp2_with fail
  refine (U HM).mono ?_
  rintro e w2 ⟨rb,bs,rfl,hru,hli,hb2⟩
  have hf2:=Blk.below (U HF) hb2 (U HF).lt
  have HF2:=V hf2
  have hcf:=hf2.cell
  have hff:=hf2.free
  have hlf:=hf2.lt
  have HRU:=V hru
  have HLI:=V hli
  have HB2:Hid (Below w1.heap.size w1 w2):=(U HBX).trans (hb2.mono (U HBX).size)
  clear hru hli hb2 hf2 HM
  go_wp2_with fail
  go_ret
  have hset:=(U HF2).set 1 (.slice (some ⟨rb,0,none⟩) 25 25)
  simp only[List.setIfInBounds_toArray,List.set_cons_succ,List.set_cons_zero]at hset
  have hb3:Below w1.heap.size w1 (w2.setCell ⟨w1.heap.size,1,none⟩ (.slice (some ⟨rb,0,none⟩) 25 25)):=(U HB2).setCell (Nat.le_refl _) _
  exact⟨w1.heap.size,tb,rb,bs,rfl,⟨hset,(U HTAB).below hb3,(U HRU).far (a:=⟨w1.heap.size,1,none⟩) (blk_apart (U HRU) (U HF2) (by decide)) _,(U HLI).1,fun j v s hv hs=>((U HLI).2 j v s hv hs).far (U HF2) (by decide) (by decide) (by decide) (by decide) 1 _⟩,(U HB1).trans (hb3.mono (U HB1).size)⟩
theorem instrCells_split (row:List (Int×Int)) (n:Nat):instrCells row=instrCells (row.take n)++instrCells (row.drop n):=by
  rw[← instr_app,List.take_append_drop]
theorem InL.take {w:World} {ao:Option Addr} {row:List (Int×Int)} (h:InL w ao row) (n:Nat):InL w ao (row.take n):=by
  rcases h with h|⟨g,off,h1,h2,h3⟩
  · exact Or.inl (by rw[h];simp)
  · refine Or.inr ⟨g,off,h1,h2,fun j u hj=>h3 j u ?_⟩
    rw[instrCells_split row n,List.getElem?_append_left (List.getElem?_eq_some_iff.1 hj).1]
    exact hj
theorem InL.drop {w:World} {g off:Nat} {row:List (Int×Int)} (h:InL w (some ⟨g,off,none⟩) row) (n:Nat):InL w (some ⟨g,off+n * 2,none⟩) (row.drop n):=by
  by_cases hn:n≤row.length
  · rcases h with h|⟨g',off',h1,h2,h3⟩
    · exact Or.inl (by rw[h];simp)
    · simp only[Option.some.injEq,Addr.mk.injEq,and_true]at h1
      obtain⟨rfl,rfl⟩:=h1
      refine Or.inr ⟨g,off+n * 2,rfl,h2,fun j u hj=>?_⟩
      have:=h3 (n * 2+j) u (by
        rw[instrCells_split row n,List.getElem?_append_right (by rw[instrCells_length,List.length_take];omega)]
        rw[instrCells_length,List.length_take,show n * 2+j-min n row.length * 2=j by omega]
        exact hj)
      rw[Nat.add_assoc]
      exact this
  · exact Or.inl (List.drop_eq_nil_iff.2 (by omega))
def ShortOut (B:Nat) (w':World) (r:Option (List (Int×Int)×Nat)) (e:Ending):Prop:=match r with
  | none=>e=.returned (.tuple #[.slice none 0 0,.int .i64 0])
  | some (s,n)=>∃ a c,e=.returned (.tuple #[.slice a s.length c,.int .i64 n])∧OwnI B w' (.slice a s.length c) s
theorem shorter_any (fb tb rb:Nat) (ao no:Option Addr) (c nc:Nat) (row next:List (Int×Int)) (w:World) (hf:FolderAt w fb tb rb) (hin:InL w ao row) (hcap:row.length≤c) (hnx:InL w no next) (hn:row.length≤100000) (hxl:next.length≤10) (hok:∀ x∈row,baseOk x) (hxo:∀ x∈next,baseOk x) :
    Calls Tryz.prog 230 #[.pointer (some ⟨fb,0,none⟩),.slice ao row.length c,.slice no next.length nc] w fun e w'=>ShortOut w.heap.size w' (shorterS row next) e∧Below w.heap.size w w':=by
  have hnI:(row.length:Int)≤100000:=by omega
  have hcapI:(row.length:Int)≤c:=by omega
  generalize hres:shorterS row next=res
  have HRES:=V hres
  have HF:=V hf
  have HIN:=V hin
  have HNX:=V hnx
  have HOK:=V hok
  have HXO:=V hxo
  clear hres hf hin hnx hok hxo
  go_enter Tryz.func230,Tryz.ntmps230
  go_wp2_with fail
  go_loopw [8] (fun v wr=>∃ s:Nat,v=.int .i64 s∧2≤s∧s≤7∧(∀ n,2≤n→n<s→n≤min 6 row.length→shortAt row next n=none)∧Below w.heap.size w wr) (fun v _=>7-(intOf v).toNat)
  case atStart=>exact⟨2,rfl,by omega,by omega,fun n h1 h2=>by omega,Below.refl _ _⟩
  case round =>
    obtain⟨s,rfl,h2,h7,hnone,hbw⟩:=hrel
    have HNONE:=V hnone
    have HBW:=V hbw
    obtain⟨w0,hw0⟩:∃ w0:World,w0=wr:=⟨_,rfl⟩
    rw[hw0.symm]at hbw HBW ⊢
    clear hw0
    by_cases hle:s≤min 6 row.length
    · obtain⟨x,hx⟩:∃ x,row[0]? = some x:=⟨_,List.getElem?_eq_getElem (by omega)⟩
      obtain⟨g,off,rfl,_,_,_⟩:=in_at (U HIN) hx
      have hleI:(s:Int)≤min 6 (row.length:Int):=by omega
      have hf0:=(U HF).below hbw
      have hcf:=hf0.1.1.cell
      have hlf:=hf0.1.1.lt
      obtain⟨q,hq⟩:∃ q,q=row.length-s:=⟨_,rfl⟩
      have hsub:IntKind.i64.wrap ((row.length:Int)-s)=(q:Int):=by rw[IntKind.wrap_i64];omega
      have hqc:(q:Int)≤c:=by omega
      have hql:(q:Int)≤row.length:=by omega
      have haddr:(if c=q then (some ⟨g,off,none⟩:Option Addr) else some ⟨g,off+q * 2,none⟩)=some ⟨g,off+q * 2,none⟩:=if_neg (by omega)
      have hsz:row.length-q=s:=by omega
      clear hbw hx hnone hf0
      have HQ:=V hq
      go_wp2_with fail
      go_quiet (fail)
      go_wp2_with fail
      obtain⟨w2,hw2⟩:∃ w2:World,w2=w0.drewN nq:=⟨_,rfl⟩
      rw[hw2.symm]
      have HB2:Hid (Below w.heap.size w w2):=by rw[hw2];exact below_drawn (U HBW) nq
      have hdl:(row.drop (row.length-s)).length=s:=by rw[List.length_drop];omega
      have htl:(row.take (row.length-s)).length=row.length-s:=by rw[List.length_take];omega
      have hrs:row.length-(row.length-s)=s:=by omega
      rw[hrs]
      clear hcf hlf hw2
      go_loopw [39] (fun i wr=>∃ k:Nat,i=.int .i64 k∧k≤25∧(∀ j r,j<k→rulesS[j]? = some r→ruleAt row next s r=none)∧Below w.heap.size w wr) (fun i _=>25-(intOf i).toNat)
      case atStart=>exact⟨0,rfl,by omega,fun j r hj=>by omega,U HB2⟩
      case round =>
        obtain⟨k,rfl,hk,hall,hbw⟩:=hrel
        have HALL:=V hall
        have HBK:=V hbw
        by_cases hlt:k<25
        · obtain⟨r,hr⟩:∃ r,rulesS[k]? = some r:=⟨_,List.getElem?_eq_getElem (by show k<25;exact hlt)⟩
          have hfo:=(U HF).below hbw
          obtain⟨v,hv,F,bound,cap,rfl,⟨fn,hfn,hfa,hfb⟩,hrule⟩:=hfo.2.2 k r hr
          have hrl:=hfo.2.1
          have hltI:(k:Int)<25:=by omega
          have hinr:=((U HIN).below hbw)
          have hio:=(hinr.drop (row.length-s))
          have hia:=hinr.take (row.length-s)
          have hbo:∀ x∈row.drop (row.length-s),baseOk x:=fun x hx=>U HOK x (List.mem_of_mem_drop hx)
          have hba:∀ x∈row.take (row.length-s),baseOk x:=fun x hx=>U HOK x (List.mem_of_mem_take hx)
          have HRULE:=V (hrule wr (Below.refl _ _) (some ⟨g,off+(row.length-s) * 2,none⟩) (c-(row.length-s)) (row.drop (row.length-s)) hio (by omega) (by omega) (fun x hx=>(hbo x hx).2))
          rw[hdl]at HRULE
          have HCF:Hid (∀ (args:Array Value) (W:World),(callFunc F args).run Tryz.prog W=.ok (.enter F args) W):=enter_func hfn hfa hfb
          have HRA:Hid (ruleAt row next s r=match r (row.drop (row.length-s)) with|some s'=>if failsS (knownS (row.take (row.length-s))) (row.drop (row.length-s)) s' next=true then some s' else none|none=>none):=rfl
          have HRM:=V (List.mem_of_getElem? hr)
          have HRR:=V hr
          have HIO:=V hio
          have HIA:=V hia
          have HBO:=V hbo
          have HBA:=V hba
          have HSHORT:=V (fun s' (h:r (row.drop (row.length-s))=some s')=>rule_short (List.mem_of_getElem? hr) h)
          have HSOK:=V (fun s' (h:r (row.drop (row.length-s))=some s')=>rule_ok (List.mem_of_getElem? hr) (fun x hx=>(hbo x hx).2) h)
          clear hall hbw hfo hrule hfn hfa hfb hinr hio hia hbo hba hr
          generalize hro:r (row.drop (row.length-s))=ro at *
          rw[← Array.push_eq_append]at HRULE
          go_wp2_with fail
          rw[U HCF]
          refine (U HRULE).mono ?_
          rintro e w3 ⟨hout,hb3⟩
          have HB3:Hid (Below w.heap.size w w3):=(U HBK).trans (hb3.mono (U HBK).size)
          cases ro with
          | none =>
            have hout:e=.returned (.tuple #[.slice none 0 0,.bool false]):=hout
            subst hout
            clear hb3 HRULE
            go_wp2_with fail
            go_roundw
            case rel =>
              refine⟨k+1,by go_num,by omega,fun j r' hj hr'=>?_,U HB3⟩
              by_cases e:j=k
              · subst e
                rw[U HRR]at hr'
                obtain rfl:=Option.some.inj hr'
                exact U HRA
              · exact U HALL j r' (by omega) hr'
            case measure=>simp[intOf];omega
          | some sh =>
            obtain⟨v',rfl,hs⟩:∃ v,e=.returned (.tuple #[v,.bool true])∧w3.ownsRow wr.heap.size 65 2 v sh.length (instrCells sh):=hout
            obtain⟨a',c',rfl⟩:=own_shape hs
            have hsl:=U HSHORT sh rfl
            have hso:=U HSOK sh rfl
            rw[hdl]at hsl
            have hfo3:=((U HF).below (U HB3)).1
            have HKB:=V (knownBehind_any fb tb _ (some ⟨g,off,none⟩) c (row.take (row.length-s)) w3 hfo3 ((U HIA).below hb3) (by omega) (fun x hx=>(U HBA x hx).1))
            rw[htl]at HKB
            have hks:=knownTo_small (row.take (row.length-s)) (fun x hx=>(U HBA x hx).1) (row.take (row.length-s)).length
            have HFA:Hid (∀ W,Below w3.heap.size w3 W→Calls Tryz.prog 239 #[.pointer (some ⟨fb,0,none⟩),.agg #[.int .i64 (knownS (row.take (row.length-s))).1,.int .i64 (knownS (row.take (row.length-s))).2],.slice (some ⟨g,off+(row.length-s) * 2,none⟩) s (c-(row.length-s)),.slice a' sh.length c',.slice no next.length nc] W fun e w'=>e=.returned (.bool (failsS (knownS (row.take (row.length-s))) (row.drop (row.length-s)) sh next))∧Below W.heap.size W w'):=fun W hW=>by
              have:=failsAlike_any fb tb _ (knownS (row.take (row.length-s))).1 (knownS (row.take (row.length-s))).2 (some ⟨g,off+(row.length-s) * 2,none⟩) a' no (c-(row.length-s)) c' nc (row.drop (row.length-s)) sh next W (hfo3.below hW) (((U HIO).below hb3).below hW) ((OwnI.isIn hs).1.below hW) (((U HNX).below (U HB3)).below hW) (by omega) (by
                unfold knownS
                rw[htl]at hks ⊢
                omega) (fun x hx=>(U HBO x hx).1) (fun x hx=>(hso x hx).1) (fun x hx=>(U HXO x hx).1)
              rw[hdl]at this
              exact this
            have HOS:=V hs
            generalize hkn:knownS (row.take (row.length-s))=kn at *
            generalize hfs:failsS kn (row.drop (row.length-s)) sh next=fs at *
            clear hb3 HRULE hs hsl hso hfo3 hks
            go_wp2_with fail
            refine (U HKB).mono ?_
            rintro e w4 ⟨rfl,hb4⟩
            have HB4:=V hb4
            clear hb4 HKB
            go_wp2_with fail
            refine (U HFA w4 (U HB4)).mono ?_
            rintro e w5 ⟨rfl,hb5⟩
            have HB35:Hid (Below w3.heap.size w3 w5):=(U HB4).trans (hb5.mono (U HB4).size)
            have HB5:Hid (Below w.heap.size w w5):=(U HB3).trans ((U HB35).mono (U HB3).size)
            clear hb5 HFA HB4
            cases fs with
            | true =>
              have hhit:ruleAt row next s r=some sh:=by rw[U HRA];simp[hfs]
              have hsa:shortAt row next s=some sh:=find_hit (U HRR) hhit (fun i z hi hz=>U HALL i z hi hz)
              have hsr:=shorter_hit h2 hle hsa (fun n h1 h2=>U HNONE n h1 h2 (by omega))
              rw[U HRES]at hsr
              have HSR:=V hsr
              clear hhit hsa hsr
              go_wp2_with fail
              go_ret2
              rw[U HSR]
              exact⟨⟨a',c',rfl,OwnI.base (OwnI.below (U HOS) (U HB35)) (U HBK).size⟩,U HB5⟩
            | false =>
              go_wp2_with fail
              go_roundw
              case rel =>
                refine⟨k+1,by go_num,by omega,fun j r' hj hr'=>?_,U HB5⟩
                by_cases e:j=k
                · subst e
                  rw[U HRR]at hr'
                  obtain rfl:=Option.some.inj hr'
                  rw[U HRA]
                  simp[hfs]
                · exact U HALL j r' (by omega) hr'
              case measure=>simp[intOf];omega
        · have hk25:k=25:=by omega
          subst hk25
          have HSN:Hid (shortAt row next s=none):=find_none (fun i z hz=>hall i z (by
            have:=(List.getElem?_eq_some_iff.1 hz).1
            exact this) hz)
          clear hall hbw
          go_wp2_with fail
          go_roundw
          case rel =>
            refine⟨s+1,by go_num,by omega,by omega,fun n h1 h3 h4=>?_,U HBK⟩
            by_cases e:n=s
            · subst e;exact U HSN
            · exact U HNONE n h1 (by omega) h4
          case measure=>simp[intOf];omega
    · have hleI:¬ ((s:Int)≤min 6 (row.length:Int)):=by omega
      have hno:=shorter_none (row:=row) (next:=next) (fun n h1 h2=>hnone n h1 (by omega) h2)
      rw[U HRES]at hno
      subst hno
      clear hbw hnone
      go_wp2_with fail
      go_ret2
      exact⟨rfl,U HBW⟩
abbrev Blo:=Nat×List (Int×Int)
def addLast (bs:List Blo) (x:Int×Int):List Blo:=match bs.getLast? with
  | some b=>bs.dropLast++[(b.1,b.2++[x])]
  | none=>bs
theorem addLast_snoc (bs:List Blo) (b:Blo) (x:Int×Int):addLast (bs++[b]) x=bs++[(b.1,b.2++[x])]:=by
  simp[addLast]
def blkStep (bs:List Blo) (b:Bool) (k:Nat) (x:Int×Int):List Blo:=addLast (if b=true then bs++[(k,[])] else bs) x
def blkTo (l:List (Int×Int)) (beg:List Bool):Nat→List Blo
  | 0=>[]
  | k + 1 => match l[k]? with
    | some x=>blkStep (blkTo l beg k) (beg.getD k false) k x
    | none=>blkTo l beg k
def blocksS (l:List (Int×Int)) (en:Nat):List Blo:=blkTo l (begS l en) l.length
theorem begTo_head (l:List (Int×Int)) (en k:Nat):(begTo l en k).getD 0 false=true:=by
  have set_head:∀ (b:List Bool) (j:Nat),b.getD 0 false=true→(b.set j true).getD 0 false=true:=by
    intro b j hb
    cases b with
    | nil=>simp at hb
    | cons x b =>
      cases j with
      | zero=>rfl
      | succ j=>simpa using hb
  induction k with
  | zero =>
    unfold begTo
    refine set_head _ _ ?_
    rw[List.replicate_succ]
    rfl
  | succ k ih =>
    unfold begTo
    split
    · unfold begStep
      simp only
      split<;>split
      · exact set_head _ _ (set_head _ _ ih)
      · exact set_head _ _ ih
      · exact set_head _ _ ih
      · exact ih
    · exact ih
theorem addLast_mem {bs:List Blo} {x:Int×Int} {b:Blo} (h:b∈addLast bs x):b∈bs∨∃ c∈bs,b=(c.1,c.2++[x]):=by
  rcases List.eq_nil_or_concat bs with rfl|⟨t,c,rfl⟩
  · simp[addLast]at h
  · rw[List.concat_eq_append]at h ⊢
    rw[addLast_snoc]at h
    rcases List.mem_append.1 h with h|h
    · exact Or.inl (by simp[h])
    · exact Or.inr ⟨c,by simp,by simpa using h⟩
theorem addLast_ne {bs:List Blo} {x:Int×Int} (hb:bs≠[]):addLast bs x≠[]∧(addLast bs x).flatMap (·.2)=bs.flatMap (·.2)++[x]∧∀ b∈addLast bs x,(b∈bs.dropLast)∨b.2≠[]:=by
  rcases List.eq_nil_or_concat bs with rfl|⟨t,c,rfl⟩
  · exact absurd rfl hb
  · rw[List.concat_eq_append,addLast_snoc]
    refine⟨by simp,by simp,fun b h=>?_⟩
    rcases List.mem_append.1 h with h|h
    · exact Or.inl (by simpa using h)
    · simp at h;subst h;exact Or.inr (by simp)
structure BlkFine (l:List (Int×Int)) (k:Nat) (bs:List Blo):Prop where
  flat:bs.flatMap (·.2)=l.take k
  full:∀ b∈bs,b.2≠[]
  low:∀ b∈bs,b.1<l.length
  some:0<k→bs≠[]
theorem blkTo_fine (l:List (Int×Int)) (beg:List Bool) (h0:beg.getD 0 false=true) (k:Nat) (hk:k≤l.length):BlkFine l k (blkTo l beg k):=by
  induction k with
  | zero=>exact⟨by simp[blkTo],by simp[blkTo],by simp[blkTo],by omega⟩
  | succ k ih =>
    have ih:=ih (by omega)
    obtain⟨x,hx⟩:∃ x,l[k]? = some x:=⟨_,List.getElem?_eq_getElem (by omega)⟩
    have e:blkTo l beg (k+1)=blkStep (blkTo l beg k) (beg.getD k false) k x:=by rw[blkTo,hx]
    rw[e]
    unfold blkStep
    have hne:(if beg.getD k false=true then blkTo l beg k++[(k,[])] else blkTo l beg k)≠[]:=by
      split
      · simp
      next hb =>
        cases k with
        | zero=>exact absurd h0 hb
        | succ k=>exact ih.some (by omega)
    obtain⟨a1,a2,a3⟩:=addLast_ne (x:=x) hne
    refine⟨?_,?_,?_,fun _=>a1⟩
    · rw[a2,List.take_add_one,hx]
      congr 1
      split<;>simp[ih.flat]
    · intro b hb
      rcases a3 b hb with h|h
      · refine ih.full b ?_
        revert h
        split
        · intro h;simpa using h
        · exact fun h=>List.dropLast_subset _ h
      · exact h
    · intro b hb
      rcases addLast_mem hb with h|⟨c,h,rfl⟩
      · revert h
        split
        · intro h
          rcases List.mem_append.1 h with h|h
          · exact ih.low b h
          · simp at h;subst h;simp;omega
        · exact ih.low b
      · simp only
        revert h
        split
        · intro h
          rcases List.mem_append.1 h with h|h
          · exact ih.low c h
          · simp at h;subst h;simp;omega
        · exact ih.low c
theorem BlkFine.len {l:List (Int×Int)} {k:Nat} {bs:List Blo} (h:BlkFine l k bs):bs.length≤k:=by
  have:∀ cs:List Blo,(∀ b∈cs,b.2≠[])→cs.length≤(cs.flatMap (·.2)).length:=by
    intro cs
    induction cs with
    | nil=>intro _;simp
    | cons b cs ih =>
      intro hf
      have h1:=ih (fun c hc=>hf c (by simp[hc]))
      have h2:=List.length_pos_iff.2 (hf b (by simp))
      rw[List.flatMap_cons,List.length_append,List.length_cons]
      omega
  have h1:=this bs h.full
  rw[h.flat,List.length_take]at h1
  omega
theorem BlkFine.row {l:List (Int×Int)} {k:Nat} {bs:List Blo} (h:BlkFine l k bs) {b:Blo} (hb:b∈bs):b.2.length≤k:=by
  have:∀ cs:List Blo,b∈cs→b.2.length≤(cs.flatMap (·.2)).length:=by
    intro cs
    induction cs with
    | nil=>intro h;simp at h
    | cons c cs ih =>
      intro hc
      rw[List.flatMap_cons,List.length_append]
      rcases List.mem_cons.1 hc with rfl|hc
      · omega
      · have:=ih hc;omega
  have h1:=this bs hb
  rw[h.flat,List.length_take]at h1
  omega
abbrev LBl:=Nat×Option Addr×Nat×List (Int×Int)
def LBl.blo (r:LBl):Blo:=(r.1,r.2.2.2)
def blkCells (rs:List LBl):List Value:=rs.flatMap (fun r=>[.int .i64 r.1,.slice r.2.1 r.2.2.2.length r.2.2.1])
theorem blkCells_app (a b:List LBl):blkCells (a++b)=blkCells a++blkCells b:=by
  unfold blkCells
  rw[List.flatMap_append]
theorem blkCells_at (l:List LBl) (i:Nat) (r:LBl) (h:l[i]? = some r) :
    (blkCells l)[i * 2]? = some (.int .i64 r.1)∧(blkCells l)[i * 2+1]? = some (.slice r.2.1 r.2.2.2.length r.2.2.1):=by
  induction l generalizing i with
  | nil=>simp at h
  | cons y l ih =>
    cases i with
    | zero=>simp at h;subst h;simp[blkCells]
    | succ i =>
      simp only[List.getElem?_cons_succ]at h
      have:=ih i h
      simp only[blkCells,List.flatMap_cons]at *
      have e1:(i+1) * 2=i * 2+2:=by omega
      rw[e1]
      exact this
theorem blk_set (l:List LBl) (k:Nat) (r:LBl) (hx:l[k]? = some r) (a:Option Addr) (c:Nat) (row:List (Int×Int)):(blkCells l).set (k * 2+1) (.slice a row.length c)=blkCells (l.set k (r.1,a,c,row)):=by
  induction l generalizing k with
  | nil=>simp at hx
  | cons y l ih =>
    cases k with
    | zero=>simp at hx;subst hx;rfl
    | succ k =>
      have e:(k+1) * 2=k * 2+1+1:=by omega
      rw[e]
      have:=ih k (by simpa using hx)
      unfold blkCells at this ⊢
      simp only[List.flatMap_cons,List.set_cons_succ]
      rw[← this]
      rfl
theorem oneCells_blk (f:Int) (a:Option Addr) (n c:Nat):∀ u∈[Value.int .i64 f,.slice a n c],u.oneCell'=true:=by
  intro u hu
  simp at hu
  rcases hu with rfl|rfl<;>rfl
theorem Tryz.infoBlock:(Tryz.prog.info? 161).map (fun i=>(i.zero,i.size,i.bytes))=some (some (.agg #[.int .i64 0,.slice none 0 0]),2,32):=by kernel_rfl
def RowAt (lg M:Nat) (w:World) (r:LBl):Prop:=r.2.2.2.length≤r.2.2.1∧(r.2.2.2=[]∨∃ g off,r.2.1=some ⟨g,off,none⟩∧g<M∧g≠lg∧∀ j u,(instrCells r.2.2.2)[j]? = some u→w.cell? ⟨g,off+j,none⟩=some u)
theorem RowAt.isIn {lg M:Nat} {w:World} {r:LBl} (h:RowAt lg M w r) (hM:M≤w.heap.size):InL w r.2.1 r.2.2.2:=by
  rcases h.2 with h|⟨g,off,h1,h2,h3,h4⟩
  · exact Or.inl h
  · exact Or.inr ⟨g,off,h1,by omega,h4⟩
theorem RowAt.below {lg M:Nat} {w w':World} {r:LBl} (h:RowAt lg M w r) (hb:Below M w w'):RowAt lg M w' r:=by
  refine⟨h.1,?_⟩
  rcases h.2 with h|⟨g,off,h1,h2,h3,h4⟩
  · exact Or.inl h
  · exact Or.inr ⟨g,off,h1,h2,h3,fun j u hj=>by rw[hb.cell h2];exact h4 j u hj⟩
theorem RowAt.up {lg M M':Nat} {w:World} {r:LBl} (h:RowAt lg M w r) (hM:M≤M'):RowAt lg M' w r:=by
  refine⟨h.1,?_⟩
  rcases h.2 with h|⟨g,off,h1,h2,h3,h4⟩
  · exact Or.inl h
  · exact Or.inr ⟨g,off,h1,by omega,h3,h4⟩
theorem RowAt.set {lg M:Nat} {w:World} {r:LBl} (h:RowAt lg M w r) (i:Nat) (u:Value):RowAt lg M (w.setCell ⟨lg,i,none⟩ u) r:=by
  refine⟨h.1,?_⟩
  rcases h.2 with h|⟨g,off,h1,h2,h3,h4⟩
  · exact Or.inl h
  · refine Or.inr ⟨g,off,h1,h2,h3,fun j x hj=>?_⟩
    have:=h4 j x hj
    unfold World.cell? at this ⊢
    rw[Below.heap_setCell _ _ _ _ h3]
    exact this
theorem RowAt.grown {lg lg' M:Nat} {w w':World} {r:LBl} (h:RowAt lg M w r) (hM:M≤w.heap.size) (hg:w.grownBy w' (some lg)) (hl:lg'=lg∨w.heap.size≤lg'):RowAt lg' M w' r:=by
  refine⟨h.1,?_⟩
  rcases h.2 with h|⟨g,off,h1,h2,h3,h4⟩
  · exact Or.inl h
  · refine Or.inr ⟨g,off,h1,h2,by omega,fun j x hj=>hg.cell (h4 j x hj) ?_⟩
    intro e
    exact h3 (Option.some.inj e)
theorem RowAt.ofIn {lg:Nat} {w:World} {f c:Nat} {ao:Option Addr} {row:List (Int×Int)} (h:InL w ao row) (hc:row.length≤c) (hne:∀ g off,ao=some ⟨g,off,none⟩→g≠lg):RowAt lg w.heap.size w (f,ao,c,row):=by
  refine⟨hc,?_⟩
  rcases h with h|⟨g,off,h1,h2,h3⟩
  · exact Or.inl h
  · exact Or.inr ⟨g,off,h1,h2,hne g off h1,h3⟩
theorem OwnI.cap {B:Nat} {w:World} {ao:Option Addr} {n c:Nat} {l:List (Int×Int)} (h:OwnI B w (.slice ao n c) l):l.length≤c:=by
  obtain⟨_,rfl⟩:=h.isIn
  rcases h.2 with ⟨_,e⟩|⟨g,cap,cur,e,_,_,hn,_⟩
  · omega
  · simp only[Value.slice.injEq]at e
    omega
theorem RowAt.ofOwn {lg M:Nat} {w:World} {f n c:Nat} {ao:Option Addr} {row:List (Int×Int)} (h:OwnI M w (.slice ao n c) row) (hl:lg<M):RowAt lg w.heap.size w (f,ao,c,row):=by
  refine RowAt.ofIn h.isIn.1 h.cap (fun g off e=>?_)
  subst e
  have:=(ownsRow_lt h (k:=g) rfl).2
  omega
def BlksAt (B:Nat) (w:World) (lg lc:Nat) (rs:List LBl):Prop:=w.ownsRow B 161 2 (.slice (some ⟨lg,0,none⟩) rs.length lc) rs.length (blkCells rs)∧∀ r∈rs,RowAt lg w.heap.size w r
theorem BlksAt.below {B:Nat} {w w':World} {lg lc:Nat} {rs:List LBl} (h:BlksAt B w lg lc rs) (hb:Below w.heap.size w w'):BlksAt B w' lg lc rs :=
  ⟨(LawStill.ofBelow hb).row h.1,fun r hr=>((h.2 r hr).below hb).up hb.size⟩
theorem BlksAt.lt {B:Nat} {w:World} {lg lc:Nat} {rs:List LBl} (h:BlksAt B w lg lc rs):lg<w.heap.size∧B≤lg:=ownsRow_lt h.1 (k:=lg) rfl
theorem BlksAt.base {B B':Nat} {w:World} {lg lc:Nat} {rs:List LBl} (h:BlksAt B w lg lc rs) (hb:B'≤B):BlksAt B' w lg lc rs:=⟨ownsRow_base h.1 hb,h.2⟩
theorem BlksAt.cells {B:Nat} {w:World} {lg lc:Nat} {rs:List LBl} (h:BlksAt B w lg lc rs) {k:Nat} {r:LBl} (hr:rs[k]? = some r) :
    w.cell? ⟨lg,k * 2,none⟩=some (.int .i64 r.1)∧w.cell? ⟨lg,k * 2+1,none⟩=some (.slice r.2.1 r.2.2.2.length r.2.2.1)∧InL w r.2.1 r.2.2.2∧r.2.2.2.length≤r.2.2.1:=by
  have hk:=(List.getElem?_eq_some_iff.1 hr).1
  obtain⟨e1,e2⟩:=blkCells_at rs k r hr
  refine⟨?_,?_,(h.2 r (List.mem_of_getElem? hr)).isIn (Nat.le_refl _),(h.2 r (List.mem_of_getElem? hr)).1⟩
  · rw[own_cell h.1 (k * 2) (by omega)];exact e1
  · rw[own_cell h.1 (k * 2+1) (by omega)];exact e2
theorem BlksAt.set {B:Nat} {w:World} {lg lc:Nat} {rs:List LBl} (h:BlksAt B w lg lc rs) {k:Nat} {r:LBl} (hr:rs[k]? = some r) (a:Option Addr) (c:Nat) (row:List (Int×Int)) (hin:InL w a row) (hcap:row.length≤c) (hne:∀ g off,a=some ⟨g,off,none⟩→g≠lg) :
    BlksAt B (w.setCell ⟨lg,k * 2+1,none⟩ (.slice a row.length c)) lg lc (rs.set k (r.1,a,c,row)):=by
  have hsz:(w.setCell ⟨lg,k * 2+1,none⟩ (.slice a row.length c)).heap.size=w.heap.size:=by simp[World.setCell]
  refine⟨?_,fun r' hr'=>?_⟩
  · have:=own_set h.1 (k * 2+1) (.slice a row.length c)
    rw[blk_set rs k r hr a c row]at this
    rw[List.length_set]
    exact this
  · rw[hsz]
    rcases List.mem_or_eq_of_mem_set hr' with h1|rfl
    · exact (h.2 r' h1).set _ _
    · exact (RowAt.ofIn hin hcap hne).set _ _
def sliceLen:Value→Nat
  | .slice _ n _=>n
  | _=>0
theorem OwnI.cut {B:Nat} {w:World} {g c:Nat} {l:List (Int×Int)} (h:OwnI B w (.slice (some ⟨g,0,none⟩) l.length c) l) (n:Nat) (hn:n≤l.length):OwnI B w (.slice (some ⟨g,0,none⟩) n c) (l.take n):=by
  have:=own_cut h n hn
  unfold OwnI
  have e:(l.take n).length=n:=by rw[List.length_take];omega
  have e2:instrCells (l.take n)=(instrCells l).take (n * 2):=by
    rw[instrCells_split l n,List.take_left' (by rw[instrCells_length,e])]
  rw[e,e2]
  exact this
theorem settledS_all (next:List (Int×Int)) (n m:Nat) (row:List (Int×Int)) (hn:row.length≤n) (hm:row.length≤m):settledS next n row=settledS next m row:=by
  induction n generalizing row m with
  | zero =>
    have:row=[]:=List.length_eq_zero_iff.1 (by omega)
    subst this
    cases m with
    | zero=>rfl
    | succ m=>unfold settledS;rfl
  | succ n ih =>
    cases m with
    | zero =>
      have:row=[]:=List.length_eq_zero_iff.1 (by omega)
      subst this
      unfold settledS
      rfl
    | succ m =>
      unfold settledS
      split
      next s size hs =>
        have h1:=shorterS_some hs
        have hl:(row.take (row.length-size)++s).length<row.length:=by rw[List.length_append,List.length_take];omega
        exact ih m _ (by omega) (by omega)
      · rfl
theorem settled_any (fb tb rb:Nat) (ao no:Option Addr) (c nc:Nat) (row next:List (Int×Int)) (w0 w:World) (hf:FolderAt w0 fb tb rb) (hb:Below w0.heap.size w0 w) (hrow:OwnI w0.heap.size w (.slice ao row.length c) row) (hnx:InL w0 no next) (hn:row.length≤100000) (hxl:next.length≤10) (hok:∀ x∈row,baseOk x) (hxo:∀ x∈next,baseOk x) :
    Calls Tryz.prog 204 #[.pointer (some ⟨fb,0,none⟩),.slice ao row.length c,.slice no next.length nc] w fun e w'=>∃ a c',e=.returned (.slice a (settledS next row.length row).length c')∧OwnI w0.heap.size w' (.slice a (settledS next row.length row).length c') (settledS next row.length row)∧Below w0.heap.size w0 w':=by
  generalize hres:settledS next row.length row=res
  have HRES:=V hres
  have HF:=V hf
  have HB:=V hb
  have HROW:=V hrow
  have HNX:=V hnx
  have HOK:=V hok
  have HXO:=V hxo
  obtain⟨m,hm⟩:∃ m,m=row.length:=⟨_,rfl⟩
  clear hres hf hb hrow hnx hok hxo
  go_enter Tryz.func204,Tryz.ntmps204
  go_wp2_with fail
  go_loopw [1] (fun v wr=>∃ (r:List (Int×Int)) (a:Option Addr) (c:Nat),v=.slice a r.length c∧OwnI w0.heap.size wr (.slice a r.length c) r∧r.length≤100000∧(∀ x∈r,baseOk x)∧settledS next r.length r=res∧Below w0.heap.size w0 wr) (fun v _=>sliceLen v)
  case atStart=>exact⟨row,ao,c,rfl,U HROW,hn,U HOK,U HRES,U HB⟩
  case round =>
    obtain⟨r,a,c1,rfl,hown,hrl,hrok,hrun,hbw⟩:=hrel
    have HSH:=V (shorter_any fb tb rb a no c1 nc r next wr ((U HF).below hbw) hown.isIn.1 hown.cap ((U HNX).below hbw) hrl hxl hrok (U HXO))
    have HOWN:=V hown
    have HROK:=V hrok
    have HRUN:=V hrun
    have HBW:=V hbw
    have HSO:=V (fun s n (h:shorterS r next=some (s,n))=>shorterS_some h)
    have HSK:=V (fun s n (h:shorterS r next=some (s,n))=>shorterS_ok hrok h)
    generalize hsh:shorterS r next=sh at *
    have HSHE:=V hsh
    clear hown hrok hrun hbw hsh
    go_wp2_with fail
    refine (U HSH).mono ?_
    rintro e w1 ⟨hout,hb1⟩
    cases sh with
    | none =>
      have hout:e=.returned (.tuple #[.slice none 0 0,.int .i64 0]):=hout
      subst hout
      have HB1:=V hb1
      clear hb1 HSH
      go_wp2_with fail
      go_ret
      have hr0:settledS next r.length r=r:=by
        cases r.length with
        | zero=>rfl
        | succ n=>rw[settledS,U HSHE]
      have hrr:r=res:=hr0.symm.trans (U HRUN)
      refine⟨a,c1,by rw[← hrr];rfl,?_,(U HBW).trans ((U HB1).mono (U HBW).size)⟩
      rw[← hrr]
      exact (U HOWN).below (U HB1)
    | some q =>
      obtain⟨s,n⟩:=q
      obtain⟨a2,c2,rfl,hs⟩:∃ a c,e=.returned (.tuple #[.slice a s.length c,.int .i64 n])∧OwnI wr.heap.size w1 (.slice a s.length c) s:=hout
      obtain⟨hs1,hs2,hs3⟩:=U HSO s n rfl
      obtain⟨g,cg,e3,_,_⟩:=World.ownsRow.form (U HOWN) (by omega)
      simp only[Value.slice.injEq,true_and]at e3
      obtain⟨rfl,rfl⟩:=e3
      have HO1:=V ((OwnI.cut (U HOWN) (r.length-n) (by omega)).below hb1)
      have HIS:=V hs.isIn.1
      have HB1:Hid (Below w0.heap.size w0 w1):=(U HBW).trans (hb1.mono (U HBW).size)
      have hcap:=(U HOWN).cap
      have hcapI:(r.length:Int)≤c1:=by omega
      have hn0:((n:Int) == 0)=false:=by simp;omega
      have hnI:(n:Int)≤r.length:=by omega
      have hrlI:(r.length:Int)≤100000:=by omega
      have hsub:IntKind.i64.wrap ((r.length:Int)-n)=((r.length-n:Nat):Int):=by rw[IntKind.wrap_i64];omega
      have hsl:s.length≤100000:=by omega
      have HLT:Hid ((r.take (r.length-n)).length=r.length-n):=V (by rw[List.length_take];omega)
      have HSO2:=V (U HSK s n rfl)
      clear hs hb1 HSH
      obtain⟨q,hq⟩:∃ q,q=r.length-n:=⟨_,rfl⟩
      rw[← hq]at HO1 hsub HLT
      have hqI:(q:Int)≤c1:=by omega
      have hq0:(0:Int)≤q:=by omega
      have HQ:=V hq
      go_wp2_with (at_builtin;refine wpList_appI rfl (.tmp 24) (.tmp 25) rfl w0.heap.size w0 _ (r.take q) s a2 c2 (by simp[Act.eval,hq]) (by simp[Act.eval]) (U HO1) (U HIS) (by rw[U HLT];omega) (U HB1) (U HB1).size _ rfl ?_;intro a3 c3 w3 HO3 HB3)
      go_roundw
      case rel =>
        have hq:=U HQ
        have hl:(r.take q++s).length<r.length:=by rw[List.length_append,U HLT];omega
        refine⟨r.take q++s,a3,c3,by rw[List.length_append,U HLT,hq],U HO3,by omega,fun x hx=>?_,?_,U HB3⟩
        · rcases List.mem_append.1 hx with h|h
          · exact U HROK x (List.mem_of_mem_take h)
          · exact U HSO2 x h
        · rw[← U HRUN]
          obtain⟨k,hk⟩:∃ k,r.length=k+1:=⟨r.length-1,by omega⟩
          rw[hk]
          conv=>rhs;unfold settledS
          rw[U HSHE]
          simp only
          rw[← U HQ]
          exact settledS_all next _ _ _ (Nat.le_refl _) (by omega)
      case measure =>
        simp only[sliceLen]
        have hq:=U HQ
        first
        | omega
        | (rw[List.length_append,U HLT];omega)
end Go.Proofs.YtmeiikjpaepogaaGreatDoor
