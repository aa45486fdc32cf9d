/- The program: small functions of its packages tokens and compiler. -/
import Derived.Test.YtmeiikjpaepogaaGreatDoorU07
import Derived.Test.YtmeiikjpaepogaaGreatDoorU01
import Derived.Maps.OwnSet
import Derived.Maps.Views
import Derived.Test.YtmeiikjpaepogaaGreatDoorU03
set_option maxRecDepth 100000
set_option maxHeartbeats 4000000
namespace Go.Proofs.YtmeiikjpaepogaaGreatDoor
open Go Go.RowKit
theorem isGap_any (c:UInt8) (w:World) :
    Calls Tryz.prog 141 #[.int .u8 c.toNat] w fun e w'=>e=.returned (.bool (gapB c))∧w'=w:=by
  have h1:gapB c=(((c.toNat:Int) == 32) || ((c.toNat:Int) == 10)):=by
    unfold gapB
    have e1:(c == 32)=((c.toNat:Int) == 32):=by
      rw[Bool.eq_iff_iff]
      simp only[beq_iff_eq]
      constructor
      · rintro rfl;rfl
      · intro h;apply UInt8.toNat_inj.1;have:(32:UInt8).toNat=32:=rfl;omega
    have e2:(c == 10)=((c.toNat:Int) == 10):=by
      rw[Bool.eq_iff_iff]
      simp only[beq_iff_eq]
      constructor
      · rintro rfl;rfl
      · intro h;apply UInt8.toNat_inj.1;have:(10:UInt8).toNat=10:=rfl;omega
    rw[e1,e2]
  rw[h1]
  generalize (c.toNat:Int)=z
  by_cases hz:z=32
  · subst hz
    go_enter Tryz.func141,Tryz.ntmps141
    go_wp2
    go_ret
    exact⟨rfl,rfl⟩
  · by_cases hz2:z=10
    · subst hz2
      go_enter Tryz.func141,Tryz.ntmps141
      go_wp2
      go_ret
      exact⟨rfl,rfl⟩
    · go_enter Tryz.func141,Tryz.ntmps141
      go_wp2
      go_ret
      exact⟨rfl,rfl⟩
theorem Tryz.sizeInstr:(Tryz.prog.info? 65).map (fun i=>i.size)=some 2:=by kernel_rfl
theorem plainI_any (op:Int) (w:World) :
    Calls Tryz.prog 51 #[.int .i64 op] w fun e w'=>e=.returned (.agg #[.int .i64 op,.int .i64 0])∧w'=w.alloc (.cells #[.int .i64 op,.int .i64 0] 65):=by
  go_enter Tryz.func51,Tryz.ntmps51
  go_wp2_with fail
  refine bodyPost_ret (results_cell_row (P:=Tryz.prog) rfl _ _ w.heap.size 65 _ (0,0) _ rfl (Blk.new w _ _) Tryz.underlying65 rfl Tryz.sizeInstr) rfl ?_
  exact⟨rfl,rfl⟩
theorem withI_any (op arg:Int) (w:World) :
    Calls Tryz.prog 77 #[.int .i64 op,.int .i64 arg] w fun e w'=>e=.returned (.agg #[.int .i64 op,.int .i64 arg])∧w'=w.alloc (.cells #[.int .i64 op,.int .i64 arg] 65):=by
  go_enter Tryz.func77,Tryz.ntmps77
  go_wp2_with fail
  refine bodyPost_ret (results_cell_row (P:=Tryz.prog) rfl _ _ w.heap.size 65 _ (0,0) _ rfl (Blk.new w _ _) Tryz.underlying65 rfl Tryz.sizeInstr) rfl ?_
  exact⟨rfl,rfl⟩
theorem partNext_any (d n:Nat) (ao:Option Addr) (cap:Nat) (w:World) (h:Blk w d #[.slice ao n cap] 140) (hn:n≤100000) :
    Calls Tryz.prog 78 #[.pointer (some ⟨d,0,none⟩)] w fun e w'=>e=.returned (.int .i64 n)∧w'=w:=by
  have hc:=h.cell
  have hnI:(n:Int)≤100000:=by omega
  have hw:IntKind.i64.wrap (n:Int)=n:=by rw[IntKind.wrap_i64];omega
  go_enter Tryz.func78,Tryz.ntmps78
  go_wp2
  go_ret
  exact⟨rfl,rfl⟩
theorem partAdd_any (B d q:Nat) (v:Value) (l:List (Int×Int)) (op arg:Int) (c1:Nat) (w:World) (h:Blk w d #[v] 140) (ho:w.ownsRow B 65 2 v l.length (instrCells l)) (hq:Blk w q #[.int .i64 op,.int .i64 arg] 65) (hB:B≤w.heap.size) (hl:l.length<50000) :
    Calls Tryz.prog 50 #[.pointer (some ⟨d,0,none⟩),.slice (some ⟨q,0,none⟩) 1 c1] w fun e w'=>e=.returned (.int .i64 l.length)∧∃ g cap w1,w1.ownsRow B 65 2 (.slice (some ⟨g,0,none⟩) (l.length+1) cap) (l.length+1) (instrCells (l++[(op,arg)]))∧w.grownBy w1 v.ownBlock∧(v.ownBlock=some g∨g=w.heap.size)∧w'=w1.setCell ⟨d,0,none⟩ (.slice (some ⟨g,0,none⟩) (l.length+1) cap):=by
  obtain⟨iI,hiI,hzI0,hzI1,hzI2⟩:=info_parts Tryz.infoInstr
  obtain⟨ao,cap,hv⟩:=own_shape ho
  subst hv
  have HN:=V (partNext_any d l.length ao cap w h (by omega))
  have hc:=h.cell
  have hf:=h.free
  have hne:some d≠(Value.slice ao l.length cap).ownBlock:=fun e=>row_not_blk h ho (by decide) e.symm
  have HO:=V ho
  have HQ:=V hq
  have HB:=V hB
  have HH:=V h
  clear ho hq hB h
  go_enter Tryz.func50,Tryz.ntmps50
  go_wp2_with fail
  refine (U HN).mono ?_
  rintro e w2 ⟨rfl,hw⟩
  obtain rfl:=hw.symm
  clear hw HN
  go_wp2_with (at_builtin;refine wpList_append_lies _ rfl (.tmp 12) (.tmp 13) 33 rfl B 65 iI _ 2 16 Tryz.underlying33 hiI hzI0 hzI1 hzI2 rfl (by decide) (.slice ao l.length cap) l.length (instrCells l) (by simp[Act.eval]) (U HO) ⟨q,0,none⟩ 1 c1 [.int .i64 op,.int .i64 arg] (by simp[Act.eval]) rfl (World.news_of_block (U HQ)) (by simp[Value.oneCell']) (by omega) (by unfold maxLen;omega) (by omega) (U HB) _ rfl ?_;intro g cap2 w5 hown hgrow hat hlt1;have hb5:=(U HH).grown hgrow hne;have hc5:=hb5.cell;have hf5:=hb5.free;have HOW:=V hown;have HG:=V hgrow;have HA:=V hat;clear hown hgrow hat hb5 hc hf)
  go_ret
  refine⟨rfl,g,cap2,w5,?_,U HG,U HA,rfl⟩
  have:=U HOW
  simpa [instrCells] using this
theorem blk_two (w:World) (o:Obj) (cs:Array Value) (T:TypeId):Blk ((w.alloc o).alloc (.cells cs T)) (w.heap.size+1) cs T:=by
  have h:=Blk.new (w.alloc o) cs T
  have e:(w.alloc o).heap.size=w.heap.size+1:=by simp
  rw[e]at h
  exact h
theorem moved_any (op arg by':Int) (w:World) :
    Calls Tryz.prog 150 #[.agg #[.int .i64 op,.int .i64 arg],.int .i64 by'] w fun e w'=>e=.returned (.agg #[.int .i64 (shiftS by' (op,arg)).1,.int .i64 (shiftS by' (op,arg)).2])∧Below w.heap.size w w':=by
  go_enter Tryz.func150,Tryz.ntmps150
  go_wp2_with fail
  all_goals
    refine bodyPost_ret (results_cell_row (P:=Tryz.prog) rfl _ _ (w.heap.size+1) 65 _ (0,0) _ rfl (blk_two w _ _ _) Tryz.underlying65 rfl Tryz.sizeInstr) rfl ?_
    refine⟨?_,((Below.refl _ _).alloc (Nat.le_refl _) _).alloc (by simp) _⟩
    rw[shiftS_eq]
    simp_all [jumpB]
def vocab:List (ByteArray×Int×Int):=[(⟨#[43]⟩,0,9),(⟨#[45]⟩,0,10),(⟨#[42]⟩,0,11),(⟨#[47]⟩,0,12),(⟨#[109,111,100]⟩,0,13),(⟨#[97,110,100]⟩,0,14),(⟨#[111,114]⟩,0,15),(⟨#[120,111,114]⟩,0,16),(⟨#[105,110,118,101,114,116]⟩,0,17),(⟨#[110,101,103,97,116,101]⟩,0,18),(⟨#[61]⟩,0,19),(⟨#[60]⟩,0,20),(⟨#[100,117,112]⟩,0,21),(⟨#[100,114,111,112]⟩,0,22),(⟨#[115,119,97,112]⟩,0,23),(⟨#[111,118,101,114]⟩,0,24),(⟨#[114,111,116]⟩,0,25),(⟨#[62,114]⟩,0,26),(⟨#[114,62]⟩,0,27),(⟨#[114,64]⟩,0,28),(⟨#[33]⟩,0,29),(⟨#[64]⟩,0,30),(⟨#[101,109,105,116]⟩,0,31),(⟨#[46]⟩,0,32),(⟨#[105]⟩,0,8),(⟨#[58]⟩,1,0),(⟨#[118,97,114,105,97,98,108,101]⟩,2,0),(⟨#[99,111,110,115,116,97,110,116]⟩,3,0),(⟨#[114,101,99,117,114,115,101]⟩,4,0),(⟨#[105,102]⟩,5,0),(⟨#[98,101,103,105,110]⟩,6,0),(⟨#[100,111]⟩,7,0),(⟨#[59]⟩,8,0),(⟨#[116,104,101,110]⟩,8,0),(⟨#[101,108,115,101]⟩,8,0),(⟨#[117,110,116,105,108]⟩,8,0),(⟨#[119,104,105,108,101]⟩,8,0),(⟨#[114,101,112,101,97,116]⟩,8,0),(⟨#[108,111,111,112]⟩,8,0)]
def vocA:Array Value:=(nameCells vocab).toArray
theorem vocA_size:vocA.size=117:=by decide
theorem vocab_length:vocab.length=39:=rfl
theorem vocA_at (k:Nat) (x:ByteArray×Int×Int) (h:vocab[k]? = some x):vocA.extract (k * 3) (k * 3+3)=#[.string x.1,.int .i64 x.2.1,.int .i64 x.2.2]:=by
  have hk:k<39:=by have:=(List.getElem?_eq_some_iff.1 h).1;rw[vocab_length]at this;exact this
  have h2:vocab[k]? = some vocab[k]:=List.getElem?_eq_getElem (by rw[vocab_length];exact hk)
  rw[h2]at h
  obtain rfl:=Option.some.inj h
  match k,hk with
  | 0,_=>rfl
  | 1,_=>rfl
  | 2,_=>rfl
  | 3,_=>rfl
  | 4,_=>rfl
  | 5,_=>rfl
  | 6,_=>rfl
  | 7,_=>rfl
  | 8,_=>rfl
  | 9,_=>rfl
  | 10,_=>rfl
  | 11,_=>rfl
  | 12,_=>rfl
  | 13,_=>rfl
  | 14,_=>rfl
  | 15,_=>rfl
  | 16,_=>rfl
  | 17,_=>rfl
  | 18,_=>rfl
  | 19,_=>rfl
  | 20,_=>rfl
  | 21,_=>rfl
  | 22,_=>rfl
  | 23,_=>rfl
  | 24,_=>rfl
  | 25,_=>rfl
  | 26,_=>rfl
  | 27,_=>rfl
  | 28,_=>rfl
  | 29,_=>rfl
  | 30,_=>rfl
  | 31,_=>rfl
  | 32,_=>rfl
  | 33,_=>rfl
  | 34,_=>rfl
  | 35,_=>rfl
  | 36,_=>rfl
  | 37,_=>rfl
  | 38,_=>rfl
theorem Tryz.infoMeaning:(Tryz.prog.info? 146).map (fun i=>i.size)=some 3:=by kernel_rfl
theorem Tryz.sizeVocab:(Tryz.prog.info? 194).map (fun i=>i.size)=some 117:=by kernel_rfl
theorem voc_index (k:Nat) (x:ByteArray×Int×Int) (h:vocab[k]? = some x) (W:World) :
    (Instr.index 194 (.agg vocA) (.int .i64 (k:Int))).run Tryz.prog W=.ok (.agg #[.string x.1,.int .i64 x.2.1,.int .i64 x.2.2]) W:=by
  have hk:k<39:=by have:=(List.getElem?_eq_some_iff.1 h).1;rw[vocab_length]at this;exact this
  have hx:=vocA_at k x h
  cases hq:Tryz.prog.info? 146 with
  | none=>have:=Tryz.infoMeaning;rw[hq]at this;cases this
  | some i =>
    have hs:i.size=3:=by have:=Tryz.infoMeaning;rw[hq]at this;simpa using this
    have hc:(0:Int)≤(k:Int)∧(k:Int)<39:=by omega
    simp[Instr.index,run_underlying Tryz.underlying194,asIntOf,sizeOf,typeInfo,hq,hs,hc,Sem.run_bind]
    rw[if_pos hk]
    have hagg:(isAgg 146).run Tryz.prog W=.ok true W:=by
      unfold isAgg
      rw[Sem.run_bind,run_underlying Tryz.underlying146 W]
      rfl
    simp[part,Sem.run_bind,hagg,sizeOf,typeInfo,hq,hs,hx]
def meanS (s:ByteArray):Option (ByteArray×Int×Int):=vocab.find? (fun x=>x.1.toList == s.toList)
def meanV (s:ByteArray):Value:=match meanS s with|some x=>.agg #[.string x.1,.int .i64 x.2.1,.int .i64 x.2.2]|none=>.agg #[.string ⟨#[]⟩,.int .i64 0,.int .i64 0]
theorem mean_hit (s:ByteArray) (k:Nat) (x:ByteArray×Int×Int) (hx:vocab[k]? = some x) (hall:∀ (j:Nat) (y:ByteArray×Int×Int),j<k→vocab[j]? = some y→(y.1.toList == s.toList)=false) (he:(x.1.toList == s.toList)=true):meanS s=some x:=by
  unfold meanS
  rw[List.find?_eq_some_iff_getElem]
  obtain⟨hk,rfl⟩:=List.getElem?_eq_some_iff.1 hx
  refine⟨he,k,hk,rfl,?_⟩
  intro j hj
  have:=hall j _ hj (List.getElem?_eq_getElem (by omega))
  simp[this]
theorem mean_none (s:ByteArray) (hall:∀ (j:Nat) (y:ByteArray×Int×Int),vocab[j]? = some y→(y.1.toList == s.toList)=false):meanS s=none:=by
  unfold meanS
  rw[List.find?_eq_none]
  intro x hx
  obtain⟨j,hj⟩:=List.getElem?_of_mem hx
  simp[hall j x hj]
theorem results_row_tmp {P:Program} {fn:Func} {p u:Tmp} {ty:TypeId} (h:fn.results=#[.cell p ty,.tmp u]) (tmps:Array Value) (w:World) (g:Nat) (t:TypeId) (cs:Array Value) (fr:Nat×Nat) (d:TypeDesc)
    (hp:tmps.getD p undef=.pointer (some ⟨g,0,none⟩)) (hg:w.heap[g]? = some (.cells cs t fr))
    (hu:P.underlying ty=some d) (hd:(match d with|.struct _|.array _ _=>true|_=>false)=true) (hi:(P.info? ty).map (·.size)=some cs.size) :
    (results fn tmps).run P w=.ok (.tuple #[.agg cs,tmps.getD u undef]) w:=by
  rw[results_cell_tmp h,hp]
  simp[asAddr,run_loadVar_row w g t ty cs fr d hg hu hd hi]
theorem three_set {w:World} {b:Nat} {cs:Array Value} {T:TypeId} {x0 x1 x2 y0 y1 y2:Value} (h:Blk w b cs T) (hcs:cs=#[x0,x1,x2]) :
    Blk (((w.setCell ⟨b,0,none⟩ y0).setCell ⟨b,1,none⟩ y1).setCell ⟨b,2,none⟩ y2) b #[y0,y1,y2] T:=by
  subst hcs
  have h5:=((h.set 0 y0).set 1 y1).set 2 y2
  simpa only [List.setIfInBounds_toArray,List.set_cons_succ,List.set_cons_zero] using h5
def VocOk (w:World):Prop:=(∃ T fr,w.heap[0]? = some (.cells vocA T fr))∧6≤w.heap.size
theorem VocOk.below {w w':World} (h:VocOk w) (hb:Below w.heap.size w w'):VocOk w':=by
  obtain⟨⟨T,fr,h1⟩,h2⟩:=h
  exact⟨⟨T,fr,by rw[hb.block _ (by omega)];exact h1⟩,by have:=hb.size;omega⟩
theorem meaning_any (s:ByteArray) (w:World) (hV:VocOk w) :
    Calls Tryz.prog 74 #[.string s] w fun e w'=>e=.returned (.tuple #[meanV s,.bool (meanS s).isSome])∧Below w.heap.size w w':=by
  obtain⟨⟨T,fr,hv⟩,h6⟩:=hV
  have hvA:(w.alloc (.cells #[.string ⟨#[]⟩,.int .i64 0,.int .i64 0] 146)).heap[0]? = some (.cells vocA T fr):=by
    rw[Below.heap_alloc _ _ _ (by omega)];exact hv
  have HV:=V hvA
  have HR0:=V (Blk.new w #[.string ⟨#[]⟩,.int .i64 0,.int .i64 0] 146)
  have hsz:(Tryz.prog.info? 194).map (fun i=>i.size)=some vocA.size:=by rw[vocA_size];exact Tryz.sizeVocab
  have HSZ:=V hsz
  have HIX:=V voc_index
  have HLEN:=V vocab_length
  clear hv hvA hsz
  go_enter Tryz.func74,Tryz.ntmps74
  go_wp2_with (refine wpList_load_row rfl 194 _ rfl 0 rfl T vocA fr _ (U HV) Tryz.underlying194 rfl (U HSZ) ?_)
  clear HV HSZ
  generalize vocA=vA at HIX ⊢
  go_loopw [7] (fun i wr=>∃ k:Nat,i=.int .i64 k∧k≤39∧(∀ (j:Nat) (y:ByteArray×Int×Int),j<k→vocab[j]? = some y→(y.1.toList == s.toList)=false)∧Blk wr w.heap.size #[.string ⟨#[]⟩,.int .i64 0,.int .i64 0] 146∧Below w.heap.size w wr) (fun i _=>39-(intOf i).toNat)
  case atStart=>exact⟨0,rfl,by omega,fun j y hj=>by omega,U HR0,(Below.refl _ _).alloc (Nat.le_refl _) _⟩
  case round =>
    clear HR0
    obtain⟨k,rfl,hk,hall,hr,hb⟩:=hrel
    have HALL:=V hall
    have HB:=V hb
    have HR:=V hr
    have hc:=hr.cell
    have hf:=hr.free
    have hl:=hr.lt
    clear hall hb hr
    by_cases hlt:k<39
    · obtain⟨x,hx⟩:∃ x,vocab[k]? = some x:=⟨_,List.getElem?_eq_getElem (by rw[U HLEN];exact hlt)⟩
      have hidx:=U HIX k x hx
      have HX:=V hx
      have hltI:(k:Int)<39:=by omega
      clear hx
      cases he:(x.1.toList == s.toList)
      · go_wp2_with fail
        go_roundw
        case rel =>
          refine⟨k+1,by go_num,by omega,?_,(U HR).alloc _,(U HB).alloc (U HB).size _⟩
          intro j y hj hy
          rcases Nat.lt_or_ge j k with h1|h1
          · exact U HALL j y h1 hy
          · have:j=k:=by omega
            subst this
            rw[U HX]at hy
            obtain rfl:=Option.some.inj hy
            exact he
        case measure=>simp[intOf];omega
      · have hm:=mean_hit s k x (U HX) (U HALL) he
        have HM:=V hm
        clear hm
        go_wp2_with fail
        refine bodyPost_ret (results_row_tmp (P:=Tryz.prog) rfl _ _ w.heap.size 146 _ (0,0) _ rfl ((three_set (U HR) rfl).alloc _) Tryz.underlying146 rfl Tryz.infoMeaning) rfl ?_
        unfold meanV
        rw[U HM]
        exact⟨rfl,((((U HB).setCell (Nat.le_refl _) _).setCell (Nat.le_refl _) _).setCell (Nat.le_refl _) _).alloc (by have:=(U HB).size;simpa using this) _⟩
    · have hkn:k=39:=by omega
      subst hkn
      have hm:=mean_none s (fun j y hy=>U HALL j y (by have:=(List.getElem?_eq_some_iff.1 hy).1;rw[U HLEN]at this;exact this) hy)
      have HM:=V hm
      clear hm
      go_wp2_with fail
      refine bodyPost_ret (results_row_tmp (P:=Tryz.prog) rfl _ _ w.heap.size 146 _ (0,0) _ rfl (three_set (U HR) rfl) Tryz.underlying146 rfl Tryz.infoMeaning) rfl ?_
      unfold meanV
      rw[U HM]
      exact⟨rfl,(((U HB).setCell (Nat.le_refl _) _).setCell (Nat.le_refl _) _).setCell (Nat.le_refl _) _⟩
end Go.Proofs.YtmeiikjpaepogaaGreatDoor
namespace Go.Proofs.YtmeiikjpaepogaaGreatDoor
open Go Go.RowKit Go.Maps
def elemI (v:Value):Option (DataW Unit×List MemPlace) :=
  match v with
  | .agg cs => match cs.toList with
    | [.int .i64 a,.int .i64 b]=>some (.agg [.lit (.int .i64 a),.lit (.int .i64 b)],[])
    | _=>none
  | _=>none
theorem elemI_mk (a b:Int):elemI (.agg #[.int .i64 a,.int .i64 b])=some (.agg [.lit (.int .i64 a),.lit (.int .i64 b)],[]):=rfl
theorem elemI_inv {v:Value} {a b:Int} {ps:List MemPlace} (h:elemI v=some (.agg [.lit (.int .i64 a),.lit (.int .i64 b)],ps)):v=.agg #[.int .i64 a,.int .i64 b]:=by
  unfold elemI at h
  split at h
  · rename_i cs
    split at h
    · rename_i x y hl
      simp at h
      obtain⟨⟨rfl,rfl⟩,_⟩:=h
      have:cs=#[.int .i64 x,.int .i64 y]:=by
        apply Array.ext'
        simpa using hl
      rw[this]
    · cases h
  · cases h
theorem Tryz.keyedS:Keyed Tryz.prog 9:=string_keyed Tryz.underlying9
def MapIs (w:World) (mp:Nat) (names:List (ByteArray×Int×Int)):Prop :=
  ∃ n D, w.ownsMap Tryz.prog 9 elemI mp n D ∧ n ≤ names.length ∧ IsMap D ∧
    (∀ s:ByteArray,has D (.string s.data.toList)=(names.find? (fun x=>x.1 == s)).isSome) ∧
    ∀ (s:ByteArray) (x:ByteArray×Int×Int),names.find? (fun x=>x.1 == s)=some x→∀ z,D.atKey (.string s.data.toList) z=.agg [.lit (.int .i64 x.2.1),.lit (.int .i64 x.2.2)]
theorem MapIs.lt {w:World} {mp:Nat} {names:List (ByteArray×Int×Int)} (h:MapIs w mp names):mp<w.heap.size:=by
  obtain⟨n,D,h1,_⟩:=h
  exact h1.lt
theorem MapIs.to {w w':World} {mp:Nat} {names:List (ByteArray×Int×Int)} (h:MapIs w mp names) (hb:w'.heap[mp]? = w.heap[mp]?):MapIs w' mp names:=by
  obtain⟨n,D,⟨es,clock,h1,h2⟩,h3⟩:=h
  exact⟨n,D,⟨es,clock,by rw[hb];exact h1,h2⟩,h3⟩
theorem MapIs.notblk {w:World} {mp:Nat} {names:List (ByteArray×Int×Int)} (h:MapIs w mp names) {b:Nat} {cs:Array Value} {T:TypeId} (hb:Blk w b cs T):mp≠b:=by
  rintro rfl
  obtain⟨n,D,⟨es,clock,h1,_⟩,_⟩:=h
  unfold Blk at hb
  rw[hb]at h1
  simp at h1
theorem MapIs.new (w:World):MapIs (w.alloc (.map #[] 0)) w.heap.size [] :=
  ⟨0,.map [],World.ownsMap_made w _ _ _,Nat.le_refl _,isMap_empty,fun s=>rfl,fun s x hx=>by simp at hx⟩
theorem bytes_ext {s t:ByteArray} (h:s.data.toList=t.data.toList):s=t:=by
  cases s;cases t
  simp at h ⊢
  exact h
theorem beq_iff (s t:ByteArray):(s == t)=true↔s=t:=by
  cases s with
  | mk a =>
    cases t with
    | mk b =>
      show (a == b)=true↔_
      rw[beq_iff_eq]
      constructor
      · rintro rfl;rfl
      · intro e;injection e
theorem beq_bytes {s t:ByteArray} (h:s≠t):(s == t)=false:=by
  cases e:(s == t)
  · rfl
  · exact absurd ((beq_iff s t).1 e) h
theorem beq_same (s:ByteArray):(s == s)=true:=(beq_iff s s).2 rfl
theorem MapIs.put {w':World} {mp:Nat} {names:List (ByteArray×Int×Int)} {n:Nat} {D:DataW Unit} (hn:n≤names.length) (hm:IsMap D)
    (hh:∀ s:ByteArray,has D (.string s.data.toList)=(names.find? (fun x=>x.1 == s)).isSome)
    (ha:∀ (s:ByteArray) (x:ByteArray×Int×Int),names.find? (fun x=>x.1 == s)=some x→∀ z,D.atKey (.string s.data.toList) z=.agg [.lit (.int .i64 x.2.1),.lit (.int .i64 x.2.2)])
    {t:ByteArray} {op arg:Int} (hnew:names.find? (fun x=>x.1 == t)=none) (h':w'.ownsMap Tryz.prog 9 elemI mp (n+1) (D.put (.string t.data.toList) (.agg [.lit (.int .i64 op),.lit (.int .i64 arg)]))) :
    MapIs w' mp (names++[(t,op,arg)]):=by
  refine⟨n+1,_,h',by simp;omega,hm.put _ _,?_,?_⟩
  · intro s
    by_cases e:s=t
    · subst e
      rw[has_put_same hm (k:=.string _) trivial,List.find?_append,hnew]
      simp[beq_same]
    · have hne:Lit.string s.data.toList≠Lit.string t.data.toList:=fun e2=>e (bytes_ext (by simpa using e2))
      rw[has_put_other hne,hh s,List.find?_append]
      have:(t == s)=false:=beq_bytes (fun e2=>e e2.symm)
      simp[this]
  · intro s x hx z
    by_cases e:s=t
    · subst e
      rw[List.find?_append,hnew]at hx
      have hss:(s == s)=true:=beq_same s
      simp[hss]at hx
      subst hx
      rw[atKey_put_same hm (k:=.string _) trivial]
    · have hne:Lit.string s.data.toList≠Lit.string t.data.toList:=fun e2=>e (bytes_ext (by simpa using e2))
      rw[atKey_put_other hne]
      apply ha s x
      rw[List.find?_append]at hx
      have:(t == s)=false:=beq_bytes (fun e2=>e e2.symm)
      simpa [this] using hx
theorem Tryz.zeroInstr (w:World):(zeroValue 65).run Tryz.prog w=.ok (.agg #[.int .i64 0,.int .i64 0]) w:=by
  obtain⟨iI,hiI,hzI0,_,_⟩:=info_parts Tryz.infoInstr
  simp[zeroValue,typeInfo,hiI,hzI0]
def lookS (names:List (ByteArray×Int×Int)) (s:ByteArray):Value:=match names.find? (fun x=>x.1 == s) with|some x=>.agg #[.int .i64 x.2.1,.int .i64 x.2.2]|none=>.agg #[.int .i64 0,.int .i64 0]
theorem MapIs.look {w:World} {mp:Nat} {names:List (ByteArray×Int×Int)} (h:MapIs w mp names) (s:ByteArray) (hs:s.size≤2000) :
    (Instr.lookup 97 (.map (some mp)) (.string s) true).run Tryz.prog w=.ok (.tuple #[lookS names s,.bool (names.find? (fun x=>x.1 == s)).isSome]) w:=by
  obtain⟨n,D,h1,h2,h3,h4,h5⟩:=h
  obtain⟨v,ps,hrun,hv⟩:=h1.look_ok Tryz.keyedS Tryz.underlying97 (Tryz.zeroInstr w) (elemI_mk 0 0) (WideMaps.keyOf_string_mk Tryz.underlying9 (s:=s) (by unfold maxLen;omega))
  rw[hrun,h4 s]
  unfold lookS
  cases hf:names.find? (fun x=>x.1 == s) with
  | some x =>
    rw[h5 s x hf]at hv
    rw[elemI_inv hv]
  | none =>
    have:has D (.string s.data.toList)=false:=by rw[h4 s,hf];rfl
    rw[atKey_of_not_has this]at hv
    rw[elemI_inv hv]
theorem MapIs.update {w:World} {mp:Nat} {names:List (ByteArray×Int×Int)} (h:MapIs w mp names) (t:ByteArray) (ht:t.size≤2000) (op arg:Int) (hl:names.length≤10000) (hnew:names.find? (fun x=>x.1 == t)=none) :
    ∃ w',(Instr.mapUpdate 97 (.map (some mp)) (.string t) (.agg #[.int .i64 op,.int .i64 arg])).run Tryz.prog w=.ok () w'∧MapIs w' mp (names++[(t,op,arg)])∧w.grownBy w' (some mp):=by
  obtain⟨n,D,h1,h2,h3,h4,h5⟩:=h
  obtain⟨w',hrun,hown,hg⟩:=h1.update Tryz.keyedS Tryz.underlying97 (by unfold maxLen;omega) (WideMaps.keyOf_string_mk Tryz.underlying9 (s:=t) (by unfold maxLen;omega)) (elemI_mk op arg)
  exact⟨w',hrun,MapIs.put h2 h3 h4 h5 hnew hown,hg⟩
end Go.Proofs.YtmeiikjpaepogaaGreatDoor
namespace Go.Proofs.YtmeiikjpaepogaaGreatDoor
open Go Go.RowKit
theorem mean_some {s:ByteArray} {x:ByteArray×Int×Int} (h:meanS s=some x):x∈vocab∧s=x.1:=by
  unfold meanS at h
  refine⟨List.mem_of_find?_eq_some h,?_⟩
  have:=List.find?_some h
  have e:x.1.toList=s.toList:=by simpa using this
  rw[ByteArray.toList_eq,ByteArray.toList_eq]at e
  exact (bytes_ext e).symm
theorem mean_no {s:ByteArray} (h:meanS s=none):∀ x∈vocab,x.1.data.toList≠s.data.toList:=by
  unfold meanS at h
  intro x hx e
  have:=List.find?_eq_none.1 h x hx
  rw[ByteArray.toList_eq,ByteArray.toList_eq]at this
  simp[e]at this
def plainL (l:List UInt8):Int:=match plainWords.find? (fun x=>x.1.data.toList == l) with|some x=>x.2|none=>-1
theorem plainS_L (s:ByteArray):plainS s=plainL s.data.toList:=by unfold plainS plainL;simp only[ByteArray.toList_eq];rfl
def structL (l:List UInt8):Bool:=structWords.any fun t=>l == t
theorem structS_L (s:ByteArray):structS s=structL s.data.toList:=by unfold structS structL;simp only[ByteArray.toList_eq]
def numL (l:List UInt8):Option Int:=if l.head? = some 45 then (numFrom l.tail 9223372036854775808).map (fun n:Nat=>-(n:Int)) else (numFrom l 9223372036854775807).map (fun n:Nat=>(n:Int))
theorem numS_L (s:ByteArray):numS s=numL s.data.toList:=by unfold numS numL;simp only[ByteArray.toList_eq]
def recL:List UInt8:=[114,101,99,117,114,115,101]
def linkB (x:ByteArray×Int×Int):Bool :=
  let l:=x.1.data.toList
  if x.2.1=0 then !isDefine l&&!structL l&&plainL l == x.2.2&&decide (0≤x.2.2)
  else if x.2.1=1 then l == [58]
  else if x.2.1=2 then l == [118,97,114,105,97,98,108,101]
  else if x.2.1=3 then l == [99,111,110,115,116,97,110,116]
  else if x.2.1=4 then l == recL
  else if x.2.1=5 then l == [105,102]
  else if x.2.1=6 then l == [98,101,103,105,110]
  else if x.2.1=7 then l == [100,111]
  else x.2.1 == 8&&(l == [59] || (structL l&&!(l == recL)&&!isDefine l&&!(l == [105,102])&&!(l == [98,101,103,105,110])&&!(l == [100,111])))
theorem link_all:vocab.all linkB=true:=by decide
theorem link {s:ByteArray} {x:ByteArray×Int×Int} (h:meanS s=some x):s=x.1∧linkB x=true:=by
  obtain⟨h1,h2⟩:=mean_some h
  exact⟨h2,List.all_eq_true.1 link_all x h1⟩
theorem vocab_bad:vocab.all (fun x=>decide (0≤plainL x.1.data.toList) || structL x.1.data.toList)=true:=by decide
theorem struct_in:structWords.all (fun t=>vocab.any fun x=>x.1.data.toList == t)=true:=by decide
theorem plain_in:plainWords.all (fun y=>vocab.any fun x=>x.1.data.toList == y.1.data.toList)=true:=by decide
theorem define_in:[[58],[59],[118,97,114,105,97,98,108,101],[99,111,110,115,116,97,110,116],recL].all (fun t=>structWords.any fun x=>x == t)=true:=by decide
theorem rec_num:numL recL=none:=by decide
theorem rec_plain:plainL recL=-1:=by decide
theorem struct_no {s:ByteArray} (h:meanS s=none):structL s.data.toList=false:=by
  cases e:structL s.data.toList
  · rfl
  · unfold structL at e
    obtain⟨t,ht,e⟩:=List.any_eq_true.1 e
    have:=List.all_eq_true.1 struct_in t ht
    obtain⟨x,hx,e2⟩:=List.any_eq_true.1 this
    exact absurd (by rw[beq_iff_eq]at e e2;rw[e2,e]) (mean_no h x hx)
theorem plain_no {s:ByteArray} (h:meanS s=none):plainS s=-1:=by
  rw[plainS_L]
  unfold plainL
  cases e:plainWords.find? (fun x=>x.1.data.toList == s.data.toList) with
  | none=>rfl
  | some y =>
    have h1:=List.mem_of_find?_eq_some e
    have h2:=List.find?_some e
    have:=List.all_eq_true.1 plain_in y h1
    obtain⟨x,hx,e2⟩:=List.any_eq_true.1 this
    exact absurd (by rw[beq_iff_eq]at h2 e2;rw[e2,h2]) (mean_no h x hx)
theorem structL_in {l t:List UInt8} (h:structL l=false) (ht:(structWords.any fun x=>x == t)=true):(l == t)=false:=by
  cases e:(l == t)
  · rfl
  · have e1:l=t:=by simpa using e
    unfold structL at h
    obtain⟨x,hx,e2⟩:=List.any_eq_true.1 ht
    have:=List.any_eq_false.1 h x hx
    rw[e1]at this
    exact absurd (by rw[beq_iff_eq]at e2 ⊢;exact e2.symm) this
theorem define_no {l:List UInt8} (h:structL l=false):isDefine l=false∧(l == recL)=false:=by
  have hd:=define_in
  simp only[List.all_cons,List.all_nil,Bool.and_true,Bool.and_eq_true]at hd
  obtain⟨h1,h2,h3,h4,h5⟩:=hd
  unfold isDefine
  rw[structL_in h h1,structL_in h h2,structL_in h h3,structL_in h h4,structL_in h h5]
  exact⟨rfl,rfl⟩
theorem find_link (names:List (ByteArray×Int×Int)) (s:ByteArray):decide (0≤findS names s)=(names.find? (fun x=>x.1 == s)).isSome:=by
  unfold findS
  cases e:names.findIdx? (fun x=>x.1 == s) with
  | none =>
    have h1:=List.findIdx?_eq_none_iff.1 e
    have:names.find? (fun x=>x.1 == s)=none:=List.find?_eq_none.2 (fun x hx=>by have:=h1 x hx;simp[this])
    rw[this];simp
  | some k =>
    obtain⟨hk,h1,h2⟩:=List.findIdx?_eq_some_iff_getElem.1 e
    have:names.find? (fun x=>x.1 == s)=some names[k]:=by
      rw[List.find?_eq_some_iff_getElem]
      exact⟨h1,k,hk,rfl,fun j hj=>by have:=h2 j hj;simpa using this⟩
    rw[this];simp
theorem find_at {names:List (ByteArray×Int×Int)} {s:ByteArray} {x:ByteArray×Int×Int} (h:names.find? (fun x=>x.1 == s)=some x):0≤findS names s∧names[(findS names s).toNat]? = some x:=by
  obtain⟨h1,k,hk,rfl,h2⟩:=List.find?_eq_some_iff_getElem.1 h
  have e:names.findIdx? (fun x=>x.1 == s)=some k:=List.findIdx?_eq_some_iff_getElem.2 ⟨hk,h1,fun j hj=>by have:=h2 j hj;simpa using this⟩
  unfold findS
  rw[e]
  simp
theorem may_link (st:RS):(!st.token.toList.isEmpty&&!(meanS st.token).isSome&&!(numS st.token).isSome&&!(st.names.find? (fun x=>x.1 == st.token)).isSome)=!badName st:=by
  unfold badName
  rw[find_link]
  have hm:(decide (0≤plainS st.token) || structS st.token)=(meanS st.token).isSome:=by
    cases e:meanS st.token with
    | none=>rw[plain_no e,structS_L,struct_no e];rfl
    | some x =>
      obtain⟨h1,h2⟩:=mean_some e
      have:=List.all_eq_true.1 vocab_bad x h1
      rw[plainS_L,structS_L,h2]
      simpa using this
  rw[← hm]
  cases st.token.toList.isEmpty<;>cases (numS st.token).isSome<;>cases decide (0≤plainS st.token)<;>cases structS st.token<;>cases (st.names.find? (fun x=>x.1 == st.token)).isSome<;>rfl
structure NmOk (st:RS):Prop where
  names:∀ n∈st.names,meanS n.1=none
  word:0≤st.start→meanS st.name=none∧st.names.find? (fun x=>x.1 == st.name)=none∧st.name.size≤2000
theorem NmOk.of {st st':RS} (h:NmOk st) (e1:st'.names=st.names) (e2:st'.start=st.start) (e3:st'.name=st.name):NmOk st' :=
  ⟨by rw[e1];exact h.names,by rw[e1,e2,e3];exact h.word⟩
theorem nm_put {st:RS} (h:NmOk st) (op arg:Int):NmOk (putS st op arg):=by unfold putS;split<;>exact h.of rfl rfl rfl
theorem nm_tell {st:RS} (h:NmOk st) (n:Nat):NmOk (tellS st n):=by unfold tellS;split<;>exact h.of rfl rfl rfl
theorem nm_fail {st:RS} (h:NmOk st) (e:Int):NmOk (failS st e):=by unfold failS;split<;>exact h.of rfl rfl rfl
theorem nm_step {st:RS} (h:NmOk st):NmOk (stepS st):=h.of rfl rfl rfl
theorem nm_open {st:RS} (h:NmOk st) (x:ByteArray×Int×Int):NmOk (openS st x):=h.of rfl rfl rfl
theorem nm_cut {st:RS} (h:NmOk st) (l:List (ByteArray×Int×Int)):NmOk { st with opens:=l }:=h.of rfl rfl rfl
theorem good_name {st:RS} {m:Nat} (h:Inv st m) (hb:(newNameS st).err=0):badName (stepS st)=false∧newNameS st=stepS st∧meanS (stepS st).token=none∧(stepS st).names.find? (fun x=>x.1 == (stepS st).token)=none∧(stepS st).token.size≤2000:=by
  have hbad:badName (stepS st)=false:=by
    cases e:badName (stepS st)
    · rfl
    · unfold newNameS at hb
      rw[e]at hb
      simp only[if_true]at hb
      unfold failS at hb
      split at hb
      · simp at hb
      · contradiction
  have hl:=may_link (stepS st)
  rw[hbad]at hl
  simp only[Bool.not_false,Bool.and_eq_true,Bool.not_eq_true']at hl
  obtain⟨⟨⟨_,h2⟩,_⟩,h4⟩:=hl
  refine⟨hbad,by unfold newNameS;rw[hbad];rfl,Option.not_isSome_iff_eq_none.1 (by simp[h2]),Option.not_isSome_iff_eq_none.1 (by simp[h4]),?_⟩
  have:=stepS_token_size st
  have:=h.size
  omega
theorem nm_named {st:RS} (h:NmOk st) (hs:st.start<0) {t:ByteArray} (ht:meanS t=none) (op arg:Int):NmOk { st with names:=st.names++[(t,op,arg)] }:=by
  refine⟨?_,fun e=>by simp at e;omega⟩
  intro n hn
  simp at hn
  rcases hn with hn|rfl
  · exact h.names n hn
  · exact ht
theorem nm_define {st:RS} {m:Nat} (hi:Inv st m) (h:NmOk st):NmOk (defineS st):=by
  unfold defineS
  split
  · split
    · exact nm_fail h _
    · rename_i hno
      have hs:0≤st.start:=by
        rcases Int.lt_or_le st.start 0 with e|e
        · exact absurd (Or.inl e) hno
        · exact e
      unfold semiS
      refine⟨?_,fun e=>by simp at e⟩
      intro n hn
      simp at hn
      rcases hn with hn|rfl
      · exact (nm_put h 4 0).names n hn
      · exact ((nm_put h 4 0).word (by unfold putS;rw[if_pos hs];exact hs)).1
  · split
    · exact nm_fail h _
    · rename_i hno
      have hs:st.start<0:=by
        rcases Int.lt_or_le st.start 0 with e|e
        · exact e
        · exact absurd (Or.inl e) hno
      split
      · unfold newNameS
        split
        · exact nm_fail (nm_step h) _
        · exact nm_step h
      · rename_i hok
        obtain⟨h1,h2,h3,h4,h5⟩:=good_name hi (by omega)
        rw[h2]
        have hu:=nm_step h
        split
        · exact⟨hu.names,fun _=>⟨h3,h4,h5⟩⟩
        · split
          · exact (nm_named hu hs h3 0 (stepS st).cells).of rfl rfl rfl
          · have hc:NmOk (constant3 (stepS st))∧(constant3 (stepS st)).start<0:=by
              unfold constant3
              split
              · exact⟨nm_step hu,hs⟩
              · refine⟨nm_fail (nm_step hu) _,?_⟩
                rw[(failS_same _ _).2.1];exact hs
            exact nm_named hc.1 hc.2 h3 0 _
theorem nm_control {st:RS} (h:NmOk st):NmOk (controlS st):=by
  unfold controlS
  simp only
  split
  · exact nm_open (nm_put h _ _) _
  · split
    · exact nm_open h _
    · split
      · exact nm_open (nm_put h _ _) _
      · split
        · exact nm_fail h _
        · unfold closeS
          simp only
          split
          · exact nm_open (nm_tell (nm_put (nm_cut h _) _ _) _) _
          · split
            · exact nm_tell (nm_cut h _) _
            · split
              · exact nm_put (nm_cut h _) _ _
              · split
                · exact nm_open (nm_put (nm_cut h _) _ _) _
                · split
                  · exact nm_tell (nm_put (nm_cut h _) _ _) _
                  · split
                    · exact nm_put (nm_cut h _) _ _
                    · exact nm_fail h _
theorem nm_element {st:RS} (h:NmOk st):NmOk (elementS st):=by
  unfold elementS
  split
  · exact nm_put h _ _
  · split
    · exact nm_put h _ _
    · split
      · split
        · exact nm_put h _ _
        · exact h
      · split
        · exact nm_put h _ _
        · exact nm_fail h _
theorem nm_item {st:RS} {m:Nat} (hi:Inv st m) (h:NmOk st):NmOk (itemS st):=by
  unfold itemS
  split
  · exact nm_define hi h
  · split
    · exact nm_control h
    · exact nm_element h
theorem nm_start (s:ByteArray):NmOk (startS s):=⟨by simp[startS],by simp[startS]⟩
section
variable {st:RS} {x:ByteArray×Int×Int}
theorem item_op (h:meanS st.token=some x) (hk:x.2.1=0):itemS st=putS st x.2.2 0:=by
  obtain⟨h1,h2⟩:=link h
  unfold linkB at h2
  simp only[if_pos hk,Bool.and_eq_true,Bool.not_eq_true',decide_eq_true_eq,beq_iff_eq]at h2
  obtain⟨⟨⟨a,b⟩,c⟩,d⟩:=h2
  have ep:plainS st.token=x.2.2:=by rw[plainS_L,h1,c]
  unfold itemS isControl elementS
  rw[structS_L,ByteArray.toList_eq,ep,h1,a,b]
  simp[d]
theorem item_rec (hn:NmOk st) (h:meanS st.token=some x) (hk:x.2.1=4):itemS st=if 0≤st.start then putS st 3 st.start else failS st 2:=by
  obtain⟨h1,h2⟩:=link h
  unfold linkB at h2
  simp only[hk,if_neg (by decide:¬ (4:Int)=0),if_neg (by decide:¬ (4:Int)=1),if_neg (by decide:¬ (4:Int)=2),if_neg (by decide:¬ (4:Int)=3),if_true,beq_iff_eq]at h2
  have e1:st.token.data.toList=recL:=by rw[h1,h2]
  have ep:plainS st.token=-1:=by rw[plainS_L,e1,rec_plain]
  have en:numS st.token=none:=by rw[numS_L,e1,rec_num]
  have ef:¬ 0≤findS st.names st.token:=by
    have:=find_link st.names st.token
    intro h0
    rw[decide_eq_true h0]at this
    obtain⟨y,hy⟩:=Option.isSome_iff_exists.1 this.symm
    have h3:=hn.names y (List.mem_of_find?_eq_some hy)
    have h4:=List.find?_some hy
    rw[(beq_iff _ _).1 h4,h]at h3
    simp at h3
  have ed:isDefine st.token.toList=false:=by rw[ByteArray.toList_eq,e1];decide
  have ec:isControl st.token=false:=by unfold isControl;rw[structS_L,ByteArray.toList_eq,e1];decide
  have et:(st.token.toList == [114,101,99,117,114,115,101])=true:=by rw[ByteArray.toList_eq,e1];decide
  unfold itemS elementS
  rw[ed,ec,ep,en,if_neg ef,et]
  simp
theorem item_none (h:meanS st.token=none):itemS st=if (numS st.token).isSome then putS st 0 (numV st.token) else match st.names.find? (fun x=>x.1 == st.token) with|some x=>putS st x.2.1 x.2.2|none=>failS st 2:=by
  have hs:=struct_no h
  have hp:=plain_no h
  have hd:=define_no hs
  unfold itemS isControl elementS
  rw[structS_L,ByteArray.toList_eq,hs,hd.1,hp]
  simp only[Bool.false_eq_true,if_false,Bool.false_and,if_neg (by decide:¬ (0:Int)≤-1)]
  split
  · rfl
  · cases e:st.names.find? (fun x=>x.1 == st.token) with
    | some x =>
      obtain⟨h1,h2⟩:=find_at e
      rw[if_pos h1,h2]
    | none =>
      have:=find_link st.names st.token
      rw[e]at this
      have h0:¬ 0≤findS st.names st.token:=by simpa using this
      have hr:¬ ((st.token.data.toList == [114,101,99,117,114,115,101])=true∧0≤st.start):=fun h=>by
        have:=hd.2
        unfold recL at this
        rw[this]at h
        exact absurd h.1 (by simp)
      rw[if_neg h0,if_neg hr]
end
end Go.Proofs.YtmeiikjpaepogaaGreatDoor
