/- The program's tokens.Reader: Next. -/
import Derived.Test.YtmeiikjpaepogaaGreatDoorN08
import Derived.Test.YtmeiikjpaepogaaGreatDoorN03
set_option maxRecDepth 100000
set_option maxHeartbeats 4000000
namespace Go.Proofs.YtmeiikjpaepogaaGreatDoor
open Go Go.RowKit
def rdrA (s:ByteArray) (k:Nat):Array Value:=#[.string s,.int .i64 k]
theorem rdr_int {w:World} {r:Nat} {s:ByteArray} {k:Nat} (h:Blk w r (rdrA s k) 192):YtmeiikjpaepogaaGreatDoor.cellInt w r 1=k:=by
  have:=h.cell 1
  simp[rdrA]at this
  simp[YtmeiikjpaepogaaGreatDoor.cellInt,this,intOf]
theorem rdr_set {w:World} {r:Nat} {s:ByteArray} {k:Nat} (h:Blk w r (rdrA s k) 192) (n k':Nat):Blk ((w.drewN n).setCell ⟨r,1,none⟩ (.int .i64 ((k':Nat):Int))) r (rdrA s k') 192:=by
  have:=(h.drewN n).set 1 (.int .i64 ((k':Nat):Int))
  simpa [rdrA] using this
theorem tokNext_any (r:Nat) (s:ByteArray) (k0:Nat) (w:World) (h:Blk w r (rdrA s k0) 192) (hk0:k0≤s.size) (hs:s.size≤2000) :
    Calls Tryz.prog 73 #[.pointer (some ⟨r,0,none⟩)] w fun e w'=>e=.returned (.tuple #[.string (s.extract (skipS s k0) (wordS s (skipS s k0))),.int .i64 (skipS s k0)])∧Blk w' r (rdrA s (wordS s (skipS s k0))) 192∧Still w w' (fun j=>j=r):=by
  have hsz:(s.size:Int)≤2000:=by omega
  go_enter Tryz.func73,Tryz.ntmps73
  go_wp2_with fail
  go_loopw [] (fun wr=>∃ k:Nat,k≤s.size∧skipS s k=skipS s k0∧Blk wr r (rdrA s k) 192∧Still w wr (fun j=>j=r)) (fun wr=>s.size-(YtmeiikjpaepogaaGreatDoor.cellInt wr r 1).toNat)
  case atStart=>exact⟨k0,hk0,rfl,h,Still.refl _ _⟩
  case round =>
    clear h
    obtain⟨k,hk,hsk,hr,hst⟩:=hrel
    have HS:=V hsk
    have hm0:=rdr_int hr
    have HM:=V hm0
    have HR:=V hr
    have HST:=V hst
    have hc:=hr.cell
    have hf:=hr.free
    unfold rdrA at hc
    clear hsk hm0 hr hst
    by_cases hgo:∃ hlt:k<s.size,gapB s[k]=true
    · obtain⟨hlt,hg⟩:=hgo
      have hl:decide ((k:Int)<s.size)=true:=by simpa using hlt
      have HG:=V hg
      have HI:Hid (∀ W:World,Calls Tryz.prog 141 #[.int .u8 (s[k].toNat:Int)] W fun e w'=>e=.returned (.bool true)∧w'=W):=fun W=>by
        have:=isGap_any s[k] W
        rw[hg]at this
        exact this
      clear hg
      go_wp2_with fail
      go_quiet ((go_at_call 141;exact Calls.quiet_of_same (U HI _)))
      go_wp2_with fail
      go_roundw
      case rel=>exact⟨k+1,by omega,by rw[← U HS];unfold skipS;rw[scan_go _ _ _ hlt (U HG)],by have:=rdr_set (U HR) nq (k+1);simpa using this,((U HST).drewN nq).set (Or.inl rfl) _ _⟩
      case measure =>
        have e1:=rdr_int (rdr_set (U HR) nq (k+1))
        rw[U HM]
        simp only[Int.natCast_add,Int.cast_ofNat_Int]at e1
        rw[e1]
        simp;omega
    · have hsame:skipS s k0=k:=by
        rw[← U HS]
        unfold skipS
        by_cases hlt:k<s.size
        · exact scan_stop _ _ _ hlt (by simpa using fun e=>hgo ⟨hlt,e⟩)
        · exact scan_end _ _ _ hlt
      have HK:=V hsame
      clear hsame
      have HI:Hid (∀ (hlt:k<s.size) (W:World),Calls Tryz.prog 141 #[.int .u8 (s[k].toNat:Int)] W fun e w'=>e=.returned (.bool false)∧w'=W):=fun hlt W=>by
        have:=isGap_any s[k] W
        have e:gapB s[k]=false:=by simpa using fun e=>hgo ⟨hlt,e⟩
        rw[e]at this
        exact this
      clear hgo
      have hex:(decide (k<s.size)=false)∨(k<s.size∧decide ((k:Int)<s.size)=true):=by
        by_cases hlt:k<s.size
        · exact Or.inr ⟨hlt,by simpa using hlt⟩
        · exact Or.inl (by simpa using hlt)
      rcases hex with hl|⟨hlt,hl⟩
      · go_wp2_with fail
        go_quiet (fail)
        go_wp2_with fail
        go_loopw [] (fun wr'=>∃ k':Nat,k'≤s.size∧wordS s k'=wordS s k∧Blk wr' r (rdrA s k') 192∧Still w wr' (fun j=>j=r)) (fun wr'=>s.size-(YtmeiikjpaepogaaGreatDoor.cellInt wr' r 1).toNat)
        case atStart=>exact⟨k,hk,rfl,(U HR).drewN nq,(U HST).drewN nq⟩
        case round =>
          clear hc hf hl
          obtain⟨k',hk',hsk',hr',hst'⟩:=hrel
          have HS':=V hsk'
          have hm0':=rdr_int hr'
          have HM':=V hm0'
          have HR':=V hr'
          have HST':=V hst'
          have hc':=hr'.cell
          have hf':=hr'.free
          unfold rdrA at hc'
          clear hsk' hm0' hr' hst'
          by_cases hgo':∃ hlt':k'<s.size,gapB s[k']=false
          · obtain⟨hlt',hg'⟩:=hgo'
            have hl':decide ((k':Int)<s.size)=true:=by simpa using hlt'
            have HG':=V hg'
            have HI':Hid (∀ W:World,Calls Tryz.prog 141 #[.int .u8 (s[k'].toNat:Int)] W fun e w'=>e=.returned (.bool false)∧w'=W):=fun W=>by
              have:=isGap_any s[k'] W
              rw[hg']at this
              exact this
            clear hg'
            go_wp2_with fail
            go_quiet ((go_at_call 141;exact Calls.quiet_of_same (U HI' _)))
            go_wp2_with fail
            go_roundw
            case rel=>exact⟨k'+1,by omega,by rw[← U HS'];unfold wordS;rw[scan_go _ _ _ hlt' (by simp[U HG'])],by have:=rdr_set (U HR') nq (k'+1);simpa using this,((U HST').drewN nq).set (Or.inl rfl) _ _⟩
            case measure =>
              have e1:=rdr_int (rdr_set (U HR') nq (k'+1))
              rw[U HM']
              simp only[Int.natCast_add,Int.cast_ofNat_Int]at e1
              rw[e1]
              simp;omega
          · have hsame':wordS s k=k':=by
              rw[← U HS']
              unfold wordS
              by_cases hlt':k'<s.size
              · exact scan_stop _ _ _ hlt' (by simpa using fun e=>hgo' ⟨hlt',e⟩)
              · exact scan_end _ _ _ hlt'
            have hkk:k≤k':=by
              rw[← hsame']
              exact (scan_le s (fun b=>!gapB b) (s.size-k) k hk).1
            have HK':=V hsame'
            clear hsame'
            have HI':Hid (∀ (hlt':k'<s.size) (W:World),Calls Tryz.prog 141 #[.int .u8 (s[k'].toNat:Int)] W fun e w'=>e=.returned (.bool true)∧w'=W):=fun hlt' W=>by
              have:=isGap_any s[k'] W
              have e:gapB s[k']=true:=by simpa using fun e=>hgo' ⟨hlt',e⟩
              rw[e]at this
              exact this
            clear hgo'
            have hex':(decide (k'<s.size)=false)∨(k'<s.size∧decide ((k':Int)<s.size)=true):=by
              by_cases hlt':k'<s.size
              · exact Or.inr ⟨hlt',by simpa using hlt'⟩
              · exact Or.inl (by simpa using hlt')
            have hkkI:(k:Int)≤k':=by omega
            have hk'I:(k':Int)≤s.size:=by omega
            rcases hex' with hl'|⟨hlt',hl'⟩
            · go_wp2_with fail
              go_quiet (fail)
              go_wp2_with fail
              go_quiet (fail)
              go_wp2_with fail
              go_ret2
              rw[U HK,U HK']
              exact⟨rfl,((U HR').drewN _).drewN _,((U HST').drewN _).drewN _⟩
            · go_wp2_with fail
              go_quiet ((go_at_call 141;exact Calls.quiet_of_same (U HI' hlt' _)))
              go_wp2_with fail
              go_quiet (fail)
              go_wp2_with fail
              go_ret2
              rw[U HK,U HK']
              exact⟨rfl,((U HR').drewN _).drewN _,((U HST').drewN _).drewN _⟩
      · go_wp2_with fail
        go_quiet ((go_at_call 141;exact Calls.quiet_of_same (U HI hlt _)))
        go_wp2_with fail
        go_loopw [] (fun wr'=>∃ k':Nat,k'≤s.size∧wordS s k'=wordS s k∧Blk wr' r (rdrA s k') 192∧Still w wr' (fun j=>j=r)) (fun wr'=>s.size-(YtmeiikjpaepogaaGreatDoor.cellInt wr' r 1).toNat)
        case atStart=>exact⟨k,hk,rfl,(U HR).drewN nq,(U HST).drewN nq⟩
        case round =>
          clear hc hf hl
          obtain⟨k',hk',hsk',hr',hst'⟩:=hrel
          have HS':=V hsk'
          have hm0':=rdr_int hr'
          have HM':=V hm0'
          have HR':=V hr'
          have HST':=V hst'
          have hc':=hr'.cell
          have hf':=hr'.free
          unfold rdrA at hc'
          clear hsk' hm0' hr' hst'
          by_cases hgo':∃ hlt':k'<s.size,gapB s[k']=false
          · obtain⟨hlt',hg'⟩:=hgo'
            have hl':decide ((k':Int)<s.size)=true:=by simpa using hlt'
            have HG':=V hg'
            have HI':Hid (∀ W:World,Calls Tryz.prog 141 #[.int .u8 (s[k'].toNat:Int)] W fun e w'=>e=.returned (.bool false)∧w'=W):=fun W=>by
              have:=isGap_any s[k'] W
              rw[hg']at this
              exact this
            clear hg'
            go_wp2_with fail
            go_quiet ((go_at_call 141;exact Calls.quiet_of_same (U HI' _)))
            go_wp2_with fail
            go_roundw
            case rel=>exact⟨k'+1,by omega,by rw[← U HS'];unfold wordS;rw[scan_go _ _ _ hlt' (by simp[U HG'])],by have:=rdr_set (U HR') nq (k'+1);simpa using this,((U HST').drewN nq).set (Or.inl rfl) _ _⟩
            case measure =>
              have e1:=rdr_int (rdr_set (U HR') nq (k'+1))
              rw[U HM']
              simp only[Int.natCast_add,Int.cast_ofNat_Int]at e1
              rw[e1]
              simp;omega
          · have hsame':wordS s k=k':=by
              rw[← U HS']
              unfold wordS
              by_cases hlt':k'<s.size
              · exact scan_stop _ _ _ hlt' (by simpa using fun e=>hgo' ⟨hlt',e⟩)
              · exact scan_end _ _ _ hlt'
            have hkk:k≤k':=by
              rw[← hsame']
              exact (scan_le s (fun b=>!gapB b) (s.size-k) k hk).1
            have HK':=V hsame'
            clear hsame'
            have HI':Hid (∀ (hlt':k'<s.size) (W:World),Calls Tryz.prog 141 #[.int .u8 (s[k'].toNat:Int)] W fun e w'=>e=.returned (.bool true)∧w'=W):=fun hlt' W=>by
              have:=isGap_any s[k'] W
              have e:gapB s[k']=true:=by simpa using fun e=>hgo' ⟨hlt',e⟩
              rw[e]at this
              exact this
            clear hgo'
            have hex':(decide (k'<s.size)=false)∨(k'<s.size∧decide ((k':Int)<s.size)=true):=by
              by_cases hlt':k'<s.size
              · exact Or.inr ⟨hlt',by simpa using hlt'⟩
              · exact Or.inl (by simpa using hlt')
            have hkkI:(k:Int)≤k':=by omega
            have hk'I:(k':Int)≤s.size:=by omega
            rcases hex' with hl'|⟨hlt',hl'⟩
            · go_wp2_with fail
              go_quiet (fail)
              go_wp2_with fail
              go_quiet (fail)
              go_wp2_with fail
              go_ret2
              rw[U HK,U HK']
              exact⟨rfl,((U HR').drewN _).drewN _,((U HST').drewN _).drewN _⟩
            · go_wp2_with fail
              go_quiet ((go_at_call 141;exact Calls.quiet_of_same (U HI' hlt' _)))
              go_wp2_with fail
              go_quiet (fail)
              go_wp2_with fail
              go_ret2
              rw[U HK,U HK']
              exact⟨rfl,((U HR').drewN _).drewN _,((U HST').drewN _).drewN _⟩
structure CX where
  b:Nat
  r:Nat
  d:Nat
  m:Nat
  mp:Nat
def hereX (x:CX) (st:RS):Nat:=if 0≤st.start then x.d else x.m
def cpArr (x:CX) (st:RS) (s0:Int) (vo:Value):Array Value :=
  #[.pointer (some ⟨x.r,0,none⟩),.int .i64 st.place0,.pointer (some ⟨x.d,0,none⟩),.pointer (some ⟨x.m,0,none⟩),.pointer (some ⟨hereX x st,0,none⟩),.int .i64 s0,.map (some x.mp),.int .i64 st.cells,vo]
def cpRows (st:RS) (fs:List Value):List RowSpec :=
  [⟨65,2,st.c0.length,instrCells st.c0⟩,⟨65,2,st.c1.length,instrCells st.c1⟩,⟨235,1,fs.length,fs⟩]
def BoxStill (w w':World):Prop:=∀ (k:Nat) (cs:Array Value) (T:TypeId),Blk w k cs T→(T=91∨T=2∨T=9)→Blk w' k cs T
theorem BoxStill.refl (w:World):BoxStill w w:=fun _ _ _ h _=>h
theorem BoxStill.trans {a b c:World} (h:BoxStill a b) (k:BoxStill b c):BoxStill a c:=fun i cs T hb ht=>k i cs T (h i cs T hb ht) ht
theorem BoxStill.ofBelow {w w':World} (h:Below w.heap.size w w'):BoxStill w w':=fun _ _ _ hb _=>hb.below h hb.lt
theorem BoxStill.ofStill {w w':World} {F:Nat→Prop} (h:Still w w' F) (hF:∀ (k:Nat) (cs:Array Value) (T:TypeId),Blk w k cs T→(T=91∨T=2∨T=9)→¬ F k):BoxStill w w':=fun k cs T hb ht=>hb.still h (hF k cs T hb ht)
def ThingOk (w:World) (b:Nat) (f:Value) (o:ByteArray×Int×Int):Prop :=
  ∃ cb, Blk w cb #[.pointer (some ⟨b, 0, none⟩)] 91 ∧
    ((o.1 = ⟨#[105, 102]⟩ ∧ ∃ jb, Blk w jb #[.int .i64 o.2.2] 2 ∧ f = .func (.func 187) #[] #[.pointer (some ⟨cb, 0, none⟩), .pointer (some ⟨jb, 0, none⟩)]) ∨
     (o.1=⟨#[101,108,115,101]⟩∧∃ jb,Blk w jb #[.int .i64 o.2.2] 2∧f=.func (.func 216) #[] #[.pointer (some ⟨cb,0,none⟩),.pointer (some ⟨jb,0,none⟩)]) ∨
     (o.1=⟨#[98,101,103,105,110]⟩∧∃ sb,Blk w sb #[.int .i64 o.2.1] 2∧f=.func (.func 190) #[] #[.pointer (some ⟨cb,0,none⟩),.pointer (some ⟨sb,0,none⟩)]) ∨
     (o.1=⟨#[119,104,105,108,101]⟩∧∃ sb jb,Blk w sb #[.int .i64 o.2.1] 2∧Blk w jb #[.int .i64 o.2.2] 2∧f=.func (.func 217) #[] #[.pointer (some ⟨cb,0,none⟩),.pointer (some ⟨sb,0,none⟩),.pointer (some ⟨jb,0,none⟩)]) ∨
     (o.1=⟨#[100,111]⟩∧∃ sb,Blk w sb #[.int .i64 o.2.1] 2∧f=.func (.func 192) #[] #[.pointer (some ⟨cb,0,none⟩),.pointer (some ⟨sb,0,none⟩)]))
theorem ThingOk.box {w w':World} {b:Nat} {f:Value} {o:ByteArray×Int×Int} (h:ThingOk w b f o) (hb:BoxStill w w'):ThingOk w' b f o:=by
  obtain⟨cb,h1,h2⟩:=h
  refine⟨cb,hb _ _ _ h1 (Or.inl rfl),?_⟩
  have hi:∀ {k:Nat} {cs:Array Value},Blk w k cs 2→Blk w' k cs 2:=fun h=>hb _ _ _ h (Or.inr (Or.inl rfl))
  rcases h2 with ⟨e,jb,k1,k2⟩|⟨e,jb,k1,k2⟩|⟨e,sb,k1,k2⟩|⟨e,sb,jb,k1,k2,k3⟩|⟨e,sb,k1,k2⟩
  · exact Or.inl ⟨e,jb,hi k1,k2⟩
  · exact Or.inr (Or.inl ⟨e,jb,hi k1,k2⟩)
  · exact Or.inr (Or.inr (Or.inl ⟨e,sb,hi k1,k2⟩))
  · exact Or.inr (Or.inr (Or.inr (Or.inl ⟨e,sb,jb,hi k1,hi k2,k3⟩)))
  · exact Or.inr (Or.inr (Or.inr (Or.inr ⟨e,sb,hi k1,k2⟩)))
def WordOk (w:World) (b:Nat) (f:Value) (name:ByteArray):Prop :=
  ∃ cb nb,Blk w cb #[.pointer (some ⟨b,0,none⟩)] 91∧Blk w nb #[.string name] 9∧f=.func (.func 218) #[] #[.pointer (some ⟨cb,0,none⟩),.pointer (some ⟨nb,0,none⟩)]
theorem WordOk.box {w w':World} {b:Nat} {f:Value} {name:ByteArray} (h:WordOk w b f name) (hb:BoxStill w w'):WordOk w' b f name:=by
  obtain⟨cb,nb,h1,h2,h3⟩:=h
  exact⟨cb,nb,hb _ _ _ h1 (Or.inl rfl),hb _ _ _ h2 (Or.inr (Or.inr rfl)),h3⟩
structure Things (w:World) (b:Nat) (st:RS) (fw fo:List Value):Prop where
  word:0≤st.start→∃ f,fw=[f]∧WordOk w b f st.name
  none:st.start<0→fw=[]
  len:fo.length=st.opens.length
  each:∀ (i:Nat) (f:Value) (o:ByteArray×Int×Int),fo[i]? = some f→st.opens[i]? = some o→ThingOk w b f o
theorem Things.box {w w':World} {b:Nat} {st:RS} {fw fo:List Value} (h:Things w b st fw fo) (hb:BoxStill w w'):Things w' b st fw fo :=
  ⟨fun hs=>by obtain⟨f,h1,h2⟩:=h.word hs;exact⟨f,h1,h2.box hb⟩,h.none,h.len,fun i f o h1 h2=>(h.each i f o h1 h2).box hb⟩
structure Cp (B:Nat) (w:World) (x:CX) (st:RS) (s0:Int) (vd vm vo:Value) (fw fo:List Value):Prop where
  blk:Blk w x.b (cpArr x st s0 vo) 100
  rdr:Blk w x.r (rdrA st.s st.next) 192
  dp:Blk w x.d #[vd] 140
  mn:Blk w x.m #[vm] 140
  dm:x.d≠x.m
  base:B≤x.b∧B≤x.r∧B≤x.d∧B≤x.m∧B≤x.mp
  owned:Owned B w [x.b,x.r,x.d,x.m,x.mp] [vd,vm,vo] (cpRows st (fw++fo))
  names:MapIs w x.mp st.names
  start:0≤st.start→s0=st.start
  things:Things w x.b st fw fo
  small:st.c0.length≤4000∧st.c1.length≤4000∧st.names.length≤4000∧st.opens.length≤4000∧st.s.size≤2000
def CpE (B:Nat) (w:World) (x:CX) (st:RS):Prop:=∃ s0 vd vm vo fw fo,Cp B w x st s0 vd vm vo fw fo
section
variable {B:Nat} {w w' w1:World} {x:CX} {st:RS} {s0:Int} {vd vm vo:Value} {fw fo:List Value}
theorem Cp.od (h:Cp B w x st s0 vd vm vo fw fo):w.ownsRow B 65 2 vd st.c0.length (instrCells st.c0):=h.owned.own 0 vd _ rfl rfl
theorem Cp.om (h:Cp B w x st s0 vd vm vo fw fo):w.ownsRow B 65 2 vm st.c1.length (instrCells st.c1):=h.owned.own 1 vm _ rfl rfl
theorem Cp.oo (h:Cp B w x st s0 vd vm vo fw fo):w.ownsRow B 235 1 vo (fw++fo).length (fw++fo):=h.owned.own 2 vo _ rfl rfl
theorem Cp.size (h:Cp B w x st s0 vd vm vo fw fo):B≤w.heap.size:=by have:=h.base;have:=h.blk.lt;omega
theorem Cp.below (h:Cp B w x st s0 vd vm vo fw fo) (hb:Below w.heap.size w w'):Cp B w' x st s0 vd vm vo fw fo :=
  ⟨h.blk.below hb h.blk.lt,h.rdr.below hb h.rdr.lt,h.dp.below hb h.dp.lt,h.mn.below hb h.mn.lt,h.dm,h.base,h.owned.below_all hb,h.names.to (hb.block _ h.names.lt),h.start,h.things.box (BoxStill.ofBelow hb),h.small⟩
theorem Cp.drewN (h:Cp B w x st s0 vd vm vo fw fo) (n:Nat):Cp B (w.drewN n) x st s0 vd vm vo fw fo:=h.below (below_drawn (Below.refl _ _) n)
theorem Cp.br (h:Cp B w x st s0 vd vm vo fw fo):x.b≠x.r:=fun e=>by
  have h1:=h.blk;have h2:=h.rdr;rw[e]at h1;unfold Blk at h1 h2;rw[h1]at h2;simp at h2
theorem Cp.bd (h:Cp B w x st s0 vd vm vo fw fo):x.b≠x.d:=fun e=>by
  have h1:=h.blk;have h2:=h.dp;rw[e]at h1;unfold Blk at h1 h2;rw[h1]at h2;simp at h2
theorem Cp.bm (h:Cp B w x st s0 vd vm vo fw fo):x.b≠x.m:=fun e=>by
  have h1:=h.blk;have h2:=h.mn;rw[e]at h1;unfold Blk at h1 h2;rw[h1]at h2;simp at h2
theorem Cp.rd (h:Cp B w x st s0 vd vm vo fw fo):x.r≠x.d:=fun e=>by
  have h1:=h.rdr;have h2:=h.dp;rw[e]at h1;unfold Blk at h1 h2;rw[h1]at h2;simp[rdrA]at h2
theorem Cp.rm (h:Cp B w x st s0 vd vm vo fw fo):x.r≠x.m:=fun e=>by
  have h1:=h.rdr;have h2:=h.mn;rw[e]at h1;unfold Blk at h1 h2;rw[h1]at h2;simp[rdrA]at h2
theorem Cp.mne (h:Cp B w x st s0 vd vm vo fw fo):x.mp≠x.b∧x.mp≠x.r∧x.mp≠x.d∧x.mp≠x.m:=⟨h.names.notblk h.blk,h.names.notblk h.rdr,h.names.notblk h.dp,h.names.notblk h.mn⟩
theorem Cp.setB (h:Cp B w x st s0 vd vm vo fw fo) (i:Nat) (u:Value) (st':RS) (s0':Int) (ha:(cpArr x st s0 vo).setIfInBounds i u=cpArr x st' s0' vo) (hr:cpRows st' (fw++fo)=cpRows st (fw++fo)) (hn:st'.names=st.names) (hrd:st'.s=st.s∧st'.next=st.next)
    (hs:0≤st'.start→s0'=st'.start) (ht:Things w x.b st' fw fo) (hsm:st'.c0.length≤4000∧st'.c1.length≤4000∧st'.names.length≤4000∧st'.opens.length≤4000∧st'.s.size≤2000):Cp B (w.setCell ⟨x.b,i,none⟩ u) x st' s0' vd vm vo fw fo:=by
  refine⟨?_,?_,h.dp.far (fun e=>h.bd e.symm) u,h.mn.far (fun e=>h.bm e.symm) u,h.dm,h.base,?_,?_,hs,?_,hsm⟩
  · rw[← ha];exact h.blk.set i u
  · rw[hrd.1,hrd.2];exact h.rdr.far (fun e=>h.br e.symm) u
  · rw[hr];exact h.owned.set (by simp) i u
  · rw[hn];exact h.names.to (Below.heap_setCell _ _ _ _ h.mne.1)
  · refine ht.box (fun k cs T hb ht=>hb.far ?_ u)
    intro e
    simp at e
    subst e
    have h1:=h.blk
    unfold Blk at h1 hb
    rw[hb]at h1
    simp at h1
    have:=h1.2
    subst this
    rcases ht with e|e|e<;>exact absurd e (by decide)
theorem Cp.read (h:Cp B w x st s0 vd vm vo fw fo) (k:Nat) (hr:Blk w' x.r (rdrA st.s k) 192) (hst:Still w w' (fun j=>j=x.r)):Cp B w' x { st with next:=k } s0 vd vm vo fw fo:=by
  refine⟨h.blk.still hst h.br,hr,h.dp.still hst (fun e=>h.rd e.symm),h.mn.still hst (fun e=>h.rm e.symm),h.dm,h.base,?_,?_,h.start,?_,h.small⟩
  · exact h.owned.to (fun i v k hv hk hlt=>hst.block k hlt (fun e=>h.owned.off i v x.r hv (by simp) (by rw[hk,e])))
  · exact h.names.to (hst.block _ h.names.lt h.mne.2.1)
  · have hb:BoxStill w w':=BoxStill.ofStill hst (fun k cs T hb ht e=>by
      subst e
      have h1:=h.rdr
      unfold Blk at h1 hb
      rw[hb]at h1
      simp at h1
      have:=h1.2
      subst this
      rcases ht with e|e|e<;>exact absurd e (by decide))
    exact⟨fun hs=>by obtain⟨f,h1,h2⟩:=h.things.word hs;exact⟨f,h1,h2.box hb⟩,h.things.none,h.things.len,fun i f o h1 h2=>(h.things.each i f o h1 h2).box hb⟩
end
theorem cnext_any (B:Nat) (x:CX) (st:RS) (w:World) (h:CpE B w x st) (hnx:st.next≤st.s.size) :
    Calls Tryz.prog 48 #[.pointer (some ⟨x.b,0,none⟩)] w fun e w'=>e=.returned (.string (stepS st).token)∧CpE B w' x (stepS st)∧Below B w w':=by
  obtain⟨s0,vd,vm,vo,fw,fo,h⟩:=h
  have HN:=V (tokNext_any x.r st.s st.next w h.rdr hnx h.small.2.2.2.2)
  have hc:=h.blk.cell
  unfold cpArr at hc
  have HH:=V h
  clear h
  go_enter Tryz.func48,Tryz.ntmps48
  go_wp2_with fail
  refine (U HN).mono ?_
  rintro e w1 ⟨rfl,hr,hst⟩
  have h1:=(U HH).read _ hr hst
  have hc1:=h1.blk.cell
  have hf1:=h1.blk.free
  unfold cpArr at hc1
  have H1:=V h1
  have HST:=V hst
  clear hr hst h1 hc HN
  go_wp2_with fail
  go_ret
  have h1:=U H1
  have h2:=h1.setB 1 (.int .i64 (skipS st.s st.next)) (stepS st) s0 (by simp[cpArr,stepS];rfl) rfl rfl ⟨rfl,rfl⟩ h1.start ⟨h1.things.word,h1.things.none,h1.things.len,h1.things.each⟩ h1.small
  refine⟨rfl,⟨_,_,_,_,_,_,h2⟩,?_⟩
  exact ((U HST).below (fun k hk=>by rw[hk];exact (U HH).base.2.1) (U HH).size).setCell (U HH).base.1 _
section
variable {B:Nat} {w w' w1:World} {x:CX} {st:RS} {s0:Int} {vd vm vo:Value} {fw fo:List Value}
theorem Cp.offb (h:Cp B w x st s0 vd vm vo fw fo) (i:Nat) (v:Value) (hv:[vd,vm,vo][i]? = some v) (k:Nat) (hk:k∈[x.b,x.r,x.d,x.m,x.mp]):some k≠v.ownBlock:=fun e=>h.owned.off i v k hv hk e.symm
theorem Cp.boxes (h:Cp B w x st s0 vd vm vo fw fo) {F:Nat→Prop} (hs:Still w w' F) (hF:∀ k,k<w.heap.size→F k→k=x.b∨k=x.r∨k=x.d∨k=x.m∨k=x.mp∨vd.ownBlock=some k∨vm.ownBlock=some k∨vo.ownBlock=some k):BoxStill w w':=by
  refine BoxStill.ofStill hs (fun k cs T hb ht e=>?_)
  have no:∀ (T':TypeId) (cs':Array Value),Blk w k cs' T'→T'=T:=fun T' cs' hb'=>by
    unfold Blk at hb hb'
    rw[hb]at hb'
    simp at hb'
    exact hb'.2.symm
  rcases hF k hb.lt e with rfl|rfl|rfl|rfl|rfl|e|e|e
  · have:=no _ _ h.blk;subst this;rcases ht with e|e|e<;>exact absurd e (by decide)
  · have:=no _ _ h.rdr;subst this;rcases ht with e|e|e<;>exact absurd e (by decide)
  · have:=no _ _ h.dp;subst this;rcases ht with e|e|e<;>exact absurd e (by decide)
  · have:=no _ _ h.mn;subst this;rcases ht with e|e|e<;>exact absurd e (by decide)
  · exact h.names.notblk hb rfl
  · rcases ht with e1|e1|e1<;>subst e1<;>exact row_not_blk hb h.od (by decide) e
  · rcases ht with e1|e1|e1<;>subst e1<;>exact row_not_blk hb h.om (by decide) e
  · rcases ht with e1|e1|e1<;>subst e1<;>exact row_not_blk hb h.oo (by decide) e
theorem Cp.growD (h:Cp B w x st s0 vd vm vo fw fo) {op arg:Int} {g cap:Nat} (hlen:st.c0.length<4000) (hg:w.grownBy w1 vd.ownBlock) (hown:w1.ownsRow B 65 2 (.slice (some ⟨g,0,none⟩) (st.c0.length+1) cap) (st.c0.length+1) (instrCells (st.c0++[(op,arg)]))) (hat:vd.ownBlock=some g∨g=w.heap.size) :
    Cp B (w1.setCell ⟨x.d,0,none⟩ (.slice (some ⟨g,0,none⟩) (st.c0.length+1) cap)) x { st with c0:=st.c0++[(op,arg)] } s0 (.slice (some ⟨g,0,none⟩) (st.c0.length+1) cap) vm vo fw fo∧BoxStill w (w1.setCell ⟨x.d,0,none⟩ (.slice (some ⟨g,0,none⟩) (st.c0.length+1) cap))∧Below B w (w1.setCell ⟨x.d,0,none⟩ (.slice (some ⟨g,0,none⟩) (st.c0.length+1) cap)):=by
  have hst:Still w (w1.setCell ⟨x.d,0,none⟩ (.slice (some ⟨g,0,none⟩) (st.c0.length+1) cap)) (fun k=>k=x.d∨vd.ownBlock=some k) :=
    Still.set (F:=fun k=>k=x.d∨vd.ownBlock=some k) (Still.grown (F:=fun k=>k=x.d∨vd.ownBlock=some k) (Still.refl w _) hg (fun k hk=>Or.inl (Or.inr hk))) (Or.inl (Or.inl rfl)) _ _
  have hbx:BoxStill w (w1.setCell ⟨x.d,0,none⟩ (.slice (some ⟨g,0,none⟩) (st.c0.length+1) cap)):=h.boxes hst (fun k _ e=>by rcases e with e|e;exact Or.inr (Or.inr (Or.inl e));exact Or.inr (Or.inr (Or.inr (Or.inr (Or.inr (Or.inl e))))))
  have off:∀ k∈[x.b,x.r,x.d,x.m,x.mp],¬ vd.ownBlock=some k:=fun k hk e=>h.owned.off 0 vd k rfl hk e
  refine⟨⟨?_,?_,?_,?_,h.dm,h.base,?_,?_,h.start,?_,?_⟩,hbx,?_⟩
  · exact h.blk.still hst (fun e=>by rcases e with e|e;exact h.bd e;exact off x.b (by simp) e)
  · exact h.rdr.still hst (fun e=>by rcases e with e|e;exact h.rd e;exact off x.r (by simp) e)
  · have:=(h.dp.grown hg (fun e=>off x.d (by simp) e.symm)).set 0 (.slice (some ⟨g,0,none⟩) (st.c0.length+1) cap)
    simpa only [List.setIfInBounds_toArray,List.set_cons_zero] using this
  · exact h.mn.still hst (fun e=>by rcases e with e|e;exact h.dm e.symm;exact off x.m (by simp) e)
  · have hlts:∀ b∈[x.b,x.r,x.d,x.m,x.mp],b<w.heap.size:=by
      intro b hb
      simp at hb
      rcases hb with rfl|rfl|rfl|rfl|rfl
      · exact h.blk.lt
      · exact h.rdr.lt
      · exact h.dp.lt
      · exact h.mn.lt
      · exact h.names.lt
    have:=(h.owned.grow 0 vd (.slice (some ⟨g,0,none⟩) (st.c0.length+1) cap) ⟨65,2,st.c0.length+1,instrCells (st.c0++[(op,arg)])⟩ rfl hlts hg hown (lies_at hat (Nat.le_refl _))).set (b:=x.d) (by simp) 0 (.slice (some ⟨g,0,none⟩) (st.c0.length+1) cap)
    simpa [cpRows] using this
  · exact h.names.to (hst.block _ h.names.lt (fun e=>by rcases e with e|e;exact h.mne.2.2.1 e;exact off x.mp (by simp) e))
  · have ht:=h.things.box hbx
    exact⟨ht.word,ht.none,ht.len,ht.each⟩
  · have:=h.small;simp;omega
  · exact hst.below (fun k hk=>by rcases hk with rfl|hk;exact h.base.2.2.1;exact (ownsRow_lt h.od hk).2) h.size
theorem Cp.growM (h:Cp B w x st s0 vd vm vo fw fo) {op arg:Int} {g cap:Nat} (hlen:st.c1.length<4000) (hg:w.grownBy w1 vm.ownBlock) (hown:w1.ownsRow B 65 2 (.slice (some ⟨g,0,none⟩) (st.c1.length+1) cap) (st.c1.length+1) (instrCells (st.c1++[(op,arg)]))) (hat:vm.ownBlock=some g∨g=w.heap.size) :
    Cp B (w1.setCell ⟨x.m,0,none⟩ (.slice (some ⟨g,0,none⟩) (st.c1.length+1) cap)) x { st with c1:=st.c1++[(op,arg)] } s0 vd (.slice (some ⟨g,0,none⟩) (st.c1.length+1) cap) vo fw fo∧BoxStill w (w1.setCell ⟨x.m,0,none⟩ (.slice (some ⟨g,0,none⟩) (st.c1.length+1) cap))∧Below B w (w1.setCell ⟨x.m,0,none⟩ (.slice (some ⟨g,0,none⟩) (st.c1.length+1) cap)):=by
  have hst:Still w (w1.setCell ⟨x.m,0,none⟩ (.slice (some ⟨g,0,none⟩) (st.c1.length+1) cap)) (fun k=>k=x.m∨vm.ownBlock=some k) :=
    Still.set (F:=fun k=>k=x.m∨vm.ownBlock=some k) (Still.grown (F:=fun k=>k=x.m∨vm.ownBlock=some k) (Still.refl w _) hg (fun k hk=>Or.inl (Or.inr hk))) (Or.inl (Or.inl rfl)) _ _
  have hbx:BoxStill w (w1.setCell ⟨x.m,0,none⟩ (.slice (some ⟨g,0,none⟩) (st.c1.length+1) cap)):=h.boxes hst (fun k _ e=>by rcases e with e|e;exact Or.inr (Or.inr (Or.inr (Or.inl e)));exact Or.inr (Or.inr (Or.inr (Or.inr (Or.inr (Or.inr (Or.inl e)))))))
  have off:∀ k∈[x.b,x.r,x.d,x.m,x.mp],¬ vm.ownBlock=some k:=fun k hk e=>h.owned.off 1 vm k rfl hk e
  refine⟨⟨?_,?_,?_,?_,h.dm,h.base,?_,?_,h.start,?_,?_⟩,hbx,?_⟩
  · exact h.blk.still hst (fun e=>by rcases e with e|e;exact h.bm e;exact off x.b (by simp) e)
  · exact h.rdr.still hst (fun e=>by rcases e with e|e;exact h.rm e;exact off x.r (by simp) e)
  · exact h.dp.still hst (fun e=>by rcases e with e|e;exact h.dm e;exact off x.d (by simp) e)
  · have:=(h.mn.grown hg (fun e=>off x.m (by simp) e.symm)).set 0 (.slice (some ⟨g,0,none⟩) (st.c1.length+1) cap)
    simpa only [List.setIfInBounds_toArray,List.set_cons_zero] using this
  · have hlts:∀ b∈[x.b,x.r,x.d,x.m,x.mp],b<w.heap.size:=by
      intro b hb
      simp at hb
      rcases hb with rfl|rfl|rfl|rfl|rfl
      · exact h.blk.lt
      · exact h.rdr.lt
      · exact h.dp.lt
      · exact h.mn.lt
      · exact h.names.lt
    have:=(h.owned.grow 1 vm (.slice (some ⟨g,0,none⟩) (st.c1.length+1) cap) ⟨65,2,st.c1.length+1,instrCells (st.c1++[(op,arg)])⟩ rfl hlts hg hown (lies_at hat (Nat.le_refl _))).set (b:=x.m) (by simp) 0 (.slice (some ⟨g,0,none⟩) (st.c1.length+1) cap)
    simpa [cpRows] using this
  · exact h.names.to (hst.block _ h.names.lt (fun e=>by rcases e with e|e;exact h.mne.2.2.2 e;exact off x.mp (by simp) e))
  · have ht:=h.things.box hbx
    exact⟨ht.word,ht.none,ht.len,ht.each⟩
  · have:=h.small;simp;omega
  · exact hst.below (fun k hk=>by rcases hk with rfl|hk;exact h.base.2.2.2.1;exact (ownsRow_lt h.om hk).2) h.size
end
theorem Tryz.infoThing:(Tryz.prog.info? 235).map (fun i=>(i.zero,i.size,i.bytes))=some (some (.agg #[.nilFunc]),1,8):=by kernel_rfl
section
variable {B:Nat} {w w' w1:World} {x:CX} {st:RS} {s0:Int} {vd vm vo:Value} {fw fo:List Value}
theorem Cp.lts (h:Cp B w x st s0 vd vm vo fw fo):∀ b∈[x.b,x.r,x.d,x.m,x.mp],b<w.heap.size:=by
  intro b hb
  simp at hb
  rcases hb with rfl|rfl|rfl|rfl|rfl
  · exact h.blk.lt
  · exact h.rdr.lt
  · exact h.dp.lt
  · exact h.mn.lt
  · exact h.names.lt
theorem Cp.growO (h:Cp B w x st s0 vd vm vo fw fo) {f:Value} {g cap:Nat} (hg:w.grownBy w1 vo.ownBlock) (hown:w1.ownsRow B 235 1 (.slice (some ⟨g,0,none⟩) ((fw++fo).length+1) cap) ((fw++fo).length+1) ((fw++fo)++[f])) (hat:vo.ownBlock=some g∨g=w.heap.size)
    (o:ByteArray×Int×Int) (ho:ThingOk w x.b f o) (hlen:st.opens.length<4000) :
    Cp B (w1.setCell ⟨x.b,8,none⟩ (.slice (some ⟨g,0,none⟩) ((fw++fo).length+1) cap)) x (openS st o) s0 vd vm (.slice (some ⟨g,0,none⟩) ((fw++fo).length+1) cap) fw (fo++[f])∧BoxStill w (w1.setCell ⟨x.b,8,none⟩ (.slice (some ⟨g,0,none⟩) ((fw++fo).length+1) cap))∧Below B w (w1.setCell ⟨x.b,8,none⟩ (.slice (some ⟨g,0,none⟩) ((fw++fo).length+1) cap)):=by
  have hst:Still w (w1.setCell ⟨x.b,8,none⟩ (.slice (some ⟨g,0,none⟩) ((fw++fo).length+1) cap)) (fun k=>k=x.b∨vo.ownBlock=some k) :=
    Still.set (F:=fun k=>k=x.b∨vo.ownBlock=some k) (Still.grown (F:=fun k=>k=x.b∨vo.ownBlock=some k) (Still.refl w _) hg (fun k hk=>Or.inl (Or.inr hk))) (Or.inl (Or.inl rfl)) _ _
  have hbx:BoxStill w (w1.setCell ⟨x.b,8,none⟩ (.slice (some ⟨g,0,none⟩) ((fw++fo).length+1) cap)):=h.boxes hst (fun k _ e=>by rcases e with e|e;exact Or.inl e;exact Or.inr (Or.inr (Or.inr (Or.inr (Or.inr (Or.inr (Or.inr e)))))))
  have off:∀ k∈[x.b,x.r,x.d,x.m,x.mp],¬ vo.ownBlock=some k:=fun k hk e=>h.owned.off 2 vo k rfl hk e
  refine⟨⟨?_,?_,?_,?_,h.dm,h.base,?_,?_,h.start,?_,?_⟩,hbx,?_⟩
  · have:=(h.blk.grown hg (fun e=>off x.b (by simp) e.symm)).set 8 (.slice (some ⟨g,0,none⟩) ((fw++fo).length+1) cap)
    unfold cpArr at this
    simp only[List.setIfInBounds_toArray,List.set_cons_succ,List.set_cons_zero]at this
    exact this
  · exact h.rdr.still hst (fun e=>by rcases e with e|e;exact h.br e.symm;exact off x.r (by simp) e)
  · exact h.dp.still hst (fun e=>by rcases e with e|e;exact h.bd e.symm;exact off x.d (by simp) e)
  · exact h.mn.still hst (fun e=>by rcases e with e|e;exact h.bm e.symm;exact off x.m (by simp) e)
  · have:=(h.owned.grow 2 vo (.slice (some ⟨g,0,none⟩) ((fw++fo).length+1) cap) ⟨235,1,(fw++fo).length+1,(fw++fo)++[f]⟩ rfl h.lts hg hown (lies_at hat (Nat.le_refl _))).set (b:=x.b) (by simp) 8 (.slice (some ⟨g,0,none⟩) ((fw++fo).length+1) cap)
    have e:cpRows (openS st o) (fw++(fo++[f]))=(cpRows st (fw++fo)).set 2 ⟨235,1,(fw++fo).length+1,(fw++fo)++[f]⟩:=by
      unfold cpRows openS
      rw[← List.append_assoc]
      simp
      omega
    rw[e]
    exact this
  · exact h.names.to (hst.block _ h.names.lt (fun e=>by rcases e with e|e;exact h.mne.1 e;exact off x.mp (by simp) e))
  · have ht:=h.things.box hbx
    refine⟨ht.word,ht.none,by simp[openS,ht.len],?_⟩
    intro i f' o' h1 h2
    unfold openS at h2
    simp only at h2
    rcases Nat.lt_or_ge i fo.length with hi|hi
    · rw[List.getElem?_append_left hi]at h1
      rw[List.getElem?_append_left (by rw[← h.things.len];exact hi)]at h2
      exact ht.each i f' o' h1 h2
    · have hi2:i=fo.length:=by
        have:=(List.getElem?_eq_some_iff.1 h1).1
        simp at this
        omega
      subst hi2
      rw[List.getElem?_append_right (Nat.le_refl _),Nat.sub_self]at h1
      rw[h.things.len,List.getElem?_append_right (Nat.le_refl _),Nat.sub_self]at h2
      simp at h1 h2
      subst h1 h2
      exact ho.box hbx
  · have:=h.small;simp[openS];omega
  · exact hst.below (fun k hk=>by rcases hk with rfl|hk;exact h.base.1;exact (ownsRow_lt h.oo hk).2) h.size
end
theorem cpush_any (B:Nat) (x:CX) (st:RS) (w:World) (h:CpE B w x st) (q:Nat) (f:Value) (hf1:f.oneCell'=true) (o:ByteArray×Int×Int) (ho:ThingOk w x.b f o) (hq:Blk w q #[f] 235) (hlen:st.opens.length<3990) :
    Calls Tryz.prog 186 #[.pointer (some ⟨x.b,0,none⟩),.slice (some ⟨q,0,none⟩) 1 1] w fun e w'=>e=.returned (.tuple #[])∧CpE B w' x (openS st o)∧BoxStill w w'∧Below B w w':=by
  obtain⟨iT,hiT,hzT0,hzT1,hzT2⟩:=info_parts Tryz.infoThing
  obtain⟨s0,vd,vm,vo,fw,fo,h⟩:=h
  obtain⟨ao,co,hvo⟩:=own_shape h.oo
  subst hvo
  have hne:=h.offb 2 _ rfl x.b (by simp)
  have hc:=h.blk.cell
  have hf:=h.blk.free
  unfold cpArr at hc
  have hfl:(fw++fo).length≤3991:=by
    have h1:=h.things.len
    have h2:fw.length≤1:=by
      by_cases hs:0≤st.start
      · obtain⟨f,e,_⟩:=h.things.word hs;rw[e];simp
      · rw[h.things.none (by omega)];simp
    simp;omega
  have HO:=V h.oo
  have HB:=V h.blk
  unfold cpArr at HB
  have HS:=V h.size
  have HH:=V h
  have HQ:=V hq
  clear h hq
  generalize hL:(fw++fo).length=L at *
  have HL:=V hL
  clear hL
  go_enter Tryz.func186,Tryz.ntmps186
  go_wp2_with (at_builtin;refine wpList_append_lies _ rfl (.tmp 8) (.tmp 9) 98 rfl B 235 iT _ 1 8 Tryz.underlying98 hiT hzT0 hzT1 hzT2 rfl (by decide) (.slice ao L co) L (fw++fo) (by simp[Act.eval]) (U HO) ⟨q,0,none⟩ 1 1 [f] (by simp[Act.eval]) rfl (World.news_of_block (U HQ)) (by simpa using hf1) (by omega) (by unfold maxLen;omega) (by omega) (U HS) _ rfl ?_;intro g cap w5 hown hgrow hat hlt1;have hb5:=(U HB).grown hgrow hne;have hc5:=hb5.cell;have hf5:=hb5.free;have HOW:=V hown;have HG:=V hgrow;have HA:=V hat;clear hown hgrow hat hb5 hc hf)
  go_end0
  obtain rfl:=(U HL).symm
  obtain⟨k1,k2,k3⟩:=(U HH).growO (U HG) (U HOW) (U HA) o ho (by omega)
  exact⟨rfl,⟨_,_,_,_,_,_,k1⟩,k2,k3⟩
section
variable {B:Nat} {w:World} {x:CX} {st:RS} {s0:Int} {vd vm vo:Value} {fw fo:List Value}
theorem Cp.tellD {g k:Nat} (h:Cp B w x st s0 (.slice (some ⟨g,0,none⟩) st.c0.length k) vm vo fw fo) (n:Nat) (a:Int) :
    Cp B (w.setCell ⟨g,n * 2+1,none⟩ (.int .i64 a)) x { st with c0:=setArg st.c0 n a } s0 (.slice (some ⟨g,0,none⟩) st.c0.length k) vm vo fw fo∧BoxStill w (w.setCell ⟨g,n * 2+1,none⟩ (.int .i64 a))∧Below B w (w.setCell ⟨g,n * 2+1,none⟩ (.int .i64 a)):=by
  have hst:Still w (w.setCell ⟨g,n * 2+1,none⟩ (.int .i64 a)) (fun j=>j=g):=Still.set (F:=fun j=>j=g) (Still.refl w _) (Or.inl rfl) _ _
  have off:∀ j∈[x.b,x.r,x.d,x.m,x.mp],j≠g:=fun j hj e=>h.owned.off 0 _ j rfl hj (by rw[e];rfl)
  have hbx:=h.boxes hst (fun j _ e=>by rw[e];exact Or.inr (Or.inr (Or.inr (Or.inr (Or.inr (Or.inl rfl))))))
  refine⟨⟨h.blk.still hst (off x.b (by simp)),h.rdr.still hst (off x.r (by simp)),h.dp.still hst (off x.d (by simp)),h.mn.still hst (off x.m (by simp)),h.dm,h.base,?_,h.names.to (hst.block _ h.names.lt (off x.mp (by simp))),h.start,?_,?_⟩,hbx,?_⟩
  · have:=h.owned.write 0 g st.c0.length k _ rfl rfl (n * 2+1) (.int .i64 a)
    simpa [cpRows,setArg_length,setArg_cells] using this
  · have ht:=h.things.box hbx
    exact⟨ht.word,ht.none,ht.len,ht.each⟩
  · have:=h.small;simpa [setArg_length] using this
  · exact (Below.refl B w).setCell (ownsRow_lt h.od (k:=g) rfl).2 _
theorem Cp.tellM {g k:Nat} (h:Cp B w x st s0 vd (.slice (some ⟨g,0,none⟩) st.c1.length k) vo fw fo) (n:Nat) (a:Int) :
    Cp B (w.setCell ⟨g,n * 2+1,none⟩ (.int .i64 a)) x { st with c1:=setArg st.c1 n a } s0 vd (.slice (some ⟨g,0,none⟩) st.c1.length k) vo fw fo∧BoxStill w (w.setCell ⟨g,n * 2+1,none⟩ (.int .i64 a))∧Below B w (w.setCell ⟨g,n * 2+1,none⟩ (.int .i64 a)):=by
  have hst:Still w (w.setCell ⟨g,n * 2+1,none⟩ (.int .i64 a)) (fun j=>j=g):=Still.set (F:=fun j=>j=g) (Still.refl w _) (Or.inl rfl) _ _
  have off:∀ j∈[x.b,x.r,x.d,x.m,x.mp],j≠g:=fun j hj e=>h.owned.off 1 _ j rfl hj (by rw[e];rfl)
  have hbx:=h.boxes hst (fun j _ e=>by rw[e];exact Or.inr (Or.inr (Or.inr (Or.inr (Or.inr (Or.inr (Or.inl rfl)))))))
  refine⟨⟨h.blk.still hst (off x.b (by simp)),h.rdr.still hst (off x.r (by simp)),h.dp.still hst (off x.d (by simp)),h.mn.still hst (off x.m (by simp)),h.dm,h.base,?_,h.names.to (hst.block _ h.names.lt (off x.mp (by simp))),h.start,?_,?_⟩,hbx,?_⟩
  · have:=h.owned.write 1 g st.c1.length k _ rfl rfl (n * 2+1) (.int .i64 a)
    simpa [cpRows,setArg_length,setArg_cells] using this
  · have ht:=h.things.box hbx
    exact⟨ht.word,ht.none,ht.len,ht.each⟩
  · have:=h.small;simpa [setArg_length] using this
  · exact (Below.refl B w).setCell (ownsRow_lt h.om (k:=g) rfl).2 _
end
theorem Tryz.name78 : (Tryz.f78.name == "runtime.NumGoroutine") = false := by kernel_rfl
theorem Tryz.body78:Tryz.f78.body.isNone=false:=by kernel_rfl
theorem aim_raw (d g k n j:Nat) (y:Int) (w:World) (h:Blk w d #[.slice (some ⟨g,0,none⟩) n k] 140) (hj:j<n) (hn:n≤100000) (hcell:w.cell? ⟨g,j * 2+1,none⟩=some (.int .i64 y)) (hfr:w.frozen? ⟨g,j * 2+1,none⟩=false) :
    Calls Tryz.prog 188 #[.pointer (some ⟨d,0,none⟩),.int .i64 j] w fun e w'=>e=.returned (.tuple #[])∧∃ m,w'=(w.setCell ⟨g,j * 2+1,none⟩ (.int .i64 n)).drewN m:=by
  have HN:Hid (∀ m,Calls Tryz.prog 78 #[.pointer (some ⟨d,0,none⟩)] (w.drewN m) fun e w'=>e=.returned (.int .i64 n)∧w'=w.drewN m):=fun m=>partNext_any d n _ k (w.drewN m) h hn
  have hc:=h.cell
  have hjI:(j:Int)<n:=by omega
  have hnI:(n:Int)≤100000:=by omega
  clear h
  go_enter Tryz.func188,Tryz.ntmps188
  go_wp2_with fail
  go_region_law (refine step_call rfl 78 #[.tmp 9] #[96] rfl Tryz.func78 Tryz.name78 Tryz.body78 #[.pointer (some ⟨d,0,none⟩)] (by first|(simp[Act.eval];done)|(simp[Act.eval,Act.put];done)|rfl) (U HN 1) ?_;rintro e w1 ⟨rfl,rfl⟩;refine⟨_,rfl,?_⟩)
  all_goals
    go_wp2_with fail
    go_end0
    exact⟨rfl,1,rfl⟩
theorem aimHere_any (B:Nat) (x:CX) (st:RS) (w:World) (h:CpE B w x st) (n:Nat) (hn:n<hereS st) :
    Calls Tryz.prog 188 #[.pointer (some ⟨hereX x st,0,none⟩),.int .i64 n] w fun e w'=>e=.returned (.tuple #[])∧CpE B w' x (tellS st n)∧BoxStill w w'∧Below B w w':=by
  obtain⟨s0,vd,vm,vo,fw,fo,h⟩:=h
  unfold hereX tellS
  unfold hereS at hn
  have hsm:=h.small
  by_cases hs:0≤st.start
  · simp only[if_pos hs]at hn ⊢
    obtain⟨g,k,hv,_,_⟩:=h.od.form (by omega)
    subst hv
    obtain⟨y,hy⟩:∃ y,st.c0[n]? = some y:=⟨_,List.getElem?_eq_getElem hn⟩
    have hcell:=own_cell h.od (n * 2+1) (by omega)
    rw[(instrCells_at _ _ _ hy).2]at hcell
    refine (aim_raw x.d g k st.c0.length n y.2 w h.dp hn (by omega) hcell (own_free h.od _)).mono ?_
    rintro e w' ⟨rfl,m,rfl⟩
    obtain⟨k1,k2,k3⟩:=h.tellD n st.c0.length
    exact⟨rfl,⟨_,_,_,_,_,_,k1.drewN m⟩,k2.trans (fun _ _ _ hb _=>hb.drewN m),below_drawn k3 m⟩
  · simp only[if_neg hs]at hn ⊢
    obtain⟨g,k,hv,_,_⟩:=h.om.form (by omega)
    subst hv
    obtain⟨y,hy⟩:∃ y,st.c1[n]? = some y:=⟨_,List.getElem?_eq_getElem hn⟩
    have hcell:=own_cell h.om (n * 2+1) (by omega)
    rw[(instrCells_at _ _ _ hy).2]at hcell
    refine (aim_raw x.m g k st.c1.length n y.2 w h.mn hn (by omega) hcell (own_free h.om _)).mono ?_
    rintro e w' ⟨rfl,m,rfl⟩
    obtain⟨k1,k2,k3⟩:=h.tellM n st.c1.length
    exact⟨rfl,⟨_,_,_,_,_,_,k1.drewN m⟩,k2.trans (fun _ _ _ hb _=>hb.drewN m),below_drawn k3 m⟩
end Go.Proofs.YtmeiikjpaepogaaGreatDoor
