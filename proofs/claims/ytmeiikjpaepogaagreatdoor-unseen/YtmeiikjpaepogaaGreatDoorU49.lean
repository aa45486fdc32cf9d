/- The statements without the reference: what a text puts out with any options. -/
import Derived.Test.YtmeiikjpaepogaaGreatDoorU44
import Derived.Test.YtmeiikjpaepogaaGreatDoorU38
import Derived.Test.YtmeiikjpaepogaaGreatDoorU07
import Derived.Test.YtmeiikjpaepogaaGreatDoorU24
import Derived.Test.YtmeiikjpaepogaaGreatDoorU48
import Derived.Test.YtmeiikjpaepogaaGreatDoorCards
import Derived.Test.YtmeiikjpaepogaaGreatDoorTie
import Derived.Deep.DeepWitnessRowRef
import Derived.WideKeyArgs
import Derived.Test.YtmeiikjpaepogaaGreatDoorU25
set_option maxRecDepth 100000
set_option maxHeartbeats 32000000
namespace Go.Proofs.YtmeiikjpaepogaaGreatDoor
open Go Go.RowKit
theorem Tryz.sizeLims:(Tryz.prog.info? 39).map (fun i=>i.size)=some 4:=by kernel_rfl
theorem wide_any (w:World):Calls Tryz.prog 31 #[] w fun e w'=>e=.returned (.agg #[.int .i64 1000,.int .i64 1000,.int .i64 1000,.int .i64 1000])∧Below w.heap.size w w':=by
  go_enter Tryz.func31,Tryz.ntmps31
  go_wp2_with fail
  exact bodyPost_ret (results_row3 (P:=Tryz.prog) rfl _ _ w.heap.size 39 _ (0,0) _ rfl (Blk.new w _ _) Tryz.underlying39 rfl Tryz.sizeLims) rfl ⟨rfl,below_box w _⟩
structure PutsTo (q:PrS) (ce:Int) (want:ByteArray):Prop where
  code:CodeOk q.1
  entry:q.2<q.1.length
  err:(runM q.1 2000 0 (startM 0 1000 1000 1000 1000 q.2 ce)).2.1=0
  out:(runM q.1 2000 0 (startM 0 1000 1000 1000 1000 q.2 ce)).1.out=want
def pickK (c n:Int):Int:=(if c<0 then -(c+1) else c) % n
theorem pickK_in (c n:Int) (hn:0<n):0≤pickK c n∧pickK c n<n:=⟨Int.emod_nonneg _ (by omega),Int.emod_lt_of_pos _ hn⟩
theorem pickK_any (c n:Int) (w:World) (hc:inI c) (hn:0<n∧n≤1000000) :
    Calls Tryz.prog 22 #[.int .i64 c,.int .i64 n] w fun e w'=>e=.returned (.int .i64 (pickK c n))∧w'=w:=by
  unfold inI at hc
  unfold pickK
  by_cases h:c<0
  · rw[if_pos h]
    have h1:IntKind.i64.wrap (c+1)=c+1:=by rw[IntKind.wrap_i64];omega
    have h2:IntKind.i64.wrap (-(c+1))=-(c+1):=by rw[IntKind.wrap_i64];omega
    have hn0:n≠0:=by omega
    go_enter Tryz.func22,Tryz.ntmps22
    go_wp2_with fail
    go_ret
    have e:-((c+1).tmod n)=(-(c+1)) % n:=by rw[← Int.neg_tmod,Int.tmod_eq_emod_of_nonneg (by omega)]
    refine⟨?_,rfl⟩
    rw[← e]
    rfl
  · rw[if_neg h]
    have hn0:n≠0:=by omega
    go_enter Tryz.func22,Tryz.ntmps22
    go_wp2_with fail
    go_ret
    exact⟨rfl,rfl⟩
theorem sameNumsK_any (va vb:Value) (la lb:List Int) (ba bb:Nat) (w:World) (ha:w.ownsRow ba 2 1 va la.length (intCells la)) (hb:w.ownsRow bb 2 1 vb lb.length (intCells lb)) (hla:la.length≤17592186044416) (hlb:lb.length≤17592186044416) :
    Calls Tryz.prog 24 #[va,vb] w fun e w'=>e=.returned (.bool (decide (la=lb)))∧∃ n,w'=w.drewN n:=by
  obtain⟨aa,ca,hva⟩:=own_shape ha
  obtain⟨ab,cb,hvb⟩:=own_shape hb
  subst hva hvb
  have hlaI:(la.length:Int)≤17592186044416:=by omega
  have hlbI:(lb.length:Int)≤17592186044416:=by omega
  by_cases hll:la.length=lb.length
  · have HA:=V ha
    have HB:=V hb
    have hllI:(la.length:Int)=lb.length:=by omega
    clear ha hb
    go_enter Tryz.func24,Tryz.ntmps24
    go_wp2_with fail
    go_loopw [5] (fun i wr=>∃ (k n:Nat),i=.int .i64 k∧k≤la.length∧la.take k=lb.take k∧wr=w.drewN n) (fun i _=>la.length-(intOf i).toNat)
    case atStart=>exact⟨0,0,rfl,Nat.zero_le _,rfl,rfl⟩
    case round =>
      obtain⟨k,n,rfl,hk,heq,rfl⟩:=hrel
      have HEQ:=V heq
      clear heq
      by_cases hlt:k<la.length
      · obtain⟨g,cap,hv,_,_⟩:=(U HA).form (by omega)
        simp only[Value.slice.injEq,true_and]at hv
        obtain⟨rfl,rfl⟩:=hv
        obtain⟨g2,cap2,hv,_,_⟩:=(U HB).form (by omega)
        simp only[Value.slice.injEq,true_and]at hv
        obtain⟨rfl,rfl⟩:=hv
        obtain⟨x,hx⟩:∃ x,la[k]? = some x:=⟨_,List.getElem?_eq_getElem hlt⟩
        obtain⟨y,hy⟩:∃ y,lb[k]? = some y:=⟨_,List.getElem?_eq_getElem (by omega)⟩
        have hc1:=own_cell (U HA) k (by omega)
        have hc2:=own_cell (U HB) k (by omega)
        have e1:(intCells la)[k]? = some (.int .i64 x):=by unfold intCells;rw[List.getElem?_map,hx];rfl
        have e2:(intCells lb)[k]? = some (.int .i64 y):=by unfold intCells;rw[List.getElem?_map,hy];rfl
        rw[e1]at hc1
        rw[e2]at hc2
        have hltI:(k:Int)<la.length:=by omega
        have hltJ:(k:Int)<lb.length:=by omega
        have HX:=V hx
        have HY:=V hy
        clear hx hy e1 e2
        by_cases hxy:x=y
        · subst hxy
          go_wp2_with fail
          go_region
          go_wp2_with fail
          go_roundw
          case rel =>
            refine⟨k+1,n+1,by go_num,by omega,?_,rfl⟩
            rw[take_one la k x (U HX),take_one lb k x (U HY),U HEQ]
          case measure=>simp[intOf];omega
        · have hxy':(x == y)=false:=by simpa using hxy
          go_wp2_with fail
          go_region
          go_wp2_with fail
          go_ret
          refine⟨ret_bool ?_,n+1,rfl⟩
          have:la≠lb:=by
            rintro rfl
            have h1:=U HX
            rw[U HY]at h1
            exact hxy (Option.some.inj h1).symm
          simp[this]
      · have hkn:k=la.length:=by omega
        subst hkn
        go_wp2_with fail
        go_ret
        refine⟨ret_bool ?_,_,rfl⟩
        have h1:=U HEQ
        rw[List.take_of_length_le (Nat.le_refl _),hll,List.take_of_length_le (Nat.le_refl _)]at h1
        simp[h1]
  · have hll':(((la.length:Int) == (lb.length:Int)))=false:=by
      simp
      omega
    have hne:la≠lb:=fun e=>hll (by rw[e])
    go_enter Tryz.func24,Tryz.ntmps24
    go_wp2_with fail
    go_ret
    refine⟨ret_bool ?_,0,rfl⟩
    simp[hne]
theorem sameK_any (ea eb:Int) (sa sb ca cb:List Int) (oa ob:ByteArray) (ta tb:Int) (ba bb:Nat) (vSa vCa vSb vCb:Value) (w:World) (ha:OutIs w ba vSa vCa sa ca) (hb:OutIs w bb vSb vCb sb cb) :
    Calls Tryz.prog 26 #[outV ea vSa vCa oa ta,outV eb vSb vCb ob tb] w fun e w'=>e=.returned (.bool (sameS ea eb sa sb ca cb oa ob))∧Below w.heap.size w w':=by
  unfold outV
  obtain⟨a1,k1,hv1⟩:=own_shape ha.s
  obtain⟨a2,k2,hv2⟩:=own_shape ha.c
  obtain⟨a3,k3,hv3⟩:=own_shape hb.s
  obtain⟨a4,k4,hv4⟩:=own_shape hb.c
  subst hv1 hv2 hv3 hv4
  have hbW:Below w.heap.size w ((w.alloc (.cells #[.int .i64 ea,.slice a1 sa.length k1,.slice a2 ca.length k2,.string oa,.int .i64 ta] 44)).alloc (.cells #[.int .i64 eb,.slice a3 sb.length k3,.slice a4 cb.length k4,.string ob,.int .i64 tb] 44)):=((Below.refl _ _).alloc (Nat.le_refl _) _).alloc (by simp) _
  have ha':=ha.below hbW
  have hb':=hb.below hbW
  have H1:=V (sameNumsK_any _ _ sa sb ba bb _ ha'.s hb'.s ha.small.1 hb.small.1)
  have H2:Hid (∀ n,Calls Tryz.prog 24 #[.slice a2 ca.length k2,.slice a4 cb.length k4] (((w.alloc (.cells #[.int .i64 ea,.slice a1 sa.length k1,.slice a2 ca.length k2,.string oa,.int .i64 ta] 44)).alloc (.cells #[.int .i64 eb,.slice a3 sb.length k3,.slice a4 cb.length k4,.string ob,.int .i64 tb] 44)).drewN n) fun e w'=>e=.returned (.bool (decide (ca=cb)))∧∃ m,w'=(((w.alloc (.cells #[.int .i64 ea,.slice a1 sa.length k1,.slice a2 ca.length k2,.string oa,.int .i64 ta] 44)).alloc (.cells #[.int .i64 eb,.slice a3 sb.length k3,.slice a4 cb.length k4,.string ob,.int .i64 tb] 44)).drewN n).drewN m) :=
    fun n=>sameNumsK_any _ _ ca cb ba bb _ ha'.c hb'.c ha.small.2 hb.small.2
  have hu:sameS ea eb sa sb ca cb oa ob=(ea == eb&&oa.toList == ob.toList&&decide (sa=sb)&&decide (ca=cb)):=rfl
  rw[hu]
  generalize decide (sa=sb)=d1 at H1 ⊢
  generalize decide (ca=cb)=d2 at H2 ⊢
  have HB:=V hbW
  clear ha hb ha' hb' hbW hu
  go_enter Tryz.func26,Tryz.ntmps26
  go_wp2_with fail
  refine (U H1).mono ?_
  rintro e w1 ⟨rfl,n,rfl⟩
  go_wp2_with fail
  refine (U H2 n).mono ?_
  rintro e w1 ⟨rfl,m,rfl⟩
  cases he:(ea == eb)
  · go_wp2_with fail
    go_ret
    exact⟨ret_bool (by simp[he]),(U HB).trans ⟨rfl,rfl,rfl,Nat.le_refl _,fun _ _=>rfl⟩⟩
  · cases ho:(oa.toList == ob.toList)
    · go_wp2_with fail
      go_ret
      exact⟨ret_bool (by simp[ho]),(U HB).trans ⟨rfl,rfl,rfl,Nat.le_refl _,fun _ _=>rfl⟩⟩
    · cases d1<;>cases d2
      all_goals
        go_wp2_with fail
        go_ret
        exact⟨ret_bool (by simp[he,ho]),(U HB).trans ⟨rfl,rfl,rfl,Nat.le_refl _,fun _ _=>rfl⟩⟩
theorem limitsK_any (a b c d:Int) (w:World) (ha:inI a) (hb:inI b) (hc:inI c) (hd:inI d) :
    Calls Tryz.prog 21 #[.int .i64 a,.int .i64 b,.int .i64 c,.int .i64 d] w fun e w'=>e=.returned (.agg #[.int .i64 (1+pickK a 1000),.int .i64 (1+pickK b 1000),.int .i64 (1+pickK c 1000),.int .i64 (1+pickK d 1000)])∧Below w.heap.size w w':=by
  have HA:=V (fun W=>pickK_any a 1000 W ha ⟨by omega,by omega⟩)
  have HB:=V (fun W=>pickK_any b 1000 W hb ⟨by omega,by omega⟩)
  have HC:=V (fun W=>pickK_any c 1000 W hc ⟨by omega,by omega⟩)
  have HD:=V (fun W=>pickK_any d 1000 W hd ⟨by omega,by omega⟩)
  have pa:=pickK_in a 1000 (by omega)
  have pb:=pickK_in b 1000 (by omega)
  have pc:=pickK_in c 1000 (by omega)
  have pd:=pickK_in d 1000 (by omega)
  generalize pickK a 1000=a' at *
  generalize pickK b 1000=b' at *
  generalize pickK c 1000=c' at *
  generalize pickK d 1000=d' at *
  clear ha hb hc hd
  have HB0:=V (below_box w (.cells #[.int .i64 0,.int .i64 0,.int .i64 0,.int .i64 0] 39))
  have hR:=(Blk.new w #[.int .i64 0,.int .i64 0,.int .i64 0,.int .i64 0] 39)
  have hc0:=hR.cell
  have hl0:=hR.lt
  clear hR
  go_enter Tryz.func21,Tryz.ntmps21
  go_wp2_with fail
  refine (U HA _).mono ?_
  rintro e w' ⟨rfl,hw2⟩
  subst hw2
  go_wp2_with fail
  refine (U HB _).mono ?_
  rintro e w' ⟨rfl,hw2⟩
  subst hw2
  go_wp2_with fail
  refine (U HC _).mono ?_
  rintro e w' ⟨rfl,hw2⟩
  subst hw2
  go_wp2_with fail
  refine (U HD _).mono ?_
  rintro e w' ⟨rfl,hw2⟩
  subst hw2
  go_wp2_with fail
  exact bodyPost_ret (results_row3 (P:=Tryz.prog) rfl _ _ w.heap.size 39 _ (0,0) _ rfl (Blk.new w _ _) Tryz.underlying39 rfl Tryz.sizeLims) rfl ⟨rfl,below_box w _⟩
theorem puts_any (hch:ChainedOk) (s want:ByteArray) (w:World) (henv:Env3 w) (hs:s.size≤2000) (h0:(endS s).err=0) (hput:∀ f t su:Bool,PutsTo (withP f t su (fullS (endS s),(endS s).c0.length)) (endS s).cells want) :
    Calls Tryz.prog 28 #[.string s,.string want] w fun e w'=>e=.returned (.bool true)∧Below w.heap.size w w':=by
  have hce:0≤(endS s).cells∧(endS s).cells≤1000:=(read_facts s hs).2.2
  have HCO:Hid (∀ (f t su:Bool) (W:World),Below w.heap.size w W→Calls Tryz.prog 18 #[.string s,.agg #[.bool f,.bool t,.bool su]] W fun e w'=>∃ (c:Nat) (q:PrS),e=.returned (.tuple #[.pointer (some ⟨c,0,none⟩),.int .i64 0,.int .i64 0])∧CodeR3 w' c q.1 q.2 (endS s).cells∧PutsTo q (endS s).cells want∧Below W.heap.size W w'):=fun f t su W hW=>by
    have he:=henv.below hW
    refine (fcompileO_yes hch s f t su W hs he.1 he.2.1 he.2.2 h0).mono ?_
    rintro e w' ⟨c,rfl,hc,hb⟩
    exact⟨c,_,rfl,hc,hput f t su,hb⟩
  have HTA:=V (Lib.tabBelow_of_tabIs henv.2.2)
  have HWI:=V wide_any
  clear henv hput h0
  generalize (endS s).cells=ce at *
  go_enter Tryz.func28,Tryz.ntmps28
  go_wp2_with fail
  go_loopw [5] (fun v wr=>∃ k:Nat,v=.int .i64 k∧k≤8∧Below w.heap.size w wr) (fun v _=>8-(intOf v).toNat)
  case atStart=>exact⟨0,rfl,by omega,Below.refl _ _⟩
  case round =>
    obtain⟨k,rfl,hk,hbw⟩:=hrel
    have HBW:=V hbw
    clear hbw
    have hk8:k=0∨k=1∨k=2∨k=3∨k=4∨k=5∨k=6∨k=7∨k=8:=by omega
    clear hk
    rcases hk8 with rfl|rfl|rfl|rfl|rfl|rfl|rfl|rfl|rfl
    case inr.inr.inr.inr.inr.inr.inr.inr =>
      go_wp2_with fail
      go_ret
      exact⟨rfl,U HBW⟩
    all_goals
      go_wp2_with fail
      refine (U HCO _ _ _ wr (U HBW)).mono ?_
      rintro e w1 ⟨c,q,rfl,hc,hpt,hb1⟩
      have HB1:Hid (Below w.heap.size w w1):=(U HBW).trans (hb1.mono (U HBW).size)
      have HC1:=V hc
      have HPT:=V hpt
      clear hc hpt hb1
      go_wp2_with fail
      refine (U HWI w1).mono ?_
      rintro e w2 ⟨rfl,hb2⟩
      have HB2:Hid (Below w.heap.size w w2):=(U HB1).trans (hb2.mono (U HB1).size)
      have HRU:=V (run3_any w2 c 0 q.1 q.2 ce 1000 1000 1000 1000 2000 ((U HC1).law (LawStill.ofBelow hb2)) (U HTA w2 (U HB2)) (U HPT).code (by have:=(U HPT).entry;omega) (by omega) (by omega))
      clear hb2
      go_wp2_with fail
      refine (U HRU).mono ?_
      rintro e w3 ⟨er,vS,vC,out,st,rfl,hres⟩
      have lim:limsOk 1000 1000 1000 1000:=by unfold limsOk limOk;omega
      have her:er=0:=(hres.yes lim).1.trans (U HPT).err
      have hout:out=want:=(hres.yes lim).2.1.trans (U HPT).out
      subst her hout
      have HB3:Hid (Below w.heap.size w w3):=(U HB2).trans (hres.below.mono (U HB2).size)
      obtain⟨o1,o2,_⟩:=hres.ok lim rfl
      obtain⟨aS,kS,rfl⟩:=own_shape o1
      obtain⟨aC,kC,rfl⟩:=own_shape o2
      unfold outV
      clear hres HRU lim o1 o2
      generalize (runM q.1 (2000:Int).toNat 0 (startM 0 1000 1000 1000 1000 q.2 ce)).1.stack.length=nS at *
      generalize (runM q.1 (2000:Int).toNat 0 (startM 0 1000 1000 1000 1000 q.2 ce)).1.cells.length=nC at *
      have HBX:Hid (Below w.heap.size w (w3.alloc (.cells #[.int .i64 0,.slice aS nS kS,.slice aC nC kC,.string out,.int .i64 st] 44))):=(U HB3).trans ((below_box w3 _).mono (U HB3).size)
      go_wp2_with fail
      go_roundw
      case rel=>first|exact⟨1,rfl,by omega,U HBX⟩|exact⟨2,rfl,by omega,U HBX⟩|exact⟨3,rfl,by omega,U HBX⟩|exact⟨4,rfl,by omega,U HBX⟩|exact⟨5,rfl,by omega,U HBX⟩|exact⟨6,rfl,by omega,U HBX⟩|exact⟨7,rfl,by omega,U HBX⟩|exact⟨8,rfl,by omega,U HBX⟩
      case measure=>simp[intOf]
def knText:ByteArray:=⟨#[58,32,102,32,100,117,112,32,105,102,32,49,32,45,32,114,101,99,117,114,115,101,32,116,104,101,110,32,59,32,51,32,102,32,46,32,49,32,50,32,43,32,46,32,51,32,48,32,100,111,32,105,32,46,32,108,111,111,112]⟩
def knWant:ByteArray:=⟨#[48,32,51,32,48,32,49,32,50,32]⟩
def knElse:ByteArray:=⟨#[49,32,101,108,115,101]⟩
def knP:PrS:=([(21,0),(2,5),(0,1),(10,0),(3,0),(4,0),(0,3),(3,0),(32,0),(0,1),(0,2),(9,0),(32,0),(0,3),(0,0),(6,0),(8,0),(32,0),(7,16),(5,0)],6)
set_option maxRecDepth 1000000
theorem kn_err:(endS knText).err=0:=by kernel_rfl
theorem kn_full:(fullS (endS knText),(endS knText).c0.length)=knP:=by kernel_rfl
theorem kn_cells:(endS knText).cells=0:=by kernel_rfl
theorem kn_else:(endS knElse).err=4∧(endS knElse).place=2:=by
  constructor
  · kernel_rfl
  · kernel_rfl
theorem kne_fff:(runM (withP false false false knP).1 2000 0 (startM 0 1000 1000 1000 1000 (withP false false false knP).2 0)).2.1=0:=by kernel_rfl
theorem kno_fff:(runM (withP false false false knP).1 2000 0 (startM 0 1000 1000 1000 1000 (withP false false false knP).2 0)).1.out=knWant:=by kernel_rfl
theorem kne_fft:(runM (withP false false true knP).1 2000 0 (startM 0 1000 1000 1000 1000 (withP false false true knP).2 0)).2.1=0:=by kernel_rfl
theorem kno_fft:(runM (withP false false true knP).1 2000 0 (startM 0 1000 1000 1000 1000 (withP false false true knP).2 0)).1.out=knWant:=by kernel_rfl
theorem kne_ftf:(runM (withP false true false knP).1 2000 0 (startM 0 1000 1000 1000 1000 (withP false true false knP).2 0)).2.1=0:=by kernel_rfl
theorem kno_ftf:(runM (withP false true false knP).1 2000 0 (startM 0 1000 1000 1000 1000 (withP false true false knP).2 0)).1.out=knWant:=by kernel_rfl
theorem kne_ftt:(runM (withP false true true knP).1 2000 0 (startM 0 1000 1000 1000 1000 (withP false true true knP).2 0)).2.1=0:=by kernel_rfl
theorem kno_ftt:(runM (withP false true true knP).1 2000 0 (startM 0 1000 1000 1000 1000 (withP false true true knP).2 0)).1.out=knWant:=by kernel_rfl
theorem kne_tff:(runM (withP true false false knP).1 2000 0 (startM 0 1000 1000 1000 1000 (withP true false false knP).2 0)).2.1=0:=by kernel_rfl
theorem kno_tff:(runM (withP true false false knP).1 2000 0 (startM 0 1000 1000 1000 1000 (withP true false false knP).2 0)).1.out=knWant:=by kernel_rfl
theorem kne_tft:(runM (withP true false true knP).1 2000 0 (startM 0 1000 1000 1000 1000 (withP true false true knP).2 0)).2.1=0:=by kernel_rfl
theorem kno_tft:(runM (withP true false true knP).1 2000 0 (startM 0 1000 1000 1000 1000 (withP true false true knP).2 0)).1.out=knWant:=by kernel_rfl
theorem kne_ttf:(runM (withP true true false knP).1 2000 0 (startM 0 1000 1000 1000 1000 (withP true true false knP).2 0)).2.1=0:=by kernel_rfl
theorem kno_ttf:(runM (withP true true false knP).1 2000 0 (startM 0 1000 1000 1000 1000 (withP true true false knP).2 0)).1.out=knWant:=by kernel_rfl
theorem kne_ttt:(runM (withP true true true knP).1 2000 0 (startM 0 1000 1000 1000 1000 (withP true true true knP).2 0)).2.1=0:=by kernel_rfl
theorem kno_ttt:(runM (withP true true true knP).1 2000 0 (startM 0 1000 1000 1000 1000 (withP true true true knP).2 0)).1.out=knWant:=by kernel_rfl
theorem kn_size:knText.size≤2000:=by decide
theorem kn_puts (f t u:Bool):PutsTo (withP f t u (fullS (endS knText),(endS knText).c0.length)) (endS knText).cells knWant:=by
  have hp:PrOk knP:=by rw[← kn_full];exact full_pr knText kn_size
  rw[kn_full,kn_cells]
  refine⟨(withP_code hp).1,(withP_code hp).2,?_,?_⟩
  · cases f<;>cases t<;>cases u
    · exact kne_fff
    · exact kne_fft
    · exact kne_ftf
    · exact kne_ftt
    · exact kne_tff
    · exact kne_tft
    · exact kne_ttf
    · exact kne_ttt
  · cases f<;>cases t<;>cases u
    · exact kno_fff
    · exact kno_fft
    · exact kno_ftf
    · exact kno_ftt
    · exact kno_tff
    · exact kno_tft
    · exact kno_ttf
    · exact kno_ttt
theorem kn_elseSize:knElse.size≤2000:=by decide
theorem known_any (hch:ChainedOk) (w:World) (henv:Env3 w):Calls Tryz.prog 17 #[] w fun e w'=>e=.returned (.bool true)∧Below w.heap.size w w':=by
  have HC:Hid (Calls Tryz.prog 18 #[.string knElse,.agg #[.bool false,.bool false,.bool false]] w fun e w'=>e=.returned (.tuple #[.pointer none,.int .i64 4,.int .i64 2])∧Below w.heap.size w w'):=fcompile3_no knElse false false false w 4 2 (by omega) (fun W hW=>comp3_no knElse W (henv.below hW).1 (henv.below hW).2.1 4 2 (Or.inr ⟨kn_elseSize,kn_else.1,kn_else.2,by omega⟩))
  have HP:Hid (∀ W,Below w.heap.size w W→Calls Tryz.prog 28 #[.string knText,.string knWant] W fun e w'=>e=.returned (.bool true)∧Below W.heap.size W w'):=fun W hW=>puts_any hch knText knWant W (henv.below hW) kn_size kn_err kn_puts
  clear henv
  go_enter Tryz.func17,Tryz.ntmps17
  go_wp2_with fail
  refine (U HC).mono ?_
  rintro e w1 ⟨rfl,hb1⟩
  have HB1:=V hb1
  clear hb1 HC
  go_wp2_with fail
  refine (U HP w1 (U HB1)).mono ?_
  rintro e w2 ⟨rfl,hb2⟩
  have HB2:Hid (Below w.heap.size w w2):=(U HB1).trans (hb2.mono (U HB1).size)
  clear hb2 HP
  go_wp2_with fail
  go_ret
  exact⟨rfl,U HB2⟩
def BadText (s:ByteArray) (er pl:Int):Prop:=er≠0∧(2000<s.size∧er=1∧pl=0∨s.size≤2000∧(endS s).err=er∧(endS s).place=pl∧er≠0)
theorem text_cases (s:ByteArray):(∃ er pl,BadText s er pl)∨(s.size≤2000∧(endS s).err=0):=by
  by_cases h:s.size≤2000
  · by_cases h0:(endS s).err=0
    · exact Or.inr ⟨h,h0⟩
    · exact Or.inl ⟨_,_,h0,Or.inr ⟨h,rfl,rfl,h0⟩⟩
  · exact Or.inl ⟨1,0,by omega,Or.inl ⟨by omega,rfl,rfl⟩⟩
theorem fcompileO_no (s:ByteArray) (f t su:Bool) (er pl:Int) (w:World) (henv:Env3 w) (h:BadText s er pl) :
    Calls Tryz.prog 18 #[.string s,.agg #[.bool f,.bool t,.bool su]] w fun e w'=>e=.returned (.tuple #[.pointer none,.int .i64 er,.int .i64 pl])∧Below w.heap.size w w' :=
  fcompile3_no s f t su w er pl h.1 (fun W hW=>comp3_no s W (henv.below hW).1 (henv.below hW).2.1 er pl h.2)
def shownS (r:MS×Int×Int):List Int:=if r.2.1=0 then r.1.stack else []
def shownC (r:MS×Int×Int):List Int:=if r.2.1=0 then r.1.cells else []
theorem CodeRes.outIs {w:World} {l:List (Int×Int)} {p:Nat} {en ce ls la lc lo fuel:Int} {er:Int} {vS vC:Value} {out:ByteArray} {st:Int} {w':World} (h:CodeRes w l p en ce ls la lc lo fuel er vS vC out st w') (hl:limsOk ls la lc lo) :
    er=(runM l fuel.toNat 0 (startM p ls la lc lo en ce)).2.1∧out=(runM l fuel.toNat 0 (startM p ls la lc lo en ce)).1.out∧st=(runM l fuel.toNat 0 (startM p ls la lc lo en ce)).2.2∧OutIs w' w.heap.size vS vC (shownS (runM l fuel.toNat 0 (startM p ls la lc lo en ce))) (shownC (runM l fuel.toNat 0 (startM p ls la lc lo en ce)))∧(shownC (runM l fuel.toNat 0 (startM p ls la lc lo en ce))).length≤1000:=by
  obtain⟨h1,h2,h3⟩:=h.yes hl
  refine⟨h1,h2,h3,?_,?_⟩
  · unfold shownS shownC
    by_cases he:er=0
    · obtain⟨o1,o2,o3,o4,_⟩:=h.ok hl he
      rw[← h1,if_pos he,if_pos he]
      exact⟨o1,o2,by omega,by omega⟩
    · obtain⟨rfl,rfl⟩:=h.bad he
      rw[← h1,if_neg he,if_neg he]
      exact⟨own_nil _ _ _,own_nil _ _ _,by simp,by simp⟩
  · unfold shownC
    by_cases he:er=0
    · obtain⟨o1,o2,o3,o4,_⟩:=h.ok hl he
      rw[← h1,if_pos he]
      exact o4
    · rw[← h1,if_neg he]
      simp
theorem obs_shown (r:MS×Int×Int):obsOf r=(r.2.1,shownS r,shownC r,r.1.out):=rfl
structure SeenAs (P q:PrS) (l1 l2 l3 l4:Int) (cn n:Nat):Prop where
  code:CodeOk q.1
  entry:q.2<q.1.length
  seen:(runM P.1 n 0 (startM 0 l1 l2 l3 l4 P.2 cn)).2.1≠15→obsOf (runM q.1 n 0 (startM 0 l1 l2 l3 l4 q.2 cn))=obsOf (runM P.1 n 0 (startM 0 l1 l2 l3 l4 P.2 cn))∧(runM q.1 n 0 (startM 0 l1 l2 l3 l4 q.2 cn)).2.2≤(runM P.1 n 0 (startM 0 l1 l2 l3 l4 P.2 cn)).2.2
theorem unseen_no (hch:ChainedOk) (s:ByteArray) (t:Bool) (i1 i2 i3 i4 i5:Int) (w:World) (henv:Env3 w) (hi1:inI i1) (hi2:inI i2) (hi3:inI i3) (hi4:inI i4) (hi5:inI i5) (er pl:Int) (hbad:BadText s er pl) :
    Calls Tryz.prog 9 #[.string s,.bool t,.int .i64 i1,.int .i64 i2,.int .i64 i3,.int .i64 i4,.int .i64 i5] w fun e w'=>e=.returned (.bool true)∧Below w.heap.size w w':=by
  have HK:=V (known_any hch w henv)
  have HLI:=V (fun W=>limitsK_any i1 i2 i3 i4 W hi1 hi2 hi3 hi4)
  have HPI:=V (fun W=>pickK_any i5 2000 W hi5 ⟨by omega,by omega⟩)
  generalize pickK i5 2000=f at HPI
  generalize 1+pickK i1 1000=l1 at HLI
  generalize 1+pickK i2 1000=l2 at HLI
  generalize 1+pickK i3 1000=l3 at HLI
  generalize 1+pickK i4 1000=l4 at HLI
  have HNO:Hid (∀ (f t su:Bool) (W:World),Below w.heap.size w W→Calls Tryz.prog 18 #[.string s,.agg #[.bool f,.bool t,.bool su]] W fun e w'=>e=.returned (.tuple #[.pointer none,.int .i64 er,.int .i64 pl])∧Below W.heap.size W w'):=fun f t su W hW=>fcompileO_no s f t su er pl W (henv.below hW) hbad
  have her:¬ er=0:=hbad.1
  clear hbad henv hi1 hi2 hi3 hi4 hi5
  go_enter Tryz.func9,Tryz.ntmps9
  go_wp2_with fail
  refine (U HK).mono ?_
  rintro e w1 ⟨rfl,hb1⟩
  have HB1:=V hb1
  clear hb1 HK
  go_wp2_with fail
  refine (U HLI _).mono ?_
  rintro e w2 ⟨rfl,hb2⟩
  have HB2:Hid (Below w.heap.size w (w2.alloc (.cells #[.int .i64 l1,.int .i64 l2,.int .i64 l3,.int .i64 l4] 39))):=((U HB1).trans (hb2.mono (U HB1).size)).trans ((below_box w2 _).mono ((U HB1).trans (hb2.mono (U HB1).size)).size)
  clear hb2
  go_wp2_with fail
  refine (U HPI _).mono ?_
  rintro e w2' ⟨rfl,hw2⟩
  subst hw2
  go_wp2_with fail
  refine (U HNO false t false _ (U HB2)).mono ?_
  rintro e w3 ⟨rfl,hb3⟩
  have HB3:Hid (Below w.heap.size w w3):=(U HB2).trans (hb3.mono (U HB2).size)
  clear hb3
  go_wp2_with fail
  go_loopw [21] (fun v wr=>∃ k:Nat,v=.int .i64 k∧1≤k∧k≤4∧Below w.heap.size w wr) (fun v _=>8-(intOf v).toNat)
  case atStart=>exact⟨1,rfl,by omega,by omega,U HB3⟩
  case round =>
    obtain⟨k,rfl,hk1,hk4,hbw⟩:=hrel
    have HBW:=V hbw
    clear hbw
    have hk8:k=1∨k=2∨k=3∨k=4:=by omega
    clear hk1 hk4
    have g0:decide (er=0)=false:=by simpa using her
    rcases hk8 with rfl|rfl|rfl|rfl
    case inr.inr.inr =>
      go_wp2_with fail
      go_ret
      exact⟨(by first|rfl|(simp;omega)),U HBW⟩
    all_goals
      go_wp2_with fail
      refine (U HNO _ _ _ wr (U HBW)).mono ?_
      rintro e w4 ⟨rfl,hb4⟩
      have HB4:Hid (Below w.heap.size w w4):=(U HBW).trans (hb4.mono (U HBW).size)
      clear hb4
      go_wp2_with fail
      go_roundw
      case rel=>first|exact⟨2,rfl,by omega,by omega,U HB4⟩|exact⟨3,rfl,by omega,by omega,U HB4⟩|exact⟨4,rfl,by omega,by omega,U HB4⟩
      case measure=>simp[intOf]
theorem unseen_yes (hch:ChainedOk) (s:ByteArray) (t:Bool) (i1 i2 i3 i4 i5:Int) (w:World) (henv:Env3 w) (hi1:inI i1) (hi2:inI i2) (hi3:inI i3) (hi4:inI i4) (hi5:inI i5) (hs:s.size≤2000) (h0:(endS s).err=0) :
    Calls Tryz.prog 9 #[.string s,.bool t,.int .i64 i1,.int .i64 i2,.int .i64 i3,.int .i64 i4,.int .i64 i5] w fun e w'=>e=.returned (.bool true)∧Below w.heap.size w w':=by
  have HK:=V (known_any hch w henv)
  have HLI:=V (fun W=>limitsK_any i1 i2 i3 i4 W hi1 hi2 hi3 hi4)
  have HPI:=V (fun W=>pickK_any i5 2000 W hi5 ⟨by omega,by omega⟩)
  have hpk:=pickK_in i5 2000 (by omega)
  have p1:=pickK_in i1 1000 (by omega)
  have p2:=pickK_in i2 1000 (by omega)
  have p3:=pickK_in i3 1000 (by omega)
  have p4:=pickK_in i4 1000 (by omega)
  generalize pickK i5 2000=f at hpk HPI
  obtain⟨l1,hl1⟩:∃ x,x=1+pickK i1 1000:=⟨_,rfl⟩
  obtain⟨l2,hl2⟩:∃ x,x=1+pickK i2 1000:=⟨_,rfl⟩
  obtain⟨l3,hl3⟩:∃ x,x=1+pickK i3 1000:=⟨_,rfl⟩
  obtain⟨l4,hl4⟩:∃ x,x=1+pickK i4 1000:=⟨_,rfl⟩
  rw[← hl1,← hl2,← hl3,← hl4]at HLI
  have hlims:limsOk l1 l2 l3 l4:=⟨⟨by omega,by omega⟩,⟨by omega,by omega⟩,⟨by omega,by omega⟩,⟨by omega,by omega⟩⟩
  clear hl1 hl2 hl3 hl4 p1 p2 p3 p4 hi1 hi2 hi3 hi4 hi5
  have hpr:=full_pr s hs
  have hce:0≤(endS s).cells∧(endS s).cells≤1000:=(read_facts s hs).2.2
  have HTA:=V (Lib.tabBelow_of_tabIs henv.2.2)
  have hco:∀ (f t su:Bool) (W:World),Below w.heap.size w W→Calls Tryz.prog 18 #[.string s,.agg #[.bool f,.bool t,.bool su]] W fun e w'=>∃ (c:Nat),e=.returned (.tuple #[.pointer (some ⟨c,0,none⟩),.int .i64 0,.int .i64 0])∧CodeR3 w' c (withP f t su (fullS (endS s),(endS s).c0.length)).1 (withP f t su (fullS (endS s),(endS s).c0.length)).2 (endS s).cells∧Below W.heap.size W w':=fun f t su W hW=>by
    have he:=henv.below hW
    refine (fcompileO_yes hch s f t su W hs he.1 he.2.1 he.2.2 h0).mono ?_
    rintro e w' ⟨c,rfl,hc,hb⟩
    exact⟨c,rfl,hc,hb⟩
  generalize (endS s).cells=ce at *
  generalize (fullS (endS s),(endS s).c0.length)=P0 at *
  clear henv h0
  obtain⟨cn,rfl⟩:∃ cn:Nat,ce=cn:=⟨ce.toNat,by omega⟩
  obtain⟨P,hP⟩:∃ P,P=withP false t false P0:=⟨_,rfl⟩
  have HPC:=V (withP_code (f:=false) (t:=t) (s:=false) hpr)
  have HC0:=V (hco false t false)
  rw[← hP]at HPC HC0
  have HCO:Hid (∀ (f' su:Bool) (W:World),Below w.heap.size w W→Calls Tryz.prog 18 #[.string s,.agg #[.bool f',.bool t,.bool su]] W fun e w'=>∃ (c:Nat) (q:PrS),e=.returned (.tuple #[.pointer (some ⟨c,0,none⟩),.int .i64 0,.int .i64 0])∧CodeR3 w' c q.1 q.2 cn∧SeenAs P q l1 l2 l3 l4 cn f.toNat∧Below W.heap.size W w'):=fun f' su W hW=>by
    refine (hco f' t su W hW).mono ?_
    rintro e w' ⟨c,rfl,hc,hb⟩
    exact⟨c,_,rfl,hc,⟨(withP_code hpr).1,(withP_code hpr).2,by rw[hP];exact fun h15=>short_run (shortWith hpr f' t su) cn (by omega) hlims f.toNat h15⟩,hb⟩
  have HRU:Hid (∀ (q:PrS) (c:Nat) (W:World),CodeOk q.1→q.2<q.1.length→Below w.heap.size w W→CodeR3 W c q.1 q.2 cn→Calls Tryz.prog 23 #[.pointer (some ⟨c,0,none⟩),.agg #[.int .i64 l1,.int .i64 l2,.int .i64 l3,.int .i64 l4],.int .i64 f] W fun e w'=>∃ er vS vC out st,e=.returned (outV er vS vC out st)∧CodeRes W q.1 0 q.2 cn l1 l2 l3 l4 f er vS vC out st w'):=fun q c W h1 h2 hW hc =>
    run3_any W c 0 q.1 q.2 cn l1 l2 l3 l4 f hc (U HTA W hW) h1 (by omega) hce (by omega)
  have HLM:=V hlims
  have HF:=V hpk
  clear hpr hlims HTA hce hpk hP hco P0
  go_enter Tryz.func9,Tryz.ntmps9
  go_wp2_with fail
  refine (U HK).mono ?_
  rintro e w1 ⟨rfl,hb1⟩
  have HB1:=V hb1
  clear hb1 HK
  go_wp2_with fail
  refine (U HLI _).mono ?_
  rintro e w2 ⟨rfl,hb2⟩
  have HB2:Hid (Below w.heap.size w (w2.alloc (.cells #[.int .i64 l1,.int .i64 l2,.int .i64 l3,.int .i64 l4] 39))):=((U HB1).trans (hb2.mono (U HB1).size)).trans ((below_box w2 _).mono ((U HB1).trans (hb2.mono (U HB1).size)).size)
  have HL2:=V (Blk.new w2 #[.int .i64 l1,.int .i64 l2,.int .i64 l3,.int .i64 l4] 39)
  clear hb2
  go_wp2_with fail
  refine (U HPI _).mono ?_
  rintro e w2' ⟨rfl,hw2⟩
  subst hw2
  go_wp2_with fail
  refine (U HC0 _ (U HB2)).mono ?_
  rintro e w3 ⟨c3,rfl,hc3,hb3⟩
  have HB3:Hid (Below w.heap.size w w3):=(U HB2).trans (hb3.mono (U HB2).size)
  have HL3:=V ((U HL2).below hb3 (U HL2).lt)
  have HC3:=V hc3
  clear hb3 hc3 HL2
  go_wp2_with fail
  go_loopw [21] (fun v wr=>∃ k:Nat,v=.int .i64 k∧1≤k∧k≤4∧Below w.heap.size w wr∧Blk wr w2.heap.size #[.int .i64 l1,.int .i64 l2,.int .i64 l3,.int .i64 l4] 39∧CodeR3 wr c3 P.1 P.2 cn) (fun v _=>8-(intOf v).toNat)
  case atStart=>exact⟨1,rfl,by omega,by omega,U HB3,U HL3,U HC3⟩
  case round =>
    obtain⟨k,rfl,hk1,hk4,hbw,hlw,hcw⟩:=hrel
    have HBW:=V hbw
    have HLW:=V hlw
    have HCW:=V hcw
    clear hbw hlw hcw
    have hk8:k=1∨k=2∨k=3∨k=4:=by omega
    clear hk1 hk4
    rcases hk8 with rfl|rfl|rfl|rfl
    case inr.inr.inr =>
      go_wp2_with fail
      go_ret
      exact⟨(by first|rfl|(simp;done)),U HBW⟩
    all_goals
      go_wp2_with fail
      refine (U HCO _ _ wr (U HBW)).mono ?_
      rintro e w4 ⟨c4,q,rfl,hc4,hse,hb4⟩
      have HB4:Hid (Below w.heap.size w w4):=(U HBW).trans (hb4.mono (U HBW).size)
      have hL4:=(U HLW).below hb4 (U HLW).lt
      have HL4:=V hL4
      have HC3':=V ((U HCW).law (LawStill.ofBelow hb4))
      have HC4:=V hc4
      have HSE:=V hse
      have q1:=hL4.cell
      have q2:=hL4.lt
      clear hb4 hc4 hL4 hse
      go_wp2_with fail
      refine (U HRU P c3 _ (U HPC).1 (U HPC).2 (U HB4) (U HC3')).mono ?_
      rintro e w5 ⟨er,vS,vC,out,st,rfl,hres⟩
      obtain⟨hx1,hx2,hx3,hx4,_⟩:=hres.outIs (U HLM)
      obtain⟨R,hR⟩:∃ R,R=runM P.1 f.toNat 0 (startM 0 l1 l2 l3 l4 P.2 cn):=⟨_,rfl⟩
      rw[← hR]at hx1 hx2 hx3 hx4
      obtain⟨aS,kS,rfl⟩:=own_shape hx4.s
      obtain⟨aC,kC,rfl⟩:=own_shape hx4.c
      have hb5:=hres.below
      have hB5:=(U HB4).trans (hb5.mono (U HB4).size)
      have hbx5:=below_box w5 (.cells #[.int .i64 er,.slice aS (shownS R).length kS,.slice aC (shownC R).length kC,.string out,.int .i64 st] 44)
      have HB5:Hid (Below w.heap.size w (w5.alloc (.cells #[.int .i64 er,.slice aS (shownS R).length kS,.slice aC (shownC R).length kC,.string out,.int .i64 st] 44))):=hB5.trans (hbx5.mono hB5.size)
      have hL5:=((U HL4).below hb5 (U HL4).lt).alloc (.cells #[.int .i64 er,.slice aS (shownS R).length kS,.slice aC (shownC R).length kC,.string out,.int .i64 st] 44)
      have HL5:=V hL5
      have HO5:=V (Blk.new w5 #[.int .i64 er,.slice aS (shownS R).length kS,.slice aC (shownC R).length kC,.string out,.int .i64 st] 44)
      have HX5:=V (hx4.below hbx5)
      have HC5:=V (((U HC4).law (LawStill.ofBelow hb5)).law (LawStill.ofBelow hbx5))
      have HC5':=V (((U HC3').law (LawStill.ofBelow hb5)).law (LawStill.ofBelow hbx5))
      have r1:=hL5.cell
      have r2:=hL5.lt
      have HX:=V (And.intro hx1 (And.intro hx2 hx3))
      have HR:=V hR
      clear hres hx1 hx2 hx3 hx4 hb5 hB5 hbx5 hL5 q1 q2 HL4 HC3' HC4 hR
      unfold outV
      go_wp2_with fail
      refine (U HRU q c4 _ (U HSE).code (U HSE).entry (U HB5) (U HC5)).mono ?_
      rintro e w6 ⟨er',vS',vC',out',st',rfl,hres⟩
      obtain⟨hy1,hy2,hy3,hy4,_⟩:=hres.outIs (U HLM)
      have hfs:=(runM_facts q.1 f.toNat 0 (startM 0 l1 l2 l3 l4 q.2 cn)).2.2.2.1
      have hse:=(U HSE).seen
      obtain⟨R',hR'⟩:∃ R',R'=runM q.1 f.toNat 0 (startM 0 l1 l2 l3 l4 q.2 cn):=⟨_,rfl⟩
      rw[← hR']at hy1 hy2 hy3 hy4 hfs hse
      rw[← U HR]at hse
      have HSE2:=V hse
      obtain⟨aS',kS',rfl⟩:=own_shape hy4.s
      obtain⟨aC',kC',rfl⟩:=own_shape hy4.c
      have hb6:=hres.below
      have hB6:=(U HB5).trans (hb6.mono (U HB5).size)
      have hbx6:=below_box w6 (.cells #[.int .i64 er',.slice aS' (shownS R').length kS',.slice aC' (shownC R').length kC',.string out',.int .i64 st'] 44)
      have HB6:Hid (Below w.heap.size w (w6.alloc (.cells #[.int .i64 er',.slice aS' (shownS R').length kS',.slice aC' (shownC R').length kC',.string out',.int .i64 st'] 44))):=hB6.trans (hbx6.mono hB6.size)
      have hX6:=((U HO5).below hb6 (U HO5).lt).alloc (.cells #[.int .i64 er',.slice aS' (shownS R').length kS',.slice aC' (shownC R').length kC',.string out',.int .i64 st'] 44)
      have hY6:=Blk.new w6 #[.int .i64 er',.slice aS' (shownS R').length kS',.slice aC' (shownC R').length kC',.string out',.int .i64 st'] 44
      have hL6:=((U HL5).below hb6 (U HL5).lt).alloc (.cells #[.int .i64 er',.slice aS' (shownS R').length kS',.slice aC' (shownC R').length kC',.string out',.int .i64 st'] 44)
      have HC6:=V (((U HC5').law (LawStill.ofBelow hb6)).law (LawStill.ofBelow hbx6))
      have HSA:=V (sameK_any er er' _ _ _ _ out out' st st' _ _ _ _ _ _ _ (((U HX5).below hb6).below hbx6) (hy4.below hbx6))
      have s1:=hX6.cell
      have s2:=hX6.lt
      have s3:=hY6.cell
      have s4:=hY6.lt
      have HX6:=V hX6
      have HY6:=V hY6
      have HL6:=V hL6
      have HY:=V (And.intro hy1 (And.intro hy2 hy3))
      have hsf:st'≤f:=by have:=(U HF).1;omega
      clear hres hy1 hy2 hy3 hy4 hb6 hB6 hbx6 hX6 hY6 hL6 r1 r2 HL5 HX5 HC5 HC5' HO5 hfs hse hR' HSE HR
      unfold outV at HSA ⊢
      go_wp2_with fail
      refine (U HSA).mono ?_
      rintro e w7 ⟨rfl,hb7⟩
      have hX7:=(U HX6).below hb7 (U HX6).lt
      have hY7:=(U HY6).below hb7 (U HY6).lt
      have HL7:=V ((U HL6).below hb7 (U HL6).lt)
      have HC7:=V ((U HC6).law (LawStill.ofBelow hb7))
      have t1:=hX7.cell
      have t2:=hX7.lt
      have t3:=hY7.cell
      have t4:=hY7.lt
      have HB7:Hid (Below w.heap.size w w7):=(U HB6).trans (hb7.mono (U HB6).size)
      have gf:decide (f<st')=false:=by simpa using hsf
      clear hb7 hX7 hY7 s1 s2 s3 s4 HX6 HY6 HSA HL6 HC6
      by_cases h15:er=15
      · subst h15
        go_wp2_with fail
        go_roundw
        case rel=>first|exact⟨2,rfl,by omega,by omega,U HB7,U HL7,U HC7⟩|exact⟨3,rfl,by omega,by omega,U HB7,U HL7,U HC7⟩|exact⟨4,rfl,by omega,by omega,U HB7,U HL7,U HC7⟩
        case measure=>simp[intOf]
      · obtain⟨x1,x2,x3⟩:=U HX
        obtain⟨y1,y2,y3⟩:=U HY
        obtain⟨a1,a5⟩:=U HSE2 (by rw[← x1];exact h15)
        rw[obs_shown,obs_shown]at a1
        simp only[Prod.mk.injEq]at a1
        obtain⟨a1,a3,a4,a2⟩:=a1
        have hsame:sameS er er' (shownS R) (shownS R') (shownC R) (shownC R') out out'=true:=by
          unfold sameS
          rw[a3,a4,x1,y1,a1,x2,y2,a2]
          simp
        have hst:st'≤st:=by omega
        have g15:decide (er=15)=false:=by simpa using h15
        have gst:decide (st<st')=false:=by simpa using hst
        rw[hsame]
        clear x1 x2 x3 y1 y2 y3 a1 a2 a3 a4 a5 hsame HSE2 HX HY
        go_wp2_with fail
        go_roundw
        case rel=>first|exact⟨2,rfl,by omega,by omega,U HB7,U HL7,U HC7⟩|exact⟨3,rfl,by omega,by omega,U HB7,U HL7,U HC7⟩|exact⟨4,rfl,by omega,by omega,U HB7,U HL7,U HC7⟩
        case measure=>simp[intOf]
theorem unseen_any (hch:ChainedOk) (s:ByteArray) (t:Bool) (i1 i2 i3 i4 i5:Int) (w:World) (henv:Env3 w) (hi1:inI i1) (hi2:inI i2) (hi3:inI i3) (hi4:inI i4) (hi5:inI i5) :
    Calls Tryz.prog 9 #[.string s,.bool t,.int .i64 i1,.int .i64 i2,.int .i64 i3,.int .i64 i4,.int .i64 i5] w fun e w'=>e=.returned (.bool true)∧Below w.heap.size w w':=by
  rcases text_cases s with ⟨er,pl,hbad⟩|⟨hs,h0⟩
  · exact unseen_no hch s t i1 i2 i3 i4 i5 w henv hi1 hi2 hi3 hi4 hi5 er pl hbad
  · exact unseen_yes hch s t i1 i2 i3 i4 i5 w henv hi1 hi2 hi3 hi4 hi5 hs h0
end Go.Proofs.YtmeiikjpaepogaaGreatDoor
namespace Go.Proofs.YtmeiikjpaepogaaGreatDoor
open Go Go.ChangeShapes Go.WideShapes Go.ChangeAt
theorem Tryz.wfU:Rows.unseenRow.wf (OpenSpec.ofChange (OpenSpec.ofChange Rows.unseenSpec).bare)=true:=by kernel_rfl
theorem Tryz.inPlaceU:(Rows.unseenRow.inPlace == Tryz.prog.inPlace 9)=true:=by kernel_rfl
theorem Tryz.unfollowedU:(Rows.unseenRow.unfollowed == Tryz.prog.unfollowed 9)=true:=by kernel_rfl
theorem Tryz.recursesU:(Rows.unseenRow.recurses == Tryz.prog.recurses 9)=true:=by kernel_rfl
theorem Tryz.namedU:(Rows.unseenRow.named == Tryz.prog.varsNamed 9)=true:=by kernel_rfl
theorem Tryz.plainKeysU:(Rows.unseenRow.plainKeys == Tryz.prog.plainKeys)=true:=by kernel_rfl
theorem Tryz.liftedU:(Rows.unseenRow.lifted == Tryz.prog.liftsFinal)=true:=by kernel_rfl
theorem Tryz.makeU:(Tryz.prog.make == some Rows.unseenRow.make)=true:=by kernel_rfl
theorem Tryz.closedU:joinedFacts Tryz.prog 9 Tryz.f9 (OpenSpec.ofChange Rows.unseenSpec).bare Rows.unseenRow=true:=by
  unfold joinedFacts
  simp only[Bool.and_eq_true]
  refine⟨⟨⟨⟨⟨⟨⟨⟨⟨⟨⟨⟨⟨⟨⟨⟨⟨⟨⟨⟨⟨⟨⟨⟨⟨⟨⟨⟨⟨⟨⟨?_,?_⟩,?_⟩,?_⟩,?_⟩,?_⟩,?_⟩,?_⟩,?_⟩,?_⟩,?_⟩,?_⟩,?_⟩,?_⟩,?_⟩,?_⟩,?_⟩,?_⟩,?_⟩,?_⟩,?_⟩,?_⟩,?_⟩,?_⟩,?_⟩,?_⟩,?_⟩,?_⟩,?_⟩,?_⟩,?_⟩,?_⟩
  all_goals first
    | with_reducible exact Tryz.laidOut
    | with_reducible exact Tryz.mapsRowed
    | with_reducible exact Tryz.stops0
    | with_reducible exact Tryz.knobs0
    | with_reducible exact Tryz.heardC
    | with_reducible exact Tryz.mayEnterC
    | with_reducible exact Tryz.wfU
    | with_reducible exact Tryz.inPlaceU
    | with_reducible exact Tryz.unfollowedU
    | with_reducible exact Tryz.recursesU
    | with_reducible exact Tryz.namedU
    | with_reducible exact Tryz.plainKeysU
    | with_reducible exact Tryz.liftedU
    | with_reducible exact Tryz.makeU
    | as_aux_lemma=>kernel_rfl
end Go.Proofs.YtmeiikjpaepogaaGreatDoor
