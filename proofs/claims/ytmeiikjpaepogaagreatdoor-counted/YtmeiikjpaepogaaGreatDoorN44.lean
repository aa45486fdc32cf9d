/- The statements without the reference: what a text puts out with any options. -/
import Derived.Test.YtmeiikjpaepogaaGreatDoorN43
import Derived.Test.YtmeiikjpaepogaaGreatDoorN05
import Derived.Test.YtmeiikjpaepogaaGreatDoorN19
import Derived.Test.YtmeiikjpaepogaaGreatDoorN02
import Derived.Test.YtmeiikjpaepogaaGreatDoorN25
set_option maxRecDepth 100000
set_option maxHeartbeats 16000000
namespace Go.Proofs.YtmeiikjpaepogaaGreatDoor
open Go Go.RowKit
theorem Tryz.sizeLims:(Tryz.prog.info? 39).map (fun i=>i.size)=some 4:=by kernel_rfl
theorem wide_any (w:World):Calls Tryz.prog 31 #[] w fun e w'=>e=.returned (.agg #[.int .i64 1000,.int .i64 1000,.int .i64 1000,.int .i64 1000])∧Below w.heap.size w w':=by
  go_enter Tryz.func31,Tryz.ntmps31
  go_wp2_with fail
  exact bodyPost_ret (results_row3 (P:=Tryz.prog) rfl _ _ w.heap.size 39 _ (0,0) _ rfl (Blk.new w _ _) Tryz.underlying39 rfl Tryz.sizeLims) rfl ⟨rfl,below_box w _⟩
structure PutsTo (q:PrS) (ce:Int) (want:ByteArray):Prop where
  code:CodeOk q.1
  entry:q.2<q.1.length
  err:(runM q.1 2000 0 (startM 0 1000 1000 1000 1000 q.2 ce)).2.1=0
  out:(runM q.1 2000 0 (startM 0 1000 1000 1000 1000 q.2 ce)).1.out=want
theorem puts_any (hch:ChainedOk) (s want:ByteArray) (w:World) (henv:Env3 w) (hs:s.size≤2000) (h0:(endS s).err=0) (hput:∀ f t su:Bool,PutsTo (withP f t su (fullS (endS s),(endS s).c0.length)) (endS s).cells want) :
    Calls Tryz.prog 28 #[.string s,.string want] w fun e w'=>e=.returned (.bool true)∧Below w.heap.size w w':=by
  have hce:0≤(endS s).cells∧(endS s).cells≤1000:=(read_facts s hs).2.2
  have HCO:Hid (∀ (f t su:Bool) (W:World),Below w.heap.size w W→Calls Tryz.prog 18 #[.string s,.agg #[.bool f,.bool t,.bool su]] W fun e w'=>∃ (c:Nat) (q:PrS),e=.returned (.tuple #[.pointer (some ⟨c,0,none⟩),.int .i64 0,.int .i64 0])∧CodeR3 w' c q.1 q.2 (endS s).cells∧PutsTo q (endS s).cells want∧Below W.heap.size W w'):=fun f t su W hW=>by
    have he:=henv.below hW
    refine (fcompileO_yes hch s f t su W hs he.1 he.2.1 he.2.2 h0).mono ?_
    rintro e w' ⟨c,rfl,hc,hb⟩
    exact⟨c,_,rfl,hc,hput f t su,hb⟩
  have HTA:=V (Lib.tabBelow_of_tabIs henv.2.2)
  have HWI:=V wide_any
  clear henv hput h0
  generalize (endS s).cells=ce at *
  go_enter Tryz.func28,Tryz.ntmps28
  go_wp2_with fail
  go_loopw [5] (fun v wr=>∃ k:Nat,v=.int .i64 k∧k≤8∧Below w.heap.size w wr) (fun v _=>8-(intOf v).toNat)
  case atStart=>exact⟨0,rfl,by omega,Below.refl _ _⟩
  case round =>
    obtain⟨k,rfl,hk,hbw⟩:=hrel
    have HBW:=V hbw
    clear hbw
    have hk8:k=0∨k=1∨k=2∨k=3∨k=4∨k=5∨k=6∨k=7∨k=8:=by omega
    clear hk
    rcases hk8 with rfl|rfl|rfl|rfl|rfl|rfl|rfl|rfl|rfl
    case inr.inr.inr.inr.inr.inr.inr.inr =>
      go_wp2_with fail
      go_ret
      exact⟨rfl,U HBW⟩
    all_goals
      go_wp2_with fail
      refine (U HCO _ _ _ wr (U HBW)).mono ?_
      rintro e w1 ⟨c,q,rfl,hc,hpt,hb1⟩
      have HB1:Hid (Below w.heap.size w w1):=(U HBW).trans (hb1.mono (U HBW).size)
      have HC1:=V hc
      have HPT:=V hpt
      clear hc hpt hb1
      go_wp2_with fail
      refine (U HWI w1).mono ?_
      rintro e w2 ⟨rfl,hb2⟩
      have HB2:Hid (Below w.heap.size w w2):=(U HB1).trans (hb2.mono (U HB1).size)
      have HRU:=V (run3_any w2 c 0 q.1 q.2 ce 1000 1000 1000 1000 2000 ((U HC1).law (LawStill.ofBelow hb2)) (U HTA w2 (U HB2)) (U HPT).code (by have:=(U HPT).entry;omega) (by omega) (by omega))
      clear hb2
      go_wp2_with fail
      refine (U HRU).mono ?_
      rintro e w3 ⟨er,vS,vC,out,st,rfl,hres⟩
      have lim:limsOk 1000 1000 1000 1000:=by unfold limsOk limOk;omega
      have her:er=0:=(hres.yes lim).1.trans (U HPT).err
      have hout:out=want:=(hres.yes lim).2.1.trans (U HPT).out
      subst her hout
      have HB3:Hid (Below w.heap.size w w3):=(U HB2).trans (hres.below.mono (U HB2).size)
      obtain⟨o1,o2,_⟩:=hres.ok lim rfl
      obtain⟨aS,kS,rfl⟩:=own_shape o1
      obtain⟨aC,kC,rfl⟩:=own_shape o2
      unfold outV
      clear hres HRU lim o1 o2
      generalize (runM q.1 (2000:Int).toNat 0 (startM 0 1000 1000 1000 1000 q.2 ce)).1.stack.length=nS at *
      generalize (runM q.1 (2000:Int).toNat 0 (startM 0 1000 1000 1000 1000 q.2 ce)).1.cells.length=nC at *
      have HBX:Hid (Below w.heap.size w (w3.alloc (.cells #[.int .i64 0,.slice aS nS kS,.slice aC nC kC,.string out,.int .i64 st] 44))):=(U HB3).trans ((below_box w3 _).mono (U HB3).size)
      go_wp2_with fail
      go_roundw
      case rel=>first|exact⟨1,rfl,by omega,U HBX⟩|exact⟨2,rfl,by omega,U HBX⟩|exact⟨3,rfl,by omega,U HBX⟩|exact⟨4,rfl,by omega,U HBX⟩|exact⟨5,rfl,by omega,U HBX⟩|exact⟨6,rfl,by omega,U HBX⟩|exact⟨7,rfl,by omega,U HBX⟩|exact⟨8,rfl,by omega,U HBX⟩
      case measure=>simp[intOf]
def pickK (c n:Int):Int:=(if c<0 then -(c+1) else c) % n
theorem pickK_in (c n:Int) (hn:0<n):0≤pickK c n∧pickK c n<n:=⟨Int.emod_nonneg _ (by omega),Int.emod_lt_of_pos _ hn⟩
theorem pickK_any (c n:Int) (w:World) (hc:inI c) (hn:0<n∧n≤1000000) :
    Calls Tryz.prog 22 #[.int .i64 c,.int .i64 n] w fun e w'=>e=.returned (.int .i64 (pickK c n))∧w'=w:=by
  unfold inI at hc
  unfold pickK
  by_cases h:c<0
  · rw[if_pos h]
    have h1:IntKind.i64.wrap (c+1)=c+1:=by rw[IntKind.wrap_i64];omega
    have h2:IntKind.i64.wrap (-(c+1))=-(c+1):=by rw[IntKind.wrap_i64];omega
    have hn0:n≠0:=by omega
    go_enter Tryz.func22,Tryz.ntmps22
    go_wp2_with fail
    go_ret
    have e:-((c+1).tmod n)=(-(c+1)) % n:=by rw[← Int.neg_tmod,Int.tmod_eq_emod_of_nonneg (by omega)]
    refine⟨?_,rfl⟩
    rw[← e]
    rfl
  · rw[if_neg h]
    have hn0:n≠0:=by omega
    go_enter Tryz.func22,Tryz.ntmps22
    go_wp2_with fail
    go_ret
    exact⟨rfl,rfl⟩
theorem digitsK_pos (n:Int) (w:World) (hn:-9223372036854775808≤n∧n≤9223372036854775807) (h0:0≤n) :
    Calls Tryz.prog 27 #[.int .i64 n] w fun e w'=>e=.returned (.string ⟨(digitsS n).toArray⟩)∧Below w.heap.size w w':=by
  have hcv:=conv_one
  have h8:decide (n<0)=false:=by simpa using h0
  obtain⟨h1,h2⟩:=hn
  have hD:digitsS n=digL 25 n.natAbs:=by unfold digitsS;rw[if_neg (by omega)]
  have HD:=V hD
  have hpw:n.natAbs<10 ^ 25:=by omega
  have HPW:=V hpw
  clear hD hpw
  go_enter Tryz.func27,Tryz.ntmps27
  go_wp2_with fail
  go_loopw [3,4] (fun u s wr=>∃ (k f:Nat) (t:ByteArray),u=.int .u64 k∧s=.string t∧k≤9223372036854775808∧0<f∧f+t.size=25∧k<10 ^ f∧digL 25 n.natAbs=digL f k++t.toList∧Below w.heap.size w wr) (fun u _ _=>(intOf u).toNat)
  case atStart=>exact⟨n.natAbs,25,⟨#[]⟩,by rw[show (n.natAbs:Int)=n from by omega],rfl,by omega,by omega,rfl,U HPW,by rw[ByteArray.toList_eq];exact (List.append_nil _).symm,Below.refl _ _⟩
  case round =>
    obtain⟨k,f,t,rfl,rfl,hk,hf0,hft,hkf,hdl,hb⟩:=hrel
    have HL:=V hdl
    have HK:=V hkf
    have HFT:=V hft
    clear hdl hkf hft
    have hk':(k:Int)≤9223372036854775808:=by omega
    have hkm:(k:Int) % 10<10:=by omega
    have hkm0:0≤(k:Int) % 10:=by omega
    have hts:t.size≤25:=by have:=U HFT;omega
    by_cases h10:(10:Int)≤k
    · have hsz:¬ 9223372036854775807<(strOfNums [48+(k:Int) % 10]).size+t.size:=by rw[strOfNums_size];simp;omega
      go_wp2_with fail
      obtain⟨g,hg,hgk⟩:=pow_step (U HK) (by omega)
      have hg0:0<g:=by
        cases g with
        | zero=>simp at hgk;omega
        | succ g=>omega
      have hstep:digL 25 n.natAbs=digL g (k / 10)++(strOfNums [48+(k:Int) % 10]++t).toList:=by
        rw[U HL,hg,digL_step g k (by omega),digs_app];simp
      have hsize:g+(strOfNums [48+(k:Int) % 10]++t).size=25:=by rw[digs_size];have:=U HFT;omega
      exact⟨⟨k / 10,g,_,by go_num,rfl,by omega,hg0,hsize,hgk,hstep,hb.alloc (by have:=hb.size;omega) _⟩,by simp[intOf];omega⟩
    · have hkk:(k:Int) % 10=k:=by omega
      have hsz:¬ 9223372036854775807<(strOfNums [48+(k:Int)]).size+t.size:=by rw[strOfNums_size];simp;omega
      have HKK:=V hkk
      clear hkk
      go_wp2_with fail
      go_ret
      refine⟨ret_string ?_,hb.alloc (by have:=hb.size;omega) _⟩
      have e1:(strOfNums [48+(k:Int)]++t).toList=digC k :: t.toList:=by
        have:=digs_app k t
        rw[U HKK]at this
        exact this
      have e2:digL 25 n.natAbs=digC k :: t.toList:=by rw[U HL,pow_last (U HK) (by omega) hf0];rfl
      rw[U HD,e2,← e1]
      rw[ByteArray.toList_eq]
theorem digitsK_neg (n:Int) (w:World) (hn:-9223372036854775808≤n∧n≤9223372036854775807) (h0:n<0) :
    Calls Tryz.prog 27 #[.int .i64 n] w fun e w'=>e=.returned (.string ⟨(digitsS n).toArray⟩)∧Below w.heap.size w w':=by
  have hcv:=conv_one
  have h8:decide (n<0)=true:=by simpa using h0
  obtain⟨h1,h2⟩:=hn
  have hD:digitsS n=45 :: digL 25 n.natAbs:=by unfold digitsS;rw[if_pos h0]
  have HD:=V hD
  have hpw:n.natAbs<10 ^ 25:=by omega
  have HPW:=V hpw
  clear hD hpw
  go_enter Tryz.func27,Tryz.ntmps27
  go_wp2_with fail
  go_loopw [3,4] (fun u s wr=>∃ (k f:Nat) (t:ByteArray),u=.int .u64 k∧s=.string t∧k≤9223372036854775808∧0<f∧f+t.size=25∧k<10 ^ f∧digL 25 n.natAbs=digL f k++t.toList∧Below w.heap.size w wr) (fun u _ _=>(intOf u).toNat)
  case atStart=>exact⟨n.natAbs,25,⟨#[]⟩,by rw[wrap_u n (by omega),show (n.natAbs:Int)=-n from by omega],rfl,by omega,by omega,rfl,U HPW,by rw[ByteArray.toList_eq];exact (List.append_nil _).symm,Below.refl _ _⟩
  case round =>
    obtain⟨k,f,t,rfl,rfl,hk,hf0,hft,hkf,hdl,hb⟩:=hrel
    have HL:=V hdl
    have HK:=V hkf
    have HFT:=V hft
    clear hdl hkf hft
    have hk':(k:Int)≤9223372036854775808:=by omega
    have hkm:(k:Int) % 10<10:=by omega
    have hkm0:0≤(k:Int) % 10:=by omega
    have hts:t.size≤25:=by have:=U HFT;omega
    by_cases h10:(10:Int)≤k
    · have hsz:¬ 9223372036854775807<(strOfNums [48+(k:Int) % 10]).size+t.size:=by rw[strOfNums_size];simp;omega
      go_wp2_with fail
      obtain⟨g,hg,hgk⟩:=pow_step (U HK) (by omega)
      have hg0:0<g:=by
        cases g with
        | zero=>simp at hgk;omega
        | succ g=>omega
      have hstep:digL 25 n.natAbs=digL g (k / 10)++(strOfNums [48+(k:Int) % 10]++t).toList:=by
        rw[U HL,hg,digL_step g k (by omega),digs_app];simp
      have hsize:g+(strOfNums [48+(k:Int) % 10]++t).size=25:=by rw[digs_size];have:=U HFT;omega
      exact⟨⟨k / 10,g,_,by go_num,rfl,by omega,hg0,hsize,hgk,hstep,hb.alloc (by have:=hb.size;omega) _⟩,by simp[intOf];omega⟩
    · have hkk:(k:Int) % 10=k:=by omega
      have hsz:¬ 9223372036854775807<(strOfNums [48+(k:Int)]).size+t.size:=by rw[strOfNums_size];simp;omega
      have HKK:=V hkk
      clear hkk
      have hsz2:¬ 9223372036854775807<(⟨#[45]⟩:ByteArray).size+(strOfNums [48+(k:Int)]++t).size:=by rw[digs_size];show ¬ 9223372036854775807<1+_;omega
      go_wp2_with fail
      go_ret
      refine⟨ret_string ?_,hb.alloc (by have:=hb.size;omega) _⟩
      have e1:(strOfNums [48+(k:Int)]++t).toList=digC k :: t.toList:=by
        have:=digs_app k t
        rw[U HKK]at this
        exact this
      have e2:digL 25 n.natAbs=digC k :: t.toList:=by rw[U HL,pow_last (U HK) (by omega) hf0];rfl
      rw[U HD,e2,← e1]
      rw[ByteArray.toList_eq]
      exact neg_app _
theorem digitsK_any (n:Int) (w:World) (hn:-9223372036854775808≤n∧n≤9223372036854775807) :
    Calls Tryz.prog 27 #[.int .i64 n] w fun e w'=>e=.returned (.string ⟨(digitsS n).toArray⟩)∧Below w.heap.size w w':=by
  by_cases h:n<0
  · exact digitsK_neg n w hn h
  · exact digitsK_pos n w hn (by omega)
end Go.Proofs.YtmeiikjpaepogaaGreatDoor
namespace Go.Proofs.YtmeiikjpaepogaaGreatDoor
open Go Go.RowKit Go.ChangeShapes Go.WideShapes Go.ChangeAt Go.Deep
section
variable {H:Type} {enc:TypeId×Value→H} {w:World} {base:Nat} {spare:Nat→Bool} {held:Bool} {v:Value} {d:DataW H} {p:List MemPlace} {r:Reach} {b:Nat}
theorem open_int (hv:Value.okWide Tryz.prog w r b 3 v) (h:DataW.Trod enc Tryz.prog w base spare held 3 v d p):∃ n,v=.int .i64 n∧inI n:=by
  obtain⟨n,rfl⟩:=okWide_int Tryz.underlying3 hv
  obtain⟨fuel,h⟩:=h
  obtain⟨n',g,_,hw⟩:=DataW.trod_int Tryz.underlying3 h
  simp only[Value.cells,List.cons.injEq,Value.int.injEq,and_true,true_and]at g
  subst g
  exact⟨_,rfl,inI_lit hw⟩
end
end Go.Proofs.YtmeiikjpaepogaaGreatDoor
