/- The statements without the reference: Counted. -/
import Derived.Test.YtmeiikjpaepogaaGreatDoorN44
import Derived.Test.YtmeiikjpaepogaaGreatDoorN07
import Derived.Test.YtmeiikjpaepogaaGreatDoorN06
import Derived.Test.YtmeiikjpaepogaaGreatDoorN05
import Derived.Test.YtmeiikjpaepogaaGreatDoorN19
import Derived.Test.YtmeiikjpaepogaaGreatDoorN40
import Derived.Test.YtmeiikjpaepogaaGreatDoorN23
import Derived.Test.YtmeiikjpaepogaaGreatDoorN50
import Derived.Test.YtmeiikjpaepogaaGreatDoorCards
import Derived.Test.YtmeiikjpaepogaaGreatDoorTie
import Derived.Deep.DeepWitnessRowRef
import Derived.WideKeyArgs
import Derived.Test.YtmeiikjpaepogaaGreatDoorN24
set_option maxRecDepth 100000
set_option maxHeartbeats 32000000
namespace Go.Proofs.YtmeiikjpaepogaaGreatDoor
open Go Go.RowKit
theorem putsE_any (hch:ChainedOk) {w:World} (henv:Env3 w) {ts:List Tok} (hw:ts.all okW=true) (hin:∀ t∈ts,∀ k,t=.num k→inI k) (hl:ts.length≤70) {l:List (Int×Int)} {en:Nat} (hA:ReadsTo ts l en) {want:ByteArray} (hE:∃ n st cl,n≤2000∧Ends l (startM 0 1000 1000 1000 1000 en ((0:Nat):Int)) n (0,st,cl,want)) (s:ByteArray) (W:World) (hW:Below w.heap.size w W) (h1:s.data.toList=textT ts) (want':ByteArray) (h2:want'=want) :
    Calls Tryz.prog 28 #[.string s,.string want'] W fun e w'=>e=.returned (.bool true)∧Below W.heap.size W w':=by
  subst h2
  have ht:=text_is h1 hw hin hl
  obtain⟨n,st,cl,hn,hE⟩:=hE
  obtain⟨r1,r2⟩:=text_ends ht (full_pr s ht.size) hA hn hE
  exact puts_any hch s want' W (henv.below hW) ht.size r1 r2
theorem sum_val (d:Nat) (h:d<60):wrap64 ((wrap64 ((d:Int) * ((d:Int)+1))).tdiv 2)=sumN d:=by
  have key:∀ x:Fin 60,wrap64 ((wrap64 (((x.val:Nat):Int) * (((x.val:Nat):Int)+1))).tdiv 2)=sumN x.val:=by decide +kernel
  exact key ⟨d,h⟩
theorem out1 (n:Int):(⟨(digitsS n).toArray⟩:ByteArray)++(⟨#[32]⟩:ByteArray)=outB [n]:=by
  refine ByteArray.ext (Array.ext' ?_)
  rw[outB_list]
  simp
theorem inI_sm {n:Int} (h:-100000≤n∧n≤100000):inI n:=by unfold inI;omega
theorem countedK_any (hch:ChainedOk) (i1 i2 i3:Int) (w:World) (henv:Env3 w) (hi1:inI i1) (hi2:inI i2) (hi3:inI i3) :
    Calls Tryz.prog 12 #[.int .i64 i1,.int .i64 i2,.int .i64 i3] w fun e w'=>e=.returned (.bool true)∧Below w.heap.size w w':=by
  have HD:Hid (∀ (n:Int) (W:World),inI n→Calls Tryz.prog 27 #[.int .i64 n] W fun e w'=>e=.returned (.string ⟨(digitsS n).toArray⟩)∧Below W.heap.size W w'):=fun n W hn=>digitsK_any n W hn
  have HP1:=V (fun W=>pickK_any i1 1000 W hi1 ⟨by omega,by omega⟩)
  have HP2:=V (fun W=>pickK_any i2 40 W hi2 ⟨by omega,by omega⟩)
  have HP3:=V (fun W=>pickK_any i3 60 W hi3 ⟨by omega,by omega⟩)
  have p1:=pickK_in i1 1000 (by omega)
  have p2:=pickK_in i2 40 (by omega)
  have p3:=pickK_in i3 60 (by omega)
  obtain⟨a,ha⟩:∃ a,pickK i1 1000=a+500:=⟨pickK i1 1000-500,by omega⟩
  obtain⟨k,hk⟩:∃ k:Nat,pickK i2 40=(k:Int)-1:=⟨(pickK i2 40+1).toNat,by omega⟩
  obtain⟨d,hd⟩:∃ d:Nat,pickK i3 60=d:=⟨(pickK i3 60).toNat,by omega⟩
  rw[ha]at HP1 p1
  rw[hk]at HP2 p2
  rw[hd]at HP3 p3
  clear ha hk hd hi1 hi2 hi3
  have b1:-500≤a∧a≤499:=by omega
  have b2:1≤k∧k≤40:=by omega
  have b3:d<60:=by omega
  clear p1 p2 p3
  have hab:-500≤a∧a+k≤540:=by omega
  have hin1:∀ n:Int,n=a∨n=a+k→inI n:=fun n hn=>inI_sm (by omega)
  have HC1:=V (putsE_any hch henv (ts:=tC1 a k) rfl (ints2 (hin1 a (Or.inl rfl)) (hin1 (a+k) (Or.inr rfl)) (by simp[tC1])) (by simp[tC1]) (aC1 a k) (by obtain⟨n,h1,h2⟩:=ends1 hab b2;exact⟨n,_,_,h1,h2⟩))
  have HC2:=V (putsE_any hch henv (ts:=tC2 a k) rfl (ints2 (hin1 a (Or.inl rfl)) (hin1 (a+k) (Or.inr rfl)) (by simp[tC2])) (by simp[tC2]) (aC2 a k) (by obtain⟨n,h1,h2⟩:=ends2 hab b2;exact⟨n,_,_,h1,h2⟩))
  have HC3:=V (putsE_any hch henv (ts:=tC3 a k) rfl (ints2 (hin1 a (Or.inl rfl)) (hin1 (a+k) (Or.inr rfl)) (by simp[tC3])) (by simp[tC3]) (aC3 a k) (by obtain⟨n,h1,h2⟩:=ends3 hab b2;exact⟨n,_,_,h1,h2⟩))
  have hid:inI (d:Int):=inI_sm (by omega)
  have HC4:=V (putsE_any hch henv (ts:=tC4 d) rfl (ints2 hid hid (by simp[tC4])) (by simp[tC4]) (aC4 d) (by obtain⟨n,h1,h2⟩:=ends4 b3;exact⟨n,_,_,h1,h2⟩))
  have HC5:=V (putsE_any hch henv (ts:=tC5 d) rfl (ints2 hid hid (by simp[tC5])) (by simp[tC5]) (aC5 d) (by obtain⟨n,h1,h2⟩:=ends5 b3;exact⟨n,_,_,h1,h2⟩))
  have HC6:=V (putsE_any hch henv (ts:=tC6) rfl (ints2 hid hid (by simp[tC6])) (by simp[tC6]) aC6 ends6)
  clear henv hch hin1
  go_enter Tryz.func12,Tryz.ntmps12
  go_wp2_with fail
  refine (U HP1 _).mono ?_
  rintro e w1 ⟨rfl,hw1⟩
  subst hw1
  go_wp2_with fail
  refine (U HP2 _).mono ?_
  rintro e w1 ⟨rfl,hw1⟩
  subst hw1
  go_wp2_with fail
  rw[show (1:Int)+((k:Int)-1)=k by omega]
  go_loopw [9,10] (fun want v wr=>∃ j:Nat,want=.string (outB (upTo a j))∧v=.int .i64 (a+j)∧j≤k∧Below w1.heap.size w1 wr) (fun _ v _=>(a+k-intOf v).toNat)
  case atStart=>exact⟨0,rfl,by simp,by omega,Below.refl _ _⟩
  case round =>
    obtain⟨j,rfl,rfl,hj,hbw⟩:=hrel
    have HB10:=V hbw
    clear hbw
    by_cases hjk:j<k
    · have g:decide (a+(j:Int)<a+k)=true:=decide_eq_true (by omega)
      have hos:=outB_size (upTo a j)
      rw[upTo_len]at hos
      have hds:=digB_size (a+(j:Int))
      have z1:¬ 9223372036854775807<(outB (upTo a j)).size+(⟨(digitsS (a+(j:Int))).toArray⟩:ByteArray).size:=by omega
      have z2:¬ 9223372036854775807<(outB (upTo a j)++(⟨(digitsS (a+(j:Int))).toArray⟩:ByteArray)).size+(⟨#[32]⟩:ByteArray).size:=by
        rw[ByteArray.size_append]
        show ¬ 9223372036854775807<_+1
        omega
      go_wp2_with fail
      refine (U HD _ _ (inI_sm (by omega))).mono ?_
      rintro e w2 ⟨rfl,hb2⟩
      have HB2:Hid (Below w1.heap.size w1 w2):=(U HB10).trans (hb2.mono (U HB10).size)
      clear hb2
      go_wp2_with fail
      go_roundw
      case rel=>exact⟨j+1,by rw[upTo_next,outB_snoc],by first|(push_cast;rw[Int.add_assoc])|(simp;omega),by omega,U HB2⟩
      case measure=>simp[intOf];omega
    · have g:decide (a+(j:Int)<a+k)=false:=decide_eq_false (by omega)
      obtain rfl:j=k:=by omega
      obtain⟨u0,u1,u2⟩:=chain4 (A0:=(⟨(digitsS (a+(j:Int))).toArray⟩:ByteArray)) (A1:=(⟨#[32]⟩:ByteArray)) (A2:=(⟨(digitsS a).toArray⟩:ByteArray)) (A3:=(⟨#[32,100,111,32,105,32,46,32,108,111,111,112]⟩:ByteArray)) (digB_size _) (by decide) (digB_size _) (by decide)
      go_wp2_with fail
      refine (U HD _ _ (inI_sm (by omega))).mono ?_
      rintro e w11 ⟨rfl,hb11⟩
      have HB11:Hid (Below w1.heap.size w1 w11):=(U HB10).trans (hb11.mono (U HB10).size)
      clear hb11
      go_wp2_with fail
      refine (U HD _ _ (inI_sm (by omega))).mono ?_
      rintro e w12 ⟨rfl,hb12⟩
      have HB12:Hid (Below w1.heap.size w1 w12):=(U HB11).trans (hb12.mono (U HB11).size)
      clear hb12
      go_wp2_with fail
      refine (U HC1 _ _ (U HB12) (by simp[textT,restT,Tok.bytes,tC1]) _ rfl).mono ?_
      rintro e w13 ⟨rfl,hb13⟩
      have HB13:Hid (Below w1.heap.size w1 w13):=(U HB12).trans (hb13.mono (U HB12).size)
      clear hb13 HC1
      clear u0 u1 u2
      obtain⟨u0,u1,u2⟩:=chain4 (A0:=(⟨(digitsS a).toArray⟩:ByteArray)) (A1:=(⟨#[32,98,101,103,105,110,32,100,117,112,32]⟩:ByteArray)) (A2:=(⟨(digitsS (a+(j:Int))).toArray⟩:ByteArray)) (A3:=(⟨#[32,60,32,119,104,105,108,101,32,100,117,112,32,46,32,49,32,43,32,114,101,112,101,97,116,32,100,114,111,112]⟩:ByteArray)) (digB_size _) (by decide) (digB_size _) (by decide)
      go_wp2_with fail
      refine (U HD _ _ (inI_sm (by omega))).mono ?_
      rintro e w14 ⟨rfl,hb14⟩
      have HB14:Hid (Below w1.heap.size w1 w14):=(U HB13).trans (hb14.mono (U HB13).size)
      clear hb14
      go_wp2_with fail
      refine (U HD _ _ (inI_sm (by omega))).mono ?_
      rintro e w15 ⟨rfl,hb15⟩
      have HB15:Hid (Below w1.heap.size w1 w15):=(U HB14).trans (hb15.mono (U HB14).size)
      clear hb15
      go_wp2_with fail
      refine (U HC2 _ _ (U HB15) (by simp[textT,restT,Tok.bytes,tC2]) _ rfl).mono ?_
      rintro e w16 ⟨rfl,hb16⟩
      have HB16:Hid (Below w1.heap.size w1 w16):=(U HB15).trans (hb16.mono (U HB15).size)
      clear hb16 HC2
      clear u0 u1 u2
      obtain⟨u0,u1,u2⟩:=chain4 (A0:=(⟨(digitsS a).toArray⟩:ByteArray)) (A1:=(⟨#[32,98,101,103,105,110,32,100,117,112,32,46,32,49,32,43,32,100,117,112,32]⟩:ByteArray)) (A2:=(⟨(digitsS (a+(j:Int))).toArray⟩:ByteArray)) (A3:=(⟨#[32,61,32,117,110,116,105,108,32,100,114,111,112]⟩:ByteArray)) (digB_size _) (by decide) (digB_size _) (by decide)
      go_wp2_with fail
      refine (U HD _ _ (inI_sm (by omega))).mono ?_
      rintro e w17 ⟨rfl,hb17⟩
      have HB17:Hid (Below w1.heap.size w1 w17):=(U HB16).trans (hb17.mono (U HB16).size)
      clear hb17
      go_wp2_with fail
      refine (U HD _ _ (inI_sm (by omega))).mono ?_
      rintro e w18 ⟨rfl,hb18⟩
      have HB18:Hid (Below w1.heap.size w1 w18):=(U HB17).trans (hb18.mono (U HB17).size)
      clear hb18
      go_wp2_with fail
      refine (U HC3 _ _ (U HB18) (by simp[textT,restT,Tok.bytes,tC3]) _ rfl).mono ?_
      rintro e w19 ⟨rfl,hb19⟩
      have HB19:Hid (Below w1.heap.size w1 w19):=(U HB18).trans (hb19.mono (U HB18).size)
      clear hb19 HC3
      clear u0 u1 u2
      go_wp2_with fail
      refine (U HP3 _).mono ?_
      rintro e w30 ⟨rfl,hw30⟩
      subst hw30
      have y0:¬ 9223372036854775807<(⟨(digitsS (sumN d)).toArray⟩:ByteArray).size+(⟨#[32]⟩:ByteArray).size:=by
        have:=digB_size (sumN d)
        show ¬ 9223372036854775807<_+1
        omega
      have hsv:=sum_val d b3
      have hsm:=sumN_small d (by omega)
      obtain⟨u0,u1⟩:=chain3 (A0:=(⟨#[58,32,100,111,119,110,32,100,117,112,32,105,102,32,100,117,112,32,62,114,32,49,32,45,32,114,101,99,117,114,115,101,32,114,62,32,43,32,116,104,101,110,32,59,32]⟩:ByteArray)) (A1:=(⟨(digitsS (d:Int)).toArray⟩:ByteArray)) (A2:=(⟨#[32,100,111,119,110,32,46]⟩:ByteArray)) (by decide) (digB_size _) (by decide)
      go_wp2_with fail
      rw[hsv]
      clear hsv
      refine (U HD _ _ (inI_sm (by omega))).mono ?_
      rintro e w20 ⟨rfl,hb20⟩
      have HB20:Hid (Below w1.heap.size w1 w20):=(U HB19).trans (hb20.mono (U HB19).size)
      clear hb20
      go_wp2_with fail
      refine (U HD _ _ (inI_sm (by omega))).mono ?_
      rintro e w21 ⟨rfl,hb21⟩
      have HB21:Hid (Below w1.heap.size w1 w21):=(U HB20).trans (hb21.mono (U HB20).size)
      clear hb21
      go_wp2_with fail
      refine (U HC4 _ _ (U HB21) (by simp[textT,restT,Tok.bytes,tC4]) _ (out1 _)).mono ?_
      rintro e w22 ⟨rfl,hb22⟩
      have HB22:Hid (Below w1.heap.size w1 w22):=(U HB21).trans (hb22.mono (U HB21).size)
      clear hb22 HC4
      clear u0 u1
      obtain⟨u0,u1⟩:=chain3 (A0:=(⟨#[58,32,116,111,32,100,117,112,32,105,102,32,115,119,97,112,32,111,118,101,114,32,43,32,115,119,97,112,32,49,32,45,32,114,101,99,117,114,115,101,32,116,104,101,110,32,59,32,48,32]⟩:ByteArray)) (A1:=(⟨(digitsS (d:Int)).toArray⟩:ByteArray)) (A2:=(⟨#[32,116,111,32,100,114,111,112,32,46]⟩:ByteArray)) (by decide) (digB_size _) (by decide)
      go_wp2_with fail
      refine (U HD _ _ (inI_sm (by omega))).mono ?_
      rintro e w23 ⟨rfl,hb23⟩
      have HB23:Hid (Below w1.heap.size w1 w23):=(U HB22).trans (hb23.mono (U HB22).size)
      clear hb23
      go_wp2_with fail
      refine (U HD _ _ (inI_sm (by omega))).mono ?_
      rintro e w24 ⟨rfl,hb24⟩
      have HB24:Hid (Below w1.heap.size w1 w24):=(U HB23).trans (hb24.mono (U HB23).size)
      clear hb24
      go_wp2_with fail
      refine (U HC5 _ _ (U HB24) (by simp[textT,restT,Tok.bytes,tC5]) _ (out1 _)).mono ?_
      rintro e w25 ⟨rfl,hb25⟩
      have HB25:Hid (Below w1.heap.size w1 w25):=(U HB24).trans (hb25.mono (U HB24).size)
      clear hb25 HC5
      clear u0 u1
      go_wp2_with fail
      refine (U HC6 _ _ (U HB25) (by rfl) _ rfl).mono ?_
      rintro e w26 ⟨rfl,hb26⟩
      have HB26:Hid (Below w1.heap.size w1 w26):=(U HB25).trans (hb26.mono (U HB25).size)
      clear hb26 HC6
      go_wp2_with fail
      go_ret
      exact⟨rfl,U HB26⟩
end Go.Proofs.YtmeiikjpaepogaaGreatDoor
namespace Go.Proofs.YtmeiikjpaepogaaGreatDoor
open Go Go.ChangeShapes Go.WideShapes Go.ChangeAt
theorem Tryz.wfN:Rows.countedRow.wf (OpenSpec.ofChange (OpenSpec.ofChange Rows.countedSpec).bare)=true:=by kernel_rfl
theorem Tryz.inPlaceN:(Rows.countedRow.inPlace == Tryz.prog.inPlace 12)=true:=by kernel_rfl
theorem Tryz.unfollowedN:(Rows.countedRow.unfollowed == Tryz.prog.unfollowed 12)=true:=by kernel_rfl
theorem Tryz.recursesN:(Rows.countedRow.recurses == Tryz.prog.recurses 12)=true:=by kernel_rfl
theorem Tryz.namedN:(Rows.countedRow.named == Tryz.prog.varsNamed 12)=true:=by kernel_rfl
theorem Tryz.plainKeysN:(Rows.countedRow.plainKeys == Tryz.prog.plainKeys)=true:=by kernel_rfl
theorem Tryz.liftedN:(Rows.countedRow.lifted == Tryz.prog.liftsFinal)=true:=by kernel_rfl
theorem Tryz.makeN:(Tryz.prog.make == some Rows.countedRow.make)=true:=by kernel_rfl
theorem Tryz.closedN:joinedFacts Tryz.prog 12 Tryz.f12 (OpenSpec.ofChange Rows.countedSpec).bare Rows.countedRow=true:=by
  unfold joinedFacts
  simp only[Bool.and_eq_true]
  refine⟨⟨⟨⟨⟨⟨⟨⟨⟨⟨⟨⟨⟨⟨⟨⟨⟨⟨⟨⟨⟨⟨⟨⟨⟨⟨⟨⟨⟨⟨⟨?_,?_⟩,?_⟩,?_⟩,?_⟩,?_⟩,?_⟩,?_⟩,?_⟩,?_⟩,?_⟩,?_⟩,?_⟩,?_⟩,?_⟩,?_⟩,?_⟩,?_⟩,?_⟩,?_⟩,?_⟩,?_⟩,?_⟩,?_⟩,?_⟩,?_⟩,?_⟩,?_⟩,?_⟩,?_⟩,?_⟩,?_⟩
  all_goals first
    | with_reducible exact Tryz.laidOut
    | with_reducible exact Tryz.mapsRowed
    | with_reducible exact Tryz.stops0
    | with_reducible exact Tryz.knobs0
    | with_reducible exact Tryz.heardC
    | with_reducible exact Tryz.mayEnterC
    | with_reducible exact Tryz.wfN
    | with_reducible exact Tryz.inPlaceN
    | with_reducible exact Tryz.unfollowedN
    | with_reducible exact Tryz.recursesN
    | with_reducible exact Tryz.namedN
    | with_reducible exact Tryz.plainKeysN
    | with_reducible exact Tryz.liftedN
    | with_reducible exact Tryz.makeN
    | as_aux_lemma=>kernel_rfl
end Go.Proofs.YtmeiikjpaepogaaGreatDoor
