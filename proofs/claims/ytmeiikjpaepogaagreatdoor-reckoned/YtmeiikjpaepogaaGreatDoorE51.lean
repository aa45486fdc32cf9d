/- The statements without the reference: Reckoned. -/
import Derived.Test.YtmeiikjpaepogaaGreatDoorE44
import Derived.Test.YtmeiikjpaepogaaGreatDoorE07
import Derived.Test.YtmeiikjpaepogaaGreatDoorE06
import Derived.Test.YtmeiikjpaepogaaGreatDoorE05
import Derived.Test.YtmeiikjpaepogaaGreatDoorE19
import Derived.Test.YtmeiikjpaepogaaGreatDoorE40
import Derived.Test.YtmeiikjpaepogaaGreatDoorE23
import Derived.Test.YtmeiikjpaepogaaGreatDoorE50
import Derived.Test.YtmeiikjpaepogaaGreatDoorE25
set_option maxRecDepth 100000
set_option maxHeartbeats 32000000
namespace Go.Proofs.YtmeiikjpaepogaaGreatDoor
open Go Go.RowKit
theorem inI_wrap (n:Int):inI (wrap64 n):=by unfold inI wrap64;omega
theorem toInt_in (v:BitVec 64):inI v.toInt:=by
  have:=v.isLt
  rw[BitVec.toInt_eq_toNat_cond]
  unfold inI
  split<;>omega
theorem putsT_any (hch:ChainedOk) {w:World} (henv:Env3 w) {ts:List Tok} (hw:ts.all okW=true) (hin:∀ t∈ts,∀ k,t=.num k→inI k) (hl:ts.length≤70) {l:List (Int×Int)} {ce:Nat} (hce:ce≤1000) (hl2:l.length<2000) {e':ES} {ds:List Int}
    (hA:(readT 40 ts (startS ⟨#[]⟩)).err=0∧(readT 40 ts (startS ⟨#[]⟩)).start=-1∧(readT 40 ts (startS ⟨#[]⟩)).opens=[]∧(readT 40 ts (startS ⟨#[]⟩)).c0=[]∧(readT 40 ts (startS ⟨#[]⟩)).cells=ce∧fullS (readT 40 ts (startS ⟨#[]⟩))=l++[(5,0)])
    (he:evR l ⟨[],[],List.replicate ce 0,[]⟩=some (e',ds)) (hd:∀ d∈ds,d≠0) (s want:ByteArray) (W:World) (hW:Below w.heap.size w W) (h1:s.data.toList=textT ts) (h2:want.data.toList=e'.outs.flatMap (fun n=>digitsS n++[32])) :
    Calls Tryz.prog 28 #[.string s,.string want] W fun e w'=>e=.returned (.bool true)∧Below W.heap.size W w':=by
  have ht:=text_is h1 hw hin hl
  obtain⟨r1,r2⟩:=text_row ht (full_pr s ht.size) 40 hce hl2 hA he hd
  rw[outB_eq h2]at r2
  exact puts_any hch s want W (henv.below hW) ht.size r1 r2
theorem digB_len (n:Int):(⟨(digitsS n).toArray⟩:ByteArray).size≤26:=by
  have h1:(⟨(digitsS n).toArray⟩:ByteArray).size=(digitsS n).length:=by simp[ByteArray.size]
  have:=digs_le n
  omega
theorem truB_size (b:Bool):(⟨(digitsS (truthS b)++[32]).toArray⟩:ByteArray).size≤60:=by cases b<;>decide +kernel
theorem reckonedK_any (hch:ChainedOk) (a b:Int) (w:World) (henv:Env3 w) (ha:inI a) (hb:inI b) :
    Calls Tryz.prog 11 #[.int .i64 a,.int .i64 b] w fun e w'=>e=.returned (.bool true)∧Below w.heap.size w w':=by
  have HD:Hid (∀ (n:Int) (W:World),inI n→Calls Tryz.prog 27 #[.int .i64 n] W fun e w'=>e=.returned (.string ⟨(digitsS n).toArray⟩)∧Below W.heap.size W w'):=fun n W hn=>digitsK_any n W hn
  have HT:=V truthK_any
  have HP1:=V (putsT_any hch henv (ts:=tOne a b) (l:=lOne a b) (ce:=0) rfl (ints2 ha hb (by simp[tOne])) (by simp[tOne]) (by omega) (by simp[lOne]) (aOne a b) (eOne a b) (by simp))
  have HP2:=V (putsT_any hch henv (ts:=tTwo a b) (l:=lTwo a b) (ce:=0) rfl (ints2 ha hb (by simp[tTwo])) (by simp[tTwo]) (by omega) (by simp[lTwo]) (aTwo a b) (eTwo a b) (by simp))
  have HP3:=V (putsT_any hch henv (ts:=tThree a b) (l:=lThree a b) (ce:=0) rfl (ints2 ha hb (by simp[tThree])) (by simp[tThree]) (by omega) (by simp[lThree]) (aThree a b) (eThree a b) (by simp))
  have HP4:=V (putsT_any hch henv (ts:=tFour a b) (l:=lFour a b) (ce:=0) rfl (ints2 ha hb (by simp[tFour])) (by simp[tFour]) (by omega) (by simp[lFour]) (aFour a b) (eFour a b) (by simp))
  have HP5:=V (fun h0:b≠0=>putsT_any hch henv (ts:=tFive a b) (l:=lFive a b) (ce:=1) rfl (ints2 ha hb (by simp[tFive])) (by simp[tFive]) (by omega) (by simp[lFive]) (aFive a b) (eFive a b) (by simp;exact h0))
  have HFL:Hid (b≠0→∀ W:World,Calls Tryz.prog 30 #[.int .i64 a,.int .i64 b] W fun e w'=>e=.returned (.tuple #[.int .i64 (divS a b),.int .i64 (modS a b)])∧w'=W):=fun h0 W=>floorK_any a b W h0 ha hb
  have HDV:Hid (b≠0→inI (divS a b)∧inI (modS a b)):=fun h0=>⟨two_in 12 a b (fun _=>h0) (by simp) ha hb,two_in 13 a b (fun _=>h0) (by simp) ha hb⟩
  have HIA:=V ha
  have HIB:=V hb
  have HIV:Hid (wrap64 (-1-a)=-1-a):=by
    have h:=ha
    unfold inI at h
    show wrap64 (-1-a)=-1-a
    unfold wrap64
    omega
  have HCZ:Hid (b=0→∀ (s:ByteArray) (W:World),Below w.heap.size w W→s.data.toList=textT (tZero a 0)→Calls Tryz.prog 18 #[.string s,.agg #[.bool true,.bool false,.bool true]] W fun e w'=>∃ (c:Nat) (q:PrS),e=.returned (.tuple #[.pointer (some ⟨c,0,none⟩),.int .i64 0,.int .i64 0])∧CodeR3 w' c q.1 q.2 ((0:Nat):Int)∧(CodeOk q.1∧q.2<q.1.length)∧obsOf (runM q.1 100 0 (startM 0 1000 1000 1000 1000 q.2 ((0:Nat):Int)))=(13,[],[],outB [7])∧Below W.heap.size W w'):=fun h0 s W hW hs=>by
    have he:=henv.below hW
    have ht:TextIs s (tZero a 0):=text_is hs rfl (ints2 ha hb (by simp[tZero,h0])) (by simp[tZero])
    have hpr:=full_pr s ht.size
    obtain⟨r1,r2,r3⟩:=text_zero ht hpr
    refine (fcompileO_yes hch s true false true W ht.size he.1 he.2.1 he.2.2 r1).mono ?_
    rintro e w' ⟨c,rfl,hc,hbl⟩
    rw[r2]at hc
    exact⟨c,_,rfl,hc,withP_code hpr,r3,hbl⟩
  have HTA:=V (Lib.tabBelow_of_tabIs henv.2.2)
  have HWI:=V wide_any
  have sx:=digB_size a
  have sy:=digB_size b
  have sT:((⟨(digitsS a).toArray⟩:ByteArray)++(⟨#[32]⟩:ByteArray)++(⟨(digitsS b).toArray⟩:ByteArray)++(⟨#[32]⟩:ByteArray)).size≤60:=by
    have h1:=digB_len a
    have h2:=digB_len b
    simp only[ByteArray.size_append]
    have h3:(⟨#[32]⟩:ByteArray).size=1:=rfl
    omega
  clear henv ha hb hch
  obtain⟨u0,u1,u2⟩:=chain4 (A0:=(⟨(digitsS a).toArray⟩:ByteArray)) (A1:=(⟨#[32]⟩:ByteArray)) (A2:=(⟨(digitsS b).toArray⟩:ByteArray)) (A3:=(⟨#[32]⟩:ByteArray)) sx (by decide) sy (by decide)
  obtain⟨v0,v1,v2,v3,v4⟩:=chain6 (A0:=((⟨(digitsS a).toArray⟩:ByteArray)++(⟨#[32]⟩:ByteArray)++(⟨(digitsS b).toArray⟩:ByteArray)++(⟨#[32]⟩:ByteArray))) (A1:=(⟨#[43,32,46,32]⟩:ByteArray)) (A2:=((⟨(digitsS a).toArray⟩:ByteArray)++(⟨#[32]⟩:ByteArray)++(⟨(digitsS b).toArray⟩:ByteArray)++(⟨#[32]⟩:ByteArray))) (A3:=(⟨#[45,32,46,32]⟩:ByteArray)) (A4:=((⟨(digitsS a).toArray⟩:ByteArray)++(⟨#[32]⟩:ByteArray)++(⟨(digitsS b).toArray⟩:ByteArray)++(⟨#[32]⟩:ByteArray))) (A5:=(⟨#[42,32,46]⟩:ByteArray)) sT (by decide) sT (by decide) sT (by decide)
  obtain⟨p0,p1,p2,p3,p4⟩:=chain6 (A0:=(⟨(digitsS (wrap64 (a+b))).toArray⟩:ByteArray)) (A1:=(⟨#[32]⟩:ByteArray)) (A2:=(⟨(digitsS (wrap64 (a-b))).toArray⟩:ByteArray)) (A3:=(⟨#[32]⟩:ByteArray)) (A4:=(⟨(digitsS (wrap64 (a * b))).toArray⟩:ByteArray)) (A5:=(⟨#[32]⟩:ByteArray)) (digB_size _) (by decide) (digB_size _) (by decide) (digB_size _) (by decide)
  go_enter Tryz.func11,Tryz.ntmps11
  go_wp2_with fail
  refine (U HD _ _ (U HIA)).mono ?_
  rintro e w1 ⟨rfl,hb1⟩
  have HB1:=V hb1
  clear hb1
  go_wp2_with fail
  refine (U HD _ _ (U HIB)).mono ?_
  rintro e w2 ⟨rfl,hb2⟩
  have HB2:Hid (Below w.heap.size w w2):=(U HB1).trans (hb2.mono (U HB1).size)
  clear hb2
  go_wp2_with fail
  refine (U HD _ _ (inI_wrap _)).mono ?_
  rintro e w3 ⟨rfl,hb3⟩
  have HB3:Hid (Below w.heap.size w w3):=(U HB2).trans (hb3.mono (U HB2).size)
  clear hb3
  go_wp2_with fail
  refine (U HD _ _ (inI_wrap _)).mono ?_
  rintro e w4 ⟨rfl,hb4⟩
  have HB4:Hid (Below w.heap.size w w4):=(U HB3).trans (hb4.mono (U HB3).size)
  clear hb4
  go_wp2_with fail
  refine (U HD _ _ (inI_wrap _)).mono ?_
  rintro e w5 ⟨rfl,hb5⟩
  have HB5:Hid (Below w.heap.size w w5):=(U HB4).trans (hb5.mono (U HB4).size)
  clear hb5
  go_wp2_with fail
  refine (U HP1 _ _ _ (U HB5) (by simp[textT,restT,Tok.bytes,tOne]) (by simp[twoS])).mono ?_
  rintro e w6 ⟨rfl,hb6⟩
  have HB6:Hid (Below w.heap.size w w6):=(U HB5).trans (hb6.mono (U HB5).size)
  clear hb6 HP1
  clear u0 u1 u2 v0 v1 v2 v3 v4 p0 p1 p2 p3 p4
  obtain⟨v0,v1,v2,v3,v4,v5,v6,v7,v8⟩:=chain10 (A0:=((⟨(digitsS a).toArray⟩:ByteArray)++(⟨#[32]⟩:ByteArray)++(⟨(digitsS b).toArray⟩:ByteArray)++(⟨#[32]⟩:ByteArray))) (A1:=(⟨#[97,110,100,32,46,32]⟩:ByteArray)) (A2:=((⟨(digitsS a).toArray⟩:ByteArray)++(⟨#[32]⟩:ByteArray)++(⟨(digitsS b).toArray⟩:ByteArray)++(⟨#[32]⟩:ByteArray))) (A3:=(⟨#[111,114,32,46,32]⟩:ByteArray)) (A4:=((⟨(digitsS a).toArray⟩:ByteArray)++(⟨#[32]⟩:ByteArray)++(⟨(digitsS b).toArray⟩:ByteArray)++(⟨#[32]⟩:ByteArray))) (A5:=(⟨#[120,111,114,32,46,32]⟩:ByteArray)) (A6:=(⟨(digitsS a).toArray⟩:ByteArray)) (A7:=(⟨#[32,105,110,118,101,114,116,32,46,32]⟩:ByteArray)) (A8:=(⟨(digitsS a).toArray⟩:ByteArray)) (A9:=(⟨#[32,110,101,103,97,116,101,32,46]⟩:ByteArray)) sT (by decide) sT (by decide) sT (by decide) sx (by decide) sx (by decide)
  obtain⟨p0,p1,p2,p3,p4,p5,p6,p7,p8⟩:=chain10 (A0:=(⟨(digitsS (bits .and .i64 a b)).toArray⟩:ByteArray)) (A1:=(⟨#[32]⟩:ByteArray)) (A2:=(⟨(digitsS (bits .or .i64 a b)).toArray⟩:ByteArray)) (A3:=(⟨#[32]⟩:ByteArray)) (A4:=(⟨(digitsS (bits .xor .i64 a b)).toArray⟩:ByteArray)) (A5:=(⟨#[32]⟩:ByteArray)) (A6:=(⟨(digitsS (wrap64 (-1-a))).toArray⟩:ByteArray)) (A7:=(⟨#[32]⟩:ByteArray)) (A8:=(⟨(digitsS (wrap64 (-a))).toArray⟩:ByteArray)) (A9:=(⟨#[32]⟩:ByteArray)) (digB_size _) (by decide) (digB_size _) (by decide) (digB_size _) (by decide) (digB_size _) (by decide) (digB_size _) (by decide)
  go_wp2_with fail
  refine (U HD _ _ (by rw[and_eq];exact toInt_in _)).mono ?_
  rintro e w7 ⟨rfl,hb7⟩
  have HB7:Hid (Below w.heap.size w w7):=(U HB6).trans (hb7.mono (U HB6).size)
  clear hb7
  go_wp2_with fail
  refine (U HD _ _ (by rw[or_eq];exact toInt_in _)).mono ?_
  rintro e w8 ⟨rfl,hb8⟩
  have HB8:Hid (Below w.heap.size w w8):=(U HB7).trans (hb8.mono (U HB7).size)
  clear hb8
  go_wp2_with fail
  refine (U HD _ _ (by rw[xor_eq];exact toInt_in _)).mono ?_
  rintro e w9 ⟨rfl,hb9⟩
  have HB9:Hid (Below w.heap.size w w9):=(U HB8).trans (hb9.mono (U HB8).size)
  clear hb9
  go_wp2_with fail
  refine (U HD _ _ (inI_wrap _)).mono ?_
  rintro e w10 ⟨rfl,hb10⟩
  have HB10:Hid (Below w.heap.size w w10):=(U HB9).trans (hb10.mono (U HB9).size)
  clear hb10
  go_wp2_with fail
  refine (U HD _ _ (inI_wrap _)).mono ?_
  rintro e w11 ⟨rfl,hb11⟩
  have HB11:Hid (Below w.heap.size w w11):=(U HB10).trans (hb11.mono (U HB10).size)
  clear hb11
  go_wp2_with fail
  refine (U HP2 _ _ _ (U HB11) (by simp[textT,restT,Tok.bytes,tTwo]) (by rw[U HIV];simp[twoS])).mono ?_
  rintro e w12 ⟨rfl,hb12⟩
  have HB12:Hid (Below w.heap.size w w12):=(U HB11).trans (hb12.mono (U HB11).size)
  clear hb12 HP2
  clear v0 v1 v2 v3 v4 v5 v6 v7 v8 p0 p1 p2 p3 p4 p5 p6 p7 p8
  obtain⟨v0,v1,v2,v3,v4⟩:=chain6 (A0:=((⟨(digitsS a).toArray⟩:ByteArray)++(⟨#[32]⟩:ByteArray)++(⟨(digitsS b).toArray⟩:ByteArray)++(⟨#[32]⟩:ByteArray))) (A1:=(⟨#[61,32,46,32]⟩:ByteArray)) (A2:=((⟨(digitsS a).toArray⟩:ByteArray)++(⟨#[32]⟩:ByteArray)++(⟨(digitsS b).toArray⟩:ByteArray)++(⟨#[32]⟩:ByteArray))) (A3:=(⟨#[60,32,46,32]⟩:ByteArray)) (A4:=((⟨(digitsS a).toArray⟩:ByteArray)++(⟨#[32]⟩:ByteArray)++(⟨(digitsS b).toArray⟩:ByteArray)++(⟨#[32]⟩:ByteArray))) (A5:=(⟨#[115,119,97,112,32,60,32,46]⟩:ByteArray)) sT (by decide) sT (by decide) sT (by decide)
  obtain⟨p0,p1⟩:=chain3 (A0:=(⟨(digitsS (truthS (a == b))++[32]).toArray⟩:ByteArray)) (A1:=(⟨(digitsS (truthS (decide (a<b)))++[32]).toArray⟩:ByteArray)) (A2:=(⟨(digitsS (truthS (decide (b<a)))++[32]).toArray⟩:ByteArray)) (truB_size _) (truB_size _) (truB_size _)
  go_wp2_with fail
  refine (U HT _ _).mono ?_
  rintro e w13 ⟨rfl,hb13⟩
  subst hb13
  have HB13:=HB12
  go_wp2_with fail
  refine (U HT _ _).mono ?_
  rintro e w14 ⟨rfl,hb14⟩
  subst hb14
  have HB14:=HB13
  go_wp2_with fail
  refine (U HT _ _).mono ?_
  rintro e w15 ⟨rfl,hb15⟩
  subst hb15
  have HB15:=HB14
  go_wp2_with fail
  refine (U HP3 _ _ _ (U HB15) (by simp[textT,restT,Tok.bytes,tThree]) (by simp[twoS])).mono ?_
  rintro e w16 ⟨rfl,hb16⟩
  have HB16:Hid (Below w.heap.size w w16):=(U HB15).trans (hb16.mono (U HB15).size)
  clear hb16 HP3
  clear v0 v1 v2 v3 v4 p0 p1
  obtain⟨v0,v1,v2,v3⟩:=chain5 (A0:=((⟨(digitsS a).toArray⟩:ByteArray)++(⟨#[32]⟩:ByteArray)++(⟨(digitsS b).toArray⟩:ByteArray)++(⟨#[32]⟩:ByteArray))) (A1:=(⟨#[111,118,101,114,32,111,118,101,114,32,46,32,46,32,115,119,97,112,32,46,32,46,32]⟩:ByteArray)) (A2:=((⟨(digitsS a).toArray⟩:ByteArray)++(⟨#[32]⟩:ByteArray)++(⟨(digitsS b).toArray⟩:ByteArray)++(⟨#[32]⟩:ByteArray))) (A3:=(⟨(digitsS a).toArray⟩:ByteArray)) (A4:=(⟨#[32,114,111,116,32,46,32,46,32,46]⟩:ByteArray)) sT (by decide) sT sx (by decide)
  obtain⟨p0,p1,p2,p3,p4,p5,p6,p7,p8,p9,p10,p11,p12⟩:=chain14 (A0:=(⟨(digitsS b).toArray⟩:ByteArray)) (A1:=(⟨#[32]⟩:ByteArray)) (A2:=(⟨(digitsS a).toArray⟩:ByteArray)) (A3:=(⟨#[32]⟩:ByteArray)) (A4:=(⟨(digitsS a).toArray⟩:ByteArray)) (A5:=(⟨#[32]⟩:ByteArray)) (A6:=(⟨(digitsS b).toArray⟩:ByteArray)) (A7:=(⟨#[32]⟩:ByteArray)) (A8:=(⟨(digitsS a).toArray⟩:ByteArray)) (A9:=(⟨#[32]⟩:ByteArray)) (A10:=(⟨(digitsS a).toArray⟩:ByteArray)) (A11:=(⟨#[32]⟩:ByteArray)) (A12:=(⟨(digitsS b).toArray⟩:ByteArray)) (A13:=(⟨#[32]⟩:ByteArray)) sy (by decide) sx (by decide) sx (by decide) sy (by decide) sx (by decide) sx (by decide) sy (by decide)
  go_wp2_with fail
  refine (U HP4 _ _ _ (U HB16) (by simp[textT,restT,Tok.bytes,tFour]) (by simp)).mono ?_
  rintro e w17 ⟨rfl,hb17⟩
  have HB17:Hid (Below w.heap.size w w17):=(U HB16).trans (hb17.mono (U HB16).size)
  clear hb17 HP4
  clear v0 v1 v2 v3 p0 p1 p2 p3 p4 p5 p6 p7 p8 p9 p10 p11 p12
  by_cases h0:b=0
  · subst h0
    obtain⟨v0,v1⟩:=chain3 (A0:=(⟨#[55,32,46,32]⟩:ByteArray)) (A1:=((⟨(digitsS a).toArray⟩:ByteArray)++(⟨#[32]⟩:ByteArray)++(⟨(digitsS 0).toArray⟩:ByteArray)++(⟨#[32]⟩:ByteArray))) (A2:=(⟨#[47]⟩:ByteArray)) (by decide) sT (by decide)
    go_wp2_with fail
    refine (U HCZ (by simp) _ _ (U HB17) (by simp[textT,restT,Tok.bytes,tZero])).mono ?_
    rintro e w18 ⟨c,q,rfl,hc,hok,hobs,hb18⟩
    have HB18:Hid (Below w.heap.size w w18):=(U HB17).trans (hb18.mono (U HB17).size)
    have HC:=V hc
    have HOK:=V hok
    have HOB:=V hobs
    clear hb18 hc hok hobs
    go_wp2_with fail
    refine (U HWI _).mono ?_
    rintro e w19 ⟨rfl,hb19⟩
    have HB19:Hid (Below w.heap.size w w19):=(U HB18).trans (hb19.mono (U HB18).size)
    have HRU:=V (run3_any w19 c 0 q.1 q.2 ((0:Nat):Int) 1000 1000 1000 1000 100 ((U HC).law (LawStill.ofBelow hb19)) (U HTA w19 (U HB19)) (U HOK).1 (by have:=(U HOK).2;omega) (by omega) (by omega))
    clear hb19
    go_wp2_with fail
    refine (U HRU).mono ?_
    rintro e wz ⟨er,vS,vC,out,st,rfl,hres⟩
    have lim:limsOk 1000 1000 1000 1000:=by unfold limsOk limOk;omega
    have hob:=U HOB
    unfold obsOf at hob
    simp only[Prod.mk.injEq]at hob
    have her:er=13:=(hres.yes lim).1.trans hob.1
    have hout:out=outB [7]:=(hres.yes lim).2.1.trans hob.2.2.2
    have h7:outB [7]=⟨#[55,32]⟩:=by decide +kernel
    rw[h7]at hout
    subst her hout
    have HBZ:Hid (Below w.heap.size w wz):=(U HB19).trans (hres.below.mono (U HB19).size)
    obtain⟨rfl,rfl⟩:=hres.bad (by decide)
    unfold outV
    clear hres HRU lim hob h7
    have HBX:Hid (Below w.heap.size w (wz.alloc (.cells #[.int .i64 13,.slice none 0 0,.slice none 0 0,.string ⟨#[55,32]⟩,.int .i64 st] 44))):=(U HBZ).trans ((below_box wz _).mono (U HBZ).size)
    go_wp2_with fail
    go_ret
    exact⟨rfl,U HBX⟩
  · obtain⟨v0,v1,v2,v3,v4,v5,v6⟩:=chain8 (A0:=((⟨(digitsS a).toArray⟩:ByteArray)++(⟨#[32]⟩:ByteArray)++(⟨(digitsS b).toArray⟩:ByteArray)++(⟨#[32]⟩:ByteArray))) (A1:=(⟨#[47,32,46,32]⟩:ByteArray)) (A2:=((⟨(digitsS a).toArray⟩:ByteArray)++(⟨#[32]⟩:ByteArray)++(⟨(digitsS b).toArray⟩:ByteArray)++(⟨#[32]⟩:ByteArray))) (A3:=(⟨#[109,111,100,32,46,32,118,97,114,105,97,98,108,101,32,118,32]⟩:ByteArray)) (A4:=(⟨(digitsS a).toArray⟩:ByteArray)) (A5:=(⟨#[32,118,32,33,32,118,32,64,32]⟩:ByteArray)) (A6:=(⟨(digitsS b).toArray⟩:ByteArray)) (A7:=(⟨#[32,47,32,118,32,33,32,118,32,64,32,46]⟩:ByteArray)) sT (by decide) sT (by decide) sx (by decide) sy (by decide)
    obtain⟨p0,p1,p2,p3,p4⟩:=chain6 (A0:=(⟨(digitsS (divS a b)).toArray⟩:ByteArray)) (A1:=(⟨#[32]⟩:ByteArray)) (A2:=(⟨(digitsS (modS a b)).toArray⟩:ByteArray)) (A3:=(⟨#[32]⟩:ByteArray)) (A4:=(⟨(digitsS (divS a b)).toArray⟩:ByteArray)) (A5:=(⟨#[32]⟩:ByteArray)) (digB_size _) (by decide) (digB_size _) (by decide) (digB_size _) (by decide)
    have g0:(b != 0)=true:=by rw[bne_iff_ne];exact h0
    go_wp2_with fail
    refine (U HFL h0 _).mono ?_
    rintro e w18 ⟨rfl,hb18⟩
    subst hb18
    have HB18:=HB17
    go_wp2_with fail
    refine (U HD _ _ (U HDV h0).1).mono ?_
    rintro e w19 ⟨rfl,hb19⟩
    have HB19:Hid (Below w.heap.size w w19):=(U HB18).trans (hb19.mono (U HB18).size)
    clear hb19
    go_wp2_with fail
    refine (U HD _ _ (U HDV h0).2).mono ?_
    rintro e w20 ⟨rfl,hb20⟩
    have HB20:Hid (Below w.heap.size w w20):=(U HB19).trans (hb20.mono (U HB19).size)
    clear hb20
    go_wp2_with fail
    refine (U HD _ _ (U HDV h0).1).mono ?_
    rintro e w21 ⟨rfl,hb21⟩
    have HB21:Hid (Below w.heap.size w w21):=(U HB20).trans (hb21.mono (U HB20).size)
    clear hb21
    go_wp2_with fail
    refine (U HP5 h0 _ _ _ (U HB21) (by simp[textT,restT,Tok.bytes,tFive]) (by simp[twoS])).mono ?_
    rintro e w22 ⟨rfl,hb22⟩
    have HB22:Hid (Below w.heap.size w w22):=(U HB21).trans (hb22.mono (U HB21).size)
    clear hb22 HP5
    go_wp2_with fail
    go_ret
    exact⟨rfl,U HB22⟩
end Go.Proofs.YtmeiikjpaepogaaGreatDoor
namespace Go.Proofs.YtmeiikjpaepogaaGreatDoor
open Go Go.RowKit Go.ChangeShapes Go.WideShapes Go.ChangeAt Go.Deep
section
variable {H:Type} {enc:TypeId×Value→H} {w:World} {base:Nat} {spare:Nat→Bool} {held:Bool} {v:Value} {d:DataW H} {p:List MemPlace} {r:Reach} {b:Nat}
theorem open_int64 (hv:Value.okWide Tryz.prog w r b 2 v) (h:DataW.Trod enc Tryz.prog w base spare held 2 v d p):∃ n,v=.int .i64 n∧inI n:=by
  obtain⟨n,rfl⟩:=okWide_int Tryz.underlying2 hv
  obtain⟨fuel,h⟩:=h
  obtain⟨n',g,_,hw⟩:=DataW.trod_int Tryz.underlying2 h
  simp only[Value.cells,List.cons.injEq,Value.int.injEq,and_true,true_and]at g
  subst g
  exact⟨_,rfl,inI_lit hw⟩
end
end Go.Proofs.YtmeiikjpaepogaaGreatDoor
