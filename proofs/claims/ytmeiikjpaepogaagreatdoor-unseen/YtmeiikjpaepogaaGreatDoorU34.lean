/- The program's options: Fold: makeRules. -/
import Derived.Test.YtmeiikjpaepogaaGreatDoorU32
import Derived.Test.YtmeiikjpaepogaaGreatDoorU28
import Derived.Laws.EntriesVeiled
import Derived.BigQuiet
set_option maxRecDepth 100000
set_option maxHeartbeats 64000000
namespace Go.Proofs.YtmeiikjpaepogaaGreatDoor
open Go Go.RowKit
def isV (b:Nat×Nat):Value:=.func (.func 228) #[] #[.pointer (some ⟨b.1,0,none⟩),.pointer (some ⟨b.2,0,none⟩)]
def isSpecs:List (List (Int×Int)×List Int):=[([(0,0),(16,0)],[]),([(0,0),(15,0)],[]),([(0,(-1)),(14,0)],[]),([(0,1),(12,0)],[]),([(0,1),(11,0)],[]),([(0,0),(10,0)],[]),([(0,0),(9,0)],[]),([(23,0),(19,0)],[19]),([(23,0),(16,0)],[16]),([(23,0),(15,0)],[15]),([(23,0),(14,0)],[14]),([(23,0),(11,0)],[11]),([(23,0),(9,0)],[9]),([(18,0),(10,0)],[9]),([(18,0),(9,0)],[10]),([(21,0),(23,0)],[21]),([(24,0),(22,0)],[]),([(21,0),(22,0)],[]),([(18,0),(18,0)],[]),([(17,0),(17,0)],[]),([(25,0),(25,0),(25,0)],[]),([(23,0),(23,0)],[])]
theorem is_pair (po so:Option Addr) (pc sc:Nat) (pat:List (Int×Int)) (short:List Int) (w:World) (hpat:OwnI 0 w (.slice po pat.length pc) pat) (hsh:IntsB w so short) :
    Calls Tryz.prog 201 #[.slice po pat.length pc,.slice so short.length sc] w fun e w'=>∃ b1 b2,e=.returned (.func (.func 228) #[] #[.pointer (some ⟨b1,0,none⟩),.pointer (some ⟨b2,0,none⟩)])∧IsAt w' (isV (b1,b2)) pat short∧Below w.heap.size w w':=by
  refine (is_at po so pc sc pat short w hpat hsh).mono ?_
  rintro e w' ⟨v,rfl,⟨b1,b2,po,pc,so,sc,rfl,h⟩,hb⟩
  exact⟨b1,b2,rfl,⟨b1,b2,po,pc,so,sc,rfl,h⟩,hb⟩
theorem makeRules_any (fb:Nat) (w:World) :
    Calls Tryz.prog 151 #[.pointer (some ⟨fb,0,none⟩)] w fun e w'=>∃ (rb:Nat) (bs:List (Nat×Nat)),e=.returned (.slice (some ⟨rb,0,none⟩) 25 25)∧Blk w' rb (#[.func (.func 198) #[.pointer (some ⟨fb,0,none⟩)] #[],.func (.func 199) #[.pointer (some ⟨fb,0,none⟩)] #[],.func (.func 200) #[] #[]]++(bs.reverse.map isV).toArray) 239∧IsList w' (bs.map isV) isSpecs∧Below w.heap.size w w':=by
  have HO2:Hid (∀ (W:World) (a b:Int),Calls Tryz.prog 202 #[.slice (some ⟨W.heap.size,0,none⟩) 2 2] (W.alloc (.cells #[.int .i64 a,.int .i64 b] 3)) fun e w'=>∃ ao c,e=.returned (.slice ao 2 c)∧OwnI 0 w' (.slice ao 2 c) [(a,0),(b,0)]∧Below W.heap.size W w'):=fun W a b=>by
    refine (ops_out (some ⟨W.heap.size,0,none⟩) 2 [a,b] _ (ints_new W _ [a,b] rfl _) (by simp)).mono ?_
    rintro e w' ⟨ao,c,rfl,ho,hb⟩
    exact⟨ao,c,rfl,ho.base (Nat.zero_le _),(below_box W _).trans (hb.mono (below_box W _).size)⟩
  have HO3:Hid (∀ (W:World) (a b d:Int),Calls Tryz.prog 202 #[.slice (some ⟨W.heap.size,0,none⟩) 3 3] (W.alloc (.cells #[.int .i64 a,.int .i64 b,.int .i64 d] 3)) fun e w'=>∃ ao c,e=.returned (.slice ao 3 c)∧OwnI 0 w' (.slice ao 3 c) [(a,0),(b,0),(d,0)]∧Below W.heap.size W w'):=fun W a b d=>by
    refine (ops_out (some ⟨W.heap.size,0,none⟩) 3 [a,b,d] _ (ints_new W _ [a,b,d] rfl _) (by simp)).mono ?_
    rintro e w' ⟨ao,c,rfl,ho,hb⟩
    exact⟨ao,c,rfl,ho.base (Nat.zero_le _),(below_box W _).trans (hb.mono (below_box W _).size)⟩
  have HL:Hid (∀ (W:World) (m a:Int),Calls Tryz.prog 203 #[.int .i64 m,.slice (some ⟨W.heap.size,0,none⟩) 1 1] (W.alloc (.cells #[.int .i64 a] 3)) fun e w'=>∃ ao c,e=.returned (.slice ao 2 c)∧OwnI 0 w' (.slice ao 2 c) [(0,m),(a,0)]∧Below W.heap.size W w'):=fun W m a=>by
    refine (litAnd_any m (some ⟨W.heap.size,0,none⟩) 1 [a] _ (ints_new W _ [a] rfl _) (by simp)).mono ?_
    rintro e w' ⟨ao,c,rfl,ho,hb⟩
    exact⟨ao,c,rfl,ho.base (Nat.zero_le _),(below_box W _).trans (hb.mono (below_box W _).size)⟩
  have HI0:Hid (∀ (W:World) (po:Option Addr) (pc n:Nat) (pat:List (Int×Int)),n=pat.length→OwnI 0 W (.slice po n pc) pat→Calls Tryz.prog 201 #[.slice po n pc,.slice none 0 0] W fun e w'=>∃ b1 b2,e=.returned (.func (.func 228) #[] #[.pointer (some ⟨b1,0,none⟩),.pointer (some ⟨b2,0,none⟩)])∧IsAt w' (isV (b1,b2)) pat []∧Below W.heap.size W w'):=fun W po pc n pat hn h=>by
    subst hn
    exact is_pair po none pc 0 pat [] W h (Or.inl rfl)
  have HI1:Hid (∀ (W:World) (po:Option Addr) (pc n:Nat) (pat:List (Int×Int)) (a:Int),n=pat.length→OwnI 0 W (.slice po n pc) pat→Calls Tryz.prog 201 #[.slice po n pc,.slice (some ⟨W.heap.size,0,none⟩) 1 1] (W.alloc (.cells #[.int .i64 a] 3)) fun e w'=>∃ b1 b2,e=.returned (.func (.func 228) #[] #[.pointer (some ⟨b1,0,none⟩),.pointer (some ⟨b2,0,none⟩)])∧IsAt w' (isV (b1,b2)) pat [a]∧Below W.heap.size W w'):=fun W po pc n pat a hn h=>by
    subst hn
    refine (is_pair po (some ⟨W.heap.size,0,none⟩) pc 1 pat [a] _ (h.below (below_box W _)) (Or.inr ⟨_,rfl,Blk.new W _ _⟩)).mono ?_
    rintro e w' ⟨b1,b2,rfl,h1,hb⟩
    exact⟨b1,b2,rfl,h1,(below_box W _).trans (hb.mono (below_box W _).size)⟩
  have HA:Hid (IsList w [] []):=IsList.nil w
  have HB:Hid (Below w.heap.size w w):=Below.refl _ _
  obtain⟨W0,hW0⟩:∃ W0:World,W0=w:=⟨_,rfl⟩
  have HW0:=V hW0
  go_enter Tryz.func151,Tryz.ntmps151
  clear hW0
  go_wp2_with fail
  refine (U HO2 w 23 23).mono ?_
  rintro e u0 ⟨a0,c0,rfl,hin,hb⟩
  have HIN:=V hin
  have HBU:=V hb
  clear hin hb
  go_wp2_with fail
  refine (U HI0 u0 a0 c0 2 [(23,0),(23,0)] rfl (U HIN)).mono ?_
  rintro e w0 ⟨p0,q0,rfl,his,hb⟩
  have HN:=V (IsList.cons (U HA) ((U HBU).trans (hb.mono (U HBU).size)) his)
  have HM:Hid (Below w.heap.size w w0):=(U HB).trans (((U HBU).trans (hb.mono (U HBU).size)).mono (U HB).size)
  clear HA HB HIN HBU his hb
  have HA:=HN
  have HB:=HM
  clear HN HM
  go_wp2_with fail
  refine (U HO3 w0 25 25 25).mono ?_
  rintro e u1 ⟨a1,c1,rfl,hin,hb⟩
  have HIN:=V hin
  have HBU:=V hb
  clear hin hb
  go_wp2_with fail
  refine (U HI0 u1 a1 c1 3 [(25,0),(25,0),(25,0)] rfl (U HIN)).mono ?_
  rintro e w1 ⟨p1,q1,rfl,his,hb⟩
  have HN:=V (IsList.cons (U HA) ((U HBU).trans (hb.mono (U HBU).size)) his)
  have HM:Hid (Below w.heap.size w w1):=(U HB).trans (((U HBU).trans (hb.mono (U HBU).size)).mono (U HB).size)
  clear HA HB HIN HBU his hb
  have HA:=HN
  have HB:=HM
  clear HN HM
  go_wp2_with fail
  refine (U HO2 w1 17 17).mono ?_
  rintro e u2 ⟨a2,c2,rfl,hin,hb⟩
  have HIN:=V hin
  have HBU:=V hb
  clear hin hb
  go_wp2_with fail
  refine (U HI0 u2 a2 c2 2 [(17,0),(17,0)] rfl (U HIN)).mono ?_
  rintro e w2 ⟨p2,q2,rfl,his,hb⟩
  have HN:=V (IsList.cons (U HA) ((U HBU).trans (hb.mono (U HBU).size)) his)
  have HM:Hid (Below w.heap.size w w2):=(U HB).trans (((U HBU).trans (hb.mono (U HBU).size)).mono (U HB).size)
  clear HA HB HIN HBU his hb
  have HA:=HN
  have HB:=HM
  clear HN HM
  go_wp2_with fail
  refine (U HO2 w2 18 18).mono ?_
  rintro e u3 ⟨a3,c3,rfl,hin,hb⟩
  have HIN:=V hin
  have HBU:=V hb
  clear hin hb
  go_wp2_with fail
  refine (U HI0 u3 a3 c3 2 [(18,0),(18,0)] rfl (U HIN)).mono ?_
  rintro e w3 ⟨p3,q3,rfl,his,hb⟩
  have HN:=V (IsList.cons (U HA) ((U HBU).trans (hb.mono (U HBU).size)) his)
  have HM:Hid (Below w.heap.size w w3):=(U HB).trans (((U HBU).trans (hb.mono (U HBU).size)).mono (U HB).size)
  clear HA HB HIN HBU his hb
  have HA:=HN
  have HB:=HM
  clear HN HM
  go_wp2_with fail
  refine (U HO2 w3 21 22).mono ?_
  rintro e u4 ⟨a4,c4,rfl,hin,hb⟩
  have HIN:=V hin
  have HBU:=V hb
  clear hin hb
  go_wp2_with fail
  refine (U HI0 u4 a4 c4 2 [(21,0),(22,0)] rfl (U HIN)).mono ?_
  rintro e w4 ⟨p4,q4,rfl,his,hb⟩
  have HN:=V (IsList.cons (U HA) ((U HBU).trans (hb.mono (U HBU).size)) his)
  have HM:Hid (Below w.heap.size w w4):=(U HB).trans (((U HBU).trans (hb.mono (U HBU).size)).mono (U HB).size)
  clear HA HB HIN HBU his hb
  have HA:=HN
  have HB:=HM
  clear HN HM
  go_wp2_with fail
  refine (U HO2 w4 24 22).mono ?_
  rintro e u5 ⟨a5,c5,rfl,hin,hb⟩
  have HIN:=V hin
  have HBU:=V hb
  clear hin hb
  go_wp2_with fail
  refine (U HI0 u5 a5 c5 2 [(24,0),(22,0)] rfl (U HIN)).mono ?_
  rintro e w5 ⟨p5,q5,rfl,his,hb⟩
  have HN:=V (IsList.cons (U HA) ((U HBU).trans (hb.mono (U HBU).size)) his)
  have HM:Hid (Below w.heap.size w w5):=(U HB).trans (((U HBU).trans (hb.mono (U HBU).size)).mono (U HB).size)
  clear HA HB HIN HBU his hb
  have HA:=HN
  have HB:=HM
  clear HN HM
  go_wp2_with fail
  refine (U HO2 w5 21 23).mono ?_
  rintro e u6 ⟨a6,c6,rfl,hin,hb⟩
  have HIN:=V hin
  have HBU:=V hb
  clear hin hb
  go_wp2_with fail
  refine (U HI1 u6 a6 c6 2 [(21,0),(23,0)] 21 rfl (U HIN)).mono ?_
  rintro e w6 ⟨p6,q6,rfl,his,hb⟩
  have HN:=V (IsList.cons (U HA) ((U HBU).trans (hb.mono (U HBU).size)) his)
  have HM:Hid (Below w.heap.size w w6):=(U HB).trans (((U HBU).trans (hb.mono (U HBU).size)).mono (U HB).size)
  clear HA HB HIN HBU his hb
  have HA:=HN
  have HB:=HM
  clear HN HM
  go_wp2_with fail
  refine (U HO2 w6 18 9).mono ?_
  rintro e u7 ⟨a7,c7,rfl,hin,hb⟩
  have HIN:=V hin
  have HBU:=V hb
  clear hin hb
  go_wp2_with fail
  refine (U HI1 u7 a7 c7 2 [(18,0),(9,0)] 10 rfl (U HIN)).mono ?_
  rintro e w7 ⟨p7,q7,rfl,his,hb⟩
  have HN:=V (IsList.cons (U HA) ((U HBU).trans (hb.mono (U HBU).size)) his)
  have HM:Hid (Below w.heap.size w w7):=(U HB).trans (((U HBU).trans (hb.mono (U HBU).size)).mono (U HB).size)
  clear HA HB HIN HBU his hb
  have HA:=HN
  have HB:=HM
  clear HN HM
  go_wp2_with fail
  refine (U HO2 w7 18 10).mono ?_
  rintro e u8 ⟨a8,c8,rfl,hin,hb⟩
  have HIN:=V hin
  have HBU:=V hb
  clear hin hb
  go_wp2_with fail
  refine (U HI1 u8 a8 c8 2 [(18,0),(10,0)] 9 rfl (U HIN)).mono ?_
  rintro e w8 ⟨p8,q8,rfl,his,hb⟩
  have HN:=V (IsList.cons (U HA) ((U HBU).trans (hb.mono (U HBU).size)) his)
  have HM:Hid (Below w.heap.size w w8):=(U HB).trans (((U HBU).trans (hb.mono (U HBU).size)).mono (U HB).size)
  clear HA HB HIN HBU his hb
  have HA:=HN
  have HB:=HM
  clear HN HM
  go_wp2_with fail
  refine (U HO2 w8 23 9).mono ?_
  rintro e u9 ⟨a9,c9,rfl,hin,hb⟩
  have HIN:=V hin
  have HBU:=V hb
  clear hin hb
  go_wp2_with fail
  refine (U HI1 u9 a9 c9 2 [(23,0),(9,0)] 9 rfl (U HIN)).mono ?_
  rintro e w9 ⟨p9,q9,rfl,his,hb⟩
  have HN:=V (IsList.cons (U HA) ((U HBU).trans (hb.mono (U HBU).size)) his)
  have HM:Hid (Below w.heap.size w w9):=(U HB).trans (((U HBU).trans (hb.mono (U HBU).size)).mono (U HB).size)
  clear HA HB HIN HBU his hb
  have HA:=HN
  have HB:=HM
  clear HN HM
  go_wp2_with fail
  refine (U HO2 w9 23 11).mono ?_
  rintro e u10 ⟨a10,c10,rfl,hin,hb⟩
  have HIN:=V hin
  have HBU:=V hb
  clear hin hb
  go_wp2_with fail
  refine (U HI1 u10 a10 c10 2 [(23,0),(11,0)] 11 rfl (U HIN)).mono ?_
  rintro e w10 ⟨p10,q10,rfl,his,hb⟩
  have HN:=V (IsList.cons (U HA) ((U HBU).trans (hb.mono (U HBU).size)) his)
  have HM:Hid (Below w.heap.size w w10):=(U HB).trans (((U HBU).trans (hb.mono (U HBU).size)).mono (U HB).size)
  clear HA HB HIN HBU his hb
  have HA:=HN
  have HB:=HM
  clear HN HM
  go_wp2_with fail
  refine (U HO2 w10 23 14).mono ?_
  rintro e u11 ⟨a11,c11,rfl,hin,hb⟩
  have HIN:=V hin
  have HBU:=V hb
  clear hin hb
  go_wp2_with fail
  refine (U HI1 u11 a11 c11 2 [(23,0),(14,0)] 14 rfl (U HIN)).mono ?_
  rintro e w11 ⟨p11,q11,rfl,his,hb⟩
  have HN:=V (IsList.cons (U HA) ((U HBU).trans (hb.mono (U HBU).size)) his)
  have HM:Hid (Below w.heap.size w w11):=(U HB).trans (((U HBU).trans (hb.mono (U HBU).size)).mono (U HB).size)
  clear HA HB HIN HBU his hb
  have HA:=HN
  have HB:=HM
  clear HN HM
  go_wp2_with fail
  refine (U HO2 w11 23 15).mono ?_
  rintro e u12 ⟨a12,c12,rfl,hin,hb⟩
  have HIN:=V hin
  have HBU:=V hb
  clear hin hb
  go_wp2_with fail
  refine (U HI1 u12 a12 c12 2 [(23,0),(15,0)] 15 rfl (U HIN)).mono ?_
  rintro e w12 ⟨p12,q12,rfl,his,hb⟩
  have HN:=V (IsList.cons (U HA) ((U HBU).trans (hb.mono (U HBU).size)) his)
  have HM:Hid (Below w.heap.size w w12):=(U HB).trans (((U HBU).trans (hb.mono (U HBU).size)).mono (U HB).size)
  clear HA HB HIN HBU his hb
  have HA:=HN
  have HB:=HM
  clear HN HM
  go_wp2_with fail
  refine (U HO2 w12 23 16).mono ?_
  rintro e u13 ⟨a13,c13,rfl,hin,hb⟩
  have HIN:=V hin
  have HBU:=V hb
  clear hin hb
  go_wp2_with fail
  refine (U HI1 u13 a13 c13 2 [(23,0),(16,0)] 16 rfl (U HIN)).mono ?_
  rintro e w13 ⟨p13,q13,rfl,his,hb⟩
  have HN:=V (IsList.cons (U HA) ((U HBU).trans (hb.mono (U HBU).size)) his)
  have HM:Hid (Below w.heap.size w w13):=(U HB).trans (((U HBU).trans (hb.mono (U HBU).size)).mono (U HB).size)
  clear HA HB HIN HBU his hb
  have HA:=HN
  have HB:=HM
  clear HN HM
  go_wp2_with fail
  refine (U HO2 w13 23 19).mono ?_
  rintro e u14 ⟨a14,c14,rfl,hin,hb⟩
  have HIN:=V hin
  have HBU:=V hb
  clear hin hb
  go_wp2_with fail
  refine (U HI1 u14 a14 c14 2 [(23,0),(19,0)] 19 rfl (U HIN)).mono ?_
  rintro e w14 ⟨p14,q14,rfl,his,hb⟩
  have HN:=V (IsList.cons (U HA) ((U HBU).trans (hb.mono (U HBU).size)) his)
  have HM:Hid (Below w.heap.size w w14):=(U HB).trans (((U HBU).trans (hb.mono (U HBU).size)).mono (U HB).size)
  clear HA HB HIN HBU his hb
  have HA:=HN
  have HB:=HM
  clear HN HM
  go_wp2_with fail
  refine (U HL w14 0 9).mono ?_
  rintro e u15 ⟨a15,c15,rfl,hin,hb⟩
  have HIN:=V hin
  have HBU:=V hb
  clear hin hb
  go_wp2_with fail
  refine (U HI0 u15 a15 c15 2 [(0,0),(9,0)] rfl (U HIN)).mono ?_
  rintro e w15 ⟨p15,q15,rfl,his,hb⟩
  have HN:=V (IsList.cons (U HA) ((U HBU).trans (hb.mono (U HBU).size)) his)
  have HM:Hid (Below w.heap.size w w15):=(U HB).trans (((U HBU).trans (hb.mono (U HBU).size)).mono (U HB).size)
  clear HA HB HIN HBU his hb
  have HA:=HN
  have HB:=HM
  clear HN HM
  go_wp2_with fail
  refine (U HL w15 0 10).mono ?_
  rintro e u16 ⟨a16,c16,rfl,hin,hb⟩
  have HIN:=V hin
  have HBU:=V hb
  clear hin hb
  go_wp2_with fail
  refine (U HI0 u16 a16 c16 2 [(0,0),(10,0)] rfl (U HIN)).mono ?_
  rintro e w16 ⟨p16,q16,rfl,his,hb⟩
  have HN:=V (IsList.cons (U HA) ((U HBU).trans (hb.mono (U HBU).size)) his)
  have HM:Hid (Below w.heap.size w w16):=(U HB).trans (((U HBU).trans (hb.mono (U HBU).size)).mono (U HB).size)
  clear HA HB HIN HBU his hb
  have HA:=HN
  have HB:=HM
  clear HN HM
  go_wp2_with fail
  refine (U HL w16 1 11).mono ?_
  rintro e u17 ⟨a17,c17,rfl,hin,hb⟩
  have HIN:=V hin
  have HBU:=V hb
  clear hin hb
  go_wp2_with fail
  refine (U HI0 u17 a17 c17 2 [(0,1),(11,0)] rfl (U HIN)).mono ?_
  rintro e w17 ⟨p17,q17,rfl,his,hb⟩
  have HN:=V (IsList.cons (U HA) ((U HBU).trans (hb.mono (U HBU).size)) his)
  have HM:Hid (Below w.heap.size w w17):=(U HB).trans (((U HBU).trans (hb.mono (U HBU).size)).mono (U HB).size)
  clear HA HB HIN HBU his hb
  have HA:=HN
  have HB:=HM
  clear HN HM
  go_wp2_with fail
  refine (U HL w17 1 12).mono ?_
  rintro e u18 ⟨a18,c18,rfl,hin,hb⟩
  have HIN:=V hin
  have HBU:=V hb
  clear hin hb
  go_wp2_with fail
  refine (U HI0 u18 a18 c18 2 [(0,1),(12,0)] rfl (U HIN)).mono ?_
  rintro e w18 ⟨p18,q18,rfl,his,hb⟩
  have HN:=V (IsList.cons (U HA) ((U HBU).trans (hb.mono (U HBU).size)) his)
  have HM:Hid (Below w.heap.size w w18):=(U HB).trans (((U HBU).trans (hb.mono (U HBU).size)).mono (U HB).size)
  clear HA HB HIN HBU his hb
  have HA:=HN
  have HB:=HM
  clear HN HM
  go_wp2_with fail
  refine (U HL w18 (-1) 14).mono ?_
  rintro e u19 ⟨a19,c19,rfl,hin,hb⟩
  have HIN:=V hin
  have HBU:=V hb
  clear hin hb
  go_wp2_with fail
  refine (U HI0 u19 a19 c19 2 [(0,(-1)),(14,0)] rfl (U HIN)).mono ?_
  rintro e w19 ⟨p19,q19,rfl,his,hb⟩
  have HN:=V (IsList.cons (U HA) ((U HBU).trans (hb.mono (U HBU).size)) his)
  have HM:Hid (Below w.heap.size w w19):=(U HB).trans (((U HBU).trans (hb.mono (U HBU).size)).mono (U HB).size)
  clear HA HB HIN HBU his hb
  have HA:=HN
  have HB:=HM
  clear HN HM
  go_wp2_with fail
  refine (U HL w19 0 15).mono ?_
  rintro e u20 ⟨a20,c20,rfl,hin,hb⟩
  have HIN:=V hin
  have HBU:=V hb
  clear hin hb
  go_wp2_with fail
  refine (U HI0 u20 a20 c20 2 [(0,0),(15,0)] rfl (U HIN)).mono ?_
  rintro e w20 ⟨p20,q20,rfl,his,hb⟩
  have HN:=V (IsList.cons (U HA) ((U HBU).trans (hb.mono (U HBU).size)) his)
  have HM:Hid (Below w.heap.size w w20):=(U HB).trans (((U HBU).trans (hb.mono (U HBU).size)).mono (U HB).size)
  clear HA HB HIN HBU his hb
  have HA:=HN
  have HB:=HM
  clear HN HM
  go_wp2_with fail
  refine (U HL w20 0 16).mono ?_
  rintro e u21 ⟨a21,c21,rfl,hin,hb⟩
  have HIN:=V hin
  have HBU:=V hb
  clear hin hb
  go_wp2_with fail
  refine (U HI0 u21 a21 c21 2 [(0,0),(16,0)] rfl (U HIN)).mono ?_
  rintro e w21 ⟨p21,q21,rfl,his,hb⟩
  have HN:=V (IsList.cons (U HA) ((U HBU).trans (hb.mono (U HBU).size)) his)
  have HM:Hid (Below w.heap.size w w21):=(U HB).trans (((U HBU).trans (hb.mono (U HBU).size)).mono (U HB).size)
  clear HA HB HIN HBU his hb
  have HA:=HN
  have HB:=HM
  clear HN HM
  go_wp2_with fail
  go_ret
  have hb:∀ cs:Array Value,Below w21.heap.size w21 (w21.alloc (.cells cs 239)):=fun cs=>below_box w21 _
  exact⟨w21.heap.size,[(p21,q21),(p20,q20),(p19,q19),(p18,q18),(p17,q17),(p16,q16),(p15,q15),(p14,q14),(p13,q13),(p12,q12),(p11,q11),(p10,q10),(p9,q9),(p8,q8),(p7,q7),(p6,q6),(p5,q5),(p4,q4),(p3,q3),(p2,q2),(p1,q1),(p0,q0)],rfl,Blk.new w21 _ _,⟨(U HA).1,fun j v s hv hs=>((U HA).2 j v s hv hs).below (hb _)⟩,(U HB).trans ((hb _).mono (U HB).size)⟩
def ChainedOk : Prop := ∀ (fb tb : Nat) (rv : Value) (ao : Option Addr) (c : Nat) (row : List (Int × Int)) (w : World), FoldAt w fb tb rv → Lib.TabIs Tryz.prog w "internal/strconv.uint64pow10" .u64 Lib.pow10Tab → InL w ao row → row.length ≤ 1000 → (∀ x ∈ row, inI x.2) →
    Calls Tryz.prog 199 #[.pointer (some ⟨fb,0,none⟩),.slice ao row.length c] w fun e w'=>RuleOut w.heap.size w' (chainedS row) e∧Below w.heap.size w w'
def ruleArr (fb:Nat) (bs:List (Nat×Nat)):Array Value:=#[.func (.func 198) #[.pointer (some ⟨fb,0,none⟩)] #[],.func (.func 199) #[.pointer (some ⟨fb,0,none⟩)] #[],.func (.func 200) #[] #[]]++(bs.reverse.map isV).toArray
structure FolderX (w:World) (fb tb rb:Nat) (bs:List (Nat×Nat)):Prop where
  fold:Blk w fb #[.pointer (some ⟨tb,0,none⟩),.slice (some ⟨rb,0,none⟩) 25 25] 203
  tab:TabAt w tb
  rules:Blk w rb (ruleArr fb bs) 239
  list:IsList w (bs.map isV) isSpecs
theorem TabAt.far {w:World} {tb:Nat} (h:TabAt w tb) {b:Nat} {zs:Array Value} (hb:Blk w b zs 73) (i:Nat) (v:Value):TabAt (w.setCell ⟨b,i,none⟩ v) tb:=by
  obtain⟨cs,h1,h2,h3⟩:=h
  exact⟨cs,h1.far (a:=⟨b,i,none⟩) (blk_apart h1 hb (by decide)) _,h2.keep (KeepT.prog hb i v),fun op a c=>(h3 op a c).keep (KeepT.prog hb i v)⟩
theorem FolderX.below {w w':World} {fb tb rb:Nat} {bs:List (Nat×Nat)} (h:FolderX w fb tb rb bs) (hb:Below w.heap.size w w'):FolderX w' fb tb rb bs :=
  ⟨h.fold.below hb h.fold.lt,h.tab.below hb,h.rules.below hb h.rules.lt,h.list.1,fun j v s hv hs=>(h.list.2 j v s hv hs).below hb⟩
theorem FolderX.far {w:World} {fb tb rb:Nat} {bs:List (Nat×Nat)} (h:FolderX w fb tb rb bs) {b:Nat} {zs:Array Value} (hb:Blk w b zs 73) (i:Nat) (v:Value):FolderX (w.setCell ⟨b,i,none⟩ v) fb tb rb bs :=
  ⟨h.fold.far (a:=⟨b,i,none⟩) (blk_apart h.fold hb (by decide)) _,h.tab.far hb i v,h.rules.far (a:=⟨b,i,none⟩) (blk_apart h.rules hb (by decide)) _,h.list.1,fun j u s hv hs=>(h.list.2 j u s hv hs).far hb (by decide) (by decide) (by decide) (by decide) i v⟩
theorem ruleArr_low (fb:Nat) (bs:List (Nat×Nat)) (j:Nat) (hj:j<3):(ruleArr fb bs)[j]? = #[Value.func (.func 198) #[.pointer (some ⟨fb,0,none⟩)] #[],.func (.func 199) #[.pointer (some ⟨fb,0,none⟩)] #[],.func (.func 200) #[] #[]][j]?:=by
  unfold ruleArr
  rw[Array.getElem?_append_left (by simpa using hj)]
theorem fn_reckoned : ∃ fn : Func, Tryz.prog.funcs[198]? = some fn ∧ (fn.name == "runtime.NumGoroutine") = false ∧ fn.body.isNone = false := ⟨_, Tryz.func198, by kernel_rfl, by kernel_rfl⟩
theorem fn_chained : ∃ fn : Func, Tryz.prog.funcs[199]? = some fn ∧ (fn.name == "runtime.NumGoroutine") = false ∧ fn.body.isNone = false := ⟨_, Tryz.func199, by kernel_rfl, by kernel_rfl⟩
theorem fn_decided : ∃ fn : Func, Tryz.prog.funcs[200]? = some fn ∧ (fn.name == "runtime.NumGoroutine") = false ∧ fn.body.isNone = false := ⟨_, Tryz.func200, by kernel_rfl, by kernel_rfl⟩
theorem rulesS_split:rulesS=[reckonedS,chainedS,decidedS]++isSpecs.reverse.map (fun s=>isS s.1 s.2):=rfl
theorem isSpecs_small:∀ s∈isSpecs,s.1.length≤1000∧s.2.length≤1000:=by decide
theorem FolderX.isAt (hch : ChainedOk) {w : World} {fb tb rb : Nat} {bs : List (Nat × Nat)} (h : FolderX w fb tb rb bs) (ht : Lib.TabIs Tryz.prog w "internal/strconv.uint64pow10" .u64 Lib.pow10Tab) : FolderAt w fb tb rb := by
  have hf:FoldAt w fb tb (.slice (some ⟨rb,0,none⟩) 25 25):=⟨h.fold,h.tab⟩
  have hc:=h.rules.cell
  refine⟨hf,h.rules.lt,fun j r hr=>?_⟩
  rw[hc]
  match j,hr with
  | 0, hr =>
    rw[rulesS_split]at hr
    simp at hr
    subst hr
    exact⟨_,ruleArr_low fb bs 0 (by omega),_,_,_,rfl,fn_reckoned,fun w' hw' ao c row hin hp hl hi=>reckoned_any fb tb _ ao c row w' (hf.below hw') (Lib.tabBelow_of_tabIs ht w' hw') hin hp hl hi⟩
  | 1, hr =>
    rw[rulesS_split]at hr
    simp at hr
    subst hr
    exact⟨_,ruleArr_low fb bs 1 (by omega),_,_,_,rfl,fn_chained,fun w' hw' ao c row hin _ hl hi=>hch fb tb _ ao c row w' (hf.below hw') (Lib.tabBelow_of_tabIs ht w' hw') hin hl hi⟩
  | 2, hr =>
    rw[rulesS_split]at hr
    simp at hr
    subst hr
    exact⟨_,ruleArr_low fb bs 2 (by omega),_,_,_,rfl,fn_decided,fun w' hw' ao c row hin _ hl _=>decided_any ao c row w' hin (by omega)⟩
  | j + 3, hr =>
    rw[rulesS_split,List.getElem?_append_right (by simp)]at hr
    simp only[List.length_cons,List.length_nil,Nat.zero_add,Nat.reduceAdd,Nat.add_sub_cancel,List.getElem?_map]at hr
    obtain⟨s,hs,rfl⟩:=Option.map_eq_some_iff.1 hr
    have hl:bs.length=isSpecs.length:=by have:=h.list.1;rwa [List.length_map]at this
    have hj:=(List.getElem?_eq_some_iff.1 hs).1
    rw[List.length_reverse]at hj
    rw[List.getElem?_reverse hj]at hs
    obtain⟨b,hb⟩:∃ b,bs[isSpecs.length-1-j]? = some b:=⟨_,List.getElem?_eq_getElem (by omega)⟩
    refine⟨isV b,?_,(h.list.2 (isSpecs.length-1-j) (isV b) s (by rw[List.getElem?_map,hb];rfl) hs).rule (isSpecs_small s (List.mem_of_getElem? hs))⟩
    unfold ruleArr
    rw[Array.getElem?_append_right (by simp)]
    simp only[List.getElem?_toArray,List.getElem?_map,List.size_toArray,List.length_cons,List.length_nil,Nat.zero_add,Nat.reduceAdd,Nat.add_sub_cancel]
    rw[List.getElem?_reverse (by omega),hl,hb]
    rfl
theorem newFolder_any (w:World):Calls Tryz.prog 80 #[] w fun e w'=>∃ fb tb rb bs,e=.returned (.pointer (some ⟨fb,0,none⟩))∧FolderX w' fb tb rb bs∧Below w.heap.size w w':=by
  have HT:=V (newTable_any w)
  go_enter Tryz.func80,Tryz.ntmps80
  go_wp2_with fail
  refine (U HT).mono ?_
  rintro e w1 ⟨tb,rfl,htab,hb1⟩
  have HTAB:=V htab
  have HB1:=V hb1
  have HM:=V (makeRules_any w1.heap.size (w1.alloc (.cells #[.pointer (some ⟨tb,0,none⟩),.slice none 0 0] 203)))
  have HF:=V (Blk.new w1 #[.pointer (some ⟨tb,0,none⟩),.slice none 0 0] 203)
  have HBX:=V (below_box w1 (.cells #[.pointer (some ⟨tb,0,none⟩),.slice none 0 0] 203))
  clear htab hb1 HT
  go_wp2_with fail
  refine (U HM).mono ?_
  rintro e w2 ⟨rb,bs,rfl,hru,hli,hb2⟩
  have hf2:=Blk.below (U HF) hb2 (U HF).lt
  have HF2:=V hf2
  have hcf:=hf2.cell
  have hff:=hf2.free
  have hlf:=hf2.lt
  have HRU:=V hru
  have HLI:=V hli
  have HB2:Hid (Below w1.heap.size w1 w2):=(U HBX).trans (hb2.mono (U HBX).size)
  clear hru hli hb2 hf2 HM
  go_wp2_with fail
  go_ret
  have hset:=(U HF2).set 1 (.slice (some ⟨rb,0,none⟩) 25 25)
  simp only[List.setIfInBounds_toArray,List.set_cons_succ,List.set_cons_zero]at hset
  have hb3:Below w1.heap.size w1 (w2.setCell ⟨w1.heap.size,1,none⟩ (.slice (some ⟨rb,0,none⟩) 25 25)):=(U HB2).setCell (Nat.le_refl _) _
  exact⟨w1.heap.size,tb,rb,bs,rfl,⟨hset,(U HTAB).below hb3,(U HRU).far (a:=⟨w1.heap.size,1,none⟩) (blk_apart (U HRU) (U HF2) (by decide)) _,(U HLI).1,fun j v s hv hs=>((U HLI).2 j v s hv hs).far (U HF2) (by decide) (by decide) (by decide) (by decide) 1 _⟩,(U HB1).trans (hb3.mono (U HB1).size)⟩
theorem instrCells_split (row:List (Int×Int)) (n:Nat):instrCells row=instrCells (row.take n)++instrCells (row.drop n):=by
  rw[← instr_app,List.take_append_drop]
theorem InL.take {w:World} {ao:Option Addr} {row:List (Int×Int)} (h:InL w ao row) (n:Nat):InL w ao (row.take n):=by
  rcases h with h|⟨g,off,h1,h2,h3⟩
  · exact Or.inl (by rw[h];simp)
  · refine Or.inr ⟨g,off,h1,h2,fun j u hj=>h3 j u ?_⟩
    rw[instrCells_split row n,List.getElem?_append_left (List.getElem?_eq_some_iff.1 hj).1]
    exact hj
theorem InL.drop {w:World} {g off:Nat} {row:List (Int×Int)} (h:InL w (some ⟨g,off,none⟩) row) (n:Nat):InL w (some ⟨g,off+n * 2,none⟩) (row.drop n):=by
  by_cases hn:n≤row.length
  · rcases h with h|⟨g',off',h1,h2,h3⟩
    · exact Or.inl (by rw[h];simp)
    · simp only[Option.some.injEq,Addr.mk.injEq,and_true]at h1
      obtain⟨rfl,rfl⟩:=h1
      refine Or.inr ⟨g,off+n * 2,rfl,h2,fun j u hj=>?_⟩
      have:=h3 (n * 2+j) u (by
        rw[instrCells_split row n,List.getElem?_append_right (by rw[instrCells_length,List.length_take];omega)]
        rw[instrCells_length,List.length_take,show n * 2+j-min n row.length * 2=j by omega]
        exact hj)
      rw[Nat.add_assoc]
      exact this
  · exact Or.inl (List.drop_eq_nil_iff.2 (by omega))
def ShortOut (B:Nat) (w':World) (r:Option (List (Int×Int)×Nat)) (e:Ending):Prop:=match r with
  | none=>e=.returned (.tuple #[.slice none 0 0,.int .i64 0])
  | some (s,n)=>∃ a c,e=.returned (.tuple #[.slice a s.length c,.int .i64 n])∧OwnI B w' (.slice a s.length c) s
theorem shorter_any (fb tb rb:Nat) (ao no:Option Addr) (c nc:Nat) (row next:List (Int×Int)) (w:World) (hf:FolderAt w fb tb rb) (hin:InL w ao row) (hcap:row.length≤c) (hnx:InL w no next) (hn:row.length≤100000) (hxl:next.length≤10) (hok:∀ x∈row,baseOk x) (hxo:∀ x∈next,baseOk x) :
    Calls Tryz.prog 230 #[.pointer (some ⟨fb,0,none⟩),.slice ao row.length c,.slice no next.length nc] w fun e w'=>ShortOut w.heap.size w' (shorterS row next) e∧Below w.heap.size w w':=by
  have hnI:(row.length:Int)≤100000:=by omega
  have hcapI:(row.length:Int)≤c:=by omega
  generalize hres:shorterS row next=res
  have HRES:=V hres
  have HF:=V hf
  have HIN:=V hin
  have HNX:=V hnx
  have HOK:=V hok
  have HXO:=V hxo
  clear hres hf hin hnx hok hxo
  go_enter Tryz.func230,Tryz.ntmps230
  go_wp2_with fail
  go_loopw [8] (fun v wr=>∃ s:Nat,v=.int .i64 s∧2≤s∧s≤7∧(∀ n,2≤n→n<s→n≤min 6 row.length→shortAt row next n=none)∧Below w.heap.size w wr) (fun v _=>7-(intOf v).toNat)
  case atStart=>exact⟨2,rfl,by omega,by omega,fun n h1 h2=>by omega,Below.refl _ _⟩
  case round =>
    obtain⟨s,rfl,h2,h7,hnone,hbw⟩:=hrel
    have HNONE:=V hnone
    have HBW:=V hbw
    obtain⟨w0,hw0⟩:∃ w0:World,w0=wr:=⟨_,rfl⟩
    rw[hw0.symm]at hbw HBW ⊢
    clear hw0
    by_cases hle:s≤min 6 row.length
    · obtain⟨x,hx⟩:∃ x,row[0]? = some x:=⟨_,List.getElem?_eq_getElem (by omega)⟩
      obtain⟨g,off,rfl,_,_,_⟩:=in_at (U HIN) hx
      have hleI:(s:Int)≤min 6 (row.length:Int):=by omega
      have hf0:=(U HF).below hbw
      have hcf:=hf0.1.1.cell
      have hlf:=hf0.1.1.lt
      obtain⟨q,hq⟩:∃ q,q=row.length-s:=⟨_,rfl⟩
      have hsub:IntKind.i64.wrap ((row.length:Int)-s)=(q:Int):=by rw[IntKind.wrap_i64];omega
      have hqc:(q:Int)≤c:=by omega
      have hql:(q:Int)≤row.length:=by omega
      have haddr:(if c=q then (some ⟨g,off,none⟩:Option Addr) else some ⟨g,off+q * 2,none⟩)=some ⟨g,off+q * 2,none⟩:=if_neg (by omega)
      have hsz:row.length-q=s:=by omega
      clear hbw hx hnone hf0
      have HQ:=V hq
      go_wp2_with fail
      go_quiet (fail)
      go_wp2_with fail
      obtain⟨w2,hw2⟩:∃ w2:World,w2=w0.drewN nq:=⟨_,rfl⟩
      rw[hw2.symm]
      have HB2:Hid (Below w.heap.size w w2):=by rw[hw2];exact below_drawn (U HBW) nq
      have hdl:(row.drop (row.length-s)).length=s:=by rw[List.length_drop];omega
      have htl:(row.take (row.length-s)).length=row.length-s:=by rw[List.length_take];omega
      have hrs:row.length-(row.length-s)=s:=by omega
      rw[hrs]
      clear hcf hlf hw2
      go_loopw [39] (fun i wr=>∃ k:Nat,i=.int .i64 k∧k≤25∧(∀ j r,j<k→rulesS[j]? = some r→ruleAt row next s r=none)∧Below w.heap.size w wr) (fun i _=>25-(intOf i).toNat)
      case atStart=>exact⟨0,rfl,by omega,fun j r hj=>by omega,U HB2⟩
      case round =>
        obtain⟨k,rfl,hk,hall,hbw⟩:=hrel
        have HALL:=V hall
        have HBK:=V hbw
        by_cases hlt:k<25
        · obtain⟨r,hr⟩:∃ r,rulesS[k]? = some r:=⟨_,List.getElem?_eq_getElem (by show k<25;exact hlt)⟩
          have hfo:=(U HF).below hbw
          obtain⟨v,hv,F,bound,cap,rfl,⟨fn,hfn,hfa,hfb⟩,hrule⟩:=hfo.2.2 k r hr
          have hrl:=hfo.2.1
          have hltI:(k:Int)<25:=by omega
          have hinr:=((U HIN).below hbw)
          have hio:=(hinr.drop (row.length-s))
          have hia:=hinr.take (row.length-s)
          have hbo:∀ x∈row.drop (row.length-s),baseOk x:=fun x hx=>U HOK x (List.mem_of_mem_drop hx)
          have hba:∀ x∈row.take (row.length-s),baseOk x:=fun x hx=>U HOK x (List.mem_of_mem_take hx)
          have HRULE:=V (hrule wr (Below.refl _ _) (some ⟨g,off+(row.length-s) * 2,none⟩) (c-(row.length-s)) (row.drop (row.length-s)) hio (by omega) (by omega) (fun x hx=>(hbo x hx).2))
          rw[hdl]at HRULE
          have HCF:Hid (∀ (args:Array Value) (W:World),(callFunc F args).run Tryz.prog W=.ok (.enter F args) W):=enter_func hfn hfa hfb
          have HRA:Hid (ruleAt row next s r=match r (row.drop (row.length-s)) with|some s'=>if failsS (knownS (row.take (row.length-s))) (row.drop (row.length-s)) s' next=true then some s' else none|none=>none):=rfl
          have HRM:=V (List.mem_of_getElem? hr)
          have HRR:=V hr
          have HIO:=V hio
          have HIA:=V hia
          have HBO:=V hbo
          have HBA:=V hba
          have HSHORT:=V (fun s' (h:r (row.drop (row.length-s))=some s')=>rule_short (List.mem_of_getElem? hr) h)
          have HSOK:=V (fun s' (h:r (row.drop (row.length-s))=some s')=>rule_ok (List.mem_of_getElem? hr) (fun x hx=>(hbo x hx).2) h)
          clear hall hbw hfo hrule hfn hfa hfb hinr hio hia hbo hba hr
          generalize hro:r (row.drop (row.length-s))=ro at *
          rw[← Array.push_eq_append]at HRULE
          go_wp2_with fail
          rw[U HCF]
          refine (U HRULE).mono ?_
          rintro e w3 ⟨hout,hb3⟩
          have HB3:Hid (Below w.heap.size w w3):=(U HBK).trans (hb3.mono (U HBK).size)
          cases ro with
          | none =>
            have hout:e=.returned (.tuple #[.slice none 0 0,.bool false]):=hout
            subst hout
            clear hb3 HRULE
            go_wp2_with fail
            go_roundw
            case rel =>
              refine⟨k+1,by go_num,by omega,fun j r' hj hr'=>?_,U HB3⟩
              by_cases e:j=k
              · subst e
                rw[U HRR]at hr'
                obtain rfl:=Option.some.inj hr'
                exact U HRA
              · exact U HALL j r' (by omega) hr'
            case measure=>simp[intOf];omega
          | some sh =>
            obtain⟨v',rfl,hs⟩:∃ v,e=.returned (.tuple #[v,.bool true])∧w3.ownsRow wr.heap.size 65 2 v sh.length (instrCells sh):=hout
            obtain⟨a',c',rfl⟩:=own_shape hs
            have hsl:=U HSHORT sh rfl
            have hso:=U HSOK sh rfl
            rw[hdl]at hsl
            have hfo3:=((U HF).below (U HB3)).1
            have HKB:=V (knownBehind_any fb tb _ (some ⟨g,off,none⟩) c (row.take (row.length-s)) w3 hfo3 ((U HIA).below hb3) (by omega) (fun x hx=>(U HBA x hx).1))
            rw[htl]at HKB
            have hks:=knownTo_small (row.take (row.length-s)) (fun x hx=>(U HBA x hx).1) (row.take (row.length-s)).length
            have HFA:Hid (∀ W,Below w3.heap.size w3 W→Calls Tryz.prog 239 #[.pointer (some ⟨fb,0,none⟩),.agg #[.int .i64 (knownS (row.take (row.length-s))).1,.int .i64 (knownS (row.take (row.length-s))).2],.slice (some ⟨g,off+(row.length-s) * 2,none⟩) s (c-(row.length-s)),.slice a' sh.length c',.slice no next.length nc] W fun e w'=>e=.returned (.bool (failsS (knownS (row.take (row.length-s))) (row.drop (row.length-s)) sh next))∧Below W.heap.size W w'):=fun W hW=>by
              have:=failsAlike_any fb tb _ (knownS (row.take (row.length-s))).1 (knownS (row.take (row.length-s))).2 (some ⟨g,off+(row.length-s) * 2,none⟩) a' no (c-(row.length-s)) c' nc (row.drop (row.length-s)) sh next W (hfo3.below hW) (((U HIO).below hb3).below hW) ((OwnI.isIn hs).1.below hW) (((U HNX).below (U HB3)).below hW) (by omega) (by
                unfold knownS
                rw[htl]at hks ⊢
                omega) (fun x hx=>(U HBO x hx).1) (fun x hx=>(hso x hx).1) (fun x hx=>(U HXO x hx).1)
              rw[hdl]at this
              exact this
            have HOS:=V hs
            generalize hkn:knownS (row.take (row.length-s))=kn at *
            generalize hfs:failsS kn (row.drop (row.length-s)) sh next=fs at *
            clear hb3 HRULE hs hsl hso hfo3 hks
            go_wp2_with fail
            refine (U HKB).mono ?_
            rintro e w4 ⟨rfl,hb4⟩
            have HB4:=V hb4
            clear hb4 HKB
            go_wp2_with fail
            refine (U HFA w4 (U HB4)).mono ?_
            rintro e w5 ⟨rfl,hb5⟩
            have HB35:Hid (Below w3.heap.size w3 w5):=(U HB4).trans (hb5.mono (U HB4).size)
            have HB5:Hid (Below w.heap.size w w5):=(U HB3).trans ((U HB35).mono (U HB3).size)
            clear hb5 HFA HB4
            cases fs with
            | true =>
              have hhit:ruleAt row next s r=some sh:=by rw[U HRA];simp[hfs]
              have hsa:shortAt row next s=some sh:=find_hit (U HRR) hhit (fun i z hi hz=>U HALL i z hi hz)
              have hsr:=shorter_hit h2 hle hsa (fun n h1 h2=>U HNONE n h1 h2 (by omega))
              rw[U HRES]at hsr
              have HSR:=V hsr
              clear hhit hsa hsr
              go_wp2_with fail
              go_ret2
              rw[U HSR]
              exact⟨⟨a',c',rfl,OwnI.base (OwnI.below (U HOS) (U HB35)) (U HBK).size⟩,U HB5⟩
            | false =>
              go_wp2_with fail
              go_roundw
              case rel =>
                refine⟨k+1,by go_num,by omega,fun j r' hj hr'=>?_,U HB5⟩
                by_cases e:j=k
                · subst e
                  rw[U HRR]at hr'
                  obtain rfl:=Option.some.inj hr'
                  rw[U HRA]
                  simp[hfs]
                · exact U HALL j r' (by omega) hr'
              case measure=>simp[intOf];omega
        · have hk25:k=25:=by omega
          subst hk25
          have HSN:Hid (shortAt row next s=none):=find_none (fun i z hz=>hall i z (by
            have:=(List.getElem?_eq_some_iff.1 hz).1
            exact this) hz)
          clear hall hbw
          go_wp2_with fail
          go_roundw
          case rel =>
            refine⟨s+1,by go_num,by omega,by omega,fun n h1 h3 h4=>?_,U HBK⟩
            by_cases e:n=s
            · subst e;exact U HSN
            · exact U HNONE n h1 (by omega) h4
          case measure=>simp[intOf];omega
    · have hleI:¬ ((s:Int)≤min 6 (row.length:Int)):=by omega
      have hno:=shorter_none (row:=row) (next:=next) (fun n h1 h2=>hnone n h1 (by omega) h2)
      rw[U HRES]at hno
      subst hno
      clear hbw hnone
      go_wp2_with fail
      go_ret2
      exact⟨rfl,U HBW⟩
end Go.Proofs.YtmeiikjpaepogaaGreatDoor
