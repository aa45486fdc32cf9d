/- The program's options: Fold: chained. -/
import Derived.Test.YtmeiikjpaepogaaGreatDoorE31
import Derived.Deep.RegionHeldLaw
import Derived.Test.YtmeiikjpaepogaaGreatDoorE27
import Derived.Laws.EntriesVeiled
set_option maxRecDepth 100000
set_option maxHeartbeats 64000000
namespace Go.Proofs.YtmeiikjpaepogaaGreatDoor
open Go Go.RowKit
theorem four_of {row:List (Int×Int)} (h:row.length=4):∃ a b c d,row=[a,b,c,d]:=by
  match row,h with
  | [a,b,c,d],_=>exact⟨a,b,c,d,rfl⟩
theorem chained_not {row:List (Int×Int)} (h:row.length≠4):chainedS row=none:=by
  unfold chainedS
  split
  · exact absurd rfl h
  · rfl
theorem Tryz.name227 : (Tryz.f227.name == "runtime.NumGoroutine") = false := by kernel_rfl
theorem Tryz.body227:Tryz.f227.body.isNone=false:=by kernel_rfl
theorem Tryz.name226 : (Tryz.f226.name == "runtime.NumGoroutine") = false := by kernel_rfl
theorem Tryz.body226:Tryz.f226.body.isNone=false:=by kernel_rfl
theorem Tryz.name202 : (Tryz.f202.name == "runtime.NumGoroutine") = false := by kernel_rfl
theorem Tryz.body202:Tryz.f202.body.isNone=false:=by kernel_rfl
theorem Tryz.name225 : (Tryz.f225.name == "runtime.NumGoroutine") = false := by kernel_rfl
theorem Tryz.body225:Tryz.f225.body.isNone=false:=by kernel_rfl
theorem Tryz.name198 : (Tryz.f198.name == "runtime.NumGoroutine") = false := by kernel_rfl
theorem Tryz.body198:Tryz.f198.body.isNone=false:=by kernel_rfl
theorem step_callE {P:Program} {ops:Array Oper} {o:Oper} {a:Act} {w:World} {K:Act→World→Prop} {Q:Exit→Act→World→Prop} {E:Prop} (hgd:o.guard=none) (f:FuncId) (args:Array Operand) (tys:Array TypeId)
    (ho : o.op = .call { callee := .value (.func f), args := args, argTypes := tys }) {fn : Func} (hf : P.funcs[f]? = some fn) (hn : (fn.name == "runtime.NumGoroutine") = false) (hb : fn.body.isNone = false) (vals : Array Value) (hvals : args.map a.eval = vals) {R : Ending → World → Prop} (d : Tmp) (hd : o.dst = some d) (hc : Calls P f vals w R)
    (h:∀ e w',R e w'→∃ v,e=.returned v∧K (a.put (some d) v) w') :
    if Region.wanted o (yielded ops a.tmps)=true then Oper.wp P o a w K Q else E:=by
  rw[← hd]at h
  exact step_call hgd f args tys ho hf hn hb vals hvals hc h
def TupIs (B:Nat) (r:Option (List (Int×Int))) (s9 s8:Value) (w':World):Prop:=match r with
  | none=>s9=.slice none 0 0∧s8=.bool false
  | some l=>∃ a c,s9=.slice a l.length c∧s8=.bool true∧OwnI B w' (.slice a l.length c) l
theorem TupIs.base {B B':Nat} {r:Option (List (Int×Int))} {s9 s8:Value} {w':World} (h:TupIs B r s9 s8 w') (hb:B'≤B):TupIs B' r s9 s8 w':=by
  cases r with
  | none=>exact h
  | some l =>
    obtain⟨a,c,h1,h2,h3⟩:=h
    exact⟨a,c,h1,h2,h3.base hb⟩
theorem RuleOut.tup {B:Nat} {w':World} {r:Option (List (Int×Int))} {e:Ending} (h:RuleOut B w' r e):∃ a n c b,e=.returned (.tuple #[.slice a n c,.bool b])∧TupIs B r (.slice a n c) (.bool b) w':=by
  cases r with
  | none=>exact⟨none,0,0,false,h,rfl,rfl⟩
  | some l =>
    obtain⟨v,rfl,hv⟩:∃ v,e=.returned (.tuple #[v,.bool true])∧w'.ownsRow B 65 2 v l.length (instrCells l):=h
    obtain⟨a,c,rfl⟩:=own_shape hv
    exact⟨a,l.length,c,true,rfl,a,c,rfl,rfl,hv⟩
@[irreducible] def rkF (a2 c2 j:Int):Option (List (Int×Int)):=reckonedS [(0,a2),(0,c2),(j,0)]
theorem rkF_eq (a2 c2 j:Int):rkF a2 c2 j=reckonedS [(0,a2),(0,c2),(j,0)]:=by unfold rkF;rfl
def chainF (a1 c1 a2 c2:Int) (lk:Option (Int×Int)):Option (List (Int×Int)):=if a1=0∧c1=0 then (match lk with
  | some q=>(rkF a2 c2 q.1).map (fun s=>s++[(q.2,0)])
  | none=>none) else none
theorem chainF_eq (a1 a2 b1 b2 c1 c2 d1 d2:Int):chainedS [(a1,a2),(b1,b2),(c1,c2),(d1,d2)]=chainF a1 c1 a2 c2 (linkS b1 d1):=by
  unfold chainedS chainF
  simp only
  split
  · cases linkS b1 d1 with
    | none=>rfl
    | some q=>simp only;rw[rkF_eq]
  · rfl
def ChCut (W:World) (r:Option (List (Int×Int))) (s9 s8:Value) (wc:World):Prop:=TupIs W.heap.size r s9 s8 wc∧Below W.heap.size W wc
abbrev ChS (g off:Nat) (a2 c2:Int) (w':World):Prop:=w'.cell? ⟨g,off+1,none⟩=some (.int .i64 a2)∧w'.cell? ⟨g,off+4+1,none⟩=some (.int .i64 c2)∧g<w'.heap.size
theorem ChS.below {g off:Nat} {a2 c2:Int} {V V':World} (h:ChS g off a2 c2 V) (hb:Below V.heap.size V V'):ChS g off a2 c2 V':=by
  obtain⟨h1,h2,h3⟩:=h
  exact⟨by rw[hb.cell (by simpa using h3)];exact h1,by rw[hb.cell (by simpa using h3)];exact h2,by have:=hb.size;omega⟩
theorem two_ints {V:World} {q:Nat} {a c:Int} {T:TypeId} (h:Blk V q #[.int .i64 a,.int .i64 c] T):IntsL V (some ⟨q,0,none⟩) [a,c]:=by
  refine Or.inr ⟨q,rfl,h.lt,fun i p hp=>?_⟩
  rw[h.cell]
  match i,hp with
  | 0,hp=>simpa using hp
  | 1,hp=>simpa using hp
  | i+2,hp=>simp at hp
theorem one_int {V:World} {q:Nat} {a:Int} {T:TypeId} (h:Blk V q #[.int .i64 a] T):IntsL V (some ⟨q,0,none⟩) [a]:=by
  refine Or.inr ⟨q,rfl,h.lt,fun i p hp=>?_⟩
  rw[h.cell]
  match i,hp with
  | 0,hp=>simpa using hp
  | i+1,hp=>simp at hp
theorem lits_blk (a2 c2:Int) (V:World) (q:Nat) (h:Blk V q #[.int .i64 a2,.int .i64 c2] 2):Calls Tryz.prog 226 #[.slice (some ⟨q,0,none⟩) 2 2] V (RowOut V [(0,a2),(0,c2)]):=lits_out (some ⟨q,0,none⟩) 2 [a2,c2] V (two_ints h) (by simp)
theorem ops_blk (j:Int) (V:World) (q:Nat) (h:Blk V q #[.int .i64 j] 3):Calls Tryz.prog 202 #[.slice (some ⟨q,0,none⟩) 1 1] V (RowOut V [(j,0)]):=ops_out (some ⟨q,0,none⟩) 1 [j] V (one_int h) (by simp)
theorem concat_two (a2 c2 j:Int) (V:World) (r1 r2:Option Addr) (e1 e2:Nat) (h1:InL V r1 [(0,a2),(0,c2)]) (h2:InL V r2 [(j,0)]):Calls Tryz.prog 225 #[.slice (some ⟨V.heap.size,0,none⟩) 2 2] (V.alloc (.cells #[.slice r1 2 e1,.slice r2 1 e2] 33)) fun e w'=>∃ a c,e=.returned (.slice a 3 c)∧InL w' a [(0,a2),(0,c2),(j,0)]∧Below V.heap.size V w':=by
  have:=concat_any V.heap.size 2 [(r1,e1,[(0,a2),(0,c2)]),(r2,e2,[(j,0)])] _ (rows_two V r1 r2 e1 e2 [(0,a2),(0,c2)] [(j,0)] h1 h2 33) (by simp) (by simp[catS])
  refine this.mono ?_
  rintro e w' ⟨a,c,rfl,ho,hb⟩
  exact⟨a,c,rfl,ho.isIn.1,(below_box V _).trans (hb.mono (below_box V _).size)⟩
theorem reck_three (fb tb : Nat) (rv : Value) (a2 c2 j : Int) (rk : Option (List (Int × Int))) (hrk : rkF a2 c2 j = rk) (V : World) (a : Option Addr) (c : Nat) (hf : FoldAt V fb tb rv) (ht : Lib.TabIs Tryz.prog V "internal/strconv.uint64pow10" .u64 Lib.pow10Tab) (hin : InL V a [(0, a2), (0, c2), (j, 0)]) (hai : inI a2) (hci : inI c2) : Calls Tryz.prog 198 #[.pointer (some ⟨fb, 0, none⟩), .slice a 3 c] V fun e w' => RuleOut V.heap.size w' rk e ∧ Below V.heap.size V w' := by
  rw[← hrk,rkF_eq]
  generalize hl:[(0,a2),(0,c2),(j,0)]=row at *
  have h3:row.length=3:=by rw[← hl];rfl
  have:=reckoned_any fb tb rv a c row V hf ht hin (by omega) (by omega) (fun x hx=>by
    rw[← hl]at hx
    simp at hx
    rcases hx with rfl|rfl|rfl
    · exact hai
    · exact hci
    · exact inI_zero)
  rw[h3]at this
  exact this
theorem chained_any (fb tb : Nat) (rv : Value) (ao : Option Addr) (c : Nat) (row : List (Int × Int)) (w : World) (hf : FoldAt w fb tb rv) (ht : Lib.TabIs Tryz.prog w "internal/strconv.uint64pow10" .u64 Lib.pow10Tab) (hin : InL w ao row) (hn : row.length ≤ 1000) (hi : ∀ x ∈ row, inI x.2) :
    Calls Tryz.prog 199 #[.pointer (some ⟨fb,0,none⟩),.slice ao row.length c] w fun e w'=>RuleOut w.heap.size w' (chainedS row) e∧Below w.heap.size w w':=by
  have hnI:(row.length:Int)≤1000:=by omega
  by_cases h4:row.length=4
  · obtain⟨⟨a1,a2⟩,⟨b1,b2⟩,⟨c1,c2⟩,⟨d1,d2⟩,rfl⟩:=four_of h4
    obtain⟨g,off,rfl,hgl,k1,k2⟩:=in_at hin (k:=0) (x:=(a1,a2)) rfl
    obtain⟨g',off',e',_,k3,k4⟩:=in_at hin (k:=1) (x:=(b1,b2)) rfl
    simp only[Option.some.injEq,Addr.mk.injEq,and_true]at e'
    obtain⟨rfl,rfl⟩:=e'
    obtain⟨g',off',e',_,k5,k6⟩:=in_at hin (k:=2) (x:=(c1,c2)) rfl
    simp only[Option.some.injEq,Addr.mk.injEq,and_true]at e'
    obtain⟨rfl,rfl⟩:=e'
    obtain⟨g',off',e',_,k7,k8⟩:=in_at hin (k:=3) (x:=(d1,d2)) rfl
    simp only[Option.some.injEq,Addr.mk.injEq,and_true]at e'
    obtain⟨rfl,rfl⟩:=e'
    simp only[Nat.zero_mul,Nat.add_zero,Nat.one_mul,Nat.reduceMul]at k1 k2 k3 k4 k5 k6 k7 k8
    have hlen:(([(a1,a2),(b1,b2),(c1,c2),(d1,d2)]:List (Int×Int)).length)=4:=rfl
    rw[hlen]
    have hai:inI a2:=hi (a1,a2) (by simp)
    have hci:inI c2:=hi (c1,c2) (by simp)
    rw[chainF_eq]
    clear hin h4 hn hnI hlen hi
    by_cases ha:a1=0
    · subst ha
      by_cases hc:c1=0
      · subst hc
        have HL:=V (fun W=>link_any b1 d1 W)
        have HLS:=V (fun j o (h:linkS b1 d1=some (j,o))=>linkS_some h)
        generalize linkS b1 d1=lk at *
        have HF:=V hf
        have HTA:=V ht
        have HLK:Hid (w.drew.cell? ⟨g,off+2,none⟩=some (.int .i64 b1)∧w.drew.cell? ⟨g,off+6,none⟩=some (.int .i64 d1)):=⟨k3,k7⟩
        cases lk with
        | none =>
          unfold linkV at HL
          have hcn:chainF 0 0 a2 c2 none=none:=rfl
          rw[hcn]
          clear hf ht hcn
          go_enter Tryz.func199,Tryz.ntmps199
          go_wp2_with fail
          go_cut [6,7,8] from 27 to 39 (fun s6 s7 s8 wc=>s6=.int .i64 0∧s7=.int .i64 0∧s8=.bool false∧∃ n,wc=w.drewN n)
          case first =>
            go_region_held_law (fun w'=>w'.cell? ⟨g,off+2,none⟩=some (.int .i64 b1)∧w'.cell? ⟨g,off+6,none⟩=some (.int .i64 d1)) (first|with_reducible assumption|exact U HLK) (first|(refine step_callE rfl 227 #[.tmp 31,.tmp 35] #[3,3] rfl Tryz.func227 Tryz.name227 Tryz.body227 #[.int .i64 b1,.int .i64 d1] (by first|rfl|(simp[Act.eval];done)) 36 rfl (U HL _) ?_;rintro e wu ⟨rfl,hwu⟩;subst hwu;refine⟨_,rfl,?_⟩))
            all_goals
              go_wp2_with fail
              go_meet
              exact⟨rfl,rfl,rfl,_,rfl⟩
          case rest =>
            obtain⟨rfl,rfl,rfl,n,rfl⟩:=hcut
            go_wp2_with fail
            go_ret2
            exact⟨rfl,below_drawn (Below.refl _ _) n⟩
        | some q =>
          obtain⟨j,o⟩:=q
          unfold linkV at HL
          have hjo:=U HLS j o rfl
          have hcs:chainF 0 0 a2 c2 (some (j,o))=(rkF a2 c2 j).map (fun s=>s++[(o,0)]):=rfl
          rw[hcs]
          generalize hrk:rkF a2 c2 j=rk
          have HRKE:=V hrk
          generalize hcr:rk.map (fun s=>s++[(o,(0:Int))])=cr
          have HCR:=V hcr
          clear hf ht hcs hrk hcr
          go_enter Tryz.func199,Tryz.ntmps199
          go_wp2_with fail
          go_cut [6,7,8] from 27 to 39 (fun s6 s7 s8 wc=>s6=.int .i64 j∧s7=.int .i64 o∧s8=.bool true∧∃ n,wc=w.drewN n)
          case first =>
            go_region_held_law (fun w'=>w'.cell? ⟨g,off+2,none⟩=some (.int .i64 b1)∧w'.cell? ⟨g,off+6,none⟩=some (.int .i64 d1)) (first|with_reducible assumption|exact U HLK) (first|(refine step_callE rfl 227 #[.tmp 31,.tmp 35] #[3,3] rfl Tryz.func227 Tryz.name227 Tryz.body227 #[.int .i64 b1,.int .i64 d1] (by first|rfl|(simp[Act.eval];done)) 36 rfl (U HL _) ?_;rintro e wu ⟨rfl,hwu⟩;subst hwu;refine⟨_,rfl,?_⟩))
            all_goals
              go_wp2_with fail
              go_meet
              exact⟨rfl,rfl,rfl,_,rfl⟩
          case rest =>
            obtain⟨rfl,rfl,rfl,n,hwc⟩:=hcut
            obtain⟨W,hW⟩:∃ W:World,W=wc:=⟨_,rfl⟩
            rw[← hW]at hwc ⊢
            have HBW:Hid (Below w.heap.size w W):=by rw[hwc];exact below_drawn (Below.refl _ _) n
            have q2:W.cell? ⟨g,off+1,none⟩=some (.int .i64 a2):=by rw[hwc];exact k2
            have q6:W.cell? ⟨g,off+4+1,none⟩=some (.int .i64 c2):=by rw[hwc];exact k6
            have hgW:g<W.heap.size:=by have:=(U HBW).size;omega
            clear hW hwc k1 k2 k3 k4 k5 k6 k7 k8 HL hgl
            have HS0:Hid (ChS g off a2 c2 W.drew):=⟨q2,q6,hgW⟩
            have HSD1:Hid (∀ o,ChS g off a2 c2 (W.alloc o).drew):=fun o=>ChS.below (V:=W) ⟨q2,q6,hgW⟩ (below_drew' (below_box W o))
            have HSD2:Hid (∀ o o',ChS g off a2 c2 ((W.alloc o).alloc o').drew):=fun o o'=>ChS.below (V:=W) ⟨q2,q6,hgW⟩ (below_drew' (below_box2 W o o'))
            have HSB:Hid (∀ V V',ChS g off a2 c2 V→Below V.heap.size V V'→ChS g off a2 c2 V'):=fun V V' h hb=>h.below hb
            have HSB2:=HSB
            have HSA:Hid (∀ V o,ChS g off a2 c2 V→ChS g off a2 c2 (V.alloc o)):=fun V o h=>h.below (below_box V o)
            have HLI:=V (lits_blk a2 c2)
            have HOP:=V (ops_blk j)
            have HCC:=V (concat_two a2 c2 j)
            have HRK:Hid (∀ (V:World) (a:Option Addr) (c:Nat),Below W.heap.size W V→InL V a [(0,a2),(0,c2),(j,0)]→Calls Tryz.prog 198 #[.pointer (some ⟨fb,0,none⟩),.slice a 3 c] V fun e w'=>RuleOut V.heap.size w' rk e∧Below V.heap.size V w'):=fun V a c hV hin=>by
              have hbV:Below w.heap.size w V:=(U HBW).trans (hV.mono (U HBW).size)
              exact reck_three fb tb rv a2 c2 j rk (U HRKE) V a c ((U HF).below hbV) (Lib.tabBelow_of_tabIs (U HTA) V hbV) hin hai hci
            have HOO:=V (fun V:World=>ops_blk o (V.alloc (.cells #[.int .i64 o] 3)) V.heap.size (Blk.new V _ _))
            go_wp2_with fail
            go_cut [9,8] from 40 to 61 (fun s9 s8 wc=>ChCut W rk s9 s8 wc)
            case first =>
              go_region_held_law (fun w'=>w'.cell? ⟨g,off+1,none⟩=some (.int .i64 a2)∧w'.cell? ⟨g,off+4+1,none⟩=some (.int .i64 c2)∧g<w'.heap.size) (first|with_reducible exact U HS0|with_reducible exact U HSD1 _|with_reducible exact U HSD2 _ _|with_reducible assumption|with_reducible exact U HSA _ _ (by assumption)) (first
                | (refine step_callE rfl 226 #[.tmp 52] #[42] rfl Tryz.func226 Tryz.name226 Tryz.body226 #[.slice (some ⟨W.heap.size,0,none⟩) 2 2] (by first|rfl|(simp[Act.eval];done)|(simp[Act.eval,Act.put];done)) 53 rfl (U HLI _ _ (by (repeat (first|with_reducible refine Blk.drew ?_|with_reducible refine Blk.drewN ?_ _|(with_reducible refine blk_newAt _ _ ?_;(first|omega|((repeat (first|rw[World.size_up]|rw[World.size_dr]|rw[World.size_drN]))<;>omega)))|with_reducible refine Blk.alloc ?_ _));(first|done|with_reducible assumption))) ?_;rintro e wu ⟨ax,cx,rfl,hox,hbx⟩;have HOX:=V hox;have hsu:=U HSB _ wu (by assumption) hbx;have HBL:Hid (Below W.heap.size W wu):=Below.trans (by (repeat (first|with_reducible refine below_drew ?_|with_reducible refine below_drawn ?_ _|with_reducible refine below_longer ?_ _|(with_reducible refine Below.alloc ?_ ?_ _;rotate_left;(first|omega|((repeat (first|rw[World.size_up]|rw[World.size_dr]|rw[World.size_drN]))<;>omega)))));(with_reducible exact Below.refl _ _)) (hbx.mono (by simp<;>omega));have HJ:Hid (Blk wu (W.heap.size+1) #[.int .i64 j] 3):=Blk.below (by (repeat (first|with_reducible refine Blk.drew ?_|with_reducible refine Blk.drewN ?_ _|(with_reducible refine blk_newAt _ _ ?_;(first|omega|((repeat (first|rw[World.size_up]|rw[World.size_dr]|rw[World.size_drN]))<;>omega)))|with_reducible refine Blk.alloc ?_ _));(first|done|with_reducible assumption)) hbx (by simp<;>omega);clear hox hbx;refine⟨_,rfl,?_⟩)
                | (refine step_callE rfl 226 #[.tmp 52] #[42] rfl Tryz.func226 Tryz.name226 Tryz.body226 #[.slice (some ⟨W.heap.size+1,0,none⟩) 2 2] (by first|rfl|(simp[Act.eval];done)|(simp[Act.eval,Act.put];done)) 53 rfl (U HLI _ _ (by (repeat (first|with_reducible refine Blk.drew ?_|with_reducible refine Blk.drewN ?_ _|(with_reducible refine blk_newAt _ _ ?_;(first|omega|((repeat (first|rw[World.size_up]|rw[World.size_dr]|rw[World.size_drN]))<;>omega)))|with_reducible refine Blk.alloc ?_ _));(first|done|with_reducible assumption))) ?_;rintro e wu ⟨ax,cx,rfl,hox,hbx⟩;have HOX:=V hox;have hsu:=U HSB _ wu (by assumption) hbx;have HBL:Hid (Below W.heap.size W wu):=Below.trans (by (repeat (first|with_reducible refine below_drew ?_|with_reducible refine below_drawn ?_ _|with_reducible refine below_longer ?_ _|(with_reducible refine Below.alloc ?_ ?_ _;rotate_left;(first|omega|((repeat (first|rw[World.size_up]|rw[World.size_dr]|rw[World.size_drN]))<;>omega)))));(with_reducible exact Below.refl _ _)) (hbx.mono (by simp<;>omega));have HJ:Hid (Blk wu W.heap.size #[.int .i64 j] 3):=Blk.below (by (repeat (first|with_reducible refine Blk.drew ?_|with_reducible refine Blk.drewN ?_ _|(with_reducible refine blk_newAt _ _ ?_;(first|omega|((repeat (first|rw[World.size_up]|rw[World.size_dr]|rw[World.size_drN]))<;>omega)))|with_reducible refine Blk.alloc ?_ _));(first|done|with_reducible assumption)) hbx (by simp<;>omega);clear hox hbx;refine⟨_,rfl,?_⟩)
                | (refine step_callE rfl 226 #[.tmp 52] #[42] rfl Tryz.func226 Tryz.name226 Tryz.body226 #[.slice (some ⟨W.heap.size,0,none⟩) 2 2] (by first|rfl|(simp[Act.eval];done)|(simp[Act.eval,Act.put];done)) 53 rfl (U HLI _ _ (by (repeat (first|with_reducible refine Blk.drew ?_|with_reducible refine Blk.drewN ?_ _|(with_reducible refine blk_newAt _ _ ?_;(first|omega|((repeat (first|rw[World.size_up]|rw[World.size_dr]|rw[World.size_drN]))<;>omega)))|with_reducible refine Blk.alloc ?_ _));(first|done|with_reducible assumption))) ?_;rintro e wu ⟨ax,cx,rfl,hox,hbx⟩;have HOX:=V hox;have hsu:=U HSB _ wu (by assumption) hbx;have HBL:Hid (Below W.heap.size W wu):=Below.trans (by (repeat (first|with_reducible refine below_drew ?_|with_reducible refine below_drawn ?_ _|with_reducible refine below_longer ?_ _|(with_reducible refine Below.alloc ?_ ?_ _;rotate_left;(first|omega|((repeat (first|rw[World.size_up]|rw[World.size_dr]|rw[World.size_drN]))<;>omega)))));(with_reducible exact Below.refl _ _)) (hbx.mono (by simp<;>omega));clear hox hbx;refine⟨_,rfl,?_⟩)
                | (refine step_callE rfl 202 #[.tmp 55] #[115] rfl Tryz.func202 Tryz.name202 Tryz.body202 #[.slice (some ⟨W.heap.size+1,0,none⟩) 1 1] (by first|rfl|(simp[Act.eval];done)|(simp[Act.eval,Act.put];done)) 56 rfl (U HOP _ _ (U HJ)) ?_;rintro e wv ⟨ay,cy,rfl,hoy,hby⟩;have HXV:=V ((U HOX).isIn.1.below hby);have HYV:=V hoy.isIn.1;have hsv:=U HSB _ wv (by assumption) hby;have HBO:Hid (Below W.heap.size W wv):=(U HBL).trans (hby.mono (U HBL).size);clear hoy hby;refine⟨_,rfl,?_⟩)
                | (refine step_callE rfl 202 #[.tmp 55] #[115] rfl Tryz.func202 Tryz.name202 Tryz.body202 #[.slice (some ⟨W.heap.size,0,none⟩) 1 1] (by first|rfl|(simp[Act.eval];done)|(simp[Act.eval,Act.put];done)) 56 rfl (U HOP _ _ (U HJ)) ?_;rintro e wv ⟨ay,cy,rfl,hoy,hby⟩;have HXV:=V ((U HOX).isIn.1.below hby);have HYV:=V hoy.isIn.1;have hsv:=U HSB _ wv (by assumption) hby;have HBO:Hid (Below W.heap.size W wv):=(U HBL).trans (hby.mono (U HBL).size);clear hoy hby;refine⟨_,rfl,?_⟩)
                | (refine step_callE rfl 202 #[.tmp 55] #[115] rfl Tryz.func202 Tryz.name202 Tryz.body202 #[.slice (some ⟨wu.heap.size,0,none⟩) 1 1] (by first|rfl|(simp[Act.eval];done)|(simp[Act.eval,Act.put];done)) 56 rfl (U HOP _ _ (by (repeat (first|with_reducible refine Blk.drew ?_|with_reducible refine Blk.drewN ?_ _|(with_reducible refine blk_newAt _ _ ?_;(first|omega|((repeat (first|rw[World.size_up]|rw[World.size_dr]|rw[World.size_drN]))<;>omega)))|with_reducible refine Blk.alloc ?_ _));(first|done|with_reducible assumption))) ?_;rintro e wv ⟨ay,cy,rfl,hoy,hby⟩;have HXV:=V (((U HOX).isIn.1.below (below_box wu _)).below hby);have HYV:=V hoy.isIn.1;have hsv:=U HSB _ wv (by assumption) hby;have HBO:Hid (Below W.heap.size W wv):=((U HBL).trans ((below_box wu _).mono (U HBL).size)).trans (hby.mono (by have:=(U HBL).size;simp;omega));clear hoy hby;refine⟨_,rfl,?_⟩)
                | (refine step_callE rfl 225 #[.tmp 57] #[273] rfl Tryz.func225 Tryz.name225 Tryz.body225 #[.slice (some ⟨wv.heap.size,0,none⟩) 2 2] (by first|rfl|(simp[Act.eval];done)|(simp[Act.eval,Act.put];done)) 58 rfl (U HCC wv ax ay cx cy (U HXV) (U HYV)) ?_;rintro e wz ⟨az,cz,rfl,hiz,hbz⟩;have HIZ:=V hiz;have hsz:=U HSB2 _ wz hsv hbz;have HBZ:Hid (Below W.heap.size W wz):=(U HBO).trans (hbz.mono (U HBO).size);clear hiz hbz;refine⟨_,rfl,?_⟩)
                | (refine step_callE rfl 198 #[.tmp 43,.tmp 58] #[156,33] rfl Tryz.func198 Tryz.name198 Tryz.body198 #[.pointer (some ⟨fb,0,none⟩),.slice az 3 cz] (by first|rfl|(simp[Act.eval];done)|(simp[Act.eval,Act.put];done)) 59 rfl (U HRK wz az cz (U HBZ) (U HIZ)) ?_;rintro e wq ⟨hout,hbq⟩;obtain⟨a9,n9,c9,b9,rfl,hr9⟩:=RuleOut.tup hout;have HR9:=V (TupIs.base hr9 (U HBZ).size);have hsq:=U HSB2 _ wq hsz hbq;have HBQ:Hid (Below W.heap.size W wq):=(U HBZ).trans (hbq.mono (U HBZ).size);clear hout hbq hr9;refine⟨_,rfl,?_⟩))
              all_goals
                go_wp2_with fail
                go_meet
                exact⟨U HR9,U HBQ⟩
            case rest =>
              obtain⟨htup,hbc⟩:=hcut
              obtain⟨W3,hW3⟩:∃ W3:World,W3=wc:=⟨_,rfl⟩
              rw[← hW3]at htup hbc ⊢
              have HB3:Hid (Below w.heap.size w W3):=(U HBW).trans (hbc.mono (U HBW).size)
              have HBC:=V hbc
              clear hW3 hbc
              cases rk with
              | none =>
                obtain⟨rfl,rfl⟩:=htup
                have hcr:cr=none:=(U HCR).symm
                subst hcr
                go_wp2_with fail
                go_ret2
                exact⟨rfl,U HB3⟩
              | some nl =>
                obtain⟨a5,c5,rfl,rfl,ho5⟩:=htup
                have hcr:cr=some (nl++[(o,0)]):=(U HCR).symm
                subst hcr
                have HO5:=V ho5
                have HNL:Hid (nl.length≤1000):=by
                  have:=reckonedS_short (row:=[(0,a2),(0,c2),(j,0)]) (s:=nl) (by rw[← rkF_eq];exact U HRKE)
                  show _≤_
                  simp at this
                  omega
                have HOC:=V (U HOO W3)
                have HBX:=V (below_box W3 (.cells #[.int .i64 o] 3))
                clear ho5
                go_wp2_with fail
                refine (U HOC).mono ?_
                rintro e W5 ⟨a6,c6,rfl,ho6,hb6⟩
                have hb35:Below W3.heap.size W3 W5:=(U HBX).trans (hb6.mono (U HBX).size)
                have HO6:=V ((U HO5).below hb35)
                have HI6:=V ho6.isIn.1
                have HBN:Hid (Below W.heap.size W W5):=(U HBC).trans (hb35.mono (U HBC).size)
                clear ho6 hb6 hb35 HOC
                go_wp2_with (at_builtin;refine wpList_appI rfl (.tmp 64) (.tmp 67) rfl W.heap.size W _ nl [(o,0)] a6 c6 (by simp[Act.eval]) (by simp[Act.eval]) (U HO6) (U HI6) (by have:=U HNL;simp;omega) (U HBN) (U HBN).size _ rfl ?_;intro a7 c7 w7 HO7 HB7)
                go_ret2
                refine⟨⟨.slice a7 (nl++[(o,0)]).length c7,by simp,OwnI.base (U HO7) (U HBW).size⟩,(U HBW).trans ((U HB7).mono (U HBW).size)⟩
      · have hcn:chainF 0 c1 a2 c2 (linkS b1 d1)=none:=by unfold chainF;rw[if_neg (by simp[hc])]
        rw[hcn]
        have hc':(c1 != 0)=true:=by simpa using hc
        clear hf ht hc hcn
        go_enter Tryz.func199,Tryz.ntmps199
        go_wp2_with fail
        go_ret2
        exact⟨rfl,Below.refl _ _⟩
    · have hcn:chainF a1 c1 a2 c2 (linkS b1 d1)=none:=by unfold chainF;rw[if_neg (by simp[ha])]
      rw[hcn]
      have ha':(a1 != 0)=true:=by simpa using ha
      clear hf ht ha hcn
      go_enter Tryz.func199,Tryz.ntmps199
      go_wp2_with fail
      go_ret2
      exact⟨rfl,Below.refl _ _⟩
  · rw[chained_not h4]
    have h4':((row.length:Int) != 4)=true:=by simp;omega
    clear hf ht hin hi h4
    go_enter Tryz.func199,Tryz.ntmps199
    go_wp2_with fail
    go_ret2
    exact⟨rfl,Below.refl _ _⟩
def isV (b:Nat×Nat):Value:=.func (.func 228) #[] #[.pointer (some ⟨b.1,0,none⟩),.pointer (some ⟨b.2,0,none⟩)]
def isSpecs:List (List (Int×Int)×List Int):=[([(0,0),(16,0)],[]),([(0,0),(15,0)],[]),([(0,(-1)),(14,0)],[]),([(0,1),(12,0)],[]),([(0,1),(11,0)],[]),([(0,0),(10,0)],[]),([(0,0),(9,0)],[]),([(23,0),(19,0)],[19]),([(23,0),(16,0)],[16]),([(23,0),(15,0)],[15]),([(23,0),(14,0)],[14]),([(23,0),(11,0)],[11]),([(23,0),(9,0)],[9]),([(18,0),(10,0)],[9]),([(18,0),(9,0)],[10]),([(21,0),(23,0)],[21]),([(24,0),(22,0)],[]),([(21,0),(22,0)],[]),([(18,0),(18,0)],[]),([(17,0),(17,0)],[]),([(25,0),(25,0),(25,0)],[]),([(23,0),(23,0)],[])]
theorem is_pair (po so:Option Addr) (pc sc:Nat) (pat:List (Int×Int)) (short:List Int) (w:World) (hpat:OwnI 0 w (.slice po pat.length pc) pat) (hsh:IntsB w so short) :
    Calls Tryz.prog 201 #[.slice po pat.length pc,.slice so short.length sc] w fun e w'=>∃ b1 b2,e=.returned (.func (.func 228) #[] #[.pointer (some ⟨b1,0,none⟩),.pointer (some ⟨b2,0,none⟩)])∧IsAt w' (isV (b1,b2)) pat short∧Below w.heap.size w w':=by
  refine (is_at po so pc sc pat short w hpat hsh).mono ?_
  rintro e w' ⟨v,rfl,⟨b1,b2,po,pc,so,sc,rfl,h⟩,hb⟩
  exact⟨b1,b2,rfl,⟨b1,b2,po,pc,so,sc,rfl,h⟩,hb⟩
theorem makeRules_any (fb:Nat) (w:World) :
    Calls Tryz.prog 151 #[.pointer (some ⟨fb,0,none⟩)] w fun e w'=>∃ (rb:Nat) (bs:List (Nat×Nat)),e=.returned (.slice (some ⟨rb,0,none⟩) 25 25)∧Blk w' rb (#[.func (.func 198) #[.pointer (some ⟨fb,0,none⟩)] #[],.func (.func 199) #[.pointer (some ⟨fb,0,none⟩)] #[],.func (.func 200) #[] #[]]++(bs.reverse.map isV).toArray) 239∧IsList w' (bs.map isV) isSpecs∧Below w.heap.size w w':=by
  have HO2:Hid (∀ (W:World) (a b:Int),Calls Tryz.prog 202 #[.slice (some ⟨W.heap.size,0,none⟩) 2 2] (W.alloc (.cells #[.int .i64 a,.int .i64 b] 3)) fun e w'=>∃ ao c,e=.returned (.slice ao 2 c)∧OwnI 0 w' (.slice ao 2 c) [(a,0),(b,0)]∧Below W.heap.size W w'):=fun W a b=>by
    refine (ops_out (some ⟨W.heap.size,0,none⟩) 2 [a,b] _ (ints_new W _ [a,b] rfl _) (by simp)).mono ?_
    rintro e w' ⟨ao,c,rfl,ho,hb⟩
    exact⟨ao,c,rfl,ho.base (Nat.zero_le _),(below_box W _).trans (hb.mono (below_box W _).size)⟩
  have HO3:Hid (∀ (W:World) (a b d:Int),Calls Tryz.prog 202 #[.slice (some ⟨W.heap.size,0,none⟩) 3 3] (W.alloc (.cells #[.int .i64 a,.int .i64 b,.int .i64 d] 3)) fun e w'=>∃ ao c,e=.returned (.slice ao 3 c)∧OwnI 0 w' (.slice ao 3 c) [(a,0),(b,0),(d,0)]∧Below W.heap.size W w'):=fun W a b d=>by
    refine (ops_out (some ⟨W.heap.size,0,none⟩) 3 [a,b,d] _ (ints_new W _ [a,b,d] rfl _) (by simp)).mono ?_
    rintro e w' ⟨ao,c,rfl,ho,hb⟩
    exact⟨ao,c,rfl,ho.base (Nat.zero_le _),(below_box W _).trans (hb.mono (below_box W _).size)⟩
  have HL:Hid (∀ (W:World) (m a:Int),Calls Tryz.prog 203 #[.int .i64 m,.slice (some ⟨W.heap.size,0,none⟩) 1 1] (W.alloc (.cells #[.int .i64 a] 3)) fun e w'=>∃ ao c,e=.returned (.slice ao 2 c)∧OwnI 0 w' (.slice ao 2 c) [(0,m),(a,0)]∧Below W.heap.size W w'):=fun W m a=>by
    refine (litAnd_any m (some ⟨W.heap.size,0,none⟩) 1 [a] _ (ints_new W _ [a] rfl _) (by simp)).mono ?_
    rintro e w' ⟨ao,c,rfl,ho,hb⟩
    exact⟨ao,c,rfl,ho.base (Nat.zero_le _),(below_box W _).trans (hb.mono (below_box W _).size)⟩
  have HI0:Hid (∀ (W:World) (po:Option Addr) (pc n:Nat) (pat:List (Int×Int)),n=pat.length→OwnI 0 W (.slice po n pc) pat→Calls Tryz.prog 201 #[.slice po n pc,.slice none 0 0] W fun e w'=>∃ b1 b2,e=.returned (.func (.func 228) #[] #[.pointer (some ⟨b1,0,none⟩),.pointer (some ⟨b2,0,none⟩)])∧IsAt w' (isV (b1,b2)) pat []∧Below W.heap.size W w'):=fun W po pc n pat hn h=>by
    subst hn
    exact is_pair po none pc 0 pat [] W h (Or.inl rfl)
  have HI1:Hid (∀ (W:World) (po:Option Addr) (pc n:Nat) (pat:List (Int×Int)) (a:Int),n=pat.length→OwnI 0 W (.slice po n pc) pat→Calls Tryz.prog 201 #[.slice po n pc,.slice (some ⟨W.heap.size,0,none⟩) 1 1] (W.alloc (.cells #[.int .i64 a] 3)) fun e w'=>∃ b1 b2,e=.returned (.func (.func 228) #[] #[.pointer (some ⟨b1,0,none⟩),.pointer (some ⟨b2,0,none⟩)])∧IsAt w' (isV (b1,b2)) pat [a]∧Below W.heap.size W w'):=fun W po pc n pat a hn h=>by
    subst hn
    refine (is_pair po (some ⟨W.heap.size,0,none⟩) pc 1 pat [a] _ (h.below (below_box W _)) (Or.inr ⟨_,rfl,Blk.new W _ _⟩)).mono ?_
    rintro e w' ⟨b1,b2,rfl,h1,hb⟩
    exact⟨b1,b2,rfl,h1,(below_box W _).trans (hb.mono (below_box W _).size)⟩
  have HA:Hid (IsList w [] []):=IsList.nil w
  have HB:Hid (Below w.heap.size w w):=Below.refl _ _
  obtain⟨W0,hW0⟩:∃ W0:World,W0=w:=⟨_,rfl⟩
  have HW0:=V hW0
  go_enter Tryz.func151,Tryz.ntmps151
  clear hW0
  go_wp2_with fail
  refine (U HO2 w 23 23).mono ?_
  rintro e u0 ⟨a0,c0,rfl,hin,hb⟩
  have HIN:=V hin
  have HBU:=V hb
  clear hin hb
  go_wp2_with fail
  refine (U HI0 u0 a0 c0 2 [(23,0),(23,0)] rfl (U HIN)).mono ?_
  rintro e w0 ⟨p0,q0,rfl,his,hb⟩
  have HN:=V (IsList.cons (U HA) ((U HBU).trans (hb.mono (U HBU).size)) his)
  have HM:Hid (Below w.heap.size w w0):=(U HB).trans (((U HBU).trans (hb.mono (U HBU).size)).mono (U HB).size)
  clear HA HB HIN HBU his hb
  have HA:=HN
  have HB:=HM
  clear HN HM
  go_wp2_with fail
  refine (U HO3 w0 25 25 25).mono ?_
  rintro e u1 ⟨a1,c1,rfl,hin,hb⟩
  have HIN:=V hin
  have HBU:=V hb
  clear hin hb
  go_wp2_with fail
  refine (U HI0 u1 a1 c1 3 [(25,0),(25,0),(25,0)] rfl (U HIN)).mono ?_
  rintro e w1 ⟨p1,q1,rfl,his,hb⟩
  have HN:=V (IsList.cons (U HA) ((U HBU).trans (hb.mono (U HBU).size)) his)
  have HM:Hid (Below w.heap.size w w1):=(U HB).trans (((U HBU).trans (hb.mono (U HBU).size)).mono (U HB).size)
  clear HA HB HIN HBU his hb
  have HA:=HN
  have HB:=HM
  clear HN HM
  go_wp2_with fail
  refine (U HO2 w1 17 17).mono ?_
  rintro e u2 ⟨a2,c2,rfl,hin,hb⟩
  have HIN:=V hin
  have HBU:=V hb
  clear hin hb
  go_wp2_with fail
  refine (U HI0 u2 a2 c2 2 [(17,0),(17,0)] rfl (U HIN)).mono ?_
  rintro e w2 ⟨p2,q2,rfl,his,hb⟩
  have HN:=V (IsList.cons (U HA) ((U HBU).trans (hb.mono (U HBU).size)) his)
  have HM:Hid (Below w.heap.size w w2):=(U HB).trans (((U HBU).trans (hb.mono (U HBU).size)).mono (U HB).size)
  clear HA HB HIN HBU his hb
  have HA:=HN
  have HB:=HM
  clear HN HM
  go_wp2_with fail
  refine (U HO2 w2 18 18).mono ?_
  rintro e u3 ⟨a3,c3,rfl,hin,hb⟩
  have HIN:=V hin
  have HBU:=V hb
  clear hin hb
  go_wp2_with fail
  refine (U HI0 u3 a3 c3 2 [(18,0),(18,0)] rfl (U HIN)).mono ?_
  rintro e w3 ⟨p3,q3,rfl,his,hb⟩
  have HN:=V (IsList.cons (U HA) ((U HBU).trans (hb.mono (U HBU).size)) his)
  have HM:Hid (Below w.heap.size w w3):=(U HB).trans (((U HBU).trans (hb.mono (U HBU).size)).mono (U HB).size)
  clear HA HB HIN HBU his hb
  have HA:=HN
  have HB:=HM
  clear HN HM
  go_wp2_with fail
  refine (U HO2 w3 21 22).mono ?_
  rintro e u4 ⟨a4,c4,rfl,hin,hb⟩
  have HIN:=V hin
  have HBU:=V hb
  clear hin hb
  go_wp2_with fail
  refine (U HI0 u4 a4 c4 2 [(21,0),(22,0)] rfl (U HIN)).mono ?_
  rintro e w4 ⟨p4,q4,rfl,his,hb⟩
  have HN:=V (IsList.cons (U HA) ((U HBU).trans (hb.mono (U HBU).size)) his)
  have HM:Hid (Below w.heap.size w w4):=(U HB).trans (((U HBU).trans (hb.mono (U HBU).size)).mono (U HB).size)
  clear HA HB HIN HBU his hb
  have HA:=HN
  have HB:=HM
  clear HN HM
  go_wp2_with fail
  refine (U HO2 w4 24 22).mono ?_
  rintro e u5 ⟨a5,c5,rfl,hin,hb⟩
  have HIN:=V hin
  have HBU:=V hb
  clear hin hb
  go_wp2_with fail
  refine (U HI0 u5 a5 c5 2 [(24,0),(22,0)] rfl (U HIN)).mono ?_
  rintro e w5 ⟨p5,q5,rfl,his,hb⟩
  have HN:=V (IsList.cons (U HA) ((U HBU).trans (hb.mono (U HBU).size)) his)
  have HM:Hid (Below w.heap.size w w5):=(U HB).trans (((U HBU).trans (hb.mono (U HBU).size)).mono (U HB).size)
  clear HA HB HIN HBU his hb
  have HA:=HN
  have HB:=HM
  clear HN HM
  go_wp2_with fail
  refine (U HO2 w5 21 23).mono ?_
  rintro e u6 ⟨a6,c6,rfl,hin,hb⟩
  have HIN:=V hin
  have HBU:=V hb
  clear hin hb
  go_wp2_with fail
  refine (U HI1 u6 a6 c6 2 [(21,0),(23,0)] 21 rfl (U HIN)).mono ?_
  rintro e w6 ⟨p6,q6,rfl,his,hb⟩
  have HN:=V (IsList.cons (U HA) ((U HBU).trans (hb.mono (U HBU).size)) his)
  have HM:Hid (Below w.heap.size w w6):=(U HB).trans (((U HBU).trans (hb.mono (U HBU).size)).mono (U HB).size)
  clear HA HB HIN HBU his hb
  have HA:=HN
  have HB:=HM
  clear HN HM
  go_wp2_with fail
  refine (U HO2 w6 18 9).mono ?_
  rintro e u7 ⟨a7,c7,rfl,hin,hb⟩
  have HIN:=V hin
  have HBU:=V hb
  clear hin hb
  go_wp2_with fail
  refine (U HI1 u7 a7 c7 2 [(18,0),(9,0)] 10 rfl (U HIN)).mono ?_
  rintro e w7 ⟨p7,q7,rfl,his,hb⟩
  have HN:=V (IsList.cons (U HA) ((U HBU).trans (hb.mono (U HBU).size)) his)
  have HM:Hid (Below w.heap.size w w7):=(U HB).trans (((U HBU).trans (hb.mono (U HBU).size)).mono (U HB).size)
  clear HA HB HIN HBU his hb
  have HA:=HN
  have HB:=HM
  clear HN HM
  go_wp2_with fail
  refine (U HO2 w7 18 10).mono ?_
  rintro e u8 ⟨a8,c8,rfl,hin,hb⟩
  have HIN:=V hin
  have HBU:=V hb
  clear hin hb
  go_wp2_with fail
  refine (U HI1 u8 a8 c8 2 [(18,0),(10,0)] 9 rfl (U HIN)).mono ?_
  rintro e w8 ⟨p8,q8,rfl,his,hb⟩
  have HN:=V (IsList.cons (U HA) ((U HBU).trans (hb.mono (U HBU).size)) his)
  have HM:Hid (Below w.heap.size w w8):=(U HB).trans (((U HBU).trans (hb.mono (U HBU).size)).mono (U HB).size)
  clear HA HB HIN HBU his hb
  have HA:=HN
  have HB:=HM
  clear HN HM
  go_wp2_with fail
  refine (U HO2 w8 23 9).mono ?_
  rintro e u9 ⟨a9,c9,rfl,hin,hb⟩
  have HIN:=V hin
  have HBU:=V hb
  clear hin hb
  go_wp2_with fail
  refine (U HI1 u9 a9 c9 2 [(23,0),(9,0)] 9 rfl (U HIN)).mono ?_
  rintro e w9 ⟨p9,q9,rfl,his,hb⟩
  have HN:=V (IsList.cons (U HA) ((U HBU).trans (hb.mono (U HBU).size)) his)
  have HM:Hid (Below w.heap.size w w9):=(U HB).trans (((U HBU).trans (hb.mono (U HBU).size)).mono (U HB).size)
  clear HA HB HIN HBU his hb
  have HA:=HN
  have HB:=HM
  clear HN HM
  go_wp2_with fail
  refine (U HO2 w9 23 11).mono ?_
  rintro e u10 ⟨a10,c10,rfl,hin,hb⟩
  have HIN:=V hin
  have HBU:=V hb
  clear hin hb
  go_wp2_with fail
  refine (U HI1 u10 a10 c10 2 [(23,0),(11,0)] 11 rfl (U HIN)).mono ?_
  rintro e w10 ⟨p10,q10,rfl,his,hb⟩
  have HN:=V (IsList.cons (U HA) ((U HBU).trans (hb.mono (U HBU).size)) his)
  have HM:Hid (Below w.heap.size w w10):=(U HB).trans (((U HBU).trans (hb.mono (U HBU).size)).mono (U HB).size)
  clear HA HB HIN HBU his hb
  have HA:=HN
  have HB:=HM
  clear HN HM
  go_wp2_with fail
  refine (U HO2 w10 23 14).mono ?_
  rintro e u11 ⟨a11,c11,rfl,hin,hb⟩
  have HIN:=V hin
  have HBU:=V hb
  clear hin hb
  go_wp2_with fail
  refine (U HI1 u11 a11 c11 2 [(23,0),(14,0)] 14 rfl (U HIN)).mono ?_
  rintro e w11 ⟨p11,q11,rfl,his,hb⟩
  have HN:=V (IsList.cons (U HA) ((U HBU).trans (hb.mono (U HBU).size)) his)
  have HM:Hid (Below w.heap.size w w11):=(U HB).trans (((U HBU).trans (hb.mono (U HBU).size)).mono (U HB).size)
  clear HA HB HIN HBU his hb
  have HA:=HN
  have HB:=HM
  clear HN HM
  go_wp2_with fail
  refine (U HO2 w11 23 15).mono ?_
  rintro e u12 ⟨a12,c12,rfl,hin,hb⟩
  have HIN:=V hin
  have HBU:=V hb
  clear hin hb
  go_wp2_with fail
  refine (U HI1 u12 a12 c12 2 [(23,0),(15,0)] 15 rfl (U HIN)).mono ?_
  rintro e w12 ⟨p12,q12,rfl,his,hb⟩
  have HN:=V (IsList.cons (U HA) ((U HBU).trans (hb.mono (U HBU).size)) his)
  have HM:Hid (Below w.heap.size w w12):=(U HB).trans (((U HBU).trans (hb.mono (U HBU).size)).mono (U HB).size)
  clear HA HB HIN HBU his hb
  have HA:=HN
  have HB:=HM
  clear HN HM
  go_wp2_with fail
  refine (U HO2 w12 23 16).mono ?_
  rintro e u13 ⟨a13,c13,rfl,hin,hb⟩
  have HIN:=V hin
  have HBU:=V hb
  clear hin hb
  go_wp2_with fail
  refine (U HI1 u13 a13 c13 2 [(23,0),(16,0)] 16 rfl (U HIN)).mono ?_
  rintro e w13 ⟨p13,q13,rfl,his,hb⟩
  have HN:=V (IsList.cons (U HA) ((U HBU).trans (hb.mono (U HBU).size)) his)
  have HM:Hid (Below w.heap.size w w13):=(U HB).trans (((U HBU).trans (hb.mono (U HBU).size)).mono (U HB).size)
  clear HA HB HIN HBU his hb
  have HA:=HN
  have HB:=HM
  clear HN HM
  go_wp2_with fail
  refine (U HO2 w13 23 19).mono ?_
  rintro e u14 ⟨a14,c14,rfl,hin,hb⟩
  have HIN:=V hin
  have HBU:=V hb
  clear hin hb
  go_wp2_with fail
  refine (U HI1 u14 a14 c14 2 [(23,0),(19,0)] 19 rfl (U HIN)).mono ?_
  rintro e w14 ⟨p14,q14,rfl,his,hb⟩
  have HN:=V (IsList.cons (U HA) ((U HBU).trans (hb.mono (U HBU).size)) his)
  have HM:Hid (Below w.heap.size w w14):=(U HB).trans (((U HBU).trans (hb.mono (U HBU).size)).mono (U HB).size)
  clear HA HB HIN HBU his hb
  have HA:=HN
  have HB:=HM
  clear HN HM
  go_wp2_with fail
  refine (U HL w14 0 9).mono ?_
  rintro e u15 ⟨a15,c15,rfl,hin,hb⟩
  have HIN:=V hin
  have HBU:=V hb
  clear hin hb
  go_wp2_with fail
  refine (U HI0 u15 a15 c15 2 [(0,0),(9,0)] rfl (U HIN)).mono ?_
  rintro e w15 ⟨p15,q15,rfl,his,hb⟩
  have HN:=V (IsList.cons (U HA) ((U HBU).trans (hb.mono (U HBU).size)) his)
  have HM:Hid (Below w.heap.size w w15):=(U HB).trans (((U HBU).trans (hb.mono (U HBU).size)).mono (U HB).size)
  clear HA HB HIN HBU his hb
  have HA:=HN
  have HB:=HM
  clear HN HM
  go_wp2_with fail
  refine (U HL w15 0 10).mono ?_
  rintro e u16 ⟨a16,c16,rfl,hin,hb⟩
  have HIN:=V hin
  have HBU:=V hb
  clear hin hb
  go_wp2_with fail
  refine (U HI0 u16 a16 c16 2 [(0,0),(10,0)] rfl (U HIN)).mono ?_
  rintro e w16 ⟨p16,q16,rfl,his,hb⟩
  have HN:=V (IsList.cons (U HA) ((U HBU).trans (hb.mono (U HBU).size)) his)
  have HM:Hid (Below w.heap.size w w16):=(U HB).trans (((U HBU).trans (hb.mono (U HBU).size)).mono (U HB).size)
  clear HA HB HIN HBU his hb
  have HA:=HN
  have HB:=HM
  clear HN HM
  go_wp2_with fail
  refine (U HL w16 1 11).mono ?_
  rintro e u17 ⟨a17,c17,rfl,hin,hb⟩
  have HIN:=V hin
  have HBU:=V hb
  clear hin hb
  go_wp2_with fail
  refine (U HI0 u17 a17 c17 2 [(0,1),(11,0)] rfl (U HIN)).mono ?_
  rintro e w17 ⟨p17,q17,rfl,his,hb⟩
  have HN:=V (IsList.cons (U HA) ((U HBU).trans (hb.mono (U HBU).size)) his)
  have HM:Hid (Below w.heap.size w w17):=(U HB).trans (((U HBU).trans (hb.mono (U HBU).size)).mono (U HB).size)
  clear HA HB HIN HBU his hb
  have HA:=HN
  have HB:=HM
  clear HN HM
  go_wp2_with fail
  refine (U HL w17 1 12).mono ?_
  rintro e u18 ⟨a18,c18,rfl,hin,hb⟩
  have HIN:=V hin
  have HBU:=V hb
  clear hin hb
  go_wp2_with fail
  refine (U HI0 u18 a18 c18 2 [(0,1),(12,0)] rfl (U HIN)).mono ?_
  rintro e w18 ⟨p18,q18,rfl,his,hb⟩
  have HN:=V (IsList.cons (U HA) ((U HBU).trans (hb.mono (U HBU).size)) his)
  have HM:Hid (Below w.heap.size w w18):=(U HB).trans (((U HBU).trans (hb.mono (U HBU).size)).mono (U HB).size)
  clear HA HB HIN HBU his hb
  have HA:=HN
  have HB:=HM
  clear HN HM
  go_wp2_with fail
  refine (U HL w18 (-1) 14).mono ?_
  rintro e u19 ⟨a19,c19,rfl,hin,hb⟩
  have HIN:=V hin
  have HBU:=V hb
  clear hin hb
  go_wp2_with fail
  refine (U HI0 u19 a19 c19 2 [(0,(-1)),(14,0)] rfl (U HIN)).mono ?_
  rintro e w19 ⟨p19,q19,rfl,his,hb⟩
  have HN:=V (IsList.cons (U HA) ((U HBU).trans (hb.mono (U HBU).size)) his)
  have HM:Hid (Below w.heap.size w w19):=(U HB).trans (((U HBU).trans (hb.mono (U HBU).size)).mono (U HB).size)
  clear HA HB HIN HBU his hb
  have HA:=HN
  have HB:=HM
  clear HN HM
  go_wp2_with fail
  refine (U HL w19 0 15).mono ?_
  rintro e u20 ⟨a20,c20,rfl,hin,hb⟩
  have HIN:=V hin
  have HBU:=V hb
  clear hin hb
  go_wp2_with fail
  refine (U HI0 u20 a20 c20 2 [(0,0),(15,0)] rfl (U HIN)).mono ?_
  rintro e w20 ⟨p20,q20,rfl,his,hb⟩
  have HN:=V (IsList.cons (U HA) ((U HBU).trans (hb.mono (U HBU).size)) his)
  have HM:Hid (Below w.heap.size w w20):=(U HB).trans (((U HBU).trans (hb.mono (U HBU).size)).mono (U HB).size)
  clear HA HB HIN HBU his hb
  have HA:=HN
  have HB:=HM
  clear HN HM
  go_wp2_with fail
  refine (U HL w20 0 16).mono ?_
  rintro e u21 ⟨a21,c21,rfl,hin,hb⟩
  have HIN:=V hin
  have HBU:=V hb
  clear hin hb
  go_wp2_with fail
  refine (U HI0 u21 a21 c21 2 [(0,0),(16,0)] rfl (U HIN)).mono ?_
  rintro e w21 ⟨p21,q21,rfl,his,hb⟩
  have HN:=V (IsList.cons (U HA) ((U HBU).trans (hb.mono (U HBU).size)) his)
  have HM:Hid (Below w.heap.size w w21):=(U HB).trans (((U HBU).trans (hb.mono (U HBU).size)).mono (U HB).size)
  clear HA HB HIN HBU his hb
  have HA:=HN
  have HB:=HM
  clear HN HM
  go_wp2_with fail
  go_ret
  have hb:∀ cs:Array Value,Below w21.heap.size w21 (w21.alloc (.cells cs 239)):=fun cs=>below_box w21 _
  exact⟨w21.heap.size,[(p21,q21),(p20,q20),(p19,q19),(p18,q18),(p17,q17),(p16,q16),(p15,q15),(p14,q14),(p13,q13),(p12,q12),(p11,q11),(p10,q10),(p9,q9),(p8,q8),(p7,q7),(p6,q6),(p5,q5),(p4,q4),(p3,q3),(p2,q2),(p1,q1),(p0,q0)],rfl,Blk.new w21 _ _,⟨(U HA).1,fun j v s hv hs=>((U HA).2 j v s hv hs).below (hb _)⟩,(U HB).trans ((hb _).mono (U HB).size)⟩
end Go.Proofs.YtmeiikjpaepogaaGreatDoor
