/- The program's machine: one and two, over what they are given. -/
import Derived.Test.YtmeiikjpaepogaaGreatDoorE16
import Derived.Test.YtmeiikjpaepogaaGreatDoorE02
import Derived.Laws.CopyOwn
import Derived.Deep.RegionHeldLaw
set_option maxRecDepth 100000
set_option maxHeartbeats 8000000
namespace Go.Proofs.YtmeiikjpaepogaaGreatDoor
open Go Go.RowKit
theorem enter_func {F : FuncId} {fn : Func} (hfn : Tryz.prog.funcs[F]? = some fn) (hfa : (fn.name == "runtime.NumGoroutine") = false) (hfb : fn.body.isNone = false) (args : Array Value) (W : World) : (callFunc F args).run Tryz.prog W = .ok (.enter F args) W := by
  have h1 : fn.name ≠ "runtime.NumGoroutine" := by simpa using hfa
  have h2:fn.body≠none:=by intro e;rw[e]at hfb;cases hfb
  simp[callFunc,hfn,h1,h2]
theorem deed_two (B b tb : Nat) (vl : Value) (m : MS) (st : Int) (w : World) (h : PmE B w b tb vl m st) (arg x0 x1 x2 : Int) (hs : m.stack.length ≤ 1000) (fb : Nat) (F : FuncId) (hfb : Blk w fb #[.func (.func F) #[] #[]] 166) {fn : Func} (hfn : Tryz.prog.funcs[F]? = some fn) (hfa : (fn.name == "runtime.NumGoroutine") = false) (hfc : fn.body.isNone = false) (r : Int) (hr : Gives F #[.int .i64 x0, .int .i64 x1] r) :
    Calls Tryz.prog 162 #[.pointer (some ⟨b,0,none⟩),.int .i64 arg,.agg #[.int .i64 x0,.int .i64 x1,.int .i64 x2],.pointer (some ⟨fb,0,none⟩)] w (DeedPost B w b tb vl st { m with stack:=m.stack++[r] } 0):=by
  have HCF:Hid (∀ (args:Array Value) (W:World),(callFunc F args).run Tryz.prog W=.ok (.enter F args) W):=enter_func hfn hfa hfc
  have hb:=below_box2 w (.cells #[.int .i64 x0,.int .i64 x1,.int .i64 x2] 171) (.cells #[.int .i64 r] 2)
  have HP:=V (pmPush_any B b tb vl m st _ (h.below hb) (w.heap.size+1) 1 1 [r] rfl (numsAt_box _ _ _ _) (by omega))
  have HB:=V hb
  have hB:=h.size
  have hcf:=hfb.cell
  have hlf:=hfb.lt
  have HR:=V hr
  clear h hb hfb hr hfn hfa hfc
  go_enter Tryz.func162,Tryz.ntmps162
  go_wp2_with fail
  rw[U HCF]
  refine (U HR _).mono ?_
  rintro e w0 ⟨rfl,rfl⟩
  go_wp2_with fail
  refine (U HP).mono ?_
  rintro e w1 ⟨rfl,h1⟩
  have H1:=V h1
  clear h1 HP
  go_wp2_with fail
  go_ret
  exact PmPost.deed (U HB) hB (U H1)
theorem deed_one (B b tb : Nat) (vl : Value) (m : MS) (st : Int) (w : World) (h : PmE B w b tb vl m st) (arg x0 x1 x2 : Int) (hs : m.stack.length ≤ 1000) (fb : Nat) (F : FuncId) (hfb : Blk w fb #[.func (.func F) #[] #[]] 168) {fn : Func} (hfn : Tryz.prog.funcs[F]? = some fn) (hfa : (fn.name == "runtime.NumGoroutine") = false) (hfc : fn.body.isNone = false) (r : Int) (hr : Gives F #[.int .i64 x0] r) :
    Calls Tryz.prog 165 #[.pointer (some ⟨b,0,none⟩),.int .i64 arg,.agg #[.int .i64 x0,.int .i64 x1,.int .i64 x2],.pointer (some ⟨fb,0,none⟩)] w (DeedPost B w b tb vl st { m with stack:=m.stack++[r] } 0):=by
  have HCF:Hid (∀ (args:Array Value) (W:World),(callFunc F args).run Tryz.prog W=.ok (.enter F args) W):=enter_func hfn hfa hfc
  have hb:=below_box2 w (.cells #[.int .i64 x0,.int .i64 x1,.int .i64 x2] 171) (.cells #[.int .i64 r] 2)
  have HP:=V (pmPush_any B b tb vl m st _ (h.below hb) (w.heap.size+1) 1 1 [r] rfl (numsAt_box _ _ _ _) (by omega))
  have HB:=V hb
  have hB:=h.size
  have hcf:=hfb.cell
  have hlf:=hfb.lt
  have HR:=V hr
  clear h hb hfb hr hfn hfa hfc
  go_enter Tryz.func165,Tryz.ntmps165
  go_wp2_with fail
  rw[U HCF]
  refine (U HR _).mono ?_
  rintro e w0 ⟨rfl,rfl⟩
  go_wp2_with fail
  refine (U HP).mono ?_
  rintro e w1 ⟨rfl,h1⟩
  have H1:=V h1
  clear h1 HP
  go_wp2_with fail
  go_ret
  exact PmPost.deed (U HB) hB (U H1)
theorem not_any (a:Int) (ha:-9223372036854775808≤a∧a≤9223372036854775807):bits .xor .i64 (-1) a=-1-a:=by
  show IntKind.i64.wrap ((BitVec.ofInt 64 (-1) ^^^ BitVec.ofInt 64 a).toNat:Int)=_
  have h1:BitVec.ofInt 64 (-1)=BitVec.allOnes 64:=by decide
  rw[h1,BitVec.allOnes_xor,BitVec.toNat_not,BitVec.toNat_ofInt]
  rw[IntKind.wrap_i64]
  omega
theorem gives_invert (a:Int) (ha:-9223372036854775808≤a∧a≤9223372036854775807):Gives 111 #[.int .i64 a] (-1-a):=by
  intro W
  go_enter Tryz.func111,Tryz.ntmps111
  go_wp2
  go_ret
  refine⟨ret_int ?_,rfl⟩
  exact not_any a ha
def upS (a b:Int):Bool:=decide (a.tmod b<0∧0<b∨0<a.tmod b∧b<0)
theorem roundsUp_any (a b:Int) (h0:b≠0) (W:World):Calls Tryz.prog 164 #[.int .i64 a,.int .i64 b] W (fun e w'=>e=.returned (.bool (upS a b))∧w'=W):=by
  have hu:Hid (upS a b=decide (a.tmod b<0∧0<b∨0<a.tmod b∧b<0)):=rfl
  have hw:(a.tmod b<0∧b<0)∨(a.tmod b<0∧0<b)∨(0<a.tmod b∧b<0)∨(0<a.tmod b∧0<b)∨a.tmod b=0:=by omega
  have hb0:(b == 0)=false:=by simpa using h0
  generalize upS a b=u at *
  rcases hw with ⟨f1,f2⟩|⟨f1,f2⟩|⟨f1,f2⟩|⟨f1,f2⟩|f1
  all_goals
    go_enter Tryz.func164,Tryz.ntmps164
    go_wp2
    go_ret
    refine⟨congrArg (fun c=>Ending.returned (.bool c)) ?_,rfl⟩
    rw[U hu,Bool.eq_iff_iff]
    simp
    first|done|omega
theorem quot_eq (a b:Int) (h0:b≠0) (ha:-9223372036854775808≤a∧a≤9223372036854775807) (hb:-9223372036854775808≤b∧b≤9223372036854775807) :
    (upS a b=true→wrap64 (a.tdiv b)=a.tdiv b∧wrap64 (a.tdiv b-1)=divS a b∧wrap64 (a.tmod b+b)=modS a b)∧(upS a b=false→wrap64 (a.tdiv b)=divS a b∧a.tmod b=modS a b):=by
  by_cases h1:b=-1
  · subst h1
    have e1:a.tmod (-1)=0:=by rw[Int.tmod_neg,Int.tmod_one]
    have e2:a.tdiv (-1)=-a:=by rw[Int.tdiv_neg,Int.tdiv_one]
    have e3:upS a (-1)=false:=by unfold upS;rw[e1];simp
    rw[e3]
    refine⟨fun h=>by simp at h,fun _=>⟨?_,?_⟩⟩
    · unfold divS;rw[if_pos rfl,e2]
    · unfold modS;rw[if_pos rfl,e1]
  · obtain⟨e1,e2,e3,e4,e5,e6⟩:=div_facts a b h0 h1 ha hb
    by_cases hf:a.tmod b<0∧0<b∨0<a.tmod b∧b<0
    · have hu:upS a b=true:=by unfold upS;simpa using hf
      have hdv:divS a b=a.tdiv b-1:=by unfold divS;rw[if_neg h1,if_pos hf]
      have hmd:modS a b=a.tmod b+b:=by unfold modS;rw[if_neg h1,if_pos hf]
      obtain⟨e7,e8,e9⟩:=e6 hf
      rw[hu,hdv,hmd]
      refine⟨fun _=>⟨e1,?_,?_⟩,fun h=>by simp at h⟩
      · unfold wrap64;omega
      · unfold wrap64;omega
    · have hu:upS a b=false:=by unfold upS;simpa using hf
      have hdv:divS a b=a.tdiv b:=by unfold divS;rw[if_neg h1,if_neg hf]
      have hmd:modS a b=a.tmod b:=by unfold modS;rw[if_neg h1,if_neg hf]
      rw[hu,hdv,hmd]
      exact⟨fun h=>by simp at h,fun _=>⟨e1,rfl⟩⟩
theorem gives_quot (a b:Int) (h0:b≠0) (ha:-9223372036854775808≤a∧a≤9223372036854775807) (hb:-9223372036854775808≤b∧b≤9223372036854775807):Gives 105 #[.int .i64 a,.int .i64 b] (divS a b):=by
  intro W
  have HQ:=V (quot_eq a b h0 ha hb)
  have HR:=V (roundsUp_any a b h0 W)
  have hb0:(b == 0)=false:=by simpa using h0
  clear ha hb
  cases hu:upS a b
  · rw[hu]at HR
    have e1:=((U HQ).2 hu).1
    have HE:=V e1
    clear HQ hu e1
    go_enter Tryz.func105,Tryz.ntmps105
    go_wp2_with fail
    refine (U HR).mono ?_
    rintro e w0 ⟨rfl,rfl⟩
    go_wp2_with fail
    go_ret
    exact⟨ret_int (U HE),rfl⟩
  · rw[hu]at HR
    obtain⟨e0,e1,_⟩:=(U HQ).1 hu
    have HE:=V e1
    clear HQ hu e1
    go_enter Tryz.func105,Tryz.ntmps105
    go_wp2_with fail
    refine (U HR).mono ?_
    rintro e w0 ⟨rfl,rfl⟩
    go_wp2_with fail
    go_ret
    exact⟨ret_int (U HE),rfl⟩
theorem gives_rest (a b:Int) (h0:b≠0) (ha:-9223372036854775808≤a∧a≤9223372036854775807) (hb:-9223372036854775808≤b∧b≤9223372036854775807):Gives 106 #[.int .i64 a,.int .i64 b] (modS a b):=by
  intro W
  have HQ:=V (quot_eq a b h0 ha hb)
  have HR:=V (roundsUp_any a b h0 W)
  have hb0:(b == 0)=false:=by simpa using h0
  clear ha hb
  cases hu:upS a b
  · rw[hu]at HR
    have e1:=((U HQ).2 hu).2
    have HE:=V e1
    clear HQ hu e1
    go_enter Tryz.func106,Tryz.ntmps106
    go_wp2_with fail
    refine (U HR).mono ?_
    rintro e w0 ⟨rfl,rfl⟩
    go_wp2_with fail
    go_ret
    exact⟨ret_int (U HE),rfl⟩
  · rw[hu]at HR
    obtain⟨_,_,e1⟩:=(U HQ).1 hu
    have HE:=V e1
    clear HQ hu e1
    go_enter Tryz.func106,Tryz.ntmps106
    go_wp2_with fail
    refine (U HR).mono ?_
    rintro e w0 ⟨rfl,rfl⟩
    go_wp2_with fail
    go_ret
    exact⟨ret_int (U HE),rfl⟩
theorem DeedPost.no {B:Nat} {w w':World} {b tb:Nat} {vl:Value} {st:Int} {m:MS} {er:Int} (hb:Below w.heap.size w w') (h:PmE B w b tb vl m st):DeedPost B w b tb vl st m er (.returned (.int .i64 er)) w' :=
  ⟨rfl,h.below hb,KeepB.ofBelow hb,hb.mono h.size⟩
theorem deed_call_no (B b tb:Nat) (vl:Value) (m:MS) (st:Int) (w:World) (h:PmE B w b tb vl m st) (arg x0 x1 x2:Int) (hs:m.calls.length≤1000) (hq:m.lc≤m.calls.length) :
    Calls Tryz.prog 94 #[.pointer (some ⟨b,0,none⟩),.int .i64 arg,.agg #[.int .i64 x0,.int .i64 x1,.int .i64 x2]] w (DeedPost B w b tb vl st m 11):=by
  have hb:=below_box w (.cells #[.int .i64 x0,.int .i64 x1,.int .i64 x2] 171)
  have HH:=V h
  have hlt:=h.lt
  obtain⟨vS,vA,vC,vE,vO,h1⟩:=h.below hb
  obtain⟨aC,kC,hvC⟩:=own_shape h1.oC
  subst hvC
  have hc:=h1.blk.cell
  unfold pmArr at hc
  have HB:=V hb
  have hsI:(m.calls.length:Int)≤1000:=by omega
  clear h h1 hb
  go_enter Tryz.func94,Tryz.ntmps94
  go_wp2_with fail
  go_region
  go_wp2_with fail
  go_ret
  exact DeedPost.no (below_drew' (U HB)) (U HH)
theorem deed_call (B b tb:Nat) (vl:Value) (m:MS) (st:Int) (w:World) (h:PmE B w b tb vl m st) (arg x0 x1 x2:Int) (hs:m.calls.length≤1000) (hq:(m.calls.length:Int)<m.lc) :
    Calls Tryz.prog 94 #[.pointer (some ⟨b,0,none⟩),.int .i64 arg,.agg #[.int .i64 x0,.int .i64 x1,.int .i64 x2]] w (DeedPost B w b tb vl st { m with calls:=m.calls++[m.pc],pc:=arg } 0):=by
  obtain⟨i0,hi,hz0,hz1,hz2⟩:=info_parts Tryz.infoInt
  have hb:=below_box w (.cells #[.int .i64 x0,.int .i64 x1,.int .i64 x2] 171)
  have hB:=h.size
  have hlt:=h.lt
  obtain⟨vS,vA,vC,vE,vO,h1⟩:=h.below hb
  obtain⟨aC,kC,hvC⟩:=own_shape h1.oC
  subst hvC
  have hc:=h1.blk.cell
  unfold pmArr at hc
  have H1:=V h1
  have HB:=V hb
  have hsI:(m.calls.length:Int)≤1000:=by omega
  clear h h1 hb
  go_enter Tryz.func94,Tryz.ntmps94
  go_wp2_with fail
  go_region
  go_wp2_with fail
  -- the world ahead of the append
  have h2:=(U H1).below (below_drew' (Below.refl _ _))
  have hb2:=below_drew' (U HB)
  generalize (w.alloc (.cells #[.int .i64 x0,.int .i64 x1,.int .i64 x2] 171)).drew=W0 at h2 hb2 ⊢
  have hc2:=h2.blk.cell
  have hf2:=h2.blk.free
  unfold pmArr at hc2
  have hne2:=h2.off 2 _ rfl
  have HBLK:=V h2.blk
  unfold pmArr at HBLK
  have hbl:=h2.blk.lt
  have hbl1:b<W0.heap.size+1:=by omega
  have HW:=V (ownsRow_alloc h2.oC (.cells #[.int .i64 m.pc] 3))
  have HS:Hid (B≤(W0.alloc (.cells #[.int .i64 m.pc] 3)).drew.heap.size):=by
    have:=h2.size
    show B≤(W0.alloc _).heap.size
    simp;omega
  have H2:=V h2
  have HB2:=V hb2
  clear h2 hb2 hc H1 HB
  go_cut [] from 7 to 35 (fun wc=>PmE B wc b tb vl { m with calls:=m.calls++[m.pc] } st∧KeepB W0 wc∧Below B W0 wc)
  case first =>
    go_region_law (refine step_append_lies _ rfl (.tmp 22) (.tmp 27) 115 rfl B 3 i0 _ 1 8 Tryz.underlying115 hi hz0 hz1 hz2 rfl (by decide) (.slice aC m.calls.length kC) m.calls.length (intCells m.calls) (by simp[Act.eval]) (U HW) ⟨W0.heap.size,0,none⟩ 1 1 [.int .i64 m.pc] (by simp[Act.eval]) rfl (World.news_of_block (Blk.new W0 _ _)) (oneCells1 _) (by omega) (by unfold maxLen;omega) (by omega) (U HS) _ rfl ?_;intro g cap w3 hown hgrow hat hlt1;have hb1:=((U HBLK).alloc _).drew.grown hgrow hne2;have hc1:=hb1.cell;have hf1:=hb1.free;have HO:=V hown;have HG:=V hgrow;have HA:=V hat;clear hown hgrow hat hb1)
    all_goals
      go_wp2_with fail
      go_meet
      obtain⟨k1,k2,k3⟩:=(U H2).grow 2 11 _ (.slice (some ⟨g,0,none⟩) (m.calls.length+1) cap) ⟨3,1,m.calls.length+1,intCells (m.calls++[m.pc])⟩ { m with calls:=m.calls++[m.pc] } vS vA (.slice (some ⟨g,0,none⟩) (m.calls.length+1) cap) vE vO rfl (grownBy_alloc (U HG)) (by rw[intCells_app];exact U HO) (lies_at (U HA) (by simp)) (by simp[pmArr]) rfl (by simp[pmRows])
      exact⟨⟨_,_,_,_,_,k1⟩,k2,k3⟩
  case rest =>
    obtain⟨⟨uS,uA,uC,uE,uO,h3⟩,hk3,hb3⟩:=hcut
    have hc3:=h3.blk.cell
    have hf3:=h3.blk.free
    unfold pmArr at hc3
    have H3:=V (And.intro h3 (And.intro hk3 hb3))
    clear h3 hk3 hb3 hc2 hf2
    go_wp2_with fail
    go_ret
    obtain⟨h3,hk3,hb3⟩:=U H3
    obtain⟨k1,k2,k3⟩:=h3.field 6 (.int .i64 arg) { m with calls:=m.calls++[m.pc],pc:=arg } st (by simp[pmArr]) rfl
    exact PmPost.deed (U HB2) hB ⟨⟨_,_,_,_,_,k1⟩,hk3.trans k2,hb3.trans k3⟩
theorem deed_ret_no (B b tb:Nat) (vl:Value) (m:MS) (st:Int) (w:World) (h:PmE B w b tb vl m st) (arg x0 x1 x2:Int) (hq:m.calls=[]) :
    Calls Tryz.prog 95 #[.pointer (some ⟨b,0,none⟩),.int .i64 arg,.agg #[.int .i64 x0,.int .i64 x1,.int .i64 x2]] w (DeedPost B w b tb vl st m 11):=by
  have hb:=below_box w (.cells #[.int .i64 x0,.int .i64 x1,.int .i64 x2] 171)
  have HH:=V h
  have hlt:=h.lt
  obtain⟨vS,vA,vC,vE,vO,h1⟩:=h.below hb
  obtain⟨aC,kC,hvC⟩:=own_shape h1.oC
  rw[hq,List.length_nil]at hvC
  subst hvC
  have hc:=h1.blk.cell
  unfold pmArr at hc
  have HB:=V hb
  clear h h1 hb
  go_enter Tryz.func95,Tryz.ntmps95
  go_wp2_with fail
  go_ret
  exact DeedPost.no (U HB) (U HH)
theorem deed_ret (B b tb:Nat) (vl:Value) (m:MS) (st:Int) (w:World) (h:PmE B w b tb vl m st) (arg x0 x1 x2:Int) (l:List Int) (y:Int) (he:m.calls=l++[y]) (hs:m.calls.length≤1000) :
    Calls Tryz.prog 95 #[.pointer (some ⟨b,0,none⟩),.int .i64 arg,.agg #[.int .i64 x0,.int .i64 x1,.int .i64 x2]] w (DeedPost B w b tb vl st { m with calls:=l,pc:=y } 0):=by
  have hlt:=h.lt
  obtain⟨vS,vA,vC,vE,vO,h0⟩:=h
  have hn:m.calls.length=l.length+1:=by rw[he];simp
  obtain⟨g,k,hv,hg,hgl⟩:=h0.oC.form (by omega)
  subst hv
  have ho:=h0.oC
  rw[hn]at ho
  have hx:=own_cell ho l.length (by omega)
  rw[he,intCells_last]at hx
  have hsI:(l.length:Int)≤1000:=by omega
  have hk:(l.length:Int)+1≤k:=by have:=(own_cap ho).1;omega
  have hb1:=h0.blk
  unfold pmArr at hb1
  rw[hn]at hb1
  have hc:=hb1.cell
  have hf:=hb1.free
  obtain⟨k1,k2,k3⟩:=h0.field 6 (.int .i64 y) { m with pc:=y } st (by simp[pmArr]) rfl
  have hown:=own_cut k1.oC l.length (by show l.length≤m.calls.length;omega)
  have hcal:intCells ({ m with pc:=y }:MS).calls=intCells (l++[y]):=by rw[he]
  rw[hcal,intCells_take]at hown
  obtain⟨n1,n2,n3⟩:=k1.grow 2 11 _ (.slice (some ⟨g,0,none⟩) l.length k) ⟨3,1,l.length,intCells l⟩ { m with calls:=l,pc:=y } vS vA (.slice (some ⟨g,0,none⟩) l.length k) vE vO rfl (World.grownBy.refl _ _) hown (Or.inl rfl) (by simp[pmArr]) rfl (by simp[pmRows])
  have HK:=V (And.intro (⟨_,_,_,_,_,n1⟩:PmE B _ b tb vl { m with calls:=l,pc:=y } st) (And.intro (k2.trans n2) (k3.trans n3)))
  have hgb:g≠b:=fun e=>h0.off 2 _ rfl (by simp[Value.ownBlock,e])
  have hbg:b≠g:=fun e=>hgb e.symm
  have hne:b≠w.heap.size:=by omega
  clear h0 k1 k2 k3 n1 n2 n3 hown hb1 ho hcal
  go_enter Tryz.func95,Tryz.ntmps95
  go_wp2_with fail
  go_ret
  exact DeedPost.boxed _ (U HK).1 (U HK).2.1 (U HK).2.2
theorem deed_store_no (B b tb:Nat) (vl:Value) (m:MS) (st:Int) (w:World) (h:PmE B w b tb vl m st) (arg x0 x1 x2:Int) (hs:m.cells.length≤1000) (hq:x1<0∨(m.cells.length:Int)≤x1) :
    Calls Tryz.prog 119 #[.pointer (some ⟨b,0,none⟩),.int .i64 arg,.agg #[.int .i64 x0,.int .i64 x1,.int .i64 x2]] w (DeedPost B w b tb vl st m 12):=by
  have hb:=below_drew' (below_box w (.cells #[.int .i64 x0,.int .i64 x1,.int .i64 x2] 171))
  have HC:=V (pmHas_any B b tb vl m st _ (h.below hb) x1 hs)
  have e:(decide (0≤x1)&&decide (x1<(m.cells.length:Int)))=false:=by
    rcases hq with hq|hq
    · simp;omega
    · simp;omega
  rw[e]at HC
  have HH:=V h
  have HB:=V hb
  clear h hb e
  go_enter Tryz.func119,Tryz.ntmps119
  go_wp2_with fail
  go_region
  go_wp2_with fail
  refine (U HC).mono ?_
  rintro e w1 ⟨rfl,rfl⟩
  go_wp2_with fail
  go_ret
  exact DeedPost.no (U HB) (U HH)
theorem deed_fetch_no (B b tb:Nat) (vl:Value) (m:MS) (st:Int) (w:World) (h:PmE B w b tb vl m st) (arg x0 x1 x2:Int) (hs:m.cells.length≤1000) (hq:x0<0∨(m.cells.length:Int)≤x0) :
    Calls Tryz.prog 120 #[.pointer (some ⟨b,0,none⟩),.int .i64 arg,.agg #[.int .i64 x0,.int .i64 x1,.int .i64 x2]] w (DeedPost B w b tb vl st m 12):=by
  have hb:=below_box w (.cells #[.int .i64 x0,.int .i64 x1,.int .i64 x2] 171)
  have HC:=V (pmHas_any B b tb vl m st _ (h.below hb) x0 hs)
  have e:(decide (0≤x0)&&decide (x0<(m.cells.length:Int)))=false:=by
    rcases hq with hq|hq
    · simp;omega
    · simp;omega
  rw[e]at HC
  have HH:=V h
  have HB:=V hb
  clear h hb e
  go_enter Tryz.func120,Tryz.ntmps120
  go_wp2_with fail
  refine (U HC).mono ?_
  rintro e w1 ⟨rfl,rfl⟩
  go_wp2_with fail
  go_ret
  exact DeedPost.no (U HB) (U HH)
theorem deed_fetch (B b tb:Nat) (vl:Value) (m:MS) (st:Int) (w:World) (h:PmE B w b tb vl m st) (arg:Int) (k:Nat) (x1 x2 y:Int) (hs:m.cells.length≤1000∧m.stack.length≤1000) (hq:m.cells[k]? = some y) :
    Calls Tryz.prog 120 #[.pointer (some ⟨b,0,none⟩),.int .i64 arg,.agg #[.int .i64 k,.int .i64 x1,.int .i64 x2]] w (DeedPost B w b tb vl st { m with stack:=m.stack++[y] } 0):=by
  have hkl:=(List.getElem?_eq_some_iff.1 hq).1
  have hb:=below_box w (.cells #[.int .i64 k,.int .i64 x1,.int .i64 x2] 171)
  have HC:=V (pmHas_any B b tb vl m st _ (h.below hb) k hs.1)
  have e:(decide (0≤(k:Int))&&decide ((k:Int)<(m.cells.length:Int)))=true:=by simp;omega
  rw[e]at HC
  have HP:Hid (Calls Tryz.prog 158 #[.pointer (some ⟨b,0,none⟩),.slice (some ⟨w.heap.size+1,0,none⟩) 1 1] ((w.alloc (.cells #[.int .i64 k,.int .i64 x1,.int .i64 x2] 171)).alloc (.cells #[.int .i64 y] 2)) (PmPost B ((w.alloc (.cells #[.int .i64 k,.int .i64 x1,.int .i64 x2] 171)).alloc (.cells #[.int .i64 y] 2)) b tb vl { m with stack:=m.stack++[y] } st (.tuple #[]))):=pmPush_any B b tb vl m st _ (h.below (below_box2 _ _ _)) _ 1 1 [y] rfl (numsAt_box _ _ _ _) (by omega)
  have hB:=h.size
  have HB:=V (below_box2 w (.cells #[.int .i64 k,.int .i64 x1,.int .i64 x2] 171) (.cells #[.int .i64 y] 2))
  obtain⟨vS,vA,vC,vE,vO,h0⟩:=h
  obtain⟨g,c,hv,hg,hgl⟩:=h0.oE.form (by omega)
  subst hv
  have hc:=h0.blk.cell
  unfold pmArr at hc
  have hbl:=h0.blk.lt
  have hx:=own_cell h0.oE k (by omega)
  have hx2:(intCells m.cells)[k]? = some (.int .i64 y):=by simp[intCells,hq]
  rw[hx2]at hx
  have hkI:(k:Int)<m.cells.length:=by omega
  have hsI:(m.cells.length:Int)≤1000:=by omega
  clear h0 hb e hx2 hq
  go_enter Tryz.func120,Tryz.ntmps120
  go_wp2_with fail
  refine (U HC).mono ?_
  rintro e w1 ⟨rfl,rfl⟩
  go_wp2_with fail
  refine (U HP).mono ?_
  rintro e w2 ⟨rfl,h1⟩
  have H1:=V h1
  clear h1 HP HC
  go_wp2_with fail
  go_ret
  exact PmPost.deed (U HB) hB (U H1)
theorem deed_div_no (B b tb:Nat) (vl:Value) (m:MS) (st:Int) (w:World) (h:PmE B w b tb vl m st) (arg x0 x2:Int) (gb:Nat) :
    Calls Tryz.prog 163 #[.pointer (some ⟨b,0,none⟩),.int .i64 arg,.agg #[.int .i64 x0,.int .i64 0,.int .i64 x2],.pointer (some ⟨gb,0,none⟩)] w (DeedPost B w b tb vl st m 13):=by
  have hb:=below_box w (.cells #[.int .i64 x0,.int .i64 0,.int .i64 x2] 171)
  have HB:=V hb
  have HH:=V h
  clear h hb
  go_enter Tryz.func163,Tryz.ntmps163
  go_wp2_with fail
  go_ret
  exact DeedPost.no (U HB) (U HH)
theorem deed_div (B b tb : Nat) (vl : Value) (m : MS) (st : Int) (w : World) (h : PmE B w b tb vl m st) (arg x0 x1 x2 : Int) (hs : m.stack.length ≤ 1000) (gb fb : Nat) (F : FuncId) (hgb : Blk w gb #[.func (.func 162) #[] #[.pointer (some ⟨fb, 0, none⟩)]] 108) (hfb : Blk w fb #[.func (.func F) #[] #[]] 166) {fn : Func} (hfn : Tryz.prog.funcs[F]? = some fn) (hfa : (fn.name == "runtime.NumGoroutine") = false) (hfc : fn.body.isNone = false) (r : Int) (h0 : x1 ≠ 0) (hr : Gives F #[.int .i64 x0, .int .i64 x1] r) :
    Calls Tryz.prog 163 #[.pointer (some ⟨b,0,none⟩),.int .i64 arg,.agg #[.int .i64 x0,.int .i64 x1,.int .i64 x2],.pointer (some ⟨gb,0,none⟩)] w (DeedPost B w b tb vl st { m with stack:=m.stack++[r] } 0):=by
  have hb:=below_box w (.cells #[.int .i64 x0,.int .i64 x1,.int .i64 x2] 171)
  have hB:=h.size
  have hx0:(x1 == 0)=false:=by simpa using h0
  have HP:=V (deed_two B b tb vl m st _ (h.below hb) arg x0 x1 x2 hs fb F (hfb.below hb hfb.lt) hfn hfa hfc r hr)
  have HB:=V hb
  have hcg:=hgb.cell
  have hlg:=hgb.lt
  clear h hb hfb hr hfn hfa hfc hgb
  go_enter Tryz.func163,Tryz.ntmps163
  go_wp2_with fail
  refine (U HP).mono ?_
  rintro e w1 ⟨rfl,h1⟩
  have H1:=V h1
  clear h1 HP
  go_wp2_with fail
  go_ret
  exact PmPost.deed (U HB) hB (U H1)
def valAt (x0 x1 x2:Int) (p:Nat):Int:=if p=0 then x0 else if p=1 then x1 else x2
def PlacesAt (B:Nat) (w:World) (qo:Option Addr) (ps:List Nat):Prop:=∀ (j p:Nat),ps[j]? = some p→p<3∧∃ q,qo=some ⟨q,0,none⟩∧q<B∧w.cell? ⟨q,j,none⟩=some (.int .i64 p)
theorem PlacesAt.to {B:Nat} {w w':World} {qo:Option Addr} {ps:List Nat} (h:PlacesAt B w qo ps) (hb:Below B w w'):PlacesAt B w' qo ps:=by
  intro j p hj
  obtain⟨h1,q,h2,h3,h4⟩:=h j p hj
  exact⟨h1,q,h2,h3,by rw[hb.cell (by simpa using h3)];exact h4⟩
theorem PmPost.step {B:Nat} {w w0 w1 w':World} {b tb:Nat} {vl:Value} {st:Int} {m:MS} (hk:KeepB w w0) (hb:Below B w w0) (ha:Below w0.heap.size w0 w1) (hB:B≤w0.heap.size) (h:PmE B w' b tb vl m st∧KeepB w1 w'∧Below B w1 w'):PmE B w' b tb vl m st∧KeepB w w'∧Below B w w' :=
  ⟨h.1,hk.trans ((KeepB.ofBelow ha).trans h.2.1),hb.trans ((ha.mono hB).trans h.2.2)⟩
theorem deed_order (B b tb:Nat) (vl:Value) (m:MS) (st:Int) (w:World) (h:PmE B w b tb vl m st) (arg x0 x1 x2:Int) (hs:m.stack.length≤1000) (pb c:Nat) (qo:Option Addr) (ps:List Nat) (hpb:Blk w pb #[.slice qo ps.length c] 115) (hat:PlacesAt B w qo ps) (hps:ps.length≤3) :
    Calls Tryz.prog 166 #[.pointer (some ⟨b,0,none⟩),.int .i64 arg,.agg #[.int .i64 x0,.int .i64 x1,.int .i64 x2],.pointer (some ⟨pb,0,none⟩)] w (DeedPost B w b tb vl st { m with stack:=m.stack++ps.map (valAt x0 x1 x2) } 0):=by
  have hb:=below_box w (.cells #[.int .i64 x0,.int .i64 x1,.int .i64 x2] 171)
  have hnew:=Blk.new w #[.int .i64 x0,.int .i64 x1,.int .i64 x2] 171
  have hB:=h.size
  have hcp:=hpb.cell
  have hlp:=hpb.lt
  have HB:=V hb
  have HN:=V hnew
  have HH:=V (h.below hb)
  have HA:=V hat
  have hpsI:(ps.length:Int)≤3:=by omega
  clear h hb hnew hpb hat
  go_enter Tryz.func166,Tryz.ntmps166
  go_wp2_with fail
  go_loopw [12] (fun i wr=>∃ k:Nat,i=.int .i64 k∧k≤ps.length∧PmE B wr b tb vl { m with stack:=m.stack++(ps.take k).map (valAt x0 x1 x2) } st∧KeepB (w.alloc (.cells #[.int .i64 x0,.int .i64 x1,.int .i64 x2] 171)) wr∧Below B (w.alloc (.cells #[.int .i64 x0,.int .i64 x1,.int .i64 x2] 171)) wr) (fun i _=>ps.length-(intOf i).toNat)
  case atStart=>exact⟨0,rfl,Nat.zero_le _,by simpa using U HH,KeepB.refl _,Below.refl _ _⟩
  case round =>
    obtain⟨k,rfl,hk,hm,hkb,hbl⟩:=hrel
    have hbox:=hkb _ _ _ (U HN) (Or.inl rfl)
    have hcb:=hbox.cell
    have hlb:=hbox.lt
    by_cases hlt:k<ps.length
    · obtain⟨p,hp⟩:∃ p,ps[k]? = some p:=⟨_,List.getElem?_eq_getElem hlt⟩
      obtain⟨hp3,q,rfl,hqB,hqc⟩:=((U HA).to (((U HB).mono hB).trans hbl)) k p hp
      have hltI:(k:Int)<ps.length:=by omega
      have hT:(ps.take (k+1)).map (valAt x0 x1 x2)=(ps.take k).map (valAt x0 x1 x2)++[valAt x0 x1 x2 p]:=by
        rw[List.take_add_one,hp];simp
      have hlen:(m.stack++(ps.take k).map (valAt x0 x1 x2)).length≤2000∧1≤10:=by simp;omega
      have hbn:=below_box wr (.cells #[.int .i64 (valAt x0 x1 x2 p)] 2)
      have HP:=V (pmPush_any B b tb vl _ st _ (hm.below hbn) wr.heap.size 1 1 [valAt x0 x1 x2 p] rfl (NumsAt.new _ _ _) hlen)
      have HBN:=V hbn
      have HT:=V hT
      have HKB:=V hkb
      have HBL:=V hbl
      have hBr:=hm.size
      have hql:q<wr.heap.size:=by omega
      have h012:p=0∨p=1∨p=2:=by omega
      clear hm hkb hbl hbn hT hbox hlen hp hp3 HH HN hcp
      rcases h012 with rfl|rfl|rfl
      all_goals
        simp only[valAt]at HP HBN
        go_wp2_with fail
        refine (U HP).mono ?_
        rintro e w1 ⟨rfl,h1⟩
        have H1:=V h1
        clear h1 HP
        go_wp2_with fail
        go_roundw
        case rel =>
          obtain⟨k1,k2,k3⟩:=PmPost.step (U HKB) (U HBL) (U HBN) hBr (U H1)
          refine⟨k+1,by go_num,by omega,?_,k2,k3⟩
          rw[U HT]
          simpa [valAt] using k1
        case measure=>simp[intOf];omega
    · have hkk:k=ps.length:=by omega
      subst hkk
      have HM:=V hm
      have HKB:=V hkb
      have HBL:=V hbl
      clear hm hkb hbl hbox hcp
      go_wp2_with fail
      go_ret
      have:=U HM
      rw[List.take_length]at this
      exact PmPost.deed (U HB) hB ⟨this,U HKB,U HBL⟩
def nth (r:List Int) (i:Nat):Int:=r[i]?.getD 0
theorem splice_three (r:List Int) (h:r.length≤3):(splice [Value.int .i64 0,.int .i64 0,.int .i64 0] 0 (intCells r)).toArray=#[.int .i64 (nth r 0),.int .i64 (nth r 1),.int .i64 (nth r 2)]:=by
  match r,h with
  | [],_=>simp[splice,intCells,nth]
  | [a],_=>simp[splice,intCells,nth]
  | [a,b],_=>simp[splice,intCells,nth]
  | [a,b,c],_=>simp[splice,intCells,nth]
  | _ :: _ :: _ :: _ :: _,h=>simp at h
theorem Tryz.infoSz:(Tryz.prog.info? 2).map (·.size)=some 1:=by kernel_rfl
theorem add_off (g n j:Nat):(⟨g,n,none⟩:Addr).add j=⟨g,n+j,none⟩:=by
  by_cases h:j=0<;>simp[Addr.add,h]
theorem Tryz.sizeValues:(Tryz.prog.info? 171).map (fun i=>i.size)=some 3:=by kernel_rfl
def Taken (B:Nat) (w:World) (b tb:Nat) (vl:Value) (m:MS) (st:Int) (y0 y1 y2:Int) (e:Ending) (w':World):Prop:=e=.returned (.agg #[.int .i64 y0,.int .i64 y1,.int .i64 y2])∧PmE B w' b tb vl m st∧KeepB w w'∧Below B w w'
theorem below_both {n b c:Nat} {w wc:World} {cs:Array Value} {T:TypeId} (h:Below n w wc) (hb:Blk w b cs T) (hlt:b<n) (v:Value):Below n (w.setCell ⟨b,c,none⟩ v) (wc.setCell ⟨b,c,none⟩ v):=by
  refine⟨h.os,h.tape,h.output,by simpa [World.setCell] using h.size,fun k hk=>?_⟩
  by_cases e:k=b
  · subst e
    exact ((hb.below h hlt).set c v).trans (hb.set c v).symm
  · rw[Below.heap_setCell _ _ _ _ (by simpa using e),Below.heap_setCell _ _ _ _ (by simpa using e)]
    exact h.block k hk
theorem pmTake_some (B b tb:Nat) (vl:Value) (m:MS) (st:Int) (w:World) (g k:Nat) (vA vC vE vO:Value) (h:Pm B w b tb vl m st (.slice (some ⟨g,0,none⟩) m.stack.length k) vA vC vE vO) (l r:List Int) (he:m.stack=l++r) (hr:r.length≤3) (hs:m.stack.length≤1000) :
    Calls Tryz.prog 171 #[.pointer (some ⟨b,0,none⟩),.int .i64 r.length] w (Taken B w b tb vl { m with stack:=l } st (nth r 0) (nth r 1) (nth r 2)):=by
  have hn:m.stack.length=l.length+r.length:=by rw[he];simp
  have hown:=own_cut h.oS l.length (by omega)
  rw[he,intCells_take]at hown
  have hk:(l.length:Int)+r.length≤k:=by have:=(own_cap h.oS).1;omega
  have hsrc:∀ (j:Nat) (v:Value),(intCells r)[j]? = some v→w.cell? ((⟨g,l.length,none⟩:Addr).add j)=some v:=by
    intro j v hj
    have hjl:j<r.length:=by have:=(List.getElem?_eq_some_iff.1 hj).1;simpa [intCells] using this
    have:=own_cell h.oS (l.length+j) (by omega)
    rw[add_off,this,he,← hj]
    unfold intCells
    rw[List.map_append,List.getElem?_append_right (by simp)]
    simp
  have hb:=h.blk
  unfold pmArr at hb
  rw[hn]at hb
  have hc:=hb.cell
  have hf:=hb.free
  have hbl:=hb.lt
  have hgl:g<w.heap.size:=(ownsRow_lt h.oS rfl).1
  have HH:=V h
  have HS:=V hsrc
  have HO:=V hown
  have HST:=V (splice_three r hr)
  clear hb h hown hsrc
  have hln:Hid (l.length=l.length):=rfl
  generalize hln':l.length=n at *
  generalize hrn:r.length=rn at *
  have h1:(n:Int)≤1000:=by omega
  have h2:(rn:Int)≤3:=by omega
  have hk2:(n:Int)≤k:=by omega
  have hwr:IntKind.i64.wrap ((n:Int)+rn-rn)=n:=by rw[IntKind.wrap_i64];omega
  have hsub:(n:Int)+rn-rn=n:=by omega
  have hnr:((n+rn:Nat):Int)=(n:Int)+rn:=by omega
  have HZ:Hid ((((w.alloc (.cells #[.int .i64 0,.int .i64 0,.int .i64 0] 171)).alloc (.cells #[.int .i64 0,.int .i64 0,.int .i64 0] 171)).drew).heap[w.heap.size+1]? = some (.cells [Value.int .i64 0,.int .i64 0,.int .i64 0].toArray 171 (0,0))):=by
    have:=Blk.new (w.alloc (.cells #[.int .i64 0,.int .i64 0,.int .i64 0] 171)) #[.int .i64 0,.int .i64 0,.int .i64 0] 171
    rw[size_up']at this
    exact this.drew
  have HB2:Hid (Below (w.heap.size+1) (w.alloc (.cells #[.int .i64 0,.int .i64 0,.int .i64 0] 171)) (((w.alloc (.cells #[.int .i64 0,.int .i64 0,.int .i64 0] 171)).alloc (.cells #[.int .i64 0,.int .i64 0,.int .i64 0] 171)).drew)):=by
    have:=below_drew' (below_box (w.alloc (.cells #[.int .i64 0,.int .i64 0,.int .i64 0] 171)) (.cells #[.int .i64 0,.int .i64 0,.int .i64 0] 171))
    rw[size_up']at this
    exact this
  have HS2:Hid (∀ (j:Nat) (v:Value),(intCells r)[j]? = some v→(((w.alloc (.cells #[.int .i64 0,.int .i64 0,.int .i64 0] 171)).alloc (.cells #[.int .i64 0,.int .i64 0,.int .i64 0] 171)).drew).cell? ((⟨g,n,none⟩:Addr).add j)=some v):=by
    intro j v hj
    have:=U HS j v hj
    rw[add_off]at this ⊢
    rw[(below_drew' (below_box2 w _ _)).cell (by simpa using hgl)]
    exact this
  have HL:Hid ((intCells r).length=Nat.min rn 3):=by
    show (intCells r).length=Nat.min rn 3
    rw[intCells_len,hrn]
    exact (Nat.min_eq_left hr).symm
  have HF:Hid (0+(intCells r).length≤[Value.int .i64 0,.int .i64 0,.int .i64 0].length):=by
    show 0+(intCells r).length≤3
    rw[intCells_len,hrn];omega
  have hnn:(n:Int)≤(n:Int)+rn:=by omega
  obtain⟨o,hko,HPO⟩:∃ o,(if k=n then some (⟨g,0,none⟩:Addr) else some ⟨g,n,none⟩)=some ⟨g,o,none⟩∧Hid (0<(intCells r).length→∃ ad,some (⟨g,o,none⟩:Addr)=some ad∧∀ (j:Nat) (v:Value),(intCells r)[j]? = some v→(((w.alloc (.cells #[.int .i64 0,.int .i64 0,.int .i64 0] 171)).alloc (.cells #[.int .i64 0,.int .i64 0,.int .i64 0] 171)).drew).cell? (ad.add j)=some v):=by
    by_cases e:k=n
    · refine⟨0,by rw[if_pos e],fun hp=>?_⟩
      rw[intCells_len,hrn]at hp
      omega
    · exact⟨n,by rw[if_neg e],fun _=>⟨_,rfl,U HS2⟩⟩
  clear HS HS2
  generalize nth r 0=y0 at *
  generalize nth r 1=y1 at *
  generalize nth r 2=y2 at *
  go_enter Tryz.func171,Tryz.ntmps171
  go_wp2_with fail
  go_cut [] from 14 to 32 (fun wc=>Blk wc (w.heap.size+1) #[.int .i64 y0,.int .i64 y1,.int .i64 y2] 171∧Below (w.heap.size+1) (w.alloc (.cells #[.int .i64 0,.int .i64 0,.int .i64 0] 171)) wc)
  case first =>
    go_region_law (refine step_copy_splice rfl (.tmp 14) (.tmp 20) 42 42 rfl 2 Tryz.underlying42 Tryz.infoSz (some ⟨w.heap.size+1,0,none⟩) (some ⟨g,o,none⟩) 3 3 rn (k-n) (by first|(simp[Act.eval];done)|(simp[Act.eval,Act.put];done)|rfl) (by first|(simp[Act.eval];done)|(simp[Act.eval,Act.put];done)|rfl) (w.heap.size+1) 0 [.int .i64 0,.int .i64 0,.int .i64 0] 171 (U HZ) (intCells r) (U HL) (fun hp=>⟨rfl,U HPO hp⟩) (U HF) (int_oneCell _) (w.heap.size+1) (w.alloc (.cells #[.int .i64 0,.int .i64 0,.int .i64 0] 171)) (U HB2) (Nat.le_refl _) ?_;intro w4 hg4 hb4)
    all_goals
      go_wp2_with fail
      go_meet
      have hz:=U hg4
      rw[U HST]at hz
      exact⟨hz,hb4⟩
  case rest =>
    obtain⟨hx,hbc⟩:=hcut
    have hzero:=(Blk.new w #[.int .i64 0,.int .i64 0,.int .i64 0] 171).below hbc (by omega)
    have hbw:Below w.heap.size w wc:=(below_box w _).trans (hbc.mono (by omega))
    have hm:=(U HH).below hbw
    have hbk:=hm.blk
    unfold pmArr at hbk
    rw[hn]at hbk
    have hc1:=hbk.cell
    have hf1:=hbk.free
    have hcx:=hx.cell
    have hcz:=hzero.cell
    have hfz:=hzero.free
    have hlx:=hx.lt
    have hne1:¬ b=w.heap.size:=by omega
    have hne2:¬ b=w.heap.size+1:=by omega
    have HBW:=V hbw
    have HZR:=V (hzero.far (a:=⟨b,9,none⟩) (by simp;omega) (.slice (some ⟨g,0,none⟩) n k))
    clear hx hbc hzero hbw hm hbk hc hf
    go_wp2_with fail
    have hR:=(((U HZR).set 0 (.int .i64 y0)).set 1 (.int .i64 y1)).set 2 (.int .i64 y2)
    simp only[List.setIfInBounds_toArray,List.set_cons_succ,List.set_cons_zero]at hR
    refine bodyPost_ret (results_cell_row (P:=Tryz.prog) rfl _ _ w.heap.size 171 _ (0,0) _ rfl hR Tryz.underlying171 rfl Tryz.sizeValues) rfl ?_
    obtain⟨k1,k2,k3⟩:=(U HH).grow 0 9 _ (.slice (some ⟨g,0,none⟩) n k) ⟨2,1,n,intCells l⟩ { m with stack:=l } (.slice (some ⟨g,0,none⟩) n k) vA vC vE vO rfl (World.grownBy.refl _ _) (U HO) (Or.inl rfl) (by simp[pmArr]) rfl (by simp[pmRows,hln'])
    have hbb:=(((below_both (c:=9) (U HBW) (U HH).blk (U HH).blk.lt (.slice (some ⟨g,0,none⟩) n k)).setCell (p:=⟨w.heap.size,0,none⟩) (Nat.le_refl _) (.int .i64 y0)).setCell (p:=⟨w.heap.size,1,none⟩) (Nat.le_refl _) (.int .i64 y1)).setCell (p:=⟨w.heap.size,2,none⟩) (Nat.le_refl _) (.int .i64 y2)
    have hsz:(w.setCell ⟨b,9,none⟩ (.slice (some ⟨g,0,none⟩) n k)).heap.size=w.heap.size:=by simp
    exact⟨rfl,⟨_,_,_,_,_,k1.below (by rw[hsz];exact hbb)⟩,k2.trans (KeepB.ofBelow (by rw[hsz];exact hbb)),k3.trans (hbb.mono (U HH).size)⟩
theorem pmTake_none (B b tb:Nat) (vl:Value) (m:MS) (st:Int) (w:World) (vA vC vE vO:Value) (h:Pm B w b tb vl m st (.slice none 0 0) vA vC vE vO) :
    Calls Tryz.prog 171 #[.pointer (some ⟨b,0,none⟩),.int .i64 0] w (Taken B w b tb vl m st 0 0 0):=by
  have hb:=h.blk
  unfold pmArr at hb
  have hc:=hb.cell
  have hf:=hb.free
  have hbl:=hb.lt
  have HH:=V h
  clear hb h
  have HZ:Hid ((((w.alloc (.cells #[.int .i64 0,.int .i64 0,.int .i64 0] 171)).alloc (.cells #[.int .i64 0,.int .i64 0,.int .i64 0] 171)).drew).heap[w.heap.size+1]? = some (.cells [Value.int .i64 0,.int .i64 0,.int .i64 0].toArray 171 (0,0))):=by
    have:=Blk.new (w.alloc (.cells #[.int .i64 0,.int .i64 0,.int .i64 0] 171)) #[.int .i64 0,.int .i64 0,.int .i64 0] 171
    rw[size_up']at this
    exact this.drew
  have HB2:Hid (Below (w.heap.size+1) (w.alloc (.cells #[.int .i64 0,.int .i64 0,.int .i64 0] 171)) (((w.alloc (.cells #[.int .i64 0,.int .i64 0,.int .i64 0] 171)).alloc (.cells #[.int .i64 0,.int .i64 0,.int .i64 0] 171)).drew)):=by
    have:=below_drew' (below_box (w.alloc (.cells #[.int .i64 0,.int .i64 0,.int .i64 0] 171)) (.cells #[.int .i64 0,.int .i64 0,.int .i64 0] 171))
    rw[size_up']at this
    exact this
  go_enter Tryz.func171,Tryz.ntmps171
  go_wp2_with fail
  go_cut [] from 14 to 32 (fun wc=>Blk wc (w.heap.size+1) #[.int .i64 0,.int .i64 0,.int .i64 0] 171∧Below (w.heap.size+1) (w.alloc (.cells #[.int .i64 0,.int .i64 0,.int .i64 0] 171)) wc)
  case first =>
    go_region_law (refine step_copy_splice rfl (.tmp 14) (.tmp 20) 42 42 rfl 2 Tryz.underlying42 Tryz.infoSz (some ⟨w.heap.size+1,0,none⟩) none 3 3 0 0 (by first|(simp[Act.eval];done)|(simp[Act.eval,Act.put];done)|rfl) (by first|(simp[Act.eval];done)|(simp[Act.eval,Act.put];done)|rfl) (w.heap.size+1) 0 [.int .i64 0,.int .i64 0,.int .i64 0] 171 (U HZ) [] rfl (fun hp=>absurd hp (by simp)) (by simp) (by simp) (w.heap.size+1) (w.alloc (.cells #[.int .i64 0,.int .i64 0,.int .i64 0] 171)) (U HB2) (Nat.le_refl _) ?_;intro w4 hg4 hb4)
    all_goals
      go_wp2_with fail
      go_meet
      have hz:=U hg4
      exact⟨hz,hb4⟩
  case rest =>
    obtain⟨hx,hbc⟩:=hcut
    have hzero:=(Blk.new w #[.int .i64 0,.int .i64 0,.int .i64 0] 171).below hbc (by omega)
    have hbw:Below w.heap.size w wc:=(below_box w _).trans (hbc.mono (by omega))
    have hm:=(U HH).below hbw
    have hbk:=hm.blk
    unfold pmArr at hbk
    have hc1:=hbk.cell
    have hf1:=hbk.free
    have hcx:=hx.cell
    have hcz:=hzero.cell
    have hfz:=hzero.free
    have hlx:=hx.lt
    have hne1:¬ b=w.heap.size:=by omega
    have hne2:¬ b=w.heap.size+1:=by omega
    have HBW:=V hbw
    have HZR:=V (hzero.far (a:=⟨b,9,none⟩) (by simp;omega) (.slice none 0 0))
    clear hx hbc hzero hbw hm hbk hc hf
    go_wp2_with fail
    have hR:=(((U HZR).set 0 (.int .i64 0)).set 1 (.int .i64 0)).set 2 (.int .i64 0)
    simp only[List.setIfInBounds_toArray,List.set_cons_succ,List.set_cons_zero]at hR
    refine bodyPost_ret (results_cell_row (P:=Tryz.prog) rfl _ _ w.heap.size 171 _ (0,0) _ rfl hR Tryz.underlying171 rfl Tryz.sizeValues) rfl ?_
    obtain⟨k1,k2,k3⟩:=(U HH).field 9 (.slice none 0 0) m st (by simp[pmArr]) rfl
    have hbb:=(((below_both (c:=9) (U HBW) (U HH).blk (U HH).blk.lt (.slice none 0 0)).setCell (p:=⟨w.heap.size,0,none⟩) (Nat.le_refl _) (.int .i64 0)).setCell (p:=⟨w.heap.size,1,none⟩) (Nat.le_refl _) (.int .i64 0)).setCell (p:=⟨w.heap.size,2,none⟩) (Nat.le_refl _) (.int .i64 0)
    have hsz:(w.setCell ⟨b,9,none⟩ (.slice none 0 0)).heap.size=w.heap.size:=by simp
    exact⟨rfl,⟨_,_,_,_,_,k1.below (by rw[hsz];exact hbb)⟩,k2.trans (KeepB.ofBelow (by rw[hsz];exact hbb)),k3.trans (hbb.mono (U HH).size)⟩
theorem pmTake_any (B b tb:Nat) (vl:Value) (m:MS) (st:Int) (w:World) (h:PmE B w b tb vl m st) (l r:List Int) (he:m.stack=l++r) (hr:r.length≤3) (hs:m.stack.length≤1000) :
    Calls Tryz.prog 171 #[.pointer (some ⟨b,0,none⟩),.int .i64 r.length] w (Taken B w b tb vl { m with stack:=l } st (nth r 0) (nth r 1) (nth r 2)):=by
  obtain⟨vS,vA,vC,vE,vO,h⟩:=h
  rcases h.oS.2 with ⟨hv,h0⟩|⟨g,k,cur,hv,_⟩
  · subst hv
    have e0:m.stack=[]:=List.eq_nil_of_length_eq_zero h0
    rw[e0]at he
    obtain⟨rfl,rfl⟩:=List.append_eq_nil_iff.1 he.symm
    have em:{ m with stack:=[] }=m:=by cases m;simp only at e0;subst e0;rfl
    rw[em]
    exact pmTake_none B b tb vl m st w vA vC vE vO h
  · subst hv
    exact pmTake_some B b tb vl m st w g k vA vC vE vO h l r he hr hs
end Go.Proofs.YtmeiikjpaepogaaGreatDoor
