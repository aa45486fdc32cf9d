/- The program's machine: what the operators' functions do, against the reference: order, one, loop. -/
import Derived.Test.YtmeiikjpaepogaaGreatDoorN19
import Derived.Test.YtmeiikjpaepogaaGreatDoorN18
set_option maxRecDepth 100000
namespace Go.Proofs.YtmeiikjpaepogaaGreatDoor
open Go Go.RowKit
theorem len3 {r:List Int} (h:r.length=3):∃ x y z,r=[x,y,z]:=by
  match r,h with
  | [x,y,z],_=>exact⟨x,y,z,rfl⟩
theorem sem_order (B:Nat) (w:World) (b tb op pb c:Nat) (qo:Option Addr) (ps:List Nat) (hop:(op=21∧ps=[0,0])∨(op=22∧ps=[])∨(op=23∧ps=[1,0])∨(op=24∧ps=[0,1,0])∨(op=25∧ps=[1,2,0])) (hpb:Blk w pb #[.slice qo ps.length c] 115) (hlt:pb<B) (hat:PlacesAt B w qo ps):DeedSem B w b tb op 166 #[.pointer (some ⟨pb,0,none⟩)]:=by
  refine sem_plain B w b tb op _ _ (by omega) (fun m=>by unfold restS;rcases hop with ⟨e,_⟩|⟨e,_⟩|⟨e,_⟩|⟨e,_⟩|⟨e,_⟩<;>subst e<;>simp) ?_
  intro W vl m st arg l r hb hp hm harg hst hrl hsd hln
  have hps:ps.length≤3:=by rcases hop with ⟨_,e⟩|⟨_,e⟩|⟨_,e⟩|⟨_,e⟩|⟨_,e⟩<;>subst e<;>simp
  have hd:=deed_order B b tb vl _ st W hp arg (nth r 0) (nth r 1) (nth r 2) hln.1 pb c qo ps (hpb.below hb hlt) (hat.to hb) hps
  have e:doS m op arg={ m with stack:=l++ps.map (valAt (nth r 0) (nth r 1) (nth r 2)) }:=by
    rcases hop with ⟨e,e'⟩|⟨e,e'⟩|⟨e,e'⟩|⟨e,e'⟩|⟨e,e'⟩
    · subst e e'
      obtain⟨x,rfl⟩:=len1 hrl
      simp[doS,hst,topL,nth,valAt]
    · subst e e'
      obtain⟨x,rfl⟩:=len1 hrl
      simp[doS,hst]
    · subst e e'
      obtain⟨x,y,rfl⟩:=len2 hrl
      have e0:m.stack.dropLast=l++[x]:=by rw[hst,show l++[x,y]=(l++[x])++[y] by simp,List.dropLast_concat]
      have e1:m.stack.dropLast.dropLast=l:=by rw[e0,List.dropLast_concat]
      have e2:topL m.stack=y:=by simp[hst,topL]
      have e3:topL m.stack.dropLast=x:=by rw[e0,topL_app]
      simp[doS,e1,e2,e3,nth,valAt]
    · subst e e'
      obtain⟨x,y,rfl⟩:=len2 hrl
      have e0:m.stack.dropLast=l++[x]:=by rw[hst,show l++[x,y]=(l++[x])++[y] by simp,List.dropLast_concat]
      have e3:topL m.stack.dropLast=x:=by rw[e0,topL_app]
      have e9:doS m (24:Nat) arg={ m with stack:=m.stack++[topL m.stack.dropLast] }:=by simp[doS]
      rw[e9,e3,hst]
      simp[nth,valAt]
    · subst e e'
      obtain⟨x,y,z,rfl⟩:=len3 hrl
      have e0:m.stack.dropLast=l++[x]++[y]:=by rw[hst,show l++[x,y,z]=(l++[x]++[y])++[z] by simp,List.dropLast_concat]
      have e1:m.stack.dropLast.dropLast=l++[x]:=by rw[e0,List.dropLast_concat]
      have e4:m.stack.dropLast.dropLast.dropLast=l:=by rw[e1,List.dropLast_concat]
      have e2:topL m.stack=z:=by simp[hst,topL]
      have e3:topL m.stack.dropLast=y:=by rw[e0,topL_app]
      have e5:topL m.stack.dropLast.dropLast=x:=by rw[e1,topL_app]
      simp[doS,e4,e2,e3,e5,nth,valAt]
  rw[e]
  exact hd
theorem sem_one (B : Nat) (w : World) (b tb op fb : Nat) (G : FuncId) (hop : op = 17 ∨ op = 18) (hfb : Blk w fb #[.func (.func G) #[] #[]] 168) (hlt : fb < B) {fn : Func} (hfn : Tryz.prog.funcs[G]? = some fn) (hfa : (fn.name == "runtime.NumGoroutine") = false) (hfc : fn.body.isNone = false) (hg : ∀ x : Int, inI x → Gives G #[.int .i64 x] (if op = 17 then -1 - x else wrap64 (-x))) : DeedSem B w b tb op 165 #[.pointer (some ⟨fb, 0, none⟩)] := by
  refine sem_plain B w b tb op _ _ (by omega) (fun m=>by unfold restS;rcases hop with e|e<;>subst e<;>simp) ?_
  intro W vl m st arg l r hb hp hm harg hst hrl hsd hln
  obtain⟨x,rfl⟩:=len1 (r:=r) (by rw[hrl];rcases hop with e|e<;>subst e<;>rfl)
  have hx:inI x:=hm.ints.1 x (by rw[hst];simp)
  have e:doS m op arg={ m with stack:=l++[if op=17 then -1-x else wrap64 (-x)] }:=by
    rcases hop with e|e<;>subst e<;>simp[doS,hst,topL]
  rw[e]
  exact deed_one B b tb vl _ st W hp arg _ _ _ hln.1 fb G (hfb.below hb hlt) hfn hfa hfc _ (hg x hx)
theorem sem_err (B:Nat) (w:World) (b tb op:Nat) (F:FuncId) (cap:Array Value) (hop:op<33)
    (hd:∀ (W:World) (vl:Value) (m:MS) (st arg:Int) (l r:List Int),Below B w W→PmE B W b tb vl { m with stack:=l } st→MOk m→inI arg→m.stack=l++r→r.length=(entS op).1→l.length≤1000∧m.side.length≤1000∧m.calls.length≤1000∧m.cells.length≤1000∧m.out.size≤1000 →
      Calls Tryz.prog F (#[.pointer (some ⟨b,0,none⟩),.int .i64 arg,.agg #[.int .i64 (nth r 0),.int .i64 (nth r 1),.int .i64 (nth r 2)]]++cap) W (DeedPost B W b tb vl st (if restS m op=0 then doS m op arg else { m with stack:=l }) (restS m op))):DeedSem B w b tb op F cap:=by
  intro W vl m st arg l r hb hp hm harg hst hrl hc
  rw[chk_rest m hm op hop hc]
  have hl:=hm.lims
  have hs:=hm.stack
  have ha:=hm.side
  have hcl:=hm.calls
  have hce:=hm.cells
  have ho:=hm.out
  have hlr:m.stack.length=l.length+r.length:=by rw[hst];simp
  exact hd W vl m st arg l r hb hp hm harg hst hrl ⟨by omega,by omega,by omega,by omega,by omega⟩
theorem sem_call (B:Nat) (w:World) (b tb:Nat):DeedSem B w b tb 3 94 #[]:=by
  refine sem_err B w b tb 3 _ _ (by omega) ?_
  intro W vl m st arg l r hb hp hm harg hst hrl hln
  obtain rfl:=len0 hrl
  rw[List.append_nil]at hst
  rw[Array.append_empty]
  by_cases hq:m.lc≤m.calls.length
  · have e0:restS m (3:Nat)=11:=by simp[restS,hq]
    rw[e0,if_neg (by omega)]
    exact deed_call_no B b tb vl _ st W hp arg _ _ _ hln.2.2.1 hq
  · have e0:restS m (3:Nat)=0:=by simp[restS,hq]
    have e:doS m (3:Nat) arg={ m with stack:=l,calls:=m.calls++[m.pc],pc:=arg }:=by simp[doS,← hst]
    rw[e0,if_pos rfl,e]
    exact deed_call B b tb vl _ st W hp arg _ _ _ hln.2.2.1 (by show (m.calls.length:Int)<m.lc;omega)
theorem sem_ret (B:Nat) (w:World) (b tb:Nat):DeedSem B w b tb 4 95 #[]:=by
  refine sem_err B w b tb 4 _ _ (by omega) ?_
  intro W vl m st arg l r hb hp hm harg hst hrl hln
  obtain rfl:=len0 hrl
  rw[List.append_nil]at hst
  rw[Array.append_empty]
  rcases List.eq_nil_or_concat m.calls with hq|⟨cl,y,hq⟩
  · have e0:restS m (4:Nat)=11:=by simp[restS,hq]
    rw[e0,if_neg (by omega)]
    exact deed_ret_no B b tb vl _ st W hp arg _ _ _ hq
  · rw[List.concat_eq_append]at hq
    have e0:restS m (4:Nat)=0:=by simp[restS,hq]
    have e:doS m (4:Nat) arg={ m with stack:=l,calls:=cl,pc:=y }:=by simp[doS,← hst,hq,topL]
    rw[e0,if_pos rfl,e]
    exact deed_ret B b tb vl _ st W hp arg _ _ _ cl y hq hln.2.2.1
theorem sem_emit (B:Nat) (w:World) (b tb:Nat):DeedSem B w b tb 31 121 #[]:=by
  refine sem_err B w b tb 31 _ _ (by omega) ?_
  intro W vl m st arg l r hb hp hm harg hst hrl hln
  obtain⟨x,rfl⟩:=len1 hrl
  rw[Array.append_empty]
  by_cases hq:m.lo<(m.out.size:Int)+1
  · have e0:restS m (31:Nat)=14:=by simp[restS,hq]
    rw[e0,if_neg (by omega)]
    exact deed_emit_no B b tb vl _ st W hp arg _ _ _ hln.2.2.2.2 hq
  · have e0:restS m (31:Nat)=0:=by simp[restS,hq]
    have e:doS m (31:Nat) arg={ m with stack:=l,out:=m.out++strOfNums [x % 256] }:=by simp[doS,hst,topL]
    rw[e0,if_pos rfl,e]
    exact deed_emit B b tb vl _ st W hp arg _ _ _ hln.2.2.2.2 (by show (m.out.size:Int)+1≤m.lo;omega)
theorem sem_dot (B : Nat) (w : World) (b tb : Nat) (htab : Lib.TabBelow Tryz.prog B w "internal/strconv.uint64pow10" .u64 Lib.pow10Tab) : DeedSem B w b tb 32 122 #[] := by
  refine sem_err B w b tb 32 _ _ (by omega) ?_
  intro W vl m st arg l r hb hp hm harg hst hrl hln
  obtain⟨x,rfl⟩:=len1 hrl
  have hx:inI x:=hm.ints.1 x (by rw[hst];simp)
  have et:topS m=x:=by simp[topS,hst]
  rw[Array.append_empty]
  by_cases hq:m.lo<(m.out.size:Int)+(digitsS x).length+1
  · have e0:restS m (32:Nat)=14:=by simp[restS,et,hq]
    rw[e0,if_neg (by omega)]
    exact deed_dot_no B b tb vl _ st W hp arg _ _ _ hx.1 hx.2 (htab.on hb) hln.2.2.2.2 hq
  · have e0:restS m (32:Nat)=0:=by simp[restS,et,hq]
    have e:doS m (32:Nat) arg={ m with stack:=l,out:=m.out++dotB x }:=by simp[doS,hst,topL,dotB,ByteArray.append_assoc]
    rw[e0,if_pos rfl,e]
    exact deed_dot B b tb vl _ st W hp arg _ _ _ hx.1 hx.2 (htab.on hb) hln.2.2.2.2 (by show (m.out.size:Int)+(digitsS x).length+1≤m.lo;omega)
theorem sem_fetch (B:Nat) (w:World) (b tb:Nat):DeedSem B w b tb 30 120 #[]:=by
  refine sem_err B w b tb 30 _ _ (by omega) ?_
  intro W vl m st arg l r hb hp hm harg hst hrl hln
  obtain⟨x,rfl⟩:=len1 hrl
  have et:topS m=x:=by simp[topS,hst]
  rw[Array.append_empty]
  by_cases hq:x<0∨(m.cells.length:Int)≤x
  · have e0:restS m (30:Nat)=12:=by simp[restS,et,hq]
    rw[e0,if_neg (by omega)]
    exact deed_fetch_no B b tb vl _ st W hp arg _ _ _ hln.2.2.2.1 hq
  · have e0:restS m (30:Nat)=0:=by simp[restS,et,hq]
    obtain⟨k,rfl⟩:∃ k:Nat,x=k:=⟨x.toNat,by omega⟩
    have hk:k<m.cells.length:=by omega
    have e:doS m (30:Nat) arg={ m with stack:=l++[m.cells[k]] }:=by simp[doS,hst,topL,hk]
    rw[e0,if_pos rfl,e]
    exact deed_fetch B b tb vl _ st W hp arg k _ _ _ ⟨hln.2.2.2.1,hln.1⟩ (List.getElem?_eq_getElem hk)
theorem sem_store (B:Nat) (w:World) (b tb:Nat):DeedSem B w b tb 29 119 #[]:=by
  refine sem_err B w b tb 29 _ _ (by omega) ?_
  intro W vl m st arg l r hb hp hm harg hst hrl hln
  obtain⟨x,y,rfl⟩:=len2 hrl
  have et:topS m=y:=by simp[topS,hst]
  have e0':m.stack.dropLast=l++[x]:=by rw[hst,show l++[x,y]=(l++[x])++[y] by simp,List.dropLast_concat]
  have e1:m.stack.dropLast.dropLast=l:=by rw[e0',List.dropLast_concat]
  have e2:topL m.stack=y:=by simp[hst,topL]
  have e3:topL m.stack.dropLast=x:=by rw[e0',topL_app]
  rw[Array.append_empty]
  by_cases hq:y<0∨(m.cells.length:Int)≤y
  · have e0:restS m (29:Nat)=12:=by simp[restS,et,hq]
    rw[e0,if_neg (by omega)]
    exact deed_store_no B b tb vl _ st W hp arg _ _ _ hln.2.2.2.1 hq
  · have e0:restS m (29:Nat)=0:=by simp[restS,et,hq]
    obtain⟨k,rfl⟩:∃ k:Nat,y=k:=⟨y.toNat,by omega⟩
    have e:doS m (29:Nat) arg={ m with stack:=l,cells:=m.cells.set k x }:=by simp[doS,e1,e2,e3]
    rw[e0,if_pos rfl,e]
    exact deed_store B b tb vl _ st W hp arg _ k _ hln.2.2.2.1 (by show k<m.cells.length;omega)
theorem sem_loop (B:Nat) (w:World) (b tb:Nat):DeedSem B w b tb 7 98 #[]:=by
  refine sem_plain B w b tb 7 _ _ (by omega) (fun m=>by simp[restS]) ?_
  intro W vl m st arg l r hb hp hm harg hst hrl hsd hln
  obtain rfl:=len0 hrl
  rw[List.append_nil]at hst
  have hs2:2≤m.side.length:=by have:(m.side.length:Int)≥2:=hsd;omega
  obtain⟨sl,x,y,hs⟩:∃ sl x y,m.side=sl++[x,y]:=by
    refine⟨m.side.take (m.side.length-2),?_⟩
    obtain⟨x,y,h⟩:=len2 (r:=m.side.drop (m.side.length-2)) (by simp;omega)
    exact⟨x,y,by rw[← h,List.take_append_drop]⟩
  have e0:m.side.dropLast=sl++[x]:=by rw[hs,show sl++[x,y]=(sl++[x])++[y] by simp,List.dropLast_concat]
  have e1:m.side.dropLast.dropLast=sl:=by rw[e0,List.dropLast_concat]
  have e2:topL m.side=y:=by simp[hs,topL]
  have e3:topL m.side.dropLast=x:=by rw[e0,topL_app]
  have e:doS m (7:Nat) arg=if wrap64 (y+1)=x then { m with stack:=l,side:=sl } else { m with stack:=l,side:=sl++[x,wrap64 (y+1)],pc:=arg }:=by simp[doS,e1,e2,e3,← hst]
  rw[e,Array.append_empty]
  exact deed_loop B b tb vl _ st W hp arg _ _ _ sl x y hs hln.2
theorem mk_two (F:FuncId) (w:World):Calls Tryz.prog 100 #[.func (.func F) #[] #[]] w (fun e w'=>e=.returned (.func (.func 162) #[] #[.pointer (some ⟨w.heap.size,0,none⟩)])∧w'=w.alloc (.cells #[.func (.func F) #[] #[]] 166)):=by
  go_enter Tryz.func100,Tryz.ntmps100
  go_wp2_with fail
  go_ret
  exact⟨rfl,rfl⟩
theorem mk_one (F:FuncId) (w:World):Calls Tryz.prog 110 #[.func (.func F) #[] #[]] w (fun e w'=>e=.returned (.func (.func 165) #[] #[.pointer (some ⟨w.heap.size,0,none⟩)])∧w'=w.alloc (.cells #[.func (.func F) #[] #[]] 168)):=by
  go_enter Tryz.func110,Tryz.ntmps110
  go_wp2_with fail
  go_ret
  exact⟨rfl,rfl⟩
theorem mk_order (q:Option Addr) (n c:Nat) (w:World):Calls Tryz.prog 116 #[.slice q n c] w (fun e w'=>e=.returned (.func (.func 166) #[] #[.pointer (some ⟨w.heap.size,0,none⟩)])∧w'=w.alloc (.cells #[.slice q n c] 115)):=by
  go_enter Tryz.func116,Tryz.ntmps116
  go_wp2_with fail
  go_ret
  exact⟨rfl,rfl⟩
theorem mk_inTurn (q:Option Addr) (n c:Nat) (w:World):Calls Tryz.prog 59 #[.slice q n c] w (fun e w'=>e=.returned (.func (.func 123) #[] #[.pointer (some ⟨w.heap.size,0,none⟩)])∧w'=w.alloc (.cells #[.slice q n c] 115)):=by
  go_enter Tryz.func59,Tryz.ntmps59
  go_wp2_with fail
  go_ret
  exact⟨rfl,rfl⟩
theorem sem_div (B : Nat) (w : World) (b tb op gb fb : Nat) (G : FuncId) (hop : op = 12 ∨ op = 13) (hgb : Blk w gb #[.func (.func 162) #[] #[.pointer (some ⟨fb, 0, none⟩)]] 108) (hfb : Blk w fb #[.func (.func G) #[] #[]] 166) (hlg : gb < B) (hlt : fb < B) {fn : Func} (hfn : Tryz.prog.funcs[G]? = some fn) (hfa : (fn.name == "runtime.NumGoroutine") = false) (hfc : fn.body.isNone = false) (hg : ∀ x y : Int, y ≠ 0 → inI x → inI y → Gives G #[.int .i64 x, .int .i64 y] (twoS op x y)) : DeedSem B w b tb op 163 #[.pointer (some ⟨gb, 0, none⟩)] := by
  refine sem_err B w b tb op _ _ (by omega) ?_
  intro W vl m st arg l r hb hp hm harg hst hrl hln
  obtain⟨x,y,rfl⟩:=len2 (r:=r) (by rw[hrl];rcases hop with e|e<;>subst e<;>rfl)
  have hx:inI x:=hm.ints.1 x (by rw[hst];simp)
  have hy:inI y:=hm.ints.1 y (by rw[hst];simp)
  have et:topS m=y:=by simp[topS,hst]
  have e0':m.stack.dropLast=l++[x]:=by rw[hst,show l++[x,y]=(l++[x])++[y] by simp,List.dropLast_concat]
  have e1:m.stack.dropLast.dropLast=l:=by rw[e0',List.dropLast_concat]
  have e2:topL m.stack=y:=by simp[hst,topL]
  have e3:topL m.stack.dropLast=x:=by rw[e0',topL_app]
  by_cases hq:y=0
  · subst hq
    have e0:restS m op=13:=by rcases hop with e|e<;>subst e<;>simp[restS,et]
    rw[e0,if_neg (by omega)]
    exact deed_div_no B b tb vl _ st W hp arg _ _ gb
  · have e0:restS m op=0:=by rcases hop with e|e<;>subst e<;>simp[restS,et,hq]
    have e:doS m op arg={ m with stack:=l++[twoS op x y] }:=by
      rcases hop with e|e<;>subst e<;>simp[doS,e1,e2,e3]
    rw[e0,if_pos rfl,e]
    exact deed_div B b tb vl _ st W hp arg _ _ _ hln.1 gb fb G (hgb.below hb hlg) (hfb.below hb hlt) hfn hfa hfc _ hq (hg x y hq hx hy)
theorem mk_divided (F:FuncId) (w:World):Calls Tryz.prog 104 #[.func (.func F) #[] #[]] w (fun e w'=>∃ gb fb,e=.returned (.func (.func 163) #[] #[.pointer (some ⟨gb,0,none⟩)])∧Below w.heap.size w w'∧Blk w' gb #[.func (.func 162) #[] #[.pointer (some ⟨fb,0,none⟩)]] 108∧Blk w' fb #[.func (.func F) #[] #[]] 166):=by
  have H2:=V (mk_two F)
  have hsf:∀ (a:Addr) (W:World) (cap:Array Value),(store a (.func (.func 162) #[] cap)).run Tryz.prog W=stored Tryz.prog W a (.func (.func 162) #[] cap) .plain:=fun a W cap=>run_store _ _ _ _ _ rfl
  go_enter Tryz.func104,Tryz.ntmps104
  go_wp2_with fail
  refine (U H2 _).mono ?_
  rintro e w1 ⟨rfl,rfl⟩
  go_wp2_with fail
  go_ret
  refine⟨w.heap.size+1,w.heap.size,rfl,below_box2 w _ _,?_,?_⟩
  · have:=Blk.new (w.alloc (.cells #[.func (.func F) #[] #[]] 166)) #[.func (.func 162) #[] #[.pointer (some ⟨w.heap.size,0,none⟩)]] 108
    rw[size_up']at this
    exact this
  · exact (Blk.new w _ _).below (below_box (w.alloc (.cells #[.func (.func F) #[] #[]] 166)) _) (by simp)
end Go.Proofs.YtmeiikjpaepogaaGreatDoor
