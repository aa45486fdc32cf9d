/- The program's machine: do of a base operator, over what its function does. -/
import Derived.Test.YtmeiikjpaepogaaGreatDoorU19
import Derived.Test.YtmeiikjpaepogaaGreatDoorU05
import Derived.Test.YtmeiikjpaepogaaGreatDoorU18
import Derived.Test.YtmeiikjpaepogaaGreatDoorU02
set_option maxRecDepth 100000
set_option maxHeartbeats 8000000
namespace Go.Proofs.YtmeiikjpaepogaaGreatDoor
open Go Go.RowKit
def DeedSem (B:Nat) (w:World) (b tb:Nat) (op:Nat) (F:FuncId) (cap:Array Value):Prop :=
  ∀ (W : World) (vl : Value) (m : MS) (st arg : Int) (l r : List Int), Below B w W → PmE B W b tb vl { m with stack := l } st → MOk m → inI arg → m.stack = l ++ r → r.length = (entS op).1 →
    chkS m (entS op).1 (entS op).2.1 (entS op).2.2.1 (entS op).2.2.2=0 →
    Calls Tryz.prog F (#[.pointer (some ⟨b,0,none⟩),.int .i64 arg,.agg #[.int .i64 (nth r 0),.int .i64 (nth r 1),.int .i64 (nth r 2)]]++cap) W
      (DeedPost B W b tb vl st (if refusedS m op=0 then doS m op arg else { m with stack:=l }) (refusedS m op))
def EntryOk (B:Nat) (w:World) (b tb:Nat) (op:Nat):Prop :=
  ∃ (F : FuncId) (cap : Array Value) (fn : Func), EntryAt w tb (op * 5) (entS op).1 (entS op).2.1 (entS op).2.2.1 (entS op).2.2.2 (.func (.func F) #[] cap) ∧
    Tryz.prog.funcs[F]? = some fn ∧ (fn.name == "runtime.NumGoroutine") = false ∧ fn.body.isNone = false ∧ DeedSem B w b tb op F cap
theorem do_base (B b tb:Nat) (vl:Value) (m:MS) (st:Int) (w w0:World) (hw:Below B w0 w) (h:PmE B w b tb vl m st) (hm:MOk m) (op:Nat) (arg:Int) (hop:op<33) (harg:inI arg) (htb:tb<B) (hE:EntryOk B w0 b tb op) (hlen:(doS m op arg).stack.length≤2000) :
    Calls Tryz.prog 124 #[.pointer (some ⟨b,0,none⟩),.agg #[.int .i64 op,.int .i64 arg]] w
      (DeedPost B w b tb vl st (if refusedS m op=0 then doS m op arg else m) (refusedS m op)):=by
  obtain⟨F,cap,fn,hat,h1,h2,h3,hsem⟩:=hE
  have hat':=hat.below hw htb
  obtain⟨c1,c2⟩:=chk_refused m hm op hop
  obtain⟨b1,b2,b3,b4⟩:=ent_small op hop
  have hl:=hm.lims
  have hs:=hm.stack
  have ha:=hm.side
  have hB:=h.size
  by_cases hc:chkS m (entS op).1 (entS op).2.1 (entS op).2.2.1 (entS op).2.2.2=0
  · obtain⟨d1,d2,d3,d4⟩:=c2 hc
    have hsp:m.stack=m.stack.take (m.stack.length-(entS op).1)++m.stack.drop (m.stack.length-(entS op).1):=(List.take_append_drop _ _).symm
    have hrl:(m.stack.drop (m.stack.length-(entS op).1)).length=(entS op).1:=by rw[List.length_drop];omega
    generalize m.stack.take (m.stack.length-(entS op).1)=l at hsp
    generalize m.stack.drop (m.stack.length-(entS op).1)=r at hsp hrl
    have hlr:m.stack.length=l.length+r.length:=by rw[hsp];simp
    have:=pmDo_over B b tb vl m st w h op arg (by omega) htb (entS op).2.1 (entS op).2.2.1 (entS op).2.2.2 F cap l r (by rw[hrl];exact hat') (by omega) (by omega) (by rw[hrl];exact hc) hsp (by omega) h1 h2 h3 (if refusedS m op=0 then doS m op arg else { m with stack:=l }) (refusedS m op)
      (by split;exact hlen;simp only;omega)
      (fun W hW hb=>hsem W vl m st arg l r (hw.trans hb) hW hm harg hsp hrl hc)
    refine this.mono ?_
    intro e w' hd
    unfold DoPost at hd
    by_cases h0:refusedS m op=0
    · rw[if_pos h0,if_pos h0]at hd
      rw[if_pos h0,h0]
      exact hd
    · rw[if_neg h0,if_neg h0]at hd
      rw[if_neg h0]
      have em:{ m with stack:=l++r }=m:=by rw[← hsp]
      simp only at hd
      rw[em]at hd
      exact hd
  · have e1:=c1 hc
    have h0:refusedS m op≠0:=by rw[e1];exact hc
    rw[if_neg h0,e1]
    exact pmDo_no B b tb vl m st w h op arg (by omega) (by omega) _ _ _ _ _ hat' (by omega) (by omega) hc
def okL (l:List Int):Prop:=∀ x∈l,inI x
theorem okL_nil:okL []:=by intro x h;simp at h
theorem okL_app {a b:List Int} (ha:okL a) (hb:okL b):okL (a++b):=by
  intro x h
  rcases List.mem_append.1 h with h|h
  · exact ha x h
  · exact hb x h
theorem okL_cons {a:Int} {b:List Int} (ha:inI a) (hb:okL b):okL (a :: b):=by
  intro x h
  rcases List.mem_cons.1 h with rfl|h
  · exact ha
  · exact hb x h
theorem okL_drop {a:List Int} (ha:okL a):okL a.dropLast:=fun x h=>ha x (dropLast_mem h)
theorem inI_zero:inI 0:=by unfold inI;omega
theorem okL_top {a:List Int} (ha:okL a):inI (topL a):=by
  by_cases h:0<a.length
  · exact ha _ (topL_mem a h)
  · have:a=[]:=List.length_eq_zero_iff.1 (by omega)
    subst this
    exact inI_zero
theorem okL_set {a:List Int} {k:Nat} {x:Int} (ha:okL a) (hx:inI x):okL (a.set k x):=by
  intro y h
  rcases List.mem_or_eq_of_mem_set h with h|rfl
  · exact ha y h
  · exact hx
theorem okL_get {a:List Int} {k:Nat} (ha:okL a):inI (a[k]?.getD 0):=by
  cases h:a[k]? with
  | none=>exact inI_zero
  | some x=>exact ha x (List.mem_of_getElem? h)
theorem mk_ok {m:MS} (hm:MOk m) (s a c e:List Int) (o:ByteArray) (pc:Int) (hd:Bool) (ho:(o.size:Int)≤m.lo) (hs:(s.length:Int)≤m.ls:=by (first|assumption|((try simp only[List.length_append])<;>(try simp only[List.length_cons])<;>(try simp only[List.length_nil])<;>(try simp only[List.length_dropLast])<;>(try simp only[List.length_set])<;>omega))) (ha:(a.length:Int)≤m.la:=by (first|assumption|((try simp only[List.length_append])<;>(try simp only[List.length_cons])<;>(try simp only[List.length_nil])<;>(try simp only[List.length_dropLast])<;>(try simp only[List.length_set])<;>omega))) (hc:(c.length:Int)≤m.lc:=by (first|assumption|((try simp only[List.length_append])<;>(try simp only[List.length_cons])<;>(try simp only[List.length_nil])<;>(try simp only[List.length_dropLast])<;>(try simp only[List.length_set])<;>omega))) (he:e.length≤1000:=by (first|assumption|((try simp only[List.length_append])<;>(try simp only[List.length_cons])<;>(try simp only[List.length_nil])<;>(try simp only[List.length_dropLast])<;>(try simp only[List.length_set])<;>omega))) (is:okL s:=by (repeat' (first|assumption|exact okL_nil|with_reducible apply okL_app|with_reducible apply okL_drop|with_reducible apply okL_cons|with_reducible apply okL_top|with_reducible apply wrap64_in|with_reducible apply okL_set|with_reducible apply okL_get))) (ia:okL a:=by (repeat' (first|assumption|exact okL_nil|with_reducible apply okL_app|with_reducible apply okL_drop|with_reducible apply okL_cons|with_reducible apply okL_top|with_reducible apply wrap64_in|with_reducible apply okL_set|with_reducible apply okL_get))) (ie:okL e:=by (repeat' (first|assumption|exact okL_nil|with_reducible apply okL_app|with_reducible apply okL_drop|with_reducible apply okL_cons|with_reducible apply okL_top|with_reducible apply wrap64_in|with_reducible apply okL_set|with_reducible apply okL_get))):MOk { m with stack:=s,side:=a,calls:=c,cells:=e,out:=o,pc:=pc,halted:=hd } :=
  ⟨hm.lims,hs,ha,hc,he,ho,is,ia,ie⟩
theorem MOk.pc {m:MS} (hm:MOk m) (k:Int):MOk { m with pc:=k }:=⟨hm.lims,hm.stack,hm.side,hm.calls,hm.cells,hm.out,hm.ints⟩
theorem doS_mok (m:MS) (hm:MOk m) (op arg:Int) (hop:0≤op∧op≤32) (harg:inI arg) (hr:refusedS m op=0):MOk (doS m op arg):=by
  obtain⟨z1,z2,z3,z4,z5,z6,z7,z8,z9,z10⟩:=refused_zero m op hr
  clear hr
  rw[topS_eq]at z7 z8 z10
  have hs:=hm.stack
  have ha:=hm.side
  have hc:=hm.calls
  have he:=hm.cells
  have ho:=hm.out
  have is:okL m.stack:=hm.ints.1
  have ia:okL m.side:=hm.ints.2.1
  have ie:okL m.cells:=hm.ints.2.2
  have hop':op=0∨op=1∨op=2∨op=3∨op=4∨op=5∨op=6∨op=7∨op=8∨op=9∨op=10∨op=11∨op=12∨op=13∨op=14∨op=15∨op=16∨op=17∨op=18∨op=19∨op=20∨op=21∨op=22∨op=23∨op=24∨op=25∨op=26∨op=27∨op=28∨op=29∨op=30∨op=31∨op=32:=by omega
  clear hop
  rcases hop' with rfl|rfl|rfl|rfl|rfl|rfl|rfl|rfl|rfl|rfl|rfl|rfl|rfl|rfl|rfl|rfl|rfl|rfl|rfl|rfl|rfl|rfl|rfl|rfl|rfl|rfl|rfl|rfl|rfl|rfl|rfl|rfl|rfl
  · have n1:(0:Int)≤m.stack.length:=z1
    have a1:(0:Int)≤m.side.length:=z3
    have n2:(m.stack.length:Int)+1≤m.ls:=z2 (by decide)
    exact mk_ok hm _ _ _ _ _ _ _ (by assumption)
  · have n1:(0:Int)≤m.stack.length:=z1
    have a1:(0:Int)≤m.side.length:=z3
    exact mk_ok hm _ _ _ _ _ _ _ (by assumption)
  · have n1:(1:Int)≤m.stack.length:=z1
    have a1:(0:Int)≤m.side.length:=z3
    by_cases k:topL m.stack=0
    · rw[show doS m 2 arg={ m with stack:=m.stack.dropLast,pc:=arg } from if_pos k]
      exact mk_ok hm _ _ _ _ _ _ _ (by assumption)
    · rw[show doS m 2 arg={ m with stack:=m.stack.dropLast } from if_neg k]
      exact mk_ok hm _ _ _ _ _ _ _ (by assumption)
  · have n1:(0:Int)≤m.stack.length:=z1
    have a1:(0:Int)≤m.side.length:=z3
    have c1:=z5 rfl
    exact mk_ok hm _ _ _ _ _ _ _ (by assumption)
  · have n1:(0:Int)≤m.stack.length:=z1
    have a1:(0:Int)≤m.side.length:=z3
    exact mk_ok hm _ _ _ _ _ _ _ (by assumption)
  · have n1:(0:Int)≤m.stack.length:=z1
    have a1:(0:Int)≤m.side.length:=z3
    exact mk_ok hm _ _ _ _ _ _ _ (by assumption)
  · have n1:(2:Int)≤m.stack.length:=z1
    have a1:(0:Int)≤m.side.length:=z3
    have a2:(m.side.length:Int)+2≤m.la:=z4 (by decide)
    exact mk_ok hm _ _ _ _ _ _ _ (by assumption)
  · have n1:(0:Int)≤m.stack.length:=z1
    have a1:(2:Int)≤m.side.length:=z3
    by_cases k:wrap64 (topL m.side+1)=topL m.side.dropLast
    · rw[show doS m 7 arg={ m with side:=m.side.dropLast.dropLast } from if_pos k]
      exact mk_ok hm _ _ _ _ _ _ _ (by assumption)
    · rw[show doS m 7 arg={ m with side:=m.side.dropLast.dropLast++[topL m.side.dropLast,wrap64 (topL m.side+1)],pc:=arg } from if_neg k]
      exact mk_ok hm _ _ _ _ _ _ _ (by assumption)
  · have n1:(0:Int)≤m.stack.length:=z1
    have a1:(1:Int)≤m.side.length:=z3
    have n2:(m.stack.length:Int)+1≤m.ls:=z2 (by decide)
    exact mk_ok hm _ _ _ _ _ _ _ (by assumption)
  · have n1:(2:Int)≤m.stack.length:=z1
    have a1:(0:Int)≤m.side.length:=z3
    have t1:inI (twoS 9 (topL m.stack.dropLast) (topL m.stack)):=two_in 9 _ _ (by omega) (by omega) (okL_top (okL_drop is)) (okL_top is)
    exact mk_ok hm _ _ _ _ _ _ _ (by assumption)
  · have n1:(2:Int)≤m.stack.length:=z1
    have a1:(0:Int)≤m.side.length:=z3
    have t1:inI (twoS 10 (topL m.stack.dropLast) (topL m.stack)):=two_in 10 _ _ (by omega) (by omega) (okL_top (okL_drop is)) (okL_top is)
    exact mk_ok hm _ _ _ _ _ _ _ (by assumption)
  · have n1:(2:Int)≤m.stack.length:=z1
    have a1:(0:Int)≤m.side.length:=z3
    have t1:inI (twoS 11 (topL m.stack.dropLast) (topL m.stack)):=two_in 11 _ _ (by omega) (by omega) (okL_top (okL_drop is)) (okL_top is)
    exact mk_ok hm _ _ _ _ _ _ _ (by assumption)
  · have n1:(2:Int)≤m.stack.length:=z1
    have a1:(0:Int)≤m.side.length:=z3
    have t1:inI (twoS 12 (topL m.stack.dropLast) (topL m.stack)):=two_in 12 _ _ (by exact z8) (by omega) (okL_top (okL_drop is)) (okL_top is)
    exact mk_ok hm _ _ _ _ _ _ _ (by assumption)
  · have n1:(2:Int)≤m.stack.length:=z1
    have a1:(0:Int)≤m.side.length:=z3
    have t1:inI (twoS 13 (topL m.stack.dropLast) (topL m.stack)):=two_in 13 _ _ (by exact z8) (by omega) (okL_top (okL_drop is)) (okL_top is)
    exact mk_ok hm _ _ _ _ _ _ _ (by assumption)
  · have n1:(2:Int)≤m.stack.length:=z1
    have a1:(0:Int)≤m.side.length:=z3
    have t1:inI (twoS 14 (topL m.stack.dropLast) (topL m.stack)):=two_in 14 _ _ (by omega) (by omega) (okL_top (okL_drop is)) (okL_top is)
    exact mk_ok hm _ _ _ _ _ _ _ (by assumption)
  · have n1:(2:Int)≤m.stack.length:=z1
    have a1:(0:Int)≤m.side.length:=z3
    have t1:inI (twoS 15 (topL m.stack.dropLast) (topL m.stack)):=two_in 15 _ _ (by omega) (by omega) (okL_top (okL_drop is)) (okL_top is)
    exact mk_ok hm _ _ _ _ _ _ _ (by assumption)
  · have n1:(2:Int)≤m.stack.length:=z1
    have a1:(0:Int)≤m.side.length:=z3
    have t1:inI (twoS 16 (topL m.stack.dropLast) (topL m.stack)):=two_in 16 _ _ (by omega) (by omega) (okL_top (okL_drop is)) (okL_top is)
    exact mk_ok hm _ _ _ _ _ _ _ (by assumption)
  · have n1:(1:Int)≤m.stack.length:=z1
    have a1:(0:Int)≤m.side.length:=z3
    have t1:inI (-1-topL m.stack):=by
      have:=okL_top is
      unfold inI at *
      omega
    exact mk_ok hm _ _ _ _ _ _ _ (by assumption)
  · have n1:(1:Int)≤m.stack.length:=z1
    have a1:(0:Int)≤m.side.length:=z3
    exact mk_ok hm _ _ _ _ _ _ _ (by assumption)
  · have n1:(2:Int)≤m.stack.length:=z1
    have a1:(0:Int)≤m.side.length:=z3
    have t1:inI (twoS 19 (topL m.stack.dropLast) (topL m.stack)):=two_in 19 _ _ (by omega) (by omega) (okL_top (okL_drop is)) (okL_top is)
    exact mk_ok hm _ _ _ _ _ _ _ (by assumption)
  · have n1:(2:Int)≤m.stack.length:=z1
    have a1:(0:Int)≤m.side.length:=z3
    have t1:inI (twoS 20 (topL m.stack.dropLast) (topL m.stack)):=two_in 20 _ _ (by omega) (by omega) (okL_top (okL_drop is)) (okL_top is)
    exact mk_ok hm _ _ _ _ _ _ _ (by assumption)
  · have n1:(1:Int)≤m.stack.length:=z1
    have a1:(0:Int)≤m.side.length:=z3
    have n2:(m.stack.length:Int)+1≤m.ls:=z2 (by decide)
    exact mk_ok hm _ _ _ _ _ _ _ (by assumption)
  · have n1:(1:Int)≤m.stack.length:=z1
    have a1:(0:Int)≤m.side.length:=z3
    exact mk_ok hm _ _ _ _ _ _ _ (by assumption)
  · have n1:(2:Int)≤m.stack.length:=z1
    have a1:(0:Int)≤m.side.length:=z3
    exact mk_ok hm _ _ _ _ _ _ _ (by assumption)
  · have n1:(2:Int)≤m.stack.length:=z1
    have a1:(0:Int)≤m.side.length:=z3
    have n2:(m.stack.length:Int)+1≤m.ls:=z2 (by decide)
    exact mk_ok hm _ _ _ _ _ _ _ (by assumption)
  · have n1:(3:Int)≤m.stack.length:=z1
    have a1:(0:Int)≤m.side.length:=z3
    exact mk_ok hm _ _ _ _ _ _ _ (by assumption)
  · have n1:(1:Int)≤m.stack.length:=z1
    have a1:(0:Int)≤m.side.length:=z3
    have a2:(m.side.length:Int)+1≤m.la:=z4 (by decide)
    exact mk_ok hm _ _ _ _ _ _ _ (by assumption)
  · have n1:(0:Int)≤m.stack.length:=z1
    have a1:(1:Int)≤m.side.length:=z3
    have n2:(m.stack.length:Int)+1≤m.ls:=z2 (by decide)
    exact mk_ok hm _ _ _ _ _ _ _ (by assumption)
  · have n1:(0:Int)≤m.stack.length:=z1
    have a1:(1:Int)≤m.side.length:=z3
    have n2:(m.stack.length:Int)+1≤m.ls:=z2 (by decide)
    exact mk_ok hm _ _ _ _ _ _ _ (by assumption)
  · have n1:(2:Int)≤m.stack.length:=z1
    have a1:(0:Int)≤m.side.length:=z3
    exact mk_ok hm _ _ _ _ _ _ _ (by assumption)
  · have n1:(1:Int)≤m.stack.length:=z1
    have a1:(0:Int)≤m.side.length:=z3
    exact mk_ok hm _ _ _ _ _ _ _ (by assumption)
  · have n1:(1:Int)≤m.stack.length:=z1
    have a1:(0:Int)≤m.side.length:=z3
    exact mk_ok hm _ _ _ _ _ _ _ (by (simp only[ByteArray.size_append,size_one];have:=z9 rfl;omega))
  · have n1:(1:Int)≤m.stack.length:=z1
    have a1:(0:Int)≤m.side.length:=z3
    exact mk_ok hm _ _ _ _ _ _ _ (by (rw[ByteArray.append_assoc,ByteArray.size_append];have e1:=dotB_size (topL m.stack);unfold dotB at e1;rw[e1];have:=z10 rfl;omega))
theorem partsRun_mok (arg:Int) (harg:inI arg) (ps:List Int):∀ (m:MS),MOk m→(∀ x∈ps,0≤x∧x≤32)→MOk (partsRun arg ps m).1:=by
  induction ps with
  | nil=>intro m hm _;exact hm
  | cons op r ih =>
    intro m hm hp
    unfold partsRun
    split
    · rename_i h0
      exact ih _ (doS_mok m hm op arg (hp op (List.mem_cons_self ..)) harg h0) (fun x hx=>hp x (List.mem_cons_of_mem _ hx))
    · exact hm
theorem MOk.short {m:MS} (hm:MOk m):m.stack.length≤2000:=by
  have h1:=hm.stack
  have h2:=hm.lims
  omega
def superS (op:Int):List Int:=match partsTab.find? (fun x=>op == x.1) with|some x=>x.2|none=>[]
theorem superParts_any (op:Nat) (h:40≤op∧op<60) (w:World) :
    Calls Tryz.prog 60 #[.int .i64 op] w fun e w'=>∃ cs:Array Value,e=.returned (.slice (some ⟨w.heap.size,0,none⟩) cs.size cs.size)∧cs.toList=(superS op).map (Value.int .i64)∧w'=w.alloc (.cells cs 3):=by
  have hall:op=40∨op=41∨op=42∨op=43∨op=44∨op=45∨op=46∨op=47∨op=48∨op=49∨op=50∨op=51∨op=52∨op=53∨op=54∨op=55∨op=56∨op=57∨op=58∨op=59:=by omega
  clear h
  rcases hall with rfl|rfl|rfl|rfl|rfl|rfl|rfl|rfl|rfl|rfl|rfl|rfl|rfl|rfl|rfl|rfl|rfl|rfl|rfl|rfl
  all_goals
    go_enter Tryz.func60,Tryz.ntmps60
    go_wp2_with fail
    go_ret
    exact⟨_,rfl,rfl,rfl⟩
structure PartsAt (B:Nat) (w:World) (pb q c:Nat) (ps:List Int):Prop where
  box:Blk w pb #[.slice (some ⟨q,0,none⟩) ps.length c] 115
  low:pb<B∧q<B
  cell:∀ (j:Nat) (p:Int),ps[j]? = some p→w.cell? ⟨q,j,none⟩=some (.int .i64 p)
theorem PartsAt.to {B:Nat} {w w':World} {pb q c:Nat} {ps:List Int} (h:PartsAt B w pb q c ps) (hb:Below B w w'):PartsAt B w' pb q c ps :=
  ⟨h.box.below hb h.low.1,h.low,fun j p hj=>by rw[hb.cell (by simpa using h.low.2)];exact h.cell j p hj⟩
theorem doS_len (m:MS) (op arg:Int):(doS m op arg).stack.length≤m.stack.length+3:=by
  unfold doS
  repeat' (first|refine ite_pred (p:=fun z=>z.stack.length≤m.stack.length+3) ?_ ?_|((try simp only[List.length_append])<;>(try simp only[List.length_cons])<;>(try simp only[List.length_nil])<;>(try simp only[List.length_dropLast])<;>omega))
theorem partsRun_cons (arg op:Int) (r:List Int) (m:MS):partsRun arg (op :: r) m=if refusedS m op=0 then partsRun arg r (doS m op arg) else (m,refusedS m op):=rfl
theorem deed_inTurn (B b tb:Nat) (vl:Value) (m:MS) (st:Int) (w w0:World) (hw:Below B w0 w) (h:PmE B w b tb vl m st) (hm:MOk m) (arg x0 x1 x2:Int) (harg:inI arg) (pb q c:Nat) (ps:List Int) (hat:PartsAt B w pb q c ps) (hps:ps.length≤3) (hpr:∀ x∈ps,0≤x∧x≤32) (htb:tb<B) (hE:∀ op,op<33→EntryOk B w0 b tb op) :
    Calls Tryz.prog 123 #[.pointer (some ⟨b,0,none⟩),.int .i64 arg,.agg #[.int .i64 x0,.int .i64 x1,.int .i64 x2],.pointer (some ⟨pb,0,none⟩)] w (DeedPost B w b tb vl st (partsRun arg ps m).1 (partsRun arg ps m).2):=by
  have hb:=below_box w (.cells #[.int .i64 x0,.int .i64 x1,.int .i64 x2] 171)
  have hB:=h.size
  have hat0:=hat.to (hb.mono hB)
  have hcp:=hat.box.cell
  have hlp:=hat.box.lt
  have HA:=V hat
  have HB:=V hb
  have HH:=V (h.below hb)
  have HMO:=V hm
  have HE:=V hE
  have HW:=V hw
  have HPR:=V hpr
  have hpsI:(ps.length:Int)≤3:=by omega
  generalize hres:partsRun arg ps m=res
  have HRES:=V hres
  obtain⟨rm,re⟩:=res
  clear h hb hat hat0 hm hE hw hpr hres
  go_enter Tryz.func123,Tryz.ntmps123
  go_wp2_with fail
  go_loopw [13] (fun i wr=>∃ (k:Nat) (mk:MS),i=.int .i64 k∧k≤ps.length∧PmE B wr b tb vl mk st∧MOk mk∧partsRun arg (ps.drop k) mk=(rm,re)∧KeepB w wr∧Below B w wr) (fun i _=>ps.length-(intOf i).toNat)
  case atStart=>exact⟨0,m,rfl,Nat.zero_le _,U HH,U HMO,U HRES,KeepB.ofBelow (U HB),(U HB).mono hB⟩
  case round =>
    obtain⟨k,mk,rfl,hk,hm,hmo,hrun,hkb,hbl⟩:=hrel
    clear HH HMO HRES hcp
    by_cases hlt:k<ps.length
    · obtain⟨p,hp⟩:∃ p,ps[k]? = some p:=⟨_,List.getElem?_eq_getElem hlt⟩
      have hpm:=U HPR p (List.mem_of_getElem? hp)
      obtain⟨pn,rfl⟩:∃ pn:Nat,p=pn:=⟨p.toNat,by omega⟩
      have hatr:=(U HA).to hbl
      have hqc:=hatr.cell k pn hp
      have hql:q<wr.heap.size:=by have:=hatr.low.2;have:=hm.size;omega
      have hltI:(k:Int)<ps.length:=by omega
      have hpn:pn<33:=by omega
      have hlen:(doS mk pn arg).stack.length≤2000:=by have:=doS_len mk pn arg;have:=hmo.stack;have:=hmo.lims;omega
      have HDO:=V (do_base B b tb vl mk st wr w0 ((U HW).trans hbl) hm hmo pn arg hpn harg htb (U HE pn hpn) hlen)
      have hdrop:ps.drop k=(pn:Int) :: ps.drop (k+1):=by
        obtain⟨hk',e⟩:=List.getElem?_eq_some_iff.1 hp
        rw[List.drop_eq_getElem_cons hk',e]
      rw[hdrop,partsRun_cons]at hrun
      by_cases hz:refusedS mk pn=0
      · rw[if_pos hz]at hrun
        rw[if_pos hz,hz]at HDO
        have HRUN:=V hrun
        have HMO:=V (doS_mok mk hmo pn arg (by omega) harg hz)
        have HKB:=V hkb
        have HBL:=V hbl
        clear hp hpm hatr hlen hdrop hz hrun hm hmo hkb hbl
        go_wp2_with fail
        refine (U HDO).mono ?_
        rintro e w1 ⟨rfl,h1,h2,h3⟩
        have H1:=V h1
        have H2:=V h2
        have H3:=V h3
        clear h1 h2 h3 HDO
        go_wp2_with fail
        go_roundw
        case rel=>exact⟨k+1,_,by go_num,by omega,U H1,U HMO,U HRUN,(U HKB).trans (U H2),(U HBL).trans (U H3)⟩
        case measure=>simp[intOf];omega
      · rw[if_neg hz]at hrun
        rw[if_neg hz]at HDO
        have HRUN:=V hrun
        have HKB:=V hkb
        have HBL:=V hbl
        have hz':(refusedS mk pn == 0)=false:=by simpa using hz
        clear hp hpm hatr hlen hdrop hrun hm hmo hkb hbl hz
        generalize refusedS mk pn=er at *
        go_wp2_with fail
        refine (U HDO).mono ?_
        rintro e w1 ⟨rfl,h1,h2,h3⟩
        have H1:=V h1
        have H2:=V h2
        have H3:=V h3
        clear h1 h2 h3 HDO
        go_wp2_with fail
        go_ret
        have e1:=U HRUN
        simp only[Prod.mk.injEq]at e1
        obtain⟨rfl,rfl⟩:=e1
        exact⟨rfl,U H1,(U HKB).trans (U H2),(U HBL).trans (U H3)⟩
    · have hkk:k=ps.length:=by omega
      subst hkk
      rw[List.drop_length]at hrun
      have HM:=V hm
      have HKB:=V hkb
      have HBL:=V hbl
      have HRUN:=V hrun
      clear hm hmo hrun hkb hbl
      go_wp2_with fail
      go_ret
      have e1:=U HRUN
      unfold partsRun at e1
      simp only[Prod.mk.injEq]at e1
      obtain⟨rfl,rfl⟩:=e1
      exact⟨rfl,U HM,U HKB,U HBL⟩
structure TableOk (B:Nat) (w:World) (tb:Nat):Prop where
  low:tb<B
  base:∀ b op,op<33→EntryOk B w b tb op
  supers:∀ op,40≤op→op<60→∃ pb q c,EntryAt w tb (op * 5) 0 0 0 0 (.func (.func 123) #[] #[.pointer (some ⟨pb,0,none⟩)])∧PartsAt B w pb q c (superS op)
theorem super_parts (op:Nat) (h:40≤op) (h':op<60):partsS op=superS op∧(superS op).length≤3∧∀ x∈superS op,0≤x∧x≤32:=by
  have:∀ k:Fin 20,partsS ((k.val+40:Nat):Int)=superS ((k.val+40:Nat):Int)∧(superS ((k.val+40:Nat):Int)).length≤3:=by decide
  have h1:=this ⟨op-40,by omega⟩
  have e:op-40+40=op:=by omega
  simp only[e]at h1
  refine⟨h1.1,h1.2,?_⟩
  rw[← h1.1]
  exact parts_range op
theorem do_all (B b tb:Nat) (vl:Value) (m:MS) (st:Int) (w w0:World) (hw:Below B w0 w) (hT:TableOk B w0 tb) (h:PmE B w b tb vl m st) (hm:MOk m) (op:Nat) (arg:Int) (hop:op<33∨40≤op∧op<60) (harg:inI arg) :
    Calls Tryz.prog 124 #[.pointer (some ⟨b,0,none⟩),.agg #[.int .i64 op,.int .i64 arg]] w
      (DeedPost B w b tb vl st (partsRun arg (partsS op) m).1 (partsRun arg (partsS op) m).2):=by
  have hst:=hm.stack
  have hsd:=hm.side
  have hli:=hm.lims
  have hB:=h.size
  rcases hop with hop|⟨h40,h60⟩
  · rw[parts_plain op (by omega),partsRun_cons]
    have:=do_base B b tb vl m st w w0 hw h hm op arg hop harg hT.low (hT.base b op hop) (by have:=doS_len m op arg;omega)
    by_cases hz:refusedS m op=0
    · rw[if_pos hz,hz]at this
      rw[if_pos hz]
      exact this
    · rw[if_neg hz]at this
      rw[if_neg hz]
      exact this
  · obtain⟨e1,e2,e3⟩:=super_parts op h40 h60
    obtain⟨pb,q,c,hat,hpa⟩:=hT.supers op h40 h60
    rw[e1]
    have hmr:=partsRun_mok arg harg (superS op) m hm e3
    have:=pmDo_over B b tb vl m st w h op arg h60 hT.low 0 0 0 123 #[.pointer (some ⟨pb,0,none⟩)] m.stack [] (hat.below hw hT.low) (by omega) (by omega)
      (by unfold chkS;simp only[List.length_nil,Int.ofNat_zero];rw[if_neg (by omega),if_neg (by omega),if_neg (by omega),if_neg (by omega)]) (by simp) (by simp) Tryz.func123 (by kernel_rfl) (by kernel_rfl) (partsRun arg (superS op) m).1 (partsRun arg (superS op) m).2 hmr.short
      (fun W hW hb=>deed_inTurn B b tb vl m st W w0 (hw.trans hb) hW hm arg 0 0 0 harg pb q c (superS op) (hpa.to (hw.trans hb)) e2 e3 hT.low (hT.base b))
    refine this.mono ?_
    intro e w' hd
    unfold DoPost at hd
    split at hd
    · rename_i hz
      rw[hz]
      exact hd
    · rw[List.append_nil]at hd
      exact hd
theorem runM_halt (l:List (Int×Int)) (f:Nat) (s:Int) (m:MS) (h:m.halted=true):runM l f s m=(m,0,s):=by
  cases f<;>simp[runM,h]
theorem runM_none (l:List (Int×Int)) (s:Int) (m:MS) (h:m.halted=false):runM l 0 s m=(m,15,s):=by simp[runM,h]
theorem runM_go (l:List (Int×Int)) (f:Nat) (s:Int) (m:MS) (h:m.halted=false) (he:(stepM l m).2=0):runM l (f+1) s m=runM l f (s+1) (stepM l m).1:=by simp[runM,h,he]
theorem runM_bad (l:List (Int×Int)) (f:Nat) (s:Int) (m:MS) (h:m.halted=false) (he:(stepM l m).2≠0):runM l (f+1) s m=((stepM l m).1,(stepM l m).2,s+1):=by simp[runM,h,he]
theorem PmE.cellInt {B:Nat} {w:World} {b tb:Nat} {vl:Value} {m:MS} {st:Int} (h:PmE B w b tb vl m st):YtmeiikjpaepogaaGreatDoor.cellInt w b 7=st:=by
  obtain⟨vS,vA,vC,vE,vO,h⟩:=h
  have:=h.blk.cell 7
  simp[pmArr]at this
  simp[YtmeiikjpaepogaaGreatDoor.cellInt,this,intOf]
theorem PmE.tick {B:Nat} {w:World} {b tb:Nat} {vl:Value} {m:MS} {st:Int} (h:PmE B w b tb vl m st) (p s:Int) :
    PmE B ((w.setCell ⟨b,6,none⟩ (.int .i64 p)).setCell ⟨b,7,none⟩ (.int .i64 s)) b tb vl { m with pc:=p } s∧Below B w ((w.setCell ⟨b,6,none⟩ (.int .i64 p)).setCell ⟨b,7,none⟩ (.int .i64 s))∧KeepB w ((w.setCell ⟨b,6,none⟩ (.int .i64 p)).setCell ⟨b,7,none⟩ (.int .i64 s)):=by
  obtain⟨vS,vA,vC,vE,vO,h⟩:=h
  obtain⟨h1,k1,b1⟩:=h.field 6 (.int .i64 p) { m with pc:=p } st rfl rfl
  obtain⟨h2,k2,b2⟩:=h1.field 7 (.int .i64 s) { m with pc:=p } s rfl rfl
  exact⟨⟨_,_,_,_,_,h2⟩,b1.trans b2,k1.trans k2⟩
structure ListAt (B:Nat) (w:World) (g:Nat) (l:List (Int×Int)):Prop where
  low:g<B
  cell:∀ (k:Nat) (x:Int×Int),l[k]? = some x→w.cell? ⟨g,k * 2,none⟩=some (.int .i64 x.1)∧w.cell? ⟨g,k * 2+1,none⟩=some (.int .i64 x.2)
theorem ListAt.to {B:Nat} {w w':World} {g:Nat} {l:List (Int×Int)} (h:ListAt B w g l) (hb:Below B w w'):ListAt B w' g l :=
  ⟨h.low,fun k x hx=>by rw[hb.cell (by simpa using h.low),hb.cell (by simpa using h.low)];exact h.cell k x hx⟩
structure RunRel (B:Nat) (w:World) (b tb:Nat) (vl:Value) (l:List (Int×Int)) (fuel:Int) (r:MS×Int×Int) (mk:MS) (k:Nat) (wr:World):Prop where
  pm:PmE B wr b tb vl mk k
  ok:MOk mk
  at_:mk.halted=true∨RunOk l mk
  run:runM l (fuel.toNat-k) k mk=r
  few:(k:Int)≤1000000000
  below:Below B w wr
theorem pmRun_any (B b tb g cap:Nat) (l:List (Int×Int)) (m:MS) (w w0:World) (fuel:Int) (hfu:fuel≤1000000000) (hw:Below B w0 w) (hT:TableOk B w0 tb) (h:PmE B w b tb (.slice (some ⟨g,0,none⟩) l.length cap) m 0) (hm:MOk m) (hl:CodeOk l) (hr:RunOk l m) (hg:ListAt B w0 g l) :
    Calls Tryz.prog 63 #[.pointer (some ⟨b,0,none⟩),.int .i64 fuel] w fun e w'=>e=.returned (.int .i64 (runM l fuel.toNat 0 m).2.1)∧PmE B w' b tb (.slice (some ⟨g,0,none⟩) l.length cap) (runM l fuel.toNat 0 m).1 (runM l fuel.toNat 0 m).2.2∧MOk (runM l fuel.toNat 0 m).1∧Below B w w':=by
  have hrel0:RunRel B w b tb (.slice (some ⟨g,0,none⟩) l.length cap) l fuel (runM l fuel.toNat 0 m) m 0 w:=⟨h,hm,Or.inr hr,rfl,by omega,Below.refl _ _⟩
  generalize runM l fuel.toNat 0 m=res at *
  obtain⟨rm,re,rs⟩:=res
  have HREL:=V hrel0
  have HW:=V hw
  have HT:=V hT
  have HG:=V hg
  have HL:=V hl
  have hlI:(l.length:Int)≤5000:=by have:=hl.small;omega
  clear hrel0 hw hT hg h hm hr hl
  go_enter Tryz.func63,Tryz.ntmps63
  go_wp2_with fail
  go_loopw [] (fun wr=>∃ (mk:MS) (k:Nat),RunRel B w b tb (.slice (some ⟨g,0,none⟩) l.length cap) l fuel (rm,re,rs) mk k wr) (fun wr=>(fuel-YtmeiikjpaepogaaGreatDoor.cellInt wr b 7).toNat)
  case atStart=>exact⟨m,0,U HREL⟩
  case round =>
    clear HREL
    obtain⟨mk,k,hrel⟩:=hrel
    have HREL:=V hrel
    obtain⟨vS,vA,vC,vE,vO,hp⟩:=hrel.pm
    have hc:=hp.blk.cell
    unfold pmArr at hc
    have hbl:=hp.blk.lt
    cases hh:mk.halted
    · rw[hh]at hc
      have hro:RunOk l mk:=by
        rcases hrel.at_ with e|e
        · rw[hh]at e;cases e
        · exact e
      by_cases hfk:(k:Int)<fuel
      · have hfk':decide (fuel≤(k:Int))=false:=by simp;omega
        obtain⟨k0,hk0⟩:∃ k0:Nat,mk.pc=k0:=⟨mk.pc.toNat,by have:=hro.pc;omega⟩
        have hlt:k0<l.length:=by have:=hro.pc;omega
        obtain⟨x,hx⟩:∃ x,l[k0]? = some x:=⟨_,List.getElem?_eq_getElem hlt⟩
        have hxok:=(U HL).ins x (List.mem_of_getElem? hx)
        obtain⟨op,hop⟩:∃ op:Nat,x.1=op:=⟨x.1.toNat,by omega⟩
        have hst:stepM l mk=partsRun x.2 (partsS op) { mk with pc:=mk.pc+1 }:=by
          unfold stepM
          rw[hk0,Int.toNat_natCast,hx,← hop]
        have hga:=(U HG).to ((U HW).trans hrel.below)
        obtain⟨hx1,hx2⟩:=hga.cell k0 x hx
        rw[hop]at hx1
        have hB:=hrel.pm.size
        have hgl:g<wr.heap.size:=by have:=hga.low;omega
        have HDO:Hid (∀ W,Below B wr W→PmE B W b tb (.slice (some ⟨g,0,none⟩) l.length cap) { mk with pc:=(k0:Int)+1 } ((k+1:Nat):Int)→Calls Tryz.prog 124 #[.pointer (some ⟨b,0,none⟩),.agg #[.int .i64 op,.int .i64 x.2]] W (DeedPost B W b tb (.slice (some ⟨g,0,none⟩) l.length cap) ((k+1:Nat):Int) (stepM l mk).1 (stepM l mk).2)):=fun W hW hP=>by
          rw[hst,hk0]
          exact do_all B b tb _ _ _ W w0 ((U HW).trans (hrel.below.trans hW)) (U HT) hP (hrel.ok.pc _) op x.2 (by omega) hxok.2.1
        have hmo:MOk (stepM l mk).1:=by
          rw[hst]
          exact partsRun_mok x.2 hxok.2.1 _ _ (hrel.ok.pc _) (parts_range _)
        have HMO:=V hmo
        have HSO:=V (stepM_ok l mk (U HL) hro)
        have hk9:=hrel.few
        rw[hk0]at hc
        have HPM:=V hrel.pm
        have hltI:(k0:Int)<l.length:=by omega
        have HBEL:=V hrel.below
        have HRUN:=V hrel.run
        generalize x.2=arg at *
        clear hrel hx hxok hop hst hga hp hmo hro
        generalize hsm:stepM l mk=sm at *
        obtain⟨sm1,sm2⟩:=sm
        have HSM:=V hsm
        clear hsm
        simp only at HDO HMO HSO
        go_wp2_with fail
        go_cut [5] from 7 to 47 (fun s5 wc=>∃ q,s5=.pointer (some ⟨q,0,none⟩)∧Blk wc q #[.int .i64 op,.int .i64 arg] 65∧wr.heap.size≤q∧Below wr.heap.size wr wc)
        case first =>
          go_region
          all_goals
            go_wp2_with fail
            go_meet
            refine⟨wr.heap.size,rfl,?_,Nat.le_refl _,?_⟩
            · exact (Blk.new wr _ _).drew
            · exact below_drew' (below_box wr _)
        case rest =>
          obtain⟨q,rfl,hq,hqg,hbc⟩:=hcut
          obtain⟨wb,rfl⟩:∃ wb:World,wb=wc:=⟨_,rfl⟩
          have hpc:=(U HPM).below hbc
          have htick:=hpc.tick ((k0:Int)+1) ((k+1:Nat):Int)
          have hqb:=htick.2.2 _ _ _ hq (Or.inr rfl)
          have HDO2:=V (U HDO _ ((hbc.mono hB).trans htick.2.1) htick.1)
          have HBT:=V ((hbc.mono hB).trans htick.2.1)
          have hcq:=hq.cell
          have hql:=hq.lt
          have hneb:b≠q:=by omega
          obtain⟨uS,uA,uC,uE,uO,hpb⟩:=hpc
          have hcb:=hpb.blk.cell
          unfold pmArr at hcb
          rw[hh,]at hcb
          have hbl2:=hpb.blk.lt
          have hfb:=hpb.blk.free
          have hsc:(((k+1:Nat):Int))=(k:Int)+1:=by omega
          rw[hsc]at HDO2 HBT
          clear hc hbc htick hqb hq hpb hx1 hx2 HDO HPM
          go_wp2_with fail
          refine (U HDO2).mono ?_
          rintro e w2 ⟨rfl,d1,_,d3⟩
          have hb2:Below B w w2:=(U HBEL).trans ((U HBT).trans d3)
          by_cases he:sm2=0
          · subst he
            have D1:=V d1
            have HB2:=V hb2
            clear d1 d3 hb2 HDO2 hcb hcq
            go_wp2_with fail
            go_roundw
            case rel =>
              refine⟨sm1,k+1,⟨by rw[hsc];exact U D1,U HMO,?_,?_,by omega,U HB2⟩⟩
              · exact (U HSO) trivial
              · have h3:=U HRUN
                obtain⟨n,hn⟩:∃ n,fuel.toNat-k=n+1:=⟨fuel.toNat-k-1,by omega⟩
                have hn2:fuel.toNat-(k+1)=n:=by omega
                rw[hn,runM_go l n k mk hh (by rw[U HSM]),U HSM]at h3
                rw[hn2,hsc]
                exact h3
            case measure =>
              rw[(U D1).cellInt,(U HREL).pm.cellInt]
              omega
          · have he':(sm2 == 0)=false:=by simpa using he
            have h3:=U HRUN
            obtain⟨n,hn⟩:∃ n,fuel.toNat-k=n+1:=⟨fuel.toNat-k-1,by omega⟩
            rw[hn,runM_bad l n k mk hh (by rw[U HSM];exact he),U HSM]at h3
            simp only[Prod.mk.injEq]at h3
            obtain⟨rfl,rfl,rfl⟩:=h3
            have D1:=V d1
            have HB2:=V hb2
            clear d1 d3 hb2 HDO2 hcb hcq
            go_wp2_with fail
            go_ret
            exact⟨rfl,U D1,U HMO,U HB2⟩
      · have hfk':decide (fuel≤(k:Int))=true:=by simp;omega
        have h3:=hrel.run
        rw[show fuel.toNat-k=0 by omega,runM_none l k mk hh]at h3
        simp only[Prod.mk.injEq]at h3
        obtain⟨rfl,rfl,rfl⟩:=h3
        clear hrel hp hro
        go_wp2_with fail
        go_ret
        exact⟨rfl,(U HREL).pm,(U HREL).ok,(U HREL).below⟩
    · rw[hh]at hc
      have h3:=hrel.run
      rw[runM_halt l _ k mk hh]at h3
      simp only[Prod.mk.injEq]at h3
      obtain⟨rfl,rfl,rfl⟩:=h3
      clear hrel hp
      go_wp2_with fail
      go_ret
      exact⟨rfl,(U HREL).pm,(U HREL).ok,(U HREL).below⟩
def restS (m:MS) (op:Int):Int :=
  if op=3 then (if m.lc≤m.calls.length then 11 else 0)
  else if op=4 then (if m.calls.length=0 then 11 else 0)
  else if op=29∨op=30 then (if topS m<0∨(m.cells.length:Int)≤topS m then 12 else 0)
  else if op=12∨op=13 then (if topS m=0 then 13 else 0)
  else if op=31 then (if m.lo<(m.out.size:Int)+1 then 14 else 0)
  else if op=32 then (if m.lo<(m.out.size:Int)+(digitsS (topS m)).length+1 then 14 else 0)
  else 0
theorem chk_rest (m:MS) (hm:MOk m) (op:Nat) (h:op<33) (hc:chkS m (entS op).1 (entS op).2.1 (entS op).2.2.1 (entS op).2.2.2=0):refusedS m op=restS m op:=by
  obtain⟨d1,d2,d3,d4⟩:=(chk_refused m hm op h).2 hc
  obtain⟨e1,e2⟩:=ent_needs op h
  unfold refusedS
  rw[e1,e2]
  generalize (entS op).1=t1 at *
  generalize (entS op).2.1=g1 at *
  generalize (entS op).2.2.1=t2 at *
  generalize (entS op).2.2.2=g2 at *
  simp only
  have n1:¬ (m.stack.length:Int)<t1:=by omega
  have n2:¬ (0<(g1:Int)-t1∧m.ls<(m.stack.length:Int)+((g1:Int)-t1)):=by omega
  have n3:¬ (m.side.length:Int)<t2:=by omega
  have n4:¬ (0<(g2:Int)-t2∧m.la<(m.side.length:Int)+((g2:Int)-t2)):=by omega
  rw[if_neg n1,if_neg n2,if_neg n3,if_neg n4]
  rfl
theorem sem_plain (B:Nat) (w:World) (b tb op:Nat) (F:FuncId) (cap:Array Value) (hop:op<33) (hz:∀ m,restS m op=0)
    (hd:∀ (W:World) (vl:Value) (m:MS) (st arg:Int) (l r:List Int),Below B w W→PmE B W b tb vl { m with stack:=l } st→MOk m→inI arg→m.stack=l++r→r.length=(entS op).1→(m.side.length:Int)≥(entS op).2.2.1→l.length≤1000∧m.side.length≤1000 →
      Calls Tryz.prog F (#[.pointer (some ⟨b,0,none⟩),.int .i64 arg,.agg #[.int .i64 (nth r 0),.int .i64 (nth r 1),.int .i64 (nth r 2)]]++cap) W (DeedPost B W b tb vl st (doS m op arg) 0)):DeedSem B w b tb op F cap:=by
  intro W vl m st arg l r hb hp hm harg hst hrl hc
  have h0:refusedS m op=0:=by rw[chk_rest m hm op hop hc];exact hz m
  obtain⟨d1,d2,d3,d4⟩:=(chk_refused m hm op hop).2 hc
  rw[if_pos h0,h0]
  have hl:=hm.lims
  have hs:=hm.stack
  have ha:=hm.side
  have hlr:m.stack.length=l.length+r.length:=by rw[hst];simp
  exact hd W vl m st arg l r hb hp hm harg hst hrl d2 ⟨by omega,by omega⟩
theorem len0 {r:List Int} (h:r.length=0):r=[]:=List.eq_nil_of_length_eq_zero h
theorem len1 {r:List Int} (h:r.length=1):∃ x,r=[x]:=by
  match r,h with
  | [x],_=>exact⟨x,rfl⟩
theorem len2 {r:List Int} (h:r.length=2):∃ x y,r=[x,y]:=by
  match r,h with
  | [x,y],_=>exact⟨x,y,rfl⟩
theorem sem_lit (B:Nat) (w:World) (b tb:Nat):DeedSem B w b tb 0 91 #[]:=by
  refine sem_plain B w b tb 0 _ _ (by omega) (fun m=>by simp[restS]) ?_
  intro W vl m st arg l r hb hp hm harg hst hrl hsd hln
  obtain rfl:=len0 hrl
  rw[List.append_nil]at hst
  have e:doS m (0:Nat) arg={ m with stack:=l++[arg] }:=by simp[doS,hst]
  rw[e,Array.append_empty]
  exact deed_lit B b tb vl _ st W hp arg _ _ _ hln.1
theorem sem_jump (B:Nat) (w:World) (b tb:Nat):DeedSem B w b tb 1 92 #[]:=by
  refine sem_plain B w b tb 1 _ _ (by omega) (fun m=>by simp[restS]) ?_
  intro W vl m st arg l r hb hp hm harg hst hrl hsd hln
  obtain rfl:=len0 hrl
  rw[List.append_nil]at hst
  have e:doS m (1:Nat) arg={ m with stack:=l,pc:=arg }:=by simp[doS,← hst]
  rw[e,Array.append_empty]
  exact deed_jump B b tb vl _ st W hp arg _ _ _
theorem sem_halt (B:Nat) (w:World) (b tb:Nat):DeedSem B w b tb 5 96 #[]:=by
  refine sem_plain B w b tb 5 _ _ (by omega) (fun m=>by simp[restS]) ?_
  intro W vl m st arg l r hb hp hm harg hst hrl hsd hln
  obtain rfl:=len0 hrl
  rw[List.append_nil]at hst
  have e:doS m (5:Nat) arg={ m with stack:=l,halted:=true }:=by simp[doS,← hst]
  rw[e,Array.append_empty]
  exact deed_halt B b tb vl _ st W hp arg _ _ _
end Go.Proofs.YtmeiikjpaepogaaGreatDoor
