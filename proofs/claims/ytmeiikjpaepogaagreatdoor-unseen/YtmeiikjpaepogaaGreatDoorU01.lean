/- Own laws on blocks of memory, over any program: what a block holds that is known whole, behind stores, draws, new blocks, calls. -/
import Derived.WalkKit
import Derived.WalkSpells
import Derived.WalkLawsBesides
import Derived.Deep.QuietTactic
import Derived.BigQuiet
import Derived.Deep.RegionHeldLaw
import Derived.Deep.RegionLaw
import Derived.Deep.DeepFit
import Derived.Deep.DeepMust
import Derived.Deep.AppendLies
import Derived.Test.YtmeiikjpaepogaaGreatDoorRows
namespace Go.Proofs.YtmeiikjpaepogaaGreatDoor
open Go Go.RowKit
theorem V {p:Prop} (h:p):Hid p:=h
theorem U {p:Prop} (h:Hid p):p:=h
theorem ret_int {k:IntKind} {a b:Int} (h:a=b):Ending.returned (.int k a)=.returned (.int k b):=by rw[h]
theorem ret_bool {a b:Bool} (h:a=b):Ending.returned (.bool a)=.returned (.bool b):=by rw[h]
def Blk (w:World) (b:Nat) (cs:Array Value) (T:TypeId):Prop:=w.heap[b]? = some (.cells cs T (0,0))
theorem Blk.cell {w:World} {b:Nat} {cs:Array Value} {T:TypeId} (h:Blk w b cs T) (i:Nat):w.cell? ⟨b,i,none⟩=cs[i]?:=by
  unfold Blk at h;simp[World.cell?,h]
theorem Blk.free {w:World} {b:Nat} {cs:Array Value} {T:TypeId} (h:Blk w b cs T) (i:Nat):w.frozen? ⟨b,i,none⟩=false:=by
  unfold Blk at h;simp[World.frozen?,h]
theorem Blk.lt {w:World} {b:Nat} {cs:Array Value} {T:TypeId} (h:Blk w b cs T):b<w.heap.size:=lt_of_block h
theorem Blk.set {w:World} {b:Nat} {cs:Array Value} {T:TypeId} (h:Blk w b cs T) (i:Nat) (v:Value):Blk (w.setCell ⟨b,i,none⟩ v) b (cs.setIfInBounds i v) T:=by
  have hlt:=h.lt
  unfold Blk at h ⊢
  have h':w.heap[b]=.cells cs T (0,0):=by simpa [Array.getElem?_eq_getElem hlt] using h
  show (w.heap.modify b _)[b]? = _
  rw[Array.getElem?_eq_getElem (by simpa using hlt),Array.getElem_modify_self,h']
  rfl
theorem Blk.far {w:World} {b:Nat} {cs:Array Value} {T:TypeId} (h:Blk w b cs T) {a:Addr} (ha:b≠a.block) (v:Value):Blk (w.setCell a v) b cs T:=by
  unfold Blk at h ⊢;rw[Below.heap_setCell _ _ _ _ ha];exact h
theorem Blk.drew {w:World} {b:Nat} {cs:Array Value} {T:TypeId} (h:Blk w b cs T):Blk w.drew b cs T:=h
theorem Blk.drewN {w:World} {b:Nat} {cs:Array Value} {T:TypeId} (h:Blk w b cs T) (n:Nat):Blk (w.drewN n) b cs T:=h
theorem Blk.alloc {w:World} {b:Nat} {cs:Array Value} {T:TypeId} (h:Blk w b cs T) (o:Obj):Blk (w.alloc o) b cs T:=by
  have hlt:=h.lt
  unfold Blk at h ⊢;rw[Below.heap_alloc _ _ _ hlt];exact h
theorem Blk.new (w:World) (cs:Array Value) (T:TypeId):Blk (w.alloc (.cells cs T)) w.heap.size cs T:=by
  unfold Blk;show (w.heap.push _)[w.heap.size]? = _;simp
theorem Blk.grown {w w':World} {b:Nat} {cs:Array Value} {T:TypeId} {row:Option Nat} (h:Blk w b cs T) (hg:w.grownBy w' row) (hr:some b≠row):Blk w' b cs T:=by
  have hlt:=h.lt
  unfold Blk at h ⊢;rw[hg.block _ hlt hr];exact h
theorem Blk.below {B:Nat} {w w':World} {b:Nat} {cs:Array Value} {T:TypeId} (h:Blk w b cs T) (hb:Below B w w') (hlt:b<B):Blk w' b cs T:=by
  unfold Blk at h ⊢;rw[hb.block _ hlt];exact h
theorem below_drawn {B:Nat} {a w:World} (h:Below B a w) (n:Nat):Below B a (w.drewN n):=⟨h.os,h.tape,h.output,h.size,h.block⟩
theorem ownsRow_far {w:World} {base:Nat} {e:TypeId} {size:Nat} {v:Value} {n:Nat} {xs:List Value} (h:w.ownsRow base e size v n xs) {a:Addr} (ha:v.ownBlock≠some a.block) (u:Value):(w.setCell a u).ownsRow base e size v n xs:=ownsRow_setCell_other h ha u
theorem ownsRow_of_block {w w':World} {base:Nat} {e:TypeId} {size:Nat} {v:Value} {n:Nat} {xs:List Value} (h:w.ownsRow base e size v n xs) (hb:∀ k,v.ownBlock=some k→k<w.heap.size→w'.heap[k]? = w.heap[k]?):w'.ownsRow base e size v n xs:=by
  obtain⟨h1,h2⟩:=h
  refine⟨h1,?_⟩
  rcases h2 with h2|⟨g,cap,cur,hv,hg,hh,r⟩
  · exact Or.inl h2
  · refine Or.inr ⟨g,cap,cur,hv,hg,?_,r⟩
    rw[hb g (by rw[hv];rfl) (lt_of_block hh)];exact hh
theorem ownsRow_grown {w w':World} {row:Option Nat} {base:Nat} {e:TypeId} {size:Nat} {v:Value} {n:Nat} {xs:List Value} (h:w.ownsRow base e size v n xs) (hg:w.grownBy w' row) (hne:∀ k,v.ownBlock=some k→some k≠row):w'.ownsRow base e size v n xs :=
  ownsRow_of_block h (fun k hk hlt=>hg.block k hlt (hne k hk))
theorem ownsRow_alloc {w:World} {base:Nat} {e:TypeId} {size:Nat} {v:Value} {n:Nat} {xs:List Value} (h:w.ownsRow base e size v n xs) (o:Obj):(w.alloc o).ownsRow base e size v n xs :=
  ownsRow_of_block h (fun _ _ hlt=>Below.heap_alloc _ _ _ hlt)
theorem ownsRow_lt {w:World} {base:Nat} {e:TypeId} {size:Nat} {v:Value} {n:Nat} {xs:List Value} (h:w.ownsRow base e size v n xs) {k:Nat} (hk:v.ownBlock=some k):k<w.heap.size∧base≤k:=by
  rcases h.2 with ⟨h2,_⟩|⟨g,cap,cur,hv,hg,hh,r⟩
  · subst h2;simp[Value.ownBlock]at hk
  · subst hv;simp[Value.ownBlock]at hk;subst hk;exact⟨lt_of_block hh,hg⟩
structure RowSpec where
  e:TypeId
  size:Nat
  n:Nat
  xs:List Value
structure Owned (B:Nat) (w:World) (bs:List Nat) (vs:List Value) (ss:List RowSpec):Prop where
  own:∀ (i:Nat) (v:Value) (s:RowSpec),vs[i]? = some v→ss[i]? = some s→w.ownsRow B s.e s.size v s.n s.xs
  apart:∀ (i j:Nat) (v v':Value) (k:Nat),vs[i]? = some v→vs[j]? = some v'→v.ownBlock=some k→v'.ownBlock=some k→i=j
  off:∀ (i:Nat) (v:Value) (b:Nat),vs[i]? = some v→b∈bs→v.ownBlock≠some b
  len:vs.length=ss.length
theorem Owned.to {B:Nat} {w w':World} {bs:List Nat} {vs:List Value} {ss:List RowSpec} (h:Owned B w bs vs ss)
    (hk:∀ (i:Nat) (v:Value) (k:Nat),vs[i]? = some v→v.ownBlock=some k→k<w.heap.size→w'.heap[k]? = w.heap[k]?):Owned B w' bs vs ss :=
  ⟨fun i v s hv hs=>ownsRow_of_block (h.own i v s hv hs) (fun k e hlt=>hk i v k hv e hlt),h.apart,h.off,h.len⟩
theorem Owned.set {B:Nat} {w:World} {bs:List Nat} {vs:List Value} {ss:List RowSpec} (h:Owned B w bs vs ss) {b:Nat} (hb:b∈bs) (i:Nat) (u:Value):Owned B (w.setCell ⟨b,i,none⟩ u) bs vs ss :=
  h.to (fun j v k hv e _=>Below.heap_setCell _ _ _ _ (fun e2=>h.off j v b hv hb (by rw[e,e2])))
theorem Owned.below_all {B:Nat} {w w':World} {bs:List Nat} {vs:List Value} {ss:List RowSpec} (h:Owned B w bs vs ss) (hb:Below w.heap.size w w'):Owned B w' bs vs ss :=
  h.to (fun _ _ k _ _ hlt=>hb.block k hlt)
theorem Owned.grow {B:Nat} {w w1:World} {bs:List Nat} {vs:List Value} {ss:List RowSpec} (h:Owned B w bs vs ss) (i:Nat) (v v':Value) (s':RowSpec) (hv:vs[i]? = some v)
    (hbs:∀ b∈bs,b<w.heap.size) (hg:w.grownBy w1 v.ownBlock) (hown:w1.ownsRow B s'.e s'.size v' s'.n s'.xs) (hat:v'.ownBlock=v.ownBlock∨∃ g,v'.ownBlock=some g∧w.heap.size≤g) :
    Owned B w1 bs (vs.set i v') (ss.set i s'):=by
  have hlt:i<vs.length:=(List.getElem?_eq_some_iff.1 hv).1
  have old:∀ (j:Nat) (u:Value) (k:Nat),vs[j]? = some u→u.ownBlock=some k→k<w.heap.size:=by
    intro j u k hu e
    have hj:=(List.getElem?_eq_some_iff.1 hu).1
    exact (ownsRow_lt (h.own j u _ hu (List.getElem?_eq_getElem (by rw[← h.len];exact hj))) e).1
  have cases:∀ (j:Nat) (u:Value),(vs.set i v')[j]? = some u→(j=i∧u=v')∨(j≠i∧vs[j]? = some u):=by
    intro j u hu
    by_cases e:i=j
    · subst e
      rw[List.getElem?_set_self hlt]at hu
      exact Or.inl ⟨rfl,(Option.some.inj hu).symm⟩
    · rw[List.getElem?_set_ne e]at hu
      exact Or.inr ⟨fun e'=>e e'.symm,hu⟩
  refine⟨?_,?_,?_,by simp[h.len]⟩
  · intro j u s hu hs
    rcases cases j u hu with ⟨rfl,rfl⟩|⟨hj,hu'⟩
    · rw[List.getElem?_set_self (by rw[← h.len];exact hlt)]at hs
      obtain rfl:=Option.some.inj hs
      exact hown
    · rw[List.getElem?_set_ne (fun e=>hj e.symm)]at hs
      exact ownsRow_grown (h.own j u s hu' hs) hg (fun k hk e=>hj (h.apart j i u v k hu' hv hk e.symm))
  · intro j l u u' k hu hu' e e'
    rcases cases j u hu with ⟨rfl,rfl⟩|⟨hj,hj'⟩<;>rcases cases l u' hu' with ⟨rfl,rfl⟩|⟨hl,hl'⟩
    · rfl
    · exfalso
      rcases hat with ha|⟨g,ha,hge⟩
      · exact hl (h.apart _ _ _ _ k hl' hv e' (by rw[← ha];exact e))
      · have:=old _ _ _ hl' e';rw[ha]at e;simp at e;omega
    · exfalso
      rcases hat with ha|⟨g,ha,hge⟩
      · exact hj (h.apart _ _ _ _ k hj' hv e (by rw[← ha];exact e'))
      · have:=old _ _ _ hj' e;rw[ha]at e';simp at e';omega
    · exact h.apart _ _ _ _ k hj' hl' e e'
  · intro j u b hu hb e
    rcases cases j u hu with ⟨rfl,rfl⟩|⟨hj,hj'⟩
    · rcases hat with ha|⟨g,ha,hge⟩
      · exact h.off _ _ b hv hb (by rw[← ha];exact e)
      · have:=hbs b hb;rw[ha]at e;simp at e;omega
    · exact h.off _ _ b hj' hb e
theorem Owned.write {B:Nat} {w:World} {bs:List Nat} {vs:List Value} {ss:List RowSpec} (h:Owned B w bs vs ss) (i:Nat) (g n cap:Nat) (s:RowSpec) (hv:vs[i]? = some (.slice (some ⟨g,0,none⟩) n cap)) (hs:ss[i]? = some s)
    (j:Nat) (u:Value) :
    Owned B (w.setCell ⟨g,j,none⟩ u) bs vs (ss.set i { s with xs:=s.xs.set j u }):=by
  refine⟨?_,h.apart,h.off,by simp[h.len]⟩
  intro l x t hx ht
  by_cases e:i=l
  · subst e
    rw[List.getElem?_set_self (List.getElem?_eq_some_iff.1 hs).1]at ht
    obtain rfl:=Option.some.inj ht
    rw[hv]at hx
    obtain rfl:=Option.some.inj hx
    obtain⟨h1,h2⟩:=h.own i _ s hv hs
    refine⟨by simpa using h1,?_⟩
    rcases h2 with ⟨h2,_⟩|⟨g',cap',cur,hv',hg,hh,hn,hm,hz,ht⟩
    · cases h2
    · simp only[Value.slice.injEq,Option.some.injEq,Addr.mk.injEq,and_true]at hv'
      obtain⟨rfl,rfl,rfl⟩:=hv'
      refine Or.inr ⟨g,cap,cur.setIfInBounds j u,rfl,hg,?_,hn,hm,by simpa using hz,?_⟩
      · exact Blk.set hh j u
      · show List.take _ _=s.xs.set j u
        rw[← ht]
        simp[List.take_set]
  · rw[List.getElem?_set_ne e]at ht
    refine ownsRow_far (h.own l x t hx ht) ?_ u
    intro e2
    exact e (h.apart i l _ x g hv hx rfl e2)
theorem own_shape {w:World} {base:Nat} {e:TypeId} {size:Nat} {v:Value} {n:Nat} {xs:List Value} (h:w.ownsRow base e size v n xs):∃ ao cap,v=.slice ao n cap:=by
  rcases h.2 with ⟨h2,h0⟩|⟨g,cap,cur,hv,_⟩
  · exact⟨none,0,by rw[h2,h0]⟩
  · exact⟨_,_,hv⟩
theorem own_cell {w:World} {base:Nat} {e:TypeId} {size:Nat} {n g cap:Nat} {xs:List Value} (h:w.ownsRow base e size (.slice (some ⟨g,0,none⟩) n cap) n xs) (j:Nat) (hj:j<n * size):w.cell? ⟨g,j,none⟩=xs[j]?:=by
  rcases h.2 with ⟨h2,_⟩|⟨g',cap',cur,hv,hg,hh,hn,hm,hs,ht⟩
  · cases h2
  · simp only[Value.slice.injEq,Option.some.injEq,Addr.mk.injEq,and_true,true_and]at hv
    obtain⟨rfl,rfl⟩:=hv
    rw[← ht]
    simp[World.cell?,hh,hj]
theorem own_free {w:World} {base:Nat} {e:TypeId} {size:Nat} {n g cap:Nat} {xs:List Value} (h:w.ownsRow base e size (.slice (some ⟨g,0,none⟩) n cap) n xs) (j:Nat):w.frozen? ⟨g,j,none⟩=false:=by
  rcases h.2 with ⟨h2,_⟩|⟨g',cap',cur,hv,hg,hh,hn,hm,hs,ht⟩
  · cases h2
  · simp only[Value.slice.injEq,Option.some.injEq,Addr.mk.injEq,and_true,true_and]at hv
    obtain⟨rfl,rfl⟩:=hv
    simp[World.frozen?,hh]
theorem own_cap {w:World} {base:Nat} {e:TypeId} {size:Nat} {n g cap:Nat} {xs:List Value} (h:w.ownsRow base e size (.slice (some ⟨g,0,none⟩) n cap) n xs):n≤cap∧cap≤maxLen:=by
  rcases h.2 with ⟨h2,_⟩|⟨g',cap',cur,hv,hg,hh,hn,hm,hs,ht⟩
  · cases h2
  · simp only[Value.slice.injEq,Option.some.injEq,Addr.mk.injEq,and_true,true_and]at hv
    obtain⟨rfl,rfl⟩:=hv
    exact⟨hn,hm⟩
theorem own_cut {w:World} {base:Nat} {e:TypeId} {size:Nat} {n g cap:Nat} {xs:List Value} (h:w.ownsRow base e size (.slice (some ⟨g,0,none⟩) n cap) n xs) (m:Nat) (hm:m≤n):w.ownsRow base e size (.slice (some ⟨g,0,none⟩) m cap) m (xs.take (m * size)):=by
  obtain⟨h1,h2⟩:=h
  have hle:m * size≤n * size:=Nat.mul_le_mul_right _ hm
  refine⟨by rw[List.length_take,h1];omega,?_⟩
  rcases h2 with ⟨h2,_⟩|⟨g',cap',cur,hv,hg,hh,hn,hmx,hs,ht⟩
  · cases h2
  · simp only[Value.slice.injEq,Option.some.injEq,Addr.mk.injEq,and_true,true_and]at hv
    obtain⟨rfl,rfl⟩:=hv
    refine Or.inr ⟨g,cap,cur,rfl,hg,hh,by omega,hmx,hs,?_⟩
    rw[← ht,List.take_take];congr 1;omega
theorem grownBy_alloc {w w1:World} {o:Obj} {row:Option Nat} (h:(w.alloc o).drew.grownBy w1 row):w.grownBy w1 row:=by
  refine⟨h.os,h.tape,h.output,Nat.le_trans ?_ h.size,fun k hk hr=>?_⟩
  · show w.heap.size≤(w.alloc o).heap.size;simp
  · rw[h.block k (by show k<(w.alloc o).heap.size;simp;omega) hr]
    exact Below.heap_alloc _ _ _ hk
theorem step_call {P:Program} {ops:Array Oper} {o:Oper} {a:Act} {w:World} {K:Act→World→Prop} {Q:Exit→Act→World→Prop} {E:Prop} (hgd:o.guard=none) (f:FuncId) (args:Array Operand) (tys:Array TypeId)
    (ho : o.op = .call { callee := .value (.func f), args := args, argTypes := tys }) {fn : Func} (hf : P.funcs[f]? = some fn) (hn : (fn.name == "runtime.NumGoroutine") = false) (hb : fn.body.isNone = false) (vals : Array Value) (hvals : args.map a.eval = vals) {R : Ending → World → Prop} (hc : Calls P f vals w R)
    (h:∀ e w',R e w'→∃ v,e=.returned v∧K (a.put o.dst v) w') :
    if Region.wanted o (yielded ops a.tmps)=true then Oper.wp P o a w K Q else E:=by
  have hw:Region.wanted o (yielded ops a.tmps)=true:=by simp[Region.wanted,hgd]
  rw[if_pos hw]
  subst hvals
  have hrun:(callFunc f (args.map a.eval)).run P w=.ok (.enter f (args.map a.eval)) w:=by
    have h1 : fn.name ≠ "runtime.NumGoroutine" := by simpa using hn
    have h2:fn.body≠none:=by intro e;rw[e]at hb;cases hb
    simp[callFunc,hf,h1,h2]
  have he:execOp a.eval o=callFunc f (args.map a.eval):=by
    cases o with
    | mk dst op type pos after guard =>
      simp only at ho
      subst ho
      rw[execOp_call_go]
      simp
  unfold Oper.wp
  rw[he,hrun]
  show Calls P f (args.map a.eval) w _
  refine hc.mono ?_
  intro e w' hr
  obtain⟨v,rfl,hk⟩:=h e w' hr
  exact hk
theorem lies_at {v:Value} {g H n cap:Nat} (hat:v.ownBlock=some g∨g=H) {k:Nat} (hH:k≤H):(Value.slice (some ⟨g,0,none⟩) n cap).ownBlock=v.ownBlock∨∃ g',(Value.slice (some ⟨g,0,none⟩) n cap).ownBlock=some g'∧k≤g':=by
  rcases hat with e|e
  · exact Or.inl e.symm
  · exact Or.inr ⟨g,rfl,by omega⟩
structure Still (w w':World) (F:Nat→Prop):Prop where
  os:w'.os=w.os
  tape:w'.tape=w.tape
  output:w'.output=w.output
  size:w.heap.size≤w'.heap.size
  block:∀ k,k<w.heap.size→¬ F k→w'.heap[k]? = w.heap[k]?
theorem Still.refl (w:World) (F:Nat→Prop):Still w w F:=⟨rfl,rfl,rfl,Nat.le_refl _,fun _ _ _=>rfl⟩
theorem Still.trans {w w1 w2:World} {F G:Nat→Prop} (h:Still w w1 F) (k:Still w1 w2 G) (hg:∀ i,i<w.heap.size→G i→F i):Still w w2 F :=
  ⟨k.os.trans h.os,k.tape.trans h.tape,k.output.trans h.output,Nat.le_trans h.size k.size,fun i hi hf=>by
    rw[k.block i (by have:=h.size;omega) (fun e=>hf (hg i hi e)),h.block i hi hf]⟩
theorem Still.drewN {w w':World} {F:Nat→Prop} (h:Still w w' F) (n:Nat):Still w (w'.drewN n) F:=⟨h.os,h.tape,h.output,h.size,h.block⟩
theorem Still.set {w w':World} {F:Nat→Prop} (h:Still w w' F) {b:Nat} (hb:F b∨w.heap.size≤b) (c:Nat) (u:Value):Still w (w'.setCell ⟨b,c,none⟩ u) F :=
  ⟨h.os,h.tape,h.output,by have:=h.size;simpa [World.setCell] using this,fun k hk hf=>by
    rw[Below.heap_setCell _ _ _ _ (fun e=>?_)]
    · exact h.block k hk hf
    · simp at e
      subst e
      rcases hb with hb|hb
      · exact hf hb
      · omega⟩
theorem Still.grown {w w' w'':World} {F:Nat→Prop} {row:Option Nat} (h:Still w w' F) (hg:w'.grownBy w'' row) (hr:∀ k,row=some k→F k∨w.heap.size≤k):Still w w'' F :=
  ⟨hg.os.trans h.os,hg.tape.trans h.tape,hg.output.trans h.output,Nat.le_trans h.size hg.size,fun k hk hf=>by
    rw[hg.block k (by have:=h.size;omega) (fun e=>?_)]
    · exact h.block k hk hf
    · rcases hr k e.symm with h1|h1
      · exact hf h1
      · omega⟩
theorem Still.below {w w':World} {F:Nat→Prop} {B:Nat} (h:Still w w' F) (hB:∀ k,F k→B≤k) (hs:B≤w.heap.size):Below B w w' :=
  ⟨h.os,h.tape,h.output,h.size,fun k hk=>h.block k (by omega) (fun e=>by have:=hB k e;omega)⟩
theorem Blk.still {w w':World} {F:Nat→Prop} {b:Nat} {cs:Array Value} {T:TypeId} (h:Blk w b cs T) (hs:Still w w' F) (hF:¬ F b):Blk w' b cs T:=by
  have:=hs.block b h.lt hF
  unfold Blk at *
  rw[this];exact h
theorem row_not_blk {w:World} {b:Nat} {cs:Array Value} {T:TypeId} {b1:Nat} {e1:TypeId} {s1:Nat} {v1:Value} {n1:Nat} {x1:List Value} (h:Blk w b cs T) (h1:w.ownsRow b1 e1 s1 v1 n1 x1) (he:e1≠T):v1.ownBlock≠some b:=by
  intro hk
  rcases h1.2 with ⟨rfl,_⟩|⟨g,cap,cur,rfl,_,hg,_⟩
  · simp[Value.ownBlock]at hk
  · simp[Value.ownBlock]at hk
    subst hk
    unfold Blk at h
    rw[hg]at h
    simp at h
    exact he h.2
structure RS where
  s:ByteArray
  next:Nat
  place0:Nat
  token:ByteArray
  c0:List (Int×Int)
  c1:List (Int×Int)
  names:List (ByteArray×Int×Int)
  opens:List (ByteArray×Int×Int)
  start:Int
  name:ByteArray
  cells:Int
  heads:List Int
  err:Int
  place:Int
def instrCells (l:List (Int×Int)):List Value:=l.flatMap fun x=>[.int .i64 x.1,.int .i64 x.2]
def nameCells (l:List (ByteArray×Int×Int)):List Value:=l.flatMap fun x=>[.string x.1,.int .i64 x.2.1,.int .i64 x.2.2]
section
variable {B:Nat} {w:World} {b:Nat} {st:RS} {v4 v5 v6 v7 v11:Value}
end
def hereS (st:RS):Nat:=if 0≤st.start then st.c0.length else st.c1.length
theorem nameCells_length (l:List (ByteArray×Int×Int)):(nameCells l).length=l.length * 3:=by
  induction l with
  | nil=>rfl
  | cons x l ih=>simp only[nameCells,List.flatMap_cons]at *;simp[ih];omega
theorem nameCells_at (l:List (ByteArray×Int×Int)) (i:Nat) (x:ByteArray×Int×Int) (h:l[i]? = some x) :
    (nameCells l)[i * 3]? = some (.string x.1)∧(nameCells l)[i * 3+1]? = some (.int .i64 x.2.1)∧(nameCells l)[i * 3+2]? = some (.int .i64 x.2.2):=by
  induction l generalizing i with
  | nil=>simp at h
  | cons y l ih =>
    cases i with
    | zero=>simp at h;subst h;simp[nameCells]
    | succ i =>
      simp only[List.getElem?_cons_succ]at h
      have:=ih i h
      simp only[nameCells,List.flatMap_cons]at *
      have e1:(i+1) * 3=i * 3+3:=by omega
      rw[e1]
      exact this
theorem instrCells_length (l:List (Int×Int)):(instrCells l).length=l.length * 2:=by
  induction l with
  | nil=>rfl
  | cons x l ih=>simp only[instrCells,List.flatMap_cons]at *;simp[ih];omega
theorem instrCells_at (l:List (Int×Int)) (i:Nat) (x:Int×Int) (h:l[i]? = some x) :
    (instrCells l)[i * 2]? = some (.int .i64 x.1)∧(instrCells l)[i * 2+1]? = some (.int .i64 x.2):=by
  induction l generalizing i with
  | nil=>simp at h
  | cons y l ih =>
    cases i with
    | zero=>simp at h;subst h;simp[instrCells]
    | succ i =>
      simp only[List.getElem?_cons_succ]at h
      have:=ih i h
      simp only[instrCells,List.flatMap_cons]at *
      have e1:(i+1) * 2=i * 2+2:=by omega
      rw[e1]
      exact this
theorem Tryz.infoInstr:(Tryz.prog.info? 65).map (fun i=>(i.zero,i.size,i.bytes))=some (some (.agg #[.int .i64 0,.int .i64 0]),2,16):=by kernel_rfl
theorem oneCells2 (a b:Int):∀ u∈[Value.int .i64 a,Value.int .i64 b],u.oneCell'=true:=by
  intro u hu
  simp at hu
  rcases hu with rfl|rfl<;>rfl
def putS (st:RS) (op arg:Int):RS:=if 0≤st.start then { st with c0:=st.c0++[(op,arg)] } else { st with c1:=st.c1++[(op,arg)] }
end Go.Proofs.YtmeiikjpaepogaaGreatDoor
namespace Go.Proofs.YtmeiikjpaepogaaGreatDoor
open Go.RowKit
def namesS (op:Int):Bool:=op == 1 || op == 2 || op == 3 || op == 7
def needsS (op:Int):Int×Int :=
  if op=0∨op=8∨op=28∨op=27 then (0,1)
  else if op=2∨op=22∨op=26∨op=31∨op=32 then (1,-1)
  else if op=17∨op=18∨op=30 then (1,0)
  else if op=21 then (1,1)
  else if op=6∨op=29 then (2,-2)
  else if op=9∨op=10∨op=11∨op=12∨op=13∨op=14∨op=15∨op=16∨op=19∨op=20 then (2,-1)
  else if op=23 then (2,0)
  else if op=24 then (2,1)
  else if op=25 then (3,0)
  else (0,0)
end Go.Proofs.YtmeiikjpaepogaaGreatDoor
namespace Go.Proofs.YtmeiikjpaepogaaGreatDoor
open Go Go.RowKit
def findS (l:List (ByteArray×Int×Int)) (s:ByteArray):Int:=match l.findIdx? (fun x=>x.1 == s) with|some k=>k|none=>-1
def setArg (l:List (Int×Int)) (n:Nat) (a:Int):List (Int×Int):=l.modify n fun x=>(x.1,a)
theorem setArg_cells (l:List (Int×Int)) (n:Nat) (a:Int):instrCells (setArg l n a)=(instrCells l).set (n * 2+1) (.int .i64 a):=by
  unfold setArg
  induction l generalizing n with
  | nil=>simp[instrCells]
  | cons x l ih =>
    cases n with
    | zero=>simp[instrCells]
    | succ n =>
      have:=ih n
      simp only[instrCells,List.modify_succ_cons,List.flatMap_cons]at *
      rw[this]
      have e:(n+1) * 2+1=(n * 2+1)+2:=by omega
      rw[e]
      rfl
theorem setArg_length (l:List (Int×Int)) (n:Nat) (a:Int):(setArg l n a).length=l.length:=by simp[setArg]
def tellS (st:RS) (n:Nat):RS:=if 0≤st.start then { st with c0:=setArg st.c0 n st.c0.length } else { st with c1:=setArg st.c1 n st.c1.length }
def gapB (b:UInt8):Bool:=b == 32 || b == 10
def scan (s:ByteArray) (p:UInt8→Bool):Nat→Nat→Nat
  | 0,i=>i
  | f+1,i=>if h:i<s.size then (if p s[i] then scan s p f (i+1) else i) else i
theorem scan_le (s:ByteArray) (p:UInt8→Bool) (f i:Nat) (h:i≤s.size):i≤scan s p f i∧scan s p f i≤s.size:=by
  induction f generalizing i with
  | zero=>exact⟨Nat.le_refl _,h⟩
  | succ f ih =>
    unfold scan
    split
    · split
      · have:=ih (i+1) (by omega);omega
      · omega
    · omega
theorem scan_go (s:ByteArray) (p:UInt8→Bool) (k:Nat) (h:k<s.size) (hp:p s[k]=true):scan s p (s.size-k) k=scan s p (s.size-(k+1)) (k+1):=by
  have e:s.size-k=(s.size-(k+1))+1:=by omega
  rw[e,scan]
  simp[h,hp]
theorem scan_stop (s:ByteArray) (p:UInt8→Bool) (k:Nat) (h:k<s.size) (hp:p s[k]=false):scan s p (s.size-k) k=k:=by
  have e:s.size-k=(s.size-(k+1))+1:=by omega
  rw[e,scan]
  simp[h,hp]
theorem scan_end (s:ByteArray) (p:UInt8→Bool) (k:Nat) (h:¬ k<s.size):scan s p (s.size-k) k=k:=by
  have e:s.size-k=0:=by omega
  rw[e,scan]
def skipS (s:ByteArray) (i:Nat):Nat:=scan s gapB (s.size-i) i
def wordS (s:ByteArray) (i:Nat):Nat:=scan s (fun b=>!gapB b) (s.size-i) i
def stepS (st:RS):RS:={ st with next:=wordS st.s (skipS st.s st.next),place0:=skipS st.s st.next,token:=st.s.extract (skipS st.s st.next) (wordS st.s (skipS st.s st.next)) }
def cellInt (w:World) (b i:Nat):Int:=match w.cell? ⟨b,i,none⟩ with|some v=>intOf v|none=>0
def structWords:List (List UInt8):=[[58],[59],[118,97,114,105,97,98,108,101],[99,111,110,115,116,97,110,116],[114,101,99,117,114,115,101],[105,102],[101,108,115,101],[116,104,101,110],[98,101,103,105,110],[117,110,116,105,108],[119,104,105,108,101],[114,101,112,101,97,116],[100,111],[108,111,111,112]]
def structS (s:ByteArray):Bool:=structWords.any fun t=>s.toList == t
def plainWords:List (ByteArray×Int):=[(⟨#[43]⟩,9),(⟨#[45]⟩,10),(⟨#[42]⟩,11),(⟨#[47]⟩,12),(⟨#[109,111,100]⟩,13),(⟨#[97,110,100]⟩,14),(⟨#[111,114]⟩,15),(⟨#[120,111,114]⟩,16),(⟨#[105,110,118,101,114,116]⟩,17),(⟨#[110,101,103,97,116,101]⟩,18),(⟨#[61]⟩,19),(⟨#[60]⟩,20),(⟨#[100,117,112]⟩,21),(⟨#[100,114,111,112]⟩,22),(⟨#[115,119,97,112]⟩,23),(⟨#[111,118,101,114]⟩,24),(⟨#[114,111,116]⟩,25),(⟨#[62,114]⟩,26),(⟨#[114,62]⟩,27),(⟨#[114,64]⟩,28),(⟨#[33]⟩,29),(⟨#[64]⟩,30),(⟨#[101,109,105,116]⟩,31),(⟨#[46]⟩,32),(⟨#[105]⟩,8)]
def plainS (s:ByteArray):Int:=match plainWords.find? (fun x=>x.1.toList == s.toList) with|some x=>x.2|none=>-1
theorem Blk.setRow {w:World} {b:Nat} {cs:Array Value} {T:TypeId} (h:Blk w b cs T) (cs':Array Value):Blk (w.setRow b cs') b cs' T:=setRow_heap w b cs cs' T (0,0) h
theorem Blk.setRow_far {w:World} {b:Nat} {cs:Array Value} {T:TypeId} (h:Blk w b cs T) {g:Nat} (hg:b≠g) (cs':Array Value):Blk (w.setRow g cs') b cs T:=by
  unfold Blk at h ⊢;rw[setRow_other _ _ _ _ hg];exact h
theorem below_setRow {B:Nat} {a w:World} (h:Below B a w) {g:Nat} (hg:B≤g) (cs:Array Value):Below B a (w.setRow g cs) :=
  ⟨h.os,h.tape,h.output,by simpa using h.size,fun k hk=>by rw[setRow_other _ _ _ _ (by omega)];exact h.block k hk⟩
def digB (c:UInt8):Bool:=decide (48≤c.toNat)&&decide (c.toNat≤57)
def valS (l:List UInt8):Nat:=l.foldl (fun n c=>n * 10+(c.toNat-48)) 0
def numFrom (D:List UInt8) (most:Nat):Option Nat:=if D=[] then none else if D.all digB&&decide (valS D≤most) then some (valS D) else none
def numS (s:ByteArray):Option Int :=
  if s.toList.head? = some 45 then (numFrom s.toList.tail 9223372036854775808).map (fun n:Nat=>-(n:Int)) else (numFrom s.toList 9223372036854775807).map (fun n:Nat=>(n:Int))
def numV (s:ByteArray):Int:=(numS s).getD 0
theorem valS_fold_le (l:List UInt8) (n:Nat):n≤l.foldl (fun n c=>n * 10+(c.toNat-48)) n:=by
  induction l generalizing n with
  | nil=>exact Nat.le_refl _
  | cons c l ih=>simp only[List.foldl_cons];have:=ih (n * 10+(c.toNat-48));omega
theorem numFrom_bad (D:List UInt8) (most k:Nat) (c:UInt8) (h:D[k]? = some c) (hd:digB c=false):numFrom D most=none:=by
  unfold numFrom
  have:D.all digB=false:=by
    rw[List.all_eq_false]
    exact⟨c,List.mem_of_getElem? h,by simp[hd]⟩
  rw[this];simp
theorem bytes_len (s:ByteArray):s.toList.length=s.size:=by
  rw[ByteArray.toList_eq];simp
def failS (st:RS) (e:Int):RS:=if st.err=0 then { st with err:=e,place:=st.place0 } else st
def badName (st:RS):Bool:=st.token.toList.isEmpty || (numS st.token).isSome || decide (0≤plainS st.token) || structS st.token || decide (0≤findS st.names st.token)
def newNameS (st:RS):RS:=if badName (stepS st) then failS (stepS st) 3 else stepS st
theorem stepS_token_size (st:RS):(stepS st).token.size≤st.s.size:=by
  simp only[stepS,ByteArray.size_extract]
  omega
theorem Tryz.infoInt:(Tryz.prog.info? 3).map (fun i=>(i.zero,i.size,i.bytes))=some (some (.int .i64 0),1,8):=by kernel_rfl
theorem oneCells1 (a:Int):∀ u∈[Value.int .i64 a],u.oneCell'=true:=by
  intro u hu
  simp at hu
  subst hu;rfl
def semiS (st:RS):RS:={ putS st 4 0 with names:=(putS st 4 0).names++[((putS st 4 0).name,3,(putS st 4 0).start)],start:=-1 }
def colonS (st:RS) (t:ByteArray):RS:={ st with name:=t,start:=st.c0.length,heads:=st.heads++[(st.c0.length:Int)] }
def constant3 (st:RS):RS:=if (numS (stepS st).token).isSome then stepS st else failS (stepS st) 3
def constantS (st:RS) (t:ByteArray):RS:={ constant3 st with names:=(constant3 st).names++[(t,0,numV (stepS st).token)] }
def variableS (st:RS) (t:ByteArray):RS:={ st with names:=st.names++[(t,0,st.cells)],cells:=st.cells+1 }
def openS (st:RS) (x:ByteArray×Int×Int):RS:={ st with opens:=st.opens++[x] }
def defineS (st:RS):RS :=
  if st.token.toList == [59] then (if st.start<0∨st.opens≠[] then failS st 4 else semiS st)
  else if 0≤st.start∨st.opens≠[] then failS st 4
  else if (newNameS st).err≠0 then newNameS st
  else if st.token.toList == [58] then colonS (newNameS st) (stepS st).token
  else if st.token.toList == [118,97,114,105,97,98,108,101] then variableS (newNameS st) (stepS st).token
  else constantS (newNameS st) (stepS st).token
def closeS (st:RS) (l:List (ByteArray×Int×Int)) (x:ByteArray×Int×Int):RS :=
  let t:=st.token.toList
  let u:={ st with opens:=l }
  let n:=x.2.2.toNat
  if t == [101,108,115,101]∧x.1.toList == [105,102] then openS (tellS (putS u 1 0) n) (⟨#[101,108,115,101]⟩,0,hereS u)
  else if t == [116,104,101,110]∧(x.1.toList == [105,102]∨x.1.toList == [101,108,115,101]) then tellS u n
  else if t == [117,110,116,105,108]∧x.1.toList == [98,101,103,105,110] then putS u 2 x.2.1
  else if t == [119,104,105,108,101]∧x.1.toList == [98,101,103,105,110] then openS (putS u 2 0) (⟨#[119,104,105,108,101]⟩,x.2.1,hereS u)
  else if t == [114,101,112,101,97,116]∧x.1.toList == [119,104,105,108,101] then tellS (putS u 1 x.2.1) n
  else if t == [108,111,111,112]∧x.1.toList == [100,111] then putS u 7 x.2.1
  else failS st 4
def controlS (st:RS):RS :=
  let t:=st.token.toList
  if t == [105,102] then openS (putS st 2 0) (⟨#[105,102]⟩,0,hereS st)
  else if t == [98,101,103,105,110] then openS st (⟨#[98,101,103,105,110]⟩,hereS st,0)
  else if t == [100,111] then openS (putS st 6 0) (⟨#[100,111]⟩,(hereS st:Int)+1,0)
  else match st.opens.getLast? with
    | none=>failS st 4
    | some x=>closeS st st.opens.dropLast x
def elementS (st:RS):RS :=
  if 0≤plainS st.token then putS st (plainS st.token) 0
  else if (numS st.token).isSome then putS st 0 (numV st.token)
  else if 0≤findS st.names st.token then (match st.names[(findS st.names st.token).toNat]? with|some x=>putS st x.2.1 x.2.2|none=>st)
  else if (st.token.toList == [114,101,99,117,114,115,101])∧0≤st.start then putS st 3 st.start
  else failS st 2
def isDefine (t:List UInt8):Bool:=t == [58] || t == [59] || t == [118,97,114,105,97,98,108,101] || t == [99,111,110,115,116,97,110,116]
def isControl (s:ByteArray):Bool:=structS s&&!(s.toList == [114,101,99,117,114,115,101])
def itemS (st:RS):RS:=if isDefine st.token.toList then defineS st else if isControl st.token then controlS st else elementS st
def roundS (st:RS):RS:=if (itemS st).err=0 then stepS (itemS st) else itemS st
def loopS:Nat→RS→RS
  | 0,st=>st
  | f+1,st=>if st.token.toList.isEmpty∨st.err≠0 then st else loopS f (roundS st)
def openOk (h:Nat) (x:ByteArray×Int×Int):Prop:=(0≤x.2.1∧x.2.1≤h)∧0≤x.2.2∧((x.1.toList == [105,102]∨x.1.toList == [101,108,115,101]∨x.1.toList == [119,104,105,108,101])→x.2.2<h)
def lens (st:RS) (m:Nat):Prop:=st.c0.length≤m∧st.c1.length≤m∧st.names.length≤m∧st.opens.length≤m∧st.heads.length≤m∧0≤st.cells∧st.cells≤m
structure Inv (st:RS) (m:Nat):Prop where
  size:st.s.size≤2000
  next:st.next≤st.s.size
  place:st.place0≤st.next
  lens:lens st m
  start:-1≤st.start∧st.start≤st.c0.length
  opens:∀ x∈st.opens,openOk (hereS st) x
  token:st.token=st.s.extract st.place0 st.next
theorem stepS_inv {st:RS} {m:Nat} (h:Inv st m):Inv (stepS st) m∧st.next≤(stepS st).place0:=by
  have h1:=scan_le st.s gapB (st.s.size-st.next) st.next h.next
  have h2:=scan_le st.s (fun b=>!gapB b) (st.s.size-skipS st.s st.next) (skipS st.s st.next) h1.2
  exact⟨⟨h.size,h2.2,h2.1,h.lens,h.start,h.opens,rfl⟩,h1.1⟩
theorem lens_mono {st:RS} {m k:Nat} (h:lens st m) (hk:m≤k):lens st k:=by unfold lens at *;omega
theorem Inv.mono {st:RS} {m k:Nat} (h:Inv st m) (hk:m≤k):Inv st k:=⟨h.size,h.next,h.place,lens_mono h.lens hk,h.start,h.opens,h.token⟩
theorem failS_inv {st:RS} {m:Nat} (h:Inv st m) (e:Int):Inv (failS st e) m:=by
  unfold failS
  split
  · exact⟨h.size,h.next,h.place,h.lens,h.start,h.opens,h.token⟩
  · exact h
theorem hereS_put (st:RS) (op arg:Int):hereS (putS st op arg)=hereS st+1:=by
  unfold putS hereS
  split<;>simp_all
theorem openOk_mono {h k:Nat} {x:ByteArray×Int×Int} (ho:openOk h x) (hk:h≤k):openOk k x:=by
  obtain⟨⟨h1,h2⟩,h3,h4⟩:=ho
  exact⟨⟨h1,by omega⟩,h3,fun e=>by have:=h4 e;omega⟩
theorem putS_inv {st:RS} {m:Nat} (h:Inv st m) (op arg:Int):Inv (putS st op arg) (m+1):=by
  have ho:∀ x∈(putS st op arg).opens,openOk (hereS (putS st op arg)) x:=by
    have e:(putS st op arg).opens=st.opens:=by unfold putS;split<;>rfl
    rw[e,hereS_put]
    exact fun x hx=>openOk_mono (h.opens x hx) (by omega)
  have hl:=h.lens
  have hs:=h.start
  unfold lens at hl
  refine⟨?_,?_,?_,?_,?_,ho,?_⟩
  all_goals unfold putS;split
  all_goals first|exact h.size|exact h.next|exact h.place|exact h.token|(unfold lens;simp;omega)|(simp;omega)|omega
theorem tok_eq {s:ByteArray} {l:List UInt8} (h:(s.toList == l)=true):s=⟨l.toArray⟩:=by
  have e:s.toList=l:=by simpa using h
  rw[ByteArray.toList_eq]at e
  cases s
  simp at e ⊢
  rw[← e]
theorem newNameS_inv {st:RS} {m:Nat} (h:Inv st m):Inv (newNameS st) m:=by
  unfold newNameS
  split
  · exact failS_inv (stepS_inv h).1 _
  · exact (stepS_inv h).1
theorem newNameS_same (st:RS):(newNameS st).opens=st.opens∧(newNameS st).start=st.start∧(newNameS st).c0=st.c0∧(newNameS st).s=st.s∧(newNameS st).next=(stepS st).next:=by
  unfold newNameS failS stepS
  split
  · split<;>exact⟨rfl,rfl,rfl,rfl,rfl⟩
  · exact⟨rfl,rfl,rfl,rfl,rfl⟩
theorem failS_same (st:RS) (e:Int):(failS st e).opens=st.opens∧(failS st e).start=st.start∧(failS st e).names=st.names∧(failS st e).s=st.s∧(failS st e).next=st.next:=by
  unfold failS
  split<;>exact⟨rfl,rfl,rfl,rfl,rfl⟩
theorem constant3_inv {st:RS} {m:Nat} (h:Inv st m):Inv (constant3 st) m:=by
  unfold constant3
  split
  · exact (stepS_inv h).1
  · exact failS_inv (stepS_inv h).1 _
theorem opens_last {l:List (ByteArray×Int×Int)} {x:ByteArray×Int×Int} (h:l.getLast? = some x):l=l.dropLast++[x]:=by
  obtain⟨ys,e⟩:=List.getLast?_eq_some_iff.1 h
  rw[e];simp
theorem hereS_opens (st:RS) (l:List (ByteArray×Int×Int)):hereS { st with opens:=l }=hereS st:=rfl
theorem hereS_tell (st:RS) (n:Nat):hereS (tellS st n)=hereS st:=by
  unfold tellS hereS
  split<;>simp[setArg_length, *]
theorem putS_opens (st:RS) (op arg:Int):(putS st op arg).opens=st.opens:=by unfold putS;split<;>rfl
theorem tellS_opens (st:RS) (n:Nat):(tellS st n).opens=st.opens:=by unfold tellS;split<;>rfl
end Go.Proofs.YtmeiikjpaepogaaGreatDoor
