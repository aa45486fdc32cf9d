/- The program's machine: the table of the base operators. -/
import Derived.Test.YtmeiikjpaepogaaGreatDoorN20
import Derived.Test.YtmeiikjpaepogaaGreatDoorN19
import Derived.Test.YtmeiikjpaepogaaGreatDoorN01
import Derived.Great.BuildSlice
import Derived.Test.YtmeiikjpaepogaaGreatDoorN17
set_option maxRecDepth 100000
set_option maxHeartbeats 16000000
namespace Go.Proofs.YtmeiikjpaepogaaGreatDoor
open Go Go.RowKit Go.Great
def TOk (T:TypeId):Prop:=T≠112∧T≠73
instance (T:TypeId):Decidable (TOk T):=inferInstanceAs (Decidable (_∧_))
def KeepT (w w':World):Prop:=∀ (k:Nat) (cs:Array Value) (T:TypeId),Blk w k cs T→TOk T→Blk w' k cs T
theorem KeepT.ofBelow {w w':World} (h:Below w.heap.size w w'):KeepT w w':=fun _ _ _ hb _=>hb.below h hb.lt
theorem KeepT.row {w:World} {g:Nat} {zs:Array Value} (h:Blk w g zs 112) (cs:Array Value):KeepT w (w.setRow g cs):=fun k _ _ hb hT=>hb.setRow_far (fun e=>by subst e;exact hT.1 (blk_type hb h)) cs
theorem KeepT.cell {w:World} {g:Nat} {zs:Array Value} (h:Blk w g zs 112) (c:Nat) (v:Value):KeepT w (w.setCell ⟨g,c,none⟩ v):=fun k _ _ hb hT=>hb.still (F:=fun k=>k=g) (Still.set (F:=fun k=>k=g) (Still.refl w _) (Or.inl rfl) _ _) (fun e=>by subst e;exact hT.1 (blk_type hb h))
theorem KeepT.prog {w:World} {g:Nat} {zs:Array Value} (h:Blk w g zs 73) (c:Nat) (v:Value):KeepT w (w.setCell ⟨g,c,none⟩ v):=fun k _ _ hb hT=>hb.still (F:=fun k=>k=g) (Still.set (F:=fun k=>k=g) (Still.refl w _) (Or.inl rfl) _ _) (fun e=>by subst e;exact hT.2 (blk_type hb h))
theorem KeepT.trans {a b c:World} (h:KeepT a b) (k:KeepT b c):KeepT a c:=fun i cs T hb ht=>k i cs T (h i cs T hb ht) ht
def FnOk (w:World) (op:Nat) (F:FuncId) (cap:Array Value):Prop :=
  (∃ fn : Func, Tryz.prog.funcs[F]? = some fn ∧ (fn.name == "runtime.NumGoroutine") = false ∧ fn.body.isNone = false) ∧
  ∃ bl:List (Nat×Array Value×TypeId),(∀ x∈bl,Blk w x.1 x.2.1 x.2.2∧TOk x.2.2) ∧
  ∀ (B : Nat) (w' : World) (b tb : Nat), (∀ x ∈ bl, Blk w' x.1 x.2.1 x.2.2 ∧ x.1 < B) → (op = 32 → Lib.TabBelow Tryz.prog B w' "internal/strconv.uint64pow10" .u64 Lib.pow10Tab) → DeedSem B w' b tb op F cap
theorem FnOk.keep {w w':World} {op:Nat} {F:FuncId} {cap:Array Value} (h:FnOk w op F cap) (hk:KeepT w w'):FnOk w' op F cap:=by
  obtain⟨h1,bl,h2,h3⟩:=h
  exact⟨h1,bl,fun x hx=>⟨hk _ _ _ (h2 x hx).1 (h2 x hx).2,(h2 x hx).2⟩,h3⟩
theorem FnOk.below {w w':World} {op:Nat} {F:FuncId} {cap:Array Value} (h:FnOk w op F cap) (hb:Below w.heap.size w w'):FnOk w' op F cap:=h.keep (KeepT.ofBelow hb)
theorem fn_boxes {w : World} {op : Nat} {F : FuncId} {cap : Array Value} {fn : Func} (h1 : Tryz.prog.funcs[F]? = some fn) (h2 : (fn.name == "runtime.NumGoroutine") = false) (h3 : fn.body.isNone = false) (bl : List (Nat × Array Value × TypeId)) (h4 : ∀ x ∈ bl, Blk w x.1 x.2.1 x.2.2 ∧ TOk x.2.2)
    (h5 : ∀ (B : Nat) (w' : World) (b tb : Nat), (∀ x ∈ bl, Blk w' x.1 x.2.1 x.2.2 ∧ x.1 < B) → (op = 32 → Lib.TabBelow Tryz.prog B w' "internal/strconv.uint64pow10" .u64 Lib.pow10Tab) → DeedSem B w' b tb op F cap) : FnOk w op F cap := ⟨⟨fn, h1, h2, h3⟩, bl, h4, h5⟩
def MkFn (W:World) (op:Nat) (F:FuncId) (e:Ending) (w':World):Prop:=∃ cap,e=.returned (.func (.func F) #[] cap)∧FnOk w' op F cap∧Below W.heap.size W w'
def Fns (w:World) (l:List (Nat×FuncId×Array Value)):Prop:=∀ x∈l,FnOk w x.1 x.2.1 x.2.2
theorem Fns.cons {W w:World} {l:List (Nat×FuncId×Array Value)} {op:Nat} {F:FuncId} {cap:Array Value} (h:Fns W l) (hb:Below W.heap.size W w) (hf:FnOk w op F cap):Fns w ((op,F,cap) :: l):=by
  intro x hx
  rcases List.mem_cons.1 hx with rfl|hx
  · exact hf
  · exact (h x hx).below hb
def Room (w:World) (g:Nat):Prop:=∃ zs:Array Value,zs.size=300∧Blk w g zs 112∧g<w.heap.size
theorem Room.below {w w':World} {g:Nat} (h:Room w g) (hb:Below w.heap.size w w'):Room w' g:=by
  obtain⟨zs,h1,h2,h3⟩:=h
  exact⟨zs,h1,h2.below hb h3,Nat.lt_of_lt_of_le h3 hb.size⟩
theorem fn_two (op : Nat) (G : FuncId) (hop : op = 9 ∨ op = 10 ∨ op = 11 ∨ op = 14 ∨ op = 15 ∨ op = 16 ∨ op = 19 ∨ op = 20) {fn : Func} (hfn : Tryz.prog.funcs[G]? = some fn) (hfa : (fn.name == "runtime.NumGoroutine") = false) (hfc : fn.body.isNone = false) (hg : ∀ x y : Int, Gives G #[.int .i64 x, .int .i64 y] (twoS op x y)) (W : World) :
    Calls Tryz.prog 100 #[.func (.func G) #[] #[]] W (MkFn W op 162):=by
  refine (mk_two G W).mono ?_
  rintro e w' ⟨rfl,rfl⟩
  refine⟨_,rfl,fn_boxes Tryz.func162 (by kernel_rfl) (by kernel_rfl) [(W.heap.size,#[.func (.func G) #[] #[]],166)] ?_ ?_,below_box W _⟩
  · intro x hx
    simp only[List.mem_singleton]at hx
    subst hx
    exact⟨Blk.new W _ _,by simp[TOk]⟩
  · intro B w' b tb hb _
    have h1:=hb _ (List.Mem.head _)
    exact sem_two B w' b tb op W.heap.size G hop h1.1 h1.2 hfn hfa hfc hg
theorem fn_one (op : Nat) (G : FuncId) (hop : op = 17 ∨ op = 18) {fn : Func} (hfn : Tryz.prog.funcs[G]? = some fn) (hfa : (fn.name == "runtime.NumGoroutine") = false) (hfc : fn.body.isNone = false) (hg : ∀ x : Int, inI x → Gives G #[.int .i64 x] (if op = 17 then -1 - x else wrap64 (-x))) (W : World) :
    Calls Tryz.prog 110 #[.func (.func G) #[] #[]] W (MkFn W op 165):=by
  refine (mk_one G W).mono ?_
  rintro e w' ⟨rfl,rfl⟩
  refine⟨_,rfl,fn_boxes Tryz.func165 (by kernel_rfl) (by kernel_rfl) [(W.heap.size,#[.func (.func G) #[] #[]],168)] ?_ ?_,below_box W _⟩
  · intro x hx
    simp only[List.mem_singleton]at hx
    subst hx
    exact⟨Blk.new W _ _,by simp[TOk]⟩
  · intro B w' b tb hb _
    have h1:=hb _ (List.Mem.head _)
    exact sem_one B w' b tb op W.heap.size G hop h1.1 h1.2 hfn hfa hfc hg
theorem fn_div (op : Nat) (G : FuncId) (hop : op = 12 ∨ op = 13) {fn : Func} (hfn : Tryz.prog.funcs[G]? = some fn) (hfa : (fn.name == "runtime.NumGoroutine") = false) (hfc : fn.body.isNone = false) (hg : ∀ x y : Int, y ≠ 0 → inI x → inI y → Gives G #[.int .i64 x, .int .i64 y] (twoS op x y)) (W : World) :
    Calls Tryz.prog 104 #[.func (.func G) #[] #[]] W (MkFn W op 163):=by
  refine (mk_divided G W).mono ?_
  rintro e w' ⟨gb,fb,rfl,h1,h2,h3⟩
  refine⟨_,rfl,fn_boxes Tryz.func163 (by kernel_rfl) (by kernel_rfl) [(gb,#[.func (.func 162) #[] #[.pointer (some ⟨fb,0,none⟩)]],108),(fb,#[.func (.func G) #[] #[]],166)] ?_ ?_,h1⟩
  · intro x hx
    simp only[List.mem_cons,List.not_mem_nil,or_false]at hx
    rcases hx with rfl|rfl
    · exact⟨h2,by simp[TOk]⟩
    · exact⟨h3,by simp[TOk]⟩
  · intro B w2 b tb hb _
    have k1:=hb _ (List.Mem.head _)
    have k2:=hb _ (List.Mem.tail _ (List.Mem.head _))
    exact sem_div B w2 b tb op gb fb G hop k1.1 k2.1 k1.2 k2.2 hfn hfa hfc hg
theorem fn_order (op n:Nat) (ps:List Nat) (hop:(op=21∧ps=[0,0])∨(op=22∧ps=[])∨(op=23∧ps=[1,0])∨(op=24∧ps=[0,1,0])∨(op=25∧ps=[1,2,0])) (hn:ps.length=n) (W:World) (cs:Array Value) (hcs:∀ (j p:Nat),ps[j]? = some p→p<3∧cs[j]? = some (Value.int .i64 (p:Int))) :
    Calls Tryz.prog 116 #[.slice (some ⟨W.heap.size,0,none⟩) n n] (W.alloc (.cells cs 3)) (MkFn W op 166):=by
  subst hn
  refine (mk_order _ _ _ _).mono ?_
  rintro e w' ⟨rfl,rfl⟩
  have hq:Blk ((W.alloc (.cells cs 3)).alloc (.cells #[.slice (some ⟨W.heap.size,0,none⟩) ps.length ps.length] 115)) W.heap.size cs 3:=(Blk.new W cs 3).alloc _
  refine⟨_,rfl,fn_boxes Tryz.func166 (by kernel_rfl) (by kernel_rfl) [((W.alloc (.cells cs 3)).heap.size,#[.slice (some ⟨W.heap.size,0,none⟩) ps.length ps.length],115),(W.heap.size,cs,3)] ?_ ?_,below_box2 W _ _⟩
  · intro x hx
    simp only[List.mem_cons,List.not_mem_nil,or_false]at hx
    rcases hx with rfl|rfl
    · exact⟨Blk.new _ _ _,by simp[TOk]⟩
    · exact⟨hq,by simp[TOk]⟩
  · intro B w' b tb hb _
    have k1:=hb _ (List.Mem.head _)
    have k2:=hb _ (List.Mem.tail _ (List.Mem.head _))
    refine sem_order B w' b tb op _ _ _ ps hop k1.1 k1.2 ?_
    intro j p hj
    obtain⟨j1,j2⟩:=hcs j p hj
    exact⟨j1,W.heap.size,rfl,k2.2,by rw[k2.1.cell];exact j2⟩
theorem fn_order0 (W:World):Calls Tryz.prog 116 #[.slice none 0 0] W (MkFn W 22 166):=by
  refine (mk_order _ _ _ _).mono ?_
  rintro e w' ⟨rfl,rfl⟩
  refine⟨_,rfl,fn_boxes Tryz.func166 (by kernel_rfl) (by kernel_rfl) [(W.heap.size,#[.slice none 0 0],115)] ?_ ?_,below_box W _⟩
  · intro x hx
    simp only[List.mem_singleton]at hx
    subst hx
    exact⟨Blk.new W _ _,by simp[TOk]⟩
  · intro B w' b tb hb _
    have h1:=hb _ (List.Mem.head _)
    exact sem_order B w' b tb 22 W.heap.size _ _ [] (Or.inr (Or.inl ⟨rfl,rfl⟩)) h1.1 h1.2 (fun j p hj=>by simp at hj)
def tabArr (c9 c10 c11 c12 c13 c14 c15 c16 c17 c18 c19 c20 c21 c22 c23 c24 c25:Array Value):Array Value:=#[
  .int .i64 0,.int .i64 1,.int .i64 0,.int .i64 0,.func (.func 91) #[] #[],
  .int .i64 0,.int .i64 0,.int .i64 0,.int .i64 0,.func (.func 92) #[] #[],
  .int .i64 1,.int .i64 0,.int .i64 0,.int .i64 0,.func (.func 93) #[] #[],
  .int .i64 0,.int .i64 0,.int .i64 0,.int .i64 0,.func (.func 94) #[] #[],
  .int .i64 0,.int .i64 0,.int .i64 0,.int .i64 0,.func (.func 95) #[] #[],
  .int .i64 0,.int .i64 0,.int .i64 0,.int .i64 0,.func (.func 96) #[] #[],
  .int .i64 2,.int .i64 0,.int .i64 0,.int .i64 2,.func (.func 97) #[] #[],
  .int .i64 0,.int .i64 0,.int .i64 2,.int .i64 2,.func (.func 98) #[] #[],
  .int .i64 0,.int .i64 1,.int .i64 1,.int .i64 1,.func (.func 99) #[] #[],
  .int .i64 2,.int .i64 1,.int .i64 0,.int .i64 0,.func (.func 162) #[] c9,
  .int .i64 2,.int .i64 1,.int .i64 0,.int .i64 0,.func (.func 162) #[] c10,
  .int .i64 2,.int .i64 1,.int .i64 0,.int .i64 0,.func (.func 162) #[] c11,
  .int .i64 2,.int .i64 1,.int .i64 0,.int .i64 0,.func (.func 163) #[] c12,
  .int .i64 2,.int .i64 1,.int .i64 0,.int .i64 0,.func (.func 163) #[] c13,
  .int .i64 2,.int .i64 1,.int .i64 0,.int .i64 0,.func (.func 162) #[] c14,
  .int .i64 2,.int .i64 1,.int .i64 0,.int .i64 0,.func (.func 162) #[] c15,
  .int .i64 2,.int .i64 1,.int .i64 0,.int .i64 0,.func (.func 162) #[] c16,
  .int .i64 1,.int .i64 1,.int .i64 0,.int .i64 0,.func (.func 165) #[] c17,
  .int .i64 1,.int .i64 1,.int .i64 0,.int .i64 0,.func (.func 165) #[] c18,
  .int .i64 2,.int .i64 1,.int .i64 0,.int .i64 0,.func (.func 162) #[] c19,
  .int .i64 2,.int .i64 1,.int .i64 0,.int .i64 0,.func (.func 162) #[] c20,
  .int .i64 1,.int .i64 2,.int .i64 0,.int .i64 0,.func (.func 166) #[] c21,
  .int .i64 1,.int .i64 0,.int .i64 0,.int .i64 0,.func (.func 166) #[] c22,
  .int .i64 2,.int .i64 2,.int .i64 0,.int .i64 0,.func (.func 166) #[] c23,
  .int .i64 2,.int .i64 3,.int .i64 0,.int .i64 0,.func (.func 166) #[] c24,
  .int .i64 3,.int .i64 3,.int .i64 0,.int .i64 0,.func (.func 166) #[] c25,
  .int .i64 1,.int .i64 0,.int .i64 0,.int .i64 1,.func (.func 117) #[] #[],
  .int .i64 0,.int .i64 1,.int .i64 1,.int .i64 0,.func (.func 118) #[] #[],
  .int .i64 0,.int .i64 1,.int .i64 1,.int .i64 1,.func (.func 99) #[] #[],
  .int .i64 2,.int .i64 0,.int .i64 0,.int .i64 0,.func (.func 119) #[] #[],
  .int .i64 1,.int .i64 1,.int .i64 0,.int .i64 0,.func (.func 120) #[] #[],
  .int .i64 1,.int .i64 0,.int .i64 0,.int .i64 0,.func (.func 121) #[] #[],
  .int .i64 1,.int .i64 0,.int .i64 0,.int .i64 0,.func (.func 122) #[] #[],
  .int .i64 0,.int .i64 0,.int .i64 0,.int .i64 0,.nilFunc,
  .int .i64 0,.int .i64 0,.int .i64 0,.int .i64 0,.nilFunc,
  .int .i64 0,.int .i64 0,.int .i64 0,.int .i64 0,.nilFunc,
  .int .i64 0,.int .i64 0,.int .i64 0,.int .i64 0,.nilFunc,
  .int .i64 0,.int .i64 0,.int .i64 0,.int .i64 0,.nilFunc,
  .int .i64 0,.int .i64 0,.int .i64 0,.int .i64 0,.nilFunc,
  .int .i64 0,.int .i64 0,.int .i64 0,.int .i64 0,.nilFunc,
  .int .i64 0,.int .i64 0,.int .i64 0,.int .i64 0,.nilFunc,
  .int .i64 0,.int .i64 0,.int .i64 0,.int .i64 0,.nilFunc,
  .int .i64 0,.int .i64 0,.int .i64 0,.int .i64 0,.nilFunc,
  .int .i64 0,.int .i64 0,.int .i64 0,.int .i64 0,.nilFunc,
  .int .i64 0,.int .i64 0,.int .i64 0,.int .i64 0,.nilFunc,
  .int .i64 0,.int .i64 0,.int .i64 0,.int .i64 0,.nilFunc,
  .int .i64 0,.int .i64 0,.int .i64 0,.int .i64 0,.nilFunc,
  .int .i64 0,.int .i64 0,.int .i64 0,.int .i64 0,.nilFunc,
  .int .i64 0,.int .i64 0,.int .i64 0,.int .i64 0,.nilFunc,
  .int .i64 0,.int .i64 0,.int .i64 0,.int .i64 0,.nilFunc,
  .int .i64 0,.int .i64 0,.int .i64 0,.int .i64 0,.nilFunc,
  .int .i64 0,.int .i64 0,.int .i64 0,.int .i64 0,.nilFunc,
  .int .i64 0,.int .i64 0,.int .i64 0,.int .i64 0,.nilFunc,
  .int .i64 0,.int .i64 0,.int .i64 0,.int .i64 0,.nilFunc,
  .int .i64 0,.int .i64 0,.int .i64 0,.int .i64 0,.nilFunc,
  .int .i64 0,.int .i64 0,.int .i64 0,.int .i64 0,.nilFunc,
  .int .i64 0,.int .i64 0,.int .i64 0,.int .i64 0,.nilFunc,
  .int .i64 0,.int .i64 0,.int .i64 0,.int .i64 0,.nilFunc,
  .int .i64 0,.int .i64 0,.int .i64 0,.int .i64 0,.nilFunc,
  .int .i64 0,.int .i64 0,.int .i64 0,.int .i64 0,.nilFunc]
theorem fn_0 (W:World):FnOk W 0 91 #[]:=fn_boxes Tryz.func91 (by kernel_rfl) (by kernel_rfl) [] (fun x hx=>by simp at hx) (fun B w' b tb _ _=>sem_lit B w' b tb)
theorem fn_1 (W:World):FnOk W 1 92 #[]:=fn_boxes Tryz.func92 (by kernel_rfl) (by kernel_rfl) [] (fun x hx=>by simp at hx) (fun B w' b tb _ _=>sem_jump B w' b tb)
theorem fn_2 (W:World):FnOk W 2 93 #[]:=fn_boxes Tryz.func93 (by kernel_rfl) (by kernel_rfl) [] (fun x hx=>by simp at hx) (fun B w' b tb _ _=>sem_jumpz B w' b tb)
theorem fn_3 (W:World):FnOk W 3 94 #[]:=fn_boxes Tryz.func94 (by kernel_rfl) (by kernel_rfl) [] (fun x hx=>by simp at hx) (fun B w' b tb _ _=>sem_call B w' b tb)
theorem fn_4 (W:World):FnOk W 4 95 #[]:=fn_boxes Tryz.func95 (by kernel_rfl) (by kernel_rfl) [] (fun x hx=>by simp at hx) (fun B w' b tb _ _=>sem_ret B w' b tb)
theorem fn_5 (W:World):FnOk W 5 96 #[]:=fn_boxes Tryz.func96 (by kernel_rfl) (by kernel_rfl) [] (fun x hx=>by simp at hx) (fun B w' b tb _ _=>sem_halt B w' b tb)
theorem fn_6 (W:World):FnOk W 6 97 #[]:=fn_boxes Tryz.func97 (by kernel_rfl) (by kernel_rfl) [] (fun x hx=>by simp at hx) (fun B w' b tb _ _=>sem_begin B w' b tb)
theorem fn_7 (W:World):FnOk W 7 98 #[]:=fn_boxes Tryz.func98 (by kernel_rfl) (by kernel_rfl) [] (fun x hx=>by simp at hx) (fun B w' b tb _ _=>sem_loop B w' b tb)
theorem fn_8 (W:World):FnOk W 8 99 #[]:=fn_boxes Tryz.func99 (by kernel_rfl) (by kernel_rfl) [] (fun x hx=>by simp at hx) (fun B w' b tb _ _=>sem_index B w' b tb)
theorem fn_26 (W:World):FnOk W 26 117 #[]:=fn_boxes Tryz.func117 (by kernel_rfl) (by kernel_rfl) [] (fun x hx=>by simp at hx) (fun B w' b tb _ _=>sem_lay B w' b tb)
theorem fn_27 (W:World):FnOk W 27 118 #[]:=fn_boxes Tryz.func118 (by kernel_rfl) (by kernel_rfl) [] (fun x hx=>by simp at hx) (fun B w' b tb _ _=>sem_back B w' b tb)
theorem fn_28 (W:World):FnOk W 28 99 #[]:=fn_boxes Tryz.func99 (by kernel_rfl) (by kernel_rfl) [] (fun x hx=>by simp at hx) (fun B w' b tb _ _=>sem_look B w' b tb)
theorem fn_29 (W:World):FnOk W 29 119 #[]:=fn_boxes Tryz.func119 (by kernel_rfl) (by kernel_rfl) [] (fun x hx=>by simp at hx) (fun B w' b tb _ _=>sem_store B w' b tb)
theorem fn_30 (W:World):FnOk W 30 120 #[]:=fn_boxes Tryz.func120 (by kernel_rfl) (by kernel_rfl) [] (fun x hx=>by simp at hx) (fun B w' b tb _ _=>sem_fetch B w' b tb)
theorem fn_31 (W:World):FnOk W 31 121 #[]:=fn_boxes Tryz.func121 (by kernel_rfl) (by kernel_rfl) [] (fun x hx=>by simp at hx) (fun B w' b tb _ _=>sem_emit B w' b tb)
theorem fn_32 (W:World):FnOk W 32 122 #[]:=fn_boxes Tryz.func122 (by kernel_rfl) (by kernel_rfl) [] (fun x hx=>by simp at hx) (fun B w' b tb _ hT=>sem_dot B w' b tb (hT rfl))
structure TabBase (w:World) (cs:Array Value):Prop where
  size:cs.size=300
  base:∀ op,op<33→∃ F cap,cs[op * 5]? = some (.int .i64 (entS op).1)∧cs[op * 5+1]? = some (.int .i64 (entS op).2.1)∧cs[op * 5+2]? = some (.int .i64 (entS op).2.2.1)∧cs[op * 5+3]? = some (.int .i64 (entS op).2.2.2)∧cs[op * 5+4]? = some (.func (.func F) #[] cap)∧FnOk w op F cap
  zero:∀ op,40≤op→op<60→cs[op * 5]? = some (.int .i64 0)∧cs[op * 5+1]? = some (.int .i64 0)∧cs[op * 5+2]? = some (.int .i64 0)∧cs[op * 5+3]? = some (.int .i64 0)
theorem TabBase.keep {w w':World} {cs:Array Value} (h:TabBase w cs) (hb:KeepT w w'):TabBase w' cs:=by
  refine⟨h.size,fun op ho=>?_,h.zero⟩
  obtain⟨F,cap,a0,a1,a2,a3,a4,a5⟩:=h.base op ho
  exact⟨F,cap,a0,a1,a2,a3,a4,a5.keep hb⟩
theorem tab_base (w:World) (c9 c10 c11 c12 c13 c14 c15 c16 c17 c18 c19 c20 c21 c22 c23 c24 c25:Array Value) (h:Fns w [(25,166,c25),(24,166,c24),(23,166,c23),(22,166,c22),(21,166,c21),(20,162,c20),(19,162,c19),(18,165,c18),(17,165,c17),(16,162,c16),(15,162,c15),(14,162,c14),(13,163,c13),(12,163,c12),(11,162,c11),(10,162,c10),(9,162,c9)]):TabBase w (tabArr c9 c10 c11 c12 c13 c14 c15 c16 c17 c18 c19 c20 c21 c22 c23 c24 c25):=by
  refine⟨rfl,fun op ho=>?_,fun op h1 h2=>?_⟩
  · have hop:op=0∨op=1∨op=2∨op=3∨op=4∨op=5∨op=6∨op=7∨op=8∨op=9∨op=10∨op=11∨op=12∨op=13∨op=14∨op=15∨op=16∨op=17∨op=18∨op=19∨op=20∨op=21∨op=22∨op=23∨op=24∨op=25∨op=26∨op=27∨op=28∨op=29∨op=30∨op=31∨op=32:=by omega
    clear ho
    rcases hop with rfl|rfl|rfl|rfl|rfl|rfl|rfl|rfl|rfl|rfl|rfl|rfl|rfl|rfl|rfl|rfl|rfl|rfl|rfl|rfl|rfl|rfl|rfl|rfl|rfl|rfl|rfl|rfl|rfl|rfl|rfl|rfl|rfl
    · exact⟨_,_,rfl,rfl,rfl,rfl,rfl,fn_0 w⟩
    · exact⟨_,_,rfl,rfl,rfl,rfl,rfl,fn_1 w⟩
    · exact⟨_,_,rfl,rfl,rfl,rfl,rfl,fn_2 w⟩
    · exact⟨_,_,rfl,rfl,rfl,rfl,rfl,fn_3 w⟩
    · exact⟨_,_,rfl,rfl,rfl,rfl,rfl,fn_4 w⟩
    · exact⟨_,_,rfl,rfl,rfl,rfl,rfl,fn_5 w⟩
    · exact⟨_,_,rfl,rfl,rfl,rfl,rfl,fn_6 w⟩
    · exact⟨_,_,rfl,rfl,rfl,rfl,rfl,fn_7 w⟩
    · exact⟨_,_,rfl,rfl,rfl,rfl,rfl,fn_8 w⟩
    · exact⟨_,_,rfl,rfl,rfl,rfl,rfl,h (9,162,c9) (List.Mem.tail _ (List.Mem.tail _ (List.Mem.tail _ (List.Mem.tail _ (List.Mem.tail _ (List.Mem.tail _ (List.Mem.tail _ (List.Mem.tail _ (List.Mem.tail _ (List.Mem.tail _ (List.Mem.tail _ (List.Mem.tail _ (List.Mem.tail _ (List.Mem.tail _ (List.Mem.tail _ (List.Mem.tail _ (List.Mem.head _)))))))))))))))))⟩
    · exact⟨_,_,rfl,rfl,rfl,rfl,rfl,h (10,162,c10) (List.Mem.tail _ (List.Mem.tail _ (List.Mem.tail _ (List.Mem.tail _ (List.Mem.tail _ (List.Mem.tail _ (List.Mem.tail _ (List.Mem.tail _ (List.Mem.tail _ (List.Mem.tail _ (List.Mem.tail _ (List.Mem.tail _ (List.Mem.tail _ (List.Mem.tail _ (List.Mem.tail _ (List.Mem.head _))))))))))))))))⟩
    · exact⟨_,_,rfl,rfl,rfl,rfl,rfl,h (11,162,c11) (List.Mem.tail _ (List.Mem.tail _ (List.Mem.tail _ (List.Mem.tail _ (List.Mem.tail _ (List.Mem.tail _ (List.Mem.tail _ (List.Mem.tail _ (List.Mem.tail _ (List.Mem.tail _ (List.Mem.tail _ (List.Mem.tail _ (List.Mem.tail _ (List.Mem.tail _ (List.Mem.head _)))))))))))))))⟩
    · exact⟨_,_,rfl,rfl,rfl,rfl,rfl,h (12,163,c12) (List.Mem.tail _ (List.Mem.tail _ (List.Mem.tail _ (List.Mem.tail _ (List.Mem.tail _ (List.Mem.tail _ (List.Mem.tail _ (List.Mem.tail _ (List.Mem.tail _ (List.Mem.tail _ (List.Mem.tail _ (List.Mem.tail _ (List.Mem.tail _ (List.Mem.head _))))))))))))))⟩
    · exact⟨_,_,rfl,rfl,rfl,rfl,rfl,h (13,163,c13) (List.Mem.tail _ (List.Mem.tail _ (List.Mem.tail _ (List.Mem.tail _ (List.Mem.tail _ (List.Mem.tail _ (List.Mem.tail _ (List.Mem.tail _ (List.Mem.tail _ (List.Mem.tail _ (List.Mem.tail _ (List.Mem.tail _ (List.Mem.head _)))))))))))))⟩
    · exact⟨_,_,rfl,rfl,rfl,rfl,rfl,h (14,162,c14) (List.Mem.tail _ (List.Mem.tail _ (List.Mem.tail _ (List.Mem.tail _ (List.Mem.tail _ (List.Mem.tail _ (List.Mem.tail _ (List.Mem.tail _ (List.Mem.tail _ (List.Mem.tail _ (List.Mem.tail _ (List.Mem.head _))))))))))))⟩
    · exact⟨_,_,rfl,rfl,rfl,rfl,rfl,h (15,162,c15) (List.Mem.tail _ (List.Mem.tail _ (List.Mem.tail _ (List.Mem.tail _ (List.Mem.tail _ (List.Mem.tail _ (List.Mem.tail _ (List.Mem.tail _ (List.Mem.tail _ (List.Mem.tail _ (List.Mem.head _)))))))))))⟩
    · exact⟨_,_,rfl,rfl,rfl,rfl,rfl,h (16,162,c16) (List.Mem.tail _ (List.Mem.tail _ (List.Mem.tail _ (List.Mem.tail _ (List.Mem.tail _ (List.Mem.tail _ (List.Mem.tail _ (List.Mem.tail _ (List.Mem.tail _ (List.Mem.head _))))))))))⟩
    · exact⟨_,_,rfl,rfl,rfl,rfl,rfl,h (17,165,c17) (List.Mem.tail _ (List.Mem.tail _ (List.Mem.tail _ (List.Mem.tail _ (List.Mem.tail _ (List.Mem.tail _ (List.Mem.tail _ (List.Mem.tail _ (List.Mem.head _)))))))))⟩
    · exact⟨_,_,rfl,rfl,rfl,rfl,rfl,h (18,165,c18) (List.Mem.tail _ (List.Mem.tail _ (List.Mem.tail _ (List.Mem.tail _ (List.Mem.tail _ (List.Mem.tail _ (List.Mem.tail _ (List.Mem.head _))))))))⟩
    · exact⟨_,_,rfl,rfl,rfl,rfl,rfl,h (19,162,c19) (List.Mem.tail _ (List.Mem.tail _ (List.Mem.tail _ (List.Mem.tail _ (List.Mem.tail _ (List.Mem.tail _ (List.Mem.head _)))))))⟩
    · exact⟨_,_,rfl,rfl,rfl,rfl,rfl,h (20,162,c20) (List.Mem.tail _ (List.Mem.tail _ (List.Mem.tail _ (List.Mem.tail _ (List.Mem.tail _ (List.Mem.head _))))))⟩
    · exact⟨_,_,rfl,rfl,rfl,rfl,rfl,h (21,166,c21) (List.Mem.tail _ (List.Mem.tail _ (List.Mem.tail _ (List.Mem.tail _ (List.Mem.head _)))))⟩
    · exact⟨_,_,rfl,rfl,rfl,rfl,rfl,h (22,166,c22) (List.Mem.tail _ (List.Mem.tail _ (List.Mem.tail _ (List.Mem.head _))))⟩
    · exact⟨_,_,rfl,rfl,rfl,rfl,rfl,h (23,166,c23) (List.Mem.tail _ (List.Mem.tail _ (List.Mem.head _)))⟩
    · exact⟨_,_,rfl,rfl,rfl,rfl,rfl,h (24,166,c24) (List.Mem.tail _ (List.Mem.head _))⟩
    · exact⟨_,_,rfl,rfl,rfl,rfl,rfl,h (25,166,c25) (List.Mem.head _)⟩
    · exact⟨_,_,rfl,rfl,rfl,rfl,rfl,fn_26 w⟩
    · exact⟨_,_,rfl,rfl,rfl,rfl,rfl,fn_27 w⟩
    · exact⟨_,_,rfl,rfl,rfl,rfl,rfl,fn_28 w⟩
    · exact⟨_,_,rfl,rfl,rfl,rfl,rfl,fn_29 w⟩
    · exact⟨_,_,rfl,rfl,rfl,rfl,rfl,fn_30 w⟩
    · exact⟨_,_,rfl,rfl,rfl,rfl,rfl,fn_31 w⟩
    · exact⟨_,_,rfl,rfl,rfl,rfl,rfl,fn_32 w⟩
  · have hop:op=40∨op=41∨op=42∨op=43∨op=44∨op=45∨op=46∨op=47∨op=48∨op=49∨op=50∨op=51∨op=52∨op=53∨op=54∨op=55∨op=56∨op=57∨op=58∨op=59:=by omega
    clear h1 h2
    rcases hop with rfl|rfl|rfl|rfl|rfl|rfl|rfl|rfl|rfl|rfl|rfl|rfl|rfl|rfl|rfl|rfl|rfl|rfl|rfl|rfl
    all_goals exact⟨rfl,rfl,rfl,rfl⟩
theorem cs21:∀ (j p:Nat),([0,0]:List Nat)[j]? = some p→p<3∧(#[.int .i64 0,.int .i64 0]:Array Value)[j]? = some (Value.int .i64 (p:Int)):=by
  intro j p hj
  match j,hj with
  | 0,hj=>simp at hj;subst hj;exact⟨by omega,rfl⟩
  | 1,hj=>simp at hj;subst hj;exact⟨by omega,rfl⟩
  | j+2,hj=>simp at hj
theorem cs23:∀ (j p:Nat),([1,0]:List Nat)[j]? = some p→p<3∧(#[.int .i64 1,.int .i64 0]:Array Value)[j]? = some (Value.int .i64 (p:Int)):=by
  intro j p hj
  match j,hj with
  | 0,hj=>simp at hj;subst hj;exact⟨by omega,rfl⟩
  | 1,hj=>simp at hj;subst hj;exact⟨by omega,rfl⟩
  | j+2,hj=>simp at hj
theorem cs24:∀ (j p:Nat),([0,1,0]:List Nat)[j]? = some p→p<3∧(#[.int .i64 0,.int .i64 1,.int .i64 0]:Array Value)[j]? = some (Value.int .i64 (p:Int)):=by
  intro j p hj
  match j,hj with
  | 0,hj=>simp at hj;subst hj;exact⟨by omega,rfl⟩
  | 1,hj=>simp at hj;subst hj;exact⟨by omega,rfl⟩
  | 2,hj=>simp at hj;subst hj;exact⟨by omega,rfl⟩
  | j+3,hj=>simp at hj
theorem cs25:∀ (j p:Nat),([1,2,0]:List Nat)[j]? = some p→p<3∧(#[.int .i64 1,.int .i64 2,.int .i64 0]:Array Value)[j]? = some (Value.int .i64 (p:Int)):=by
  intro j p hj
  match j,hj with
  | 0,hj=>simp at hj;subst hj;exact⟨by omega,rfl⟩
  | 1,hj=>simp at hj;subst hj;exact⟨by omega,rfl⟩
  | 2,hj=>simp at hj;subst hj;exact⟨by omega,rfl⟩
  | j+3,hj=>simp at hj
theorem Tryz.sizeTable:(Tryz.prog.info? 112).map (fun i=>i.size)=some 300:=by kernel_rfl
theorem base_any (w:World):Calls Tryz.prog 58 #[] w fun e w'=>∃ cs,e=.returned (.agg cs)∧TabBase w' cs∧cs.all (·.oneCell')=true∧Below w.heap.size w w':=by
  go_enter Tryz.func58,Tryz.ntmps58
  go_wp2_with fail
  refine (fn_two 9 101 (by omega) Tryz.func101 (by kernel_rfl) (by kernel_rfl) (fun x y=>gives_add x y) _).mono ?_
  rintro e w9 ⟨c9,rfl,hf,hb⟩
  have HR:Hid (Room w9 w.heap.size):=Room.below (w:=w.alloc (.cells _ 112)) ⟨_,rfl,Blk.new w _ _,by simp⟩ hb
  have HB:Hid (Below w.heap.size w w9):=(below_box w _).trans (hb.mono (by simp))
  have HL:Hid (Fns w9 [(9,162,c9)]):=Fns.cons (W:=w9) (l:=[]) (fun x hx=>by simp at hx) (Below.refl _ _) hf
  clear hf hb
  go_wp2_with fail
  refine (fn_two 10 102 (by omega) Tryz.func102 (by kernel_rfl) (by kernel_rfl) (fun x y=>gives_sub x y) w9).mono ?_
  rintro e w10 ⟨c10,rfl,hf,hb⟩
  have HR':Hid (Room w10 w.heap.size):=(U HR).below hb
  have HB':Hid (Below w.heap.size w w10):=(U HB).trans (hb.mono (U HB).size)
  have HL':=V ((U HL).cons hb hf)
  clear HR HB HL hf hb
  have HR:=HR'
  have HB:=HB'
  have HL:=HL'
  clear HR' HB' HL'
  go_wp2_with fail
  refine (fn_two 11 103 (by omega) Tryz.func103 (by kernel_rfl) (by kernel_rfl) (fun x y=>gives_mul x y) w10).mono ?_
  rintro e w11 ⟨c11,rfl,hf,hb⟩
  have HR':Hid (Room w11 w.heap.size):=(U HR).below hb
  have HB':Hid (Below w.heap.size w w11):=(U HB).trans (hb.mono (U HB).size)
  have HL':=V ((U HL).cons hb hf)
  clear HR HB HL hf hb
  have HR:=HR'
  have HB:=HB'
  have HL:=HL'
  clear HR' HB' HL'
  go_wp2_with fail
  refine (fn_div 12 105 (by omega) Tryz.func105 (by kernel_rfl) (by kernel_rfl) (fun x y h0 hx hy=>gives_quot x y h0 hx hy) w11).mono ?_
  rintro e w12 ⟨c12,rfl,hf,hb⟩
  have HR':Hid (Room w12 w.heap.size):=(U HR).below hb
  have HB':Hid (Below w.heap.size w w12):=(U HB).trans (hb.mono (U HB).size)
  have HL':=V ((U HL).cons hb hf)
  clear HR HB HL hf hb
  have HR:=HR'
  have HB:=HB'
  have HL:=HL'
  clear HR' HB' HL'
  go_wp2_with fail
  refine (fn_div 13 106 (by omega) Tryz.func106 (by kernel_rfl) (by kernel_rfl) (fun x y h0 hx hy=>gives_rest x y h0 hx hy) w12).mono ?_
  rintro e w13 ⟨c13,rfl,hf,hb⟩
  have HR':Hid (Room w13 w.heap.size):=(U HR).below hb
  have HB':Hid (Below w.heap.size w w13):=(U HB).trans (hb.mono (U HB).size)
  have HL':=V ((U HL).cons hb hf)
  clear HR HB HL hf hb
  have HR:=HR'
  have HB:=HB'
  have HL:=HL'
  clear HR' HB' HL'
  go_wp2_with fail
  refine (fn_two 14 107 (by omega) Tryz.func107 (by kernel_rfl) (by kernel_rfl) (fun x y=>gives_and x y) w13).mono ?_
  rintro e w14 ⟨c14,rfl,hf,hb⟩
  have HR':Hid (Room w14 w.heap.size):=(U HR).below hb
  have HB':Hid (Below w.heap.size w w14):=(U HB).trans (hb.mono (U HB).size)
  have HL':=V ((U HL).cons hb hf)
  clear HR HB HL hf hb
  have HR:=HR'
  have HB:=HB'
  have HL:=HL'
  clear HR' HB' HL'
  go_wp2_with fail
  refine (fn_two 15 108 (by omega) Tryz.func108 (by kernel_rfl) (by kernel_rfl) (fun x y=>gives_or x y) w14).mono ?_
  rintro e w15 ⟨c15,rfl,hf,hb⟩
  have HR':Hid (Room w15 w.heap.size):=(U HR).below hb
  have HB':Hid (Below w.heap.size w w15):=(U HB).trans (hb.mono (U HB).size)
  have HL':=V ((U HL).cons hb hf)
  clear HR HB HL hf hb
  have HR:=HR'
  have HB:=HB'
  have HL:=HL'
  clear HR' HB' HL'
  go_wp2_with fail
  refine (fn_two 16 109 (by omega) Tryz.func109 (by kernel_rfl) (by kernel_rfl) (fun x y=>gives_xor x y) w15).mono ?_
  rintro e w16 ⟨c16,rfl,hf,hb⟩
  have HR':Hid (Room w16 w.heap.size):=(U HR).below hb
  have HB':Hid (Below w.heap.size w w16):=(U HB).trans (hb.mono (U HB).size)
  have HL':=V ((U HL).cons hb hf)
  clear HR HB HL hf hb
  have HR:=HR'
  have HB:=HB'
  have HL:=HL'
  clear HR' HB' HL'
  go_wp2_with fail
  refine (fn_one 17 111 (by omega) Tryz.func111 (by kernel_rfl) (by kernel_rfl) (fun x hx=>gives_invert x hx) w16).mono ?_
  rintro e w17 ⟨c17,rfl,hf,hb⟩
  have HR':Hid (Room w17 w.heap.size):=(U HR).below hb
  have HB':Hid (Below w.heap.size w w17):=(U HB).trans (hb.mono (U HB).size)
  have HL':=V ((U HL).cons hb hf)
  clear HR HB HL hf hb
  have HR:=HR'
  have HB:=HB'
  have HL:=HL'
  clear HR' HB' HL'
  go_wp2_with fail
  refine (fn_one 18 112 (by omega) Tryz.func112 (by kernel_rfl) (by kernel_rfl) (fun x _=>gives_negate x) w17).mono ?_
  rintro e w18 ⟨c18,rfl,hf,hb⟩
  have HR':Hid (Room w18 w.heap.size):=(U HR).below hb
  have HB':Hid (Below w.heap.size w w18):=(U HB).trans (hb.mono (U HB).size)
  have HL':=V ((U HL).cons hb hf)
  clear HR HB HL hf hb
  have HR:=HR'
  have HB:=HB'
  have HL:=HL'
  clear HR' HB' HL'
  go_wp2_with fail
  refine (fn_two 19 113 (by omega) Tryz.func113 (by kernel_rfl) (by kernel_rfl) (fun x y=>gives_equal x y) w18).mono ?_
  rintro e w19 ⟨c19,rfl,hf,hb⟩
  have HR':Hid (Room w19 w.heap.size):=(U HR).below hb
  have HB':Hid (Below w.heap.size w w19):=(U HB).trans (hb.mono (U HB).size)
  have HL':=V ((U HL).cons hb hf)
  clear HR HB HL hf hb
  have HR:=HR'
  have HB:=HB'
  have HL:=HL'
  clear HR' HB' HL'
  go_wp2_with fail
  refine (fn_two 20 115 (by omega) Tryz.func115 (by kernel_rfl) (by kernel_rfl) (fun x y=>gives_less x y) w19).mono ?_
  rintro e w20 ⟨c20,rfl,hf,hb⟩
  have HR':Hid (Room w20 w.heap.size):=(U HR).below hb
  have HB':Hid (Below w.heap.size w w20):=(U HB).trans (hb.mono (U HB).size)
  have HL':=V ((U HL).cons hb hf)
  clear HR HB HL hf hb
  have HR:=HR'
  have HB:=HB'
  have HL:=HL'
  clear HR' HB' HL'
  go_wp2_with fail
  refine (fn_order 21 2 [0,0] (by simp) rfl w20 #[.int .i64 0,.int .i64 0] cs21).mono ?_
  rintro e w21 ⟨c21,rfl,hf,hb⟩
  have HR':Hid (Room w21 w.heap.size):=(U HR).below hb
  have HB':Hid (Below w.heap.size w w21):=(U HB).trans (hb.mono (U HB).size)
  have HL':=V ((U HL).cons hb hf)
  clear HR HB HL hf hb
  have HR:=HR'
  have HB:=HB'
  have HL:=HL'
  clear HR' HB' HL'
  go_wp2_with fail
  refine (fn_order0 w21).mono ?_
  rintro e w22 ⟨c22,rfl,hf,hb⟩
  have HR':Hid (Room w22 w.heap.size):=(U HR).below hb
  have HB':Hid (Below w.heap.size w w22):=(U HB).trans (hb.mono (U HB).size)
  have HL':=V ((U HL).cons hb hf)
  clear HR HB HL hf hb
  have HR:=HR'
  have HB:=HB'
  have HL:=HL'
  clear HR' HB' HL'
  go_wp2_with fail
  refine (fn_order 23 2 [1,0] (by simp) rfl w22 #[.int .i64 1,.int .i64 0] cs23).mono ?_
  rintro e w23 ⟨c23,rfl,hf,hb⟩
  have HR':Hid (Room w23 w.heap.size):=(U HR).below hb
  have HB':Hid (Below w.heap.size w w23):=(U HB).trans (hb.mono (U HB).size)
  have HL':=V ((U HL).cons hb hf)
  clear HR HB HL hf hb
  have HR:=HR'
  have HB:=HB'
  have HL:=HL'
  clear HR' HB' HL'
  go_wp2_with fail
  refine (fn_order 24 3 [0,1,0] (by simp) rfl w23 #[.int .i64 0,.int .i64 1,.int .i64 0] cs24).mono ?_
  rintro e w24 ⟨c24,rfl,hf,hb⟩
  have HR':Hid (Room w24 w.heap.size):=(U HR).below hb
  have HB':Hid (Below w.heap.size w w24):=(U HB).trans (hb.mono (U HB).size)
  have HL':=V ((U HL).cons hb hf)
  clear HR HB HL hf hb
  have HR:=HR'
  have HB:=HB'
  have HL:=HL'
  clear HR' HB' HL'
  go_wp2_with fail
  refine (fn_order 25 3 [1,2,0] (by simp) rfl w24 #[.int .i64 1,.int .i64 2,.int .i64 0] cs25).mono ?_
  rintro e w25 ⟨c25,rfl,hf,hb⟩
  have HR':Hid (Room w25 w.heap.size):=(U HR).below hb
  have HB':Hid (Below w.heap.size w w25):=(U HB).trans (hb.mono (U HB).size)
  have HL':=V ((U HL).cons hb hf)
  clear HR HB HL hf hb
  have HR:=HR'
  have HB:=HB'
  have HL:=HL'
  clear HR' HB' HL'
  obtain⟨zs,hz1,hz2,hz3⟩:=U HR
  have HZ:=V hz2
  clear hz2
  go_wp2_with (first|(refine wpList_buildTo rfl 112 _ rfl (some 89) rfl (tabArr c9 c10 c11 c12 c13 c14 c15 c16 c17 c18 c19 c20 c21 c22 c23 c24 c25) (by kernel_rfl) ?_)|(refine wpList_store_row rfl 112 (.tmp 0) (.tmp 89) rfl w.heap.size (tabArr c9 c10 c11 c12 c13 c14 c15 c16 c17 c18 c19 c20 c21 c22 c23 c24 c25) (by kernel_rfl) (by kernel_rfl) 112 zs (U HZ) (by kernel_rfl) hz1 (by kernel_rfl) ?_))
  refine bodyPost_ret (results_cell_row (P:=Tryz.prog) rfl _ _ w.heap.size 112 _ (0,0) _ rfl ((U HZ).setRow _) Tryz.underlying112 rfl Tryz.sizeTable) rfl ?_
  have hT:=tab_base w25 c9 c10 c11 c12 c13 c14 c15 c16 c17 c18 c19 c20 c21 c22 c23 c24 c25 (U HL)
  refine⟨_,rfl,?_,by kernel_rfl,below_setRow (U HB) (Nat.le_refl _) _⟩
  exact hT.keep (KeepT.row (U HZ) _)
end Go.Proofs.YtmeiikjpaepogaaGreatDoor
namespace Go.Proofs.YtmeiikjpaepogaaGreatDoor
open Go Go.RowKit
def SupAt (w:World) (cs:Array Value) (op:Nat):Prop :=
  ∃ (pb q:Nat) (ps:Array Value),cs[op * 5+4]? = some (.func (.func 123) #[] #[.pointer (some ⟨pb,0,none⟩)])∧ps.toList=(superS op).map (Value.int .i64)∧Blk w q ps 3∧Blk w pb #[.slice (some ⟨q,0,none⟩) ps.size ps.size] 115
theorem SupAt.keep {w w':World} {cs:Array Value} {op:Nat} (h:SupAt w cs op) (hk:KeepT w w'):SupAt w' cs op:=by
  obtain⟨pb,q,ps,h1,h2,h3,h4⟩:=h
  exact⟨pb,q,ps,h1,h2,hk _ _ _ h3 (by decide),hk _ _ _ h4 (by decide)⟩
theorem get_other {cs:Array Value} {i j:Nat} (f:Value) (h:i≠j):(cs.setIfInBounds i f)[j]? = cs[j]?:=by
  rw[Array.getElem?_setIfInBounds_ne h]
theorem SupAt.other {w:World} {cs:Array Value} {op k:Nat} (h:SupAt w cs op) (f:Value) (hne:op≠k):SupAt w (cs.setIfInBounds (k * 5+4) f) op:=by
  obtain⟨pb,q,ps,h1,h2,h3,h4⟩:=h
  exact⟨pb,q,ps,by rw[get_other f (by omega)];exact h1,h2,h3,h4⟩
theorem TabBase.set {w:World} {cs:Array Value} (h:TabBase w cs) (k:Nat) (hk:40≤k∧k<60) (f:Value):TabBase w (cs.setIfInBounds (k * 5+4) f):=by
  refine⟨by rw[Array.size_setIfInBounds];exact h.size,fun op ho=>?_,fun op h1 h2=>?_⟩
  · obtain⟨F,cap,a0,a1,a2,a3,a4,a5⟩:=h.base op ho
    refine⟨F,cap,?_,?_,?_,?_,?_,a5⟩
    all_goals rw[get_other f (by omega)]
    all_goals assumption
  · obtain⟨a0,a1,a2,a3⟩:=h.zero op h1 h2
    refine⟨?_,?_,?_,?_⟩
    all_goals rw[get_other f (by omega)]
    all_goals assumption
def TabAt (w:World) (tb:Nat):Prop:=∃ cs,Blk w tb cs 112∧TabBase w cs∧∀ op,40≤op→op<60→SupAt w cs op
theorem TabAt.ok {w w' : World} {tb B : Nat} (h : TabAt w tb) (hb : Below w.heap.size w w') (hB : w.heap.size ≤ B) (ht : Lib.TabBelow Tryz.prog B w' "internal/strconv.uint64pow10" .u64 Lib.pow10Tab) : TableOk B w' tb := by
  obtain⟨cs,h1,h2,h3⟩:=h
  have hlt:=h1.lt
  have hblk:=h1.below hb hlt
  have hsz:=hb.size
  refine⟨by omega,fun b op ho=>?_,fun op ha hz=>?_⟩
  · obtain⟨F,cap,a0,a1,a2,a3,a4,⟨fn,f1,f2,f3⟩,bl,g1,g2⟩:=h2.base op ho
    refine⟨F,cap,fn,⟨?_,?_,?_,?_,?_,by omega⟩,f1,f2,f3,g2 B w' b tb (fun x hx=>?_) (fun _=>ht)⟩
    · rw[hblk.cell];exact a0
    · rw[hblk.cell];exact a1
    · rw[hblk.cell];exact a2
    · rw[hblk.cell];exact a3
    · rw[hblk.cell];exact a4
    · have:=(g1 x hx).1.lt
      exact⟨(g1 x hx).1.below hb this,by omega⟩
  · obtain⟨a0,a1,a2,a3⟩:=h2.zero op ha hz
    obtain⟨pb,q,ps,s1,s2,s3,s4⟩:=h3 op ha hz
    have l3:=s3.lt
    have l4:=s4.lt
    have hps:ps.size=(superS op).length:=by have:=congrArg List.length s2;simpa using this
    refine⟨pb,q,ps.size,⟨?_,?_,?_,?_,?_,by omega⟩,?_,⟨by omega,by omega⟩,?_⟩
    · rw[hblk.cell];exact a0
    · rw[hblk.cell];exact a1
    · rw[hblk.cell];exact a2
    · rw[hblk.cell];exact a3
    · rw[hblk.cell];exact s1
    · rw[← hps];exact s4.below hb l4
    · intro j p hj
      rw[(s3.below hb l3).cell]
      have:ps.toList[j]? = some (.int .i64 p):=by rw[s2,List.getElem?_map,hj];rfl
      simpa using this
theorem newTable_any (w:World):Calls Tryz.prog 39 #[] w fun e w'=>∃ tb,e=.returned (.pointer (some ⟨tb,0,none⟩))∧TabAt w' tb∧Below w.heap.size w w':=by
  have HBA:=V (base_any w)
  have hsf:∀ (a:Addr) (W:World) (cap:Array Value),(store a (.func (.func 123) #[] cap)).run Tryz.prog W=stored Tryz.prog W a (.func (.func 123) #[] cap) .plain:=fun a W cap=>run_store _ _ _ _ _ rfl
  go_enter Tryz.func39,Tryz.ntmps39
  go_wp2_with fail
  refine (U HBA).mono ?_
  rintro e w1 ⟨cs,rfl,hT,hone,hb1⟩
  have HT1:=V hT
  have HB1:=V hb1
  have hsz:=hT.size
  clear hT hb1 HBA
  go_wp2_with (refine wpList_store_row rfl 112 (.tmp 1) (.tmp 3) rfl w1.heap.size cs rfl rfl 112 _ (Blk.new w1 _ _) (by rw[hsz];kernel_rfl) (by rw[hsz];kernel_rfl) hone ?_)
  go_loopw [2] (fun i wr=>∃ (k:Nat) (cr:Array Value),i=.int .i64 k∧40≤k∧k≤60∧Blk wr w1.heap.size cr 112∧TabBase wr cr∧(∀ op,40≤op→op<k→SupAt wr cr op)∧Below w.heap.size w wr) (fun i _=>60-(intOf i).toNat)
  case atStart =>
    refine⟨40,cs,rfl,by omega,by omega,(Blk.new w1 _ _).setRow _,(U HT1).keep ((KeepT.ofBelow (below_box w1 _)).trans (KeepT.row (Blk.new w1 _ _) _)),fun op h1 h2=>by omega,?_⟩
    exact below_setRow ((U HB1).trans ((below_box w1 _).mono (U HB1).size)) (U HB1).size _
  case round =>
    obtain⟨k,cr,rfl,hk1,hk2,hblk,hbase,hsup,hbw⟩:=hrel
    have htl:=hblk.lt
    by_cases hlt:k<60
    · have hltI:(k:Int)<60:=by omega
      have hleI:(k:Int)≤59:=by omega
      have hk0:(0:Int)≤k:=by omega
      have HSP:=V (superParts_any k ⟨hk1,hlt⟩ wr)
      have HB:=V hbw
      have HBLK:=V hblk
      have HBASE:=V hbase
      have HSUP:=V hsup
      clear hbw hblk hbase hsup
      go_wp2_with fail
      refine (U HSP).mono ?_
      rintro e w2 ⟨ps,rfl,hps,hw2⟩
      have hbd2:Below wr.heap.size wr w2:=by rw[hw2];exact below_box wr _
      have hq2:Blk w2 wr.heap.size ps 3:=by rw[hw2];exact Blk.new wr _ _
      have HIT:=V (mk_inTurn (some ⟨wr.heap.size,0,none⟩) ps.size ps.size w2)
      have HPS:=V hps
      have HBD2:=V hbd2
      have HQ2:=V hq2
      clear HSP hw2 hps hbd2 hq2
      go_wp2_with fail
      refine (U HIT).mono ?_
      rintro e w3 ⟨rfl,hw3⟩
      have hbd3:Below w2.heap.size w2 w3:=by rw[hw3];exact below_box w2 _
      have hp3:Blk w3 w2.heap.size #[.slice (some ⟨wr.heap.size,0,none⟩) ps.size ps.size] 115:=by rw[hw3];exact Blk.new w2 _ _
      have hq3:=(U HQ2).below hbd3 (U HQ2).lt
      have hbd:Below wr.heap.size wr w3:=(U HBD2).trans (hbd3.mono (U HBD2).size)
      have hblk3:=(U HBLK).below hbd htl
      have hc3:=hblk3.cell (k * 5+4)
      have hf3:=hblk3.free
      have htl3:=hblk3.lt
      obtain⟨old,hold⟩:∃ old,cr[k * 5+4]? = some old:=⟨_,Array.getElem?_eq_getElem (by have:=(U HBASE).size;omega)⟩
      rw[hold]at hc3
      have HP3:=V hp3
      have HQ3:=V hq3
      have HBLK3:=V hblk3
      have HBD:=V hbd
      clear hw3 hbd3 hp3 hq3 hbd hblk3 HIT hold
      go_wp2_with fail
      go_roundw
      case rel =>
        have hk:=KeepT.cell (U HBLK3) (k * 5+4) (.func (.func 123) #[] #[.pointer (some ⟨w2.heap.size,0,none⟩)])
        have hkk:=(KeepT.ofBelow (U HBD)).trans hk
        refine⟨k+1,cr.setIfInBounds (k * 5+4) (.func (.func 123) #[] #[.pointer (some ⟨w2.heap.size,0,none⟩)]),by go_num,by omega,by omega,(U HBLK3).set _ _,((U HBASE).keep hkk).set k ⟨hk1,hlt⟩ _,?_,?_⟩
        · intro op h1 h2
          by_cases e:op=k
          · subst e
            refine⟨w2.heap.size,wr.heap.size,ps,?_,U HPS,hk _ _ _ (U HQ3) (by decide),hk _ _ _ (U HP3) (by decide)⟩
            rw[Array.getElem?_setIfInBounds_self_of_lt (by have:=(U HBASE).size;omega)]
          · exact ((U HSUP op h1 (by omega)).keep hkk).other _ e
        · exact ((U HB).trans ((U HBD).mono (U HB).size)).setCell (U HB1).size _
      case measure=>simp[intOf];omega
    · have hkk:k=60:=by omega
      subst hkk
      have HB:=V hbw
      have HBLK:=V hblk
      have HBASE:=V hbase
      have HSUP:=V hsup
      clear hbw hblk hbase hsup
      go_wp2_with fail
      go_ret
      exact⟨w1.heap.size,rfl,⟨cr,U HBLK,U HBASE,U HSUP⟩,U HB⟩
def plimOk (n:Int):Bool:=decide (1≤n∧n≤1000)
theorem areLimits_any (q c:Nat) (a0 a1 a2 a3:Int) (w:World) (hq:∀ j:Nat,w.cell? ⟨q,j,none⟩=(#[.int .i64 a0,.int .i64 a1,.int .i64 a2,.int .i64 a3]:Array Value)[j]?) :
    Calls Tryz.prog 61 #[.slice (some ⟨q,0,none⟩) 4 c] w (fun e w'=>e=.returned (.bool (plimOk a0&&plimOk a1&&plimOk a2&&plimOk a3))∧w'=w):=by
  have hval:∀ k:Nat,k<4→∃ x,([a0,a1,a2,a3]:List Int)[k]? = some x∧w.cell? ⟨q,k,none⟩=some (.int .i64 x):=by
    intro k hk
    rw[hq k]
    match k,hk with
    | 0,_=>exact⟨_,rfl,rfl⟩
    | 1,_=>exact⟨_,rfl,rfl⟩
    | 2,_=>exact⟨_,rfl,rfl⟩
    | 3,_=>exact⟨_,rfl,rfl⟩
  have hall:(plimOk a0&&plimOk a1&&plimOk a2&&plimOk a3)=([a0,a1,a2,a3]:List Int).all plimOk:=by simp[Bool.and_assoc]
  have HV:=V hval
  have HA:=V hall
  generalize (plimOk a0&&plimOk a1&&plimOk a2&&plimOk a3)=rr at *
  generalize hls:([a0,a1,a2,a3]:List Int)=ls at *
  have hlen:ls.length=4:=by rw[← hls];rfl
  clear hq hval hall hls
  go_enter Tryz.func61,Tryz.ntmps61
  go_wp2_with fail
  go_loop [7] (fun i=>∃ k:Nat,k≤4∧i=.int .i64 k∧(ls.take k).all plimOk=true) (fun i=>4-(intOf i).toNat)
  case atStart=>exact⟨0,by omega,rfl,rfl⟩
  case round =>
    obtain⟨k,hk,rfl,hok⟩:=hrel
    by_cases hlt:k<4
    · obtain⟨x,hx,hcx⟩:=U HV k hlt
      have hltI:(k:Int)<4:=by omega
      have hnx:(ls.take (k+1)).all plimOk=plimOk x:=by rw[List.take_add_one,hx];simp[hok]
      have HNX:=V hnx
      have HX:=V hx
      by_cases h1:x<1
      · clear hnx hx
        go_wp2_with fail
        go_ret
        refine⟨congrArg (fun c=>Ending.returned (.bool c)) ?_,rfl⟩
        rw[U HA]
        symm
        rw[List.all_eq_false]
        exact⟨x,List.mem_of_getElem? (U HX),by simp[plimOk];omega⟩
      · by_cases h2:1000<x
        · clear hnx hx
          go_wp2_with fail
          go_ret
          refine⟨congrArg (fun c=>Ending.returned (.bool c)) ?_,rfl⟩
          rw[U HA]
          symm
          rw[List.all_eq_false]
          exact⟨x,List.mem_of_getElem? (U HX),by simp[plimOk];omega⟩
        · have HOK:Hid (plimOk x=true):=by show plimOk x=true;simp[plimOk];omega
          clear hnx hx
          go_wp2_with fail
          go_round
          case rel=>exact⟨k+1,by omega,by go_num,by rw[U HNX];exact U HOK⟩
          case measure=>simp[intOf];omega
    · have hk4:k=4:=by omega
      subst hk4
      have HOK:=V hok
      clear hok
      go_wp2_with fail
      go_ret
      refine⟨congrArg (fun c=>Ending.returned (.bool c)) ?_,rfl⟩
      rw[U HA]
      have:=U HOK
      rw[List.take_of_length_le (by omega)]at this
      exact this.symm
end Go.Proofs.YtmeiikjpaepogaaGreatDoor
