/- The reference's machine: Parts, aside, two, Digits. -/
import Derived.Test.YtmeiikjpaepogaaGreatDoorN01
import Derived.Lib.SmallJoins
namespace Go.Proofs.YtmeiikjpaepogaaGreatDoor
open Go Go.RowKit
def partsTab:List (Int×List Int):=[(40,[0,9]),(41,[0,10]),(42,[0,11]),(43,[0,20]),(44,[0,30]),(45,[0,29]),(46,[0,9,30]),(47,[21,30]),(48,[21,11]),(49,[21,21]),(50,[21,24]),(51,[21,0,19]),(52,[22,22]),(53,[22,21]),(54,[23,22]),(55,[23,24]),(56,[24,24]),(57,[24,9]),(58,[24,24,20]),(59,[30,9])]
def partsS (op:Int):List Int:=match partsTab.find? (fun x=>op == x.1) with|some x=>x.2|none=>if 0≤op∧op≤32 then [op] else []
def asideS (op:Int):Int×Int :=
  if op=8∨op=28 then (1,0) else if op=27 then (1,-1) else if op=26 then (0,1) else if op=6 then (0,2) else if op=7 then (2,0) else (0,0)
def divS (a b:Int):Int:=if b=-1 then wrap64 (-a) else if a.tmod b<0∧0<b∨0<a.tmod b∧b<0 then a.tdiv b-1 else a.tdiv b
def modS (a b:Int):Int:=if b=-1 then 0 else if a.tmod b<0∧0<b∨0<a.tmod b∧b<0 then a.tmod b+b else a.tmod b
def truthS (b:Bool):Int:=if b then -1 else 0
theorem div_facts (a b:Int) (h0:b≠0) (h1:b≠-1) (ha:-9223372036854775808≤a∧a≤9223372036854775807) (hb:-9223372036854775808≤b∧b≤9223372036854775807) :
    wrap64 (a.tdiv b)=a.tdiv b∧wrap64 (a.tdiv b * b)=a.tdiv b * b∧wrap64 (a-a.tdiv b * b)=a.tmod b∧-9223372036854775808≤a.tdiv b∧a.tdiv b≤9223372036854775807∧(a.tmod b<0∧0<b∨0<a.tmod b∧b<0→-9223372036854775807≤a.tdiv b∧-9223372036854775808≤a.tmod b+b∧a.tmod b+b≤9223372036854775807):=by
  have hm:=Int.tmod_add_mul_tdiv a b
  have hd:a.tdiv b * b=a-a.tmod b:=by rw[Int.mul_comm];omega
  have habs:(a.tmod b).natAbs<b.natAbs:=by
    rw[Int.natAbs_tmod]
    exact Nat.mod_lt _ (by omega)
  have habs2:(a.tmod b).natAbs≤a.natAbs:=by rw[Int.natAbs_tmod];exact Nat.mod_le _ _
  have hq:(a.tdiv b).natAbs=a.natAbs / b.natAbs:=Int.natAbs_tdiv a b
  have hs:(0≤a→0≤a.tmod b)∧(a≤0→a.tmod b≤0):=⟨fun h=>Int.tmod_nonneg b h,fun h=>by
    have:=Int.tmod_nonneg b (show 0≤-a by omega)
    rw[Int.neg_tmod]at this
    omega⟩
  have hd2:a-a.tdiv b * b=a.tmod b:=by omega
  have hq3:-9223372036854775808≤a.tdiv b∧a.tdiv b≤9223372036854775807∧(b=1∨-9223372036854775807≤a.tdiv b):=by
    by_cases hb1:b=1
    · subst hb1
      rw[Int.tdiv_one]
      exact⟨ha.1,ha.2,Or.inl rfl⟩
    · have e:2≤b.natAbs:=by omega
      have h2:a.natAbs≤9223372036854775808:=by omega
      have h3:=Nat.div_le_div_left e (by omega:0<2) (a:=a.natAbs)
      rw[← hq]at h3
      exact⟨by omega,by omega,Or.inr (by omega)⟩
  refine⟨?_,?_,?_,hq3.1,hq3.2.1,?_⟩
  · unfold wrap64;omega
  · rw[hd];unfold wrap64;omega
  · rw[hd2];unfold wrap64;omega
  · intro hf
    refine⟨?_,by omega,by omega⟩
    rcases hq3.2.2 with e|e
    · subst e;omega
    · exact e
def twoS (op a b:Int):Int :=
  if op=9 then wrap64 (a+b) else if op=10 then wrap64 (a-b) else if op=11 then wrap64 (a * b)
  else if op=14 then bits .and .i64 a b else if op=15 then bits .or .i64 a b else if op=16 then bits .xor .i64 a b
  else if op=19 then truthS (a == b) else if op=20 then truthS (decide (a<b)) else if op=13 then modS a b else divS a b
def digC (k:Nat):UInt8:=UInt8.ofNat (48+k % 10)
def digL:Nat→Nat→List UInt8
  | 0,_=>[]
  | f+1,k=>if 10≤k then digL f (k / 10)++[digC k] else [digC k]
theorem digL_step (f k:Nat) (h:10≤k):digL (f+1) k=digL f (k / 10)++[digC k]:=by simp[digL,h]
theorem digL_last (f k:Nat) (h:¬ 10≤k):digL (f+1) k=[digC k]:=by simp[digL,h]
theorem digL_length (f k:Nat):(digL f k).length≤f:=by
  induction f generalizing k with
  | zero=>simp[digL]
  | succ f ih =>
    unfold digL
    split
    · simp;exact ih _
    · simp
def digitsS (n:Int):List UInt8:=if n<0 then 45 :: digL 25 n.natAbs else digL 25 n.natAbs
theorem conv_one (W:World) (c:Int):(convert 86 9 (.slice (some ⟨W.heap.size,0,none⟩) 1 1)).run Tryz.prog (W.alloc (.cells #[.int .u8 c] 5))=.ok (.string (strOfNums [c])) (W.alloc (.cells #[.int .u8 c] 5)):=by
  refine run_convert_bytes_arg _ 86 5 Tryz.underlying86 Tryz.underlying5 W.heap.size 0 1 1 [c] rfl ?_ 9 Tryz.underlying9
  intro i hi
  have:i=0:=by omega
  subst this
  rw[(Blk.new W _ _).cell]
  rfl
theorem digs_app (k:Nat) (t:ByteArray):(strOfNums [48+(k:Int) % 10]++t).toList=digC k :: t.toList:=by
  rw[ByteArray.toList_eq,Joins.data_append,strOfNums_data,ByteArray.toList_eq]
  have e:(48+(k:Int) % 10).toNat=48+k % 10:=by omega
  simp[digC,e]
theorem digs_size (k:Int) (t:ByteArray):(strOfNums [k]++t).size=t.size+1:=by
  rw[ByteArray.size_append,strOfNums_size];simp;omega
theorem neg_app (t:ByteArray):(⟨#[45]⟩:ByteArray)++t=⟨(45 :: t.data.toList).toArray⟩:=by
  have h:((⟨#[45]⟩:ByteArray)++t).data.toList=45 :: t.data.toList:=by rw[Joins.data_append];rfl
  rw[← Joins.bytes_eta ((⟨#[45]⟩:ByteArray)++t),h]
theorem wrap_u (n:Int) (h:-9223372036854775808≤n∧n<0):IntKind.u64.wrap (-IntKind.u64.wrap n)=-n:=by
  have hs:IntKind.u64.signed=false:=rfl
  simp[IntKind.wrap,IntKind.bits,hs]
  omega
theorem pow_step {k f:Nat} (h:k<10 ^ f) (h10:10≤k):∃ g,f=g+1∧k / 10<10 ^ g:=by
  cases f with
  | zero=>simp at h;omega
  | succ g=>exact⟨g,rfl,by rw[Nat.pow_succ]at h;omega⟩
theorem pow_last {k f:Nat} (h:k<10 ^ f) (h10:¬ 10≤k) (hf:0<f):digL f k=[digC k]:=by
  cases f with
  | zero=>omega
  | succ g=>exact digL_last g k h10
structure MS where
  p:Nat
  ls:Int
  la:Int
  lc:Int
  lo:Int
  stack:List Int
  side:List Int
  calls:List Int
  cells:List Int
  out:ByteArray
  pc:Int
  halted:Bool
  ks:List (Nat×Array Value×TypeId)
def intCells (l:List Int):List Value:=l.map (Value.int .i64)
def inI (x:Int):Prop:=-9223372036854775808≤x∧x≤9223372036854775807
section
variable {B:Nat} {w:World} {b:Nat} {m:MS} {v5 v6 v7 v8:Value}
end
theorem intCells_last (l:List Int) (t:Int):(intCells (l++[t]))[l.length]? = some (.int .i64 t):=by simp[intCells]
section
variable {B:Nat} {w w1:World} {b:Nat} {m:MS} {v5 v6 v7 v8:Value}
end
theorem intCells_take (l r:List Int):(intCells (l++r)).take (l.length * 1)=intCells l:=by
  simp[intCells]
theorem Tryz.infoInt64:(Tryz.prog.info? 2).map (fun i=>(i.zero,i.size,i.bytes))=some (some (.int .i64 0),1,8):=by kernel_rfl
theorem wrap64_in (x:Int):inI (wrap64 x):=by unfold inI wrap64;omega
theorem bits_in (o:BinOp) (a b:Int):inI (bits o .i64 a b):=by
  have hw:∀ n,inI (IntKind.i64.wrap n):=fun n=>by rw[IntKind.wrap_i64];unfold inI;omega
  unfold bits
  exact hw _
theorem truth_in (c:Bool):inI (truthS c):=by unfold inI truthS;split<;>omega
theorem two_in (op a b:Int) (h0:op=12∨op=13→b≠0) (hop:op=9∨op=10∨op=11∨op=12∨op=13∨op=14∨op=15∨op=16∨op=19∨op=20) (ha:inI a) (hb:inI b):inI (twoS op a b):=by
  have hd:=fun h0 h1=>div_facts a b h0 h1 ha hb
  have habs:b≠0→(a.tmod b).natAbs<b.natAbs:=fun h=>by
    rw[Int.natAbs_tmod]
    exact Nat.mod_lt _ (by omega)
  unfold inI at ha hb
  unfold twoS
  rcases hop with rfl|rfl|rfl|rfl|rfl|rfl|rfl|rfl|rfl|rfl
  all_goals simp only[Int.reduceEq,reduceIte]
  · exact wrap64_in _
  · exact wrap64_in _
  · exact wrap64_in _
  · have h1:=h0 (Or.inl rfl)
    unfold divS
    split
    · exact wrap64_in _
    · have h2:=hd h1 (by assumption)
      unfold inI
      split<;>omega
  · have h1:=h0 (Or.inr rfl)
    unfold modS
    split
    · unfold inI;omega
    · have h2:=hd h1 (by assumption)
      have h3:=habs h1
      unfold inI
      split<;>omega
  · exact bits_in _ _ _
  · exact bits_in _ _ _
  · exact bits_in _ _ _
  · exact truth_in _
  · exact truth_in _
theorem digits_le (t:Int):(digitsS t).length≤26:=by
  unfold digitsS
  have:=digL_length 25 t.natAbs
  split
  · simp;omega
  · omega
def topS (m:MS):Int:=m.stack.getLast?.getD 0
def refusedS (m:MS) (op:Int):Int :=
  if (m.stack.length:Int)<(needsS op).1 then 7
  else if 0<(needsS op).2∧m.ls<m.stack.length+(needsS op).2 then 8
  else if (m.side.length:Int)<(asideS op).1 then 9
  else if 0<(asideS op).2∧m.la<m.side.length+(asideS op).2 then 10
  else if op=3 then (if m.lc≤m.calls.length then 11 else 0)
  else if op=4 then (if m.calls.length=0 then 11 else 0)
  else if op=29∨op=30 then (if topS m<0∨(m.cells.length:Int)≤topS m then 12 else 0)
  else if op=12∨op=13 then (if topS m=0 then 13 else 0)
  else if op=31 then (if m.lo<(m.out.size:Int)+1 then 14 else 0)
  else if op=32 then (if m.lo<(m.out.size:Int)+(digitsS (topS m)).length+1 then 14 else 0)
  else 0
theorem refused_zero (m:MS) (op:Int) (h:refusedS m op=0) :
    (needsS op).1≤m.stack.length∧(0<(needsS op).2→m.stack.length+(needsS op).2≤m.ls)∧(asideS op).1≤m.side.length∧(0<(asideS op).2→m.side.length+(asideS op).2≤m.la) ∧
    (op=3→(m.calls.length:Int)<m.lc)∧(op=4→0<m.calls.length)∧(op=29∨op=30→0≤topS m∧topS m<m.cells.length)∧(op=12∨op=13→topS m≠0) ∧
    (op=31→(m.out.size:Int)+1≤m.lo)∧(op=32→(m.out.size:Int)+(digitsS (topS m)).length+1≤m.lo):=by
  unfold refusedS at h
  by_cases c1:(m.stack.length:Int)<(needsS op).1
  · rw[if_pos c1]at h;omega
  rw[if_neg c1]at h
  by_cases c2:0<(needsS op).2∧m.ls<m.stack.length+(needsS op).2
  · rw[if_pos c2]at h;omega
  rw[if_neg c2]at h
  by_cases c3:(m.side.length:Int)<(asideS op).1
  · rw[if_pos c3]at h;omega
  rw[if_neg c3]at h
  by_cases c4:0<(asideS op).2∧m.la<m.side.length+(asideS op).2
  · rw[if_pos c4]at h;omega
  rw[if_neg c4]at h
  refine⟨by omega,by omega,by omega,by omega,?_,?_,?_,?_,?_,?_⟩
  · rintro rfl
    simp only[reduceIte]at h
    split at h<;>omega
  · rintro rfl
    simp only[Int.reduceEq,reduceIte]at h
    split at h<;>omega
  · intro e
    rw[if_neg (by omega),if_neg (by omega),if_pos e]at h
    split at h<;>omega
  · intro e
    rw[if_neg (by omega),if_neg (by omega),if_neg (by omega),if_pos e]at h
    split at h<;>omega
  · intro e
    rw[if_neg (by omega),if_neg (by omega),if_neg (by omega),if_neg (by omega),if_pos e]at h
    split at h<;>omega
  · intro e
    rw[if_neg (by omega),if_neg (by omega),if_neg (by omega),if_neg (by omega),if_neg (by omega),if_pos e]at h
    split at h<;>omega
def topL (l:List Int):Int:=l.getLast?.getD 0
theorem topL_app (l:List Int) (x:Int):topL (l++[x])=x:=by simp[topL]
theorem topS_eq (m:MS):topS m=topL m.stack:=rfl
theorem form1 (l:List Int) (h:1≤l.length):l=l.dropLast++[topL l]:=by
  rcases List.eq_nil_or_concat l with e|⟨k,t,e⟩
  · rw[e]at h;simp at h
  · rw[List.concat_eq_append]at e
    rw[e];simp[topL]
def doS (m:MS) (op arg:Int):MS :=
  let s:=m.stack
  let t:=topL s
  let u:=topL s.dropLast
  let v:=topL s.dropLast.dropLast
  let x:=topL m.side.dropLast
  let y:=topL m.side
  if op=0 then { m with stack:=s++[arg] }
  else if op=1 then { m with pc:=arg }
  else if op=2 then (if t=0 then { m with stack:=s.dropLast,pc:=arg } else { m with stack:=s.dropLast })
  else if op=3 then { m with calls:=m.calls++[m.pc],pc:=arg }
  else if op=4 then { m with calls:=m.calls.dropLast,pc:=topL m.calls }
  else if op=5 then { m with halted:=true }
  else if op=6 then { m with stack:=s.dropLast.dropLast,side:=m.side++[u,t] }
  else if op=7 then (if wrap64 (y+1)=x then { m with side:=m.side.dropLast.dropLast } else { m with side:=m.side.dropLast.dropLast++[x,wrap64 (y+1)],pc:=arg })
  else if op=8∨op=28 then { m with stack:=s++[y] }
  else if op=17 then { m with stack:=s.dropLast++[-1-t] }
  else if op=18 then { m with stack:=s.dropLast++[wrap64 (-t)] }
  else if 9≤op∧op≤20 then { m with stack:=s.dropLast.dropLast++[twoS op u t] }
  else if op=21 then { m with stack:=s++[t] }
  else if op=22 then { m with stack:=s.dropLast }
  else if op=23 then { m with stack:=s.dropLast.dropLast++[t,u] }
  else if op=24 then { m with stack:=s++[u] }
  else if op=25 then { m with stack:=s.dropLast.dropLast.dropLast++[u,t,v] }
  else if op=26 then { m with stack:=s.dropLast,side:=m.side++[t] }
  else if op=27 then { m with stack:=s++[y],side:=m.side.dropLast }
  else if op=29 then { m with stack:=s.dropLast.dropLast,cells:=m.cells.set t.toNat u }
  else if op=30 then { m with stack:=s.dropLast++[m.cells[t.toNat]?.getD 0] }
  else if op=31 then { m with stack:=s.dropLast,out:=m.out++strOfNums [t % 256] }
  else { m with stack:=s.dropLast,out:=m.out++⟨(digitsS t).toArray⟩++⟨#[32]⟩ }
end Go.Proofs.YtmeiikjpaepogaaGreatDoor
