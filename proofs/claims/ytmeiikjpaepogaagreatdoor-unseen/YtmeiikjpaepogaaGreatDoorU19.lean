/- The program's machine: deeds: store, loop. -/
import Derived.Test.YtmeiikjpaepogaaGreatDoorU18
import Derived.Test.YtmeiikjpaepogaaGreatDoorU02
import Derived.Test.YtmeiikjpaepogaaGreatDoorShelf
set_option maxRecDepth 100000
set_option maxHeartbeats 8000000
namespace Go.Proofs.YtmeiikjpaepogaaGreatDoor
open Go Go.RowKit
section
variable {B:Nat} {w:World} {b tb:Nat} {vl:Value} {m:MS} {st:Int} {vS vA vC vE vO:Value} {g k n:Nat}
theorem Pm.wrote (h:Pm B w b tb vl m st vS vA vC vE vO) (i:Nat) (hv:[vS,vA,vC,vE,vO][i]? = some (.slice (some ⟨g,0,none⟩) n k)) (j:Nat) (u:Value) (m':MS) (hr:∀ s,(pmRows m)[i]? = some s→(pmRows m).set i { s with xs:=s.xs.set j u }=pmRows m') (ha:pmArr tb vl m' st vS vA vC vE vO=pmArr tb vl m st vS vA vC vE vO) :
    Pm B (w.setCell ⟨g,j,none⟩ u) b tb vl m' st vS vA vC vE vO∧KeepB w (w.setCell ⟨g,j,none⟩ u)∧Below B w (w.setCell ⟨g,j,none⟩ u):=by
  have hl:=h.owned.len
  have hi:i<(pmRows m).length:=by rw[← hl];exact (List.getElem?_eq_some_iff.1 hv).1
  have hs:=List.getElem?_eq_getElem hi
  have hg:b≠g:=fun e=>h.off i _ hv (by rw[e];rfl)
  refine⟨⟨?_,h.base,?_⟩,?_,?_⟩
  · rw[ha];exact h.blk.far hg u
  · have:=h.owned.write i g n k _ hv hs j u
    rw[hr _ hs]at this
    exact this
  · exact h.keeps (F:=fun q=>q=g) (Still.set (F:=fun q=>q=g) (Still.refl w _) (Or.inl rfl) _ _) (fun q e=>Or.inr ⟨i,_,hv,by rw[e];rfl⟩)
  · exact (Below.refl B w).setCell (ownsRow_lt (h.owned.own i _ _ hv hs) (k:=g) rfl).2 _
end
theorem deed_store (B b tb:Nat) (vl:Value) (m:MS) (st:Int) (w:World) (h:PmE B w b tb vl m st) (arg x0:Int) (k:Nat) (x2:Int) (hs:m.cells.length≤1000) (hk:k<m.cells.length) :
    Calls Tryz.prog 119 #[.pointer (some ⟨b,0,none⟩),.int .i64 arg,.agg #[.int .i64 x0,.int .i64 k,.int .i64 x2]] w (DeedPost B w b tb vl st { m with cells:=m.cells.set k x0 } 0):=by
  have hb:=below_drew' (below_box w (.cells #[.int .i64 x0,.int .i64 k,.int .i64 x2] 171))
  have HC:=V (pmHas_any B b tb vl m st _ (h.below hb) k hs)
  have e:(decide (0≤(k:Int))&&decide ((k:Int)<(m.cells.length:Int)))=true:=by simp;omega
  rw[e]at HC
  obtain⟨vS,vA,vC,vE,vO,h0⟩:=h
  obtain⟨g,c,hv,hg,hgl⟩:=h0.oE.form (by omega)
  subst hv
  have h1:=h0.below hb
  have hc:=h0.blk.cell
  unfold pmArr at hc
  have hbl:=h0.blk.lt
  have hx:=own_cell h0.oE k (by omega)
  have hf:=own_free h0.oE k
  obtain⟨y,hy⟩:∃ y,m.cells[k]? = some y:=⟨_,List.getElem?_eq_getElem hk⟩
  have hx2:(intCells m.cells)[k]? = some (.int .i64 y):=by simp[intCells,hy]
  rw[hx2]at hx
  have HX2:=V hx2
  have hkI:(k:Int)<m.cells.length:=by omega
  have hsI:(m.cells.length:Int)≤1000:=by omega
  have hB:=h0.size
  have H1:=V h1
  have HB:=V hb
  have hgn:g≠w.heap.size:=by omega
  clear h0 hb e hx2 hy h1
  go_enter Tryz.func119,Tryz.ntmps119
  go_wp2_with fail
  go_region
  go_wp2_with fail
  refine (U HC).mono ?_
  rintro e w1 ⟨rfl,rfl⟩
  clear HC
  have h1:=U H1
  have hb:=U HB
  generalize (w.alloc (.cells #[.int .i64 x0,.int .i64 k,.int .i64 x2] 171)).drew=W0 at h1 hb ⊢
  have hc1:=h1.blk.cell
  unfold pmArr at hc1
  have hx1:=own_cell h1.oE k (by omega)
  rw[U HX2]at hx1
  have hf1:=own_free h1.oE k
  have H1:=V h1
  have HB:=V hb
  clear h1 hb hc hx hf
  go_wp2_with fail
  go_ret
  obtain⟨k1,k2,k3⟩:=(U H1).wrote 3 rfl k (.int .i64 x0) { m with cells:=m.cells.set k x0 } (fun s hs=>by simp[pmRows]at hs;subst hs;simp[pmRows,intCells,List.map_set]) rfl
  exact PmPost.deed (U HB) hB ⟨⟨_,_,_,_,_,k1⟩,k2,k3⟩
theorem deed_loop (B b tb:Nat) (vl:Value) (m:MS) (st:Int) (w:World) (h:PmE B w b tb vl m st) (arg x0 x1 x2:Int) (l:List Int) (x y:Int) (he:m.side=l++[x,y]) (hs:m.side.length≤1000) :
    Calls Tryz.prog 98 #[.pointer (some ⟨b,0,none⟩),.int .i64 arg,.agg #[.int .i64 x0,.int .i64 x1,.int .i64 x2]] w (DeedPost B w b tb vl st (if wrap64 (y+1)=x then { m with side:=l } else { m with side:=l++[x,wrap64 (y+1)],pc:=arg }) 0):=by
  have hb:=below_box w (.cells #[.int .i64 x0,.int .i64 x1,.int .i64 x2] 171)
  obtain⟨vS,vA,vC,vE,vO,h0⟩:=h
  have hn:m.side.length=l.length+2:=by rw[he];simp
  obtain⟨g,k,hv,hg,hgl⟩:=h0.oA.form (by omega)
  subst hv
  have ho:=h0.oA
  have hcs:intCells m.side=intCells l++[.int .i64 x,.int .i64 y]:=by rw[he,intCells_app];rfl
  have hxa:=own_cell ho l.length (by omega)
  have hxb:=own_cell ho (l.length+1) (by omega)
  rw[hcs]at hxa hxb
  have hla:(intCells l++[Value.int .i64 x,.int .i64 y])[l.length]? = some (.int .i64 x):=by rw[List.getElem?_append_right (by rw[intCells_len];omega),intCells_len,Nat.sub_self];rfl
  have hlb:(intCells l++[Value.int .i64 x,.int .i64 y])[l.length+1]? = some (.int .i64 y):=by rw[List.getElem?_append_right (by rw[intCells_len];omega),intCells_len,Nat.add_sub_cancel_left];rfl
  rw[hla]at hxa
  rw[hlb]at hxb
  have hfb:=own_free ho (l.length+1)
  have hB:=h0.size
  have hsI:(l.length:Int)≤1000:=by omega
  have hk:(l.length:Int)+2≤k:=by have:=(own_cap ho).1;omega
  have hb1:=h0.blk
  unfold pmArr at hb1
  rw[hn]at hb1
  have hc:=hb1.cell
  have hf:=hb1.free
  have hbl:=h0.blk.lt
  have hbg:b≠g:=fun e=>h0.off 1 _ rfl (by rw[e];rfl)
  have hgb:g≠b:=fun e=>hbg e.symm
  generalize hz:wrap64 (y+1)=z
  have hwz:IntKind.i64.wrap (y+1)=z:=by rw[← hz,IntKind.wrap_i64];unfold wrap64;first|rfl|omega
  obtain⟨k1,k2,k3⟩:=h0.wrote 1 rfl (l.length+1) (.int .i64 z) { m with side:=l++[x,z] } (fun s hs=>by
    simp[pmRows]at hs
    subst hs
    have e1:(intCells m.side).set (l.length+1) (.int .i64 z)=intCells (l++[x,z]):=by
      rw[hcs,intCells_app,List.set_append_right _ _ (by rw[intCells_len];omega),intCells_len,Nat.add_sub_cancel_left]
      rfl
    simp[pmRows,e1,hn]) (by simp[pmArr])
  have HK:=V (And.intro k1 (And.intro k2 k3))
  have HD:Hid (∀ W:World,Below (w.setCell ⟨g,l.length+1,none⟩ (.int .i64 z)).heap.size (w.setCell ⟨g,l.length+1,none⟩ (.int .i64 z)) W→Calls Tryz.prog 160 #[.pointer (some ⟨b,0,none⟩),.int .i64 2] W (PmPost B W b tb vl { m with side:=l } st (.tuple #[]))):=by
    intro W hW
    exact pmDrop_any B b tb vl { m with side:=l++[x,z] } st W ⟨_,_,_,_,_,k1.below hW⟩ l [x,z] rfl (by simp) (by simp;omega)
  have hne:b≠w.heap.size:=by omega
  have hgn:g≠w.heap.size:=by omega
  have h1000:IntKind.i64.wrap ((l.length:Int)+2-1)=(l.length:Int)+1:=by rw[IntKind.wrap_i64];omega
  have h1001:(l.length:Int)+2-1=(l.length:Int)+1:=by omega
  clear h0 ho hcs hla hlb k1 k2 k3 hb1 hz
  by_cases hq:z=x
  · rw[if_pos hq]
    subst hq
    go_enter Tryz.func98,Tryz.ntmps98
    go_wp2_with fail
    go_region
    go_wp2_with fail
    have hbW:=below_drew' (below_box (w.setCell ⟨g,l.length+1,none⟩ (.int .i64 z)) (.cells #[.int .i64 x0,.int .i64 x1,.int .i64 x2] 171))
    refine (U HD _ hbW).mono ?_
    rintro e w1 ⟨rfl,h1⟩
    have H1:=V h1
    have HW:=V hbW
    clear h1 hbW
    go_wp2_with fail
    go_ret
    obtain⟨_,n2,n3⟩:=U HK
    obtain⟨o1,o2,o3⟩:=U H1
    exact⟨rfl,o1,(n2.trans (KeepB.ofBelow (U HW))).trans o2,(n3.trans ((U HW).mono (by simpa using hB))).trans o3⟩
  · rw[if_neg hq]
    have hq':(z == x)=false:=by simpa using hq
    go_enter Tryz.func98,Tryz.ntmps98
    go_wp2_with fail
    go_region
    have hbW:=below_drew' (below_box (w.setCell ⟨g,l.length+1,none⟩ (.int .i64 z)) (.cells #[.int .i64 x0,.int .i64 x1,.int .i64 x2] 171))
    have h2:=(U HK).1.below hbW
    generalize ((w.setCell ⟨g,l.length+1,none⟩ (.int .i64 z)).alloc (.cells #[.int .i64 x0,.int .i64 x1,.int .i64 x2] 171)).drew=W0 at h2 hbW ⊢
    have hc2:=h2.blk.cell
    have hf2:=h2.blk.free
    unfold pmArr at hc2
    have H2:=V h2
    have HW:=V hbW
    clear h2 hbW hc hf hxa hxb hfb
    go_wp2_with fail
    go_ret
    obtain⟨_,n2,n3⟩:=U HK
    obtain⟨o1,o2,o3⟩:=(U H2).field 6 (.int .i64 arg) { m with side:=l++[x,z],pc:=arg } st (by simp[pmArr]) rfl
    exact⟨rfl,⟨_,_,_,_,_,o1⟩,(n2.trans (KeepB.ofBelow (U HW))).trans o2,(n3.trans ((U HW).mono (by simpa using hB))).trans o3⟩
theorem Tryz.infoByte:(Tryz.prog.info? 5).map (fun i=>(i.zero,i.size,i.bytes))=some (some (.int .u8 0),1,1):=by kernel_rfl
theorem byteCells_len (s:ByteArray):(byteCells s).length=s.size:=by simp[byteCells,bytes_len]
theorem byte_oneCell (s:ByteArray):∀ u∈byteCells s,u.oneCell'=true:=by
  intro u hu
  simp[byteCells]at hu
  obtain⟨x,_,rfl⟩:=hu
  rfl
theorem toList_app (a b:ByteArray):(a++b).toList=a.toList++b.toList:=by
  rw[ByteArray.toList_eq,Joins.data_append,ByteArray.toList_eq,ByteArray.toList_eq]
theorem byteCells_app (a b:ByteArray):byteCells (a++b)=byteCells a++byteCells b:=by
  unfold byteCells
  rw[toList_app,List.map_append]
def BytesAt (w:World) (q:Nat) (s:ByteArray):Prop:=∀ j u,(byteCells s)[j]? = some u→w.cell? ((⟨q,0,none⟩:Addr).add j)=some u
theorem pmPut_no (B b tb:Nat) (vl:Value) (m:MS) (st:Int) (w:World) (h:PmE B w b tb vl m st) (q:Option Addr) (k c:Nat) (hk:k≤100) (hs:m.out.size≤1000) (hq:m.lo<(m.out.size:Int)+k) :
    Calls Tryz.prog 168 #[.pointer (some ⟨b,0,none⟩),.slice q k c] w fun e w'=>e=.returned (.int .i64 14)∧Below w.heap.size w w':=by
  obtain⟨vS,vA,vC,vE,vO,h⟩:=h
  obtain⟨aO,kO,hvO⟩:=own_shape h.oO
  subst hvO
  have hc:=h.blk.cell
  unfold pmArr at hc
  have hsI:(m.out.size:Int)≤1000:=by omega
  have hkI:(k:Int)≤100:=by omega
  have hwr:IntKind.i64.wrap ((m.out.size:Int)+k)=(m.out.size:Int)+k:=by rw[IntKind.wrap_i64];omega
  clear h
  go_enter Tryz.func168,Tryz.ntmps168
  go_wp2_with fail
  go_region
  go_wp2_with fail
  go_ret
  exact⟨rfl,below_drew' (Below.refl _ _)⟩
theorem pmPut_any (B b tb:Nat) (vl:Value) (m:MS) (st:Int) (w:World) (h:PmE B w b tb vl m st) (q c:Nat) (s:ByteArray) (hat:BytesAt w q s) (hk:s.size≤100) (hs:m.out.size≤1000) (hq:(m.out.size:Int)+s.size≤m.lo) :
    Calls Tryz.prog 168 #[.pointer (some ⟨b,0,none⟩),.slice (some ⟨q,0,none⟩) s.size c] w (PmPost B w b tb vl { m with out:=m.out++s } st (.int .i64 0)):=by
  obtain⟨i0,hi,hz0,hz1,hz2⟩:=info_parts Tryz.infoByte
  obtain⟨vS,vA,vC,vE,vO,h⟩:=h
  obtain⟨aO,kO,hvO⟩:=own_shape h.oO
  subst hvO
  have hne:=h.off 4 _ rfl
  have hc:=h.blk.cell
  have hf:=h.blk.free
  unfold pmArr at hc
  have HO:=V h.oO
  have HB:=V h.blk
  unfold pmArr at HB
  have HS:=V h.size
  have HH:=V h
  have HQ:=V hat
  have HL:Hid ((byteCells s).length=s.size * 1):=by show (byteCells s).length=s.size * 1;rw[byteCells_len,Nat.mul_one]
  have HOC:=V (byte_oneCell s)
  have hsI:(m.out.size:Int)≤1000:=by omega
  have hkI:(s.size:Int)≤100:=by omega
  have hwr:IntKind.i64.wrap ((m.out.size:Int)+s.size)=(m.out.size:Int)+s.size:=by rw[IntKind.wrap_i64];omega
  clear h hat
  go_enter Tryz.func168,Tryz.ntmps168
  go_wp2_with fail
  go_region
  go_wp2_with (at_builtin;refine wpList_append_own_at _ rfl (.tmp 23) (.tmp 24) 86 rfl B 5 i0 _ 1 1 Tryz.underlying86 hi hz0 hz1 hz2 rfl (by decide) (.slice aO m.out.size kO) m.out.size (byteCells m.out) (by simp[Act.eval]) (show w.drew.ownsRow B 5 1 _ _ _ from U HO) ⟨q,0,none⟩ s.size c (byteCells s) (by simp[Act.eval]) (U HL) (U HQ) (U HOC) (by unfold maxLen;omega) (by omega) (U HS) ?_;intro v5 w5 hown hgrow _ hat;obtain⟨a5,c5,hv5⟩:=own_shape hown;subst hv5;have hb5:=(show Blk w.drew b _ 122 from U HB).grown hgrow hne;have hc5:=hb5.cell;have hf5:=hb5.free;have HOW:=V hown;have HG:=V hgrow;have HA:=V hat;clear hown hgrow hat hb5 hc hf)
  go_ret
  have ho:=U HOW
  rw[← byteCells_app]at ho
  obtain⟨k1,k2,k3⟩:=((U HH).below (below_drew' (Below.refl _ _))).grow 4 13 _ (.slice a5 (m.out.size+s.size) c5) ⟨5,1,m.out.size+s.size,byteCells (m.out++s)⟩ { m with out:=m.out++s } vS vA vC vE (.slice a5 (m.out.size+s.size) c5) rfl (U HG) ho (lies_own (U HA)) (by simp[pmArr]) rfl (by simp[pmRows,ByteArray.size_append])
  exact⟨rfl,⟨_,_,_,_,_,k1⟩,k2,(below_drew' (Below.refl _ _)).trans k3⟩
theorem byteCells_one (n:Int) (h0:0≤n∧n<256):byteCells (strOfNums [n])=[.int .u8 n]:=by
  unfold byteCells
  rw[ByteArray.toList_eq,strOfNums_data]
  simp
  omega
theorem size_one (n:Int):(strOfNums [n]).size=1:=by rw[strOfNums_size];rfl
theorem deed_emit_no (B b tb:Nat) (vl:Value) (m:MS) (st:Int) (w:World) (h:PmE B w b tb vl m st) (arg x0 x1 x2:Int) (hs:m.out.size≤1000) (hq:m.lo<(m.out.size:Int)+1) :
    Calls Tryz.prog 121 #[.pointer (some ⟨b,0,none⟩),.int .i64 arg,.agg #[.int .i64 x0,.int .i64 x1,.int .i64 x2]] w (DeedPost B w b tb vl st m 14):=by
  have hu:IntKind.u8.wrap x0=x0 % 256:=by simp[IntKind.wrap,IntKind.signed,IntKind.bits]
  have hb:=below_box2 w (.cells #[.int .i64 x0,.int .i64 x1,.int .i64 x2] 171) (.cells #[.int .u8 (x0 % 256)] 5)
  have HC:=V (pmPut_no B b tb vl m st _ (h.below hb) (some ⟨w.heap.size+1,0,none⟩) 1 1 (by omega) hs hq)
  have HH:=V h
  have HB:=V hb
  clear h hb
  go_enter Tryz.func121,Tryz.ntmps121
  go_wp2_with fail
  refine (U HC).mono ?_
  rintro e w1 ⟨rfl,hb1⟩
  have H1:=V hb1
  clear hb1 HC
  go_wp2_with fail
  go_ret
  exact DeedPost.no ((U HB).trans ((U H1).mono (U HB).size)) (U HH)
theorem deed_emit (B b tb:Nat) (vl:Value) (m:MS) (st:Int) (w:World) (h:PmE B w b tb vl m st) (arg x0 x1 x2:Int) (hs:m.out.size≤1000) (hq:(m.out.size:Int)+1≤m.lo) :
    Calls Tryz.prog 121 #[.pointer (some ⟨b,0,none⟩),.int .i64 arg,.agg #[.int .i64 x0,.int .i64 x1,.int .i64 x2]] w (DeedPost B w b tb vl st { m with out:=m.out++strOfNums [x0 % 256] } 0):=by
  have hu:IntKind.u8.wrap x0=x0 % 256:=by simp[IntKind.wrap,IntKind.signed,IntKind.bits]
  have hb:=below_box2 w (.cells #[.int .i64 x0,.int .i64 x1,.int .i64 x2] 171) (.cells #[.int .u8 (x0 % 256)] 5)
  have hat:BytesAt ((w.alloc (.cells #[.int .i64 x0,.int .i64 x1,.int .i64 x2] 171)).alloc (.cells #[.int .u8 (x0 % 256)] 5)) (w.heap.size+1) (strOfNums [x0 % 256]):=by
    unfold BytesAt
    rw[byteCells_one _ (by omega)]
    have:=World.news_of_block (Blk.new (w.alloc (.cells #[.int .i64 x0,.int .i64 x1,.int .i64 x2] 171)) #[.int .u8 (x0 % 256)] 5)
    rw[size_up']at this
    exact this
  have HC:=V (pmPut_any B b tb vl m st _ (h.below hb) (w.heap.size+1) 1 (strOfNums [x0 % 256]) hat (by rw[size_one];omega) hs (by rw[size_one];simpa using hq))
  rw[size_one]at HC
  have hB:=h.size
  have HB:=V hb
  clear h hb hat
  generalize strOfNums [x0 % 256]=sx at *
  go_enter Tryz.func121,Tryz.ntmps121
  go_wp2_with fail
  refine (U HC).mono ?_
  rintro e w1 ⟨rfl,h1⟩
  have H1:=V h1
  clear h1 HC
  go_wp2_with fail
  go_ret
  exact PmPost.deed (U HB) hB (U H1)
theorem digL_dec (f:Nat):∀ k,k<10 ^ (f+1)→digL (f+1) k=Lib.decDigits k:=by
  induction f with
  | zero =>
    intro k hk
    have h1:k<10:=by simpa using hk
    rw[digL_last _ _ (by omega),Lib.decDigits_one h1,digC,Nat.mod_eq_of_lt h1]
  | succ f ih =>
    intro k hk
    by_cases h:10≤k
    · rw[digL_step _ _ h,ih (k / 10) (by rw[Nat.pow_succ]at hk;omega),Lib.decDigits.eq_def k,dif_neg (by omega),digC]
    · rw[digL_last _ _ h,Lib.decDigits_one (by omega),digC,Nat.mod_eq_of_lt (by omega)]
theorem digits_itoa (n:Int) (h0:-9223372036854775808≤n) (h1:n≤9223372036854775807):digitsS n=Lib.itoa n:=by
  unfold digitsS Lib.itoa
  by_cases h:n<0
  · rw[if_pos h,if_pos h,digL_dec 24 _ (by omega)]
  · rw[if_neg h,if_neg h,digL_dec 24 _ (by omega)]
    congr 1
    omega
def dotB (n:Int):ByteArray:=⟨(digitsS n).toArray⟩++⟨#[32]⟩
theorem dotB_size (n:Int):(dotB n).size=(digitsS n).length+1:=by
  unfold dotB;rw[ByteArray.size_append];simp[ByteArray.size]
theorem dotB_cells (n:Int):byteCells (dotB n)=Lib.byteCells (digitsS n)++[.int .u8 32]:=by
  unfold dotB
  rw[byteCells_app]
  congr 1
  · unfold byteCells Lib.byteCells;rw[ByteArray.toList_eq]
  · unfold byteCells;rw[ByteArray.toList_eq];rfl
theorem add_off0 (g j:Nat):(⟨g,0,none⟩:Addr).add j=⟨g,j,none⟩:=by
  by_cases h:j=0<;>simp[Addr.add,h]
theorem own_nil (w:World) (B:Nat) (e:TypeId):w.ownsRow B e 1 (.slice none 0 0) 0 []:=⟨rfl,Or.inl ⟨rfl,rfl⟩⟩
theorem dot_over (b : Nat) (w : World) (arg x0 x1 x2 : Int) (h0 : -9223372036854775808 ≤ x0) (h1 : x0 ≤ 9223372036854775807) (htab : Lib.TabBelow Tryz.prog w.heap.size w "internal/strconv.uint64pow10" .u64 Lib.pow10Tab) (er : Int) (R : World → Prop)
    (hput:∀ (W:World) (g c:Nat),Below w.heap.size w W→BytesAt W g (dotB x0)→Calls Tryz.prog 168 #[.pointer (some ⟨b,0,none⟩),.slice (some ⟨g,0,none⟩) (dotB x0).size c] W (fun e w'=>e=.returned (.int .i64 er)∧R w')) :
    Calls Tryz.prog 122 #[.pointer (some ⟨b,0,none⟩),.int .i64 arg,.agg #[.int .i64 x0,.int .i64 x1,.int .i64 x2]] w (fun e w'=>e=.returned (.int .i64 er)∧R w'):=by
  obtain⟨i0,hi,hz0,hz1,hz2⟩:=info_parts Tryz.infoByte
  have hb:=below_box w (.cells #[.int .i64 x0,.int .i64 x1,.int .i64 x2] 171)
  have htab1 : Lib.TabBelow Tryz.prog (w.alloc (.cells #[.int .i64 x0, .int .i64 x1, .int .i64 x2] 171)).heap.size (w.alloc (.cells #[.int .i64 x0, .int .i64 x1, .int .i64 x2] 171)) "internal/strconv.uint64pow10" .u64 Lib.pow10Tab := fun w' h' => htab w' (hb.trans (h'.mono (by simp)))
  have HA:=V (Tryz.strconv_AppendInt_10 _ 0 x0 h0 h1 (.slice none 0 0) [] _ (own_nil _ _ _) (Nat.le_refl _) (by omega) htab1)
  rw[← digits_itoa x0 h0 h1]at HA
  have hdl:=digits_le x0
  have HB:=V hb
  have HP:=V hput
  have hdc:=dotB_cells x0
  have hds:=dotB_size x0
  have HDC:=V hdc
  have HDS:=V hds
  clear hb htab htab1 hput hdc hds
  generalize hD:digitsS x0=D at *
  have HD:=V hD
  clear hD
  go_enter Tryz.func122,Tryz.ntmps122
  go_wp2_with fail
  refine (U HA).mono ?_
  rintro e w1 ⟨v1,rfl,ho1,hb1,_⟩
  rw[Nat.zero_add,List.nil_append,size_up']at ho1
  rw[size_up']at hb1
  obtain⟨a1,c1,hv1⟩:=own_shape ho1
  subst hv1
  have hbA:=hb1.alloc (by have:=hb1.size;rw[size_up']at this;exact this) (.cells #[.int .u8 32] 5)
  have hoA:(w1.alloc (.cells #[.int .u8 32] 5)).ownsRow (w.heap.size+1) 5 1 (.slice a1 D.length c1) D.length (Lib.byteCells D):=ownsRow_of_block ho1 (fun k _ hk=>(below_box w1 (.cells #[.int .u8 32] 5)).block k hk)
  have hszA:w.heap.size+1≤(w1.alloc (.cells #[.int .u8 32] 5)).heap.size:=by have:=hbA.size;rw[size_up']at this;exact this
  have HO:=V hoA
  have HBA:=V hbA
  have HSZ:=V hszA
  have HN:=V (Blk.new w1 #[.int .u8 32] 5)
  clear ho1 hb1 hbA hoA HA hszA
  go_wp2_with (at_builtin;refine wpList_append_own_at _ rfl (.tmp 10) (.tmp 11) 86 rfl (w.heap.size+1) 5 i0 _ 1 1 Tryz.underlying86 hi hz0 hz1 hz2 rfl (by decide) (.slice a1 D.length c1) D.length (Lib.byteCells D) (by simp[Act.eval]) (U HO) ⟨w1.heap.size,0,none⟩ 1 1 [.int .u8 32] (by simp[Act.eval]) rfl (World.news_of_block (U HN)) (by simp[Value.oneCell']) (by unfold maxLen;omega) (by omega) (U HSZ) ?_;intro v5 w5 hown hgrow _ hat;obtain⟨g5,c5,hv5,_⟩:=hown.form (by omega);subst hv5;have hb5:=(U HBA).grown hgrow (U HSZ) (fun k hk=>(ownsRow_lt (U HO) hk).2);have HOW:=V hown;have HB5:=V hb5;clear hown hgrow hat hb5)
  have hbw:Below w.heap.size w w5:=(U HB).trans ((U HB5).mono (by omega))
  have hat5:BytesAt w5 g5 (dotB x0):=by
    intro j u hj
    rw[U HDC]at hj
    have hjl:=(List.getElem?_eq_some_iff.1 hj).1
    rw[List.length_append,Lib.byteCells_length]at hjl
    rw[add_off0]
    rw[own_cell (U HOW) j (by simp at hjl;omega),hj]
  have HC:=V (U HP w5 g5 c5 hbw hat5)
  rw[U HDS]at HC
  clear hbw hat5 HP
  go_wp2_with fail
  refine (U HC).mono ?_
  rintro e w6 ⟨rfl,h6⟩
  have H6:=V h6
  clear h6 HC
  go_wp2_with fail
  go_ret
  exact⟨rfl,U H6⟩
theorem deed_dot (B b tb : Nat) (vl : Value) (m : MS) (st : Int) (w : World) (h : PmE B w b tb vl m st) (arg x0 x1 x2 : Int) (h0 : -9223372036854775808 ≤ x0) (h1 : x0 ≤ 9223372036854775807) (htab : Lib.TabBelow Tryz.prog B w "internal/strconv.uint64pow10" .u64 Lib.pow10Tab) (hs : m.out.size ≤ 1000) (hq : (m.out.size : Int) + (digitsS x0).length + 1 ≤ m.lo) :
    Calls Tryz.prog 122 #[.pointer (some ⟨b,0,none⟩),.int .i64 arg,.agg #[.int .i64 x0,.int .i64 x1,.int .i64 x2]] w (DeedPost B w b tb vl st { m with out:=m.out++dotB x0 } 0):=by
  have hds:=dotB_size x0
  have hdl:=digits_le x0
  refine dot_over b w arg x0 x1 x2 h0 h1 (fun w' h'=>htab w' (h'.mono h.size)) 0 _ ?_
  intro W g c hb hat
  refine (pmPut_any B b tb vl m st W (h.below hb) g c (dotB x0) hat (by omega) hs (by omega)).mono ?_
  rintro e w' ⟨rfl,h1⟩
  exact⟨rfl,(PmPost.deed hb h.size h1).2⟩
theorem deed_dot_no (B b tb : Nat) (vl : Value) (m : MS) (st : Int) (w : World) (h : PmE B w b tb vl m st) (arg x0 x1 x2 : Int) (h0 : -9223372036854775808 ≤ x0) (h1 : x0 ≤ 9223372036854775807) (htab : Lib.TabBelow Tryz.prog B w "internal/strconv.uint64pow10" .u64 Lib.pow10Tab) (hs : m.out.size ≤ 1000) (hq : m.lo < (m.out.size : Int) + (digitsS x0).length + 1) :
    Calls Tryz.prog 122 #[.pointer (some ⟨b,0,none⟩),.int .i64 arg,.agg #[.int .i64 x0,.int .i64 x1,.int .i64 x2]] w (DeedPost B w b tb vl st m 14):=by
  have hds:=dotB_size x0
  have hdl:=digits_le x0
  refine dot_over b w arg x0 x1 x2 h0 h1 (fun w' h'=>htab w' (h'.mono h.size)) 14 _ ?_
  intro W g c hb hat
  refine (pmPut_no B b tb vl m st W (h.below hb) (some ⟨g,0,none⟩) (dotB x0).size c (by omega) hs (by omega)).mono ?_
  rintro e w' ⟨rfl,h1⟩
  exact⟨rfl,(DeedPost.no (er:=14) (hb.trans (h1.mono hb.size)) h).2⟩
theorem step_callv {P:Program} {ops:Array Oper} {o:Oper} {a:Act} {w:World} {K:Act→World→Prop} {Q:Exit→Act→World→Prop} {E:Prop} (hgd:o.guard=none) (t:Operand) (args:Array Operand) (tys:Array TypeId)
    (ho:o.op=.call { callee:=.value t,args:=args,argTypes:=tys }) (F:FuncId) (cap:Array Value) (ht:a.eval t=.func (.func F) #[] cap) (vals:Array Value) (hvals:args.map a.eval++cap=vals) (hrun:(callFunc F vals).run P w=.ok (.enter F vals) w) {R:Ending→World→Prop} (d:Tmp) (hd:o.dst=some d) (hc:Calls P F vals w R)
    (h:∀ e w',R e w'→∃ v,e=.returned v∧K (a.put (some d) v) w') :
    if Region.wanted o (yielded ops a.tmps)=true then Oper.wp P o a w K Q else E:=by
  rw[← hd]at h
  have hw:Region.wanted o (yielded ops a.tmps)=true:=by simp[Region.wanted,hgd]
  rw[if_pos hw]
  subst hvals
  have he:execOp a.eval o=callFunc F (args.map a.eval++cap):=by
    cases o with
    | mk dst op type pos after guard =>
      simp only at ho
      subst ho
      simp[execOp,resolve,Deferred.ofValue,ht,invoke]
  unfold Oper.wp
  rw[he,hrun]
  show Calls P F (args.map a.eval++cap) w _
  refine hc.mono ?_
  intro e w' hr
  obtain⟨v,rfl,hk⟩:=h e w' hr
  exact hk
theorem pmDo_no (B b tb:Nat) (vl:Value) (m:MS) (st:Int) (w:World) (h:PmE B w b tb vl m st) (op:Nat) (arg:Int) (hop:op<60) (htb:tb<w.heap.size) (t1 g1 t2 g2:Int) (f:Value) (hE:EntryAt w tb (op * 5) t1 g1 t2 g2 f) (ht:(0≤t1∧t1≤10)∧(0≤g1∧g1≤10)∧(0≤t2∧t2≤10)∧(0≤g2∧g2≤10)) (hs:m.stack.length≤1000∧m.side.length≤1000) (hc0:chkS m t1 g1 t2 g2≠0) :
    Calls Tryz.prog 124 #[.pointer (some ⟨b,0,none⟩),.agg #[.int .i64 op,.int .i64 arg]] w (DeedPost B w b tb vl st m (chkS m t1 g1 t2 g2)):=by
  have hb:=below_drew' (below_box w (.cells #[.int .i64 op,.int .i64 arg] 65))
  have HC:=V (pmCheck_any B b tb (op * 5) vl m st _ (h.below hb) t1 g1 t2 g2 f (hE.below hb htb) ht hs)
  obtain⟨vS,vA,vC,vE,vO,hp⟩:=h
  have hc:=hp.blk.cell
  unfold pmArr at hc
  have hbl:=hp.blk.lt
  have HH:Hid (PmE B w b tb vl m st):=⟨_,_,_,_,_,hp⟩
  have HB:=V hb
  have hopI:(op:Int)<60:=by omega
  have hop0:(0:Int)≤op:=by omega
  clear hp hb hE
  generalize chkS m t1 g1 t2 g2=r at *
  go_enter Tryz.func124,Tryz.ntmps124
  go_wp2_with fail
  go_region
  go_wp2_with fail
  refine (U HC).mono ?_
  rintro e w1 ⟨rfl,hb1⟩
  have H1:=V hb1
  clear hb1 HC
  go_wp2_with fail
  go_ret
  exact DeedPost.no ((U HB).trans ((U H1).mono (U HB).size)) (U HH)
def DoPost (B:Nat) (w:World) (b tb:Nat) (vl:Value) (st:Int) (m':MS) (er:Int) (r:List Int) (e:Ending) (w':World):Prop :=
  if er=0 then DeedPost B w b tb vl st m' 0 e w' else DeedPost B w b tb vl st { m' with stack:=m'.stack++r } er e w'
theorem nums_three (w:World) (q:Nat) (r:List Int) (hr:r.length≤3) (h:Blk w q #[.int .i64 (nth r 0),.int .i64 (nth r 1),.int .i64 (nth r 2)] 171):NumsAt w q r:=by
  intro j u hj
  rw[add_off0,h.cell]
  match r,hr with
  | [],_=>simp[intCells]at hj
  | [a], _ =>
    match j with
    | 0=>simpa [intCells,nth] using hj
    | j+1=>simp[intCells]at hj
  | [a, b], _ =>
    match j with
    | 0=>simpa [intCells,nth] using hj
    | 1=>simpa [intCells,nth] using hj
    | j+2=>simp[intCells]at hj
  | [a, b, c], _ =>
    match j with
    | 0=>simpa [intCells,nth] using hj
    | 1=>simpa [intCells,nth] using hj
    | 2=>simpa [intCells,nth] using hj
    | j+3=>simp[intCells]at hj
  | _ :: _ :: _ :: _ :: _,h=>simp at h
structure DoneAt (B:Nat) (w:World) (b tb:Nat) (vl:Value) (st:Int) (m':MS) (op:Nat) (arg:Int) (f:Value) (q:Nat) (y0 y1 y2:Int) (w':World):Prop where
  pm:PmE B w' b tb vl m' st
  keep:KeepB w w'
  below:Below B w w'
  box:Blk w' q #[.int .i64 y0,.int .i64 y1,.int .i64 y2] 171
  ins:Blk w' w.heap.size #[.int .i64 op,.int .i64 arg] 65
  cell:w'.cell? ⟨tb,op * 5+4,none⟩=some f
theorem DoneAt.s {B:Nat} {w:World} {b tb:Nat} {vl:Value} {st:Int} {m':MS} {op:Nat} {arg:Int} {f:Value} {q:Nat} {y0 y1 y2:Int} {w':World} (h:DoneAt B w b tb vl st m' op arg f q y0 y1 y2 w'):w'.cell? ⟨tb,op * 5+4,none⟩=some f∧w'.cell? ⟨w.heap.size,1,none⟩=some (.int .i64 arg)∧w'.cell? ⟨q,0,none⟩=some (.int .i64 y0)∧w'.cell? ⟨q,1,none⟩=some (.int .i64 y1)∧w'.cell? ⟨q,2,none⟩=some (.int .i64 y2) :=
  ⟨h.cell,h.ins.cell 1,h.box.cell 0,h.box.cell 1,h.box.cell 2⟩
theorem pmDo_over (B b tb:Nat) (vl:Value) (m:MS) (st:Int) (w:World) (h:PmE B w b tb vl m st) (op:Nat) (arg:Int) (hop:op<60) (htb:tb<B) (g1 t2 g2:Int) (F:FuncId) (cap:Array Value) (l r:List Int) (hE:EntryAt w tb (op * 5) r.length g1 t2 g2 (.func (.func F) #[] cap)) (ht:(0≤g1∧g1≤10)∧(0≤t2∧t2≤10)∧(0≤g2∧g2≤10)) (hs:m.stack.length≤1000∧m.side.length≤1000) (hc0:chkS m r.length g1 t2 g2=0)
    (hst : m.stack = l ++ r) (hr : r.length ≤ 3) {fn : Func} (hfn : Tryz.prog.funcs[F]? = some fn) (hfa : (fn.name == "runtime.NumGoroutine") = false) (hfb : fn.body.isNone = false) (m' : MS) (er : Int) (hm' : m'.stack.length ≤ 2000)
    (hdeed:∀ W:World,PmE B W b tb vl { m with stack:=l } st→Below B w W→Calls Tryz.prog F (#[.pointer (some ⟨b,0,none⟩),.int .i64 arg,.agg #[.int .i64 (nth r 0),.int .i64 (nth r 1),.int .i64 (nth r 2)]]++cap) W (DeedPost B W b tb vl st m' er)) :
    Calls Tryz.prog 124 #[.pointer (some ⟨b,0,none⟩),.agg #[.int .i64 op,.int .i64 arg]] w (DoPost B w b tb vl st m' er r):=by
  have hB:=h.size
  have hb:=below_drew' (below_box w (.cells #[.int .i64 op,.int .i64 arg] 65))
  have hnew:=(Blk.new w #[.int .i64 op,.int .i64 arg] 65).drew
  have HC:=V (pmCheck_any B b tb (op * 5) vl m st _ (h.below hb) r.length g1 t2 g2 _ (hE.below hb (by omega)) ⟨by omega,ht⟩ hs)
  rw[hc0]at HC
  have HRUN:Hid (∀ (args:Array Value) (W:World),(callFunc F args).run Tryz.prog W=.ok (.enter F args) W):=enter_func hfn hfa hfb
  have HD:=V hdeed
  have HH:=V h
  obtain⟨vS,vA,vC,vE,vO,hp⟩:=h
  have hc:=hp.blk.cell
  unfold pmArr at hc
  have hbl:=hp.blk.lt
  have HB:=V hb
  have HN:=V hnew
  have HE:=V hE
  have HST:=V hst
  have hopI:(op:Int)<60:=by omega
  have hop0:(0:Int)≤op:=by omega
  clear hp hb hE hc0 hfn hfa hfb hdeed hnew hst
  have hr3:(r.length:Int)≤3:=by omega
  generalize hrn:r.length=rn at *
  have HRN:=V hrn
  clear hrn
  go_enter Tryz.func124,Tryz.ntmps124
  go_wp2_with fail
  go_region
  go_wp2_with fail
  refine (U HC).mono ?_
  rintro e w1 ⟨rfl,hb1⟩
  have hb01:Below w.heap.size w w1:=(U HB).trans (hb1.mono (U HB).size)
  have hE1:=(U HE).below hb01 (by omega)
  have hbx1:=(U HN).below hb1 (U HN).lt
  have HT:=V (pmTake_any B b tb vl m st w1 ((U HH).below hb01) l r (U HST) (by rw[U HRN];omega) hs.1)
  rw[U HRN]at HT
  obtain⟨e0,e1,e2,e3,e4,etw⟩:=hE1
  have HB01:=V hb01
  have HBX:=V hbx1
  clear hb1 hb01 hbx1 HC hc
  go_wp2_with fail
  refine (U HT).mono ?_
  rintro e w2 ⟨rfl,hm2,hk2,hb2⟩
  have hbw2:Below B w w2:=((U HB01).mono hB).trans hb2
  have hE2:=(U HE).below hbw2 htb
  have hbx2:=hk2 _ _ _ (U HBX) (Or.inr rfl)
  have hcx:=hbx2.cell
  have hlx:=hbx2.lt
  obtain⟨f0,f1,f2,f3,f4,ftw⟩:=hE2
  have hnb:=Blk.new w2 #[.int .i64 (nth r 0),.int .i64 (nth r 1),.int .i64 (nth r 2)] 171
  have hbn:=below_box w2 (.cells #[.int .i64 (nth r 0),.int .i64 (nth r 1),.int .i64 (nth r 2)] 171)
  have hm3:=hm2.below hbn
  have hk3:KeepB w (w2.alloc (.cells #[.int .i64 (nth r 0),.int .i64 (nth r 1),.int .i64 (nth r 2)] 171)):=(KeepB.ofBelow (U HB01)).trans (hk2.trans (KeepB.ofBelow hbn))
  have hb3:Below B w (w2.alloc (.cells #[.int .i64 (nth r 0),.int .i64 (nth r 1),.int .i64 (nth r 2)] 171)):=hbw2.trans (hbn.mono hm2.size)
  have HR3:=V (U HRUN (#[.pointer (some ⟨b,0,none⟩),.int .i64 arg,.agg #[.int .i64 (nth r 0),.int .i64 (nth r 1),.int .i64 (nth r 2)]]++cap) (w2.alloc (.cells #[.int .i64 (nth r 0),.int .i64 (nth r 1),.int .i64 (nth r 2)] 171)).drew)
  have hdr:Below w2.heap.size w2 (w2.alloc (.cells #[.int .i64 (nth r 0),.int .i64 (nth r 1),.int .i64 (nth r 2)] 171)).drew:=below_drew' hbn
  have hat0:DoneAt B w b tb vl st { m with stack:=l } op arg (.func (.func F) #[] cap) w2.heap.size (nth r 0) (nth r 1) (nth r 2) (w2.alloc (.cells #[.int .i64 (nth r 0),.int .i64 (nth r 1),.int .i64 (nth r 2)] 171)).drew :=
    ⟨hm3.below (below_drew' (Below.refl _ _)),hk3.trans (KeepB.ofBelow (below_drew' (Below.refl _ _))),below_drew' hb3,hnb.drew,hbx2.below hdr hlx,by rw[hdr.cell (by simpa using ftw)];exact f4⟩
  have HD3:Hid (Calls Tryz.prog F (#[.pointer (some ⟨b,0,none⟩),.int .i64 arg,.agg #[.int .i64 (nth r 0),.int .i64 (nth r 1),.int .i64 (nth r 2)]]++cap) (w2.alloc (.cells #[.int .i64 (nth r 0),.int .i64 (nth r 1),.int .i64 (nth r 2)] 171)).drew (fun e w'=>e=.returned (.int .i64 er)∧DoneAt B w b tb vl st m' op arg (.func (.func F) #[] cap) w2.heap.size (nth r 0) (nth r 1) (nth r 2) w')):=by
    refine (U HD _ hat0.pm hat0.below).mono ?_
    rintro e w' ⟨he,k1,k2,k3⟩
    exact⟨he,k1,hat0.keep.trans k2,hat0.below.trans k3,k2 _ _ _ hat0.box (Or.inl rfl),k2 _ _ _ hat0.ins (Or.inr rfl),by rw[k3.cell (by simpa using htb)];exact hat0.cell⟩
  have HS0:=V hat0.s
  clear hm2 hk2 hb2 hbw2 hbx2 hnb hbn hm3 hk3 hb3 hdr hat0 HT e0 e1 e2 e3 e4 etw HD HRUN HBX
  generalize hy0:nth r 0=y0 at *
  generalize hy1:nth r 1=y1 at *
  generalize hy2:nth r 2=y2 at *
  have HY:=V (And.intro hy0 (And.intro hy1 hy2))
  clear hy0 hy1 hy2
  go_wp2_with fail
  go_cut [8] from 30 to 50 (fun s8 wc=>s8=.int .i64 er∧DoneAt B w b tb vl st m' op arg (.func (.func F) #[] cap) w2.heap.size y0 y1 y2 wc)
  case first =>
    go_region_held_law (fun w'=>w'.cell? ⟨tb,op * 5+4,none⟩=some (.func (.func F) #[] cap)∧w'.cell? ⟨w.heap.size,1,none⟩=some (.int .i64 arg)∧w'.cell? ⟨w2.heap.size,0,none⟩=some (.int .i64 y0)∧w'.cell? ⟨w2.heap.size,1,none⟩=some (.int .i64 y1)∧w'.cell? ⟨w2.heap.size,2,none⟩=some (.int .i64 y2)) (first|exact U HS4|exact U HS0) ((refine step_callv rfl (.tmp 33) #[.tmp 34,.tmp 36,.tmp 37] #[118,2,171] rfl F cap (by simp[Act.eval]) (#[.pointer (some ⟨b,0,none⟩),.int .i64 arg,.agg #[.int .i64 y0,.int .i64 y1,.int .i64 y2]]++cap) (by simp[Act.eval]) (by exact U HR3) (R:=fun e w'=>e=.returned (.int .i64 er)∧DoneAt B w b tb vl st m' op arg (.func (.func F) #[] cap) w2.heap.size y0 y1 y2 w') 38 rfl (by exact U HD3) ?_;rintro e w4 ⟨rfl,hd4⟩;have HS4:=V hd4.s;have HM4:=V hd4;clear hd4;refine⟨_,rfl,?_⟩))
    all_goals
      go_wp2_with fail
      go_meet
      refine⟨?_,U HM4⟩
      first|rfl|(simp[Act.eval,Act.put];done)|(simp;done)
  case rest =>
    obtain⟨rfl,hd⟩:=hcut
    clear HS0 HR3 HD3 f0 f1 f2 f3 f4 hcx
    have hEc:=(U HE).below hd.below htb
    obtain⟨f0,f1,f2,f3,f4,ftc⟩:=hEc
    have hqc:=hd.box.lt
    obtain⟨hy0,hy1,hy2⟩:=U HY
    have HPU:=V (pmPush_any B b tb vl m' st wc hd.pm w2.heap.size rn 3 r (U HRN) (nums_three _ _ _ (by rw[U HRN];exact hr) (by rw[hy0,hy1,hy2];exact hd.box)) ⟨hm',by omega⟩)
    have HDN:=V hd
    clear hd hy0 hy1 hy2
    have hrn0:(0:Int)≤rn:=by omega
    have hrn3:rn≤3:=hr
    by_cases he:er=0
    · subst he
      go_wp2_with fail
      go_ret
      unfold DoPost
      rw[if_pos rfl]
      exact⟨rfl,(U HDN).pm,(U HDN).keep,(U HDN).below⟩
    · have he':(er == 0)=false:=by simpa using he
      go_wp2_with fail
      refine (U HPU).mono ?_
      rintro e w5 ⟨rfl,h5⟩
      have H5:=V h5
      clear h5 HPU
      go_wp2_with fail
      go_ret
      obtain⟨k1,k2,k3⟩:=U H5
      unfold DoPost
      rw[if_neg he]
      exact⟨rfl,k1,(U HDN).keep.trans k2,(U HDN).below.trans k3⟩
def entTab:List (Nat×Nat×Nat×Nat) :=
  [(0,1,0,0),(0,0,0,0),(1,0,0,0),(0,0,0,0),(0,0,0,0),(0,0,0,0),(2,0,0,2),(0,0,2,2),(0,1,1,1),
   (2,1,0,0),(2,1,0,0),(2,1,0,0),(2,1,0,0),(2,1,0,0),(2,1,0,0),(2,1,0,0),(2,1,0,0),
   (1,1,0,0),(1,1,0,0),(2,1,0,0),(2,1,0,0),
   (1,2,0,0),(1,0,0,0),(2,2,0,0),(2,3,0,0),(3,3,0,0),
   (1,0,0,1),(0,1,1,0),(0,1,1,1),(2,0,0,0),(1,1,0,0),(1,0,0,0),(1,0,0,0)]
def entS (op:Nat):Nat×Nat×Nat×Nat:=entTab.getD op (0,0,0,0)
theorem ent_needs (op:Nat) (h:op<33):needsS op=(((entS op).1:Int),((entS op).2.1:Int)-(entS op).1)∧asideS op=(((entS op).2.2.1:Int),((entS op).2.2.2:Int)-(entS op).2.2.1):=by
  have:∀ k:Fin 33,needsS (k.val:Int)=(((entS k.val).1:Int),((entS k.val).2.1:Int)-(entS k.val).1)∧asideS (k.val:Int)=(((entS k.val).2.2.1:Int),((entS k.val).2.2.2:Int)-(entS k.val).2.2.1):=by decide
  exact this ⟨op,h⟩
theorem ent_small (op:Nat) (h:op<33):(entS op).1≤3∧(entS op).2.1≤3∧(entS op).2.2.1≤2∧(entS op).2.2.2≤2:=by
  have:∀ k:Fin 33,(entS k.val).1≤3∧(entS k.val).2.1≤3∧(entS k.val).2.2.1≤2∧(entS k.val).2.2.2≤2:=by decide
  exact this ⟨op,h⟩
theorem chk_refused (m:MS) (hm:MOk m) (op:Nat) (h:op<33):(chkS m (entS op).1 (entS op).2.1 (entS op).2.2.1 (entS op).2.2.2≠0→refusedS m op=chkS m (entS op).1 (entS op).2.1 (entS op).2.2.1 (entS op).2.2.2) ∧
    (chkS m (entS op).1 (entS op).2.1 (entS op).2.2.1 (entS op).2.2.2=0→((entS op).1:Int)≤m.stack.length∧((entS op).2.2.1:Int)≤m.side.length∧(m.stack.length:Int)-(entS op).1+(entS op).2.1≤m.ls∧(m.side.length:Int)-(entS op).2.2.1+(entS op).2.2.2≤m.la):=by
  obtain⟨e1,e2⟩:=ent_needs op h
  have s1:=hm.stack
  have s2:=hm.side
  unfold chkS refusedS
  rw[e1,e2]
  generalize (entS op).1=t1
  generalize (entS op).2.1=g1
  generalize (entS op).2.2.1=t2
  generalize (entS op).2.2.2=g2
  simp only
  by_cases c1:(m.stack.length:Int)<t1
  · rw[if_pos c1,if_pos c1]
    exact⟨fun _=>rfl,fun e=>by omega⟩
  rw[if_neg c1,if_neg c1]
  by_cases c2:m.ls<(m.stack.length:Int)-t1+g1
  · have p2:0<(g1:Int)-t1∧m.ls<(m.stack.length:Int)+((g1:Int)-t1):=by omega
    rw[if_pos c2,if_pos p2]
    exact⟨fun _=>rfl,fun e=>by omega⟩
  have n2:¬ (0<(g1:Int)-t1∧m.ls<(m.stack.length:Int)+((g1:Int)-t1)):=by omega
  rw[if_neg c2,if_neg n2]
  by_cases c3:(m.side.length:Int)<t2
  · rw[if_pos c3,if_pos c3]
    exact⟨fun _=>rfl,fun e=>by omega⟩
  rw[if_neg c3,if_neg c3]
  by_cases c4:m.la<(m.side.length:Int)-t2+g2
  · have p4:0<(g2:Int)-t2∧m.la<(m.side.length:Int)+((g2:Int)-t2):=by omega
    rw[if_pos c4,if_pos p4]
    exact⟨fun _=>rfl,fun e=>by omega⟩
  have n4:¬ (0<(g2:Int)-t2∧m.la<(m.side.length:Int)+((g2:Int)-t2)):=by omega
  rw[if_neg c4,if_neg n4]
  exact⟨fun e=>absurd rfl e,fun _=>⟨by omega,by omega,by omega,by omega⟩⟩
end Go.Proofs.YtmeiikjpaepogaaGreatDoor
