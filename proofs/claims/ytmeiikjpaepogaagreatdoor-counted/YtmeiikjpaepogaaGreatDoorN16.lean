/- The program's machine in memory. -/
import Derived.Test.YtmeiikjpaepogaaGreatDoorN02
import Derived.Test.YtmeiikjpaepogaaGreatDoorN01
import Derived.Maps.AppendAt
import Derived.Deep.CutRange
set_option maxRecDepth 100000
set_option maxHeartbeats 8000000
namespace Go.Proofs.YtmeiikjpaepogaaGreatDoor
open Go Go.RowKit
def byteCells (s:ByteArray):List Value:=s.toList.map (fun c=>Value.int .u8 c.toNat)
def pmArr (tb:Nat) (vl:Value) (m:MS) (st:Int) (vS vA vC vE vO:Value):Array Value :=
  #[.pointer (some ⟨tb,0,none⟩),.int .i64 m.ls,.int .i64 m.la,.int .i64 m.lc,.int .i64 m.lo,vl,.int .i64 m.pc,.int .i64 st,.bool m.halted,vS,vA,vC,vE,vO]
def pmRows (m:MS):List RowSpec :=
  [⟨2,1,m.stack.length,intCells m.stack⟩,⟨2,1,m.side.length,intCells m.side⟩,⟨3,1,m.calls.length,intCells m.calls⟩,⟨2,1,m.cells.length,intCells m.cells⟩,⟨5,1,m.out.size,byteCells m.out⟩]
structure MOk (m:MS):Prop where
  lims:(1≤m.ls∧m.ls≤1000)∧(1≤m.la∧m.la≤1000)∧(1≤m.lc∧m.lc≤1000)∧(1≤m.lo∧m.lo≤1000)
  stack:(m.stack.length:Int)≤m.ls
  side:(m.side.length:Int)≤m.la
  calls:(m.calls.length:Int)≤m.lc
  cells:m.cells.length≤1000
  out:(m.out.size:Int)≤m.lo
  ints:(∀ x∈m.stack,inI x)∧(∀ x∈m.side,inI x)∧(∀ x∈m.cells,inI x)
structure Pm (B:Nat) (w:World) (b tb:Nat) (vl:Value) (m:MS) (st:Int) (vS vA vC vE vO:Value):Prop where
  blk:Blk w b (pmArr tb vl m st vS vA vC vE vO) 122
  base:B≤b
  owned:Owned B w [b] [vS,vA,vC,vE,vO] (pmRows m)
def PmE (B:Nat) (w:World) (b tb:Nat) (vl:Value) (m:MS) (st:Int):Prop:=∃ vS vA vC vE vO,Pm B w b tb vl m st vS vA vC vE vO
section
variable {B:Nat} {w w' w1:World} {b tb:Nat} {vl:Value} {m:MS} {st:Int} {vS vA vC vE vO:Value}
theorem Pm.oS (h:Pm B w b tb vl m st vS vA vC vE vO):w.ownsRow B 2 1 vS m.stack.length (intCells m.stack):=h.owned.own 0 vS _ rfl rfl
theorem Pm.oA (h:Pm B w b tb vl m st vS vA vC vE vO):w.ownsRow B 2 1 vA m.side.length (intCells m.side):=h.owned.own 1 vA _ rfl rfl
theorem Pm.oC (h:Pm B w b tb vl m st vS vA vC vE vO):w.ownsRow B 3 1 vC m.calls.length (intCells m.calls):=h.owned.own 2 vC _ rfl rfl
theorem Pm.oE (h:Pm B w b tb vl m st vS vA vC vE vO):w.ownsRow B 2 1 vE m.cells.length (intCells m.cells):=h.owned.own 3 vE _ rfl rfl
theorem Pm.oO (h:Pm B w b tb vl m st vS vA vC vE vO):w.ownsRow B 5 1 vO m.out.size (byteCells m.out):=h.owned.own 4 vO _ rfl rfl
theorem Pm.size (h:Pm B w b tb vl m st vS vA vC vE vO):B≤w.heap.size:=by have:=h.base;have:=h.blk.lt;omega
theorem Pm.off (h:Pm B w b tb vl m st vS vA vC vE vO) (i:Nat) (v:Value) (hv:[vS,vA,vC,vE,vO][i]? = some v):some b≠v.ownBlock:=fun e=>h.owned.off i v b hv (by simp) e.symm
theorem Pm.below (h:Pm B w b tb vl m st vS vA vC vE vO) (hb:Below w.heap.size w w'):Pm B w' b tb vl m st vS vA vC vE vO:=⟨h.blk.below hb h.blk.lt,h.base,h.owned.below_all hb⟩
theorem PmE.below (h:PmE B w b tb vl m st) (hb:Below w.heap.size w w'):PmE B w' b tb vl m st:=by
  obtain⟨_,_,_,_,_,h⟩:=h
  exact⟨_,_,_,_,_,h.below hb⟩
theorem PmE.size (h:PmE B w b tb vl m st):B≤w.heap.size:=by
  obtain⟨_,_,_,_,_,h⟩:=h
  exact h.size
theorem PmE.lt (h:PmE B w b tb vl m st):b<w.heap.size:=by
  obtain⟨_,_,_,_,_,h⟩:=h
  exact h.blk.lt
def KeepB (w w':World):Prop:=∀ (k:Nat) (cs:Array Value) (T:TypeId),Blk w k cs T→(T=171∨T=65)→Blk w' k cs T
theorem KeepB.refl (w:World):KeepB w w:=fun _ _ _ h _=>h
theorem KeepB.trans {a b c:World} (h:KeepB a b) (k:KeepB b c):KeepB a c:=fun i cs T hb ht=>k i cs T (h i cs T hb ht) ht
theorem KeepB.ofBelow {w w':World} (h:Below w.heap.size w w'):KeepB w w':=fun _ _ _ hb _=>hb.below h hb.lt
theorem blk_type {w:World} {k:Nat} {cs cs':Array Value} {T T':TypeId} (h:Blk w k cs T) (h':Blk w k cs' T'):T=T':=by
  unfold Blk at h h'
  rw[h]at h'
  simp at h'
  exact h'.2
theorem rows_type {m:MS} {i:Nat} {s:RowSpec} (h:(pmRows m)[i]? = some s):s.e=2∨s.e=3∨s.e=5:=by
  match i,h with
  | 0,h=>simp[pmRows]at h;subst h;exact Or.inl rfl
  | 1,h=>simp[pmRows]at h;subst h;exact Or.inl rfl
  | 2,h=>simp[pmRows]at h;subst h;exact Or.inr (Or.inl rfl)
  | 3,h=>simp[pmRows]at h;subst h;exact Or.inl rfl
  | 4,h=>simp[pmRows]at h;subst h;exact Or.inr (Or.inr rfl)
  | i+5,h=>simp[pmRows]at h
theorem Pm.keeps (h:Pm B w b tb vl m st vS vA vC vE vO) {F:Nat→Prop} (hs:Still w w' F) (hF:∀ k,F k→k=b∨∃ (i:Nat) (v:Value),[vS,vA,vC,vE,vO][i]? = some v∧v.ownBlock=some k):KeepB w w':=by
  intro k cs T hb ht
  refine hb.still hs (fun e=>?_)
  rcases hF k e with rfl|⟨i,v,hv,hk⟩
  · have:=blk_type h.blk hb
    subst this
    rcases ht with e|e<;>exact absurd e (by decide)
  · have hl:=h.owned.len
    have hi:i<(pmRows m).length:=by rw[← hl];exact (List.getElem?_eq_some_iff.1 hv).1
    have hr:=rows_type (List.getElem?_eq_getElem hi)
    refine row_not_blk hb (h.owned.own i v _ hv (List.getElem?_eq_getElem hi)) (fun e=>?_) hk
    rcases ht with e1|e1<;>rcases hr with e2|e2|e2<;>rw[e1,e2]at e<;>exact absurd e (by decide)
theorem Pm.field (h:Pm B w b tb vl m st vS vA vC vE vO) (c:Nat) (u:Value) (m':MS) (st':Int) (ha:(pmArr tb vl m st vS vA vC vE vO).setIfInBounds c u=pmArr tb vl m' st' vS vA vC vE vO) (hr:pmRows m'=pmRows m) :
    Pm B (w.setCell ⟨b,c,none⟩ u) b tb vl m' st' vS vA vC vE vO∧KeepB w (w.setCell ⟨b,c,none⟩ u)∧Below B w (w.setCell ⟨b,c,none⟩ u):=by
  refine⟨⟨?_,h.base,?_⟩,h.keeps (F:=fun k=>k=b) (Still.set (F:=fun k=>k=b) (Still.refl w _) (Or.inl rfl) _ _) (fun k e=>Or.inl e),(Below.refl B w).setCell h.base _⟩
  · rw[← ha];exact h.blk.set c u
  · rw[hr];exact h.owned.set (by simp) c u
theorem Pm.grow (h:Pm B w b tb vl m st vS vA vC vE vO) (i c:Nat) (v v':Value) (s':RowSpec) (m':MS) (uS uA uC uE uO:Value)
    (hv:[vS,vA,vC,vE,vO][i]? = some v) (hw1:w.grownBy w1 v.ownBlock) (hown:w1.ownsRow B s'.e s'.size v' s'.n s'.xs) (hat:v'.ownBlock=v.ownBlock∨∃ g,v'.ownBlock=some g∧w.heap.size≤g)
    (ha:(pmArr tb vl m st vS vA vC vE vO).setIfInBounds c v'=pmArr tb vl m' st uS uA uC uE uO) (hvs:[vS,vA,vC,vE,vO].set i v'=[uS,uA,uC,uE,uO]) (hr:(pmRows m).set i s'=pmRows m') :
    Pm B (w1.setCell ⟨b,c,none⟩ v') b tb vl m' st uS uA uC uE uO∧KeepB w (w1.setCell ⟨b,c,none⟩ v')∧Below B w (w1.setCell ⟨b,c,none⟩ v'):=by
  have hlt:=h.blk.lt
  have hst:Still w (w1.setCell ⟨b,c,none⟩ v') (fun k=>k=b∨v.ownBlock=some k):=Still.set (F:=fun k=>k=b∨v.ownBlock=some k) (Still.grown (F:=fun k=>k=b∨v.ownBlock=some k) (Still.refl w _) hw1 (fun k hk=>Or.inl (Or.inr hk))) (Or.inl (Or.inl rfl)) _ _
  refine⟨⟨?_,h.base,?_⟩,h.keeps hst (fun k e=>by rcases e with e|e;exact Or.inl e;exact Or.inr ⟨i,v,hv,e⟩),?_⟩
  · rw[← ha];exact (h.blk.grown hw1 (h.off i v hv)).set c v'
  · rw[← hvs,← hr];exact (h.owned.grow i v v' s' hv (by simp;exact hlt) hw1 hown hat).set (b:=b) (by simp) c v'
  · refine ((Below.refl B w).grown hw1 h.size ?_).setCell h.base _
    intro k hk
    have hs:=h.owned.len
    have hi:i<(pmRows m).length:=by rw[← hs];exact (List.getElem?_eq_some_iff.1 hv).1
    exact (ownsRow_lt (h.owned.own i v _ hv (List.getElem?_eq_getElem hi)) hk).2
end
theorem intCells_len (l:List Int):(intCells l).length=l.length:=by simp[intCells]
theorem int_oneCell (l:List Int):∀ u∈intCells l,u.oneCell'=true:=by
  intro u hu
  simp[intCells]at hu
  obtain⟨x,_,rfl⟩:=hu
  rfl
theorem intCells_app (l r:List Int):intCells (l++r)=intCells l++intCells r:=by simp[intCells]
theorem below_drew' {B:Nat} {a w:World} (h:Below B a w):Below B a w.drew:=⟨h.os,h.tape,h.output,h.size,h.block⟩
theorem lies_own {v v':Value} {w:World} (h:v'.ownBlock=v.ownBlock∨v'.ownBlock=some w.heap.size):v'.ownBlock=v.ownBlock∨∃ g,v'.ownBlock=some g∧w.heap.size≤g:=by
  rcases h with h|h
  · exact Or.inl h
  · exact Or.inr ⟨_,h,Nat.le_refl _⟩
def NumsAt (w:World) (q:Nat) (news:List Int):Prop:=∀ j u,(intCells news)[j]? = some u→w.cell? ((⟨q,0,none⟩:Addr).add j)=some u
theorem NumsAt.new (w:World) (x:Int) (T:TypeId):NumsAt (w.alloc (.cells #[.int .i64 x] T)) w.heap.size [x]:=World.news_of_block (Blk.new w _ T)
theorem NumsAt.two (w:World) (x y:Int) (T:TypeId):NumsAt (w.alloc (.cells #[.int .i64 x,.int .i64 y] T)) w.heap.size [x,y]:=World.news_of_block (Blk.new w _ T)
def PmPost (B:Nat) (w:World) (b tb:Nat) (vl:Value) (m:MS) (st:Int) (v:Value) (e:Ending) (w':World):Prop:=e=.returned v∧PmE B w' b tb vl m st∧KeepB w w'∧Below B w w'
theorem pmPush_any (B b tb:Nat) (vl:Value) (m:MS) (st:Int) (w:World) (h:PmE B w b tb vl m st) (q k c:Nat) (news:List Int) (hk:news.length=k) (hq:NumsAt w q news) (hlen:m.stack.length≤2000∧k≤10) :
    Calls Tryz.prog 158 #[.pointer (some ⟨b,0,none⟩),.slice (some ⟨q,0,none⟩) k c] w (PmPost B w b tb vl { m with stack:=m.stack++news } st (.tuple #[])):=by
  obtain⟨i0,hi,hz0,hz1,hz2⟩:=info_parts Tryz.infoInt64
  obtain⟨vS,vA,vC,vE,vO,h⟩:=h
  obtain⟨aS,kS,hvS⟩:=own_shape h.oS
  subst hvS
  have hne:=h.off 0 _ rfl
  have hc:=h.blk.cell
  have hf:=h.blk.free
  unfold pmArr at hc
  have HO:=V h.oS
  have HB:=V h.blk
  unfold pmArr at HB
  have HS:=V h.size
  have HH:=V h
  have HQ:=V hq
  have HL:Hid ((intCells news).length=k * 1):=by show (intCells news).length=k * 1;rw[intCells_len,hk,Nat.mul_one]
  have HOC:=V (int_oneCell news)
  clear h hq
  go_enter Tryz.func158,Tryz.ntmps158
  go_wp2_with (at_builtin;refine wpList_append_own_at _ rfl (.tmp 8) (.tmp 9) 42 rfl B 2 i0 _ 1 8 Tryz.underlying42 hi hz0 hz1 hz2 rfl (by decide) (.slice aS m.stack.length kS) m.stack.length (intCells m.stack) (by simp[Act.eval]) (U HO) ⟨q,0,none⟩ k c (intCells news) (by simp[Act.eval]) (U HL) (U HQ) (U HOC) (by unfold maxLen;omega) (by omega) (U HS) ?_;intro v5 w5 hown hgrow _ hat;obtain⟨a5,c5,hv5⟩:=own_shape hown;subst hv5;have hb5:=(U HB).grown hgrow hne;have hc5:=hb5.cell;have hf5:=hb5.free;have HOW:=V hown;have HG:=V hgrow;have HA:=V hat;clear hown hgrow hat hb5 hc hf)
  go_end0
  have ho:=U HOW
  rw[← intCells_app]at ho
  obtain⟨k1,k2,k3⟩:=(U HH).grow 0 9 _ (.slice a5 (m.stack.length+k) c5) ⟨2,1,m.stack.length+k,intCells (m.stack++news)⟩ { m with stack:=m.stack++news } (.slice a5 (m.stack.length+k) c5) vA vC vE vO rfl (U HG) ho (lies_own (U HA)) (by simp[pmArr]) rfl (by simp[pmRows,hk])
  exact⟨rfl,⟨_,_,_,_,_,k1⟩,k2,k3⟩
theorem pmAside_any (B b tb:Nat) (vl:Value) (m:MS) (st:Int) (w:World) (h:PmE B w b tb vl m st) (q k c:Nat) (news:List Int) (hk:news.length=k) (hq:NumsAt w q news) (hlen:m.side.length≤2000∧k≤10) :
    Calls Tryz.prog 159 #[.pointer (some ⟨b,0,none⟩),.slice (some ⟨q,0,none⟩) k c] w (PmPost B w b tb vl { m with side:=m.side++news } st (.tuple #[])):=by
  obtain⟨i0,hi,hz0,hz1,hz2⟩:=info_parts Tryz.infoInt64
  obtain⟨vS,vA,vC,vE,vO,h⟩:=h
  obtain⟨aS,kS,hvS⟩:=own_shape h.oA
  subst hvS
  have hne:=h.off 1 _ rfl
  have hc:=h.blk.cell
  have hf:=h.blk.free
  unfold pmArr at hc
  have HO:=V h.oA
  have HB:=V h.blk
  unfold pmArr at HB
  have HS:=V h.size
  have HH:=V h
  have HQ:=V hq
  have HL:Hid ((intCells news).length=k * 1):=by show (intCells news).length=k * 1;rw[intCells_len,hk,Nat.mul_one]
  have HOC:=V (int_oneCell news)
  clear h hq
  go_enter Tryz.func159,Tryz.ntmps159
  go_wp2_with (at_builtin;refine wpList_append_own_at _ rfl (.tmp 8) (.tmp 9) 42 rfl B 2 i0 _ 1 8 Tryz.underlying42 hi hz0 hz1 hz2 rfl (by decide) (.slice aS m.side.length kS) m.side.length (intCells m.side) (by simp[Act.eval]) (U HO) ⟨q,0,none⟩ k c (intCells news) (by simp[Act.eval]) (U HL) (U HQ) (U HOC) (by unfold maxLen;omega) (by omega) (U HS) ?_;intro v5 w5 hown hgrow _ hat;obtain⟨a5,c5,hv5⟩:=own_shape hown;subst hv5;have hb5:=(U HB).grown hgrow hne;have hc5:=hb5.cell;have hf5:=hb5.free;have HOW:=V hown;have HG:=V hgrow;have HA:=V hat;clear hown hgrow hat hb5 hc hf)
  go_end0
  have ho:=U HOW
  rw[← intCells_app]at ho
  obtain⟨k1,k2,k3⟩:=(U HH).grow 1 10 _ (.slice a5 (m.side.length+k) c5) ⟨2,1,m.side.length+k,intCells (m.side++news)⟩ { m with side:=m.side++news } vS (.slice a5 (m.side.length+k) c5) vC vE vO rfl (U HG) ho (lies_own (U HA)) (by simp[pmArr]) rfl (by simp[pmRows,hk])
  exact⟨rfl,⟨_,_,_,_,_,k1⟩,k2,k3⟩
theorem pmTop_any (B b tb:Nat) (vl:Value) (m:MS) (st:Int) (w:World) (h:PmE B w b tb vl m st) (l:List Int) (x:Int) (he:m.side=l++[x]) (hs:m.side.length≤1000) :
    Calls Tryz.prog 161 #[.pointer (some ⟨b,0,none⟩)] w fun e w'=>e=.returned (.int .i64 x)∧Below w.heap.size w w':=by
  obtain⟨vS,vA,vC,vE,vO,h⟩:=h
  have hn:m.side.length=l.length+1:=by rw[he];simp
  obtain⟨g,k,rfl,hg,hgl⟩:=h.oA.form (by omega)
  have ho:=h.oA
  have hb:=h.blk
  unfold pmArr at hb
  rw[hn]at hb ho
  have hx:=own_cell ho l.length (by omega)
  rw[he,intCells_last]at hx
  have hsI:(l.length:Int)≤1000:=by omega
  have hk:(l.length:Int)+1≤k:=by have:=(own_cap ho).1;omega
  have hc:=hb.cell
  have hxl:=hb.lt
  clear hb ho h
  go_enter Tryz.func161,Tryz.ntmps161
  go_wp2_with fail
  go_region
  go_wp2_with fail
  go_ret
  exact⟨rfl,below_drew' (Below.refl _ _)⟩
theorem pmDrop_any (B b tb:Nat) (vl:Value) (m:MS) (st:Int) (w:World) (h:PmE B w b tb vl m st) (l r:List Int) (he:m.side=l++r) (hr:0<r.length) (hs:m.side.length≤1000) :
    Calls Tryz.prog 160 #[.pointer (some ⟨b,0,none⟩),.int .i64 r.length] w (PmPost B w b tb vl { m with side:=l } st (.tuple #[])):=by
  obtain⟨vS,vA,vC,vE,vO,h⟩:=h
  have hn:m.side.length=l.length+r.length:=by rw[he];simp
  obtain⟨g,k,rfl,hg,hgl⟩:=h.oA.form (by omega)
  have hown:=own_cut h.oA l.length (by omega)
  rw[he,intCells_take]at hown
  obtain⟨k1,k2,k3⟩:=h.grow 1 10 _ (.slice (some ⟨g,0,none⟩) l.length k) ⟨2,1,l.length,intCells l⟩ { m with side:=l } vS (.slice (some ⟨g,0,none⟩) l.length k) vC vE vO rfl (World.grownBy.refl _ _) hown (Or.inl rfl) (by simp[pmArr]) rfl (by simp[pmRows])
  have hk:(l.length:Int)+r.length≤k:=by have:=(own_cap h.oA).1;omega
  have hb:=h.blk
  unfold pmArr at hb
  rw[hn]at hb
  have hc:=hb.cell
  have hf:=hb.free
  have HK:=V (And.intro k1 (And.intro k2 k3))
  clear hb h hown k1 k2 k3
  generalize hln:l.length=n at *
  generalize hrn:r.length=rn at *
  have h1:(n:Int)≤1000:=by omega
  have h2:(rn:Int)≤1000:=by omega
  have hk2:(n:Int)≤k:=by omega
  have hwr:IntKind.i64.wrap ((n:Int)+rn-rn)=n:=by rw[IntKind.wrap_i64];omega
  have hsub:(n:Int)+rn-rn=n:=by omega
  have hnr:((n+rn:Nat):Int)=(n:Int)+rn:=by omega
  go_enter Tryz.func160,Tryz.ntmps160
  go_wp2_with fail
  go_region
  go_wp2_with fail
  go_end0
  obtain⟨k1,k2,k3⟩:=U HK
  exact⟨rfl,⟨_,_,_,_,_,k1.below (below_drew' (Below.refl _ _))⟩,k2,below_drew' k3⟩
theorem pmHas_any (B b tb:Nat) (vl:Value) (m:MS) (st:Int) (w:World) (h:PmE B w b tb vl m st) (k:Int) (hs:m.cells.length≤1000) :
    Calls Tryz.prog 167 #[.pointer (some ⟨b,0,none⟩),.int .i64 k] w fun e w'=>e=.returned (.bool (decide (0≤k)&&decide (k<m.cells.length)))∧w'=w:=by
  obtain⟨vS,vA,vC,vE,vO,h⟩:=h
  obtain⟨ao,c,hv⟩:=own_shape h.oE
  subst hv
  have hc:=h.blk.cell
  unfold pmArr at hc
  have hsI:(m.cells.length:Int)≤1000:=by omega
  have hwr:IntKind.i64.wrap (m.cells.length:Int)=m.cells.length:=by rw[IntKind.wrap_i64];omega
  clear h
  by_cases h0:0≤k
  · by_cases h1:k<m.cells.length
    · have e:(decide (0≤k)&&decide (k<(m.cells.length:Int)))=true:=by simp[h0,h1]
      rw[e]
      clear e
      go_enter Tryz.func167,Tryz.ntmps167
      go_wp2_with fail
      go_ret
      exact⟨rfl,rfl⟩
    · have e:(decide (0≤k)&&decide (k<(m.cells.length:Int)))=false:=by simp[h1]
      rw[e]
      clear e
      go_enter Tryz.func167,Tryz.ntmps167
      go_wp2_with fail
      go_ret
      exact⟨rfl,rfl⟩
  · have e:(decide (0≤k)&&decide (k<(m.cells.length:Int)))=false:=by simp[h0]
    rw[e]
    clear e
    go_enter Tryz.func167,Tryz.ntmps167
    go_wp2_with fail
    go_ret
    exact⟨rfl,rfl⟩
theorem isUnder_any (t g n:Int) (w:World) :
    Calls Tryz.prog 207 #[.agg #[.int .i64 t,.int .i64 g],.int .i64 n] w fun e w'=>e=.returned (.bool (decide (n<t)))∧w'=w.alloc (.cells #[.int .i64 t,.int .i64 g] 107):=by
  by_cases h:n<t
  · go_enter Tryz.func207,Tryz.ntmps207
    go_wp2_with fail
    go_ret
    exact⟨ret_bool (by simp[h]),rfl⟩
  · go_enter Tryz.func207,Tryz.ntmps207
    go_wp2_with fail
    go_ret
    exact⟨ret_bool (by simp[h]),rfl⟩
theorem isOver_any (t g n l:Int) (w:World) (hn:0≤n∧n≤2000) (ht:0≤t∧t≤10) (hg:0≤g∧g≤10) :
    Calls Tryz.prog 208 #[.agg #[.int .i64 t,.int .i64 g],.int .i64 n,.int .i64 l] w fun e w'=>e=.returned (.bool (decide (l<n-t+g)))∧w'=w.alloc (.cells #[.int .i64 t,.int .i64 g] 107):=by
  have h1:IntKind.i64.wrap (n-t)=n-t:=by rw[IntKind.wrap_i64];omega
  have h2:IntKind.i64.wrap (n-t+g)=n-t+g:=by rw[IntKind.wrap_i64];omega
  by_cases h:l<n-t+g
  · go_enter Tryz.func208,Tryz.ntmps208
    go_wp2_with fail
    go_ret
    exact⟨ret_bool (by simp[h]),rfl⟩
  · go_enter Tryz.func208,Tryz.ntmps208
    go_wp2_with fail
    go_ret
    exact⟨ret_bool (by simp[h]),rfl⟩
theorem Tryz.name207 : (Tryz.f207.name == "runtime.NumGoroutine") = false := by kernel_rfl
theorem Tryz.body207:Tryz.f207.body.isNone=false:=by kernel_rfl
theorem Tryz.name208 : (Tryz.f208.name == "runtime.NumGoroutine") = false := by kernel_rfl
theorem Tryz.body208:Tryz.f208.body.isNone=false:=by kernel_rfl
theorem below_more {a w:World} (h:Below a.heap.size a w) (o:Obj):Below a.heap.size a (w.alloc o):=h.alloc h.size o
def chkS (m:MS) (t1 g1 t2 g2:Int):Int :=
  if (m.stack.length:Int)<t1 then 7 else if m.ls<m.stack.length-t1+g1 then 8 else if (m.side.length:Int)<t2 then 9 else if m.la<m.side.length-t2+g2 then 10 else 0
structure EntryAt (w:World) (tb o:Nat) (t1 g1 t2 g2:Int) (f:Value):Prop where
  c0:w.cell? ⟨tb,o,none⟩=some (.int .i64 t1)
  c1:w.cell? ⟨tb,o+1,none⟩=some (.int .i64 g1)
  c2:w.cell? ⟨tb,o+2,none⟩=some (.int .i64 t2)
  c3:w.cell? ⟨tb,o+3,none⟩=some (.int .i64 g2)
  c4:w.cell? ⟨tb,o+4,none⟩=some f
  lt:tb<w.heap.size
theorem EntryAt.below {w w':World} {B tb o:Nat} {t1 g1 t2 g2:Int} {f:Value} (h:EntryAt w tb o t1 g1 t2 g2 f) (hb:Below B w w') (hB:tb<B):EntryAt w' tb o t1 g1 t2 g2 f :=
  ⟨by rw[hb.cell (by simpa using hB)];exact h.c0,by rw[hb.cell (by simpa using hB)];exact h.c1,by rw[hb.cell (by simpa using hB)];exact h.c2,by rw[hb.cell (by simpa using hB)];exact h.c3,by rw[hb.cell (by simpa using hB)];exact h.c4,by have:=hb.size;have:=h.lt;omega⟩
theorem pmCheck_any (B b tb o:Nat) (vl:Value) (m:MS) (st:Int) (w:World) (h:PmE B w b tb vl m st) (t1 g1 t2 g2:Int) (f:Value) (hE:EntryAt w tb o t1 g1 t2 g2 f) (ht:(0≤t1∧t1≤10)∧(0≤g1∧g1≤10)∧(0≤t2∧t2≤10)∧(0≤g2∧g2≤10)) (hs:m.stack.length≤1000∧m.side.length≤1000) :
    Calls Tryz.prog 170 #[.pointer (some ⟨b,0,none⟩),.pointer (some ⟨tb,o,none⟩)] w fun e w'=>e=.returned (.int .i64 (chkS m t1 g1 t2 g2))∧Below w.heap.size w w':=by
  obtain⟨vS,vA,vC,vE,vO,h⟩:=h
  obtain⟨aS,kS,hvS⟩:=own_shape h.oS
  obtain⟨aA,kA,hvA⟩:=own_shape h.oA
  subst hvS hvA
  have hc:=h.blk.cell
  unfold pmArr at hc
  have hbl:=h.blk.lt
  have HBK:=V h.blk
  unfold pmArr at HBK
  have HEN:=V hE
  have htl:=hE.lt
  clear hc
  generalize hS:m.stack.length=sL at *
  generalize hA:m.side.length=aL at *
  have hsI:(sL:Int)≤1000:=by omega
  have haI:(aL:Int)≤1000:=by omega
  have hU1:=fun W=>isUnder_any t1 g1 sL W
  have hU2:=fun W=>isUnder_any t2 g2 aL W
  have hO1:=fun W=>isOver_any t1 g1 sL m.ls W (by omega) ht.1 ht.2.1
  have hO2:=fun W=>isOver_any t2 g2 aL m.la W (by omega) ht.2.2.1 ht.2.2.2
  have HU1:=V hU1
  have HU2:=V hU2
  have HO1:=V hO1
  have HO2:=V hO2
  clear hU1 hU2 hO1 hO2 h hE
  have hchk:chkS m t1 g1 t2 g2=if (sL:Int)<t1 then 7 else if m.ls<(sL:Int)-t1+g1 then 8 else if (aL:Int)<t2 then 9 else if m.la<(aL:Int)-t2+g2 then 10 else 0:=by unfold chkS;rw[hS,hA]
  have HCK:=V hchk
  generalize chkS m t1 g1 t2 g2=r at *
  clear hS hA hchk
  have hbw0:=Below.refl w.heap.size w
  have hc:=((U HBK).below hbw0 hbl).cell
  obtain⟨c0,c1,c2,c3,_,htw⟩:=(U HEN).below hbw0 htl
  have hbw:=Nat.lt_of_lt_of_le hbl (hbw0).size
  go_enter Tryz.func170,Tryz.ntmps170
  go_wp2_with fail
  go_cut [5] from 6 to 59 (fun s5 wc=>s5=.bool (decide ((sL:Int)<t1))∧Below w.heap.size w wc)
  case first =>
    go_region_law (refine step_call rfl 207 #[.tmp 9,.tmp 14] #[107,3] rfl Tryz.func207 Tryz.name207 Tryz.body207 #[.agg #[.int .i64 t1,.int .i64 g1],.int .i64 sL] (by first|(simp[Act.eval];done)|(simp[Act.eval,Act.put];done)|rfl) (U HU1 _) ?_;rintro e w1 ⟨rfl,rfl⟩;refine⟨_,rfl,?_⟩)
    all_goals
      go_wp2_with fail
      go_meet
      exact⟨rfl,below_drew' (below_more hbw0 _)⟩
  case rest =>
    obtain⟨rfl,hbw1⟩:=hcut
    clear hc c0 c1 c2 c3 htw hbw
    by_cases q1:(sL:Int)<t1
    · rw[decide_eq_true q1]
      go_wp2_with fail
      go_ret
      exact⟨ret_int (by rw[U HCK];repeat (first|rw[if_neg (by omega)]|rw[if_pos (by omega)])),hbw1⟩
    rw[decide_eq_false q1]
    have hc:=((U HBK).below hbw1 hbl).cell
    obtain⟨c0,c1,c2,c3,_,htw⟩:=(U HEN).below hbw1 htl
    have hbw:=Nat.lt_of_lt_of_le hbl (hbw1).size
    go_wp2_with fail
    go_cut [16] from 17 to 59 (fun s5 wc=>s5=.bool (decide (m.ls<(sL:Int)-t1+g1))∧Below w.heap.size w wc)
    case first =>
      go_region_law (refine step_call rfl 208 #[.tmp 20,.tmp 25,.tmp 30] #[107,3,3] rfl Tryz.func208 Tryz.name208 Tryz.body208 #[.agg #[.int .i64 t1,.int .i64 g1],.int .i64 sL,.int .i64 m.ls] (by first|(simp[Act.eval];done)|(simp[Act.eval,Act.put];done)|rfl) (U HO1 _) ?_;rintro e w1 ⟨rfl,rfl⟩;refine⟨_,rfl,?_⟩)
      all_goals
        go_wp2_with fail
        go_meet
        exact⟨rfl,below_drew' (below_more hbw1 _)⟩
    case rest =>
      obtain⟨rfl,hbw2⟩:=hcut
      clear hc c0 c1 c2 c3 htw hbw
      by_cases q2:m.ls<(sL:Int)-t1+g1
      · rw[decide_eq_true q2]
        go_wp2_with fail
        go_ret
        exact⟨ret_int (by rw[U HCK];repeat (first|rw[if_neg (by omega)]|rw[if_pos (by omega)])),hbw2⟩
      rw[decide_eq_false q2]
      have hc:=((U HBK).below hbw2 hbl).cell
      obtain⟨c0,c1,c2,c3,_,htw⟩:=(U HEN).below hbw2 htl
      have hbw:=Nat.lt_of_lt_of_le hbl (hbw2).size
      go_wp2_with fail
      go_cut [32] from 33 to 59 (fun s5 wc=>s5=.bool (decide ((aL:Int)<t2))∧Below w.heap.size w wc)
      case first =>
        go_region_law (refine step_call rfl 207 #[.tmp 36,.tmp 41] #[107,3] rfl Tryz.func207 Tryz.name207 Tryz.body207 #[.agg #[.int .i64 t2,.int .i64 g2],.int .i64 aL] (by first|(simp[Act.eval];done)|(simp[Act.eval,Act.put];done)|rfl) (U HU2 _) ?_;rintro e w1 ⟨rfl,rfl⟩;refine⟨_,rfl,?_⟩)
        all_goals
          go_wp2_with fail
          go_meet
          exact⟨rfl,below_drew' (below_more hbw2 _)⟩
      case rest =>
        obtain⟨rfl,hbw3⟩:=hcut
        clear hc c0 c1 c2 c3 htw hbw
        by_cases q3:(aL:Int)<t2
        · rw[decide_eq_true q3]
          go_wp2_with fail
          go_ret
          exact⟨ret_int (by rw[U HCK];repeat (first|rw[if_neg (by omega)]|rw[if_pos (by omega)])),hbw3⟩
        rw[decide_eq_false q3]
        have hc:=((U HBK).below hbw3 hbl).cell
        obtain⟨c0,c1,c2,c3,_,htw⟩:=(U HEN).below hbw3 htl
        have hbw:=Nat.lt_of_lt_of_le hbl (hbw3).size
        go_wp2_with fail
        go_cut [43] from 44 to 59 (fun s5 wc=>s5=.bool (decide (m.la<(aL:Int)-t2+g2))∧Below w.heap.size w wc)
        case first =>
          go_region_law (refine step_call rfl 208 #[.tmp 47,.tmp 52,.tmp 57] #[107,3,3] rfl Tryz.func208 Tryz.name208 Tryz.body208 #[.agg #[.int .i64 t2,.int .i64 g2],.int .i64 aL,.int .i64 m.la] (by first|(simp[Act.eval];done)|(simp[Act.eval,Act.put];done)|rfl) (U HO2 _) ?_;rintro e w1 ⟨rfl,rfl⟩;refine⟨_,rfl,?_⟩)
          all_goals
            go_wp2_with fail
            go_meet
            exact⟨rfl,below_drew' (below_more hbw3 _)⟩
        case rest =>
          obtain⟨rfl,hbw4⟩:=hcut
          clear hc c0 c1 c2 c3 htw hbw
          by_cases q4:m.la<(aL:Int)-t2+g2
          · rw[decide_eq_true q4]
            go_wp2_with fail
            go_ret
            exact⟨ret_int (by rw[U HCK];repeat (first|rw[if_neg (by omega)]|rw[if_pos (by omega)])),hbw4⟩
          rw[decide_eq_false q4]
          go_wp2_with fail
          go_ret
          exact⟨ret_int (by rw[U HCK];repeat (first|rw[if_neg (by omega)]|rw[if_pos (by omega)])),hbw4⟩
def DeedPost (B:Nat) (w:World) (b tb:Nat) (vl:Value) (st:Int) (m:MS) (er:Int) (e:Ending) (w':World):Prop:=e=.returned (.int .i64 er)∧PmE B w' b tb vl m st∧KeepB w w'∧Below B w w'
theorem size_up' (w:World) (o:Obj):(w.alloc o).heap.size=w.heap.size+1:=by simp
theorem numsAt_box (w:World) (o:Obj) (x:Int) (T:TypeId):NumsAt ((w.alloc o).alloc (.cells #[.int .i64 x] T)) (w.heap.size+1) [x]:=by
  have:=NumsAt.new (w.alloc o) x T
  rw[size_up']at this
  exact this
theorem numsAt_box2 (w:World) (o:Obj) (x y:Int) (T:TypeId):NumsAt ((w.alloc o).alloc (.cells #[.int .i64 x,.int .i64 y] T)) (w.heap.size+1) [x,y]:=by
  have:=NumsAt.two (w.alloc o) x y T
  rw[size_up']at this
  exact this
theorem below_box (w:World) (o:Obj):Below w.heap.size w (w.alloc o):=(Below.refl _ _).alloc (Nat.le_refl _) _
theorem below_box2 (w:World) (o o':Obj):Below w.heap.size w ((w.alloc o).alloc o'):=below_more (below_box w o) _
theorem DeedPost.boxed {B:Nat} {w W:World} {b tb:Nat} {vl:Value} {st:Int} {m:MS} (o:Obj) (h:PmE B W b tb vl m st) (hk:KeepB w W) (hb:Below B w W):DeedPost B w b tb vl st m 0 (.returned (.int .i64 0)) (W.alloc o) :=
  ⟨rfl,h.below (below_box W o),hk.trans (KeepB.ofBelow (below_box W o)),hb.trans ((below_box W o).mono h.size)⟩
theorem PmPost.deed {B:Nat} {w w0 w':World} {b tb:Nat} {vl:Value} {st:Int} {m:MS} (hb:Below w.heap.size w w0) (hB:B≤w.heap.size) (h:PmE B w' b tb vl m st∧KeepB w0 w'∧Below B w0 w'):DeedPost B w b tb vl st m 0 (.returned (.int .i64 0)) w' :=
  ⟨rfl,h.1,(KeepB.ofBelow hb).trans h.2.1,(hb.mono hB).trans h.2.2⟩
theorem deed_lit (B b tb:Nat) (vl:Value) (m:MS) (st:Int) (w:World) (h:PmE B w b tb vl m st) (arg x0 x1 x2:Int) (hs:m.stack.length≤1000) :
    Calls Tryz.prog 91 #[.pointer (some ⟨b,0,none⟩),.int .i64 arg,.agg #[.int .i64 x0,.int .i64 x1,.int .i64 x2]] w (DeedPost B w b tb vl st { m with stack:=m.stack++[arg] } 0):=by
  have hb:=below_box2 w (.cells #[.int .i64 x0,.int .i64 x1,.int .i64 x2] 171) (.cells #[.int .i64 arg] 2)
  have HP:=V (pmPush_any B b tb vl m st _ (h.below hb) (w.heap.size+1) 1 1 [arg] rfl (numsAt_box _ _ _ _) (by omega))
  have HB:=V hb
  have hB:=h.size
  clear h hb
  go_enter Tryz.func91,Tryz.ntmps91
  go_wp2_with fail
  refine (U HP).mono ?_
  rintro e w1 ⟨rfl,h1⟩
  have H1:=V h1
  clear h1 HP
  go_wp2_with fail
  go_ret
  exact PmPost.deed (U HB) hB (U H1)
theorem deed_jump (B b tb:Nat) (vl:Value) (m:MS) (st:Int) (w:World) (h:PmE B w b tb vl m st) (arg x0 x1 x2:Int) :
    Calls Tryz.prog 92 #[.pointer (some ⟨b,0,none⟩),.int .i64 arg,.agg #[.int .i64 x0,.int .i64 x1,.int .i64 x2]] w (DeedPost B w b tb vl st { m with pc:=arg } 0):=by
  have hb:=below_box w (.cells #[.int .i64 x0,.int .i64 x1,.int .i64 x2] 171)
  have hB:=h.size
  have hlt:=h.lt
  obtain⟨vS,vA,vC,vE,vO,h0⟩:=h
  have h1:=h0.below hb
  have H0:=V h0
  have hc:=h1.blk.cell
  have hf:=h1.blk.free
  unfold pmArr at hc
  have HB:=V hb
  have hne:b≠w.heap.size:=by omega
  clear h0 h1 hb
  go_enter Tryz.func92,Tryz.ntmps92
  go_wp2_with fail
  go_ret
  obtain⟨k1,k2,k3⟩:=(U H0).field 6 (.int .i64 arg) { m with pc:=arg } st (by simp[pmArr]) rfl
  exact DeedPost.boxed _ ⟨_,_,_,_,_,k1⟩ k2 k3
theorem deed_jumpz (B b tb:Nat) (vl:Value) (m:MS) (st:Int) (w:World) (h:PmE B w b tb vl m st) (arg x0 x1 x2:Int) :
    Calls Tryz.prog 93 #[.pointer (some ⟨b,0,none⟩),.int .i64 arg,.agg #[.int .i64 x0,.int .i64 x1,.int .i64 x2]] w (DeedPost B w b tb vl st (if x0=0 then { m with pc:=arg } else m) 0):=by
  have hb:=below_box w (.cells #[.int .i64 x0,.int .i64 x1,.int .i64 x2] 171)
  have hB:=h.size
  have hlt:=h.lt
  have HE:=V (h.below hb)
  obtain⟨vS,vA,vC,vE,vO,h0⟩:=h
  have h1:=h0.below hb
  have H0:=V h0
  have hc:=h1.blk.cell
  have hf:=h1.blk.free
  unfold pmArr at hc
  have HB:=V hb
  have hne:b≠w.heap.size:=by omega
  clear h0 h1 hb
  by_cases hz:x0=0
  · rw[if_pos hz]
    subst hz
    go_enter Tryz.func93,Tryz.ntmps93
    go_wp2_with fail
    go_ret
    obtain⟨k1,k2,k3⟩:=(U H0).field 6 (.int .i64 arg) { m with pc:=arg } st (by simp[pmArr]) rfl
    exact DeedPost.boxed _ ⟨_,_,_,_,_,k1⟩ k2 k3
  · rw[if_neg hz]
    have hz':(x0 == 0)=false:=by simpa using hz
    go_enter Tryz.func93,Tryz.ntmps93
    go_wp2_with fail
    go_ret
    exact PmPost.deed (U HB) hB ⟨U HE,KeepB.refl _,Below.refl _ _⟩
theorem deed_halt (B b tb:Nat) (vl:Value) (m:MS) (st:Int) (w:World) (h:PmE B w b tb vl m st) (arg x0 x1 x2:Int) :
    Calls Tryz.prog 96 #[.pointer (some ⟨b,0,none⟩),.int .i64 arg,.agg #[.int .i64 x0,.int .i64 x1,.int .i64 x2]] w (DeedPost B w b tb vl st { m with halted:=true } 0):=by
  have hb:=below_box w (.cells #[.int .i64 x0,.int .i64 x1,.int .i64 x2] 171)
  have hB:=h.size
  have hlt:=h.lt
  obtain⟨vS,vA,vC,vE,vO,h0⟩:=h
  have h1:=h0.below hb
  have H0:=V h0
  have hc:=h1.blk.cell
  have hf:=h1.blk.free
  unfold pmArr at hc
  have HB:=V hb
  have hne:b≠w.heap.size:=by omega
  clear h0 h1 hb
  go_enter Tryz.func96,Tryz.ntmps96
  go_wp2_with fail
  go_ret
  obtain⟨k1,k2,k3⟩:=(U H0).field 8 (.bool true) { m with halted:=true } st (by simp[pmArr]) rfl
  exact DeedPost.boxed _ ⟨_,_,_,_,_,k1⟩ k2 k3
theorem deed_begin (B b tb:Nat) (vl:Value) (m:MS) (st:Int) (w:World) (h:PmE B w b tb vl m st) (arg x0 x1 x2:Int) (hs:m.side.length≤1000) :
    Calls Tryz.prog 97 #[.pointer (some ⟨b,0,none⟩),.int .i64 arg,.agg #[.int .i64 x0,.int .i64 x1,.int .i64 x2]] w (DeedPost B w b tb vl st { m with side:=m.side++[x0,x1] } 0):=by
  have hb:=below_box2 w (.cells #[.int .i64 x0,.int .i64 x1,.int .i64 x2] 171) (.cells #[.int .i64 x0,.int .i64 x1] 2)
  have HP:=V (pmAside_any B b tb vl m st _ (h.below hb) (w.heap.size+1) 2 2 [x0,x1] rfl (numsAt_box2 _ _ _ _ _) (by omega))
  have HB:=V hb
  have hB:=h.size
  clear h hb
  go_enter Tryz.func97,Tryz.ntmps97
  go_wp2_with fail
  refine (U HP).mono ?_
  rintro e w1 ⟨rfl,h1⟩
  have H1:=V h1
  clear h1 HP
  go_wp2_with fail
  go_ret
  exact PmPost.deed (U HB) hB (U H1)
theorem deed_lay (B b tb:Nat) (vl:Value) (m:MS) (st:Int) (w:World) (h:PmE B w b tb vl m st) (arg x0 x1 x2:Int) (hs:m.side.length≤1000) :
    Calls Tryz.prog 117 #[.pointer (some ⟨b,0,none⟩),.int .i64 arg,.agg #[.int .i64 x0,.int .i64 x1,.int .i64 x2]] w (DeedPost B w b tb vl st { m with side:=m.side++[x0] } 0):=by
  have hb:=below_box2 w (.cells #[.int .i64 x0,.int .i64 x1,.int .i64 x2] 171) (.cells #[.int .i64 x0] 2)
  have HP:=V (pmAside_any B b tb vl m st _ (h.below hb) (w.heap.size+1) 1 1 [x0] rfl (numsAt_box _ _ _ _) (by omega))
  have HB:=V hb
  have hB:=h.size
  clear h hb
  go_enter Tryz.func117,Tryz.ntmps117
  go_wp2_with fail
  refine (U HP).mono ?_
  rintro e w1 ⟨rfl,h1⟩
  have H1:=V h1
  clear h1 HP
  go_wp2_with fail
  go_ret
  exact PmPost.deed (U HB) hB (U H1)
theorem deed_look (B b tb:Nat) (vl:Value) (m:MS) (st:Int) (w:World) (h:PmE B w b tb vl m st) (arg x0 x1 x2:Int) (l:List Int) (y:Int) (he:m.side=l++[y]) (hs:m.stack.length≤1000∧m.side.length≤1000) :
    Calls Tryz.prog 99 #[.pointer (some ⟨b,0,none⟩),.int .i64 arg,.agg #[.int .i64 x0,.int .i64 x1,.int .i64 x2]] w (DeedPost B w b tb vl st { m with stack:=m.stack++[y] } 0):=by
  have hb:=below_box w (.cells #[.int .i64 x0,.int .i64 x1,.int .i64 x2] 171)
  have HT:=V (pmTop_any B b tb vl m st _ (h.below hb) l y he hs.2)
  have HP:Hid (∀ w1,Below w.heap.size w w1→Calls Tryz.prog 158 #[.pointer (some ⟨b,0,none⟩),.slice (some ⟨w1.heap.size,0,none⟩) 1 1] (w1.alloc (.cells #[.int .i64 y] 2)) (PmPost B (w1.alloc (.cells #[.int .i64 y] 2)) b tb vl { m with stack:=m.stack++[y] } st (.tuple #[]))):=fun w1 hw=>pmPush_any B b tb vl m st _ (h.below (below_more hw _)) _ 1 1 [y] rfl (NumsAt.new _ _ _) (by omega)
  have HB:=V hb
  have hB:=h.size
  clear h hb
  go_enter Tryz.func99,Tryz.ntmps99
  go_wp2_with fail
  refine (U HT).mono ?_
  rintro e w1 ⟨rfl,hb1⟩
  have hb2:Below w.heap.size w w1:=(U HB).trans (hb1.mono (by simp))
  have HB2:=V hb2
  have HP1:=V (U HP w1 hb2)
  clear hb1 hb2 HP HT
  go_wp2_with fail
  refine (U HP1).mono ?_
  rintro e w2 ⟨rfl,h1⟩
  have H1:=V h1
  clear h1 HP1
  go_wp2_with fail
  go_ret
  exact PmPost.deed (below_more (U HB2) _) hB (U H1)
theorem deed_back (B b tb:Nat) (vl:Value) (m:MS) (st:Int) (w:World) (h:PmE B w b tb vl m st) (arg x0 x1 x2:Int) (l:List Int) (y:Int) (he:m.side=l++[y]) (hs:m.stack.length≤1000∧m.side.length≤1000) :
    Calls Tryz.prog 118 #[.pointer (some ⟨b,0,none⟩),.int .i64 arg,.agg #[.int .i64 x0,.int .i64 x1,.int .i64 x2]] w (DeedPost B w b tb vl st { m with stack:=m.stack++[y],side:=l } 0):=by
  have hb:=below_box w (.cells #[.int .i64 x0,.int .i64 x1,.int .i64 x2] 171)
  have HT:=V (pmTop_any B b tb vl m st _ (h.below hb) l y he hs.2)
  have HP:Hid (∀ w1,Below w.heap.size w w1→Calls Tryz.prog 158 #[.pointer (some ⟨b,0,none⟩),.slice (some ⟨w1.heap.size,0,none⟩) 1 1] (w1.alloc (.cells #[.int .i64 y] 2)) (PmPost B (w1.alloc (.cells #[.int .i64 y] 2)) b tb vl { m with stack:=m.stack++[y] } st (.tuple #[]))):=fun w1 hw=>pmPush_any B b tb vl m st _ (h.below (below_more hw _)) _ 1 1 [y] rfl (NumsAt.new _ _ _) (by omega)
  have HD:Hid (∀ w1,PmE B w1 b tb vl { m with stack:=m.stack++[y] } st→Calls Tryz.prog 160 #[.pointer (some ⟨b,0,none⟩),.int .i64 1] w1 (PmPost B w1 b tb vl { m with stack:=m.stack++[y],side:=l } st (.tuple #[]))):=fun w1 h1=>pmDrop_any B b tb vl { m with stack:=m.stack++[y] } st w1 h1 l [y] he (by simp) hs.2
  have HB:=V hb
  have hB:=h.size
  clear h hb
  go_enter Tryz.func118,Tryz.ntmps118
  go_wp2_with fail
  refine (U HT).mono ?_
  rintro e w1 ⟨rfl,hb1⟩
  have hb2:Below w.heap.size w w1:=(U HB).trans (hb1.mono (by simp))
  have HB2:=V hb2
  have HP1:=V (U HP w1 hb2)
  clear hb1 hb2 HP HT
  go_wp2_with fail
  refine (U HP1).mono ?_
  rintro e w2 ⟨rfl,h1,h2,h3⟩
  have HD1:=V (U HD w2 h1)
  have H1:=V (And.intro h2 h3)
  clear h1 h2 h3 HP1 HD
  go_wp2_with fail
  refine (U HD1).mono ?_
  rintro e w3 ⟨rfl,h1,h2,h3⟩
  have H2:=V (And.intro h1 (And.intro h2 h3))
  clear h1 h2 h3 HD1
  go_wp2_with fail
  go_ret
  exact PmPost.deed (below_more (U HB2) _) hB ⟨(U H2).1,(U H1).1.trans (U H2).2.1,(U H1).2.trans (U H2).2.2⟩
def Gives (F:FuncId) (args:Array Value) (r:Int):Prop:=∀ W:World,Calls Tryz.prog F args W (fun e w'=>e=.returned (.int .i64 r)∧w'=W)
theorem gives_add (a b:Int):Gives 101 #[.int .i64 a,.int .i64 b] (twoS 9 a b):=by
  intro W
  go_enter Tryz.func101,Tryz.ntmps101
  go_wp2
  go_ret
  exact⟨rfl,rfl⟩
theorem gives_sub (a b:Int):Gives 102 #[.int .i64 a,.int .i64 b] (twoS 10 a b):=by
  intro W
  go_enter Tryz.func102,Tryz.ntmps102
  go_wp2
  go_ret
  exact⟨rfl,rfl⟩
theorem gives_mul (a b:Int):Gives 103 #[.int .i64 a,.int .i64 b] (twoS 11 a b):=by
  intro W
  go_enter Tryz.func103,Tryz.ntmps103
  go_wp2
  go_ret
  exact⟨rfl,rfl⟩
theorem gives_and (a b:Int):Gives 107 #[.int .i64 a,.int .i64 b] (twoS 14 a b):=by
  intro W
  go_enter Tryz.func107,Tryz.ntmps107
  go_wp2
  go_ret
  exact⟨rfl,rfl⟩
theorem gives_or (a b:Int):Gives 108 #[.int .i64 a,.int .i64 b] (twoS 15 a b):=by
  intro W
  go_enter Tryz.func108,Tryz.ntmps108
  go_wp2
  go_ret
  exact⟨rfl,rfl⟩
theorem gives_xor (a b:Int):Gives 109 #[.int .i64 a,.int .i64 b] (twoS 16 a b):=by
  intro W
  go_enter Tryz.func109,Tryz.ntmps109
  go_wp2
  go_ret
  exact⟨rfl,rfl⟩
theorem gives_negate (a:Int):Gives 112 #[.int .i64 a] (wrap64 (-a)):=by
  intro W
  go_enter Tryz.func112,Tryz.ntmps112
  go_wp2
  go_ret
  exact⟨rfl,rfl⟩
theorem flag_any (c:Bool):Gives 114 #[.bool c] (truthS c):=by
  intro W
  cases c
  all_goals
    go_enter Tryz.func114,Tryz.ntmps114
    go_wp2
    go_ret
    exact⟨rfl,rfl⟩
theorem gives_equal (a b:Int):Gives 113 #[.int .i64 a,.int .i64 b] (twoS 19 a b):=by
  intro W
  go_enter Tryz.func113,Tryz.ntmps113
  go_wp2_with (go_at_call 114;refine (flag_any _ _).mono ?_;rintro e w1 ⟨rfl,hw⟩;obtain rfl:=hw.symm;clear hw)
  all_goals (go_ret;refine⟨ret_int ?_,rfl⟩;simp_all [twoS,truthS])
theorem gives_less (a b:Int):Gives 115 #[.int .i64 a,.int .i64 b] (twoS 20 a b):=by
  intro W
  go_enter Tryz.func115,Tryz.ntmps115
  go_wp2_with (go_at_call 114;refine (flag_any _ _).mono ?_;rintro e w1 ⟨rfl,hw⟩;obtain rfl:=hw.symm;clear hw)
  all_goals (go_ret;refine⟨ret_int ?_,rfl⟩;simp_all [twoS,truthS])
end Go.Proofs.YtmeiikjpaepogaaGreatDoor
