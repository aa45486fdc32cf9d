/- The program's options: Fold, Super: blocks in memory. -/
import Derived.Test.YtmeiikjpaepogaaGreatDoorU30
import Derived.Test.YtmeiikjpaepogaaGreatDoorU34
set_option maxRecDepth 100000
set_option maxHeartbeats 16000000
namespace Go.Proofs.YtmeiikjpaepogaaGreatDoor
open Go Go.RowKit
abbrev Blo:=Nat×List (Int×Int)
def addLast (bs:List Blo) (x:Int×Int):List Blo:=match bs.getLast? with
  | some b=>bs.dropLast++[(b.1,b.2++[x])]
  | none=>bs
theorem addLast_snoc (bs:List Blo) (b:Blo) (x:Int×Int):addLast (bs++[b]) x=bs++[(b.1,b.2++[x])]:=by
  simp[addLast]
def blkStep (bs:List Blo) (b:Bool) (k:Nat) (x:Int×Int):List Blo:=addLast (if b=true then bs++[(k,[])] else bs) x
def blkTo (l:List (Int×Int)) (beg:List Bool):Nat→List Blo
  | 0=>[]
  | k + 1 => match l[k]? with
    | some x=>blkStep (blkTo l beg k) (beg.getD k false) k x
    | none=>blkTo l beg k
def blocksS (l:List (Int×Int)) (en:Nat):List Blo:=blkTo l (begS l en) l.length
theorem begTo_head (l:List (Int×Int)) (en k:Nat):(begTo l en k).getD 0 false=true:=by
  have set_head:∀ (b:List Bool) (j:Nat),b.getD 0 false=true→(b.set j true).getD 0 false=true:=by
    intro b j hb
    cases b with
    | nil=>simp at hb
    | cons x b =>
      cases j with
      | zero=>rfl
      | succ j=>simpa using hb
  induction k with
  | zero =>
    unfold begTo
    refine set_head _ _ ?_
    rw[List.replicate_succ]
    rfl
  | succ k ih =>
    unfold begTo
    split
    · unfold begStep
      simp only
      split<;>split
      · exact set_head _ _ (set_head _ _ ih)
      · exact set_head _ _ ih
      · exact set_head _ _ ih
      · exact ih
    · exact ih
theorem addLast_mem {bs:List Blo} {x:Int×Int} {b:Blo} (h:b∈addLast bs x):b∈bs∨∃ c∈bs,b=(c.1,c.2++[x]):=by
  rcases List.eq_nil_or_concat bs with rfl|⟨t,c,rfl⟩
  · simp[addLast]at h
  · rw[List.concat_eq_append]at h ⊢
    rw[addLast_snoc]at h
    rcases List.mem_append.1 h with h|h
    · exact Or.inl (by simp[h])
    · exact Or.inr ⟨c,by simp,by simpa using h⟩
theorem addLast_ne {bs:List Blo} {x:Int×Int} (hb:bs≠[]):addLast bs x≠[]∧(addLast bs x).flatMap (·.2)=bs.flatMap (·.2)++[x]∧∀ b∈addLast bs x,(b∈bs.dropLast)∨b.2≠[]:=by
  rcases List.eq_nil_or_concat bs with rfl|⟨t,c,rfl⟩
  · exact absurd rfl hb
  · rw[List.concat_eq_append,addLast_snoc]
    refine⟨by simp,by simp,fun b h=>?_⟩
    rcases List.mem_append.1 h with h|h
    · exact Or.inl (by simpa using h)
    · simp at h;subst h;exact Or.inr (by simp)
structure BlkFine (l:List (Int×Int)) (k:Nat) (bs:List Blo):Prop where
  flat:bs.flatMap (·.2)=l.take k
  full:∀ b∈bs,b.2≠[]
  low:∀ b∈bs,b.1<l.length
  some:0<k→bs≠[]
theorem blkTo_fine (l:List (Int×Int)) (beg:List Bool) (h0:beg.getD 0 false=true) (k:Nat) (hk:k≤l.length):BlkFine l k (blkTo l beg k):=by
  induction k with
  | zero=>exact⟨by simp[blkTo],by simp[blkTo],by simp[blkTo],by omega⟩
  | succ k ih =>
    have ih:=ih (by omega)
    obtain⟨x,hx⟩:∃ x,l[k]? = some x:=⟨_,List.getElem?_eq_getElem (by omega)⟩
    have e:blkTo l beg (k+1)=blkStep (blkTo l beg k) (beg.getD k false) k x:=by rw[blkTo,hx]
    rw[e]
    unfold blkStep
    have hne:(if beg.getD k false=true then blkTo l beg k++[(k,[])] else blkTo l beg k)≠[]:=by
      split
      · simp
      next hb =>
        cases k with
        | zero=>exact absurd h0 hb
        | succ k=>exact ih.some (by omega)
    obtain⟨a1,a2,a3⟩:=addLast_ne (x:=x) hne
    refine⟨?_,?_,?_,fun _=>a1⟩
    · rw[a2,List.take_add_one,hx]
      congr 1
      split<;>simp[ih.flat]
    · intro b hb
      rcases a3 b hb with h|h
      · refine ih.full b ?_
        revert h
        split
        · intro h;simpa using h
        · exact fun h=>List.dropLast_subset _ h
      · exact h
    · intro b hb
      rcases addLast_mem hb with h|⟨c,h,rfl⟩
      · revert h
        split
        · intro h
          rcases List.mem_append.1 h with h|h
          · exact ih.low b h
          · simp at h;subst h;simp;omega
        · exact ih.low b
      · simp only
        revert h
        split
        · intro h
          rcases List.mem_append.1 h with h|h
          · exact ih.low c h
          · simp at h;subst h;simp;omega
        · exact ih.low c
theorem BlkFine.len {l:List (Int×Int)} {k:Nat} {bs:List Blo} (h:BlkFine l k bs):bs.length≤k:=by
  have:∀ cs:List Blo,(∀ b∈cs,b.2≠[])→cs.length≤(cs.flatMap (·.2)).length:=by
    intro cs
    induction cs with
    | nil=>intro _;simp
    | cons b cs ih =>
      intro hf
      have h1:=ih (fun c hc=>hf c (by simp[hc]))
      have h2:=List.length_pos_iff.2 (hf b (by simp))
      rw[List.flatMap_cons,List.length_append,List.length_cons]
      omega
  have h1:=this bs h.full
  rw[h.flat,List.length_take]at h1
  omega
theorem BlkFine.row {l:List (Int×Int)} {k:Nat} {bs:List Blo} (h:BlkFine l k bs) {b:Blo} (hb:b∈bs):b.2.length≤k:=by
  have:∀ cs:List Blo,b∈cs→b.2.length≤(cs.flatMap (·.2)).length:=by
    intro cs
    induction cs with
    | nil=>intro h;simp at h
    | cons c cs ih =>
      intro hc
      rw[List.flatMap_cons,List.length_append]
      rcases List.mem_cons.1 hc with rfl|hc
      · omega
      · have:=ih hc;omega
  have h1:=this bs hb
  rw[h.flat,List.length_take]at h1
  omega
abbrev LBl:=Nat×Option Addr×Nat×List (Int×Int)
def LBl.blo (r:LBl):Blo:=(r.1,r.2.2.2)
def blkCells (rs:List LBl):List Value:=rs.flatMap (fun r=>[.int .i64 r.1,.slice r.2.1 r.2.2.2.length r.2.2.1])
theorem blkCells_app (a b:List LBl):blkCells (a++b)=blkCells a++blkCells b:=by
  unfold blkCells
  rw[List.flatMap_append]
theorem blkCells_at (l:List LBl) (i:Nat) (r:LBl) (h:l[i]? = some r) :
    (blkCells l)[i * 2]? = some (.int .i64 r.1)∧(blkCells l)[i * 2+1]? = some (.slice r.2.1 r.2.2.2.length r.2.2.1):=by
  induction l generalizing i with
  | nil=>simp at h
  | cons y l ih =>
    cases i with
    | zero=>simp at h;subst h;simp[blkCells]
    | succ i =>
      simp only[List.getElem?_cons_succ]at h
      have:=ih i h
      simp only[blkCells,List.flatMap_cons]at *
      have e1:(i+1) * 2=i * 2+2:=by omega
      rw[e1]
      exact this
theorem blk_set (l:List LBl) (k:Nat) (r:LBl) (hx:l[k]? = some r) (a:Option Addr) (c:Nat) (row:List (Int×Int)):(blkCells l).set (k * 2+1) (.slice a row.length c)=blkCells (l.set k (r.1,a,c,row)):=by
  induction l generalizing k with
  | nil=>simp at hx
  | cons y l ih =>
    cases k with
    | zero=>simp at hx;subst hx;rfl
    | succ k =>
      have e:(k+1) * 2=k * 2+1+1:=by omega
      rw[e]
      have:=ih k (by simpa using hx)
      unfold blkCells at this ⊢
      simp only[List.flatMap_cons,List.set_cons_succ]
      rw[← this]
      rfl
theorem oneCells_blk (f:Int) (a:Option Addr) (n c:Nat):∀ u∈[Value.int .i64 f,.slice a n c],u.oneCell'=true:=by
  intro u hu
  simp at hu
  rcases hu with rfl|rfl<;>rfl
theorem Tryz.infoBlock:(Tryz.prog.info? 161).map (fun i=>(i.zero,i.size,i.bytes))=some (some (.agg #[.int .i64 0,.slice none 0 0]),2,32):=by kernel_rfl
def RowAt (lg M:Nat) (w:World) (r:LBl):Prop:=r.2.2.2.length≤r.2.2.1∧(r.2.2.2=[]∨∃ g off,r.2.1=some ⟨g,off,none⟩∧g<M∧g≠lg∧∀ j u,(instrCells r.2.2.2)[j]? = some u→w.cell? ⟨g,off+j,none⟩=some u)
theorem RowAt.isIn {lg M:Nat} {w:World} {r:LBl} (h:RowAt lg M w r) (hM:M≤w.heap.size):InL w r.2.1 r.2.2.2:=by
  rcases h.2 with h|⟨g,off,h1,h2,h3,h4⟩
  · exact Or.inl h
  · exact Or.inr ⟨g,off,h1,by omega,h4⟩
theorem RowAt.below {lg M:Nat} {w w':World} {r:LBl} (h:RowAt lg M w r) (hb:Below M w w'):RowAt lg M w' r:=by
  refine⟨h.1,?_⟩
  rcases h.2 with h|⟨g,off,h1,h2,h3,h4⟩
  · exact Or.inl h
  · exact Or.inr ⟨g,off,h1,h2,h3,fun j u hj=>by rw[hb.cell h2];exact h4 j u hj⟩
theorem RowAt.up {lg M M':Nat} {w:World} {r:LBl} (h:RowAt lg M w r) (hM:M≤M'):RowAt lg M' w r:=by
  refine⟨h.1,?_⟩
  rcases h.2 with h|⟨g,off,h1,h2,h3,h4⟩
  · exact Or.inl h
  · exact Or.inr ⟨g,off,h1,by omega,h3,h4⟩
theorem RowAt.set {lg M:Nat} {w:World} {r:LBl} (h:RowAt lg M w r) (i:Nat) (u:Value):RowAt lg M (w.setCell ⟨lg,i,none⟩ u) r:=by
  refine⟨h.1,?_⟩
  rcases h.2 with h|⟨g,off,h1,h2,h3,h4⟩
  · exact Or.inl h
  · refine Or.inr ⟨g,off,h1,h2,h3,fun j x hj=>?_⟩
    have:=h4 j x hj
    unfold World.cell? at this ⊢
    rw[Below.heap_setCell _ _ _ _ h3]
    exact this
theorem RowAt.grown {lg lg' M:Nat} {w w':World} {r:LBl} (h:RowAt lg M w r) (hM:M≤w.heap.size) (hg:w.grownBy w' (some lg)) (hl:lg'=lg∨w.heap.size≤lg'):RowAt lg' M w' r:=by
  refine⟨h.1,?_⟩
  rcases h.2 with h|⟨g,off,h1,h2,h3,h4⟩
  · exact Or.inl h
  · refine Or.inr ⟨g,off,h1,h2,by omega,fun j x hj=>hg.cell (h4 j x hj) ?_⟩
    intro e
    exact h3 (Option.some.inj e)
theorem RowAt.ofIn {lg:Nat} {w:World} {f c:Nat} {ao:Option Addr} {row:List (Int×Int)} (h:InL w ao row) (hc:row.length≤c) (hne:∀ g off,ao=some ⟨g,off,none⟩→g≠lg):RowAt lg w.heap.size w (f,ao,c,row):=by
  refine⟨hc,?_⟩
  rcases h with h|⟨g,off,h1,h2,h3⟩
  · exact Or.inl h
  · exact Or.inr ⟨g,off,h1,h2,hne g off h1,h3⟩
theorem OwnI.cap {B:Nat} {w:World} {ao:Option Addr} {n c:Nat} {l:List (Int×Int)} (h:OwnI B w (.slice ao n c) l):l.length≤c:=by
  obtain⟨_,rfl⟩:=h.isIn
  rcases h.2 with ⟨_,e⟩|⟨g,cap,cur,e,_,_,hn,_⟩
  · omega
  · simp only[Value.slice.injEq]at e
    omega
theorem RowAt.ofOwn {lg M:Nat} {w:World} {f n c:Nat} {ao:Option Addr} {row:List (Int×Int)} (h:OwnI M w (.slice ao n c) row) (hl:lg<M):RowAt lg w.heap.size w (f,ao,c,row):=by
  refine RowAt.ofIn h.isIn.1 h.cap (fun g off e=>?_)
  subst e
  have:=(ownsRow_lt h (k:=g) rfl).2
  omega
def BlksAt (B:Nat) (w:World) (lg lc:Nat) (rs:List LBl):Prop:=w.ownsRow B 161 2 (.slice (some ⟨lg,0,none⟩) rs.length lc) rs.length (blkCells rs)∧∀ r∈rs,RowAt lg w.heap.size w r
theorem BlksAt.below {B:Nat} {w w':World} {lg lc:Nat} {rs:List LBl} (h:BlksAt B w lg lc rs) (hb:Below w.heap.size w w'):BlksAt B w' lg lc rs :=
  ⟨(LawStill.ofBelow hb).row h.1,fun r hr=>((h.2 r hr).below hb).up hb.size⟩
theorem BlksAt.lt {B:Nat} {w:World} {lg lc:Nat} {rs:List LBl} (h:BlksAt B w lg lc rs):lg<w.heap.size∧B≤lg:=ownsRow_lt h.1 (k:=lg) rfl
theorem BlksAt.base {B B':Nat} {w:World} {lg lc:Nat} {rs:List LBl} (h:BlksAt B w lg lc rs) (hb:B'≤B):BlksAt B' w lg lc rs:=⟨ownsRow_base h.1 hb,h.2⟩
theorem BlksAt.cells {B:Nat} {w:World} {lg lc:Nat} {rs:List LBl} (h:BlksAt B w lg lc rs) {k:Nat} {r:LBl} (hr:rs[k]? = some r) :
    w.cell? ⟨lg,k * 2,none⟩=some (.int .i64 r.1)∧w.cell? ⟨lg,k * 2+1,none⟩=some (.slice r.2.1 r.2.2.2.length r.2.2.1)∧InL w r.2.1 r.2.2.2∧r.2.2.2.length≤r.2.2.1:=by
  have hk:=(List.getElem?_eq_some_iff.1 hr).1
  obtain⟨e1,e2⟩:=blkCells_at rs k r hr
  refine⟨?_,?_,(h.2 r (List.mem_of_getElem? hr)).isIn (Nat.le_refl _),(h.2 r (List.mem_of_getElem? hr)).1⟩
  · rw[own_cell h.1 (k * 2) (by omega)];exact e1
  · rw[own_cell h.1 (k * 2+1) (by omega)];exact e2
theorem BlksAt.set {B:Nat} {w:World} {lg lc:Nat} {rs:List LBl} (h:BlksAt B w lg lc rs) {k:Nat} {r:LBl} (hr:rs[k]? = some r) (a:Option Addr) (c:Nat) (row:List (Int×Int)) (hin:InL w a row) (hcap:row.length≤c) (hne:∀ g off,a=some ⟨g,off,none⟩→g≠lg) :
    BlksAt B (w.setCell ⟨lg,k * 2+1,none⟩ (.slice a row.length c)) lg lc (rs.set k (r.1,a,c,row)):=by
  have hsz:(w.setCell ⟨lg,k * 2+1,none⟩ (.slice a row.length c)).heap.size=w.heap.size:=by simp[World.setCell]
  refine⟨?_,fun r' hr'=>?_⟩
  · have:=own_set h.1 (k * 2+1) (.slice a row.length c)
    rw[blk_set rs k r hr a c row]at this
    rw[List.length_set]
    exact this
  · rw[hsz]
    rcases List.mem_or_eq_of_mem_set hr' with h1|rfl
    · exact (h.2 r' h1).set _ _
    · exact (RowAt.ofIn hin hcap hne).set _ _
def sliceLen:Value→Nat
  | .slice _ n _=>n
  | _=>0
theorem OwnI.cut {B:Nat} {w:World} {g c:Nat} {l:List (Int×Int)} (h:OwnI B w (.slice (some ⟨g,0,none⟩) l.length c) l) (n:Nat) (hn:n≤l.length):OwnI B w (.slice (some ⟨g,0,none⟩) n c) (l.take n):=by
  have:=own_cut h n hn
  unfold OwnI
  have e:(l.take n).length=n:=by rw[List.length_take];omega
  have e2:instrCells (l.take n)=(instrCells l).take (n * 2):=by
    rw[instrCells_split l n,List.take_left' (by rw[instrCells_length,e])]
  rw[e,e2]
  exact this
theorem settledS_all (next:List (Int×Int)) (n m:Nat) (row:List (Int×Int)) (hn:row.length≤n) (hm:row.length≤m):settledS next n row=settledS next m row:=by
  induction n generalizing row m with
  | zero =>
    have:row=[]:=List.length_eq_zero_iff.1 (by omega)
    subst this
    cases m with
    | zero=>rfl
    | succ m=>unfold settledS;rfl
  | succ n ih =>
    cases m with
    | zero =>
      have:row=[]:=List.length_eq_zero_iff.1 (by omega)
      subst this
      unfold settledS
      rfl
    | succ m =>
      unfold settledS
      split
      next s size hs =>
        have h1:=shorterS_some hs
        have hl:(row.take (row.length-size)++s).length<row.length:=by rw[List.length_append,List.length_take];omega
        exact ih m _ (by omega) (by omega)
      · rfl
theorem settled_any (fb tb rb:Nat) (ao no:Option Addr) (c nc:Nat) (row next:List (Int×Int)) (w0 w:World) (hf:FolderAt w0 fb tb rb) (hb:Below w0.heap.size w0 w) (hrow:OwnI w0.heap.size w (.slice ao row.length c) row) (hnx:InL w0 no next) (hn:row.length≤100000) (hxl:next.length≤10) (hok:∀ x∈row,baseOk x) (hxo:∀ x∈next,baseOk x) :
    Calls Tryz.prog 204 #[.pointer (some ⟨fb,0,none⟩),.slice ao row.length c,.slice no next.length nc] w fun e w'=>∃ a c',e=.returned (.slice a (settledS next row.length row).length c')∧OwnI w0.heap.size w' (.slice a (settledS next row.length row).length c') (settledS next row.length row)∧Below w0.heap.size w0 w':=by
  generalize hres:settledS next row.length row=res
  have HRES:=V hres
  have HF:=V hf
  have HB:=V hb
  have HROW:=V hrow
  have HNX:=V hnx
  have HOK:=V hok
  have HXO:=V hxo
  obtain⟨m,hm⟩:∃ m,m=row.length:=⟨_,rfl⟩
  clear hres hf hb hrow hnx hok hxo
  go_enter Tryz.func204,Tryz.ntmps204
  go_wp2_with fail
  go_loopw [1] (fun v wr=>∃ (r:List (Int×Int)) (a:Option Addr) (c:Nat),v=.slice a r.length c∧OwnI w0.heap.size wr (.slice a r.length c) r∧r.length≤100000∧(∀ x∈r,baseOk x)∧settledS next r.length r=res∧Below w0.heap.size w0 wr) (fun v _=>sliceLen v)
  case atStart=>exact⟨row,ao,c,rfl,U HROW,hn,U HOK,U HRES,U HB⟩
  case round =>
    obtain⟨r,a,c1,rfl,hown,hrl,hrok,hrun,hbw⟩:=hrel
    have HSH:=V (shorter_any fb tb rb a no c1 nc r next wr ((U HF).below hbw) hown.isIn.1 hown.cap ((U HNX).below hbw) hrl hxl hrok (U HXO))
    have HOWN:=V hown
    have HROK:=V hrok
    have HRUN:=V hrun
    have HBW:=V hbw
    have HSO:=V (fun s n (h:shorterS r next=some (s,n))=>shorterS_some h)
    have HSK:=V (fun s n (h:shorterS r next=some (s,n))=>shorterS_ok hrok h)
    generalize hsh:shorterS r next=sh at *
    have HSHE:=V hsh
    clear hown hrok hrun hbw hsh
    go_wp2_with fail
    refine (U HSH).mono ?_
    rintro e w1 ⟨hout,hb1⟩
    cases sh with
    | none =>
      have hout:e=.returned (.tuple #[.slice none 0 0,.int .i64 0]):=hout
      subst hout
      have HB1:=V hb1
      clear hb1 HSH
      go_wp2_with fail
      go_ret
      have hr0:settledS next r.length r=r:=by
        cases r.length with
        | zero=>rfl
        | succ n=>rw[settledS,U HSHE]
      have hrr:r=res:=hr0.symm.trans (U HRUN)
      refine⟨a,c1,by rw[← hrr];rfl,?_,(U HBW).trans ((U HB1).mono (U HBW).size)⟩
      rw[← hrr]
      exact (U HOWN).below (U HB1)
    | some q =>
      obtain⟨s,n⟩:=q
      obtain⟨a2,c2,rfl,hs⟩:∃ a c,e=.returned (.tuple #[.slice a s.length c,.int .i64 n])∧OwnI wr.heap.size w1 (.slice a s.length c) s:=hout
      obtain⟨hs1,hs2,hs3⟩:=U HSO s n rfl
      obtain⟨g,cg,e3,_,_⟩:=World.ownsRow.form (U HOWN) (by omega)
      simp only[Value.slice.injEq,true_and]at e3
      obtain⟨rfl,rfl⟩:=e3
      have HO1:=V ((OwnI.cut (U HOWN) (r.length-n) (by omega)).below hb1)
      have HIS:=V hs.isIn.1
      have HB1:Hid (Below w0.heap.size w0 w1):=(U HBW).trans (hb1.mono (U HBW).size)
      have hcap:=(U HOWN).cap
      have hcapI:(r.length:Int)≤c1:=by omega
      have hn0:((n:Int) == 0)=false:=by simp;omega
      have hnI:(n:Int)≤r.length:=by omega
      have hrlI:(r.length:Int)≤100000:=by omega
      have hsub:IntKind.i64.wrap ((r.length:Int)-n)=((r.length-n:Nat):Int):=by rw[IntKind.wrap_i64];omega
      have hsl:s.length≤100000:=by omega
      have HLT:Hid ((r.take (r.length-n)).length=r.length-n):=V (by rw[List.length_take];omega)
      have HSO2:=V (U HSK s n rfl)
      clear hs hb1 HSH
      obtain⟨q,hq⟩:∃ q,q=r.length-n:=⟨_,rfl⟩
      rw[← hq]at HO1 hsub HLT
      have hqI:(q:Int)≤c1:=by omega
      have hq0:(0:Int)≤q:=by omega
      have HQ:=V hq
      go_wp2_with (at_builtin;refine wpList_appI rfl (.tmp 24) (.tmp 25) rfl w0.heap.size w0 _ (r.take q) s a2 c2 (by simp[Act.eval,hq]) (by simp[Act.eval]) (U HO1) (U HIS) (by rw[U HLT];omega) (U HB1) (U HB1).size _ rfl ?_;intro a3 c3 w3 HO3 HB3)
      go_roundw
      case rel =>
        have hq:=U HQ
        have hl:(r.take q++s).length<r.length:=by rw[List.length_append,U HLT];omega
        refine⟨r.take q++s,a3,c3,by rw[List.length_append,U HLT,hq],U HO3,by omega,fun x hx=>?_,?_,U HB3⟩
        · rcases List.mem_append.1 hx with h|h
          · exact U HROK x (List.mem_of_mem_take h)
          · exact U HSO2 x h
        · rw[← U HRUN]
          obtain⟨k,hk⟩:∃ k,r.length=k+1:=⟨r.length-1,by omega⟩
          rw[hk]
          conv=>rhs;unfold settledS
          rw[U HSHE]
          simp only
          rw[← U HQ]
          exact settledS_all next _ _ _ (Nat.le_refl _) (by omega)
      case measure =>
        simp only[sliceLen]
        have hq:=U HQ
        first
        | omega
        | (rw[List.length_append,U HLT];omega)
theorem foldedRow_any (fb tb rb:Nat) (ao:Option Addr) (c:Nat) (row:List (Int×Int)) (w:World) (hf:FolderAt w fb tb rb) (hin:InL w ao row) (hn:row.length≤100000) (hcap:row.length≤c) (hok:∀ x∈row,baseOk x) :
    Calls Tryz.prog 154 #[.pointer (some ⟨fb,0,none⟩),.slice ao row.length c] w (RowOut w (doneTo row row.length)):=by
  have hnI:(row.length:Int)≤100000:=by omega
  have hcapI:(row.length:Int)≤c:=by omega
  have HF:=V hf
  have HIN:=V hin
  have HOK:=V hok
  clear hf hin hok
  go_enter Tryz.func154,Tryz.ntmps154
  go_wp2_with fail
  go_loopw [5,11] (fun v i wr=>∃ (k:Nat) (a:Option Addr) (c:Nat),i=.int .i64 k∧v=.slice a (doneTo row k).length c∧OwnI w.heap.size wr (.slice a (doneTo row k).length c) (doneTo row k)∧k≤row.length∧Below w.heap.size w wr) (fun _ i _=>row.length-(intOf i).toNat)
  case atStart=>exact⟨0,none,0,rfl,rfl,World.ownsRow_nil _ _ _ _,Nat.zero_le _,Below.refl _ _⟩
  case round =>
    obtain⟨k,a,c1,rfl,rfl,hown,hk,hbw⟩:=hrel
    have HOWN:=V hown
    have HBW:=V hbw
    by_cases hlt:k<row.length
    · obtain⟨x,hx⟩:∃ x,row[k]? = some x:=⟨_,List.getElem?_eq_getElem hlt⟩
      obtain⟨g,off,rfl,hgl,d1,d2⟩:=in_at ((U HIN).below hbw) hx
      have hltI:(k:Int)<row.length:=by omega
      have HNXT:Hid (doneTo row (k+1)=settledS ((row.drop (k+1)).take 1) ((doneTo row k).length+1) (doneTo row k++[x])):=by
        show doneTo row (k+1)=_
        rw[doneTo,hx]
      have hdl:=doneTo_len row k
      have hdo:=doneTo_ok row (U HOK) k
      have hxo:=U HOK x (List.mem_of_getElem? hx)
      obtain⟨x1,x2⟩:=x
      simp only at d1 d2
      generalize doneTo row k=dn at *
      have hb2:=below_box2 wr (.cells #[.int .i64 x1,.int .i64 x2] 65) (.cells #[.int .i64 x1,.int .i64 x2] 65)
      have HOW2:=V (hown.below hb2)
      have HIX:Hid (InL ((wr.alloc (.cells #[.int .i64 x1,.int .i64 x2] 65)).alloc (.cells #[.int .i64 x1,.int .i64 x2] 65)) (some ⟨wr.heap.size+1,0,none⟩) [(x1,x2)]):=by
        have hbx:=blk_two wr (.cells #[.int .i64 x1,.int .i64 x2] 65) #[.int .i64 x1,.int .i64 x2] 65
        refine Or.inr ⟨wr.heap.size+1,0,rfl,hbx.lt,fun j u hj=>?_⟩
        rw[hbx.cell,Nat.zero_add]
        simpa [instrCells] using hj
      have HBW2:Hid (Below w.heap.size w ((wr.alloc (.cells #[.int .i64 x1,.int .i64 x2] 65)).alloc (.cells #[.int .i64 x1,.int .i64 x2] 65))):=hbw.trans (hb2.mono hbw.size)
      have hbx:=Blk.new wr #[.int .i64 x1,.int .i64 x2] 65
      have hcx:=hbx.cell
      have hlx:=hbx.lt
      have HSET:Hid (∀ (no:Option Addr) (nc:Nat) (next:List (Int×Int)) (W:World) (a3:Option Addr) (c3:Nat),next=(row.drop (k+1)).take 1→InL w no next→Below w.heap.size w W→OwnI w.heap.size W (.slice a3 (dn++[(x1,x2)]).length c3) (dn++[(x1,x2)])→Calls Tryz.prog 204 #[.pointer (some ⟨fb,0,none⟩),.slice a3 (dn++[(x1,x2)]).length c3,.slice no next.length nc] W fun e w'=>∃ a c',e=.returned (.slice a (doneTo row (k+1)).length c')∧OwnI w.heap.size w' (.slice a (doneTo row (k+1)).length c') (doneTo row (k+1))∧Below w.heap.size w w'):=fun no nc next W a3 c3 hnx hin2 hW ho=>by
        have hl:(dn++[(x1,x2)]).length=dn.length+1:=by simp
        have:=settled_any fb tb rb a3 no c3 nc (dn++[(x1,x2)]) next w W (U HF) hW ho hin2 (by omega) (by rw[hnx,List.length_take];omega) (fun y hy=>by
          rcases List.mem_append.1 hy with h|h
          · exact hdo y h
          · simp at h;subst h;exact hxo) (fun y hy=>by
          rw[hnx]at hy
          exact U HOK y (List.mem_of_mem_drop (List.mem_of_mem_take hy)))
        rw[hl,hnx]at this
        rw[U HNXT]
        rw[hl,hnx]
        exact this
      have hk1:IntKind.i64.wrap ((k:Int)+1)=(k:Int)+1:=by rw[IntKind.wrap_i64];omega
      have hk2:IntKind.i64.wrap ((k:Int)+2)=(k:Int)+2:=by rw[IntKind.wrap_i64];omega
      clear hown hbw hb2 hbx hdo hxo
      by_cases hend:k+1<row.length
      · have hmin:min ((k:Int)+2) (row.length:Int)=(k:Int)+2:=by omega
        have hendI:(k:Int)+1<row.length:=by omega
        have hk2c:(k:Int)+2≤c:=by omega
        obtain⟨y,hy⟩:∃ y,row[k+1]? = some y:=⟨_,List.getElem?_eq_getElem hend⟩
        have HNE:Hid ([y]=(row.drop (k+1)).take 1):=by
          show [y]=_
          rw[List.take_one,List.head?_drop,hy]
          rfl
        have HIN2:Hid (InL w (some ⟨g,off+(k+1) * 2,none⟩) [y]):=by
          show InL _ _ _
          rw[U HNE]
          exact ((U HIN).drop (k+1)).take 1
        go_wp2_with (at_builtin;refine wpList_appI rfl (.tmp 26) (.tmp 28) rfl w.heap.size w _ dn [(x1,x2)] (some ⟨wr.heap.size+1,0,none⟩) 1 (by simp[Act.eval]) (by simp[Act.eval]) (U HOW2) (U HIX) (by simp;omega) (U HBW2) (U HBW2).size _ rfl ?_;intro a3 c3 w3 HO3 HB3)
        have hl:(dn++[(x1,x2)]).length=dn.length+1:=by simp
        have hl1:[y].length=1:=rfl
        have HC:=V (U HSET (some ⟨g,off+(k+1) * 2,none⟩) (c-(k+1)) [y] w3 a3 c3 (U HNE) (U HIN2) (U HB3) (U HO3))
        rw[hl,hl1]at HC
        refine (U HC).mono ?_
        rintro e w4 ⟨a4,c4,rfl,ho4,hb4⟩
        have HO4:=V ho4
        have HB4:=V hb4
        clear ho4 hb4 HC hl hl1
        go_wp2_with fail
        go_roundw
        case rel=>exact⟨k+1,a4,c4,by go_num,rfl,U HO4,by omega,U HB4⟩
        case measure=>simp[intOf];omega
      · have hmin:min ((k:Int)+2) (row.length:Int)=(k:Int)+1:=by omega
        have hk1c:(k:Int)+1≤c:=by omega
        have HNE:Hid (([]:List (Int×Int))=(row.drop (k+1)).take 1):=by
          show _=_
          rw[List.drop_of_length_le (by omega)]
          rfl
        obtain⟨ad,had⟩:∃ ad,(if c=k+1 then (some ⟨g,off,none⟩:Option Addr) else some ⟨g,off+(k+1) * 2,none⟩)=ad:=⟨_,rfl⟩
        go_wp2_with (at_builtin;refine wpList_appI rfl (.tmp 26) (.tmp 28) rfl w.heap.size w _ dn [(x1,x2)] (some ⟨wr.heap.size+1,0,none⟩) 1 (by simp[Act.eval]) (by simp[Act.eval]) (U HOW2) (U HIX) (by simp;omega) (U HBW2) (U HBW2).size _ rfl ?_;intro a3 c3 w3 HO3 HB3)
        have hl:(dn++[(x1,x2)]).length=dn.length+1:=by simp
        have hl1:([]:List (Int×Int)).length=0:=rfl
        have HC:=V (U HSET ad (c-(k+1)) [] w3 a3 c3 (U HNE) (Or.inl rfl) (U HB3) (U HO3))
        rw[hl,hl1]at HC
        refine (U HC).mono ?_
        rintro e w4 ⟨a4,c4,rfl,ho4,hb4⟩
        have HO4:=V ho4
        have HB4:=V hb4
        clear ho4 hb4 HC hl hl1
        go_wp2_with fail
        go_roundw
        case rel=>exact⟨k+1,a4,c4,by go_num,rfl,U HO4,by omega,U HB4⟩
        case measure=>simp[intOf];omega
    · have hkk:k=row.length:=by omega
      subst hkk
      clear hown hbw
      go_wp2_with fail
      go_ret
      exact⟨a,c1,rfl,U HOWN,U HBW⟩
structure BlR (B M:Nat) (w:World) (lg lc n:Nat) (rs:List LBl) (f:Nat) (a:Option Addr) (c:Nat) (row:List (Int×Int)):Prop where
  own:w.ownsRow B 161 2 (.slice (some ⟨lg,0,none⟩) (n+1) lc) (n+1) (blkCells (rs++[(f,a,c,row)]))
  rows:∀ r∈rs,RowAt lg M w r
  last:OwnI M w (.slice a row.length c) row
  low:lg<M
  size:M≤w.heap.size
  num:n=rs.length
def BlRun (B:Nat) (w:World) (lv:Value) (bs:List Blo):Prop:=(bs=[]∧lv=.slice none 0 0)∨∃ M lg lc n rs f a c row,lv=.slice (some ⟨lg,0,none⟩) (n+1) lc∧BlR B M w lg lc n rs f a c row∧rs.map LBl.blo++[(f,row)]=bs
theorem BlRun.ofR {B M:Nat} {w:World} {lg lc n:Nat} {rs:List LBl} {f:Nat} {a:Option Addr} {c:Nat} {row:List (Int×Int)} {bs:List Blo} (h:BlR B M w lg lc n rs f a c row) (hb:rs.map LBl.blo++[(f,row)]=bs):BlRun B w (.slice (some ⟨lg,0,none⟩) (n+1) lc) bs:=Or.inr ⟨M,lg,lc,n,rs,f,a,c,row,rfl,h,hb⟩
theorem BlRun.row {B:Nat} {w:World} {lv:Value} {bs:List Blo} (h:BlRun B w lv bs):∃ a n c cells,lv=.slice a n c∧n=bs.length∧w.ownsRow B 161 2 (.slice a n c) n cells:=by
  rcases h with ⟨rfl,rfl⟩|⟨M,lg,lc,n,rs,f,a,c,row,rfl,h,rfl⟩
  · exact⟨none,0,0,[],rfl,rfl,World.ownsRow_nil _ _ _ _⟩
  · exact⟨_,_,_,_,rfl,by rw[List.length_append,List.length_map,← h.num];rfl,h.own⟩
theorem BlR.next {B M:Nat} {W W2 w3:World} {lg lc n:Nat} {rs:List LBl} {f:Nat} {a:Option Addr} {c:Nat} {row:List (Int×Int)} (h:BlR B M W lg lc n rs f a c row) (x1 x2:Int) {o:Obj} (hb:Below B W2 W) (hB:B≤M)
    {g3 cap3:Nat} (hg:(W.alloc o).drew.grownBy w3 (Value.slice a row.length c).ownBlock) (ho:w3.ownsRow M 65 2 (.slice (some ⟨g3,0,none⟩) (row.length+1) cap3) (row.length+1) (instrCells row++[.int .i64 x1,.int .i64 x2])) :
    BlR B M (w3.setCell ⟨lg,n * 2+1,none⟩ (.slice (some ⟨g3,0,none⟩) (row.length+1) cap3)) lg lc n rs f (some ⟨g3,0,none⟩) cap3 (row++[(x1,x2)])∧Below B W2 (w3.setCell ⟨lg,n * 2+1,none⟩ (.slice (some ⟨g3,0,none⟩) (row.length+1) cap3)):=by
  have hM:=h.size
  have hlow:=h.low
  have b0:Below M W (W.alloc o).drew:=below_drew' ((below_box W o).mono h.size)
  have hs0:M≤(W.alloc o).drew.heap.size:=Nat.le_trans h.size b0.size
  have b1:Below M W w3:=b0.grown hg hs0 (fun j hj=>(ownsRow_lt h.last hj).2)
  have hown3:w3.ownsRow B 161 2 (.slice (some ⟨lg,0,none⟩) (n+1) lc) (n+1) (blkCells (rs++[(f,a,c,row)])):=ownsRow_of_block h.own (fun k e _=>b1.block k (by
    have:k=lg:=(Option.some.inj e).symm
    omega))
  have hBl:=(ownsRow_lt h.own (k:=lg) rfl).2
  refine⟨⟨?_,fun r hr=>((h.rows r hr).below b1).set _ _,?_,h.low,?_,h.num⟩,?_⟩
  · have hat:(rs++[(f,a,c,row)])[n]? = some (f,a,c,row):=by rw[h.num];simp
    have:=own_set hown3 (n * 2+1) (.slice (some ⟨g3,0,none⟩) (row.length+1) cap3)
    have e:=blk_set (rs++[(f,a,c,row)]) n _ hat (some ⟨g3,0,none⟩) cap3 (row++[(x1,x2)])
    have el:(row++[(x1,x2)]).length=row.length+1:=by simp
    rw[el]at e
    rw[e]at this
    have e2:(rs++[(f,a,c,row)]).set n (f,some ⟨g3,0,none⟩,cap3,row++[(x1,x2)])=rs++[(f,some ⟨g3,0,none⟩,cap3,row++[(x1,x2)])]:=by rw[h.num];simp
    simp only at this
    rw[e2]at this
    exact this
  · unfold OwnI
    have el:(row++[(x1,x2)]).length=row.length+1:=by simp
    rw[el,instr_app]
    exact ownsRow_setCell_below ho (by simpa using h.low) _
  · have:=b1.size
    simp[World.setCell]
    omega
  · exact (hb.trans (b1.mono hB)).setCell hBl _
theorem BlRun.begin {B:Nat} {W W2 w5:World} {lv:Value} {bs:List Blo} (h:BlRun B W lv bs) {o:Obj} (hb:Below B W2 W) (hB:B≤W.heap.size) {n:Nat} {cells:List Value} (hn:n=bs.length) (hcells:W.ownsRow B 161 2 lv n cells) (k:Nat)
    {g5 cap5:Nat} (hg:(W.alloc o).grownBy w5 lv.ownBlock) (ho:w5.ownsRow B 161 2 (.slice (some ⟨g5,0,none⟩) (n+1) cap5) (n+1) (cells++[.int .i64 k,.slice none 0 0])) (hat:lv.ownBlock=some g5∨g5=(W.alloc o).heap.size) (hlt:g5<w5.heap.size) :
    ∃ rs,BlR B w5.heap.size w5 g5 cap5 n rs k none 0 []∧rs.map LBl.blo=bs∧Below B W2 w5:=by
  have hbel:Below B W2 w5:=(hb.trans ((below_box W o).mono hB)).grown hg (Nat.le_trans hB (below_box W o).size) (fun j hj=>(ownsRow_lt hcells hj).2)
  have hnil:OwnI w5.heap.size w5 (.slice none ([]:List (Int×Int)).length 0) []:=World.ownsRow_nil _ _ _ _
  rcases h with ⟨rfl,rfl⟩|⟨M,lg,lc,m,rs,f,a,c,row,rfl,h,rfl⟩
  · refine⟨[],⟨?_,by simp,hnil,hlt,Nat.le_refl _,by simpa using hn⟩,rfl,hbel⟩
    have e:cells=[]:=by
      have:=hcells.1
      simp at hn
      subst hn
      exact List.length_eq_zero_iff.1 (by omega)
    subst e
    exact ho
  · have hnm:n=m+1:=by rw[hn,List.length_append,List.length_map,← h.num];rfl
    subst hnm
    have e:cells=blkCells (rs++[(f,a,c,row)]):=by
      rcases hcells.2 with ⟨e1,_⟩|⟨g1,cap1,cur1,e1,_,h1,_,_,_,t1⟩
      · simp at e1
      · rcases h.own.2 with ⟨e2,_⟩|⟨g2,cap2,cur2,e2,_,h2,_,_,_,t2⟩
        · simp at e2
        · simp only[Value.slice.injEq,Option.some.injEq,Addr.mk.injEq,and_true,true_and]at e1 e2
          obtain⟨rfl,rfl⟩:=e1
          obtain⟨rfl,rfl⟩:=e2
          rw[h1]at h2
          simp only[Option.some.injEq,Obj.cells.injEq,and_true]at h2
          rw[← t1,← t2,h2]
    subst e
    have hsz:=below_box W o
    have hal:∀ r∈rs++[(f,a,c,row)],RowAt lg W.heap.size W r:=by
      intro r hr
      rcases List.mem_append.1 hr with h1|h1
      · exact (h.rows r h1).up h.size
      · simp at h1
        subst h1
        exact RowAt.ofOwn h.last h.low
    refine⟨rs++[(f,a,c,row)],⟨?_,fun r hr=>?_,hnil,hlt,Nat.le_refl _,by rw[List.length_append,← h.num];rfl⟩,by rw[List.map_append];rfl,hbel⟩
    · rw[blkCells_app]
      exact ho
    · refine (RowAt.grown (lg':=g5) (((hal r hr).below hsz)) hsz.size hg ?_).up (Nat.le_trans hsz.size hg.size)
      rcases hat with h1|h1
      · exact Or.inl (Option.some.inj h1).symm
      · exact Or.inr (by omega)
theorem BlRun.done {B:Nat} {w:World} {lv:Value} {bs:List Blo} (h:BlRun B w lv bs) (hne:bs≠[]):∃ lg lc rs,lv=.slice (some ⟨lg,0,none⟩) rs.length lc∧BlksAt B w lg lc rs∧rs.map LBl.blo=bs:=by
  rcases h with ⟨rfl,_⟩|⟨M,lg,lc,n,rs,f,a,c,row,rfl,h,rfl⟩
  · exact absurd rfl hne
  · have el:(rs++[(f,a,c,row)]).length=n+1:=by rw[List.length_append,← h.num];rfl
    refine⟨lg,lc,rs++[(f,a,c,row)],by rw[el],⟨by rw[el];exact h.own,fun r hr=>?_⟩,by rw[List.map_append];rfl⟩
    rcases List.mem_append.1 hr with h1|h1
    · exact (h.rows r h1).up h.size
    · simp at h1
      subst h1
      exact RowAt.ofOwn h.last h.low
end Go.Proofs.YtmeiikjpaepogaaGreatDoor
