/- The statements' holds: marks. -/
import Derived.Test.YtmeiikjpaepogaaGreatDoorE01
import Derived.Deep.CutRange
import Derived.Test.YtmeiikjpaepogaaGreatDoorE02
import Derived.Test.YtmeiikjpaepogaaGreatDoorE03
import Derived.Test.YtmeiikjpaepogaaGreatDoorE06
namespace Go.Proofs.YtmeiikjpaepogaaGreatDoor
open Go Go.RowKit
theorem own_set {w:World} {base:Nat} {e:TypeId} {size:Nat} {g n cap:Nat} {xs:List Value} (h:w.ownsRow base e size (.slice (some ⟨g,0,none⟩) n cap) n xs) (j:Nat) (u:Value):(w.setCell ⟨g,j,none⟩ u).ownsRow base e size (.slice (some ⟨g,0,none⟩) n cap) n (xs.set j u):=by
  have ho:Owned base w [] [.slice (some ⟨g,0,none⟩) n cap] [⟨e,size,n,xs⟩]:=by
    refine⟨?_,?_,fun _ _ _ _ hb=>by simp at hb,rfl⟩
    · intro i v s hv hs
      match i,(List.getElem?_eq_some_iff.1 hv).1 with
      | 0,_=>simp at hv hs;subst hv hs;exact h
    · intro i j v v' k hv hv' _ _
      have h1:=(List.getElem?_eq_some_iff.1 hv).1
      have h2:=(List.getElem?_eq_some_iff.1 hv').1
      simp at h1 h2
      omega
  have h2:=ho.write 0 g n cap _ rfl rfl j u
  exact h2.own 0 _ _ rfl rfl
structure LawStill (w w':World):Prop where
  os:w'.os=w.os
  tape:w'.tape=w.tape
  output:w'.output=w.output
  size:w.heap.size≤w'.heap.size
  block:∀ (k:Nat) (cs:Array Value) (T:TypeId),Blk w k cs T→T≠70→T≠87→T≠90→Blk w' k cs T
theorem LawStill.ofBelow {w w':World} (h:Below w.heap.size w w'):LawStill w w' :=
  ⟨h.os,h.tape,h.output,h.size,fun _ _ _ hb _ _ _=>hb.below h hb.lt⟩
theorem LawStill.blk {w w':World} {k:Nat} {cs:Array Value} {T:TypeId} (h:LawStill w w') (hb:Blk w k cs T) (h1:T≠70:=by decide) (h2:T≠87:=by decide) (h3:T≠90:=by decide):Blk w' k cs T:=h.block k cs T hb h1 h2 h3
theorem LawStill.row {w w':World} {base:Nat} {e:TypeId} {size:Nat} {v:Value} {n:Nat} {xs:List Value} (h:LawStill w w') (ho:w.ownsRow base e size v n xs) (h1:e≠70:=by decide) (h2:e≠87:=by decide) (h3:e≠90:=by decide):w'.ownsRow base e size v n xs:=by
  refine⟨ho.1,?_⟩
  rcases ho.2 with h0|⟨g,cap,cur,hv,hg,hc,hr⟩
  · exact Or.inl h0
  · exact Or.inr ⟨g,cap,cur,hv,hg,h.block g cur e hc h1 h2 h3,hr⟩
theorem read_facts (s:ByteArray) (hs:s.size≤2000):CodeOk (fullS (endS s))∧(0≤((endS s).c0.length:Int)∧((endS s).c0.length:Int)<(fullS (endS s)).length)∧(0≤(endS s).cells∧(endS s).cells≤1000):=by
  obtain⟨g,k,hi,hk⟩:=end_good s hs
  refine⟨full_ok hi hk g,⟨by omega,?_⟩,⟨?_,end_cells s hs⟩⟩
  · simp[fullS];omega
  · have:=hi.lens
    unfold lens at this
    omega
def InL (w:World) (ao:Option Addr) (l:List (Int×Int)):Prop :=
  l=[]∨∃ g off,ao=some ⟨g,off,none⟩∧g<w.heap.size∧∀ j u,(instrCells l)[j]? = some u→w.cell? ⟨g,off+j,none⟩=some u
theorem InL.below {w w':World} {ao:Option Addr} {l:List (Int×Int)} (h:InL w ao l) (hb:Below w.heap.size w w'):InL w' ao l:=by
  rcases h with h|⟨g,off,h1,h2,h3⟩
  · exact Or.inl h
  · exact Or.inr ⟨g,off,h1,by have:=hb.size;omega,fun j u hj=>by rw[hb.cell (by simpa using h2)];exact h3 j u hj⟩
theorem in_cell {w:World} {g off:Nat} {l:List (Int×Int)} (h:∀ j u,(instrCells l)[j]? = some u→w.cell? ⟨g,off+j,none⟩=some u) {k:Nat} {x:Int×Int} (hx:l[k]? = some x) :
    w.cell? ⟨g,off+k * 2,none⟩=some (.int .i64 x.1)∧w.cell? ⟨g,off+k * 2+1,none⟩=some (.int .i64 x.2):=by
  obtain⟨e1,e2⟩:=instrCells_at l k x hx
  exact⟨h _ _ e1,by have:=h _ _ e2;rwa [← Nat.add_assoc]at this⟩
theorem addr_off (g n j:Nat):(⟨g,n,none⟩:Addr).add j=⟨g,n+j,none⟩:=by simp[Addr.add]
end Go.Proofs.YtmeiikjpaepogaaGreatDoor
