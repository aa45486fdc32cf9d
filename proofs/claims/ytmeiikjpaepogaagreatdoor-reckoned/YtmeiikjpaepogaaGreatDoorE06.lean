/- The reference's Start. -/
import Derived.Test.YtmeiikjpaepogaaGreatDoorE05
import Derived.Deep.OwnRows
namespace Go.Proofs.YtmeiikjpaepogaaGreatDoor
open Go Go.RowKit
def limOk (x:Int):Prop:=1≤x∧x≤1000
def limsOk (ls la lc lo:Int):Prop:=limOk ls∧limOk la∧limOk lc∧limOk lo
def startM (p:Nat) (ls la lc lo en ce:Int):MS:=⟨p,ls,la,lc,lo,[],[],[],List.replicate ce.toNat 0,⟨#[]⟩,en,false,[]⟩
theorem made_ints (c:Nat):(madeCells #[Value.int .i64 0] c).toList=intCells (List.replicate c 0):=by
  unfold madeCells intCells
  apply List.ext_getElem?
  intro i
  simp[List.getElem?_replicate]
  by_cases h:i<c
  · simp[h,Nat.mod_one]
  · simp[h]
def outV (err:Int) (vS vC:Value) (out:ByteArray) (steps:Int):Value:=.agg #[.int .i64 err,vS,vC,.string out,.int .i64 steps]
theorem ownsRow_base {w:World} {b b':Nat} {e:TypeId} {size:Nat} {v:Value} {n:Nat} {xs:List Value} (h:w.ownsRow b e size v n xs) (hb:b'≤b):w.ownsRow b' e size v n xs:=by
  refine⟨h.1,?_⟩
  rcases h.2 with h0|⟨g,cap,cur,h1,h2,h3⟩
  · exact Or.inl h0
  · exact Or.inr ⟨g,cap,cur,h1,by omega,h3⟩
theorem out_set {w:World} {b:Nat} {cs:Array Value} {T:TypeId} {x0 x1 x2 x3 x4 y0 y1 y2 y3 y4:Value} (h:Blk w b cs T) (hcs:cs=#[x0,x1,x2,x3,x4]) :
    Blk (((((w.setCell ⟨b,0,none⟩ y0).setCell ⟨b,1,none⟩ y1).setCell ⟨b,2,none⟩ y2).setCell ⟨b,3,none⟩ y3).setCell ⟨b,4,none⟩ y4) b #[y0,y1,y2,y3,y4] T:=by
  subst hcs
  have h5:=((((h.set 0 y0).set 1 y1).set 2 y2).set 3 y3).set 4 y4
  simpa only [List.setIfInBounds_toArray,List.set_cons_succ,List.set_cons_zero] using h5
theorem Tryz.sizeOutcome:(Tryz.prog.info? 44).map (fun i=>i.size)=some 5:=by kernel_rfl
end Go.Proofs.YtmeiikjpaepogaaGreatDoor
