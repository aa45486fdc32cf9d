/- What a statement is handed: a number, a text, a truth, limits. -/
import Derived.Test.YtmeiikjpaepogaaGreatDoorU26
set_option maxRecDepth 100000
namespace Go.Proofs.YtmeiikjpaepogaaGreatDoor
open Go Go.RowKit Go.ChangeShapes Go.WideShapes Go.ChangeAt Go.Deep
section
variable {H:Type} {enc:TypeId×Value→H} {w:World} {base:Nat} {spare:Nat→Bool} {held:Bool} {v:Value} {d:DataW H} {p:List MemPlace} {r:Reach} {b:Nat}
theorem open_int (hv:Value.okWide Tryz.prog w r b 3 v) (h:DataW.Trod enc Tryz.prog w base spare held 3 v d p):∃ n,v=.int .i64 n∧inI n:=by
  obtain⟨n,rfl⟩:=okWide_int Tryz.underlying3 hv
  obtain⟨fuel,h⟩:=h
  obtain⟨n',g,_,hw⟩:=DataW.trod_int Tryz.underlying3 h
  simp only[Value.cells,List.cons.injEq,Value.int.injEq,and_true,true_and]at g
  subst g
  exact⟨_,rfl,inI_lit hw⟩
end
end Go.Proofs.YtmeiikjpaepogaaGreatDoor
