/- The reference's Machine: foreign blocks that are kept; a program that lies below; one step as a plain function. -/
import Derived.Test.YtmeiikjpaepogaaGreatDoorN02
import Derived.Test.YtmeiikjpaepogaaGreatDoorN03
import Derived.Deep.CutRange
namespace Go.Proofs.YtmeiikjpaepogaaGreatDoor
open Go Go.RowKit
def partsRun (arg:Int):List Int→MS→MS×Int
  | [],m=>(m,0)
  | op :: r,m=>if refusedS m op=0 then partsRun arg r (doS m op arg) else (m,refusedS m op)
def stepM (l:List (Int×Int)) (m:MS):MS×Int :=
  match l[m.pc.toNat]? with
  | some x=>partsRun x.2 (partsS x.1) { m with pc:=m.pc+1 }
  | none=>(m,0)
theorem parts_range (op:Int):∀ x∈partsS op,0≤x∧x≤32:=by
  unfold partsS
  split
  · rename_i y hy
    have hm:=List.mem_of_find?_eq_some hy
    have:∀ y∈partsTab,∀ x∈y.2,0≤x∧x≤32:=by
      unfold partsTab
      simp
    exact this y hm
  · split
    · intro x hx
      simp at hx
      omega
    · simp
end Go.Proofs.YtmeiikjpaepogaaGreatDoor
