/- Own. -/
import Derived.Test.YtmeiikjpaepogaaGreatDoorCards
import Derived.Test.YtmeiikjpaepogaaGreatDoorTie
import Derived.Deep.DeepWitnessRowRef
import Derived.WideKeyArgs
open Option renaming none->X
open Bool renaming true->Y
namespace Go.Proofs.YtmeiikjpaepogaaGreatDoor
open Go Go.ChangeShapes Go.WideShapes Go.ChangeAt Go.Proofs.Tryz List
theorem RW:ownKnob prog.godebug=X:=by kernel_rfl
theorem mB:laidOutB prog=Y:=by kernel_rfl
theorem tI:mapsRowed prog=Y:=by kernel_rfl
theorem GF:(prog.stops==[])=Y:=by kernel_rfl
theorem Gy:(prog.stopKnobs==[])=Y:=by kernel_rfl
theorem Gt:prog.stopsHeard=Y:=by kernel_rfl
theorem tJ:prog.mayEnter=Y:=by kernel_rfl
end Go.Proofs.YtmeiikjpaepogaaGreatDoor
