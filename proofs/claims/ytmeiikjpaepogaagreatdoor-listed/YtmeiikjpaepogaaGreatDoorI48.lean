/- Closed facts of the program, each for itself: for fathom's statement Compiles. -/
import Derived.Test.YtmeiikjpaepogaaGreatDoorCards
import Derived.Test.YtmeiikjpaepogaaGreatDoorTie
import Derived.Deep.DeepWitnessRowRef
import Derived.WideKeyArgs
namespace Go.Proofs.YtmeiikjpaepogaaGreatDoor
open Go Go.ChangeShapes Go.WideShapes Go.ChangeAt

theorem Tryz.own : ownKnob Tryz.prog.godebug = none := by kernel_rfl
theorem Tryz.laidOut : laidOutB Tryz.prog = true := by kernel_rfl
theorem Tryz.mapsRowed : mapsRowed Tryz.prog = true := by kernel_rfl
theorem Tryz.stops0 : (Tryz.prog.stops == []) = true := by kernel_rfl
theorem Tryz.knobs0 : (Tryz.prog.stopKnobs == []) = true := by kernel_rfl
theorem Tryz.heardC : Tryz.prog.stopsHeard = true := by kernel_rfl
theorem Tryz.mayEnterC : Tryz.prog.mayEnter = true := by kernel_rfl
end Go.Proofs.YtmeiikjpaepogaaGreatDoor
