/- Closed facts of the program, each for itself: for fathom's statement Compiles. -/
import Derived.Test.YtmeiikjpaepogaaGreatDoorCards
import Derived.Test.YtmeiikjpaepogaaGreatDoorTie
import Derived.Deep.DeepWitnessRowRef
import Derived.WideKeyArgs
namespace Go.Proofs.YtmeiikjpaepogaaGreatDoor
open Go Go.ChangeShapes Go.WideShapes Go.ChangeAt

theorem Tryz.own : ownKnob Tryz.prog.godebug = none := by kernel_rfl
theorem Tryz.laidOut : laidOutB Tryz.prog = true := by kernel_rfl
theorem Tryz.mapsRowed : mapsRowed Tryz.prog = true := by kernel_rfl
theorem Tryz.stops0 : (Tryz.prog.stops == []) = true := by kernel_rfl
theorem Tryz.knobs0 : (Tryz.prog.stopKnobs == []) = true := by kernel_rfl
theorem Tryz.heardC : Tryz.prog.stopsHeard = true := by kernel_rfl
theorem Tryz.mayEnterC : Tryz.prog.mayEnter = true := by kernel_rfl
theorem Tryz.wfC : Rows.compilesRow.wf (OpenSpec.ofChange (OpenSpec.ofChange Rows.compilesSpec).bare) = true := by kernel_rfl
theorem Tryz.inPlaceC : (Rows.compilesRow.inPlace == Tryz.prog.inPlace 3) = true := by kernel_rfl
theorem Tryz.unfollowedC : (Rows.compilesRow.unfollowed == Tryz.prog.unfollowed 3) = true := by kernel_rfl
theorem Tryz.recursesC : (Rows.compilesRow.recurses == Tryz.prog.recurses 3) = true := by kernel_rfl
theorem Tryz.namedC : (Rows.compilesRow.named == Tryz.prog.varsNamed 3) = true := by kernel_rfl
theorem Tryz.plainKeysC : (Rows.compilesRow.plainKeys == Tryz.prog.plainKeys) = true := by kernel_rfl
theorem Tryz.liftedC : (Rows.compilesRow.lifted == Tryz.prog.liftsFinal) = true := by kernel_rfl
theorem Tryz.makeC : (Tryz.prog.make == some Rows.compilesRow.make) = true := by kernel_rfl
theorem Tryz.closedC : joinedFacts Tryz.prog 3 Tryz.f3 (OpenSpec.ofChange Rows.compilesSpec).bare Rows.compilesRow = true := by
  unfold joinedFacts
  simp only [Bool.and_eq_true]
  refine ⟨⟨⟨⟨⟨⟨⟨⟨⟨⟨⟨⟨⟨⟨⟨⟨⟨⟨⟨⟨⟨⟨⟨⟨⟨⟨⟨⟨⟨⟨⟨?_, ?_⟩, ?_⟩, ?_⟩, ?_⟩, ?_⟩, ?_⟩, ?_⟩, ?_⟩, ?_⟩, ?_⟩, ?_⟩, ?_⟩, ?_⟩, ?_⟩, ?_⟩, ?_⟩, ?_⟩, ?_⟩, ?_⟩, ?_⟩, ?_⟩, ?_⟩, ?_⟩, ?_⟩, ?_⟩, ?_⟩, ?_⟩, ?_⟩, ?_⟩, ?_⟩, ?_⟩
  all_goals first
    | with_reducible exact Tryz.laidOut
    | with_reducible exact Tryz.mapsRowed
    | with_reducible exact Tryz.stops0
    | with_reducible exact Tryz.knobs0
    | with_reducible exact Tryz.heardC
    | with_reducible exact Tryz.mayEnterC
    | with_reducible exact Tryz.wfC
    | with_reducible exact Tryz.inPlaceC
    | with_reducible exact Tryz.unfollowedC
    | with_reducible exact Tryz.recursesC
    | with_reducible exact Tryz.namedC
    | with_reducible exact Tryz.plainKeysC
    | with_reducible exact Tryz.liftedC
    | with_reducible exact Tryz.makeC
    | as_aux_lemma => kernel_rfl

end Go.Proofs.YtmeiikjpaepogaaGreatDoor

