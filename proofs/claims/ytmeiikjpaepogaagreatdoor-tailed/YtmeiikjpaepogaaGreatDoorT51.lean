/- Closed facts of the program, each for itself: for fathom's statement Tailed. -/
import Derived.Test.YtmeiikjpaepogaaGreatDoorCards
import Derived.Test.YtmeiikjpaepogaaGreatDoorTie
import Derived.Deep.DeepWitnessRowRef
import Derived.WideKeyArgs
import Derived.Test.YtmeiikjpaepogaaGreatDoorT28
import Derived.Test.YtmeiikjpaepogaaGreatDoorT29
namespace Go.Proofs.YtmeiikjpaepogaaGreatDoor
open Go Go.ChangeShapes Go.WideShapes Go.ChangeAt

theorem Tryz.wfT : Rows.tailedRow.wf (OpenSpec.ofChange (OpenSpec.ofChange Rows.tailedSpec).bare) = true := by kernel_rfl
theorem Tryz.inPlaceT : (Rows.tailedRow.inPlace == Tryz.prog.inPlace 10) = true := by kernel_rfl
theorem Tryz.unfollowedT : (Rows.tailedRow.unfollowed == Tryz.prog.unfollowed 10) = true := by kernel_rfl
theorem Tryz.recursesT : (Rows.tailedRow.recurses == Tryz.prog.recurses 10) = true := by kernel_rfl
theorem Tryz.namedT : (Rows.tailedRow.named == Tryz.prog.varsNamed 10) = true := by kernel_rfl
theorem Tryz.plainKeysT : (Rows.tailedRow.plainKeys == Tryz.prog.plainKeys) = true := by kernel_rfl
theorem Tryz.liftedT : (Rows.tailedRow.lifted == Tryz.prog.liftsFinal) = true := by kernel_rfl
theorem Tryz.makeT : (Tryz.prog.make == some Rows.tailedRow.make) = true := by kernel_rfl
theorem Tryz.closedT : joinedFacts Tryz.prog 10 Tryz.f10 (OpenSpec.ofChange Rows.tailedSpec).bare Rows.tailedRow = true := by
  unfold joinedFacts
  simp only [Bool.and_eq_true]
  refine ⟨⟨⟨⟨⟨⟨⟨⟨⟨⟨⟨⟨⟨⟨⟨⟨⟨⟨⟨⟨⟨⟨⟨⟨⟨⟨⟨⟨⟨⟨⟨?_, ?_⟩, ?_⟩, ?_⟩, ?_⟩, ?_⟩, ?_⟩, ?_⟩, ?_⟩, ?_⟩, ?_⟩, ?_⟩, ?_⟩, ?_⟩, ?_⟩, ?_⟩, ?_⟩, ?_⟩, ?_⟩, ?_⟩, ?_⟩, ?_⟩, ?_⟩, ?_⟩, ?_⟩, ?_⟩, ?_⟩, ?_⟩, ?_⟩, ?_⟩, ?_⟩, ?_⟩
  all_goals first
    | with_reducible exact Tryz.laidOut
    | with_reducible exact Tryz.mapsRowed
    | with_reducible exact Tryz.stops0
    | with_reducible exact Tryz.knobs0
    | with_reducible exact Tryz.heardC
    | with_reducible exact Tryz.mayEnterC
    | with_reducible exact Tryz.wfT
    | with_reducible exact Tryz.inPlaceT
    | with_reducible exact Tryz.unfollowedT
    | with_reducible exact Tryz.recursesT
    | with_reducible exact Tryz.namedT
    | with_reducible exact Tryz.plainKeysT
    | with_reducible exact Tryz.liftedT
    | with_reducible exact Tryz.makeT
    | as_aux_lemma => kernel_rfl
end Go.Proofs.YtmeiikjpaepogaaGreatDoor
namespace Go.Proofs.YtmeiikjpaepogaaGreatDoor
open Go Go.RowKit Go.ChangeShapes Go.WideShapes Go.ChangeAt Go.Deep

section
variable {H : Type} {enc : TypeId × Value → H} {w : World} {base : Nat} {spare : Nat → Bool} {held : Bool} {v : Value} {d : DataW H} {p : List MemPlace} {r : Reach} {b : Nat}
set_option maxRecDepth 100000 in
theorem open_int (hv : Value.okWide Tryz.prog w r b 3 v) (h : DataW.Trod enc Tryz.prog w base spare held 3 v d p) : ∃ n, v = .int .i64 n ∧ inI n := by
  obtain ⟨n, rfl⟩ := okWide_int Tryz.underlying3 hv
  obtain ⟨fuel, h⟩ := h
  obtain ⟨n', g, _, hw⟩ := DataW.trod_int Tryz.underlying3 h
  simp only [Value.cells, List.cons.injEq, Value.int.injEq, and_true, true_and] at g
  subst g
  exact ⟨_, rfl, inI_lit hw⟩
end
end Go.Proofs.YtmeiikjpaepogaaGreatDoor
