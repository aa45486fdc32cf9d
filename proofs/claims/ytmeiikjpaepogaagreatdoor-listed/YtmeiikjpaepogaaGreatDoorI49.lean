/- Closed facts of the program, each for itself: for fathom's statement Listed. -/
import Derived.Test.YtmeiikjpaepogaaGreatDoorCards
import Derived.Test.YtmeiikjpaepogaaGreatDoorTie
import Derived.Deep.DeepWitnessRowRef
import Derived.WideKeyArgs
import Derived.Test.YtmeiikjpaepogaaGreatDoorI48
import Derived.Test.YtmeiikjpaepogaaGreatDoorI27
namespace Go.Proofs.YtmeiikjpaepogaaGreatDoor
open Go Go.ChangeShapes Go.WideShapes Go.ChangeAt

theorem Tryz.wfS : Rows.listedRow.wf (OpenSpec.ofChange (OpenSpec.ofChange Rows.listedSpec).bare) = true := by kernel_rfl
theorem Tryz.inPlaceS : (Rows.listedRow.inPlace == Tryz.prog.inPlace 6) = true := by kernel_rfl
theorem Tryz.unfollowedS : (Rows.listedRow.unfollowed == Tryz.prog.unfollowed 6) = true := by kernel_rfl
theorem Tryz.recursesS : (Rows.listedRow.recurses == Tryz.prog.recurses 6) = true := by kernel_rfl
theorem Tryz.namedS : (Rows.listedRow.named == Tryz.prog.varsNamed 6) = true := by kernel_rfl
theorem Tryz.plainKeysS : (Rows.listedRow.plainKeys == Tryz.prog.plainKeys) = true := by kernel_rfl
theorem Tryz.liftedS : (Rows.listedRow.lifted == Tryz.prog.liftsFinal) = true := by kernel_rfl
theorem Tryz.makeS : (Tryz.prog.make == some Rows.listedRow.make) = true := by kernel_rfl
theorem Tryz.closedS : joinedFacts Tryz.prog 6 Tryz.f6 (OpenSpec.ofChange Rows.listedSpec).bare Rows.listedRow = true := by
  unfold joinedFacts
  simp only [Bool.and_eq_true]
  refine ⟨⟨⟨⟨⟨⟨⟨⟨⟨⟨⟨⟨⟨⟨⟨⟨⟨⟨⟨⟨⟨⟨⟨⟨⟨⟨⟨⟨⟨⟨⟨?_, ?_⟩, ?_⟩, ?_⟩, ?_⟩, ?_⟩, ?_⟩, ?_⟩, ?_⟩, ?_⟩, ?_⟩, ?_⟩, ?_⟩, ?_⟩, ?_⟩, ?_⟩, ?_⟩, ?_⟩, ?_⟩, ?_⟩, ?_⟩, ?_⟩, ?_⟩, ?_⟩, ?_⟩, ?_⟩, ?_⟩, ?_⟩, ?_⟩, ?_⟩, ?_⟩, ?_⟩
  all_goals first
    | with_reducible exact Tryz.laidOut
    | with_reducible exact Tryz.mapsRowed
    | with_reducible exact Tryz.stops0
    | with_reducible exact Tryz.knobs0
    | with_reducible exact Tryz.heardC
    | with_reducible exact Tryz.mayEnterC
    | with_reducible exact Tryz.wfS
    | with_reducible exact Tryz.inPlaceS
    | with_reducible exact Tryz.unfollowedS
    | with_reducible exact Tryz.recursesS
    | with_reducible exact Tryz.namedS
    | with_reducible exact Tryz.plainKeysS
    | with_reducible exact Tryz.liftedS
    | with_reducible exact Tryz.makeS
    | as_aux_lemma => kernel_rfl
end Go.Proofs.YtmeiikjpaepogaaGreatDoor
namespace Go.Proofs.YtmeiikjpaepogaaGreatDoor
open Go Go.RowKit Go.ChangeShapes Go.WideShapes Go.ChangeAt Go.Deep

section
variable {H : Type} {enc : TypeId × Value → H} {w : World} {base : Nat} {spare : Nat → Bool} {held : Bool} {v : Value} {d : DataW H} {p : List MemPlace} {r : Reach} {b : Nat}
set_option maxRecDepth 100000 in
theorem open_int (hv : Value.okWide Tryz.prog w r b 3 v) (h : DataW.Trod enc Tryz.prog w base spare held 3 v d p) : ∃ n, v = .int .i64 n ∧ inI n := by
  obtain ⟨n, rfl⟩ := okWide_int Tryz.underlying3 hv
  obtain ⟨fuel, h⟩ := h
  obtain ⟨n', g, _, hw⟩ := DataW.trod_int Tryz.underlying3 h
  simp only [Value.cells, List.cons.injEq, Value.int.injEq, and_true, true_and] at g
  subst g
  exact ⟨_, rfl, inI_lit hw⟩
end
end Go.Proofs.YtmeiikjpaepogaaGreatDoor
