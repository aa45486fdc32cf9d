/- Own. -/
import Derived.Test.YtmeiikjpaepogaaGreatDoorCards
import Derived.Test.YtmeiikjpaepogaaGreatDoorTie
import Derived.Deep.DeepWitnessRowRef
import Derived.WideKeyArgs
import Derived.Test.YtmeiikjpaepogaaGreatDoorD13
open Option renaming some->O
open Bool renaming true->Y
namespace Go.Proofs.YtmeiikjpaepogaaGreatDoor
open Go Go.ChangeShapes Go.WideShapes Go.ChangeAt Go.Proofs.Tryz List
theorem Um:Rows.listsRow.wf (OpenSpec.ofChange (OpenSpec.ofChange Rows.listsSpec).bare)=Y:=by kernel_rfl
theorem IU:(Rows.listsRow.inPlace==prog.inPlace 8)=Y:=by kernel_rfl
theorem BR:(Rows.listsRow.unfollowed==prog.unfollowed 8)=Y:=by kernel_rfl
theorem GC:(Rows.listsRow.recurses==prog.recurses 8)=Y:=by kernel_rfl
theorem PB:(Rows.listsRow.named==prog.varsNamed 8)=Y:=by kernel_rfl
theorem DW:(Rows.listsRow.plainKeys==prog.plainKeys)=Y:=by kernel_rfl
theorem Ma:(Rows.listsRow.lifted==prog.liftsFinal)=Y:=by kernel_rfl
theorem RJ:(prog.make==O Rows.listsRow.make)=Y:=by kernel_rfl
theorem LX:joinedFacts prog 8 f8 (OpenSpec.ofChange Rows.listsSpec).bare Rows.listsRow=Y:=by unfold joinedFacts;simp only[Bool.and_eq_true];refine⟨⟨⟨⟨⟨⟨⟨⟨⟨⟨⟨⟨⟨⟨⟨⟨⟨⟨⟨⟨⟨⟨⟨⟨⟨⟨⟨⟨⟨⟨⟨?_,?_⟩,?_⟩,?_⟩,?_⟩,?_⟩,?_⟩,?_⟩,?_⟩,?_⟩,?_⟩,?_⟩,?_⟩,?_⟩,?_⟩,?_⟩,?_⟩,?_⟩,?_⟩,?_⟩,?_⟩,?_⟩,?_⟩,?_⟩,?_⟩,?_⟩,?_⟩,?_⟩,?_⟩,?_⟩,?_⟩,?_⟩;all_goals first | with_reducible exact mB | with_reducible exact tI | with_reducible exact GF | with_reducible exact Gy | with_reducible exact Gt | with_reducible exact tJ | with_reducible exact Um | with_reducible exact IU | with_reducible exact BR | with_reducible exact GC | with_reducible exact PB | with_reducible exact DW | with_reducible exact Ma | with_reducible exact RJ | as_aux_lemma=>kernel_rfl
end Go.Proofs.YtmeiikjpaepogaaGreatDoor
