/- Own. -/
import Derived.Test.YtmeiikjpaepogaaGreatDoorCards
import Derived.Test.YtmeiikjpaepogaaGreatDoorTie
import Derived.Deep.DeepWitnessRowRef
import Derived.WideKeyArgs
import Derived.Test.YtmeiikjpaepogaaGreatDoorD13
open Option renaming some->O
open Bool renaming true->Y
namespace Go.Proofs.YtmeiikjpaepogaaGreatDoor
open Go Go.ChangeShapes Go.WideShapes Go.ChangeAt Go.Proofs.Tryz List
theorem Ul:Rows.allRow.wf (OpenSpec.ofChange (OpenSpec.ofChange Rows.allSpec).bare)=Y:=by kernel_rfl
theorem IT:(Rows.allRow.inPlace==prog.inPlace 14)=Y:=by kernel_rfl
theorem BQ:(Rows.allRow.unfollowed==prog.unfollowed 14)=Y:=by kernel_rfl
theorem GB:(Rows.allRow.recurses==prog.recurses 14)=Y:=by kernel_rfl
theorem PA:(Rows.allRow.named==prog.varsNamed 14)=Y:=by kernel_rfl
theorem DV:(Rows.allRow.plainKeys==prog.plainKeys)=Y:=by kernel_rfl
theorem LZ:(Rows.allRow.lifted==prog.liftsFinal)=Y:=by kernel_rfl
theorem RI:(prog.make==O Rows.allRow.make)=Y:=by kernel_rfl
theorem LW:joinedFacts prog 14 f14 (OpenSpec.ofChange Rows.allSpec).bare Rows.allRow=Y:=by unfold joinedFacts;simp only[Bool.and_eq_true];refine⟨⟨⟨⟨⟨⟨⟨⟨⟨⟨⟨⟨⟨⟨⟨⟨⟨⟨⟨⟨⟨⟨⟨⟨⟨⟨⟨⟨⟨⟨⟨?_,?_⟩,?_⟩,?_⟩,?_⟩,?_⟩,?_⟩,?_⟩,?_⟩,?_⟩,?_⟩,?_⟩,?_⟩,?_⟩,?_⟩,?_⟩,?_⟩,?_⟩,?_⟩,?_⟩,?_⟩,?_⟩,?_⟩,?_⟩,?_⟩,?_⟩,?_⟩,?_⟩,?_⟩,?_⟩,?_⟩,?_⟩;all_goals first | with_reducible exact mB | with_reducible exact tI | with_reducible exact GF | with_reducible exact Gy | with_reducible exact Gt | with_reducible exact tJ | with_reducible exact Ul | with_reducible exact IT | with_reducible exact BQ | with_reducible exact GB | with_reducible exact PA | with_reducible exact DV | with_reducible exact LZ | with_reducible exact RI | as_aux_lemma=>kernel_rfl
end Go.Proofs.YtmeiikjpaepogaaGreatDoor
