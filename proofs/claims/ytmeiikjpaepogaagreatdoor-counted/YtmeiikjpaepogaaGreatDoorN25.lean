/- Laws: make and copy, where an element has two cells. -/
import Derived.Test.YtmeiikjpaepogaaGreatDoorN24
import Derived.Laws.CopyOwn
import Derived.Test.YtmeiikjpaepogaaGreatDoorN14
import Derived.Test.YtmeiikjpaepogaaGreatDoorN23
import Derived.Test.YtmeiikjpaepogaaGreatDoorN07
import Derived.Deep.SlicePairs
import Derived.SizedLaws
namespace Go.Proofs.YtmeiikjpaepogaaGreatDoor
open Go Go.RowKit
theorem run_make2 (n:Nat) (hn:n≤17592186044416) (w:World) :
    (Instr.makeSlice 33 (.int .i64 (n:Int)) (.int .i64 (n:Int))).run Tryz.prog w=.ok (.slice (some ⟨w.heap.size,0,none⟩) n n) (w.alloc (.cells (madeCells #[.int .i64 0,.int .i64 0] (n * 2)) 65)):=by
  obtain⟨iI,hiI,hzI0,hzI1,hzI2⟩:=info_parts Tryz.infoInstr
  have hr:=run_make (P:=Tryz.prog) w 33 65 iI _ Tryz.underlying33 hiI hzI0 .i64 .i64 n n (by omega) (Int.le_refl _) (by rw[hzI2];omega) (by omega)
  simp only[Int.toNat_natCast,hzI1]at hr
  exact hr
theorem zeros_instr (n:Nat):instrCells (List.replicate n ((0:Int),(0:Int)))=List.replicate (n * 2) (Value.int .i64 0):=by
  induction n with
  | zero=>rfl
  | succ n ih =>
    have e:(n+1) * 2=n * 2+1+1:=by omega
    rw[e,List.replicate_succ,List.replicate_succ,List.replicate_succ,← ih]
    rfl
theorem made2 (n:Nat):madeCells #[.int .i64 0,.int .i64 0] (n * 2)=(instrCells (List.replicate n ((0:Int),(0:Int)))).toArray:=by
  rw[zeros_instr]
  apply Array.ext'
  unfold madeCells
  apply List.ext_getElem?
  intro i
  simp only[Array.toList_map,Array.toList_range,List.getElem?_map,List.getElem?_replicate]
  by_cases h:i<n * 2
  · rw[List.getElem?_range h,if_pos h]
    have:i % 2=0∨i % 2=1:=by omega
    rcases this with e|e<;>simp[e]
  · rw[List.getElem?_eq_none (by simp;omega),if_neg h]
    rfl
theorem instr_app (a b:List (Int×Int)):instrCells (a++b)=instrCells a++instrCells b:=by
  induction a with
  | nil=>rfl
  | cons x a ih =>
    show instrCells (x :: (a++b))=instrCells (x :: a)++instrCells b
    unfold instrCells at ih ⊢
    simp only[List.flatMap_cons,List.append_assoc,ih]
section
variable {P:Program}
end
end Go.Proofs.YtmeiikjpaepogaaGreatDoor
namespace Go.Proofs.YtmeiikjpaepogaaGreatDoor
open Go Go.RowKit Go.ChangeShapes Go.WideShapes Go.ChangeAt Go.Deep
section
variable {H:Type} {enc:TypeId×Value→H} {w:World}
theorem inI_lit {z:Int} (h:(Lit.int .i64 z).wf=true):inI z:=by
  simp[Lit.wf,IntKind.min,IntKind.max,IntKind.bits,IntKind.signed]at h
  unfold inI
  omega
end
end Go.Proofs.YtmeiikjpaepogaaGreatDoor
