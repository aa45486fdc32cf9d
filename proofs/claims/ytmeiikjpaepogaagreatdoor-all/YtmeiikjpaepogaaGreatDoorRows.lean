/-
  NARROWER THAN 'FOR EVERY INPUT', by the rows' own cells (each row's printed sentence says how): Compiles: laid · Runs: laid · Loads: laid · Listed: laid · Any: laid · Lists: laid · Unseen: laid · Tailed: laid · Reckoned: laid · Counted: laid · Frozen: laid · All: laid.
  DERIVED. THE GIVEN ROWS OF THIS SEAT. 12 by the template 'for every input the law returns true; each argument reads behind the call as it read before'; 0 by the template 'total and deterministic' (their statements: YtmeiikjpaepogaaGreatDoorTotals.lean).
  GIVEN WITH THE SEED: the statements are not yours to turn. If you find one false, say at which input.
  Laid BY PROGRAM, IN A SANDBOX (cutbox-rows.mjs): the forced cells as the released guide's own fill.sh prints them over the translation b7f6a4ecec4a8533… (all of the seat's roots in one cut). By AI agents, Wed Nov 11 2026. No macro, syntax, notation, axiom, sorry.
-/
import Derived.Test.YtmeiikjpaepogaaGreatDoorChecked
import GoSem.Claim
import GoSem.ClaimJoined
import GoSem.ClaimMapViews
import Derived.JoinedTies
import Derived.KernelRfl
namespace Go.Proofs.YtmeiikjpaepogaaGreatDoor
/- THE CELL 'sum', in the pinned program and in every row, IS THE sha256 OF THE DUMP (.gsa) THAT YtmeiikjpaepogaaGreatDoorProg.lean LOADS. Nothing in Lean hashes anything: it is a label: what it is worth is what the hold of that sum in a sandbox is worth. -/
noncomputable def Tryz.pinned : Pinned := { name := "ytmeiikjpaepogaagreatdoor", sum := "b7f6a4ecec4a8533c409bd4e042586c08d393c61f5ca8952d36e8549ce1b7c4b", checked := Tryz.checked }
namespace Rows
def none {H : Type} : Left H := { results := [], args := [] }

/- WHAT THE LISTED PACKAGE-LEVEL VARIABLES READ AS WHEN THE CALL BEGINS. Each datum BY PROGRAM (the guide's laid-datum.mjs) off the statement by which the dump's own 'gosem.cut.vars' lays the variable. In a bare row this is a premise. The card (YtmeiikjpaepogaaGreatDoorCards.lean) ties it to the program's text. -/
def laid_math_bits_deBruijn32tab {H : Type} : DataW H := .agg [.lit (.int .u8 0), .lit (.int .u8 1), .lit (.int .u8 28), .lit (.int .u8 2), .lit (.int .u8 29), .lit (.int .u8 14), .lit (.int .u8 24), .lit (.int .u8 3), .lit (.int .u8 30), .lit (.int .u8 22), .lit (.int .u8 20), .lit (.int .u8 15), .lit (.int .u8 25), .lit (.int .u8 17), .lit (.int .u8 4), .lit (.int .u8 8), .lit (.int .u8 31), .lit (.int .u8 27), .lit (.int .u8 13), .lit (.int .u8 23), .lit (.int .u8 21), .lit (.int .u8 19), .lit (.int .u8 16), .lit (.int .u8 7), .lit (.int .u8 26), .lit (.int .u8 12), .lit (.int .u8 18), .lit (.int .u8 6), .lit (.int .u8 11), .lit (.int .u8 5), .lit (.int .u8 10), .lit (.int .u8 9)]
def laid_math_bits_deBruijn64tab {H : Type} : DataW H := .agg [.lit (.int .u8 0), .lit (.int .u8 1), .lit (.int .u8 56), .lit (.int .u8 2), .lit (.int .u8 57), .lit (.int .u8 49), .lit (.int .u8 28), .lit (.int .u8 3), .lit (.int .u8 61), .lit (.int .u8 58), .lit (.int .u8 42), .lit (.int .u8 50), .lit (.int .u8 38), .lit (.int .u8 29), .lit (.int .u8 17), .lit (.int .u8 4), .lit (.int .u8 62), .lit (.int .u8 47), .lit (.int .u8 59), .lit (.int .u8 36), .lit (.int .u8 45), .lit (.int .u8 43), .lit (.int .u8 51), .lit (.int .u8 22), .lit (.int .u8 53), .lit (.int .u8 39), .lit (.int .u8 33), .lit (.int .u8 30), .lit (.int .u8 24), .lit (.int .u8 18), .lit (.int .u8 12), .lit (.int .u8 5), .lit (.int .u8 63), .lit (.int .u8 55), .lit (.int .u8 48), .lit (.int .u8 27), .lit (.int .u8 60), .lit (.int .u8 41), .lit (.int .u8 37), .lit (.int .u8 16), .lit (.int .u8 46), .lit (.int .u8 35), .lit (.int .u8 44), .lit (.int .u8 21), .lit (.int .u8 52), .lit (.int .u8 32), .lit (.int .u8 23), .lit (.int .u8 11), .lit (.int .u8 54), .lit (.int .u8 26), .lit (.int .u8 40), .lit (.int .u8 15), .lit (.int .u8 34), .lit (.int .u8 20), .lit (.int .u8 31), .lit (.int .u8 10), .lit (.int .u8 25), .lit (.int .u8 14), .lit (.int .u8 19), .lit (.int .u8 9), .lit (.int .u8 13), .lit (.int .u8 8), .lit (.int .u8 7), .lit (.int .u8 6)]
def laid_internal_strconv_uint64pow10 {H : Type} : DataW H := .agg [.lit (.int .u64 1), .lit (.int .u64 10), .lit (.int .u64 100), .lit (.int .u64 1000), .lit (.int .u64 10000), .lit (.int .u64 100000), .lit (.int .u64 1000000), .lit (.int .u64 10000000), .lit (.int .u64 100000000), .lit (.int .u64 1000000000), .lit (.int .u64 10000000000), .lit (.int .u64 100000000000), .lit (.int .u64 1000000000000), .lit (.int .u64 10000000000000), .lit (.int .u64 100000000000000), .lit (.int .u64 1000000000000000), .lit (.int .u64 10000000000000000), .lit (.int .u64 100000000000000000), .lit (.int .u64 1000000000000000000), .lit (.int .u64 10000000000000000000)]
def laid_strconv_ErrRange {H : Type} : DataW H := .iface "*errors.errorString" (.ptr (.agg [.lit (.string [118, 97, 108, 117, 101, 32, 111, 117, 116, 32, 111, 102, 32, 114, 97, 110, 103, 101])]))
def laid_strconv_ErrSyntax {H : Type} : DataW H := .iface "*errors.errorString" (.ptr (.agg [.lit (.string [105, 110, 118, 97, 108, 105, 100, 32, 115, 121, 110, 116, 97, 120])]))
def laid_fathom_compiler_vocabulary {H : Type} : DataW H := .agg [.agg [.lit (.string [43]), .lit (.int .i64 0), .lit (.int .i64 9)], .agg [.lit (.string [45]), .lit (.int .i64 0), .lit (.int .i64 10)], .agg [.lit (.string [42]), .lit (.int .i64 0), .lit (.int .i64 11)], .agg [.lit (.string [47]), .lit (.int .i64 0), .lit (.int .i64 12)], .agg [.lit (.string [109, 111, 100]), .lit (.int .i64 0), .lit (.int .i64 13)], .agg [.lit (.string [97, 110, 100]), .lit (.int .i64 0), .lit (.int .i64 14)], .agg [.lit (.string [111, 114]), .lit (.int .i64 0), .lit (.int .i64 15)], .agg [.lit (.string [120, 111, 114]), .lit (.int .i64 0), .lit (.int .i64 16)], .agg [.lit (.string [105, 110, 118, 101, 114, 116]), .lit (.int .i64 0), .lit (.int .i64 17)], .agg [.lit (.string [110, 101, 103, 97, 116, 101]), .lit (.int .i64 0), .lit (.int .i64 18)], .agg [.lit (.string [61]), .lit (.int .i64 0), .lit (.int .i64 19)], .agg [.lit (.string [60]), .lit (.int .i64 0), .lit (.int .i64 20)], .agg [.lit (.string [100, 117, 112]), .lit (.int .i64 0), .lit (.int .i64 21)], .agg [.lit (.string [100, 114, 111, 112]), .lit (.int .i64 0), .lit (.int .i64 22)], .agg [.lit (.string [115, 119, 97, 112]), .lit (.int .i64 0), .lit (.int .i64 23)], .agg [.lit (.string [111, 118, 101, 114]), .lit (.int .i64 0), .lit (.int .i64 24)], .agg [.lit (.string [114, 111, 116]), .lit (.int .i64 0), .lit (.int .i64 25)], .agg [.lit (.string [62, 114]), .lit (.int .i64 0), .lit (.int .i64 26)], .agg [.lit (.string [114, 62]), .lit (.int .i64 0), .lit (.int .i64 27)], .agg [.lit (.string [114, 64]), .lit (.int .i64 0), .lit (.int .i64 28)], .agg [.lit (.string [33]), .lit (.int .i64 0), .lit (.int .i64 29)], .agg [.lit (.string [64]), .lit (.int .i64 0), .lit (.int .i64 30)], .agg [.lit (.string [101, 109, 105, 116]), .lit (.int .i64 0), .lit (.int .i64 31)], .agg [.lit (.string [46]), .lit (.int .i64 0), .lit (.int .i64 32)], .agg [.lit (.string [105]), .lit (.int .i64 0), .lit (.int .i64 8)], .agg [.lit (.string [58]), .lit (.int .i64 1), .lit (.int .i64 0)], .agg [.lit (.string [118, 97, 114, 105, 97, 98, 108, 101]), .lit (.int .i64 2), .lit (.int .i64 0)], .agg [.lit (.string [99, 111, 110, 115, 116, 97, 110, 116]), .lit (.int .i64 3), .lit (.int .i64 0)], .agg [.lit (.string [114, 101, 99, 117, 114, 115, 101]), .lit (.int .i64 4), .lit (.int .i64 0)], .agg [.lit (.string [105, 102]), .lit (.int .i64 5), .lit (.int .i64 0)], .agg [.lit (.string [98, 101, 103, 105, 110]), .lit (.int .i64 6), .lit (.int .i64 0)], .agg [.lit (.string [100, 111]), .lit (.int .i64 7), .lit (.int .i64 0)], .agg [.lit (.string [59]), .lit (.int .i64 8), .lit (.int .i64 0)], .agg [.lit (.string [116, 104, 101, 110]), .lit (.int .i64 8), .lit (.int .i64 0)], .agg [.lit (.string [101, 108, 115, 101]), .lit (.int .i64 8), .lit (.int .i64 0)], .agg [.lit (.string [117, 110, 116, 105, 108]), .lit (.int .i64 8), .lit (.int .i64 0)], .agg [.lit (.string [119, 104, 105, 108, 101]), .lit (.int .i64 8), .lit (.int .i64 0)], .agg [.lit (.string [114, 101, 112, 101, 97, 116]), .lit (.int .i64 8), .lit (.int .i64 0)], .agg [.lit (.string [108, 111, 111, 112]), .lit (.int .i64 8), .lit (.int .i64 0)]]

/-- 'fathomlaw.Compiles': WHATEVER THE INPUT: true; the input reads as it did. -/
def compilesSpec : ChangeSpec := { name := "compiles", fn := fun _ => fun
  | [d] => { results := [.lit (.bool true)], args := [d] }
  | _ => none }
def compilesRow : OpenClaim := { program := "ytmeiikjpaepogaagreatdoor", sum := "b7f6a4ecec4a8533c409bd4e042586c08d393c61f5ca8952d36e8549ce1b7c4b", func := "fathom/fathomlaw.Compiles", spec := "compiles", unfollowed := true, recurses := true, named := ["fathom/compiler.vocabulary", "strconv.ErrSyntax", "strconv.ErrRange", "internal/strconv.uint64pow10", "math/bits.deBruijn32tab", "math/bits.deBruijn64tab"], apart := false, laid := [("math/bits.deBruijn32tab", laid_math_bits_deBruijn32tab), ("math/bits.deBruijn64tab", laid_math_bits_deBruijn64tab), ("internal/strconv.uint64pow10", laid_internal_strconv_uint64pow10), ("strconv.ErrRange", laid_strconv_ErrRange), ("strconv.ErrSyntax", laid_strconv_ErrSyntax), ("fathom/compiler.vocabulary", laid_fathom_compiler_vocabulary)] }
def CompilesSaid : Prop := compilesRow.holds Tryz.pinned (OpenSpec.ofChange compilesSpec)

/-- ITS FALSE NEIGHBOUR: 'it returns false'. Refute it at one input. -/
def compilesWrong : ChangeSpec := { name := "compiles", fn := fun _ => fun
  | [d] => { results := [.lit (.bool false)], args := [d] }
  | _ => none }
def CompilesWrongFalsely : Prop := compilesRow.holds Tryz.pinned (OpenSpec.ofChange compilesWrong)

/-- 'fathomlaw.Runs': WHATEVER THE INPUT: true; the input reads as it did. -/
def runsSpec : ChangeSpec := { name := "runs", fn := fun _ => fun
  | [d] => { results := [.lit (.bool true)], args := [d] }
  | _ => none }
def runsRow : OpenClaim := { program := "ytmeiikjpaepogaagreatdoor", sum := "b7f6a4ecec4a8533c409bd4e042586c08d393c61f5ca8952d36e8549ce1b7c4b", func := "fathom/fathomlaw.Runs", spec := "runs", unfollowed := true, recurses := true, named := ["fathom/compiler.vocabulary", "strconv.ErrSyntax", "strconv.ErrRange", "internal/strconv.uint64pow10", "math/bits.deBruijn32tab", "math/bits.deBruijn64tab"], apart := false, laid := [("math/bits.deBruijn32tab", laid_math_bits_deBruijn32tab), ("math/bits.deBruijn64tab", laid_math_bits_deBruijn64tab), ("internal/strconv.uint64pow10", laid_internal_strconv_uint64pow10), ("strconv.ErrRange", laid_strconv_ErrRange), ("strconv.ErrSyntax", laid_strconv_ErrSyntax), ("fathom/compiler.vocabulary", laid_fathom_compiler_vocabulary)] }
def RunsSaid : Prop := runsRow.holds Tryz.pinned (OpenSpec.ofChange runsSpec)

/-- ITS FALSE NEIGHBOUR: 'it returns false'. Refute it at one input. -/
def runsWrong : ChangeSpec := { name := "runs", fn := fun _ => fun
  | [d] => { results := [.lit (.bool false)], args := [d] }
  | _ => none }
def RunsWrongFalsely : Prop := runsRow.holds Tryz.pinned (OpenSpec.ofChange runsWrong)

/-- 'fathomlaw.Loads': WHATEVER THE INPUT: true; the input reads as it did. -/
def loadsSpec : ChangeSpec := { name := "loads", fn := fun _ => fun
  | [d] => { results := [.lit (.bool true)], args := [d] }
  | _ => none }
def loadsRow : OpenClaim := { program := "ytmeiikjpaepogaagreatdoor", sum := "b7f6a4ecec4a8533c409bd4e042586c08d393c61f5ca8952d36e8549ce1b7c4b", func := "fathom/fathomlaw.Loads", spec := "loads", unfollowed := true, recurses := true, named := ["fathom/compiler.vocabulary", "strconv.ErrSyntax", "strconv.ErrRange", "internal/strconv.uint64pow10", "math/bits.deBruijn32tab", "math/bits.deBruijn64tab"], apart := false, laid := [("math/bits.deBruijn32tab", laid_math_bits_deBruijn32tab), ("math/bits.deBruijn64tab", laid_math_bits_deBruijn64tab), ("internal/strconv.uint64pow10", laid_internal_strconv_uint64pow10), ("strconv.ErrRange", laid_strconv_ErrRange), ("strconv.ErrSyntax", laid_strconv_ErrSyntax), ("fathom/compiler.vocabulary", laid_fathom_compiler_vocabulary)] }
def LoadsSaid : Prop := loadsRow.holds Tryz.pinned (OpenSpec.ofChange loadsSpec)

/-- ITS FALSE NEIGHBOUR: 'it returns false'. Refute it at one input. -/
def loadsWrong : ChangeSpec := { name := "loads", fn := fun _ => fun
  | [d] => { results := [.lit (.bool false)], args := [d] }
  | _ => none }
def LoadsWrongFalsely : Prop := loadsRow.holds Tryz.pinned (OpenSpec.ofChange loadsWrong)

/-- 'fathomkeep.Listed': WHATEVER THE INPUT: true; the input reads as it did. -/
def listedSpec : ChangeSpec := { name := "listed", fn := fun _ => fun
  | [d1, d2, d3, d4, d5, d6] => { results := [.lit (.bool true)], args := [d1, d2, d3, d4, d5, d6] }
  | _ => none }
def listedRow : OpenClaim := { program := "ytmeiikjpaepogaagreatdoor", sum := "b7f6a4ecec4a8533c409bd4e042586c08d393c61f5ca8952d36e8549ce1b7c4b", func := "fathom/fathomkeep.Listed", spec := "listed", unfollowed := true, recurses := true, named := ["fathom/compiler.vocabulary", "strconv.ErrSyntax", "strconv.ErrRange", "internal/strconv.uint64pow10", "math/bits.deBruijn32tab", "math/bits.deBruijn64tab"], apart := false, laid := [("math/bits.deBruijn32tab", laid_math_bits_deBruijn32tab), ("math/bits.deBruijn64tab", laid_math_bits_deBruijn64tab), ("internal/strconv.uint64pow10", laid_internal_strconv_uint64pow10), ("strconv.ErrRange", laid_strconv_ErrRange), ("strconv.ErrSyntax", laid_strconv_ErrSyntax), ("fathom/compiler.vocabulary", laid_fathom_compiler_vocabulary)] }
def ListedSaid : Prop := listedRow.holds Tryz.pinned (OpenSpec.ofChange listedSpec)

/-- ITS FALSE NEIGHBOUR: 'it returns false'. Refute it at one input. -/
def listedWrong : ChangeSpec := { name := "listed", fn := fun _ => fun
  | [d1, d2, d3, d4, d5, d6] => { results := [.lit (.bool false)], args := [d1, d2, d3, d4, d5, d6] }
  | _ => none }
def ListedWrongFalsely : Prop := listedRow.holds Tryz.pinned (OpenSpec.ofChange listedWrong)

/-- 'fathomkeep.Any': WHATEVER THE INPUT: true; the input reads as it did. -/
def anySpec : ChangeSpec := { name := "any", fn := fun _ => fun
  | [d1, d2, d3, d4, d5] => { results := [.lit (.bool true)], args := [d1, d2, d3, d4, d5] }
  | _ => none }
def anyRow : OpenClaim := { program := "ytmeiikjpaepogaagreatdoor", sum := "b7f6a4ecec4a8533c409bd4e042586c08d393c61f5ca8952d36e8549ce1b7c4b", func := "fathom/fathomkeep.Any", spec := "any", unfollowed := true, recurses := true, named := ["fathom/compiler.vocabulary", "strconv.ErrSyntax", "strconv.ErrRange", "internal/strconv.uint64pow10", "math/bits.deBruijn32tab", "math/bits.deBruijn64tab"], apart := false, laid := [("math/bits.deBruijn32tab", laid_math_bits_deBruijn32tab), ("math/bits.deBruijn64tab", laid_math_bits_deBruijn64tab), ("internal/strconv.uint64pow10", laid_internal_strconv_uint64pow10), ("strconv.ErrRange", laid_strconv_ErrRange), ("strconv.ErrSyntax", laid_strconv_ErrSyntax), ("fathom/compiler.vocabulary", laid_fathom_compiler_vocabulary)] }
def AnySaid : Prop := anyRow.holds Tryz.pinned (OpenSpec.ofChange anySpec)

/-- ITS FALSE NEIGHBOUR: 'it returns false'. Refute it at one input. -/
def anyWrong : ChangeSpec := { name := "any", fn := fun _ => fun
  | [d1, d2, d3, d4, d5] => { results := [.lit (.bool false)], args := [d1, d2, d3, d4, d5] }
  | _ => none }
def AnyWrongFalsely : Prop := anyRow.holds Tryz.pinned (OpenSpec.ofChange anyWrong)

/-- 'fathomlaw.Lists': WHATEVER THE INPUT: true; the input reads as it did. -/
def listsSpec : ChangeSpec := { name := "lists", fn := fun _ => fun
  | [d] => { results := [.lit (.bool true)], args := [d] }
  | _ => none }
def listsRow : OpenClaim := { program := "ytmeiikjpaepogaagreatdoor", sum := "b7f6a4ecec4a8533c409bd4e042586c08d393c61f5ca8952d36e8549ce1b7c4b", func := "fathom/fathomlaw.Lists", spec := "lists", unfollowed := true, recurses := true, named := ["fathom/compiler.vocabulary", "strconv.ErrSyntax", "strconv.ErrRange", "internal/strconv.uint64pow10", "math/bits.deBruijn32tab", "math/bits.deBruijn64tab"], apart := false, laid := [("math/bits.deBruijn32tab", laid_math_bits_deBruijn32tab), ("math/bits.deBruijn64tab", laid_math_bits_deBruijn64tab), ("internal/strconv.uint64pow10", laid_internal_strconv_uint64pow10), ("strconv.ErrRange", laid_strconv_ErrRange), ("strconv.ErrSyntax", laid_strconv_ErrSyntax), ("fathom/compiler.vocabulary", laid_fathom_compiler_vocabulary)] }
def ListsSaid : Prop := listsRow.holds Tryz.pinned (OpenSpec.ofChange listsSpec)

/-- ITS FALSE NEIGHBOUR: 'it returns false'. Refute it at one input. -/
def listsWrong : ChangeSpec := { name := "lists", fn := fun _ => fun
  | [d] => { results := [.lit (.bool false)], args := [d] }
  | _ => none }
def ListsWrongFalsely : Prop := listsRow.holds Tryz.pinned (OpenSpec.ofChange listsWrong)

/-- 'fathomkeep.Unseen': WHATEVER THE INPUT: true; the input reads as it did. -/
def unseenSpec : ChangeSpec := { name := "unseen", fn := fun _ => fun
  | [d1, d2, d3, d4, d5, d6, d7] => { results := [.lit (.bool true)], args := [d1, d2, d3, d4, d5, d6, d7] }
  | _ => none }
def unseenRow : OpenClaim := { program := "ytmeiikjpaepogaagreatdoor", sum := "b7f6a4ecec4a8533c409bd4e042586c08d393c61f5ca8952d36e8549ce1b7c4b", func := "fathom/fathomkeep.Unseen", spec := "unseen", unfollowed := true, recurses := true, named := ["fathom/compiler.vocabulary", "strconv.ErrSyntax", "strconv.ErrRange", "internal/strconv.uint64pow10", "math/bits.deBruijn32tab", "math/bits.deBruijn64tab"], apart := false, laid := [("math/bits.deBruijn32tab", laid_math_bits_deBruijn32tab), ("math/bits.deBruijn64tab", laid_math_bits_deBruijn64tab), ("internal/strconv.uint64pow10", laid_internal_strconv_uint64pow10), ("strconv.ErrRange", laid_strconv_ErrRange), ("strconv.ErrSyntax", laid_strconv_ErrSyntax), ("fathom/compiler.vocabulary", laid_fathom_compiler_vocabulary)] }
def UnseenSaid : Prop := unseenRow.holds Tryz.pinned (OpenSpec.ofChange unseenSpec)

/-- ITS FALSE NEIGHBOUR: 'it returns false'. Refute it at one input. -/
def unseenWrong : ChangeSpec := { name := "unseen", fn := fun _ => fun
  | [d1, d2, d3, d4, d5, d6, d7] => { results := [.lit (.bool false)], args := [d1, d2, d3, d4, d5, d6, d7] }
  | _ => none }
def UnseenWrongFalsely : Prop := unseenRow.holds Tryz.pinned (OpenSpec.ofChange unseenWrong)

/-- 'fathomkeep.Tailed': WHATEVER THE INPUT: true; the input reads as it did. -/
def tailedSpec : ChangeSpec := { name := "tailed", fn := fun _ => fun
  | [d1, d2, d3, d4, d5] => { results := [.lit (.bool true)], args := [d1, d2, d3, d4, d5] }
  | _ => none }
def tailedRow : OpenClaim := { program := "ytmeiikjpaepogaagreatdoor", sum := "b7f6a4ecec4a8533c409bd4e042586c08d393c61f5ca8952d36e8549ce1b7c4b", func := "fathom/fathomkeep.Tailed", spec := "tailed", unfollowed := true, recurses := true, named := ["fathom/compiler.vocabulary", "strconv.ErrSyntax", "strconv.ErrRange", "internal/strconv.uint64pow10", "math/bits.deBruijn32tab", "math/bits.deBruijn64tab"], apart := false, laid := [("math/bits.deBruijn32tab", laid_math_bits_deBruijn32tab), ("math/bits.deBruijn64tab", laid_math_bits_deBruijn64tab), ("internal/strconv.uint64pow10", laid_internal_strconv_uint64pow10), ("strconv.ErrRange", laid_strconv_ErrRange), ("strconv.ErrSyntax", laid_strconv_ErrSyntax), ("fathom/compiler.vocabulary", laid_fathom_compiler_vocabulary)] }
def TailedSaid : Prop := tailedRow.holds Tryz.pinned (OpenSpec.ofChange tailedSpec)

/-- ITS FALSE NEIGHBOUR: 'it returns false'. Refute it at one input. -/
def tailedWrong : ChangeSpec := { name := "tailed", fn := fun _ => fun
  | [d1, d2, d3, d4, d5] => { results := [.lit (.bool false)], args := [d1, d2, d3, d4, d5] }
  | _ => none }
def TailedWrongFalsely : Prop := tailedRow.holds Tryz.pinned (OpenSpec.ofChange tailedWrong)

/-- 'fathomkeep.Reckoned': WHATEVER THE INPUT: true; the input reads as it did. -/
def reckonedSpec : ChangeSpec := { name := "reckoned", fn := fun _ => fun
  | [d1, d2] => { results := [.lit (.bool true)], args := [d1, d2] }
  | _ => none }
def reckonedRow : OpenClaim := { program := "ytmeiikjpaepogaagreatdoor", sum := "b7f6a4ecec4a8533c409bd4e042586c08d393c61f5ca8952d36e8549ce1b7c4b", func := "fathom/fathomkeep.Reckoned", spec := "reckoned", unfollowed := true, recurses := true, named := ["fathom/compiler.vocabulary", "strconv.ErrSyntax", "strconv.ErrRange", "internal/strconv.uint64pow10", "math/bits.deBruijn32tab", "math/bits.deBruijn64tab"], apart := false, laid := [("math/bits.deBruijn32tab", laid_math_bits_deBruijn32tab), ("math/bits.deBruijn64tab", laid_math_bits_deBruijn64tab), ("internal/strconv.uint64pow10", laid_internal_strconv_uint64pow10), ("strconv.ErrRange", laid_strconv_ErrRange), ("strconv.ErrSyntax", laid_strconv_ErrSyntax), ("fathom/compiler.vocabulary", laid_fathom_compiler_vocabulary)] }
def ReckonedSaid : Prop := reckonedRow.holds Tryz.pinned (OpenSpec.ofChange reckonedSpec)

/-- ITS FALSE NEIGHBOUR: 'it returns false'. Refute it at one input. -/
def reckonedWrong : ChangeSpec := { name := "reckoned", fn := fun _ => fun
  | [d1, d2] => { results := [.lit (.bool false)], args := [d1, d2] }
  | _ => none }
def ReckonedWrongFalsely : Prop := reckonedRow.holds Tryz.pinned (OpenSpec.ofChange reckonedWrong)

/-- 'fathomkeep.Counted': WHATEVER THE INPUT: true; the input reads as it did. -/
def countedSpec : ChangeSpec := { name := "counted", fn := fun _ => fun
  | [d1, d2, d3] => { results := [.lit (.bool true)], args := [d1, d2, d3] }
  | _ => none }
def countedRow : OpenClaim := { program := "ytmeiikjpaepogaagreatdoor", sum := "b7f6a4ecec4a8533c409bd4e042586c08d393c61f5ca8952d36e8549ce1b7c4b", func := "fathom/fathomkeep.Counted", spec := "counted", unfollowed := true, recurses := true, named := ["fathom/compiler.vocabulary", "strconv.ErrSyntax", "strconv.ErrRange", "internal/strconv.uint64pow10", "math/bits.deBruijn32tab", "math/bits.deBruijn64tab"], apart := false, laid := [("math/bits.deBruijn32tab", laid_math_bits_deBruijn32tab), ("math/bits.deBruijn64tab", laid_math_bits_deBruijn64tab), ("internal/strconv.uint64pow10", laid_internal_strconv_uint64pow10), ("strconv.ErrRange", laid_strconv_ErrRange), ("strconv.ErrSyntax", laid_strconv_ErrSyntax), ("fathom/compiler.vocabulary", laid_fathom_compiler_vocabulary)] }
def CountedSaid : Prop := countedRow.holds Tryz.pinned (OpenSpec.ofChange countedSpec)

/-- ITS FALSE NEIGHBOUR: 'it returns false'. Refute it at one input. -/
def countedWrong : ChangeSpec := { name := "counted", fn := fun _ => fun
  | [d1, d2, d3] => { results := [.lit (.bool false)], args := [d1, d2, d3] }
  | _ => none }
def CountedWrongFalsely : Prop := countedRow.holds Tryz.pinned (OpenSpec.ofChange countedWrong)

/-- 'fathomkeep.Frozen': WHATEVER THE INPUT: true; the input reads as it did. -/
def frozenSpec : ChangeSpec := { name := "frozen", fn := fun _ => fun
  | [d1, d2, d3, d4, d5] => { results := [.lit (.bool true)], args := [d1, d2, d3, d4, d5] }
  | _ => none }
def frozenRow : OpenClaim := { program := "ytmeiikjpaepogaagreatdoor", sum := "b7f6a4ecec4a8533c409bd4e042586c08d393c61f5ca8952d36e8549ce1b7c4b", func := "fathom/fathomkeep.Frozen", spec := "frozen", unfollowed := true, recurses := true, named := ["fathom/compiler.vocabulary", "strconv.ErrSyntax", "strconv.ErrRange", "internal/strconv.uint64pow10", "math/bits.deBruijn32tab", "math/bits.deBruijn64tab"], apart := false, laid := [("math/bits.deBruijn32tab", laid_math_bits_deBruijn32tab), ("math/bits.deBruijn64tab", laid_math_bits_deBruijn64tab), ("internal/strconv.uint64pow10", laid_internal_strconv_uint64pow10), ("strconv.ErrRange", laid_strconv_ErrRange), ("strconv.ErrSyntax", laid_strconv_ErrSyntax), ("fathom/compiler.vocabulary", laid_fathom_compiler_vocabulary)] }
def FrozenSaid : Prop := frozenRow.holds Tryz.pinned (OpenSpec.ofChange frozenSpec)

/-- ITS FALSE NEIGHBOUR: 'it returns false'. Refute it at one input. -/
def frozenWrong : ChangeSpec := { name := "frozen", fn := fun _ => fun
  | [d1, d2, d3, d4, d5] => { results := [.lit (.bool false)], args := [d1, d2, d3, d4, d5] }
  | _ => none }
def FrozenWrongFalsely : Prop := frozenRow.holds Tryz.pinned (OpenSpec.ofChange frozenWrong)

/-- 'fathomlaw.All': WHATEVER THE INPUT: true; the input reads as it did. -/
def allSpec : ChangeSpec := { name := "all", fn := fun _ => fun
  | [d] => { results := [.lit (.bool true)], args := [d] }
  | _ => none }
def allRow : OpenClaim := { program := "ytmeiikjpaepogaagreatdoor", sum := "b7f6a4ecec4a8533c409bd4e042586c08d393c61f5ca8952d36e8549ce1b7c4b", func := "fathom/fathomlaw.All", spec := "all", unfollowed := true, recurses := true, named := ["fathom/compiler.vocabulary", "strconv.ErrSyntax", "strconv.ErrRange", "internal/strconv.uint64pow10", "math/bits.deBruijn32tab", "math/bits.deBruijn64tab"], apart := false, laid := [("math/bits.deBruijn32tab", laid_math_bits_deBruijn32tab), ("math/bits.deBruijn64tab", laid_math_bits_deBruijn64tab), ("internal/strconv.uint64pow10", laid_internal_strconv_uint64pow10), ("strconv.ErrRange", laid_strconv_ErrRange), ("strconv.ErrSyntax", laid_strconv_ErrSyntax), ("fathom/compiler.vocabulary", laid_fathom_compiler_vocabulary)] }
def AllSaid : Prop := allRow.holds Tryz.pinned (OpenSpec.ofChange allSpec)

/-- ITS FALSE NEIGHBOUR: 'it returns false'. Refute it at one input. -/
def allWrong : ChangeSpec := { name := "all", fn := fun _ => fun
  | [d] => { results := [.lit (.bool false)], args := [d] }
  | _ => none }
def AllWrongFalsely : Prop := allRow.holds Tryz.pinned (OpenSpec.ofChange allWrong)

/- THE SECOND FORM. 'bulk': how many values and letters a reading holds, each counted each time it is reached (what is shared counts as often as it is met; a slice's spare places count too). A statement '..UptoSaid' is the law's where the arguments, and the package variables that the reading takes, are together of bulk at most 1048576: NARROWER than '..Said'. Prove '..Said' where nothing that the law and all that it calls make is longer than what came in: it says more and counts as full. Else prove '..UptoSaid'. A law counts once. -/
mutual
def uptoBulk {H : Type} : DataW H → Nat
  | .lit (.string bytes) => bytes.length + 1
  | .lit _ => 1
  | .nil => 1
  | .ptr d => uptoBulk d + 1
  | .slice elems spare => uptoBulkAll elems + uptoBulkAll spare + 1
  | .agg parts => uptoBulkAll parts + 1
  | .iface _ d => uptoBulk d + 1
  | .map entries => uptoBulkEntries entries + 1
  | .held _ => 1
def uptoBulkAll {H : Type} : List (DataW H) → Nat
  | [] => 0
  | d :: r => uptoBulk d + uptoBulkAll r
def uptoBulkEntries {H : Type} : List (Lit × DataW H) → Nat
  | [] => 0
  | x :: r => uptoBulkEntry x + uptoBulkEntries r
def uptoBulkEntry {H : Type} : Lit × DataW H → Nat
  | (.string bytes, d) => bytes.length + uptoBulk d + 1
  | (_, d) => uptoBulk d + 1
 end
def uptoSmall : (H : Type) → List (DataW H) → Bool := fun _ ds => decide (uptoBulkAll ds ≤ 1048576)
def OpenSpec.upto (s : _root_.Go.ChangeSpec) : _root_.Go.OpenSpec := { _root_.Go.OpenSpec.ofChange s with cond := some uptoSmall }

/-- 'fathomlaw.Compiles', WHERE WHAT IT READS IS OF BULK AT MOST 1048576: true; the input reads as it did. -/
def compilesUptoRow : OpenClaim := { program := "ytmeiikjpaepogaagreatdoor", sum := "b7f6a4ecec4a8533c409bd4e042586c08d393c61f5ca8952d36e8549ce1b7c4b", func := "fathom/fathomlaw.Compiles", spec := "compiles", unfollowed := true, recurses := true, named := ["fathom/compiler.vocabulary", "strconv.ErrSyntax", "strconv.ErrRange", "internal/strconv.uint64pow10", "math/bits.deBruijn32tab", "math/bits.deBruijn64tab"], apart := false, laid := [("math/bits.deBruijn32tab", laid_math_bits_deBruijn32tab), ("math/bits.deBruijn64tab", laid_math_bits_deBruijn64tab), ("internal/strconv.uint64pow10", laid_internal_strconv_uint64pow10), ("strconv.ErrRange", laid_strconv_ErrRange), ("strconv.ErrSyntax", laid_strconv_ErrSyntax), ("fathom/compiler.vocabulary", laid_fathom_compiler_vocabulary)], narrowed := true }
def CompilesUptoSaid : Prop := compilesUptoRow.holds Tryz.pinned (OpenSpec.upto compilesSpec)

/-- 'fathomlaw.Runs', WHERE WHAT IT READS IS OF BULK AT MOST 1048576: true; the input reads as it did. -/
def runsUptoRow : OpenClaim := { program := "ytmeiikjpaepogaagreatdoor", sum := "b7f6a4ecec4a8533c409bd4e042586c08d393c61f5ca8952d36e8549ce1b7c4b", func := "fathom/fathomlaw.Runs", spec := "runs", unfollowed := true, recurses := true, named := ["fathom/compiler.vocabulary", "strconv.ErrSyntax", "strconv.ErrRange", "internal/strconv.uint64pow10", "math/bits.deBruijn32tab", "math/bits.deBruijn64tab"], apart := false, laid := [("math/bits.deBruijn32tab", laid_math_bits_deBruijn32tab), ("math/bits.deBruijn64tab", laid_math_bits_deBruijn64tab), ("internal/strconv.uint64pow10", laid_internal_strconv_uint64pow10), ("strconv.ErrRange", laid_strconv_ErrRange), ("strconv.ErrSyntax", laid_strconv_ErrSyntax), ("fathom/compiler.vocabulary", laid_fathom_compiler_vocabulary)], narrowed := true }
def RunsUptoSaid : Prop := runsUptoRow.holds Tryz.pinned (OpenSpec.upto runsSpec)

/-- 'fathomlaw.Loads', WHERE WHAT IT READS IS OF BULK AT MOST 1048576: true; the input reads as it did. -/
def loadsUptoRow : OpenClaim := { program := "ytmeiikjpaepogaagreatdoor", sum := "b7f6a4ecec4a8533c409bd4e042586c08d393c61f5ca8952d36e8549ce1b7c4b", func := "fathom/fathomlaw.Loads", spec := "loads", unfollowed := true, recurses := true, named := ["fathom/compiler.vocabulary", "strconv.ErrSyntax", "strconv.ErrRange", "internal/strconv.uint64pow10", "math/bits.deBruijn32tab", "math/bits.deBruijn64tab"], apart := false, laid := [("math/bits.deBruijn32tab", laid_math_bits_deBruijn32tab), ("math/bits.deBruijn64tab", laid_math_bits_deBruijn64tab), ("internal/strconv.uint64pow10", laid_internal_strconv_uint64pow10), ("strconv.ErrRange", laid_strconv_ErrRange), ("strconv.ErrSyntax", laid_strconv_ErrSyntax), ("fathom/compiler.vocabulary", laid_fathom_compiler_vocabulary)], narrowed := true }
def LoadsUptoSaid : Prop := loadsUptoRow.holds Tryz.pinned (OpenSpec.upto loadsSpec)

/-- 'fathomkeep.Listed', WHERE WHAT IT READS IS OF BULK AT MOST 1048576: true; the input reads as it did. -/
def listedUptoRow : OpenClaim := { program := "ytmeiikjpaepogaagreatdoor", sum := "b7f6a4ecec4a8533c409bd4e042586c08d393c61f5ca8952d36e8549ce1b7c4b", func := "fathom/fathomkeep.Listed", spec := "listed", unfollowed := true, recurses := true, named := ["fathom/compiler.vocabulary", "strconv.ErrSyntax", "strconv.ErrRange", "internal/strconv.uint64pow10", "math/bits.deBruijn32tab", "math/bits.deBruijn64tab"], apart := false, laid := [("math/bits.deBruijn32tab", laid_math_bits_deBruijn32tab), ("math/bits.deBruijn64tab", laid_math_bits_deBruijn64tab), ("internal/strconv.uint64pow10", laid_internal_strconv_uint64pow10), ("strconv.ErrRange", laid_strconv_ErrRange), ("strconv.ErrSyntax", laid_strconv_ErrSyntax), ("fathom/compiler.vocabulary", laid_fathom_compiler_vocabulary)], narrowed := true }
def ListedUptoSaid : Prop := listedUptoRow.holds Tryz.pinned (OpenSpec.upto listedSpec)

/-- 'fathomkeep.Any', WHERE WHAT IT READS IS OF BULK AT MOST 1048576: true; the input reads as it did. -/
def anyUptoRow : OpenClaim := { program := "ytmeiikjpaepogaagreatdoor", sum := "b7f6a4ecec4a8533c409bd4e042586c08d393c61f5ca8952d36e8549ce1b7c4b", func := "fathom/fathomkeep.Any", spec := "any", unfollowed := true, recurses := true, named := ["fathom/compiler.vocabulary", "strconv.ErrSyntax", "strconv.ErrRange", "internal/strconv.uint64pow10", "math/bits.deBruijn32tab", "math/bits.deBruijn64tab"], apart := false, laid := [("math/bits.deBruijn32tab", laid_math_bits_deBruijn32tab), ("math/bits.deBruijn64tab", laid_math_bits_deBruijn64tab), ("internal/strconv.uint64pow10", laid_internal_strconv_uint64pow10), ("strconv.ErrRange", laid_strconv_ErrRange), ("strconv.ErrSyntax", laid_strconv_ErrSyntax), ("fathom/compiler.vocabulary", laid_fathom_compiler_vocabulary)], narrowed := true }
def AnyUptoSaid : Prop := anyUptoRow.holds Tryz.pinned (OpenSpec.upto anySpec)

/-- 'fathomlaw.Lists', WHERE WHAT IT READS IS OF BULK AT MOST 1048576: true; the input reads as it did. -/
def listsUptoRow : OpenClaim := { program := "ytmeiikjpaepogaagreatdoor", sum := "b7f6a4ecec4a8533c409bd4e042586c08d393c61f5ca8952d36e8549ce1b7c4b", func := "fathom/fathomlaw.Lists", spec := "lists", unfollowed := true, recurses := true, named := ["fathom/compiler.vocabulary", "strconv.ErrSyntax", "strconv.ErrRange", "internal/strconv.uint64pow10", "math/bits.deBruijn32tab", "math/bits.deBruijn64tab"], apart := false, laid := [("math/bits.deBruijn32tab", laid_math_bits_deBruijn32tab), ("math/bits.deBruijn64tab", laid_math_bits_deBruijn64tab), ("internal/strconv.uint64pow10", laid_internal_strconv_uint64pow10), ("strconv.ErrRange", laid_strconv_ErrRange), ("strconv.ErrSyntax", laid_strconv_ErrSyntax), ("fathom/compiler.vocabulary", laid_fathom_compiler_vocabulary)], narrowed := true }
def ListsUptoSaid : Prop := listsUptoRow.holds Tryz.pinned (OpenSpec.upto listsSpec)

/-- 'fathomkeep.Unseen', WHERE WHAT IT READS IS OF BULK AT MOST 1048576: true; the input reads as it did. -/
def unseenUptoRow : OpenClaim := { program := "ytmeiikjpaepogaagreatdoor", sum := "b7f6a4ecec4a8533c409bd4e042586c08d393c61f5ca8952d36e8549ce1b7c4b", func := "fathom/fathomkeep.Unseen", spec := "unseen", unfollowed := true, recurses := true, named := ["fathom/compiler.vocabulary", "strconv.ErrSyntax", "strconv.ErrRange", "internal/strconv.uint64pow10", "math/bits.deBruijn32tab", "math/bits.deBruijn64tab"], apart := false, laid := [("math/bits.deBruijn32tab", laid_math_bits_deBruijn32tab), ("math/bits.deBruijn64tab", laid_math_bits_deBruijn64tab), ("internal/strconv.uint64pow10", laid_internal_strconv_uint64pow10), ("strconv.ErrRange", laid_strconv_ErrRange), ("strconv.ErrSyntax", laid_strconv_ErrSyntax), ("fathom/compiler.vocabulary", laid_fathom_compiler_vocabulary)], narrowed := true }
def UnseenUptoSaid : Prop := unseenUptoRow.holds Tryz.pinned (OpenSpec.upto unseenSpec)

/-- 'fathomkeep.Tailed', WHERE WHAT IT READS IS OF BULK AT MOST 1048576: true; the input reads as it did. -/
def tailedUptoRow : OpenClaim := { program := "ytmeiikjpaepogaagreatdoor", sum := "b7f6a4ecec4a8533c409bd4e042586c08d393c61f5ca8952d36e8549ce1b7c4b", func := "fathom/fathomkeep.Tailed", spec := "tailed", unfollowed := true, recurses := true, named := ["fathom/compiler.vocabulary", "strconv.ErrSyntax", "strconv.ErrRange", "internal/strconv.uint64pow10", "math/bits.deBruijn32tab", "math/bits.deBruijn64tab"], apart := false, laid := [("math/bits.deBruijn32tab", laid_math_bits_deBruijn32tab), ("math/bits.deBruijn64tab", laid_math_bits_deBruijn64tab), ("internal/strconv.uint64pow10", laid_internal_strconv_uint64pow10), ("strconv.ErrRange", laid_strconv_ErrRange), ("strconv.ErrSyntax", laid_strconv_ErrSyntax), ("fathom/compiler.vocabulary", laid_fathom_compiler_vocabulary)], narrowed := true }
def TailedUptoSaid : Prop := tailedUptoRow.holds Tryz.pinned (OpenSpec.upto tailedSpec)

/-- 'fathomkeep.Reckoned', WHERE WHAT IT READS IS OF BULK AT MOST 1048576: true; the input reads as it did. -/
def reckonedUptoRow : OpenClaim := { program := "ytmeiikjpaepogaagreatdoor", sum := "b7f6a4ecec4a8533c409bd4e042586c08d393c61f5ca8952d36e8549ce1b7c4b", func := "fathom/fathomkeep.Reckoned", spec := "reckoned", unfollowed := true, recurses := true, named := ["fathom/compiler.vocabulary", "strconv.ErrSyntax", "strconv.ErrRange", "internal/strconv.uint64pow10", "math/bits.deBruijn32tab", "math/bits.deBruijn64tab"], apart := false, laid := [("math/bits.deBruijn32tab", laid_math_bits_deBruijn32tab), ("math/bits.deBruijn64tab", laid_math_bits_deBruijn64tab), ("internal/strconv.uint64pow10", laid_internal_strconv_uint64pow10), ("strconv.ErrRange", laid_strconv_ErrRange), ("strconv.ErrSyntax", laid_strconv_ErrSyntax), ("fathom/compiler.vocabulary", laid_fathom_compiler_vocabulary)], narrowed := true }
def ReckonedUptoSaid : Prop := reckonedUptoRow.holds Tryz.pinned (OpenSpec.upto reckonedSpec)

/-- 'fathomkeep.Counted', WHERE WHAT IT READS IS OF BULK AT MOST 1048576: true; the input reads as it did. -/
def countedUptoRow : OpenClaim := { program := "ytmeiikjpaepogaagreatdoor", sum := "b7f6a4ecec4a8533c409bd4e042586c08d393c61f5ca8952d36e8549ce1b7c4b", func := "fathom/fathomkeep.Counted", spec := "counted", unfollowed := true, recurses := true, named := ["fathom/compiler.vocabulary", "strconv.ErrSyntax", "strconv.ErrRange", "internal/strconv.uint64pow10", "math/bits.deBruijn32tab", "math/bits.deBruijn64tab"], apart := false, laid := [("math/bits.deBruijn32tab", laid_math_bits_deBruijn32tab), ("math/bits.deBruijn64tab", laid_math_bits_deBruijn64tab), ("internal/strconv.uint64pow10", laid_internal_strconv_uint64pow10), ("strconv.ErrRange", laid_strconv_ErrRange), ("strconv.ErrSyntax", laid_strconv_ErrSyntax), ("fathom/compiler.vocabulary", laid_fathom_compiler_vocabulary)], narrowed := true }
def CountedUptoSaid : Prop := countedUptoRow.holds Tryz.pinned (OpenSpec.upto countedSpec)

/-- 'fathomkeep.Frozen', WHERE WHAT IT READS IS OF BULK AT MOST 1048576: true; the input reads as it did. -/
def frozenUptoRow : OpenClaim := { program := "ytmeiikjpaepogaagreatdoor", sum := "b7f6a4ecec4a8533c409bd4e042586c08d393c61f5ca8952d36e8549ce1b7c4b", func := "fathom/fathomkeep.Frozen", spec := "frozen", unfollowed := true, recurses := true, named := ["fathom/compiler.vocabulary", "strconv.ErrSyntax", "strconv.ErrRange", "internal/strconv.uint64pow10", "math/bits.deBruijn32tab", "math/bits.deBruijn64tab"], apart := false, laid := [("math/bits.deBruijn32tab", laid_math_bits_deBruijn32tab), ("math/bits.deBruijn64tab", laid_math_bits_deBruijn64tab), ("internal/strconv.uint64pow10", laid_internal_strconv_uint64pow10), ("strconv.ErrRange", laid_strconv_ErrRange), ("strconv.ErrSyntax", laid_strconv_ErrSyntax), ("fathom/compiler.vocabulary", laid_fathom_compiler_vocabulary)], narrowed := true }
def FrozenUptoSaid : Prop := frozenUptoRow.holds Tryz.pinned (OpenSpec.upto frozenSpec)

/-- 'fathomlaw.All', WHERE WHAT IT READS IS OF BULK AT MOST 1048576: true; the input reads as it did. -/
def allUptoRow : OpenClaim := { program := "ytmeiikjpaepogaagreatdoor", sum := "b7f6a4ecec4a8533c409bd4e042586c08d393c61f5ca8952d36e8549ce1b7c4b", func := "fathom/fathomlaw.All", spec := "all", unfollowed := true, recurses := true, named := ["fathom/compiler.vocabulary", "strconv.ErrSyntax", "strconv.ErrRange", "internal/strconv.uint64pow10", "math/bits.deBruijn32tab", "math/bits.deBruijn64tab"], apart := false, laid := [("math/bits.deBruijn32tab", laid_math_bits_deBruijn32tab), ("math/bits.deBruijn64tab", laid_math_bits_deBruijn64tab), ("internal/strconv.uint64pow10", laid_internal_strconv_uint64pow10), ("strconv.ErrRange", laid_strconv_ErrRange), ("strconv.ErrSyntax", laid_strconv_ErrSyntax), ("fathom/compiler.vocabulary", laid_fathom_compiler_vocabulary)], narrowed := true }
def AllUptoSaid : Prop := allUptoRow.holds Tryz.pinned (OpenSpec.upto allSpec)

end Rows
end Go.Proofs.YtmeiikjpaepogaaGreatDoor
