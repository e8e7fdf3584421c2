/-
  NARROWER THAN 'FOR EVERY INPUT', by the rows' own cells (each row's printed sentence says how): VarySmall: laid · VaryReads: laid · VaryRows: laid · VaryTakes: laid · XorRows: laid · XorTakes: laid · XorSame: laid.
  DERIVED. THE GIVEN ROWS OF THIS SEAT. 7 by the template 'for every input the law returns true; each argument reads behind the call as it read before'; 0 by the template 'total and deterministic' (their statements: YtaagjedkojlbpaaDoorTotals.lean).
  GIVEN WITH THE SEED: the statements are not yours to turn. If you find one false, say at which input.
  Laid BY PROGRAM, IN A SANDBOX (cutbox-rows.mjs): the forced cells as the released guide's own fill.sh prints them over the translation 77fa66aa0a91860f… (all of the seat's roots in one cut). By AI agents, Wed Nov 11 2026. No macro, syntax, notation, axiom, sorry.
-/
import Derived.Test.YtaagjedkojlbpaaDoorChecked
import GoSem.Claim
import GoSem.ClaimJoined
import GoSem.ClaimMapViews
import Derived.JoinedTies
import Derived.KernelRfl
namespace Go.Proofs.YtaagjedkojlbpaaDoor
/- THE CELL 'sum', in the pinned program and in every row, IS THE sha256 OF THE DUMP (.gsa) THAT YtaagjedkojlbpaaDoorProg.lean LOADS. Nothing in Lean hashes anything: it is a label: what it is worth is what the hold of that sum in a sandbox is worth. -/
noncomputable def Tryd.pinned : Pinned := { name := "ytaagjedkojlbpaadoor", sum := "77fa66aa0a91860fea8b91d354a7b9f1b9c01118464cdaf6006063c4a673991b", checked := Tryd.checked }
namespace Rows
def none {H : Type} : Left H := { results := [], args := [] }

/- WHAT THE LISTED PACKAGE-LEVEL VARIABLES READ AS WHEN THE CALL BEGINS. Each datum BY PROGRAM (the guide's laid-datum.mjs) off the statement by which the dump's own 'gosem.cut.vars' lays the variable. In a bare row this is a premise. The card (YtaagjedkojlbpaaDoorCards.lean) ties it to the program's text. -/
def laid_limnograph_vary_classes {H : Type} : DataW H := .agg [.lit (.int .i64 0), .lit (.int .i64 7), .lit (.int .i64 20), .lit (.int .i64 64)]
def laid_limnograph_vary_ways {H : Type} : DataW H := .agg [.lit (.int .i64 0), .lit (.int .i64 6), .lit (.int .i64 10), .lit (.int .i64 16), .lit (.int .i64 64)]
def laid_math_bits_deBruijn64tab {H : Type} : DataW H := .agg [.lit (.int .u8 0), .lit (.int .u8 1), .lit (.int .u8 56), .lit (.int .u8 2), .lit (.int .u8 57), .lit (.int .u8 49), .lit (.int .u8 28), .lit (.int .u8 3), .lit (.int .u8 61), .lit (.int .u8 58), .lit (.int .u8 42), .lit (.int .u8 50), .lit (.int .u8 38), .lit (.int .u8 29), .lit (.int .u8 17), .lit (.int .u8 4), .lit (.int .u8 62), .lit (.int .u8 47), .lit (.int .u8 59), .lit (.int .u8 36), .lit (.int .u8 45), .lit (.int .u8 43), .lit (.int .u8 51), .lit (.int .u8 22), .lit (.int .u8 53), .lit (.int .u8 39), .lit (.int .u8 33), .lit (.int .u8 30), .lit (.int .u8 24), .lit (.int .u8 18), .lit (.int .u8 12), .lit (.int .u8 5), .lit (.int .u8 63), .lit (.int .u8 55), .lit (.int .u8 48), .lit (.int .u8 27), .lit (.int .u8 60), .lit (.int .u8 41), .lit (.int .u8 37), .lit (.int .u8 16), .lit (.int .u8 46), .lit (.int .u8 35), .lit (.int .u8 44), .lit (.int .u8 21), .lit (.int .u8 52), .lit (.int .u8 32), .lit (.int .u8 23), .lit (.int .u8 11), .lit (.int .u8 54), .lit (.int .u8 26), .lit (.int .u8 40), .lit (.int .u8 15), .lit (.int .u8 34), .lit (.int .u8 20), .lit (.int .u8 31), .lit (.int .u8 10), .lit (.int .u8 25), .lit (.int .u8 14), .lit (.int .u8 19), .lit (.int .u8 9), .lit (.int .u8 13), .lit (.int .u8 8), .lit (.int .u8 7), .lit (.int .u8 6)]

/-- 'limnographlaw06.VarySmall': WHATEVER THE INPUT: true; the input reads as it did. -/
def varySmallSpec : ChangeSpec := { name := "varySmall", fn := fun _ => fun
  | [d] => { results := [.lit (.bool true)], args := [d] }
  | _ => none }
def varySmallRow : OpenClaim := { program := "ytaagjedkojlbpaadoor", sum := "77fa66aa0a91860fea8b91d354a7b9f1b9c01118464cdaf6006063c4a673991b", func := "limnograph/limnographlaw06.VarySmall", spec := "varySmall", named := ["limnograph/vary.classes", "limnograph/vary.ways"], apart := false, laid := [("limnograph/vary.classes", laid_limnograph_vary_classes), ("limnograph/vary.ways", laid_limnograph_vary_ways)] }
def VarySmallSaid : Prop := varySmallRow.holds Tryd.pinned (OpenSpec.ofChange varySmallSpec)

/-- ITS FALSE NEIGHBOUR: 'it returns false'. Refute it at one input. -/
def varySmallWrong : ChangeSpec := { name := "varySmall", fn := fun _ => fun
  | [d] => { results := [.lit (.bool false)], args := [d] }
  | _ => none }
def VarySmallWrongFalsely : Prop := varySmallRow.holds Tryd.pinned (OpenSpec.ofChange varySmallWrong)

/-- 'limnographlaw06.VaryReads': WHATEVER THE INPUT: true; the input reads as it did. -/
def varyReadsSpec : ChangeSpec := { name := "varyReads", fn := fun _ => fun
  | [d1, d2] => { results := [.lit (.bool true)], args := [d1, d2] }
  | _ => none }
def varyReadsRow : OpenClaim := { program := "ytaagjedkojlbpaadoor", sum := "77fa66aa0a91860fea8b91d354a7b9f1b9c01118464cdaf6006063c4a673991b", func := "limnograph/limnographlaw06.VaryReads", spec := "varyReads", named := ["limnograph/vary.classes", "limnograph/vary.ways"], apart := false, laid := [("limnograph/vary.classes", laid_limnograph_vary_classes), ("limnograph/vary.ways", laid_limnograph_vary_ways)] }
def VaryReadsSaid : Prop := varyReadsRow.holds Tryd.pinned (OpenSpec.ofChange varyReadsSpec)

/-- ITS FALSE NEIGHBOUR: 'it returns false'. Refute it at one input. -/
def varyReadsWrong : ChangeSpec := { name := "varyReads", fn := fun _ => fun
  | [d1, d2] => { results := [.lit (.bool false)], args := [d1, d2] }
  | _ => none }
def VaryReadsWrongFalsely : Prop := varyReadsRow.holds Tryd.pinned (OpenSpec.ofChange varyReadsWrong)

/-- 'limnographlaw06.VaryRows': WHATEVER THE INPUT: true; the input reads as it did. -/
def varyRowsSpec : ChangeSpec := { name := "varyRows", fn := fun _ => fun
  | [d1, d2] => { results := [.lit (.bool true)], args := [d1, d2] }
  | _ => none }
def varyRowsRow : OpenClaim := { program := "ytaagjedkojlbpaadoor", sum := "77fa66aa0a91860fea8b91d354a7b9f1b9c01118464cdaf6006063c4a673991b", func := "limnograph/limnographlaw06.VaryRows", spec := "varyRows", named := ["limnograph/vary.classes", "limnograph/vary.ways"], apart := false, laid := [("limnograph/vary.classes", laid_limnograph_vary_classes), ("limnograph/vary.ways", laid_limnograph_vary_ways)] }
def VaryRowsSaid : Prop := varyRowsRow.holds Tryd.pinned (OpenSpec.ofChange varyRowsSpec)

/-- ITS FALSE NEIGHBOUR: 'it returns false'. Refute it at one input. -/
def varyRowsWrong : ChangeSpec := { name := "varyRows", fn := fun _ => fun
  | [d1, d2] => { results := [.lit (.bool false)], args := [d1, d2] }
  | _ => none }
def VaryRowsWrongFalsely : Prop := varyRowsRow.holds Tryd.pinned (OpenSpec.ofChange varyRowsWrong)

/-- 'limnographlaw06.VaryTakes': WHATEVER THE INPUT: true; the input reads as it did. -/
def varyTakesSpec : ChangeSpec := { name := "varyTakes", fn := fun _ => fun
  | [d1, d2] => { results := [.lit (.bool true)], args := [d1, d2] }
  | _ => none }
def varyTakesRow : OpenClaim := { program := "ytaagjedkojlbpaadoor", sum := "77fa66aa0a91860fea8b91d354a7b9f1b9c01118464cdaf6006063c4a673991b", func := "limnograph/limnographlaw06.VaryTakes", spec := "varyTakes", named := ["limnograph/vary.classes", "limnograph/vary.ways"], apart := false, laid := [("limnograph/vary.classes", laid_limnograph_vary_classes), ("limnograph/vary.ways", laid_limnograph_vary_ways)] }
def VaryTakesSaid : Prop := varyTakesRow.holds Tryd.pinned (OpenSpec.ofChange varyTakesSpec)

/-- ITS FALSE NEIGHBOUR: 'it returns false'. Refute it at one input. -/
def varyTakesWrong : ChangeSpec := { name := "varyTakes", fn := fun _ => fun
  | [d1, d2] => { results := [.lit (.bool false)], args := [d1, d2] }
  | _ => none }
def VaryTakesWrongFalsely : Prop := varyTakesRow.holds Tryd.pinned (OpenSpec.ofChange varyTakesWrong)

/-- 'limnographlaw07.XorRows': WHATEVER THE INPUT: true; the input reads as it did. -/
def xorRowsSpec : ChangeSpec := { name := "xorRows", fn := fun _ => fun
  | [d1, d2] => { results := [.lit (.bool true)], args := [d1, d2] }
  | _ => none }
def xorRowsRow : OpenClaim := { program := "ytaagjedkojlbpaadoor", sum := "77fa66aa0a91860fea8b91d354a7b9f1b9c01118464cdaf6006063c4a673991b", func := "limnograph/limnographlaw07.XorRows", spec := "xorRows", named := ["math/bits.deBruijn64tab"], apart := false, laid := [("math/bits.deBruijn64tab", laid_math_bits_deBruijn64tab)] }
def XorRowsSaid : Prop := xorRowsRow.holds Tryd.pinned (OpenSpec.ofChange xorRowsSpec)

/-- ITS FALSE NEIGHBOUR: 'it returns false'. Refute it at one input. -/
def xorRowsWrong : ChangeSpec := { name := "xorRows", fn := fun _ => fun
  | [d1, d2] => { results := [.lit (.bool false)], args := [d1, d2] }
  | _ => none }
def XorRowsWrongFalsely : Prop := xorRowsRow.holds Tryd.pinned (OpenSpec.ofChange xorRowsWrong)

/-- 'limnographlaw07.XorTakes': WHATEVER THE INPUT: true; the input reads as it did. -/
def xorTakesSpec : ChangeSpec := { name := "xorTakes", fn := fun _ => fun
  | [d1, d2] => { results := [.lit (.bool true)], args := [d1, d2] }
  | _ => none }
def xorTakesRow : OpenClaim := { program := "ytaagjedkojlbpaadoor", sum := "77fa66aa0a91860fea8b91d354a7b9f1b9c01118464cdaf6006063c4a673991b", func := "limnograph/limnographlaw07.XorTakes", spec := "xorTakes", named := ["math/bits.deBruijn64tab"], apart := false, laid := [("math/bits.deBruijn64tab", laid_math_bits_deBruijn64tab)] }
def XorTakesSaid : Prop := xorTakesRow.holds Tryd.pinned (OpenSpec.ofChange xorTakesSpec)

/-- ITS FALSE NEIGHBOUR: 'it returns false'. Refute it at one input. -/
def xorTakesWrong : ChangeSpec := { name := "xorTakes", fn := fun _ => fun
  | [d1, d2] => { results := [.lit (.bool false)], args := [d1, d2] }
  | _ => none }
def XorTakesWrongFalsely : Prop := xorTakesRow.holds Tryd.pinned (OpenSpec.ofChange xorTakesWrong)

/-- 'limnographlaw07.XorSame': WHATEVER THE INPUT: true; the input reads as it did. -/
def xorSameSpec : ChangeSpec := { name := "xorSame", fn := fun _ => fun
  | [d1, d2, d3] => { results := [.lit (.bool true)], args := [d1, d2, d3] }
  | _ => none }
def xorSameRow : OpenClaim := { program := "ytaagjedkojlbpaadoor", sum := "77fa66aa0a91860fea8b91d354a7b9f1b9c01118464cdaf6006063c4a673991b", func := "limnograph/limnographlaw07.XorSame", spec := "xorSame", named := ["math/bits.deBruijn64tab"], apart := false, laid := [("math/bits.deBruijn64tab", laid_math_bits_deBruijn64tab)] }
def XorSameSaid : Prop := xorSameRow.holds Tryd.pinned (OpenSpec.ofChange xorSameSpec)

/-- ITS FALSE NEIGHBOUR: 'it returns false'. Refute it at one input. -/
def xorSameWrong : ChangeSpec := { name := "xorSame", fn := fun _ => fun
  | [d1, d2, d3] => { results := [.lit (.bool false)], args := [d1, d2, d3] }
  | _ => none }
def XorSameWrongFalsely : Prop := xorSameRow.holds Tryd.pinned (OpenSpec.ofChange xorSameWrong)

/- THE SECOND FORM. 'bulk': how many values and letters a reading holds, each counted each time it is reached (what is shared counts as often as it is met; a slice's spare places count too). A statement '..UptoSaid' is the law's where the arguments, and the package variables that the reading takes, are together of bulk at most 1048576: NARROWER than '..Said'. Prove '..Said' where nothing that the law and all that it calls make is longer than what came in: it says more and counts as full. Else prove '..UptoSaid'. A law counts once. -/
mutual
def uptoBulk {H : Type} : DataW H → Nat
  | .lit (.string bytes) => bytes.length + 1
  | .lit _ => 1
  | .nil => 1
  | .ptr d => uptoBulk d + 1
  | .slice elems spare => uptoBulkAll elems + uptoBulkAll spare + 1
  | .agg parts => uptoBulkAll parts + 1
  | .iface _ d => uptoBulk d + 1
  | .map entries => uptoBulkEntries entries + 1
  | .held _ => 1
def uptoBulkAll {H : Type} : List (DataW H) → Nat
  | [] => 0
  | d :: r => uptoBulk d + uptoBulkAll r
def uptoBulkEntries {H : Type} : List (Lit × DataW H) → Nat
  | [] => 0
  | x :: r => uptoBulkEntry x + uptoBulkEntries r
def uptoBulkEntry {H : Type} : Lit × DataW H → Nat
  | (.string bytes, d) => bytes.length + uptoBulk d + 1
  | (_, d) => uptoBulk d + 1
 end
def uptoSmall : (H : Type) → List (DataW H) → Bool := fun _ ds => decide (uptoBulkAll ds ≤ 1048576)
def OpenSpec.upto (s : _root_.Go.ChangeSpec) : _root_.Go.OpenSpec := { _root_.Go.OpenSpec.ofChange s with cond := some uptoSmall }

/-- 'limnographlaw06.VarySmall', WHERE WHAT IT READS IS OF BULK AT MOST 1048576: true; the input reads as it did. -/
def varySmallUptoRow : OpenClaim := { program := "ytaagjedkojlbpaadoor", sum := "77fa66aa0a91860fea8b91d354a7b9f1b9c01118464cdaf6006063c4a673991b", func := "limnograph/limnographlaw06.VarySmall", spec := "varySmall", named := ["limnograph/vary.classes", "limnograph/vary.ways"], apart := false, laid := [("limnograph/vary.classes", laid_limnograph_vary_classes), ("limnograph/vary.ways", laid_limnograph_vary_ways)], narrowed := true }
def VarySmallUptoSaid : Prop := varySmallUptoRow.holds Tryd.pinned (OpenSpec.upto varySmallSpec)

/-- 'limnographlaw06.VaryReads', WHERE WHAT IT READS IS OF BULK AT MOST 1048576: true; the input reads as it did. -/
def varyReadsUptoRow : OpenClaim := { program := "ytaagjedkojlbpaadoor", sum := "77fa66aa0a91860fea8b91d354a7b9f1b9c01118464cdaf6006063c4a673991b", func := "limnograph/limnographlaw06.VaryReads", spec := "varyReads", named := ["limnograph/vary.classes", "limnograph/vary.ways"], apart := false, laid := [("limnograph/vary.classes", laid_limnograph_vary_classes), ("limnograph/vary.ways", laid_limnograph_vary_ways)], narrowed := true }
def VaryReadsUptoSaid : Prop := varyReadsUptoRow.holds Tryd.pinned (OpenSpec.upto varyReadsSpec)

/-- 'limnographlaw06.VaryRows', WHERE WHAT IT READS IS OF BULK AT MOST 1048576: true; the input reads as it did. -/
def varyRowsUptoRow : OpenClaim := { program := "ytaagjedkojlbpaadoor", sum := "77fa66aa0a91860fea8b91d354a7b9f1b9c01118464cdaf6006063c4a673991b", func := "limnograph/limnographlaw06.VaryRows", spec := "varyRows", named := ["limnograph/vary.classes", "limnograph/vary.ways"], apart := false, laid := [("limnograph/vary.classes", laid_limnograph_vary_classes), ("limnograph/vary.ways", laid_limnograph_vary_ways)], narrowed := true }
def VaryRowsUptoSaid : Prop := varyRowsUptoRow.holds Tryd.pinned (OpenSpec.upto varyRowsSpec)

/-- 'limnographlaw06.VaryTakes', WHERE WHAT IT READS IS OF BULK AT MOST 1048576: true; the input reads as it did. -/
def varyTakesUptoRow : OpenClaim := { program := "ytaagjedkojlbpaadoor", sum := "77fa66aa0a91860fea8b91d354a7b9f1b9c01118464cdaf6006063c4a673991b", func := "limnograph/limnographlaw06.VaryTakes", spec := "varyTakes", named := ["limnograph/vary.classes", "limnograph/vary.ways"], apart := false, laid := [("limnograph/vary.classes", laid_limnograph_vary_classes), ("limnograph/vary.ways", laid_limnograph_vary_ways)], narrowed := true }
def VaryTakesUptoSaid : Prop := varyTakesUptoRow.holds Tryd.pinned (OpenSpec.upto varyTakesSpec)

/-- 'limnographlaw07.XorRows', WHERE WHAT IT READS IS OF BULK AT MOST 1048576: true; the input reads as it did. -/
def xorRowsUptoRow : OpenClaim := { program := "ytaagjedkojlbpaadoor", sum := "77fa66aa0a91860fea8b91d354a7b9f1b9c01118464cdaf6006063c4a673991b", func := "limnograph/limnographlaw07.XorRows", spec := "xorRows", named := ["math/bits.deBruijn64tab"], apart := false, laid := [("math/bits.deBruijn64tab", laid_math_bits_deBruijn64tab)], narrowed := true }
def XorRowsUptoSaid : Prop := xorRowsUptoRow.holds Tryd.pinned (OpenSpec.upto xorRowsSpec)

/-- 'limnographlaw07.XorTakes', WHERE WHAT IT READS IS OF BULK AT MOST 1048576: true; the input reads as it did. -/
def xorTakesUptoRow : OpenClaim := { program := "ytaagjedkojlbpaadoor", sum := "77fa66aa0a91860fea8b91d354a7b9f1b9c01118464cdaf6006063c4a673991b", func := "limnograph/limnographlaw07.XorTakes", spec := "xorTakes", named := ["math/bits.deBruijn64tab"], apart := false, laid := [("math/bits.deBruijn64tab", laid_math_bits_deBruijn64tab)], narrowed := true }
def XorTakesUptoSaid : Prop := xorTakesUptoRow.holds Tryd.pinned (OpenSpec.upto xorTakesSpec)

/-- 'limnographlaw07.XorSame', WHERE WHAT IT READS IS OF BULK AT MOST 1048576: true; the input reads as it did. -/
def xorSameUptoRow : OpenClaim := { program := "ytaagjedkojlbpaadoor", sum := "77fa66aa0a91860fea8b91d354a7b9f1b9c01118464cdaf6006063c4a673991b", func := "limnograph/limnographlaw07.XorSame", spec := "xorSame", named := ["math/bits.deBruijn64tab"], apart := false, laid := [("math/bits.deBruijn64tab", laid_math_bits_deBruijn64tab)], narrowed := true }
def XorSameUptoSaid : Prop := xorSameUptoRow.holds Tryd.pinned (OpenSpec.upto xorSameSpec)

end Rows
end Go.Proofs.YtaagjedkojlbpaaDoor
