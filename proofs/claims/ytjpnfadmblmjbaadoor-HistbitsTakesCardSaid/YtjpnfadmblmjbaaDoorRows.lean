/-
  NARROWER THAN 'FOR EVERY INPUT', by the rows' own cells (each row's printed sentence says how): VarySmall: laid · VaryReads: laid · VaryRows: laid · VaryTakes: laid · HistbitsRows: laid · HistbitsTakes: laid · HistbitsSame: laid.
  DERIVED. THE GIVEN ROWS OF THIS SEAT. 7 by the template 'for every input the law returns true; each argument reads behind the call as it read before'; 0 by the template 'total and deterministic' (their statements: YtjpnfadmblmjbaaDoorTotals.lean).
  GIVEN WITH THE SEED: the statements are not yours to turn. If you find one false, say at which input.
  Laid BY PROGRAM, IN A SANDBOX (cutbox-rows.mjs): the forced cells as the released guide's own fill.sh prints them over the translation e9bd41d2c13db5fe… (all of the seat's roots in one cut). By AI agents, Wed Nov 11 2026. No macro, syntax, notation, axiom, sorry.
-/
import Derived.Test.YtjpnfadmblmjbaaDoorChecked
import GoSem.Claim
import GoSem.ClaimJoined
import GoSem.ClaimMapViews
import Derived.JoinedTies
import Derived.KernelRfl
namespace Go.Proofs.YtjpnfadmblmjbaaDoor
/- THE CELL 'sum', in the pinned program and in every row, IS THE sha256 OF THE DUMP (.gsa) THAT YtjpnfadmblmjbaaDoorProg.lean LOADS. Nothing in Lean hashes anything: it is a label: what it is worth is what the hold of that sum in a sandbox is worth. -/
noncomputable def Tryd.pinned : Pinned := { name := "ytjpnfadmblmjbaadoor", sum := "e9bd41d2c13db5feb5127d87fb14c9a7b9603ca55b4a0b2aa7b26eca8861a991", checked := Tryd.checked }
namespace Rows
def none {H : Type} : Left H := { results := [], args := [] }

/- WHAT THE LISTED PACKAGE-LEVEL VARIABLES READ AS WHEN THE CALL BEGINS. Each datum BY PROGRAM (the guide's laid-datum.mjs) off the statement by which the dump's own 'gosem.cut.vars' lays the variable. In a bare row this is a premise. The card (YtjpnfadmblmjbaaDoorCards.lean) ties it to the program's text. -/
def laid_limnograph_vary_classes {H : Type} : DataW H := .agg [.lit (.int .i64 0), .lit (.int .i64 7), .lit (.int .i64 20), .lit (.int .i64 64)]
def laid_limnograph_vary_ways {H : Type} : DataW H := .agg [.lit (.int .i64 0), .lit (.int .i64 6), .lit (.int .i64 10), .lit (.int .i64 16), .lit (.int .i64 64)]

/-- 'limnographlaw06.VarySmall': WHATEVER THE INPUT: true; the input reads as it did. -/
def varySmallSpec : ChangeSpec := { name := "varySmall", fn := fun _ => fun
  | [d] => { results := [.lit (.bool true)], args := [d] }
  | _ => none }
def varySmallRow : OpenClaim := { program := "ytjpnfadmblmjbaadoor", sum := "e9bd41d2c13db5feb5127d87fb14c9a7b9603ca55b4a0b2aa7b26eca8861a991", func := "limnograph/limnographlaw06.VarySmall", spec := "varySmall", named := ["limnograph/vary.classes", "limnograph/vary.ways"], apart := false, laid := [("limnograph/vary.classes", laid_limnograph_vary_classes), ("limnograph/vary.ways", laid_limnograph_vary_ways)] }
def VarySmallSaid : Prop := varySmallRow.holds Tryd.pinned (OpenSpec.ofChange varySmallSpec)

/-- ITS FALSE NEIGHBOUR: 'it returns false'. Refute it at one input. -/
def varySmallWrong : ChangeSpec := { name := "varySmall", fn := fun _ => fun
  | [d] => { results := [.lit (.bool false)], args := [d] }
  | _ => none }
def VarySmallWrongFalsely : Prop := varySmallRow.holds Tryd.pinned (OpenSpec.ofChange varySmallWrong)

/-- 'limnographlaw06.VaryReads': WHATEVER THE INPUT: true; the input reads as it did. -/
def varyReadsSpec : ChangeSpec := { name := "varyReads", fn := fun _ => fun
  | [d1, d2] => { results := [.lit (.bool true)], args := [d1, d2] }
  | _ => none }
def varyReadsRow : OpenClaim := { program := "ytjpnfadmblmjbaadoor", sum := "e9bd41d2c13db5feb5127d87fb14c9a7b9603ca55b4a0b2aa7b26eca8861a991", func := "limnograph/limnographlaw06.VaryReads", spec := "varyReads", named := ["limnograph/vary.classes", "limnograph/vary.ways"], apart := false, laid := [("limnograph/vary.classes", laid_limnograph_vary_classes), ("limnograph/vary.ways", laid_limnograph_vary_ways)] }
def VaryReadsSaid : Prop := varyReadsRow.holds Tryd.pinned (OpenSpec.ofChange varyReadsSpec)

/-- ITS FALSE NEIGHBOUR: 'it returns false'. Refute it at one input. -/
def varyReadsWrong : ChangeSpec := { name := "varyReads", fn := fun _ => fun
  | [d1, d2] => { results := [.lit (.bool false)], args := [d1, d2] }
  | _ => none }
def VaryReadsWrongFalsely : Prop := varyReadsRow.holds Tryd.pinned (OpenSpec.ofChange varyReadsWrong)

/-- 'limnographlaw06.VaryRows': WHATEVER THE INPUT: true; the input reads as it did. -/
def varyRowsSpec : ChangeSpec := { name := "varyRows", fn := fun _ => fun
  | [d1, d2] => { results := [.lit (.bool true)], args := [d1, d2] }
  | _ => none }
def varyRowsRow : OpenClaim := { program := "ytjpnfadmblmjbaadoor", sum := "e9bd41d2c13db5feb5127d87fb14c9a7b9603ca55b4a0b2aa7b26eca8861a991", func := "limnograph/limnographlaw06.VaryRows", spec := "varyRows", named := ["limnograph/vary.classes", "limnograph/vary.ways"], apart := false, laid := [("limnograph/vary.classes", laid_limnograph_vary_classes), ("limnograph/vary.ways", laid_limnograph_vary_ways)] }
def VaryRowsSaid : Prop := varyRowsRow.holds Tryd.pinned (OpenSpec.ofChange varyRowsSpec)

/-- ITS FALSE NEIGHBOUR: 'it returns false'. Refute it at one input. -/
def varyRowsWrong : ChangeSpec := { name := "varyRows", fn := fun _ => fun
  | [d1, d2] => { results := [.lit (.bool false)], args := [d1, d2] }
  | _ => none }
def VaryRowsWrongFalsely : Prop := varyRowsRow.holds Tryd.pinned (OpenSpec.ofChange varyRowsWrong)

/-- 'limnographlaw06.VaryTakes': WHATEVER THE INPUT: true; the input reads as it did. -/
def varyTakesSpec : ChangeSpec := { name := "varyTakes", fn := fun _ => fun
  | [d1, d2] => { results := [.lit (.bool true)], args := [d1, d2] }
  | _ => none }
def varyTakesRow : OpenClaim := { program := "ytjpnfadmblmjbaadoor", sum := "e9bd41d2c13db5feb5127d87fb14c9a7b9603ca55b4a0b2aa7b26eca8861a991", func := "limnograph/limnographlaw06.VaryTakes", spec := "varyTakes", named := ["limnograph/vary.classes", "limnograph/vary.ways"], apart := false, laid := [("limnograph/vary.classes", laid_limnograph_vary_classes), ("limnograph/vary.ways", laid_limnograph_vary_ways)] }
def VaryTakesSaid : Prop := varyTakesRow.holds Tryd.pinned (OpenSpec.ofChange varyTakesSpec)

/-- ITS FALSE NEIGHBOUR: 'it returns false'. Refute it at one input. -/
def varyTakesWrong : ChangeSpec := { name := "varyTakes", fn := fun _ => fun
  | [d1, d2] => { results := [.lit (.bool false)], args := [d1, d2] }
  | _ => none }
def VaryTakesWrongFalsely : Prop := varyTakesRow.holds Tryd.pinned (OpenSpec.ofChange varyTakesWrong)

/-- 'limnographlaw10.HistbitsRows': WHATEVER THE INPUT: true; the input reads as it did. -/
def histbitsRowsSpec : ChangeSpec := { name := "histbitsRows", fn := fun _ => fun
  | [d1, d2] => { results := [.lit (.bool true)], args := [d1, d2] }
  | _ => none }
def histbitsRowsRow : OpenClaim := { program := "ytjpnfadmblmjbaadoor", sum := "e9bd41d2c13db5feb5127d87fb14c9a7b9603ca55b4a0b2aa7b26eca8861a991", func := "limnograph/limnographlaw10.HistbitsRows", spec := "histbitsRows", inPlace := ["math/bits.Add64"], unfollowed := true, recurses := true, named := ["limnograph/vary.classes"], apart := false, laid := [("limnograph/vary.classes", laid_limnograph_vary_classes)] }
def HistbitsRowsSaid : Prop := histbitsRowsRow.holds Tryd.pinned (OpenSpec.ofChange histbitsRowsSpec)

/-- ITS FALSE NEIGHBOUR: 'it returns false'. Refute it at one input. -/
def histbitsRowsWrong : ChangeSpec := { name := "histbitsRows", fn := fun _ => fun
  | [d1, d2] => { results := [.lit (.bool false)], args := [d1, d2] }
  | _ => none }
def HistbitsRowsWrongFalsely : Prop := histbitsRowsRow.holds Tryd.pinned (OpenSpec.ofChange histbitsRowsWrong)

/-- 'limnographlaw10.HistbitsTakes': WHATEVER THE INPUT: true; the input reads as it did. -/
def histbitsTakesSpec : ChangeSpec := { name := "histbitsTakes", fn := fun _ => fun
  | [d1, d2] => { results := [.lit (.bool true)], args := [d1, d2] }
  | _ => none }
def histbitsTakesRow : OpenClaim := { program := "ytjpnfadmblmjbaadoor", sum := "e9bd41d2c13db5feb5127d87fb14c9a7b9603ca55b4a0b2aa7b26eca8861a991", func := "limnograph/limnographlaw10.HistbitsTakes", spec := "histbitsTakes", inPlace := ["math/bits.Add64"], unfollowed := true, recurses := true, named := ["limnograph/vary.classes"], apart := false, laid := [("limnograph/vary.classes", laid_limnograph_vary_classes)] }
def HistbitsTakesSaid : Prop := histbitsTakesRow.holds Tryd.pinned (OpenSpec.ofChange histbitsTakesSpec)

/-- ITS FALSE NEIGHBOUR: 'it returns false'. Refute it at one input. -/
def histbitsTakesWrong : ChangeSpec := { name := "histbitsTakes", fn := fun _ => fun
  | [d1, d2] => { results := [.lit (.bool false)], args := [d1, d2] }
  | _ => none }
def HistbitsTakesWrongFalsely : Prop := histbitsTakesRow.holds Tryd.pinned (OpenSpec.ofChange histbitsTakesWrong)

/-- 'limnographlaw10.HistbitsSame': WHATEVER THE INPUT: true; the input reads as it did. -/
def histbitsSameSpec : ChangeSpec := { name := "histbitsSame", fn := fun _ => fun
  | [d1, d2] => { results := [.lit (.bool true)], args := [d1, d2] }
  | _ => none }
def histbitsSameRow : OpenClaim := { program := "ytjpnfadmblmjbaadoor", sum := "e9bd41d2c13db5feb5127d87fb14c9a7b9603ca55b4a0b2aa7b26eca8861a991", func := "limnograph/limnographlaw10.HistbitsSame", spec := "histbitsSame", inPlace := ["math/bits.Add64"], named := ["limnograph/vary.classes"], apart := false, laid := [("limnograph/vary.classes", laid_limnograph_vary_classes)] }
def HistbitsSameSaid : Prop := histbitsSameRow.holds Tryd.pinned (OpenSpec.ofChange histbitsSameSpec)

/-- ITS FALSE NEIGHBOUR: 'it returns false'. Refute it at one input. -/
def histbitsSameWrong : ChangeSpec := { name := "histbitsSame", fn := fun _ => fun
  | [d1, d2] => { results := [.lit (.bool false)], args := [d1, d2] }
  | _ => none }
def HistbitsSameWrongFalsely : Prop := histbitsSameRow.holds Tryd.pinned (OpenSpec.ofChange histbitsSameWrong)

/- THE SECOND FORM. 'bulk': how many values and letters a reading holds, each counted each time it is reached (what is shared counts as often as it is met; a slice's spare places count too). A statement '..UptoSaid' is the law's where the arguments, and the package variables that the reading takes, are together of bulk at most 1048576: NARROWER than '..Said'. Prove '..Said' where nothing that the law and all that it calls make is longer than what came in: it says more and counts as full. Else prove '..UptoSaid'. A law counts once. -/
mutual
def uptoBulk {H : Type} : DataW H → Nat
  | .lit (.string bytes) => bytes.length + 1
  | .lit _ => 1
  | .nil => 1
  | .ptr d => uptoBulk d + 1
  | .slice elems spare => uptoBulkAll elems + uptoBulkAll spare + 1
  | .agg parts => uptoBulkAll parts + 1
  | .iface _ d => uptoBulk d + 1
  | .map entries => uptoBulkEntries entries + 1
  | .held _ => 1
def uptoBulkAll {H : Type} : List (DataW H) → Nat
  | [] => 0
  | d :: r => uptoBulk d + uptoBulkAll r
def uptoBulkEntries {H : Type} : List (Lit × DataW H) → Nat
  | [] => 0
  | x :: r => uptoBulkEntry x + uptoBulkEntries r
def uptoBulkEntry {H : Type} : Lit × DataW H → Nat
  | (.string bytes, d) => bytes.length + uptoBulk d + 1
  | (_, d) => uptoBulk d + 1
 end
def uptoSmall : (H : Type) → List (DataW H) → Bool := fun _ ds => decide (uptoBulkAll ds ≤ 1048576)
def OpenSpec.upto (s : _root_.Go.ChangeSpec) : _root_.Go.OpenSpec := { _root_.Go.OpenSpec.ofChange s with cond := some uptoSmall }

/-- 'limnographlaw06.VarySmall', WHERE WHAT IT READS IS OF BULK AT MOST 1048576: true; the input reads as it did. -/
def varySmallUptoRow : OpenClaim := { program := "ytjpnfadmblmjbaadoor", sum := "e9bd41d2c13db5feb5127d87fb14c9a7b9603ca55b4a0b2aa7b26eca8861a991", func := "limnograph/limnographlaw06.VarySmall", spec := "varySmall", named := ["limnograph/vary.classes", "limnograph/vary.ways"], apart := false, laid := [("limnograph/vary.classes", laid_limnograph_vary_classes), ("limnograph/vary.ways", laid_limnograph_vary_ways)], narrowed := true }
def VarySmallUptoSaid : Prop := varySmallUptoRow.holds Tryd.pinned (OpenSpec.upto varySmallSpec)

/-- 'limnographlaw06.VaryReads', WHERE WHAT IT READS IS OF BULK AT MOST 1048576: true; the input reads as it did. -/
def varyReadsUptoRow : OpenClaim := { program := "ytjpnfadmblmjbaadoor", sum := "e9bd41d2c13db5feb5127d87fb14c9a7b9603ca55b4a0b2aa7b26eca8861a991", func := "limnograph/limnographlaw06.VaryReads", spec := "varyReads", named := ["limnograph/vary.classes", "limnograph/vary.ways"], apart := false, laid := [("limnograph/vary.classes", laid_limnograph_vary_classes), ("limnograph/vary.ways", laid_limnograph_vary_ways)], narrowed := true }
def VaryReadsUptoSaid : Prop := varyReadsUptoRow.holds Tryd.pinned (OpenSpec.upto varyReadsSpec)

/-- 'limnographlaw06.VaryRows', WHERE WHAT IT READS IS OF BULK AT MOST 1048576: true; the input reads as it did. -/
def varyRowsUptoRow : OpenClaim := { program := "ytjpnfadmblmjbaadoor", sum := "e9bd41d2c13db5feb5127d87fb14c9a7b9603ca55b4a0b2aa7b26eca8861a991", func := "limnograph/limnographlaw06.VaryRows", spec := "varyRows", named := ["limnograph/vary.classes", "limnograph/vary.ways"], apart := false, laid := [("limnograph/vary.classes", laid_limnograph_vary_classes), ("limnograph/vary.ways", laid_limnograph_vary_ways)], narrowed := true }
def VaryRowsUptoSaid : Prop := varyRowsUptoRow.holds Tryd.pinned (OpenSpec.upto varyRowsSpec)

/-- 'limnographlaw06.VaryTakes', WHERE WHAT IT READS IS OF BULK AT MOST 1048576: true; the input reads as it did. -/
def varyTakesUptoRow : OpenClaim := { program := "ytjpnfadmblmjbaadoor", sum := "e9bd41d2c13db5feb5127d87fb14c9a7b9603ca55b4a0b2aa7b26eca8861a991", func := "limnograph/limnographlaw06.VaryTakes", spec := "varyTakes", named := ["limnograph/vary.classes", "limnograph/vary.ways"], apart := false, laid := [("limnograph/vary.classes", laid_limnograph_vary_classes), ("limnograph/vary.ways", laid_limnograph_vary_ways)], narrowed := true }
def VaryTakesUptoSaid : Prop := varyTakesUptoRow.holds Tryd.pinned (OpenSpec.upto varyTakesSpec)

/-- 'limnographlaw10.HistbitsRows', WHERE WHAT IT READS IS OF BULK AT MOST 1048576: true; the input reads as it did. -/
def histbitsRowsUptoRow : OpenClaim := { program := "ytjpnfadmblmjbaadoor", sum := "e9bd41d2c13db5feb5127d87fb14c9a7b9603ca55b4a0b2aa7b26eca8861a991", func := "limnograph/limnographlaw10.HistbitsRows", spec := "histbitsRows", inPlace := ["math/bits.Add64"], unfollowed := true, recurses := true, named := ["limnograph/vary.classes"], apart := false, laid := [("limnograph/vary.classes", laid_limnograph_vary_classes)], narrowed := true }
def HistbitsRowsUptoSaid : Prop := histbitsRowsUptoRow.holds Tryd.pinned (OpenSpec.upto histbitsRowsSpec)

/-- 'limnographlaw10.HistbitsTakes', WHERE WHAT IT READS IS OF BULK AT MOST 1048576: true; the input reads as it did. -/
def histbitsTakesUptoRow : OpenClaim := { program := "ytjpnfadmblmjbaadoor", sum := "e9bd41d2c13db5feb5127d87fb14c9a7b9603ca55b4a0b2aa7b26eca8861a991", func := "limnograph/limnographlaw10.HistbitsTakes", spec := "histbitsTakes", inPlace := ["math/bits.Add64"], unfollowed := true, recurses := true, named := ["limnograph/vary.classes"], apart := false, laid := [("limnograph/vary.classes", laid_limnograph_vary_classes)], narrowed := true }
def HistbitsTakesUptoSaid : Prop := histbitsTakesUptoRow.holds Tryd.pinned (OpenSpec.upto histbitsTakesSpec)

/-- 'limnographlaw10.HistbitsSame', WHERE WHAT IT READS IS OF BULK AT MOST 1048576: true; the input reads as it did. -/
def histbitsSameUptoRow : OpenClaim := { program := "ytjpnfadmblmjbaadoor", sum := "e9bd41d2c13db5feb5127d87fb14c9a7b9603ca55b4a0b2aa7b26eca8861a991", func := "limnograph/limnographlaw10.HistbitsSame", spec := "histbitsSame", inPlace := ["math/bits.Add64"], named := ["limnograph/vary.classes"], apart := false, laid := [("limnograph/vary.classes", laid_limnograph_vary_classes)], narrowed := true }
def HistbitsSameUptoSaid : Prop := histbitsSameUptoRow.holds Tryd.pinned (OpenSpec.upto histbitsSameSpec)

end Rows
end Go.Proofs.YtjpnfadmblmjbaaDoor
