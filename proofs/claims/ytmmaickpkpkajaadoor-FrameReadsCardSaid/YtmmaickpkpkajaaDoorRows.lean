/-
  NARROWER THAN 'FOR EVERY INPUT', by the rows' own cells (each row's printed sentence says how): FrameWraps: laid · FrameMost: laid · FrameReads: laid · FrameBack: laid · FrameTells: laid.
  DERIVED. THE GIVEN ROWS OF THIS SEAT. 5 by the template 'for every input the law returns true; each argument reads behind the call as it read before'; 0 by the template 'total and deterministic' (their statements: YtmmaickpkpkajaaDoorTotals.lean).
  GIVEN WITH THE SEED: the statements are not yours to turn. If you find one false, say at which input.
  Laid BY PROGRAM, IN A SANDBOX (cutbox-rows.mjs): the forced cells as the released guide's own fill.sh prints them over the translation b1ae5018dfdc9119… (all of the seat's roots in one cut). By AI agents, Wed Nov 11 2026. No macro, syntax, notation, axiom, sorry.
-/
import Derived.Test.YtmmaickpkpkajaaDoorChecked
import GoSem.Claim
import GoSem.ClaimJoined
import GoSem.ClaimMapViews
import Derived.JoinedTies
import Derived.KernelRfl
namespace Go.Proofs.YtmmaickpkpkajaaDoor
/- THE CELL 'sum', in the pinned program and in every row, IS THE sha256 OF THE DUMP (.gsa) THAT YtmmaickpkpkajaaDoorProg.lean LOADS. Nothing in Lean hashes anything: it is a label: what it is worth is what the hold of that sum in a sandbox is worth. -/
noncomputable def Tryd.pinned : Pinned := { name := "ytmmaickpkpkajaadoor", sum := "b1ae5018dfdc91195039f3f2a02075e7bbadae17c9b52f68bd1018e34f6db1d8", checked := Tryd.checked }
namespace Rows
def none {H : Type} : Left H := { results := [], args := [] }

/- WHAT THE LISTED PACKAGE-LEVEL VARIABLES READ AS WHEN THE CALL BEGINS. Each datum BY PROGRAM (the guide's laid-datum.mjs) off the statement by which the dump's own 'gosem.cut.vars' lays the variable. In a bare row this is a premise. The card (YtmmaickpkpkajaaDoorCards.lean) ties it to the program's text. -/
def laid_limnograph_crc_nibbles {H : Type} : DataW H := .agg [.lit (.int .u32 0), .lit (.int .u32 274646895), .lit (.int .u32 549293790), .lit (.int .u32 820201905), .lit (.int .u32 1098587580), .lit (.int .u32 1361435347), .lit (.int .u32 1640403810), .lit (.int .u32 1905808397), .lit (.int .u32 2197175160), .lit (.int .u32 2460548119), .lit (.int .u32 2722870694), .lit (.int .u32 2987750089), .lit (.int .u32 3280807620), .lit (.int .u32 3553878443), .lit (.int .u32 3811616794), .lit (.int .u32 4084100981)]

/-- 'limnographlaw04.FrameWraps': WHATEVER THE INPUT: true; the input reads as it did. -/
def frameWrapsSpec : ChangeSpec := { name := "frameWraps", fn := fun _ => fun
  | [d1, d2] => { results := [.lit (.bool true)], args := [d1, d2] }
  | _ => none }
def frameWrapsRow : OpenClaim := { program := "ytmmaickpkpkajaadoor", sum := "b1ae5018dfdc91195039f3f2a02075e7bbadae17c9b52f68bd1018e34f6db1d8", func := "limnograph/limnographlaw04.FrameWraps", spec := "frameWraps", named := ["limnograph/crc.nibbles"], apart := false, laid := [("limnograph/crc.nibbles", laid_limnograph_crc_nibbles)] }
def FrameWrapsSaid : Prop := frameWrapsRow.holds Tryd.pinned (OpenSpec.ofChange frameWrapsSpec)

/-- ITS FALSE NEIGHBOUR: 'it returns false'. Refute it at one input. -/
def frameWrapsWrong : ChangeSpec := { name := "frameWraps", fn := fun _ => fun
  | [d1, d2] => { results := [.lit (.bool false)], args := [d1, d2] }
  | _ => none }
def FrameWrapsWrongFalsely : Prop := frameWrapsRow.holds Tryd.pinned (OpenSpec.ofChange frameWrapsWrong)

/-- 'limnographlaw04.FrameMost': WHATEVER THE INPUT: true; the input reads as it did. -/
def frameMostSpec : ChangeSpec := { name := "frameMost", fn := fun _ => fun
  | [d] => { results := [.lit (.bool true)], args := [d] }
  | _ => none }
def frameMostRow : OpenClaim := { program := "ytmmaickpkpkajaadoor", sum := "b1ae5018dfdc91195039f3f2a02075e7bbadae17c9b52f68bd1018e34f6db1d8", func := "limnograph/limnographlaw04.FrameMost", spec := "frameMost", named := ["limnograph/crc.nibbles"], apart := false, laid := [("limnograph/crc.nibbles", laid_limnograph_crc_nibbles)] }
def FrameMostSaid : Prop := frameMostRow.holds Tryd.pinned (OpenSpec.ofChange frameMostSpec)

/-- ITS FALSE NEIGHBOUR: 'it returns false'. Refute it at one input. -/
def frameMostWrong : ChangeSpec := { name := "frameMost", fn := fun _ => fun
  | [d] => { results := [.lit (.bool false)], args := [d] }
  | _ => none }
def FrameMostWrongFalsely : Prop := frameMostRow.holds Tryd.pinned (OpenSpec.ofChange frameMostWrong)

/-- 'limnographlaw04.FrameReads': WHATEVER THE INPUT: true; the input reads as it did. -/
def frameReadsSpec : ChangeSpec := { name := "frameReads", fn := fun _ => fun
  | [d] => { results := [.lit (.bool true)], args := [d] }
  | _ => none }
def frameReadsRow : OpenClaim := { program := "ytmmaickpkpkajaadoor", sum := "b1ae5018dfdc91195039f3f2a02075e7bbadae17c9b52f68bd1018e34f6db1d8", func := "limnograph/limnographlaw04.FrameReads", spec := "frameReads", named := ["limnograph/crc.nibbles"], apart := false, laid := [("limnograph/crc.nibbles", laid_limnograph_crc_nibbles)] }
def FrameReadsSaid : Prop := frameReadsRow.holds Tryd.pinned (OpenSpec.ofChange frameReadsSpec)

/-- ITS FALSE NEIGHBOUR: 'it returns false'. Refute it at one input. -/
def frameReadsWrong : ChangeSpec := { name := "frameReads", fn := fun _ => fun
  | [d] => { results := [.lit (.bool false)], args := [d] }
  | _ => none }
def FrameReadsWrongFalsely : Prop := frameReadsRow.holds Tryd.pinned (OpenSpec.ofChange frameReadsWrong)

/-- 'limnographlaw04.FrameBack': WHATEVER THE INPUT: true; the input reads as it did. -/
def frameBackSpec : ChangeSpec := { name := "frameBack", fn := fun _ => fun
  | [d1, d2] => { results := [.lit (.bool true)], args := [d1, d2] }
  | _ => none }
def frameBackRow : OpenClaim := { program := "ytmmaickpkpkajaadoor", sum := "b1ae5018dfdc91195039f3f2a02075e7bbadae17c9b52f68bd1018e34f6db1d8", func := "limnograph/limnographlaw04.FrameBack", spec := "frameBack", named := ["limnograph/crc.nibbles"], apart := false, laid := [("limnograph/crc.nibbles", laid_limnograph_crc_nibbles)] }
def FrameBackSaid : Prop := frameBackRow.holds Tryd.pinned (OpenSpec.ofChange frameBackSpec)

/-- ITS FALSE NEIGHBOUR: 'it returns false'. Refute it at one input. -/
def frameBackWrong : ChangeSpec := { name := "frameBack", fn := fun _ => fun
  | [d1, d2] => { results := [.lit (.bool false)], args := [d1, d2] }
  | _ => none }
def FrameBackWrongFalsely : Prop := frameBackRow.holds Tryd.pinned (OpenSpec.ofChange frameBackWrong)

/-- 'limnographlaw04.FrameTells': WHATEVER THE INPUT: true; the input reads as it did. -/
def frameTellsSpec : ChangeSpec := { name := "frameTells", fn := fun _ => fun
  | [d1, d2, d3, d4] => { results := [.lit (.bool true)], args := [d1, d2, d3, d4] }
  | _ => none }
def frameTellsRow : OpenClaim := { program := "ytmmaickpkpkajaadoor", sum := "b1ae5018dfdc91195039f3f2a02075e7bbadae17c9b52f68bd1018e34f6db1d8", func := "limnograph/limnographlaw04.FrameTells", spec := "frameTells", named := ["limnograph/crc.nibbles"], apart := false, laid := [("limnograph/crc.nibbles", laid_limnograph_crc_nibbles)] }
def FrameTellsSaid : Prop := frameTellsRow.holds Tryd.pinned (OpenSpec.ofChange frameTellsSpec)

/-- ITS FALSE NEIGHBOUR: 'it returns false'. Refute it at one input. -/
def frameTellsWrong : ChangeSpec := { name := "frameTells", fn := fun _ => fun
  | [d1, d2, d3, d4] => { results := [.lit (.bool false)], args := [d1, d2, d3, d4] }
  | _ => none }
def FrameTellsWrongFalsely : Prop := frameTellsRow.holds Tryd.pinned (OpenSpec.ofChange frameTellsWrong)

/- THE SECOND FORM. 'bulk': how many values and letters a reading holds, each counted each time it is reached (what is shared counts as often as it is met; a slice's spare places count too). A statement '..UptoSaid' is the law's where the arguments, and the package variables that the reading takes, are together of bulk at most 1048576: NARROWER than '..Said'. Prove '..Said' where nothing that the law and all that it calls make is longer than what came in: it says more and counts as full. Else prove '..UptoSaid'. A law counts once. -/
mutual
def uptoBulk {H : Type} : DataW H → Nat
  | .lit (.string bytes) => bytes.length + 1
  | .lit _ => 1
  | .nil => 1
  | .ptr d => uptoBulk d + 1
  | .slice elems spare => uptoBulkAll elems + uptoBulkAll spare + 1
  | .agg parts => uptoBulkAll parts + 1
  | .iface _ d => uptoBulk d + 1
  | .map entries => uptoBulkEntries entries + 1
  | .held _ => 1
def uptoBulkAll {H : Type} : List (DataW H) → Nat
  | [] => 0
  | d :: r => uptoBulk d + uptoBulkAll r
def uptoBulkEntries {H : Type} : List (Lit × DataW H) → Nat
  | [] => 0
  | x :: r => uptoBulkEntry x + uptoBulkEntries r
def uptoBulkEntry {H : Type} : Lit × DataW H → Nat
  | (.string bytes, d) => bytes.length + uptoBulk d + 1
  | (_, d) => uptoBulk d + 1
 end
def uptoSmall : (H : Type) → List (DataW H) → Bool := fun _ ds => decide (uptoBulkAll ds ≤ 1048576)
def OpenSpec.upto (s : _root_.Go.ChangeSpec) : _root_.Go.OpenSpec := { _root_.Go.OpenSpec.ofChange s with cond := some uptoSmall }

/-- 'limnographlaw04.FrameWraps', WHERE WHAT IT READS IS OF BULK AT MOST 1048576: true; the input reads as it did. -/
def frameWrapsUptoRow : OpenClaim := { program := "ytmmaickpkpkajaadoor", sum := "b1ae5018dfdc91195039f3f2a02075e7bbadae17c9b52f68bd1018e34f6db1d8", func := "limnograph/limnographlaw04.FrameWraps", spec := "frameWraps", named := ["limnograph/crc.nibbles"], apart := false, laid := [("limnograph/crc.nibbles", laid_limnograph_crc_nibbles)], narrowed := true }
def FrameWrapsUptoSaid : Prop := frameWrapsUptoRow.holds Tryd.pinned (OpenSpec.upto frameWrapsSpec)

/-- 'limnographlaw04.FrameMost', WHERE WHAT IT READS IS OF BULK AT MOST 1048576: true; the input reads as it did. -/
def frameMostUptoRow : OpenClaim := { program := "ytmmaickpkpkajaadoor", sum := "b1ae5018dfdc91195039f3f2a02075e7bbadae17c9b52f68bd1018e34f6db1d8", func := "limnograph/limnographlaw04.FrameMost", spec := "frameMost", named := ["limnograph/crc.nibbles"], apart := false, laid := [("limnograph/crc.nibbles", laid_limnograph_crc_nibbles)], narrowed := true }
def FrameMostUptoSaid : Prop := frameMostUptoRow.holds Tryd.pinned (OpenSpec.upto frameMostSpec)

/-- 'limnographlaw04.FrameReads', WHERE WHAT IT READS IS OF BULK AT MOST 1048576: true; the input reads as it did. -/
def frameReadsUptoRow : OpenClaim := { program := "ytmmaickpkpkajaadoor", sum := "b1ae5018dfdc91195039f3f2a02075e7bbadae17c9b52f68bd1018e34f6db1d8", func := "limnograph/limnographlaw04.FrameReads", spec := "frameReads", named := ["limnograph/crc.nibbles"], apart := false, laid := [("limnograph/crc.nibbles", laid_limnograph_crc_nibbles)], narrowed := true }
def FrameReadsUptoSaid : Prop := frameReadsUptoRow.holds Tryd.pinned (OpenSpec.upto frameReadsSpec)

/-- 'limnographlaw04.FrameBack', WHERE WHAT IT READS IS OF BULK AT MOST 1048576: true; the input reads as it did. -/
def frameBackUptoRow : OpenClaim := { program := "ytmmaickpkpkajaadoor", sum := "b1ae5018dfdc91195039f3f2a02075e7bbadae17c9b52f68bd1018e34f6db1d8", func := "limnograph/limnographlaw04.FrameBack", spec := "frameBack", named := ["limnograph/crc.nibbles"], apart := false, laid := [("limnograph/crc.nibbles", laid_limnograph_crc_nibbles)], narrowed := true }
def FrameBackUptoSaid : Prop := frameBackUptoRow.holds Tryd.pinned (OpenSpec.upto frameBackSpec)

/-- 'limnographlaw04.FrameTells', WHERE WHAT IT READS IS OF BULK AT MOST 1048576: true; the input reads as it did. -/
def frameTellsUptoRow : OpenClaim := { program := "ytmmaickpkpkajaadoor", sum := "b1ae5018dfdc91195039f3f2a02075e7bbadae17c9b52f68bd1018e34f6db1d8", func := "limnograph/limnographlaw04.FrameTells", spec := "frameTells", named := ["limnograph/crc.nibbles"], apart := false, laid := [("limnograph/crc.nibbles", laid_limnograph_crc_nibbles)], narrowed := true }
def FrameTellsUptoSaid : Prop := frameTellsUptoRow.holds Tryd.pinned (OpenSpec.upto frameTellsSpec)

end Rows
end Go.Proofs.YtmmaickpkpkajaaDoor
