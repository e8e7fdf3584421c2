/-
  NARROWER THAN 'FOR EVERY INPUT', by the rows' own cells (each row's printed sentence says how): CrcIs: laid · CrcMore: laid · CrcJoins: laid · CrcLong: laid · CrcTells: laid.
  DERIVED. THE GIVEN ROWS OF THIS SEAT. 5 by the template 'for every input the law returns true; each argument reads behind the call as it read before'; 0 by the template 'total and deterministic' (their statements: YtanhdjdojeoodaaDoorTotals.lean).
  GIVEN WITH THE SEED: the statements are not yours to turn. If you find one false, say at which input.
  Laid BY PROGRAM, IN A SANDBOX (cutbox-rows.mjs): the forced cells as the released guide's own fill.sh prints them over the translation e34cdb2ba7ecb9ac… (all of the seat's roots in one cut). By AI agents, Wed Nov 11 2026. No macro, syntax, notation, axiom, sorry.
-/
import Derived.Test.YtanhdjdojeoodaaDoorChecked
import GoSem.Claim
import GoSem.ClaimJoined
import GoSem.ClaimMapViews
import Derived.JoinedTies
import Derived.KernelRfl
namespace Go.Proofs.YtanhdjdojeoodaaDoor
/- THE CELL 'sum', in the pinned program and in every row, IS THE sha256 OF THE DUMP (.gsa) THAT YtanhdjdojeoodaaDoorProg.lean LOADS. Nothing in Lean hashes anything: it is a label: what it is worth is what the hold of that sum in a sandbox is worth. -/
noncomputable def Tryd.pinned : Pinned := { name := "ytanhdjdojeoodaadoor", sum := "e34cdb2ba7ecb9ac6ad656420977f08967cf5e29f76b50b7bba6fafbd11ba63c", checked := Tryd.checked }
namespace Rows
def none {H : Type} : Left H := { results := [], args := [] }

/- WHAT THE LISTED PACKAGE-LEVEL VARIABLES READ AS WHEN THE CALL BEGINS. Each datum BY PROGRAM (the guide's laid-datum.mjs) off the statement by which the dump's own 'gosem.cut.vars' lays the variable. In a bare row this is a premise. The card (YtanhdjdojeoodaaDoorCards.lean) ties it to the program's text. -/
def laid_limnograph_crc_nibbles {H : Type} : DataW H := .agg [.lit (.int .u32 0), .lit (.int .u32 274646895), .lit (.int .u32 549293790), .lit (.int .u32 820201905), .lit (.int .u32 1098587580), .lit (.int .u32 1361435347), .lit (.int .u32 1640403810), .lit (.int .u32 1905808397), .lit (.int .u32 2197175160), .lit (.int .u32 2460548119), .lit (.int .u32 2722870694), .lit (.int .u32 2987750089), .lit (.int .u32 3280807620), .lit (.int .u32 3553878443), .lit (.int .u32 3811616794), .lit (.int .u32 4084100981)]

/-- 'limnographlaw03.CrcIs': WHATEVER THE INPUT: true; the input reads as it did. -/
def crcIsSpec : ChangeSpec := { name := "crcIs", fn := fun _ => fun
  | [d1, d2] => { results := [.lit (.bool true)], args := [d1, d2] }
  | _ => none }
def crcIsRow : OpenClaim := { program := "ytanhdjdojeoodaadoor", sum := "e34cdb2ba7ecb9ac6ad656420977f08967cf5e29f76b50b7bba6fafbd11ba63c", func := "limnograph/limnographlaw03.CrcIs", spec := "crcIs", named := ["limnograph/crc.nibbles"], apart := false, laid := [("limnograph/crc.nibbles", laid_limnograph_crc_nibbles)] }
def CrcIsSaid : Prop := crcIsRow.holds Tryd.pinned (OpenSpec.ofChange crcIsSpec)

/-- ITS FALSE NEIGHBOUR: 'it returns false'. Refute it at one input. -/
def crcIsWrong : ChangeSpec := { name := "crcIs", fn := fun _ => fun
  | [d1, d2] => { results := [.lit (.bool false)], args := [d1, d2] }
  | _ => none }
def CrcIsWrongFalsely : Prop := crcIsRow.holds Tryd.pinned (OpenSpec.ofChange crcIsWrong)

/-- 'limnographlaw03.CrcMore': WHATEVER THE INPUT: true; the input reads as it did. -/
def crcMoreSpec : ChangeSpec := { name := "crcMore", fn := fun _ => fun
  | [d1, d2] => { results := [.lit (.bool true)], args := [d1, d2] }
  | _ => none }
def crcMoreRow : OpenClaim := { program := "ytanhdjdojeoodaadoor", sum := "e34cdb2ba7ecb9ac6ad656420977f08967cf5e29f76b50b7bba6fafbd11ba63c", func := "limnograph/limnographlaw03.CrcMore", spec := "crcMore", named := ["limnograph/crc.nibbles"], apart := false, laid := [("limnograph/crc.nibbles", laid_limnograph_crc_nibbles)] }
def CrcMoreSaid : Prop := crcMoreRow.holds Tryd.pinned (OpenSpec.ofChange crcMoreSpec)

/-- ITS FALSE NEIGHBOUR: 'it returns false'. Refute it at one input. -/
def crcMoreWrong : ChangeSpec := { name := "crcMore", fn := fun _ => fun
  | [d1, d2] => { results := [.lit (.bool false)], args := [d1, d2] }
  | _ => none }
def CrcMoreWrongFalsely : Prop := crcMoreRow.holds Tryd.pinned (OpenSpec.ofChange crcMoreWrong)

/-- 'limnographlaw03.CrcJoins': WHATEVER THE INPUT: true; the input reads as it did. -/
def crcJoinsSpec : ChangeSpec := { name := "crcJoins", fn := fun _ => fun
  | [d1, d2, d3] => { results := [.lit (.bool true)], args := [d1, d2, d3] }
  | _ => none }
def crcJoinsRow : OpenClaim := { program := "ytanhdjdojeoodaadoor", sum := "e34cdb2ba7ecb9ac6ad656420977f08967cf5e29f76b50b7bba6fafbd11ba63c", func := "limnograph/limnographlaw03.CrcJoins", spec := "crcJoins", named := ["limnograph/crc.nibbles"], apart := false, laid := [("limnograph/crc.nibbles", laid_limnograph_crc_nibbles)] }
def CrcJoinsSaid : Prop := crcJoinsRow.holds Tryd.pinned (OpenSpec.ofChange crcJoinsSpec)

/-- ITS FALSE NEIGHBOUR: 'it returns false'. Refute it at one input. -/
def crcJoinsWrong : ChangeSpec := { name := "crcJoins", fn := fun _ => fun
  | [d1, d2, d3] => { results := [.lit (.bool false)], args := [d1, d2, d3] }
  | _ => none }
def CrcJoinsWrongFalsely : Prop := crcJoinsRow.holds Tryd.pinned (OpenSpec.ofChange crcJoinsWrong)

/-- 'limnographlaw03.CrcLong': WHATEVER THE INPUT: true; the input reads as it did. -/
def crcLongSpec : ChangeSpec := { name := "crcLong", fn := fun _ => fun
  | [d1, d2, d3, d4, d5] => { results := [.lit (.bool true)], args := [d1, d2, d3, d4, d5] }
  | _ => none }
def crcLongRow : OpenClaim := { program := "ytanhdjdojeoodaadoor", sum := "e34cdb2ba7ecb9ac6ad656420977f08967cf5e29f76b50b7bba6fafbd11ba63c", func := "limnograph/limnographlaw03.CrcLong", spec := "crcLong", named := ["limnograph/crc.nibbles"], apart := false, laid := [("limnograph/crc.nibbles", laid_limnograph_crc_nibbles)] }
def CrcLongSaid : Prop := crcLongRow.holds Tryd.pinned (OpenSpec.ofChange crcLongSpec)

/-- ITS FALSE NEIGHBOUR: 'it returns false'. Refute it at one input. -/
def crcLongWrong : ChangeSpec := { name := "crcLong", fn := fun _ => fun
  | [d1, d2, d3, d4, d5] => { results := [.lit (.bool false)], args := [d1, d2, d3, d4, d5] }
  | _ => none }
def CrcLongWrongFalsely : Prop := crcLongRow.holds Tryd.pinned (OpenSpec.ofChange crcLongWrong)

/-- 'limnographlaw03.CrcTells': WHATEVER THE INPUT: true; the input reads as it did. -/
def crcTellsSpec : ChangeSpec := { name := "crcTells", fn := fun _ => fun
  | [d1, d2, d3] => { results := [.lit (.bool true)], args := [d1, d2, d3] }
  | _ => none }
def crcTellsRow : OpenClaim := { program := "ytanhdjdojeoodaadoor", sum := "e34cdb2ba7ecb9ac6ad656420977f08967cf5e29f76b50b7bba6fafbd11ba63c", func := "limnograph/limnographlaw03.CrcTells", spec := "crcTells", named := ["limnograph/crc.nibbles"], apart := false, laid := [("limnograph/crc.nibbles", laid_limnograph_crc_nibbles)] }
def CrcTellsSaid : Prop := crcTellsRow.holds Tryd.pinned (OpenSpec.ofChange crcTellsSpec)

/-- ITS FALSE NEIGHBOUR: 'it returns false'. Refute it at one input. -/
def crcTellsWrong : ChangeSpec := { name := "crcTells", fn := fun _ => fun
  | [d1, d2, d3] => { results := [.lit (.bool false)], args := [d1, d2, d3] }
  | _ => none }
def CrcTellsWrongFalsely : Prop := crcTellsRow.holds Tryd.pinned (OpenSpec.ofChange crcTellsWrong)

/- THE SECOND FORM. 'bulk': how many values and letters a reading holds, each counted each time it is reached (what is shared counts as often as it is met; a slice's spare places count too). A statement '..UptoSaid' is the law's where the arguments, and the package variables that the reading takes, are together of bulk at most 1048576: NARROWER than '..Said'. Prove '..Said' where nothing that the law and all that it calls make is longer than what came in: it says more and counts as full. Else prove '..UptoSaid'. A law counts once. -/
mutual
def uptoBulk {H : Type} : DataW H → Nat
  | .lit (.string bytes) => bytes.length + 1
  | .lit _ => 1
  | .nil => 1
  | .ptr d => uptoBulk d + 1
  | .slice elems spare => uptoBulkAll elems + uptoBulkAll spare + 1
  | .agg parts => uptoBulkAll parts + 1
  | .iface _ d => uptoBulk d + 1
  | .map entries => uptoBulkEntries entries + 1
  | .held _ => 1
def uptoBulkAll {H : Type} : List (DataW H) → Nat
  | [] => 0
  | d :: r => uptoBulk d + uptoBulkAll r
def uptoBulkEntries {H : Type} : List (Lit × DataW H) → Nat
  | [] => 0
  | x :: r => uptoBulkEntry x + uptoBulkEntries r
def uptoBulkEntry {H : Type} : Lit × DataW H → Nat
  | (.string bytes, d) => bytes.length + uptoBulk d + 1
  | (_, d) => uptoBulk d + 1
 end
def uptoSmall : (H : Type) → List (DataW H) → Bool := fun _ ds => decide (uptoBulkAll ds ≤ 1048576)
def OpenSpec.upto (s : _root_.Go.ChangeSpec) : _root_.Go.OpenSpec := { _root_.Go.OpenSpec.ofChange s with cond := some uptoSmall }

/-- 'limnographlaw03.CrcIs', WHERE WHAT IT READS IS OF BULK AT MOST 1048576: true; the input reads as it did. -/
def crcIsUptoRow : OpenClaim := { program := "ytanhdjdojeoodaadoor", sum := "e34cdb2ba7ecb9ac6ad656420977f08967cf5e29f76b50b7bba6fafbd11ba63c", func := "limnograph/limnographlaw03.CrcIs", spec := "crcIs", named := ["limnograph/crc.nibbles"], apart := false, laid := [("limnograph/crc.nibbles", laid_limnograph_crc_nibbles)], narrowed := true }
def CrcIsUptoSaid : Prop := crcIsUptoRow.holds Tryd.pinned (OpenSpec.upto crcIsSpec)

/-- 'limnographlaw03.CrcMore', WHERE WHAT IT READS IS OF BULK AT MOST 1048576: true; the input reads as it did. -/
def crcMoreUptoRow : OpenClaim := { program := "ytanhdjdojeoodaadoor", sum := "e34cdb2ba7ecb9ac6ad656420977f08967cf5e29f76b50b7bba6fafbd11ba63c", func := "limnograph/limnographlaw03.CrcMore", spec := "crcMore", named := ["limnograph/crc.nibbles"], apart := false, laid := [("limnograph/crc.nibbles", laid_limnograph_crc_nibbles)], narrowed := true }
def CrcMoreUptoSaid : Prop := crcMoreUptoRow.holds Tryd.pinned (OpenSpec.upto crcMoreSpec)

/-- 'limnographlaw03.CrcJoins', WHERE WHAT IT READS IS OF BULK AT MOST 1048576: true; the input reads as it did. -/
def crcJoinsUptoRow : OpenClaim := { program := "ytanhdjdojeoodaadoor", sum := "e34cdb2ba7ecb9ac6ad656420977f08967cf5e29f76b50b7bba6fafbd11ba63c", func := "limnograph/limnographlaw03.CrcJoins", spec := "crcJoins", named := ["limnograph/crc.nibbles"], apart := false, laid := [("limnograph/crc.nibbles", laid_limnograph_crc_nibbles)], narrowed := true }
def CrcJoinsUptoSaid : Prop := crcJoinsUptoRow.holds Tryd.pinned (OpenSpec.upto crcJoinsSpec)

/-- 'limnographlaw03.CrcLong', WHERE WHAT IT READS IS OF BULK AT MOST 1048576: true; the input reads as it did. -/
def crcLongUptoRow : OpenClaim := { program := "ytanhdjdojeoodaadoor", sum := "e34cdb2ba7ecb9ac6ad656420977f08967cf5e29f76b50b7bba6fafbd11ba63c", func := "limnograph/limnographlaw03.CrcLong", spec := "crcLong", named := ["limnograph/crc.nibbles"], apart := false, laid := [("limnograph/crc.nibbles", laid_limnograph_crc_nibbles)], narrowed := true }
def CrcLongUptoSaid : Prop := crcLongUptoRow.holds Tryd.pinned (OpenSpec.upto crcLongSpec)

/-- 'limnographlaw03.CrcTells', WHERE WHAT IT READS IS OF BULK AT MOST 1048576: true; the input reads as it did. -/
def crcTellsUptoRow : OpenClaim := { program := "ytanhdjdojeoodaadoor", sum := "e34cdb2ba7ecb9ac6ad656420977f08967cf5e29f76b50b7bba6fafbd11ba63c", func := "limnograph/limnographlaw03.CrcTells", spec := "crcTells", named := ["limnograph/crc.nibbles"], apart := false, laid := [("limnograph/crc.nibbles", laid_limnograph_crc_nibbles)], narrowed := true }
def CrcTellsUptoSaid : Prop := crcTellsUptoRow.holds Tryd.pinned (OpenSpec.upto crcTellsSpec)

end Rows
end Go.Proofs.YtanhdjdojeoodaaDoor
