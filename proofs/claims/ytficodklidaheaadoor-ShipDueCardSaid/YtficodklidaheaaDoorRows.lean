/-
  NARROWER THAN 'FOR EVERY INPUT', by the rows' own cells (each row's printed sentence says how): FrameReads: laid · FrameBack: laid · WalRecords: laid · WalOpens: laid · WalKeeps: laid · SnapPlays: laid · SnapWhole: laid · ShipOpens: laid · ShipDue: laid.
  DERIVED. THE GIVEN ROWS OF THIS SEAT. 9 by the template 'for every input the law returns true; each argument reads behind the call as it read before'; 0 by the template 'total and deterministic' (their statements: YtficodklidaheaaDoorTotals.lean).
  GIVEN WITH THE SEED: the statements are not yours to turn. If you find one false, say at which input.
  Laid BY PROGRAM, IN A SANDBOX (cutbox-rows.mjs): the forced cells as the released guide's own fill.sh prints them over the translation 52b7047a98c18c76… (all of the seat's roots in one cut). By AI agents, Wed Nov 11 2026. No macro, syntax, notation, axiom, sorry.
-/
import Derived.Test.YtficodklidaheaaDoorChecked
import GoSem.Claim
import GoSem.ClaimJoined
import GoSem.ClaimMapViews
import Derived.JoinedTies
import Derived.KernelRfl
namespace Go.Proofs.YtficodklidaheaaDoor
/- THE CELL 'sum', in the pinned program and in every row, IS THE sha256 OF THE DUMP (.gsa) THAT YtficodklidaheaaDoorProg.lean LOADS. Nothing in Lean hashes anything: it is a label: what it is worth is what the hold of that sum in a sandbox is worth. -/
noncomputable def Tryd.pinned : Pinned := { name := "ytficodklidaheaadoor", sum := "52b7047a98c18c76ee23e998a00cbe585283544017089ed305c50db0876edb05", checked := Tryd.checked }
namespace Rows
def none {H : Type} : Left H := { results := [], args := [] }

/- WHAT THE LISTED PACKAGE-LEVEL VARIABLES READ AS WHEN THE CALL BEGINS. Each datum BY PROGRAM (the guide's laid-datum.mjs) off the statement by which the dump's own 'gosem.cut.vars' lays the variable. In a bare row this is a premise. The card (YtficodklidaheaaDoorCards.lean) ties it to the program's text. -/
def laid_limnograph_crc_nibbles {H : Type} : DataW H := .agg [.lit (.int .u32 0), .lit (.int .u32 274646895), .lit (.int .u32 549293790), .lit (.int .u32 820201905), .lit (.int .u32 1098587580), .lit (.int .u32 1361435347), .lit (.int .u32 1640403810), .lit (.int .u32 1905808397), .lit (.int .u32 2197175160), .lit (.int .u32 2460548119), .lit (.int .u32 2722870694), .lit (.int .u32 2987750089), .lit (.int .u32 3280807620), .lit (.int .u32 3553878443), .lit (.int .u32 3811616794), .lit (.int .u32 4084100981)]

/-- 'limnographlaw04.FrameReads': WHATEVER THE INPUT: true; the input reads as it did. -/
def frameReadsSpec : ChangeSpec := { name := "frameReads", fn := fun _ => fun
  | [d] => { results := [.lit (.bool true)], args := [d] }
  | _ => none }
def frameReadsRow : OpenClaim := { program := "ytficodklidaheaadoor", sum := "52b7047a98c18c76ee23e998a00cbe585283544017089ed305c50db0876edb05", func := "limnograph/limnographlaw04.FrameReads", spec := "frameReads", named := ["limnograph/crc.nibbles"], apart := false, laid := [("limnograph/crc.nibbles", laid_limnograph_crc_nibbles)] }
def FrameReadsSaid : Prop := frameReadsRow.holds Tryd.pinned (OpenSpec.ofChange frameReadsSpec)

/-- ITS FALSE NEIGHBOUR: 'it returns false'. Refute it at one input. -/
def frameReadsWrong : ChangeSpec := { name := "frameReads", fn := fun _ => fun
  | [d] => { results := [.lit (.bool false)], args := [d] }
  | _ => none }
def FrameReadsWrongFalsely : Prop := frameReadsRow.holds Tryd.pinned (OpenSpec.ofChange frameReadsWrong)

/-- 'limnographlaw04.FrameBack': WHATEVER THE INPUT: true; the input reads as it did. -/
def frameBackSpec : ChangeSpec := { name := "frameBack", fn := fun _ => fun
  | [d1, d2] => { results := [.lit (.bool true)], args := [d1, d2] }
  | _ => none }
def frameBackRow : OpenClaim := { program := "ytficodklidaheaadoor", sum := "52b7047a98c18c76ee23e998a00cbe585283544017089ed305c50db0876edb05", func := "limnograph/limnographlaw04.FrameBack", spec := "frameBack", named := ["limnograph/crc.nibbles"], apart := false, laid := [("limnograph/crc.nibbles", laid_limnograph_crc_nibbles)] }
def FrameBackSaid : Prop := frameBackRow.holds Tryd.pinned (OpenSpec.ofChange frameBackSpec)

/-- ITS FALSE NEIGHBOUR: 'it returns false'. Refute it at one input. -/
def frameBackWrong : ChangeSpec := { name := "frameBack", fn := fun _ => fun
  | [d1, d2] => { results := [.lit (.bool false)], args := [d1, d2] }
  | _ => none }
def FrameBackWrongFalsely : Prop := frameBackRow.holds Tryd.pinned (OpenSpec.ofChange frameBackWrong)

/-- 'limnographlaw19.WalRecords': WHATEVER THE INPUT: true; the input reads as it did. -/
def walRecordsSpec : ChangeSpec := { name := "walRecords", fn := fun _ => fun
  | [d] => { results := [.lit (.bool true)], args := [d] }
  | _ => none }
def walRecordsRow : OpenClaim := { program := "ytficodklidaheaadoor", sum := "52b7047a98c18c76ee23e998a00cbe585283544017089ed305c50db0876edb05", func := "limnograph/limnographlaw19.WalRecords", spec := "walRecords", unfollowed := true, recurses := true, named := ["limnograph/crc.nibbles"], apart := false, laid := [("limnograph/crc.nibbles", laid_limnograph_crc_nibbles)] }
def WalRecordsSaid : Prop := walRecordsRow.holds Tryd.pinned (OpenSpec.ofChange walRecordsSpec)

/-- ITS FALSE NEIGHBOUR: 'it returns false'. Refute it at one input. -/
def walRecordsWrong : ChangeSpec := { name := "walRecords", fn := fun _ => fun
  | [d] => { results := [.lit (.bool false)], args := [d] }
  | _ => none }
def WalRecordsWrongFalsely : Prop := walRecordsRow.holds Tryd.pinned (OpenSpec.ofChange walRecordsWrong)

/-- 'limnographlaw19.WalOpens': WHATEVER THE INPUT: true; the input reads as it did. -/
def walOpensSpec : ChangeSpec := { name := "walOpens", fn := fun _ => fun
  | [d1, d2, d3] => { results := [.lit (.bool true)], args := [d1, d2, d3] }
  | _ => none }
def walOpensRow : OpenClaim := { program := "ytficodklidaheaadoor", sum := "52b7047a98c18c76ee23e998a00cbe585283544017089ed305c50db0876edb05", func := "limnograph/limnographlaw19.WalOpens", spec := "walOpens", unfollowed := true, recurses := true, named := ["limnograph/crc.nibbles"], apart := false, laid := [("limnograph/crc.nibbles", laid_limnograph_crc_nibbles)] }
def WalOpensSaid : Prop := walOpensRow.holds Tryd.pinned (OpenSpec.ofChange walOpensSpec)

/-- ITS FALSE NEIGHBOUR: 'it returns false'. Refute it at one input. -/
def walOpensWrong : ChangeSpec := { name := "walOpens", fn := fun _ => fun
  | [d1, d2, d3] => { results := [.lit (.bool false)], args := [d1, d2, d3] }
  | _ => none }
def WalOpensWrongFalsely : Prop := walOpensRow.holds Tryd.pinned (OpenSpec.ofChange walOpensWrong)

/-- 'limnographlaw19.WalKeeps': WHATEVER THE INPUT: true; the input reads as it did. -/
def walKeepsSpec : ChangeSpec := { name := "walKeeps", fn := fun _ => fun
  | [d1, d2, d3, d4, d5] => { results := [.lit (.bool true)], args := [d1, d2, d3, d4, d5] }
  | _ => none }
def walKeepsRow : OpenClaim := { program := "ytficodklidaheaadoor", sum := "52b7047a98c18c76ee23e998a00cbe585283544017089ed305c50db0876edb05", func := "limnograph/limnographlaw19.WalKeeps", spec := "walKeeps", unfollowed := true, recurses := true, named := ["limnograph/crc.nibbles"], apart := false, laid := [("limnograph/crc.nibbles", laid_limnograph_crc_nibbles)] }
def WalKeepsSaid : Prop := walKeepsRow.holds Tryd.pinned (OpenSpec.ofChange walKeepsSpec)

/-- ITS FALSE NEIGHBOUR: 'it returns false'. Refute it at one input. -/
def walKeepsWrong : ChangeSpec := { name := "walKeeps", fn := fun _ => fun
  | [d1, d2, d3, d4, d5] => { results := [.lit (.bool false)], args := [d1, d2, d3, d4, d5] }
  | _ => none }
def WalKeepsWrongFalsely : Prop := walKeepsRow.holds Tryd.pinned (OpenSpec.ofChange walKeepsWrong)

/-- 'limnographlaw20.SnapPlays': WHATEVER THE INPUT: true; the input reads as it did. -/
def snapPlaysSpec : ChangeSpec := { name := "snapPlays", fn := fun _ => fun
  | [d1, d2, d3] => { results := [.lit (.bool true)], args := [d1, d2, d3] }
  | _ => none }
def snapPlaysRow : OpenClaim := { program := "ytficodklidaheaadoor", sum := "52b7047a98c18c76ee23e998a00cbe585283544017089ed305c50db0876edb05", func := "limnograph/limnographlaw20.SnapPlays", spec := "snapPlays", unfollowed := true, recurses := true, named := ["limnograph/crc.nibbles"], apart := false, laid := [("limnograph/crc.nibbles", laid_limnograph_crc_nibbles)] }
def SnapPlaysSaid : Prop := snapPlaysRow.holds Tryd.pinned (OpenSpec.ofChange snapPlaysSpec)

/-- ITS FALSE NEIGHBOUR: 'it returns false'. Refute it at one input. -/
def snapPlaysWrong : ChangeSpec := { name := "snapPlays", fn := fun _ => fun
  | [d1, d2, d3] => { results := [.lit (.bool false)], args := [d1, d2, d3] }
  | _ => none }
def SnapPlaysWrongFalsely : Prop := snapPlaysRow.holds Tryd.pinned (OpenSpec.ofChange snapPlaysWrong)

/-- 'limnographlaw20.SnapWhole': WHATEVER THE INPUT: true; the input reads as it did. -/
def snapWholeSpec : ChangeSpec := { name := "snapWhole", fn := fun _ => fun
  | [d1, d2, d3, d4, d5, d6, d7] => { results := [.lit (.bool true)], args := [d1, d2, d3, d4, d5, d6, d7] }
  | _ => none }
def snapWholeRow : OpenClaim := { program := "ytficodklidaheaadoor", sum := "52b7047a98c18c76ee23e998a00cbe585283544017089ed305c50db0876edb05", func := "limnograph/limnographlaw20.SnapWhole", spec := "snapWhole", unfollowed := true, recurses := true, named := ["limnograph/crc.nibbles"], apart := false, laid := [("limnograph/crc.nibbles", laid_limnograph_crc_nibbles)] }
def SnapWholeSaid : Prop := snapWholeRow.holds Tryd.pinned (OpenSpec.ofChange snapWholeSpec)

/-- ITS FALSE NEIGHBOUR: 'it returns false'. Refute it at one input. -/
def snapWholeWrong : ChangeSpec := { name := "snapWhole", fn := fun _ => fun
  | [d1, d2, d3, d4, d5, d6, d7] => { results := [.lit (.bool false)], args := [d1, d2, d3, d4, d5, d6, d7] }
  | _ => none }
def SnapWholeWrongFalsely : Prop := snapWholeRow.holds Tryd.pinned (OpenSpec.ofChange snapWholeWrong)

/-- 'limnographlaw25.ShipOpens': WHATEVER THE INPUT: true; the input reads as it did. -/
def shipOpensSpec : ChangeSpec := { name := "shipOpens", fn := fun _ => fun
  | [d] => { results := [.lit (.bool true)], args := [d] }
  | _ => none }
def shipOpensRow : OpenClaim := { program := "ytficodklidaheaadoor", sum := "52b7047a98c18c76ee23e998a00cbe585283544017089ed305c50db0876edb05", func := "limnograph/limnographlaw25.ShipOpens", spec := "shipOpens", named := ["limnograph/crc.nibbles"], apart := false, laid := [("limnograph/crc.nibbles", laid_limnograph_crc_nibbles)] }
def ShipOpensSaid : Prop := shipOpensRow.holds Tryd.pinned (OpenSpec.ofChange shipOpensSpec)

/-- ITS FALSE NEIGHBOUR: 'it returns false'. Refute it at one input. -/
def shipOpensWrong : ChangeSpec := { name := "shipOpens", fn := fun _ => fun
  | [d] => { results := [.lit (.bool false)], args := [d] }
  | _ => none }
def ShipOpensWrongFalsely : Prop := shipOpensRow.holds Tryd.pinned (OpenSpec.ofChange shipOpensWrong)

/-- 'limnographlaw25.ShipDue': WHATEVER THE INPUT: true; the input reads as it did. -/
def shipDueSpec : ChangeSpec := { name := "shipDue", fn := fun _ => fun
  | [d1, d2, d3] => { results := [.lit (.bool true)], args := [d1, d2, d3] }
  | _ => none }
def shipDueRow : OpenClaim := { program := "ytficodklidaheaadoor", sum := "52b7047a98c18c76ee23e998a00cbe585283544017089ed305c50db0876edb05", func := "limnograph/limnographlaw25.ShipDue", spec := "shipDue", named := ["limnograph/crc.nibbles"], apart := false, laid := [("limnograph/crc.nibbles", laid_limnograph_crc_nibbles)] }
def ShipDueSaid : Prop := shipDueRow.holds Tryd.pinned (OpenSpec.ofChange shipDueSpec)

/-- ITS FALSE NEIGHBOUR: 'it returns false'. Refute it at one input. -/
def shipDueWrong : ChangeSpec := { name := "shipDue", fn := fun _ => fun
  | [d1, d2, d3] => { results := [.lit (.bool false)], args := [d1, d2, d3] }
  | _ => none }
def ShipDueWrongFalsely : Prop := shipDueRow.holds Tryd.pinned (OpenSpec.ofChange shipDueWrong)

/- THE SECOND FORM. 'bulk': how many values and letters a reading holds, each counted each time it is reached (what is shared counts as often as it is met; a slice's spare places count too). A statement '..UptoSaid' is the law's where the arguments, and the package variables that the reading takes, are together of bulk at most 1048576: NARROWER than '..Said'. Prove '..Said' where nothing that the law and all that it calls make is longer than what came in: it says more and counts as full. Else prove '..UptoSaid'. A law counts once. -/
mutual
def uptoBulk {H : Type} : DataW H → Nat
  | .lit (.string bytes) => bytes.length + 1
  | .lit _ => 1
  | .nil => 1
  | .ptr d => uptoBulk d + 1
  | .slice elems spare => uptoBulkAll elems + uptoBulkAll spare + 1
  | .agg parts => uptoBulkAll parts + 1
  | .iface _ d => uptoBulk d + 1
  | .map entries => uptoBulkEntries entries + 1
  | .held _ => 1
def uptoBulkAll {H : Type} : List (DataW H) → Nat
  | [] => 0
  | d :: r => uptoBulk d + uptoBulkAll r
def uptoBulkEntries {H : Type} : List (Lit × DataW H) → Nat
  | [] => 0
  | x :: r => uptoBulkEntry x + uptoBulkEntries r
def uptoBulkEntry {H : Type} : Lit × DataW H → Nat
  | (.string bytes, d) => bytes.length + uptoBulk d + 1
  | (_, d) => uptoBulk d + 1
 end
def uptoSmall : (H : Type) → List (DataW H) → Bool := fun _ ds => decide (uptoBulkAll ds ≤ 1048576)
def OpenSpec.upto (s : _root_.Go.ChangeSpec) : _root_.Go.OpenSpec := { _root_.Go.OpenSpec.ofChange s with cond := some uptoSmall }

/-- 'limnographlaw04.FrameReads', WHERE WHAT IT READS IS OF BULK AT MOST 1048576: true; the input reads as it did. -/
def frameReadsUptoRow : OpenClaim := { program := "ytficodklidaheaadoor", sum := "52b7047a98c18c76ee23e998a00cbe585283544017089ed305c50db0876edb05", func := "limnograph/limnographlaw04.FrameReads", spec := "frameReads", named := ["limnograph/crc.nibbles"], apart := false, laid := [("limnograph/crc.nibbles", laid_limnograph_crc_nibbles)], narrowed := true }
def FrameReadsUptoSaid : Prop := frameReadsUptoRow.holds Tryd.pinned (OpenSpec.upto frameReadsSpec)

/-- 'limnographlaw04.FrameBack', WHERE WHAT IT READS IS OF BULK AT MOST 1048576: true; the input reads as it did. -/
def frameBackUptoRow : OpenClaim := { program := "ytficodklidaheaadoor", sum := "52b7047a98c18c76ee23e998a00cbe585283544017089ed305c50db0876edb05", func := "limnograph/limnographlaw04.FrameBack", spec := "frameBack", named := ["limnograph/crc.nibbles"], apart := false, laid := [("limnograph/crc.nibbles", laid_limnograph_crc_nibbles)], narrowed := true }
def FrameBackUptoSaid : Prop := frameBackUptoRow.holds Tryd.pinned (OpenSpec.upto frameBackSpec)

/-- 'limnographlaw19.WalRecords', WHERE WHAT IT READS IS OF BULK AT MOST 1048576: true; the input reads as it did. -/
def walRecordsUptoRow : OpenClaim := { program := "ytficodklidaheaadoor", sum := "52b7047a98c18c76ee23e998a00cbe585283544017089ed305c50db0876edb05", func := "limnograph/limnographlaw19.WalRecords", spec := "walRecords", unfollowed := true, recurses := true, named := ["limnograph/crc.nibbles"], apart := false, laid := [("limnograph/crc.nibbles", laid_limnograph_crc_nibbles)], narrowed := true }
def WalRecordsUptoSaid : Prop := walRecordsUptoRow.holds Tryd.pinned (OpenSpec.upto walRecordsSpec)

/-- 'limnographlaw19.WalOpens', WHERE WHAT IT READS IS OF BULK AT MOST 1048576: true; the input reads as it did. -/
def walOpensUptoRow : OpenClaim := { program := "ytficodklidaheaadoor", sum := "52b7047a98c18c76ee23e998a00cbe585283544017089ed305c50db0876edb05", func := "limnograph/limnographlaw19.WalOpens", spec := "walOpens", unfollowed := true, recurses := true, named := ["limnograph/crc.nibbles"], apart := false, laid := [("limnograph/crc.nibbles", laid_limnograph_crc_nibbles)], narrowed := true }
def WalOpensUptoSaid : Prop := walOpensUptoRow.holds Tryd.pinned (OpenSpec.upto walOpensSpec)

/-- 'limnographlaw19.WalKeeps', WHERE WHAT IT READS IS OF BULK AT MOST 1048576: true; the input reads as it did. -/
def walKeepsUptoRow : OpenClaim := { program := "ytficodklidaheaadoor", sum := "52b7047a98c18c76ee23e998a00cbe585283544017089ed305c50db0876edb05", func := "limnograph/limnographlaw19.WalKeeps", spec := "walKeeps", unfollowed := true, recurses := true, named := ["limnograph/crc.nibbles"], apart := false, laid := [("limnograph/crc.nibbles", laid_limnograph_crc_nibbles)], narrowed := true }
def WalKeepsUptoSaid : Prop := walKeepsUptoRow.holds Tryd.pinned (OpenSpec.upto walKeepsSpec)

/-- 'limnographlaw20.SnapPlays', WHERE WHAT IT READS IS OF BULK AT MOST 1048576: true; the input reads as it did. -/
def snapPlaysUptoRow : OpenClaim := { program := "ytficodklidaheaadoor", sum := "52b7047a98c18c76ee23e998a00cbe585283544017089ed305c50db0876edb05", func := "limnograph/limnographlaw20.SnapPlays", spec := "snapPlays", unfollowed := true, recurses := true, named := ["limnograph/crc.nibbles"], apart := false, laid := [("limnograph/crc.nibbles", laid_limnograph_crc_nibbles)], narrowed := true }
def SnapPlaysUptoSaid : Prop := snapPlaysUptoRow.holds Tryd.pinned (OpenSpec.upto snapPlaysSpec)

/-- 'limnographlaw20.SnapWhole', WHERE WHAT IT READS IS OF BULK AT MOST 1048576: true; the input reads as it did. -/
def snapWholeUptoRow : OpenClaim := { program := "ytficodklidaheaadoor", sum := "52b7047a98c18c76ee23e998a00cbe585283544017089ed305c50db0876edb05", func := "limnograph/limnographlaw20.SnapWhole", spec := "snapWhole", unfollowed := true, recurses := true, named := ["limnograph/crc.nibbles"], apart := false, laid := [("limnograph/crc.nibbles", laid_limnograph_crc_nibbles)], narrowed := true }
def SnapWholeUptoSaid : Prop := snapWholeUptoRow.holds Tryd.pinned (OpenSpec.upto snapWholeSpec)

/-- 'limnographlaw25.ShipOpens', WHERE WHAT IT READS IS OF BULK AT MOST 1048576: true; the input reads as it did. -/
def shipOpensUptoRow : OpenClaim := { program := "ytficodklidaheaadoor", sum := "52b7047a98c18c76ee23e998a00cbe585283544017089ed305c50db0876edb05", func := "limnograph/limnographlaw25.ShipOpens", spec := "shipOpens", named := ["limnograph/crc.nibbles"], apart := false, laid := [("limnograph/crc.nibbles", laid_limnograph_crc_nibbles)], narrowed := true }
def ShipOpensUptoSaid : Prop := shipOpensUptoRow.holds Tryd.pinned (OpenSpec.upto shipOpensSpec)

/-- 'limnographlaw25.ShipDue', WHERE WHAT IT READS IS OF BULK AT MOST 1048576: true; the input reads as it did. -/
def shipDueUptoRow : OpenClaim := { program := "ytficodklidaheaadoor", sum := "52b7047a98c18c76ee23e998a00cbe585283544017089ed305c50db0876edb05", func := "limnograph/limnographlaw25.ShipDue", spec := "shipDue", named := ["limnograph/crc.nibbles"], apart := false, laid := [("limnograph/crc.nibbles", laid_limnograph_crc_nibbles)], narrowed := true }
def ShipDueUptoSaid : Prop := shipDueUptoRow.holds Tryd.pinned (OpenSpec.upto shipDueSpec)

end Rows
end Go.Proofs.YtficodklidaheaaDoor
