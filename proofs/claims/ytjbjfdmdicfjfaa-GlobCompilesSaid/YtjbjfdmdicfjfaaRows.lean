/-
  No cell of these rows narrows 'for every input' (looked for: loops, veiled, ifaces, maps, wideKeys, modest, calm, conditions, laid).
  DERIVED. THE GIVEN ROWS OF THIS SEAT. 3 by the template 'for every input the law returns true; each argument reads behind the call as it read before'; 0 by the template 'total and deterministic' (their statements: YtjbjfdmdicfjfaaTotals.lean).
  GIVEN WITH THE SEED: the statements are not yours to turn. If you find one false, say at which input.
  Laid BY PROGRAM, IN A SANDBOX (cutbox-rows.mjs): the forced cells as the released guide's own fill.sh prints them over the translation 6c1f8ab0c64f293e… (all of the seat's roots in one cut). By AI agents, Wed Nov 11 2026. No macro, syntax, notation, axiom, sorry.
-/
import Derived.Test.YtjbjfdmdicfjfaaChecked
import GoSem.Claim
import GoSem.ClaimJoined
import GoSem.ClaimMapViews
import Derived.JoinedTies
import Derived.KernelRfl
namespace Go.Proofs.Ytjbjfdmdicfjfaa
/- THE CELL 'sum', in the pinned program and in every row, IS THE sha256 OF THE DUMP (.gsa) THAT YtjbjfdmdicfjfaaProg.lean LOADS. Nothing in Lean hashes anything: it is a label: what it is worth is what the hold of that sum in a sandbox is worth. -/
noncomputable def Try.pinned : Pinned := { name := "ytjbjfdmdicfjfaa", sum := "6c1f8ab0c64f293e897a56f2eab6ced8db1e2ce5f9777cfeae77b5b07780f3a9", checked := Try.checked }
namespace Rows
def none {H : Type} : Left H := { results := [], args := [] }

/-- 'limnographlaw32.GlobCompiles': WHATEVER THE INPUT: true; the input reads as it did. -/
def globCompilesSpec : ChangeSpec := { name := "globCompiles", fn := fun _ => fun
  | [d] => { results := [.lit (.bool true)], args := [d] }
  | _ => none }
def globCompilesRow : OpenClaim := { program := "ytjbjfdmdicfjfaa", sum := "6c1f8ab0c64f293e897a56f2eab6ced8db1e2ce5f9777cfeae77b5b07780f3a9", func := "limnograph/limnographlaw32.GlobCompiles", spec := "globCompiles", inPlace := ["internal/bytealg.IndexByteString"], apart := false }
def GlobCompilesSaid : Prop := globCompilesRow.holds Try.pinned (OpenSpec.ofChange globCompilesSpec)

/-- ITS FALSE NEIGHBOUR: 'it returns false'. Refute it at one input. -/
def globCompilesWrong : ChangeSpec := { name := "globCompiles", fn := fun _ => fun
  | [d] => { results := [.lit (.bool false)], args := [d] }
  | _ => none }
def GlobCompilesWrongFalsely : Prop := globCompilesRow.holds Try.pinned (OpenSpec.ofChange globCompilesWrong)

/-- 'limnographlaw32.GlobMatches': WHATEVER THE INPUT: true; the input reads as it did. -/
def globMatchesSpec : ChangeSpec := { name := "globMatches", fn := fun _ => fun
  | [d1, d2] => { results := [.lit (.bool true)], args := [d1, d2] }
  | _ => none }
def globMatchesRow : OpenClaim := { program := "ytjbjfdmdicfjfaa", sum := "6c1f8ab0c64f293e897a56f2eab6ced8db1e2ce5f9777cfeae77b5b07780f3a9", func := "limnograph/limnographlaw32.GlobMatches", spec := "globMatches", inPlace := ["internal/bytealg.IndexByteString"], apart := false }
def GlobMatchesSaid : Prop := globMatchesRow.holds Try.pinned (OpenSpec.ofChange globMatchesSpec)

/-- ITS FALSE NEIGHBOUR: 'it returns false'. Refute it at one input. -/
def globMatchesWrong : ChangeSpec := { name := "globMatches", fn := fun _ => fun
  | [d1, d2] => { results := [.lit (.bool false)], args := [d1, d2] }
  | _ => none }
def GlobMatchesWrongFalsely : Prop := globMatchesRow.holds Try.pinned (OpenSpec.ofChange globMatchesWrong)

/-- 'limnographlaw32.GlobJoins': WHATEVER THE INPUT: true; the input reads as it did. -/
def globJoinsSpec : ChangeSpec := { name := "globJoins", fn := fun _ => fun
  | [d1, d2, d3] => { results := [.lit (.bool true)], args := [d1, d2, d3] }
  | _ => none }
def globJoinsRow : OpenClaim := { program := "ytjbjfdmdicfjfaa", sum := "6c1f8ab0c64f293e897a56f2eab6ced8db1e2ce5f9777cfeae77b5b07780f3a9", func := "limnograph/limnographlaw32.GlobJoins", spec := "globJoins", inPlace := ["internal/bytealg.IndexByteString"], apart := false }
def GlobJoinsSaid : Prop := globJoinsRow.holds Try.pinned (OpenSpec.ofChange globJoinsSpec)

/-- ITS FALSE NEIGHBOUR: 'it returns false'. Refute it at one input. -/
def globJoinsWrong : ChangeSpec := { name := "globJoins", fn := fun _ => fun
  | [d1, d2, d3] => { results := [.lit (.bool false)], args := [d1, d2, d3] }
  | _ => none }
def GlobJoinsWrongFalsely : Prop := globJoinsRow.holds Try.pinned (OpenSpec.ofChange globJoinsWrong)

/- THE SECOND FORM. 'bulk': how many values and letters a reading holds, each counted each time it is reached (what is shared counts as often as it is met; a slice's spare places count too). A statement '..UptoSaid' is the law's where the arguments, and the package variables that the reading takes, are together of bulk at most 1048576: NARROWER than '..Said'. Prove '..Said' where nothing that the law and all that it calls make is longer than what came in: it says more and counts as full. Else prove '..UptoSaid'. A law counts once. -/
mutual
def uptoBulk {H : Type} : DataW H → Nat
  | .lit (.string bytes) => bytes.length + 1
  | .lit _ => 1
  | .nil => 1
  | .ptr d => uptoBulk d + 1
  | .slice elems spare => uptoBulkAll elems + uptoBulkAll spare + 1
  | .agg parts => uptoBulkAll parts + 1
  | .iface _ d => uptoBulk d + 1
  | .map entries => uptoBulkEntries entries + 1
  | .held _ => 1
def uptoBulkAll {H : Type} : List (DataW H) → Nat
  | [] => 0
  | d :: r => uptoBulk d + uptoBulkAll r
def uptoBulkEntries {H : Type} : List (Lit × DataW H) → Nat
  | [] => 0
  | x :: r => uptoBulkEntry x + uptoBulkEntries r
def uptoBulkEntry {H : Type} : Lit × DataW H → Nat
  | (.string bytes, d) => bytes.length + uptoBulk d + 1
  | (_, d) => uptoBulk d + 1
 end
def uptoSmall : (H : Type) → List (DataW H) → Bool := fun _ ds => decide (uptoBulkAll ds ≤ 1048576)
def OpenSpec.upto (s : _root_.Go.ChangeSpec) : _root_.Go.OpenSpec := { _root_.Go.OpenSpec.ofChange s with cond := some uptoSmall }

/-- 'limnographlaw32.GlobCompiles', WHERE WHAT IT READS IS OF BULK AT MOST 1048576: true; the input reads as it did. -/
def globCompilesUptoRow : OpenClaim := { program := "ytjbjfdmdicfjfaa", sum := "6c1f8ab0c64f293e897a56f2eab6ced8db1e2ce5f9777cfeae77b5b07780f3a9", func := "limnograph/limnographlaw32.GlobCompiles", spec := "globCompiles", inPlace := ["internal/bytealg.IndexByteString"], apart := false, narrowed := true }
def GlobCompilesUptoSaid : Prop := globCompilesUptoRow.holds Try.pinned (OpenSpec.upto globCompilesSpec)

/-- 'limnographlaw32.GlobMatches', WHERE WHAT IT READS IS OF BULK AT MOST 1048576: true; the input reads as it did. -/
def globMatchesUptoRow : OpenClaim := { program := "ytjbjfdmdicfjfaa", sum := "6c1f8ab0c64f293e897a56f2eab6ced8db1e2ce5f9777cfeae77b5b07780f3a9", func := "limnograph/limnographlaw32.GlobMatches", spec := "globMatches", inPlace := ["internal/bytealg.IndexByteString"], apart := false, narrowed := true }
def GlobMatchesUptoSaid : Prop := globMatchesUptoRow.holds Try.pinned (OpenSpec.upto globMatchesSpec)

/-- 'limnographlaw32.GlobJoins', WHERE WHAT IT READS IS OF BULK AT MOST 1048576: true; the input reads as it did. -/
def globJoinsUptoRow : OpenClaim := { program := "ytjbjfdmdicfjfaa", sum := "6c1f8ab0c64f293e897a56f2eab6ced8db1e2ce5f9777cfeae77b5b07780f3a9", func := "limnograph/limnographlaw32.GlobJoins", spec := "globJoins", inPlace := ["internal/bytealg.IndexByteString"], apart := false, narrowed := true }
def GlobJoinsUptoSaid : Prop := globJoinsUptoRow.holds Try.pinned (OpenSpec.upto globJoinsSpec)

end Rows
end Go.Proofs.Ytjbjfdmdicfjfaa
