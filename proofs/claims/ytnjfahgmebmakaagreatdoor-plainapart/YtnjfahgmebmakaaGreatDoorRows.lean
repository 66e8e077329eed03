/-
  NARROWER THAN 'FOR EVERY INPUT', by the rows' own cells (each row's printed sentence says how): PlainSerial: laid · PlainKeeps: laid · PlainApart: laid · PlainScripts: laid.
  DERIVED. THE GIVEN ROWS OF THIS SEAT. 4 by the template 'for every input the law returns true; each argument reads behind the call as it read before'; 0 by the template 'total and deterministic' (their statements: YtnjfahgmebmakaaGreatDoorTotals.lean).
  GIVEN WITH THE SEED: the statements are not yours to turn. If you find one false, say at which input.
  Laid BY PROGRAM, IN A SANDBOX (cutbox-rows.mjs): the forced cells as the released guide's own fill.sh prints them over the translation 37703af013aebf73… (all of the seat's roots in one cut). By AI agents, Wed Nov 11 2026. No macro, syntax, notation, axiom, sorry.
-/
import Derived.Test.YtnjfahgmebmakaaGreatDoorChecked
import GoSem.Claim
import GoSem.ClaimJoined
import GoSem.ClaimMapViews
import Derived.JoinedTies
import Derived.KernelRfl
namespace Go.Proofs.YtnjfahgmebmakaaGreatDoor
/- THE CELL 'sum', in the pinned program and in every row, IS THE sha256 OF THE DUMP (.gsa) THAT YtnjfahgmebmakaaGreatDoorProg.lean LOADS. Nothing in Lean hashes anything: it is a label: what it is worth is what the hold of that sum in a sandbox is worth. -/
noncomputable def Tryz.pinned : Pinned := { name := "ytnjfahgmebmakaagreatdoor", sum := "37703af013aebf7392b1a2bfade7e3180db8e9a1f8f4bcbb1e95f532f733af15", checked := Tryz.checked }
namespace Rows
def none {H : Type} : Left H := { results := [], args := [] }

/- WHAT THE LISTED PACKAGE-LEVEL VARIABLES READ AS WHEN THE CALL BEGINS. Each datum BY PROGRAM (the guide's laid-datum.mjs) off the statement by which the dump's own 'gosem.cut.vars' lays the variable. In a bare row this is a premise. The card (YtnjfahgmebmakaaGreatDoorCards.lean) ties it to the program's text. -/
def laid_errors_errorType {H : Type} : DataW H := .iface "internal/reflectlite.rtype" (.agg [.ptr (.lit (.string [101, 114, 114, 111, 114]))])

/-- 'tidemarklaw18.PlainSerial': WHATEVER THE INPUT: true; the input reads as it did. -/
def plainSerialSpec : ChangeSpec := { name := "plainSerial", fn := fun _ => fun
  | [d1, d2] => { results := [.lit (.bool true)], args := [d1, d2] }
  | _ => none }
def plainSerialRow : OpenClaim := { program := "ytnjfahgmebmakaagreatdoor", sum := "37703af013aebf7392b1a2bfade7e3180db8e9a1f8f4bcbb1e95f532f733af15", func := "tidemark/tidemarklaw18.PlainSerial", spec := "plainSerial", inPlace := ["internal/reflectlite.ValueOf", "(internal/reflectlite.Value).Type", "(internal/reflectlite.Value).IsNil", "internal/reflectlite.TypeOf", "(internal/reflectlite.Value).Elem", "(internal/reflectlite.Value).Set"], unfollowed := true, recurses := true, named := ["errors.errorType"], apart := false, laid := [("errors.errorType", laid_errors_errorType)] }
def PlainSerialSaid : Prop := plainSerialRow.holds Tryz.pinned (OpenSpec.ofChange plainSerialSpec)

/-- ITS FALSE NEIGHBOUR: 'it returns false'. Refute it at one input. -/
def plainSerialWrong : ChangeSpec := { name := "plainSerial", fn := fun _ => fun
  | [d1, d2] => { results := [.lit (.bool false)], args := [d1, d2] }
  | _ => none }
def PlainSerialWrongFalsely : Prop := plainSerialRow.holds Tryz.pinned (OpenSpec.ofChange plainSerialWrong)

/-- 'tidemarklaw18.PlainKeeps': WHATEVER THE INPUT: true; the input reads as it did. -/
def plainKeepsSpec : ChangeSpec := { name := "plainKeeps", fn := fun _ => fun
  | [d1, d2] => { results := [.lit (.bool true)], args := [d1, d2] }
  | _ => none }
def plainKeepsRow : OpenClaim := { program := "ytnjfahgmebmakaagreatdoor", sum := "37703af013aebf7392b1a2bfade7e3180db8e9a1f8f4bcbb1e95f532f733af15", func := "tidemark/tidemarklaw18.PlainKeeps", spec := "plainKeeps", inPlace := ["internal/reflectlite.ValueOf", "(internal/reflectlite.Value).Type", "(internal/reflectlite.Value).IsNil", "internal/reflectlite.TypeOf", "(internal/reflectlite.Value).Elem", "(internal/reflectlite.Value).Set"], unfollowed := true, recurses := true, named := ["errors.errorType"], apart := false, laid := [("errors.errorType", laid_errors_errorType)] }
def PlainKeepsSaid : Prop := plainKeepsRow.holds Tryz.pinned (OpenSpec.ofChange plainKeepsSpec)

/-- ITS FALSE NEIGHBOUR: 'it returns false'. Refute it at one input. -/
def plainKeepsWrong : ChangeSpec := { name := "plainKeeps", fn := fun _ => fun
  | [d1, d2] => { results := [.lit (.bool false)], args := [d1, d2] }
  | _ => none }
def PlainKeepsWrongFalsely : Prop := plainKeepsRow.holds Tryz.pinned (OpenSpec.ofChange plainKeepsWrong)

/-- 'tidemarklaw18.PlainApart': WHATEVER THE INPUT: true; the input reads as it did. -/
def plainApartSpec : ChangeSpec := { name := "plainApart", fn := fun _ => fun
  | [d1, d2, d3, d4] => { results := [.lit (.bool true)], args := [d1, d2, d3, d4] }
  | _ => none }
def plainApartRow : OpenClaim := { program := "ytnjfahgmebmakaagreatdoor", sum := "37703af013aebf7392b1a2bfade7e3180db8e9a1f8f4bcbb1e95f532f733af15", func := "tidemark/tidemarklaw18.PlainApart", spec := "plainApart", inPlace := ["internal/reflectlite.ValueOf", "(internal/reflectlite.Value).Type", "(internal/reflectlite.Value).IsNil", "internal/reflectlite.TypeOf", "(internal/reflectlite.Value).Elem", "(internal/reflectlite.Value).Set"], unfollowed := true, recurses := true, named := ["errors.errorType"], apart := false, laid := [("errors.errorType", laid_errors_errorType)] }
def PlainApartSaid : Prop := plainApartRow.holds Tryz.pinned (OpenSpec.ofChange plainApartSpec)

/-- ITS FALSE NEIGHBOUR: 'it returns false'. Refute it at one input. -/
def plainApartWrong : ChangeSpec := { name := "plainApart", fn := fun _ => fun
  | [d1, d2, d3, d4] => { results := [.lit (.bool false)], args := [d1, d2, d3, d4] }
  | _ => none }
def PlainApartWrongFalsely : Prop := plainApartRow.holds Tryz.pinned (OpenSpec.ofChange plainApartWrong)

/-- 'tidemarklaw18.PlainScripts': WHATEVER THE INPUT: true; the input reads as it did. -/
def plainScriptsSpec : ChangeSpec := { name := "plainScripts", fn := fun _ => fun
  | [d1, d2] => { results := [.lit (.bool true)], args := [d1, d2] }
  | _ => none }
def plainScriptsRow : OpenClaim := { program := "ytnjfahgmebmakaagreatdoor", sum := "37703af013aebf7392b1a2bfade7e3180db8e9a1f8f4bcbb1e95f532f733af15", func := "tidemark/tidemarklaw18.PlainScripts", spec := "plainScripts", inPlace := ["internal/reflectlite.ValueOf", "(internal/reflectlite.Value).Type", "(internal/reflectlite.Value).IsNil", "internal/reflectlite.TypeOf", "(internal/reflectlite.Value).Elem", "(internal/reflectlite.Value).Set"], unfollowed := true, recurses := true, named := ["errors.errorType"], apart := false, laid := [("errors.errorType", laid_errors_errorType)] }
def PlainScriptsSaid : Prop := plainScriptsRow.holds Tryz.pinned (OpenSpec.ofChange plainScriptsSpec)

/-- ITS FALSE NEIGHBOUR: 'it returns false'. Refute it at one input. -/
def plainScriptsWrong : ChangeSpec := { name := "plainScripts", fn := fun _ => fun
  | [d1, d2] => { results := [.lit (.bool false)], args := [d1, d2] }
  | _ => none }
def PlainScriptsWrongFalsely : Prop := plainScriptsRow.holds Tryz.pinned (OpenSpec.ofChange plainScriptsWrong)

/- THE SECOND FORM. 'bulk': how many values and letters a reading holds, each counted each time it is reached (what is shared counts as often as it is met; a slice's spare places count too). A statement '..UptoSaid' is the law's where the arguments, and the package variables that the reading takes, are together of bulk at most 1048576: NARROWER than '..Said'. Prove '..Said' where nothing that the law and all that it calls make is longer than what came in: it says more and counts as full. Else prove '..UptoSaid'. A law counts once. -/
mutual
def uptoBulk {H : Type} : DataW H → Nat
  | .lit (.string bytes) => bytes.length + 1
  | .lit _ => 1
  | .nil => 1
  | .ptr d => uptoBulk d + 1
  | .slice elems spare => uptoBulkAll elems + uptoBulkAll spare + 1
  | .agg parts => uptoBulkAll parts + 1
  | .iface _ d => uptoBulk d + 1
  | .map entries => uptoBulkEntries entries + 1
  | .held _ => 1
def uptoBulkAll {H : Type} : List (DataW H) → Nat
  | [] => 0
  | d :: r => uptoBulk d + uptoBulkAll r
def uptoBulkEntries {H : Type} : List (Lit × DataW H) → Nat
  | [] => 0
  | x :: r => uptoBulkEntry x + uptoBulkEntries r
def uptoBulkEntry {H : Type} : Lit × DataW H → Nat
  | (.string bytes, d) => bytes.length + uptoBulk d + 1
  | (_, d) => uptoBulk d + 1
 end
def uptoSmall : (H : Type) → List (DataW H) → Bool := fun _ ds => decide (uptoBulkAll ds ≤ 1048576)
def OpenSpec.upto (s : _root_.Go.ChangeSpec) : _root_.Go.OpenSpec := { _root_.Go.OpenSpec.ofChange s with cond := some uptoSmall }

/-- 'tidemarklaw18.PlainSerial', WHERE WHAT IT READS IS OF BULK AT MOST 1048576: true; the input reads as it did. -/
def plainSerialUptoRow : OpenClaim := { program := "ytnjfahgmebmakaagreatdoor", sum := "37703af013aebf7392b1a2bfade7e3180db8e9a1f8f4bcbb1e95f532f733af15", func := "tidemark/tidemarklaw18.PlainSerial", spec := "plainSerial", inPlace := ["internal/reflectlite.ValueOf", "(internal/reflectlite.Value).Type", "(internal/reflectlite.Value).IsNil", "internal/reflectlite.TypeOf", "(internal/reflectlite.Value).Elem", "(internal/reflectlite.Value).Set"], unfollowed := true, recurses := true, named := ["errors.errorType"], apart := false, laid := [("errors.errorType", laid_errors_errorType)], narrowed := true }
def PlainSerialUptoSaid : Prop := plainSerialUptoRow.holds Tryz.pinned (OpenSpec.upto plainSerialSpec)

/-- 'tidemarklaw18.PlainKeeps', WHERE WHAT IT READS IS OF BULK AT MOST 1048576: true; the input reads as it did. -/
def plainKeepsUptoRow : OpenClaim := { program := "ytnjfahgmebmakaagreatdoor", sum := "37703af013aebf7392b1a2bfade7e3180db8e9a1f8f4bcbb1e95f532f733af15", func := "tidemark/tidemarklaw18.PlainKeeps", spec := "plainKeeps", inPlace := ["internal/reflectlite.ValueOf", "(internal/reflectlite.Value).Type", "(internal/reflectlite.Value).IsNil", "internal/reflectlite.TypeOf", "(internal/reflectlite.Value).Elem", "(internal/reflectlite.Value).Set"], unfollowed := true, recurses := true, named := ["errors.errorType"], apart := false, laid := [("errors.errorType", laid_errors_errorType)], narrowed := true }
def PlainKeepsUptoSaid : Prop := plainKeepsUptoRow.holds Tryz.pinned (OpenSpec.upto plainKeepsSpec)

/-- 'tidemarklaw18.PlainApart', WHERE WHAT IT READS IS OF BULK AT MOST 1048576: true; the input reads as it did. -/
def plainApartUptoRow : OpenClaim := { program := "ytnjfahgmebmakaagreatdoor", sum := "37703af013aebf7392b1a2bfade7e3180db8e9a1f8f4bcbb1e95f532f733af15", func := "tidemark/tidemarklaw18.PlainApart", spec := "plainApart", inPlace := ["internal/reflectlite.ValueOf", "(internal/reflectlite.Value).Type", "(internal/reflectlite.Value).IsNil", "internal/reflectlite.TypeOf", "(internal/reflectlite.Value).Elem", "(internal/reflectlite.Value).Set"], unfollowed := true, recurses := true, named := ["errors.errorType"], apart := false, laid := [("errors.errorType", laid_errors_errorType)], narrowed := true }
def PlainApartUptoSaid : Prop := plainApartUptoRow.holds Tryz.pinned (OpenSpec.upto plainApartSpec)

/-- 'tidemarklaw18.PlainScripts', WHERE WHAT IT READS IS OF BULK AT MOST 1048576: true; the input reads as it did. -/
def plainScriptsUptoRow : OpenClaim := { program := "ytnjfahgmebmakaagreatdoor", sum := "37703af013aebf7392b1a2bfade7e3180db8e9a1f8f4bcbb1e95f532f733af15", func := "tidemark/tidemarklaw18.PlainScripts", spec := "plainScripts", inPlace := ["internal/reflectlite.ValueOf", "(internal/reflectlite.Value).Type", "(internal/reflectlite.Value).IsNil", "internal/reflectlite.TypeOf", "(internal/reflectlite.Value).Elem", "(internal/reflectlite.Value).Set"], unfollowed := true, recurses := true, named := ["errors.errorType"], apart := false, laid := [("errors.errorType", laid_errors_errorType)], narrowed := true }
def PlainScriptsUptoSaid : Prop := plainScriptsUptoRow.holds Tryz.pinned (OpenSpec.upto plainScriptsSpec)

end Rows
end Go.Proofs.YtnjfahgmebmakaaGreatDoor
