/-
  No cell of these rows narrows 'for every input' (looked for: loops, veiled, ifaces, maps, wideKeys, modest, calm, conditions, laid).
  DERIVED. THE GIVEN ROWS OF THIS SEAT. 9 by the template 'for every input the law returns true; each argument reads behind the call as it read before'; 0 by the template 'total and deterministic' (their statements: YtbhojobonihccaaTotals.lean).
  GIVEN WITH THE SEED: the statements are not yours to turn. If you find one false, say at which input.
  Laid BY PROGRAM, IN A SANDBOX (cutbox-rows.mjs): the forced cells as the released guide's own fill.sh prints them over the translation 78cd24d79e13aab3… (all of the seat's roots in one cut). By AI agents, Wed Nov 11 2026. No macro, syntax, notation, axiom, sorry.
-/
import Derived.Test.YtbhojobonihccaaChecked
import GoSem.Claim
import GoSem.ClaimJoined
import GoSem.ClaimMapViews
import Derived.JoinedTies
import Derived.KernelRfl
namespace Go.Proofs.Ytbhojobonihccaa
/- THE CELL 'sum', in the pinned program and in every row, IS THE sha256 OF THE DUMP (.gsa) THAT YtbhojobonihccaaProg.lean LOADS. Nothing in Lean hashes anything: it is a label: what it is worth is what the hold of that sum in a sandbox is worth. -/
noncomputable def Try.pinned : Pinned := { name := "ytbhojobonihccaa", sum := "78cd24d79e13aab360ff94b4eb9d217bdbf658a429bc3627b4f041d57784f2b9", checked := Try.checked }
namespace Rows
def none {H : Type} : Left H := { results := [], args := [] }

/-- 'chalklinelaw02.SealSums': WHATEVER THE INPUT: true; the input reads as it did. -/
def sealSumsSpec : ChangeSpec := { name := "sealSums", fn := fun _ => fun
  | [d] => { results := [.lit (.bool true)], args := [d] }
  | _ => none }
def sealSumsRow : OpenClaim := { program := "ytbhojobonihccaa", sum := "78cd24d79e13aab360ff94b4eb9d217bdbf658a429bc3627b4f041d57784f2b9", func := "chalkline/chalklinelaw02.SealSums", spec := "sealSums", apart := false }
def SealSumsSaid : Prop := sealSumsRow.holds Try.pinned (OpenSpec.ofChange sealSumsSpec)

/-- ITS FALSE NEIGHBOUR: 'it returns false'. Refute it at one input. -/
def sealSumsWrong : ChangeSpec := { name := "sealSums", fn := fun _ => fun
  | [d] => { results := [.lit (.bool false)], args := [d] }
  | _ => none }
def SealSumsWrongFalsely : Prop := sealSumsRow.holds Try.pinned (OpenSpec.ofChange sealSumsWrong)

/-- 'chalklinelaw02.SealFrames': WHATEVER THE INPUT: true; the input reads as it did. -/
def sealFramesSpec : ChangeSpec := { name := "sealFrames", fn := fun _ => fun
  | [d1, d2] => { results := [.lit (.bool true)], args := [d1, d2] }
  | _ => none }
def sealFramesRow : OpenClaim := { program := "ytbhojobonihccaa", sum := "78cd24d79e13aab360ff94b4eb9d217bdbf658a429bc3627b4f041d57784f2b9", func := "chalkline/chalklinelaw02.SealFrames", spec := "sealFrames", apart := false }
def SealFramesSaid : Prop := sealFramesRow.holds Try.pinned (OpenSpec.ofChange sealFramesSpec)

/-- ITS FALSE NEIGHBOUR: 'it returns false'. Refute it at one input. -/
def sealFramesWrong : ChangeSpec := { name := "sealFrames", fn := fun _ => fun
  | [d1, d2] => { results := [.lit (.bool false)], args := [d1, d2] }
  | _ => none }
def SealFramesWrongFalsely : Prop := sealFramesRow.holds Try.pinned (OpenSpec.ofChange sealFramesWrong)

/-- 'chalklinelaw02.SealScans': WHATEVER THE INPUT: true; the input reads as it did. -/
def sealScansSpec : ChangeSpec := { name := "sealScans", fn := fun _ => fun
  | [d] => { results := [.lit (.bool true)], args := [d] }
  | _ => none }
def sealScansRow : OpenClaim := { program := "ytbhojobonihccaa", sum := "78cd24d79e13aab360ff94b4eb9d217bdbf658a429bc3627b4f041d57784f2b9", func := "chalkline/chalklinelaw02.SealScans", spec := "sealScans", unfollowed := true, recurses := true, apart := false }
def SealScansSaid : Prop := sealScansRow.holds Try.pinned (OpenSpec.ofChange sealScansSpec)

/-- ITS FALSE NEIGHBOUR: 'it returns false'. Refute it at one input. -/
def sealScansWrong : ChangeSpec := { name := "sealScans", fn := fun _ => fun
  | [d] => { results := [.lit (.bool false)], args := [d] }
  | _ => none }
def SealScansWrongFalsely : Prop := sealScansRow.holds Try.pinned (OpenSpec.ofChange sealScansWrong)

/-- 'chalklinelaw02.SealBack': WHATEVER THE INPUT: true; the input reads as it did. -/
def sealBackSpec : ChangeSpec := { name := "sealBack", fn := fun _ => fun
  | [d1, d2] => { results := [.lit (.bool true)], args := [d1, d2] }
  | _ => none }
def sealBackRow : OpenClaim := { program := "ytbhojobonihccaa", sum := "78cd24d79e13aab360ff94b4eb9d217bdbf658a429bc3627b4f041d57784f2b9", func := "chalkline/chalklinelaw02.SealBack", spec := "sealBack", unfollowed := true, recurses := true, apart := false }
def SealBackSaid : Prop := sealBackRow.holds Try.pinned (OpenSpec.ofChange sealBackSpec)

/-- ITS FALSE NEIGHBOUR: 'it returns false'. Refute it at one input. -/
def sealBackWrong : ChangeSpec := { name := "sealBack", fn := fun _ => fun
  | [d1, d2] => { results := [.lit (.bool false)], args := [d1, d2] }
  | _ => none }
def SealBackWrongFalsely : Prop := sealBackRow.holds Try.pinned (OpenSpec.ofChange sealBackWrong)

/-- 'chalklinelaw02.SealSpoilt': WHATEVER THE INPUT: true; the input reads as it did. -/
def sealSpoiltSpec : ChangeSpec := { name := "sealSpoilt", fn := fun _ => fun
  | [d1, d2, d3] => { results := [.lit (.bool true)], args := [d1, d2, d3] }
  | _ => none }
def sealSpoiltRow : OpenClaim := { program := "ytbhojobonihccaa", sum := "78cd24d79e13aab360ff94b4eb9d217bdbf658a429bc3627b4f041d57784f2b9", func := "chalkline/chalklinelaw02.SealSpoilt", spec := "sealSpoilt", unfollowed := true, recurses := true, apart := false }
def SealSpoiltSaid : Prop := sealSpoiltRow.holds Try.pinned (OpenSpec.ofChange sealSpoiltSpec)

/-- ITS FALSE NEIGHBOUR: 'it returns false'. Refute it at one input. -/
def sealSpoiltWrong : ChangeSpec := { name := "sealSpoilt", fn := fun _ => fun
  | [d1, d2, d3] => { results := [.lit (.bool false)], args := [d1, d2, d3] }
  | _ => none }
def SealSpoiltWrongFalsely : Prop := sealSpoiltRow.holds Try.pinned (OpenSpec.ofChange sealSpoiltWrong)

/-- 'chalklinelaw02.SealBurst': WHATEVER THE INPUT: true; the input reads as it did. -/
def sealBurstSpec : ChangeSpec := { name := "sealBurst", fn := fun _ => fun
  | [d1, d2, d3] => { results := [.lit (.bool true)], args := [d1, d2, d3] }
  | _ => none }
def sealBurstRow : OpenClaim := { program := "ytbhojobonihccaa", sum := "78cd24d79e13aab360ff94b4eb9d217bdbf658a429bc3627b4f041d57784f2b9", func := "chalkline/chalklinelaw02.SealBurst", spec := "sealBurst", apart := false }
def SealBurstSaid : Prop := sealBurstRow.holds Try.pinned (OpenSpec.ofChange sealBurstSpec)

/-- ITS FALSE NEIGHBOUR: 'it returns false'. Refute it at one input. -/
def sealBurstWrong : ChangeSpec := { name := "sealBurst", fn := fun _ => fun
  | [d1, d2, d3] => { results := [.lit (.bool false)], args := [d1, d2, d3] }
  | _ => none }
def SealBurstWrongFalsely : Prop := sealBurstRow.holds Try.pinned (OpenSpec.ofChange sealBurstWrong)

/-- 'chalklinelaw02.SealJoins': WHATEVER THE INPUT: true; the input reads as it did. -/
def sealJoinsSpec : ChangeSpec := { name := "sealJoins", fn := fun _ => fun
  | [d1, d2] => { results := [.lit (.bool true)], args := [d1, d2] }
  | _ => none }
def sealJoinsRow : OpenClaim := { program := "ytbhojobonihccaa", sum := "78cd24d79e13aab360ff94b4eb9d217bdbf658a429bc3627b4f041d57784f2b9", func := "chalkline/chalklinelaw02.SealJoins", spec := "sealJoins", unfollowed := true, recurses := true, apart := false }
def SealJoinsSaid : Prop := sealJoinsRow.holds Try.pinned (OpenSpec.ofChange sealJoinsSpec)

/-- ITS FALSE NEIGHBOUR: 'it returns false'. Refute it at one input. -/
def sealJoinsWrong : ChangeSpec := { name := "sealJoins", fn := fun _ => fun
  | [d1, d2] => { results := [.lit (.bool false)], args := [d1, d2] }
  | _ => none }
def SealJoinsWrongFalsely : Prop := sealJoinsRow.holds Try.pinned (OpenSpec.ofChange sealJoinsWrong)

/-- 'chalklinelaw02.SealThree': WHATEVER THE INPUT: true; the input reads as it did. -/
def sealThreeSpec : ChangeSpec := { name := "sealThree", fn := fun _ => fun
  | [d1, d2, d3] => { results := [.lit (.bool true)], args := [d1, d2, d3] }
  | _ => none }
def sealThreeRow : OpenClaim := { program := "ytbhojobonihccaa", sum := "78cd24d79e13aab360ff94b4eb9d217bdbf658a429bc3627b4f041d57784f2b9", func := "chalkline/chalklinelaw02.SealThree", spec := "sealThree", apart := false }
def SealThreeSaid : Prop := sealThreeRow.holds Try.pinned (OpenSpec.ofChange sealThreeSpec)

/-- ITS FALSE NEIGHBOUR: 'it returns false'. Refute it at one input. -/
def sealThreeWrong : ChangeSpec := { name := "sealThree", fn := fun _ => fun
  | [d1, d2, d3] => { results := [.lit (.bool false)], args := [d1, d2, d3] }
  | _ => none }
def SealThreeWrongFalsely : Prop := sealThreeRow.holds Try.pinned (OpenSpec.ofChange sealThreeWrong)

/-- 'chalklinelaw02.SealOne': WHATEVER THE INPUT: true; the input reads as it did. -/
def sealOneSpec : ChangeSpec := { name := "sealOne", fn := fun _ => fun
  | [d1, d2] => { results := [.lit (.bool true)], args := [d1, d2] }
  | _ => none }
def sealOneRow : OpenClaim := { program := "ytbhojobonihccaa", sum := "78cd24d79e13aab360ff94b4eb9d217bdbf658a429bc3627b4f041d57784f2b9", func := "chalkline/chalklinelaw02.SealOne", spec := "sealOne", apart := false }
def SealOneSaid : Prop := sealOneRow.holds Try.pinned (OpenSpec.ofChange sealOneSpec)

/-- ITS FALSE NEIGHBOUR: 'it returns false'. Refute it at one input. -/
def sealOneWrong : ChangeSpec := { name := "sealOne", fn := fun _ => fun
  | [d1, d2] => { results := [.lit (.bool false)], args := [d1, d2] }
  | _ => none }
def SealOneWrongFalsely : Prop := sealOneRow.holds Try.pinned (OpenSpec.ofChange sealOneWrong)

/- THE SECOND FORM. 'bulk': how many values and letters a reading holds, each counted each time it is reached (what is shared counts as often as it is met; a slice's spare places count too). A statement '..UptoSaid' is the law's where the arguments, and the package variables that the reading takes, are together of bulk at most 1048576: NARROWER than '..Said'. Prove '..Said' where nothing that the law and all that it calls make is longer than what came in: it says more and counts as full. Else prove '..UptoSaid'. A law counts once. -/
mutual
def uptoBulk {H : Type} : DataW H → Nat
  | .lit (.string bytes) => bytes.length + 1
  | .lit _ => 1
  | .nil => 1
  | .ptr d => uptoBulk d + 1
  | .slice elems spare => uptoBulkAll elems + uptoBulkAll spare + 1
  | .agg parts => uptoBulkAll parts + 1
  | .iface _ d => uptoBulk d + 1
  | .map entries => uptoBulkEntries entries + 1
  | .held _ => 1
def uptoBulkAll {H : Type} : List (DataW H) → Nat
  | [] => 0
  | d :: r => uptoBulk d + uptoBulkAll r
def uptoBulkEntries {H : Type} : List (Lit × DataW H) → Nat
  | [] => 0
  | x :: r => uptoBulkEntry x + uptoBulkEntries r
def uptoBulkEntry {H : Type} : Lit × DataW H → Nat
  | (.string bytes, d) => bytes.length + uptoBulk d + 1
  | (_, d) => uptoBulk d + 1
 end
def uptoSmall : (H : Type) → List (DataW H) → Bool := fun _ ds => decide (uptoBulkAll ds ≤ 1048576)
def OpenSpec.upto (s : _root_.Go.ChangeSpec) : _root_.Go.OpenSpec := { _root_.Go.OpenSpec.ofChange s with cond := some uptoSmall }

/-- 'chalklinelaw02.SealSums', WHERE WHAT IT READS IS OF BULK AT MOST 1048576: true; the input reads as it did. -/
def sealSumsUptoRow : OpenClaim := { program := "ytbhojobonihccaa", sum := "78cd24d79e13aab360ff94b4eb9d217bdbf658a429bc3627b4f041d57784f2b9", func := "chalkline/chalklinelaw02.SealSums", spec := "sealSums", apart := false, narrowed := true }
def SealSumsUptoSaid : Prop := sealSumsUptoRow.holds Try.pinned (OpenSpec.upto sealSumsSpec)

/-- 'chalklinelaw02.SealFrames', WHERE WHAT IT READS IS OF BULK AT MOST 1048576: true; the input reads as it did. -/
def sealFramesUptoRow : OpenClaim := { program := "ytbhojobonihccaa", sum := "78cd24d79e13aab360ff94b4eb9d217bdbf658a429bc3627b4f041d57784f2b9", func := "chalkline/chalklinelaw02.SealFrames", spec := "sealFrames", apart := false, narrowed := true }
def SealFramesUptoSaid : Prop := sealFramesUptoRow.holds Try.pinned (OpenSpec.upto sealFramesSpec)

/-- 'chalklinelaw02.SealScans', WHERE WHAT IT READS IS OF BULK AT MOST 1048576: true; the input reads as it did. -/
def sealScansUptoRow : OpenClaim := { program := "ytbhojobonihccaa", sum := "78cd24d79e13aab360ff94b4eb9d217bdbf658a429bc3627b4f041d57784f2b9", func := "chalkline/chalklinelaw02.SealScans", spec := "sealScans", unfollowed := true, recurses := true, apart := false, narrowed := true }
def SealScansUptoSaid : Prop := sealScansUptoRow.holds Try.pinned (OpenSpec.upto sealScansSpec)

/-- 'chalklinelaw02.SealBack', WHERE WHAT IT READS IS OF BULK AT MOST 1048576: true; the input reads as it did. -/
def sealBackUptoRow : OpenClaim := { program := "ytbhojobonihccaa", sum := "78cd24d79e13aab360ff94b4eb9d217bdbf658a429bc3627b4f041d57784f2b9", func := "chalkline/chalklinelaw02.SealBack", spec := "sealBack", unfollowed := true, recurses := true, apart := false, narrowed := true }
def SealBackUptoSaid : Prop := sealBackUptoRow.holds Try.pinned (OpenSpec.upto sealBackSpec)

/-- 'chalklinelaw02.SealSpoilt', WHERE WHAT IT READS IS OF BULK AT MOST 1048576: true; the input reads as it did. -/
def sealSpoiltUptoRow : OpenClaim := { program := "ytbhojobonihccaa", sum := "78cd24d79e13aab360ff94b4eb9d217bdbf658a429bc3627b4f041d57784f2b9", func := "chalkline/chalklinelaw02.SealSpoilt", spec := "sealSpoilt", unfollowed := true, recurses := true, apart := false, narrowed := true }
def SealSpoiltUptoSaid : Prop := sealSpoiltUptoRow.holds Try.pinned (OpenSpec.upto sealSpoiltSpec)

/-- 'chalklinelaw02.SealBurst', WHERE WHAT IT READS IS OF BULK AT MOST 1048576: true; the input reads as it did. -/
def sealBurstUptoRow : OpenClaim := { program := "ytbhojobonihccaa", sum := "78cd24d79e13aab360ff94b4eb9d217bdbf658a429bc3627b4f041d57784f2b9", func := "chalkline/chalklinelaw02.SealBurst", spec := "sealBurst", apart := false, narrowed := true }
def SealBurstUptoSaid : Prop := sealBurstUptoRow.holds Try.pinned (OpenSpec.upto sealBurstSpec)

/-- 'chalklinelaw02.SealJoins', WHERE WHAT IT READS IS OF BULK AT MOST 1048576: true; the input reads as it did. -/
def sealJoinsUptoRow : OpenClaim := { program := "ytbhojobonihccaa", sum := "78cd24d79e13aab360ff94b4eb9d217bdbf658a429bc3627b4f041d57784f2b9", func := "chalkline/chalklinelaw02.SealJoins", spec := "sealJoins", unfollowed := true, recurses := true, apart := false, narrowed := true }
def SealJoinsUptoSaid : Prop := sealJoinsUptoRow.holds Try.pinned (OpenSpec.upto sealJoinsSpec)

/-- 'chalklinelaw02.SealThree', WHERE WHAT IT READS IS OF BULK AT MOST 1048576: true; the input reads as it did. -/
def sealThreeUptoRow : OpenClaim := { program := "ytbhojobonihccaa", sum := "78cd24d79e13aab360ff94b4eb9d217bdbf658a429bc3627b4f041d57784f2b9", func := "chalkline/chalklinelaw02.SealThree", spec := "sealThree", apart := false, narrowed := true }
def SealThreeUptoSaid : Prop := sealThreeUptoRow.holds Try.pinned (OpenSpec.upto sealThreeSpec)

/-- 'chalklinelaw02.SealOne', WHERE WHAT IT READS IS OF BULK AT MOST 1048576: true; the input reads as it did. -/
def sealOneUptoRow : OpenClaim := { program := "ytbhojobonihccaa", sum := "78cd24d79e13aab360ff94b4eb9d217bdbf658a429bc3627b4f041d57784f2b9", func := "chalkline/chalklinelaw02.SealOne", spec := "sealOne", apart := false, narrowed := true }
def SealOneUptoSaid : Prop := sealOneUptoRow.holds Try.pinned (OpenSpec.upto sealOneSpec)

end Rows
end Go.Proofs.Ytbhojobonihccaa
