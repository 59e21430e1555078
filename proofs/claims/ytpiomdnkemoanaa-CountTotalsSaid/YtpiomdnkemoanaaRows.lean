/-
  No cell of these rows narrows 'for every input' (looked for: loops, veiled, ifaces, maps, wideKeys, modest, calm, conditions, laid).
  DERIVED. THE GIVEN ROWS OF THIS SEAT. 9 by the template 'for every input the law returns true; each argument reads behind the call as it read before'; 0 by the template 'total and deterministic' (their statements: YtpiomdnkemoanaaTotals.lean).
  GIVEN WITH THE SEED: the statements are not yours to turn. If you find one false, say at which input.
  Laid BY PROGRAM, IN A SANDBOX (cutbox-rows.mjs): the forced cells as the released guide's own fill.sh prints them over the translation b56c19cf10f2455f… (all of the seat's roots in one cut). By AI agents, Wed Nov 11 2026. No macro, syntax, notation, axiom, sorry.
-/
import Derived.Test.YtpiomdnkemoanaaChecked
import GoSem.Claim
import GoSem.ClaimJoined
import GoSem.ClaimMapViews
import Derived.JoinedTies
import Derived.KernelRfl
namespace Go.Proofs.Ytpiomdnkemoanaa
/- THE CELL 'sum', in the pinned program and in every row, IS THE sha256 OF THE DUMP (.gsa) THAT YtpiomdnkemoanaaProg.lean LOADS. Nothing in Lean hashes anything: it is a label: what it is worth is what the hold of that sum in a sandbox is worth. -/
noncomputable def Try.pinned : Pinned := { name := "ytpiomdnkemoanaa", sum := "b56c19cf10f2455fa339768429e9b22ecac91a54c7eaff5925a05ed766d667dd", checked := Try.checked }
namespace Rows
def none {H : Type} : Left H := { results := [], args := [] }

/-- 'chalklinelaw16.CountLeasts': WHATEVER THE INPUT: true; the input reads as it did. -/
def countLeastsSpec : ChangeSpec := { name := "countLeasts", fn := fun _ => fun
  | [d1, d2, d3] => { results := [.lit (.bool true)], args := [d1, d2, d3] }
  | _ => none }
def countLeastsRow : OpenClaim := { program := "ytpiomdnkemoanaa", sum := "b56c19cf10f2455fa339768429e9b22ecac91a54c7eaff5925a05ed766d667dd", func := "chalkline/chalklinelaw16.CountLeasts", spec := "countLeasts", unfollowed := true, recurses := true, apart := false }
def CountLeastsSaid : Prop := countLeastsRow.holds Try.pinned (OpenSpec.ofChange countLeastsSpec)

/-- ITS FALSE NEIGHBOUR: 'it returns false'. Refute it at one input. -/
def countLeastsWrong : ChangeSpec := { name := "countLeasts", fn := fun _ => fun
  | [d1, d2, d3] => { results := [.lit (.bool false)], args := [d1, d2, d3] }
  | _ => none }
def CountLeastsWrongFalsely : Prop := countLeastsRow.holds Try.pinned (OpenSpec.ofChange countLeastsWrong)

/-- 'chalklinelaw16.CountMosts': WHATEVER THE INPUT: true; the input reads as it did. -/
def countMostsSpec : ChangeSpec := { name := "countMosts", fn := fun _ => fun
  | [d1, d2, d3] => { results := [.lit (.bool true)], args := [d1, d2, d3] }
  | _ => none }
def countMostsRow : OpenClaim := { program := "ytpiomdnkemoanaa", sum := "b56c19cf10f2455fa339768429e9b22ecac91a54c7eaff5925a05ed766d667dd", func := "chalkline/chalklinelaw16.CountMosts", spec := "countMosts", unfollowed := true, recurses := true, apart := false }
def CountMostsSaid : Prop := countMostsRow.holds Try.pinned (OpenSpec.ofChange countMostsSpec)

/-- ITS FALSE NEIGHBOUR: 'it returns false'. Refute it at one input. -/
def countMostsWrong : ChangeSpec := { name := "countMosts", fn := fun _ => fun
  | [d1, d2, d3] => { results := [.lit (.bool false)], args := [d1, d2, d3] }
  | _ => none }
def CountMostsWrongFalsely : Prop := countMostsRow.holds Try.pinned (OpenSpec.ofChange countMostsWrong)

/-- 'chalklinelaw16.CountMeans': WHATEVER THE INPUT: true; the input reads as it did. -/
def countMeansSpec : ChangeSpec := { name := "countMeans", fn := fun _ => fun
  | [d1, d2, d3] => { results := [.lit (.bool true)], args := [d1, d2, d3] }
  | _ => none }
def countMeansRow : OpenClaim := { program := "ytpiomdnkemoanaa", sum := "b56c19cf10f2455fa339768429e9b22ecac91a54c7eaff5925a05ed766d667dd", func := "chalkline/chalklinelaw16.CountMeans", spec := "countMeans", unfollowed := true, recurses := true, apart := false }
def CountMeansSaid : Prop := countMeansRow.holds Try.pinned (OpenSpec.ofChange countMeansSpec)

/-- ITS FALSE NEIGHBOUR: 'it returns false'. Refute it at one input. -/
def countMeansWrong : ChangeSpec := { name := "countMeans", fn := fun _ => fun
  | [d1, d2, d3] => { results := [.lit (.bool false)], args := [d1, d2, d3] }
  | _ => none }
def CountMeansWrongFalsely : Prop := countMeansRow.holds Try.pinned (OpenSpec.ofChange countMeansWrong)

/-- 'chalklinelaw16.CountRuns': WHATEVER THE INPUT: true; the input reads as it did. -/
def countRunsSpec : ChangeSpec := { name := "countRuns", fn := fun _ => fun
  | [d1, d2, d3] => { results := [.lit (.bool true)], args := [d1, d2, d3] }
  | _ => none }
def countRunsRow : OpenClaim := { program := "ytpiomdnkemoanaa", sum := "b56c19cf10f2455fa339768429e9b22ecac91a54c7eaff5925a05ed766d667dd", func := "chalkline/chalklinelaw16.CountRuns", spec := "countRuns", unfollowed := true, recurses := true, apart := false }
def CountRunsSaid : Prop := countRunsRow.holds Try.pinned (OpenSpec.ofChange countRunsSpec)

/-- ITS FALSE NEIGHBOUR: 'it returns false'. Refute it at one input. -/
def countRunsWrong : ChangeSpec := { name := "countRuns", fn := fun _ => fun
  | [d1, d2, d3] => { results := [.lit (.bool false)], args := [d1, d2, d3] }
  | _ => none }
def CountRunsWrongFalsely : Prop := countRunsRow.holds Try.pinned (OpenSpec.ofChange countRunsWrong)

/-- 'chalklinelaw16.CountForces': WHATEVER THE INPUT: true; the input reads as it did. -/
def countForcesSpec : ChangeSpec := { name := "countForces", fn := fun _ => fun
  | [d1, d2, d3] => { results := [.lit (.bool true)], args := [d1, d2, d3] }
  | _ => none }
def countForcesRow : OpenClaim := { program := "ytpiomdnkemoanaa", sum := "b56c19cf10f2455fa339768429e9b22ecac91a54c7eaff5925a05ed766d667dd", func := "chalkline/chalklinelaw16.CountForces", spec := "countForces", unfollowed := true, recurses := true, apart := false }
def CountForcesSaid : Prop := countForcesRow.holds Try.pinned (OpenSpec.ofChange countForcesSpec)

/-- ITS FALSE NEIGHBOUR: 'it returns false'. Refute it at one input. -/
def countForcesWrong : ChangeSpec := { name := "countForces", fn := fun _ => fun
  | [d1, d2, d3] => { results := [.lit (.bool false)], args := [d1, d2, d3] }
  | _ => none }
def CountForcesWrongFalsely : Prop := countForcesRow.holds Try.pinned (OpenSpec.ofChange countForcesWrong)

/-- 'chalklinelaw16.CountFits': WHATEVER THE INPUT: true; the input reads as it did. -/
def countFitsSpec : ChangeSpec := { name := "countFits", fn := fun _ => fun
  | [d1, d2, d3] => { results := [.lit (.bool true)], args := [d1, d2, d3] }
  | _ => none }
def countFitsRow : OpenClaim := { program := "ytpiomdnkemoanaa", sum := "b56c19cf10f2455fa339768429e9b22ecac91a54c7eaff5925a05ed766d667dd", func := "chalkline/chalklinelaw16.CountFits", spec := "countFits", unfollowed := true, recurses := true, apart := false }
def CountFitsSaid : Prop := countFitsRow.holds Try.pinned (OpenSpec.ofChange countFitsSpec)

/-- ITS FALSE NEIGHBOUR: 'it returns false'. Refute it at one input. -/
def countFitsWrong : ChangeSpec := { name := "countFits", fn := fun _ => fun
  | [d1, d2, d3] => { results := [.lit (.bool false)], args := [d1, d2, d3] }
  | _ => none }
def CountFitsWrongFalsely : Prop := countFitsRow.holds Try.pinned (OpenSpec.ofChange countFitsWrong)

/-- 'chalklinelaw16.CountTotals': WHATEVER THE INPUT: true; the input reads as it did. -/
def countTotalsSpec : ChangeSpec := { name := "countTotals", fn := fun _ => fun
  | [d1, d2, d3] => { results := [.lit (.bool true)], args := [d1, d2, d3] }
  | _ => none }
def countTotalsRow : OpenClaim := { program := "ytpiomdnkemoanaa", sum := "b56c19cf10f2455fa339768429e9b22ecac91a54c7eaff5925a05ed766d667dd", func := "chalkline/chalklinelaw16.CountTotals", spec := "countTotals", unfollowed := true, recurses := true, apart := false }
def CountTotalsSaid : Prop := countTotalsRow.holds Try.pinned (OpenSpec.ofChange countTotalsSpec)

/-- ITS FALSE NEIGHBOUR: 'it returns false'. Refute it at one input. -/
def countTotalsWrong : ChangeSpec := { name := "countTotals", fn := fun _ => fun
  | [d1, d2, d3] => { results := [.lit (.bool false)], args := [d1, d2, d3] }
  | _ => none }
def CountTotalsWrongFalsely : Prop := countTotalsRow.holds Try.pinned (OpenSpec.ofChange countTotalsWrong)

/-- 'chalklinelaw16.CountBoth': WHATEVER THE INPUT: true; the input reads as it did. -/
def countBothSpec : ChangeSpec := { name := "countBoth", fn := fun _ => fun
  | [d1, d2, d3] => { results := [.lit (.bool true)], args := [d1, d2, d3] }
  | _ => none }
def countBothRow : OpenClaim := { program := "ytpiomdnkemoanaa", sum := "b56c19cf10f2455fa339768429e9b22ecac91a54c7eaff5925a05ed766d667dd", func := "chalkline/chalklinelaw16.CountBoth", spec := "countBoth", unfollowed := true, recurses := true, apart := false }
def CountBothSaid : Prop := countBothRow.holds Try.pinned (OpenSpec.ofChange countBothSpec)

/-- ITS FALSE NEIGHBOUR: 'it returns false'. Refute it at one input. -/
def countBothWrong : ChangeSpec := { name := "countBoth", fn := fun _ => fun
  | [d1, d2, d3] => { results := [.lit (.bool false)], args := [d1, d2, d3] }
  | _ => none }
def CountBothWrongFalsely : Prop := countBothRow.holds Try.pinned (OpenSpec.ofChange countBothWrong)

/-- 'chalklinelaw16.CountSums': WHATEVER THE INPUT: true; the input reads as it did. -/
def countSumsSpec : ChangeSpec := { name := "countSums", fn := fun _ => fun
  | [d1, d2, d3] => { results := [.lit (.bool true)], args := [d1, d2, d3] }
  | _ => none }
def countSumsRow : OpenClaim := { program := "ytpiomdnkemoanaa", sum := "b56c19cf10f2455fa339768429e9b22ecac91a54c7eaff5925a05ed766d667dd", func := "chalkline/chalklinelaw16.CountSums", spec := "countSums", unfollowed := true, recurses := true, apart := false }
def CountSumsSaid : Prop := countSumsRow.holds Try.pinned (OpenSpec.ofChange countSumsSpec)

/-- ITS FALSE NEIGHBOUR: 'it returns false'. Refute it at one input. -/
def countSumsWrong : ChangeSpec := { name := "countSums", fn := fun _ => fun
  | [d1, d2, d3] => { results := [.lit (.bool false)], args := [d1, d2, d3] }
  | _ => none }
def CountSumsWrongFalsely : Prop := countSumsRow.holds Try.pinned (OpenSpec.ofChange countSumsWrong)

/- THE SECOND FORM. 'bulk': how many values and letters a reading holds, each counted each time it is reached (what is shared counts as often as it is met; a slice's spare places count too). A statement '..UptoSaid' is the law's where the arguments, and the package variables that the reading takes, are together of bulk at most 1048576: NARROWER than '..Said'. Prove '..Said' where nothing that the law and all that it calls make is longer than what came in: it says more and counts as full. Else prove '..UptoSaid'. A law counts once. -/
mutual
def uptoBulk {H : Type} : DataW H → Nat
  | .lit (.string bytes) => bytes.length + 1
  | .lit _ => 1
  | .nil => 1
  | .ptr d => uptoBulk d + 1
  | .slice elems spare => uptoBulkAll elems + uptoBulkAll spare + 1
  | .agg parts => uptoBulkAll parts + 1
  | .iface _ d => uptoBulk d + 1
  | .map entries => uptoBulkEntries entries + 1
  | .held _ => 1
def uptoBulkAll {H : Type} : List (DataW H) → Nat
  | [] => 0
  | d :: r => uptoBulk d + uptoBulkAll r
def uptoBulkEntries {H : Type} : List (Lit × DataW H) → Nat
  | [] => 0
  | x :: r => uptoBulkEntry x + uptoBulkEntries r
def uptoBulkEntry {H : Type} : Lit × DataW H → Nat
  | (.string bytes, d) => bytes.length + uptoBulk d + 1
  | (_, d) => uptoBulk d + 1
 end
def uptoSmall : (H : Type) → List (DataW H) → Bool := fun _ ds => decide (uptoBulkAll ds ≤ 1048576)
def OpenSpec.upto (s : _root_.Go.ChangeSpec) : _root_.Go.OpenSpec := { _root_.Go.OpenSpec.ofChange s with cond := some uptoSmall }

/-- 'chalklinelaw16.CountLeasts', WHERE WHAT IT READS IS OF BULK AT MOST 1048576: true; the input reads as it did. -/
def countLeastsUptoRow : OpenClaim := { program := "ytpiomdnkemoanaa", sum := "b56c19cf10f2455fa339768429e9b22ecac91a54c7eaff5925a05ed766d667dd", func := "chalkline/chalklinelaw16.CountLeasts", spec := "countLeasts", unfollowed := true, recurses := true, apart := false, narrowed := true }
def CountLeastsUptoSaid : Prop := countLeastsUptoRow.holds Try.pinned (OpenSpec.upto countLeastsSpec)

/-- 'chalklinelaw16.CountMosts', WHERE WHAT IT READS IS OF BULK AT MOST 1048576: true; the input reads as it did. -/
def countMostsUptoRow : OpenClaim := { program := "ytpiomdnkemoanaa", sum := "b56c19cf10f2455fa339768429e9b22ecac91a54c7eaff5925a05ed766d667dd", func := "chalkline/chalklinelaw16.CountMosts", spec := "countMosts", unfollowed := true, recurses := true, apart := false, narrowed := true }
def CountMostsUptoSaid : Prop := countMostsUptoRow.holds Try.pinned (OpenSpec.upto countMostsSpec)

/-- 'chalklinelaw16.CountMeans', WHERE WHAT IT READS IS OF BULK AT MOST 1048576: true; the input reads as it did. -/
def countMeansUptoRow : OpenClaim := { program := "ytpiomdnkemoanaa", sum := "b56c19cf10f2455fa339768429e9b22ecac91a54c7eaff5925a05ed766d667dd", func := "chalkline/chalklinelaw16.CountMeans", spec := "countMeans", unfollowed := true, recurses := true, apart := false, narrowed := true }
def CountMeansUptoSaid : Prop := countMeansUptoRow.holds Try.pinned (OpenSpec.upto countMeansSpec)

/-- 'chalklinelaw16.CountRuns', WHERE WHAT IT READS IS OF BULK AT MOST 1048576: true; the input reads as it did. -/
def countRunsUptoRow : OpenClaim := { program := "ytpiomdnkemoanaa", sum := "b56c19cf10f2455fa339768429e9b22ecac91a54c7eaff5925a05ed766d667dd", func := "chalkline/chalklinelaw16.CountRuns", spec := "countRuns", unfollowed := true, recurses := true, apart := false, narrowed := true }
def CountRunsUptoSaid : Prop := countRunsUptoRow.holds Try.pinned (OpenSpec.upto countRunsSpec)

/-- 'chalklinelaw16.CountForces', WHERE WHAT IT READS IS OF BULK AT MOST 1048576: true; the input reads as it did. -/
def countForcesUptoRow : OpenClaim := { program := "ytpiomdnkemoanaa", sum := "b56c19cf10f2455fa339768429e9b22ecac91a54c7eaff5925a05ed766d667dd", func := "chalkline/chalklinelaw16.CountForces", spec := "countForces", unfollowed := true, recurses := true, apart := false, narrowed := true }
def CountForcesUptoSaid : Prop := countForcesUptoRow.holds Try.pinned (OpenSpec.upto countForcesSpec)

/-- 'chalklinelaw16.CountFits', WHERE WHAT IT READS IS OF BULK AT MOST 1048576: true; the input reads as it did. -/
def countFitsUptoRow : OpenClaim := { program := "ytpiomdnkemoanaa", sum := "b56c19cf10f2455fa339768429e9b22ecac91a54c7eaff5925a05ed766d667dd", func := "chalkline/chalklinelaw16.CountFits", spec := "countFits", unfollowed := true, recurses := true, apart := false, narrowed := true }
def CountFitsUptoSaid : Prop := countFitsUptoRow.holds Try.pinned (OpenSpec.upto countFitsSpec)

/-- 'chalklinelaw16.CountTotals', WHERE WHAT IT READS IS OF BULK AT MOST 1048576: true; the input reads as it did. -/
def countTotalsUptoRow : OpenClaim := { program := "ytpiomdnkemoanaa", sum := "b56c19cf10f2455fa339768429e9b22ecac91a54c7eaff5925a05ed766d667dd", func := "chalkline/chalklinelaw16.CountTotals", spec := "countTotals", unfollowed := true, recurses := true, apart := false, narrowed := true }
def CountTotalsUptoSaid : Prop := countTotalsUptoRow.holds Try.pinned (OpenSpec.upto countTotalsSpec)

/-- 'chalklinelaw16.CountBoth', WHERE WHAT IT READS IS OF BULK AT MOST 1048576: true; the input reads as it did. -/
def countBothUptoRow : OpenClaim := { program := "ytpiomdnkemoanaa", sum := "b56c19cf10f2455fa339768429e9b22ecac91a54c7eaff5925a05ed766d667dd", func := "chalkline/chalklinelaw16.CountBoth", spec := "countBoth", unfollowed := true, recurses := true, apart := false, narrowed := true }
def CountBothUptoSaid : Prop := countBothUptoRow.holds Try.pinned (OpenSpec.upto countBothSpec)

/-- 'chalklinelaw16.CountSums', WHERE WHAT IT READS IS OF BULK AT MOST 1048576: true; the input reads as it did. -/
def countSumsUptoRow : OpenClaim := { program := "ytpiomdnkemoanaa", sum := "b56c19cf10f2455fa339768429e9b22ecac91a54c7eaff5925a05ed766d667dd", func := "chalkline/chalklinelaw16.CountSums", spec := "countSums", unfollowed := true, recurses := true, apart := false, narrowed := true }
def CountSumsUptoSaid : Prop := countSumsUptoRow.holds Try.pinned (OpenSpec.upto countSumsSpec)

end Rows
end Go.Proofs.Ytpiomdnkemoanaa
