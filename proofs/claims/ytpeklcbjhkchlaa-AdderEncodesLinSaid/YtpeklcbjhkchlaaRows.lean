/-
  No cell of these rows narrows 'for every input' (looked for: loops, veiled, ifaces, maps, wideKeys, modest, calm, conditions, laid).
  DERIVED. THE GIVEN ROWS OF THIS SEAT. 9 by the template 'for every input the law returns true; each argument reads behind the call as it read before'; 0 by the template 'total and deterministic' (their statements: YtpeklcbjhkchlaaTotals.lean).
  GIVEN WITH THE SEED: the statements are not yours to turn. If you find one false, say at which input.
  Laid BY PROGRAM, IN A SANDBOX (cutbox-rows.mjs): the forced cells as the released guide's own fill.sh prints them over the translation 1255a86d32f62e44… (all of the seat's roots in one cut). By AI agents, Wed Nov 11 2026. No macro, syntax, notation, axiom, sorry.
-/
import Derived.Test.YtpeklcbjhkchlaaChecked
import GoSem.Claim
import GoSem.ClaimJoined
import GoSem.ClaimMapViews
import Derived.JoinedTies
import Derived.KernelRfl
namespace Go.Proofs.Ytpeklcbjhkchlaa
/- THE CELL 'sum', in the pinned program and in every row, IS THE sha256 OF THE DUMP (.gsa) THAT YtpeklcbjhkchlaaProg.lean LOADS. Nothing in Lean hashes anything: it is a label: what it is worth is what the hold of that sum in a sandbox is worth. -/
noncomputable def Try.pinned : Pinned := { name := "ytpeklcbjhkchlaa", sum := "1255a86d32f62e442e4a91a2c723319128a34e239121dd84578c052ea513cb06", checked := Try.checked }
namespace Rows
def none {H : Type} : Left H := { results := [], args := [] }

/-- 'chalklinelaw17.AdderSumSpec': WHATEVER THE INPUT: true; the input reads as it did. -/
def adderSumSpecSpec : ChangeSpec := { name := "adderSumSpec", fn := fun _ => fun
  | [d1, d2, d3] => { results := [.lit (.bool true)], args := [d1, d2, d3] }
  | _ => none }
def adderSumSpecRow : OpenClaim := { program := "ytpeklcbjhkchlaa", sum := "1255a86d32f62e442e4a91a2c723319128a34e239121dd84578c052ea513cb06", func := "chalkline/chalklinelaw17.AdderSumSpec", spec := "adderSumSpec", unfollowed := true, recurses := true, apart := false }
def AdderSumSpecSaid : Prop := adderSumSpecRow.holds Try.pinned (OpenSpec.ofChange adderSumSpecSpec)

/-- ITS FALSE NEIGHBOUR: 'it returns false'. Refute it at one input. -/
def adderSumSpecWrong : ChangeSpec := { name := "adderSumSpec", fn := fun _ => fun
  | [d1, d2, d3] => { results := [.lit (.bool false)], args := [d1, d2, d3] }
  | _ => none }
def AdderSumSpecWrongFalsely : Prop := adderSumSpecRow.holds Try.pinned (OpenSpec.ofChange adderSumSpecWrong)

/-- 'chalklinelaw17.AdderLeastSpec': WHATEVER THE INPUT: true; the input reads as it did. -/
def adderLeastSpecSpec : ChangeSpec := { name := "adderLeastSpec", fn := fun _ => fun
  | [d1, d2] => { results := [.lit (.bool true)], args := [d1, d2] }
  | _ => none }
def adderLeastSpecRow : OpenClaim := { program := "ytpeklcbjhkchlaa", sum := "1255a86d32f62e442e4a91a2c723319128a34e239121dd84578c052ea513cb06", func := "chalkline/chalklinelaw17.AdderLeastSpec", spec := "adderLeastSpec", unfollowed := true, recurses := true, apart := false }
def AdderLeastSpecSaid : Prop := adderLeastSpecRow.holds Try.pinned (OpenSpec.ofChange adderLeastSpecSpec)

/-- ITS FALSE NEIGHBOUR: 'it returns false'. Refute it at one input. -/
def adderLeastSpecWrong : ChangeSpec := { name := "adderLeastSpec", fn := fun _ => fun
  | [d1, d2] => { results := [.lit (.bool false)], args := [d1, d2] }
  | _ => none }
def AdderLeastSpecWrongFalsely : Prop := adderLeastSpecRow.holds Try.pinned (OpenSpec.ofChange adderLeastSpecWrong)

/-- 'chalklinelaw17.AdderSumCorrect': WHATEVER THE INPUT: true; the input reads as it did. -/
def adderSumCorrectSpec : ChangeSpec := { name := "adderSumCorrect", fn := fun _ => fun
  | [d1, d2, d3, d4] => { results := [.lit (.bool true)], args := [d1, d2, d3, d4] }
  | _ => none }
def adderSumCorrectRow : OpenClaim := { program := "ytpeklcbjhkchlaa", sum := "1255a86d32f62e442e4a91a2c723319128a34e239121dd84578c052ea513cb06", func := "chalkline/chalklinelaw17.AdderSumCorrect", spec := "adderSumCorrect", unfollowed := true, recurses := true, apart := false }
def AdderSumCorrectSaid : Prop := adderSumCorrectRow.holds Try.pinned (OpenSpec.ofChange adderSumCorrectSpec)

/-- ITS FALSE NEIGHBOUR: 'it returns false'. Refute it at one input. -/
def adderSumCorrectWrong : ChangeSpec := { name := "adderSumCorrect", fn := fun _ => fun
  | [d1, d2, d3, d4] => { results := [.lit (.bool false)], args := [d1, d2, d3, d4] }
  | _ => none }
def AdderSumCorrectWrongFalsely : Prop := adderSumCorrectRow.holds Try.pinned (OpenSpec.ofChange adderSumCorrectWrong)

/-- 'chalklinelaw17.AdderLeastCorrect': WHATEVER THE INPUT: true; the input reads as it did. -/
def adderLeastCorrectSpec : ChangeSpec := { name := "adderLeastCorrect", fn := fun _ => fun
  | [d1, d2, d3] => { results := [.lit (.bool true)], args := [d1, d2, d3] }
  | _ => none }
def adderLeastCorrectRow : OpenClaim := { program := "ytpeklcbjhkchlaa", sum := "1255a86d32f62e442e4a91a2c723319128a34e239121dd84578c052ea513cb06", func := "chalkline/chalklinelaw17.AdderLeastCorrect", spec := "adderLeastCorrect", unfollowed := true, recurses := true, apart := false }
def AdderLeastCorrectSaid : Prop := adderLeastCorrectRow.holds Try.pinned (OpenSpec.ofChange adderLeastCorrectSpec)

/-- ITS FALSE NEIGHBOUR: 'it returns false'. Refute it at one input. -/
def adderLeastCorrectWrong : ChangeSpec := { name := "adderLeastCorrect", fn := fun _ => fun
  | [d1, d2, d3] => { results := [.lit (.bool false)], args := [d1, d2, d3] }
  | _ => none }
def AdderLeastCorrectWrongFalsely : Prop := adderLeastCorrectRow.holds Try.pinned (OpenSpec.ofChange adderLeastCorrectWrong)

/-- 'chalklinelaw17.AdderEncodesLin': WHATEVER THE INPUT: true; the input reads as it did. -/
def adderEncodesLinSpec : ChangeSpec := { name := "adderEncodesLin", fn := fun _ => fun
  | [d1, d2, d3] => { results := [.lit (.bool true)], args := [d1, d2, d3] }
  | _ => none }
def adderEncodesLinRow : OpenClaim := { program := "ytpeklcbjhkchlaa", sum := "1255a86d32f62e442e4a91a2c723319128a34e239121dd84578c052ea513cb06", func := "chalkline/chalklinelaw17.AdderEncodesLin", spec := "adderEncodesLin", unfollowed := true, recurses := true, apart := false }
def AdderEncodesLinSaid : Prop := adderEncodesLinRow.holds Try.pinned (OpenSpec.ofChange adderEncodesLinSpec)

/-- ITS FALSE NEIGHBOUR: 'it returns false'. Refute it at one input. -/
def adderEncodesLinWrong : ChangeSpec := { name := "adderEncodesLin", fn := fun _ => fun
  | [d1, d2, d3] => { results := [.lit (.bool false)], args := [d1, d2, d3] }
  | _ => none }
def AdderEncodesLinWrongFalsely : Prop := adderEncodesLinRow.holds Try.pinned (OpenSpec.ofChange adderEncodesLinWrong)

/-- 'chalklinelaw17.AdderOrder': WHATEVER THE INPUT: true; the input reads as it did. -/
def adderOrderSpec : ChangeSpec := { name := "adderOrder", fn := fun _ => fun
  | [d1, d2, d3, d4] => { results := [.lit (.bool true)], args := [d1, d2, d3, d4] }
  | _ => none }
def adderOrderRow : OpenClaim := { program := "ytpeklcbjhkchlaa", sum := "1255a86d32f62e442e4a91a2c723319128a34e239121dd84578c052ea513cb06", func := "chalkline/chalklinelaw17.AdderOrder", spec := "adderOrder", unfollowed := true, recurses := true, apart := false }
def AdderOrderSaid : Prop := adderOrderRow.holds Try.pinned (OpenSpec.ofChange adderOrderSpec)

/-- ITS FALSE NEIGHBOUR: 'it returns false'. Refute it at one input. -/
def adderOrderWrong : ChangeSpec := { name := "adderOrder", fn := fun _ => fun
  | [d1, d2, d3, d4] => { results := [.lit (.bool false)], args := [d1, d2, d3, d4] }
  | _ => none }
def AdderOrderWrongFalsely : Prop := adderOrderRow.holds Try.pinned (OpenSpec.ofChange adderOrderWrong)

/-- 'chalklinelaw17.AdderShift': WHATEVER THE INPUT: true; the input reads as it did. -/
def adderShiftSpec : ChangeSpec := { name := "adderShift", fn := fun _ => fun
  | [d1, d2, d3] => { results := [.lit (.bool true)], args := [d1, d2, d3] }
  | _ => none }
def adderShiftRow : OpenClaim := { program := "ytpeklcbjhkchlaa", sum := "1255a86d32f62e442e4a91a2c723319128a34e239121dd84578c052ea513cb06", func := "chalkline/chalklinelaw17.AdderShift", spec := "adderShift", unfollowed := true, recurses := true, apart := false }
def AdderShiftSaid : Prop := adderShiftRow.holds Try.pinned (OpenSpec.ofChange adderShiftSpec)

/-- ITS FALSE NEIGHBOUR: 'it returns false'. Refute it at one input. -/
def adderShiftWrong : ChangeSpec := { name := "adderShift", fn := fun _ => fun
  | [d1, d2, d3] => { results := [.lit (.bool false)], args := [d1, d2, d3] }
  | _ => none }
def AdderShiftWrongFalsely : Prop := adderShiftRow.holds Try.pinned (OpenSpec.ofChange adderShiftWrong)

/-- 'chalklinelaw17.AdderSize': WHATEVER THE INPUT: true; the input reads as it did. -/
def adderSizeSpec : ChangeSpec := { name := "adderSize", fn := fun _ => fun
  | [d1, d2, d3] => { results := [.lit (.bool true)], args := [d1, d2, d3] }
  | _ => none }
def adderSizeRow : OpenClaim := { program := "ytpeklcbjhkchlaa", sum := "1255a86d32f62e442e4a91a2c723319128a34e239121dd84578c052ea513cb06", func := "chalkline/chalklinelaw17.AdderSize", spec := "adderSize", unfollowed := true, recurses := true, apart := false }
def AdderSizeSaid : Prop := adderSizeRow.holds Try.pinned (OpenSpec.ofChange adderSizeSpec)

/-- ITS FALSE NEIGHBOUR: 'it returns false'. Refute it at one input. -/
def adderSizeWrong : ChangeSpec := { name := "adderSize", fn := fun _ => fun
  | [d1, d2, d3] => { results := [.lit (.bool false)], args := [d1, d2, d3] }
  | _ => none }
def AdderSizeWrongFalsely : Prop := adderSizeRow.holds Try.pinned (OpenSpec.ofChange adderSizeWrong)

/-- 'chalklinelaw17.AdderLeastMonotone': WHATEVER THE INPUT: true; the input reads as it did. -/
def adderLeastMonotoneSpec : ChangeSpec := { name := "adderLeastMonotone", fn := fun _ => fun
  | [d1, d2, d3, d4] => { results := [.lit (.bool true)], args := [d1, d2, d3, d4] }
  | _ => none }
def adderLeastMonotoneRow : OpenClaim := { program := "ytpeklcbjhkchlaa", sum := "1255a86d32f62e442e4a91a2c723319128a34e239121dd84578c052ea513cb06", func := "chalkline/chalklinelaw17.AdderLeastMonotone", spec := "adderLeastMonotone", unfollowed := true, recurses := true, apart := false }
def AdderLeastMonotoneSaid : Prop := adderLeastMonotoneRow.holds Try.pinned (OpenSpec.ofChange adderLeastMonotoneSpec)

/-- ITS FALSE NEIGHBOUR: 'it returns false'. Refute it at one input. -/
def adderLeastMonotoneWrong : ChangeSpec := { name := "adderLeastMonotone", fn := fun _ => fun
  | [d1, d2, d3, d4] => { results := [.lit (.bool false)], args := [d1, d2, d3, d4] }
  | _ => none }
def AdderLeastMonotoneWrongFalsely : Prop := adderLeastMonotoneRow.holds Try.pinned (OpenSpec.ofChange adderLeastMonotoneWrong)

/- THE SECOND FORM. 'bulk': how many values and letters a reading holds, each counted each time it is reached (what is shared counts as often as it is met; a slice's spare places count too). A statement '..UptoSaid' is the law's where the arguments, and the package variables that the reading takes, are together of bulk at most 1048576: NARROWER than '..Said'. Prove '..Said' where nothing that the law and all that it calls make is longer than what came in: it says more and counts as full. Else prove '..UptoSaid'. A law counts once. -/
mutual
def uptoBulk {H : Type} : DataW H → Nat
  | .lit (.string bytes) => bytes.length + 1
  | .lit _ => 1
  | .nil => 1
  | .ptr d => uptoBulk d + 1
  | .slice elems spare => uptoBulkAll elems + uptoBulkAll spare + 1
  | .agg parts => uptoBulkAll parts + 1
  | .iface _ d => uptoBulk d + 1
  | .map entries => uptoBulkEntries entries + 1
  | .held _ => 1
def uptoBulkAll {H : Type} : List (DataW H) → Nat
  | [] => 0
  | d :: r => uptoBulk d + uptoBulkAll r
def uptoBulkEntries {H : Type} : List (Lit × DataW H) → Nat
  | [] => 0
  | x :: r => uptoBulkEntry x + uptoBulkEntries r
def uptoBulkEntry {H : Type} : Lit × DataW H → Nat
  | (.string bytes, d) => bytes.length + uptoBulk d + 1
  | (_, d) => uptoBulk d + 1
 end
def uptoSmall : (H : Type) → List (DataW H) → Bool := fun _ ds => decide (uptoBulkAll ds ≤ 1048576)
def OpenSpec.upto (s : _root_.Go.ChangeSpec) : _root_.Go.OpenSpec := { _root_.Go.OpenSpec.ofChange s with cond := some uptoSmall }

/-- 'chalklinelaw17.AdderSumSpec', WHERE WHAT IT READS IS OF BULK AT MOST 1048576: true; the input reads as it did. -/
def adderSumSpecUptoRow : OpenClaim := { program := "ytpeklcbjhkchlaa", sum := "1255a86d32f62e442e4a91a2c723319128a34e239121dd84578c052ea513cb06", func := "chalkline/chalklinelaw17.AdderSumSpec", spec := "adderSumSpec", unfollowed := true, recurses := true, apart := false, narrowed := true }
def AdderSumSpecUptoSaid : Prop := adderSumSpecUptoRow.holds Try.pinned (OpenSpec.upto adderSumSpecSpec)

/-- 'chalklinelaw17.AdderLeastSpec', WHERE WHAT IT READS IS OF BULK AT MOST 1048576: true; the input reads as it did. -/
def adderLeastSpecUptoRow : OpenClaim := { program := "ytpeklcbjhkchlaa", sum := "1255a86d32f62e442e4a91a2c723319128a34e239121dd84578c052ea513cb06", func := "chalkline/chalklinelaw17.AdderLeastSpec", spec := "adderLeastSpec", unfollowed := true, recurses := true, apart := false, narrowed := true }
def AdderLeastSpecUptoSaid : Prop := adderLeastSpecUptoRow.holds Try.pinned (OpenSpec.upto adderLeastSpecSpec)

/-- 'chalklinelaw17.AdderSumCorrect', WHERE WHAT IT READS IS OF BULK AT MOST 1048576: true; the input reads as it did. -/
def adderSumCorrectUptoRow : OpenClaim := { program := "ytpeklcbjhkchlaa", sum := "1255a86d32f62e442e4a91a2c723319128a34e239121dd84578c052ea513cb06", func := "chalkline/chalklinelaw17.AdderSumCorrect", spec := "adderSumCorrect", unfollowed := true, recurses := true, apart := false, narrowed := true }
def AdderSumCorrectUptoSaid : Prop := adderSumCorrectUptoRow.holds Try.pinned (OpenSpec.upto adderSumCorrectSpec)

/-- 'chalklinelaw17.AdderLeastCorrect', WHERE WHAT IT READS IS OF BULK AT MOST 1048576: true; the input reads as it did. -/
def adderLeastCorrectUptoRow : OpenClaim := { program := "ytpeklcbjhkchlaa", sum := "1255a86d32f62e442e4a91a2c723319128a34e239121dd84578c052ea513cb06", func := "chalkline/chalklinelaw17.AdderLeastCorrect", spec := "adderLeastCorrect", unfollowed := true, recurses := true, apart := false, narrowed := true }
def AdderLeastCorrectUptoSaid : Prop := adderLeastCorrectUptoRow.holds Try.pinned (OpenSpec.upto adderLeastCorrectSpec)

/-- 'chalklinelaw17.AdderEncodesLin', WHERE WHAT IT READS IS OF BULK AT MOST 1048576: true; the input reads as it did. -/
def adderEncodesLinUptoRow : OpenClaim := { program := "ytpeklcbjhkchlaa", sum := "1255a86d32f62e442e4a91a2c723319128a34e239121dd84578c052ea513cb06", func := "chalkline/chalklinelaw17.AdderEncodesLin", spec := "adderEncodesLin", unfollowed := true, recurses := true, apart := false, narrowed := true }
def AdderEncodesLinUptoSaid : Prop := adderEncodesLinUptoRow.holds Try.pinned (OpenSpec.upto adderEncodesLinSpec)

/-- 'chalklinelaw17.AdderOrder', WHERE WHAT IT READS IS OF BULK AT MOST 1048576: true; the input reads as it did. -/
def adderOrderUptoRow : OpenClaim := { program := "ytpeklcbjhkchlaa", sum := "1255a86d32f62e442e4a91a2c723319128a34e239121dd84578c052ea513cb06", func := "chalkline/chalklinelaw17.AdderOrder", spec := "adderOrder", unfollowed := true, recurses := true, apart := false, narrowed := true }
def AdderOrderUptoSaid : Prop := adderOrderUptoRow.holds Try.pinned (OpenSpec.upto adderOrderSpec)

/-- 'chalklinelaw17.AdderShift', WHERE WHAT IT READS IS OF BULK AT MOST 1048576: true; the input reads as it did. -/
def adderShiftUptoRow : OpenClaim := { program := "ytpeklcbjhkchlaa", sum := "1255a86d32f62e442e4a91a2c723319128a34e239121dd84578c052ea513cb06", func := "chalkline/chalklinelaw17.AdderShift", spec := "adderShift", unfollowed := true, recurses := true, apart := false, narrowed := true }
def AdderShiftUptoSaid : Prop := adderShiftUptoRow.holds Try.pinned (OpenSpec.upto adderShiftSpec)

/-- 'chalklinelaw17.AdderSize', WHERE WHAT IT READS IS OF BULK AT MOST 1048576: true; the input reads as it did. -/
def adderSizeUptoRow : OpenClaim := { program := "ytpeklcbjhkchlaa", sum := "1255a86d32f62e442e4a91a2c723319128a34e239121dd84578c052ea513cb06", func := "chalkline/chalklinelaw17.AdderSize", spec := "adderSize", unfollowed := true, recurses := true, apart := false, narrowed := true }
def AdderSizeUptoSaid : Prop := adderSizeUptoRow.holds Try.pinned (OpenSpec.upto adderSizeSpec)

/-- 'chalklinelaw17.AdderLeastMonotone', WHERE WHAT IT READS IS OF BULK AT MOST 1048576: true; the input reads as it did. -/
def adderLeastMonotoneUptoRow : OpenClaim := { program := "ytpeklcbjhkchlaa", sum := "1255a86d32f62e442e4a91a2c723319128a34e239121dd84578c052ea513cb06", func := "chalkline/chalklinelaw17.AdderLeastMonotone", spec := "adderLeastMonotone", unfollowed := true, recurses := true, apart := false, narrowed := true }
def AdderLeastMonotoneUptoSaid : Prop := adderLeastMonotoneUptoRow.holds Try.pinned (OpenSpec.upto adderLeastMonotoneSpec)

end Rows
end Go.Proofs.Ytpeklcbjhkchlaa
