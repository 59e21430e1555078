/-
  No cell of these rows narrows 'for every input' (looked for: loops, veiled, ifaces, maps, wideKeys, modest, calm, conditions, laid).
  DERIVED. THE GIVEN ROWS OF THIS SEAT. 7 by the template 'for every input the law returns true; each argument reads behind the call as it read before'; 0 by the template 'total and deterministic' (their statements: YtppgpafnifmmfaaTotals.lean).
  GIVEN WITH THE SEED: the statements are not yours to turn. If you find one false, say at which input.
  Laid BY PROGRAM, IN A SANDBOX (cutbox-rows.mjs): the forced cells as the released guide's own fill.sh prints them over the translation b2f327dc269bf327… (all of the seat's roots in one cut). By AI agents, Wed Nov 11 2026. No macro, syntax, notation, axiom, sorry.
-/
import Derived.Test.YtppgpafnifmmfaaChecked
import GoSem.Claim
import GoSem.ClaimJoined
import GoSem.ClaimMapViews
import Derived.JoinedTies
import Derived.KernelRfl
namespace Go.Proofs.Ytppgpafnifmmfaa
/- THE CELL 'sum', in the pinned program and in every row, IS THE sha256 OF THE DUMP (.gsa) THAT YtppgpafnifmmfaaProg.lean LOADS. Nothing in Lean hashes anything: it is a label: what it is worth is what the hold of that sum in a sandbox is worth. -/
noncomputable def Try.pinned : Pinned := { name := "ytppgpafnifmmfaa", sum := "b2f327dc269bf327d11c18fcd0e285b56048e38dd5975f21f2501da8ade0c337", checked := Try.checked }
namespace Rows
def none {H : Type} : Left H := { results := [], args := [] }

/-- 'chalklinelaw15.TotalMatches': WHATEVER THE INPUT: true; the input reads as it did. -/
def totalMatchesSpec : ChangeSpec := { name := "totalMatches", fn := fun _ => fun
  | [d1, d2, d3] => { results := [.lit (.bool true)], args := [d1, d2, d3] }
  | _ => none }
def totalMatchesRow : OpenClaim := { program := "ytppgpafnifmmfaa", sum := "b2f327dc269bf327d11c18fcd0e285b56048e38dd5975f21f2501da8ade0c337", func := "chalkline/chalklinelaw15.TotalMatches", spec := "totalMatches", unfollowed := true, recurses := true, apart := false }
def TotalMatchesSaid : Prop := totalMatchesRow.holds Try.pinned (OpenSpec.ofChange totalMatchesSpec)

/-- ITS FALSE NEIGHBOUR: 'it returns false'. Refute it at one input. -/
def totalMatchesWrong : ChangeSpec := { name := "totalMatches", fn := fun _ => fun
  | [d1, d2, d3] => { results := [.lit (.bool false)], args := [d1, d2, d3] }
  | _ => none }
def TotalMatchesWrongFalsely : Prop := totalMatchesRow.holds Try.pinned (OpenSpec.ofChange totalMatchesWrong)

/-- 'chalklinelaw15.TotalCounts': WHATEVER THE INPUT: true; the input reads as it did. -/
def totalCountsSpec : ChangeSpec := { name := "totalCounts", fn := fun _ => fun
  | [d1, d2, d3, d4] => { results := [.lit (.bool true)], args := [d1, d2, d3, d4] }
  | _ => none }
def totalCountsRow : OpenClaim := { program := "ytppgpafnifmmfaa", sum := "b2f327dc269bf327d11c18fcd0e285b56048e38dd5975f21f2501da8ade0c337", func := "chalkline/chalklinelaw15.TotalCounts", spec := "totalCounts", unfollowed := true, recurses := true, apart := false }
def TotalCountsSaid : Prop := totalCountsRow.holds Try.pinned (OpenSpec.ofChange totalCountsSpec)

/-- ITS FALSE NEIGHBOUR: 'it returns false'. Refute it at one input. -/
def totalCountsWrong : ChangeSpec := { name := "totalCounts", fn := fun _ => fun
  | [d1, d2, d3, d4] => { results := [.lit (.bool false)], args := [d1, d2, d3, d4] }
  | _ => none }
def TotalCountsWrongFalsely : Prop := totalCountsRow.holds Try.pinned (OpenSpec.ofChange totalCountsWrong)

/-- 'chalklinelaw15.TotalUnique': WHATEVER THE INPUT: true; the input reads as it did. -/
def totalUniqueSpec : ChangeSpec := { name := "totalUnique", fn := fun _ => fun
  | [d1, d2, d3, d4] => { results := [.lit (.bool true)], args := [d1, d2, d3, d4] }
  | _ => none }
def totalUniqueRow : OpenClaim := { program := "ytppgpafnifmmfaa", sum := "b2f327dc269bf327d11c18fcd0e285b56048e38dd5975f21f2501da8ade0c337", func := "chalkline/chalklinelaw15.TotalUnique", spec := "totalUnique", unfollowed := true, recurses := true, apart := false }
def TotalUniqueSaid : Prop := totalUniqueRow.holds Try.pinned (OpenSpec.ofChange totalUniqueSpec)

/-- ITS FALSE NEIGHBOUR: 'it returns false'. Refute it at one input. -/
def totalUniqueWrong : ChangeSpec := { name := "totalUnique", fn := fun _ => fun
  | [d1, d2, d3, d4] => { results := [.lit (.bool false)], args := [d1, d2, d3, d4] }
  | _ => none }
def TotalUniqueWrongFalsely : Prop := totalUniqueRow.holds Try.pinned (OpenSpec.ofChange totalUniqueWrong)

/-- 'chalklinelaw15.TotalValid': WHATEVER THE INPUT: true; the input reads as it did. -/
def totalValidSpec : ChangeSpec := { name := "totalValid", fn := fun _ => fun
  | [d1, d2, d3] => { results := [.lit (.bool true)], args := [d1, d2, d3] }
  | _ => none }
def totalValidRow : OpenClaim := { program := "ytppgpafnifmmfaa", sum := "b2f327dc269bf327d11c18fcd0e285b56048e38dd5975f21f2501da8ade0c337", func := "chalkline/chalklinelaw15.TotalValid", spec := "totalValid", unfollowed := true, recurses := true, apart := false }
def TotalValidSaid : Prop := totalValidRow.holds Try.pinned (OpenSpec.ofChange totalValidSpec)

/-- ITS FALSE NEIGHBOUR: 'it returns false'. Refute it at one input. -/
def totalValidWrong : ChangeSpec := { name := "totalValid", fn := fun _ => fun
  | [d1, d2, d3] => { results := [.lit (.bool false)], args := [d1, d2, d3] }
  | _ => none }
def TotalValidWrongFalsely : Prop := totalValidRow.holds Try.pinned (OpenSpec.ofChange totalValidWrong)

/-- 'chalklinelaw15.TotalLimit': WHATEVER THE INPUT: true; the input reads as it did. -/
def totalLimitSpec : ChangeSpec := { name := "totalLimit", fn := fun _ => fun
  | [d1, d2, d3, d4, d5] => { results := [.lit (.bool true)], args := [d1, d2, d3, d4, d5] }
  | _ => none }
def totalLimitRow : OpenClaim := { program := "ytppgpafnifmmfaa", sum := "b2f327dc269bf327d11c18fcd0e285b56048e38dd5975f21f2501da8ade0c337", func := "chalkline/chalklinelaw15.TotalLimit", spec := "totalLimit", unfollowed := true, recurses := true, apart := false }
def TotalLimitSaid : Prop := totalLimitRow.holds Try.pinned (OpenSpec.ofChange totalLimitSpec)

/-- ITS FALSE NEIGHBOUR: 'it returns false'. Refute it at one input. -/
def totalLimitWrong : ChangeSpec := { name := "totalLimit", fn := fun _ => fun
  | [d1, d2, d3, d4, d5] => { results := [.lit (.bool false)], args := [d1, d2, d3, d4, d5] }
  | _ => none }
def TotalLimitWrongFalsely : Prop := totalLimitRow.holds Try.pinned (OpenSpec.ofChange totalLimitWrong)

/-- 'chalklinelaw15.TotalShift': WHATEVER THE INPUT: true; the input reads as it did. -/
def totalShiftSpec : ChangeSpec := { name := "totalShift", fn := fun _ => fun
  | [d1, d2, d3, d4] => { results := [.lit (.bool true)], args := [d1, d2, d3, d4] }
  | _ => none }
def totalShiftRow : OpenClaim := { program := "ytppgpafnifmmfaa", sum := "b2f327dc269bf327d11c18fcd0e285b56048e38dd5975f21f2501da8ade0c337", func := "chalkline/chalklinelaw15.TotalShift", spec := "totalShift", unfollowed := true, recurses := true, apart := false }
def TotalShiftSaid : Prop := totalShiftRow.holds Try.pinned (OpenSpec.ofChange totalShiftSpec)

/-- ITS FALSE NEIGHBOUR: 'it returns false'. Refute it at one input. -/
def totalShiftWrong : ChangeSpec := { name := "totalShift", fn := fun _ => fun
  | [d1, d2, d3, d4] => { results := [.lit (.bool false)], args := [d1, d2, d3, d4] }
  | _ => none }
def TotalShiftWrongFalsely : Prop := totalShiftRow.holds Try.pinned (OpenSpec.ofChange totalShiftWrong)

/-- 'chalklinelaw15.TotalNegated': WHATEVER THE INPUT: true; the input reads as it did. -/
def totalNegatedSpec : ChangeSpec := { name := "totalNegated", fn := fun _ => fun
  | [d1, d2, d3] => { results := [.lit (.bool true)], args := [d1, d2, d3] }
  | _ => none }
def totalNegatedRow : OpenClaim := { program := "ytppgpafnifmmfaa", sum := "b2f327dc269bf327d11c18fcd0e285b56048e38dd5975f21f2501da8ade0c337", func := "chalkline/chalklinelaw15.TotalNegated", spec := "totalNegated", unfollowed := true, recurses := true, apart := false }
def TotalNegatedSaid : Prop := totalNegatedRow.holds Try.pinned (OpenSpec.ofChange totalNegatedSpec)

/-- ITS FALSE NEIGHBOUR: 'it returns false'. Refute it at one input. -/
def totalNegatedWrong : ChangeSpec := { name := "totalNegated", fn := fun _ => fun
  | [d1, d2, d3] => { results := [.lit (.bool false)], args := [d1, d2, d3] }
  | _ => none }
def TotalNegatedWrongFalsely : Prop := totalNegatedRow.holds Try.pinned (OpenSpec.ofChange totalNegatedWrong)

/- THE SECOND FORM. 'bulk': how many values and letters a reading holds, each counted each time it is reached (what is shared counts as often as it is met; a slice's spare places count too). A statement '..UptoSaid' is the law's where the arguments, and the package variables that the reading takes, are together of bulk at most 1048576: NARROWER than '..Said'. Prove '..Said' where nothing that the law and all that it calls make is longer than what came in: it says more and counts as full. Else prove '..UptoSaid'. A law counts once. -/
mutual
def uptoBulk {H : Type} : DataW H → Nat
  | .lit (.string bytes) => bytes.length + 1
  | .lit _ => 1
  | .nil => 1
  | .ptr d => uptoBulk d + 1
  | .slice elems spare => uptoBulkAll elems + uptoBulkAll spare + 1
  | .agg parts => uptoBulkAll parts + 1
  | .iface _ d => uptoBulk d + 1
  | .map entries => uptoBulkEntries entries + 1
  | .held _ => 1
def uptoBulkAll {H : Type} : List (DataW H) → Nat
  | [] => 0
  | d :: r => uptoBulk d + uptoBulkAll r
def uptoBulkEntries {H : Type} : List (Lit × DataW H) → Nat
  | [] => 0
  | x :: r => uptoBulkEntry x + uptoBulkEntries r
def uptoBulkEntry {H : Type} : Lit × DataW H → Nat
  | (.string bytes, d) => bytes.length + uptoBulk d + 1
  | (_, d) => uptoBulk d + 1
 end
def uptoSmall : (H : Type) → List (DataW H) → Bool := fun _ ds => decide (uptoBulkAll ds ≤ 1048576)
def OpenSpec.upto (s : _root_.Go.ChangeSpec) : _root_.Go.OpenSpec := { _root_.Go.OpenSpec.ofChange s with cond := some uptoSmall }

/-- 'chalklinelaw15.TotalMatches', WHERE WHAT IT READS IS OF BULK AT MOST 1048576: true; the input reads as it did. -/
def totalMatchesUptoRow : OpenClaim := { program := "ytppgpafnifmmfaa", sum := "b2f327dc269bf327d11c18fcd0e285b56048e38dd5975f21f2501da8ade0c337", func := "chalkline/chalklinelaw15.TotalMatches", spec := "totalMatches", unfollowed := true, recurses := true, apart := false, narrowed := true }
def TotalMatchesUptoSaid : Prop := totalMatchesUptoRow.holds Try.pinned (OpenSpec.upto totalMatchesSpec)

/-- 'chalklinelaw15.TotalCounts', WHERE WHAT IT READS IS OF BULK AT MOST 1048576: true; the input reads as it did. -/
def totalCountsUptoRow : OpenClaim := { program := "ytppgpafnifmmfaa", sum := "b2f327dc269bf327d11c18fcd0e285b56048e38dd5975f21f2501da8ade0c337", func := "chalkline/chalklinelaw15.TotalCounts", spec := "totalCounts", unfollowed := true, recurses := true, apart := false, narrowed := true }
def TotalCountsUptoSaid : Prop := totalCountsUptoRow.holds Try.pinned (OpenSpec.upto totalCountsSpec)

/-- 'chalklinelaw15.TotalUnique', WHERE WHAT IT READS IS OF BULK AT MOST 1048576: true; the input reads as it did. -/
def totalUniqueUptoRow : OpenClaim := { program := "ytppgpafnifmmfaa", sum := "b2f327dc269bf327d11c18fcd0e285b56048e38dd5975f21f2501da8ade0c337", func := "chalkline/chalklinelaw15.TotalUnique", spec := "totalUnique", unfollowed := true, recurses := true, apart := false, narrowed := true }
def TotalUniqueUptoSaid : Prop := totalUniqueUptoRow.holds Try.pinned (OpenSpec.upto totalUniqueSpec)

/-- 'chalklinelaw15.TotalValid', WHERE WHAT IT READS IS OF BULK AT MOST 1048576: true; the input reads as it did. -/
def totalValidUptoRow : OpenClaim := { program := "ytppgpafnifmmfaa", sum := "b2f327dc269bf327d11c18fcd0e285b56048e38dd5975f21f2501da8ade0c337", func := "chalkline/chalklinelaw15.TotalValid", spec := "totalValid", unfollowed := true, recurses := true, apart := false, narrowed := true }
def TotalValidUptoSaid : Prop := totalValidUptoRow.holds Try.pinned (OpenSpec.upto totalValidSpec)

/-- 'chalklinelaw15.TotalLimit', WHERE WHAT IT READS IS OF BULK AT MOST 1048576: true; the input reads as it did. -/
def totalLimitUptoRow : OpenClaim := { program := "ytppgpafnifmmfaa", sum := "b2f327dc269bf327d11c18fcd0e285b56048e38dd5975f21f2501da8ade0c337", func := "chalkline/chalklinelaw15.TotalLimit", spec := "totalLimit", unfollowed := true, recurses := true, apart := false, narrowed := true }
def TotalLimitUptoSaid : Prop := totalLimitUptoRow.holds Try.pinned (OpenSpec.upto totalLimitSpec)

/-- 'chalklinelaw15.TotalShift', WHERE WHAT IT READS IS OF BULK AT MOST 1048576: true; the input reads as it did. -/
def totalShiftUptoRow : OpenClaim := { program := "ytppgpafnifmmfaa", sum := "b2f327dc269bf327d11c18fcd0e285b56048e38dd5975f21f2501da8ade0c337", func := "chalkline/chalklinelaw15.TotalShift", spec := "totalShift", unfollowed := true, recurses := true, apart := false, narrowed := true }
def TotalShiftUptoSaid : Prop := totalShiftUptoRow.holds Try.pinned (OpenSpec.upto totalShiftSpec)

/-- 'chalklinelaw15.TotalNegated', WHERE WHAT IT READS IS OF BULK AT MOST 1048576: true; the input reads as it did. -/
def totalNegatedUptoRow : OpenClaim := { program := "ytppgpafnifmmfaa", sum := "b2f327dc269bf327d11c18fcd0e285b56048e38dd5975f21f2501da8ade0c337", func := "chalkline/chalklinelaw15.TotalNegated", spec := "totalNegated", unfollowed := true, recurses := true, apart := false, narrowed := true }
def TotalNegatedUptoSaid : Prop := totalNegatedUptoRow.holds Try.pinned (OpenSpec.upto totalNegatedSpec)

end Rows
end Go.Proofs.Ytppgpafnifmmfaa
