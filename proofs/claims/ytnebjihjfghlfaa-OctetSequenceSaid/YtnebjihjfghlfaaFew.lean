/- few: the bound of a slice's length. -/
import Derived.Test.YtnebjihjfghlfaaEnc
namespace Go.Proofs.Ytnebjihjfghlfaa
open Go.RowKit

theorem few_any (A : Option Addr) (len cap : Nat) (w : World) : Calls Try.prog 12 #[.slice A len cap] w fun e w' => e = .returned (.bool (decide ((len : Int) ≤ 3000))) ∧ w = w' := by
  go_enter Try.func12, Try.ntmps12
  go_wp2
  go_ret
  first | trivial | exact ⟨rfl, rfl⟩
theorem few_yes (A : Option Addr) (len cap : Nat) (w : World) (h : len ≤ 3000) : Calls Try.prog 12 #[.slice A len cap] w fun e w' => e = .returned (.bool true) ∧ w = w' := by
  have := few_any A len cap w
  rwa [decide_eq_true (by omega)] at this
theorem few_no (A : Option Addr) (len cap : Nat) (w : World) (h : 3000 < len) : Calls Try.prog 12 #[.slice A len cap] w fun e w' => e = .returned (.bool false) ∧ w = w' := by
  have := few_any A len cap w
  rwa [decide_eq_false (by omega)] at this
end Go.Proofs.Ytnebjihjfghlfaa
