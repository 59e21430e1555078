/- What the walk of LinForceComplete wants to know. -/
import Derived.Test.YtoacfjmefoiflaaFCA
namespace Go.Proofs.Ytoacfjmefoiflaa
open Go.RowKit
set_option maxRecDepth 100000

theorem firstV (lits : List Int) (N : Int) : ∀ n : Nat, (∀ j, j < n → goodV lits N j) ∨ ∃ i, i < n ∧ (∀ j, j < i → goodV lits N j) ∧ ¬ goodV lits N i
  | 0 => .inl fun j hj => absurd hj (Nat.not_lt_zero j)
  | n + 1 => by
    rcases firstV lits N n with h | ⟨i, h1, h2⟩
    · by_cases e : goodV lits N n
      · left; intro j hj
        rcases Nat.lt_or_ge j n with q | q
        · exact h j q
        · obtain rfl : j = n := by omega
          exact e
      · exact .inr ⟨n, by omega, h, e⟩
    · exact .inr ⟨i, by omega, h2⟩
theorem goodU_of8 {lits : List Int} {j : Nat} (h : goodV lits 8 j) : goodU lits j := by
  obtain ⟨a, b, c⟩ := litB_bound h.1
  exact ⟨by unfold litB; simp; omega, h.2⟩
theorem fc_ok {lits cs ls : List Int} {k : Int} (h : OkL cs ls k 8) (hn : ls.length ≤ 64) (hA : Apt lits) : fOk lits cs ls k = anyE (Ext lits cs ls k) 256 :=
  Bool.eq_iff_iff.2 ((force_iff h hn hA).trans (anyE_iff _ _).symm)
theorem fc_pos {lits cs ls : List Int} {k : Int} (h : OkL cs ls k 8) (hn : ls.length ≤ 64) (hA : Apt lits) (hok : fOk lits cs ls k = true) (v : Nat) (hv : v < 8) :
    decide (((v + 1 : Nat) : Int) ∈ fRes lits cs ls k) = ((!decide (((v + 1 : Nat) : Int) ∈ lits) && !decide (-((v + 1 : Nat) : Int) ∈ lits)) && (stA (Ext lits cs ls k) 256)[8 + (v + 1)]?.getD false) := by
  rw [Bool.eq_iff_iff, decide_eq_true_iff, forced_iff h hn hA hok (z := ((v + 1 : Nat) : Int)) ⟨by omega, by omega, by omega⟩, Bool.and_eq_true, Bool.and_eq_true, stA_pos _ v hv 256]
  simp only [Bool.not_eq_true', decide_eq_false_iff_not, and_assoc]
theorem fc_neg {lits cs ls : List Int} {k : Int} (h : OkL cs ls k 8) (hn : ls.length ≤ 64) (hA : Apt lits) (hok : fOk lits cs ls k = true) (v : Nat) (hv : v < 8) :
    decide (-((v + 1 : Nat) : Int) ∈ fRes lits cs ls k) = ((!decide (((v + 1 : Nat) : Int) ∈ lits) && !decide (-((v + 1 : Nat) : Int) ∈ lits)) && (stA (Ext lits cs ls k) 256)[8 - (v + 1)]?.getD false) := by
  rw [Bool.eq_iff_iff, decide_eq_true_iff, forced_iff h hn hA hok (z := -((v + 1 : Nat) : Int)) ⟨by omega, by omega, by omega⟩, Bool.and_eq_true, Bool.and_eq_true, stA_neg _ v hv 256, Int.neg_neg]
  simp only [Bool.not_eq_true', decide_eq_false_iff_not, and_assoc]
  exact ⟨fun ⟨a, b, c⟩ => ⟨b, a, c⟩, fun ⟨a, b, c⟩ => ⟨b, a, c⟩⟩
end Go.Proofs.Ytoacfjmefoiflaa
