/- The array of LinForceComplete. -/
import Derived.Test.YtoacfjmefoiflaaFCo
namespace Go.Proofs.Ytoacfjmefoiflaa
open Go.ChangeShapes Go.WideShapes Go.ChangeAt Go.RowKit
set_option maxRecDepth 100000

/-- Seventeen booleans in a block of their own. -/
def Arr (w : World) (g : Nat) (bs : List Bool) : Prop := bs.length = 17 ∧ w.heap[g]? = some (.cells (bs.map Value.bool).toArray 44 (0, 0))
theorem Arr.below {w w' : World} {g : Nat} {bs : List Bool} (h : Arr w g bs) (hb : Below w.heap.size w w') : Arr w' g bs := by
  refine ⟨h.1, (hb.block g ?_).trans h.2⟩
  obtain ⟨h1, _⟩ := Array.getElem?_eq_some_iff.1 h.2
  exact h1
theorem Arr.frozen {w : World} {g : Nat} {bs : List Bool} (h : Arr w g bs) (j : Nat) : w.frozen? ⟨g, j, none⟩ = false := frozen_of_row w g j _ 44 h.2
theorem Arr.cell {w : World} {g : Nat} {bs : List Bool} (h : Arr w g bs) {j : Nat} (hj : j < 17) : w.cell? ⟨g, j, none⟩ = some (.bool (bs[j]?.getD false)) := by
  rw [cell_of_row w g j _ 44 (0, 0) h.2]
  have : j < bs.length := by rw [h.1]; exact hj
  simp [this]
theorem Arr.set {w : World} {g : Nat} {bs : List Bool} (h : Arr w g bs) (j : Nat) (b : Bool) : Arr (w.setCell ⟨g, j, none⟩ (.bool b)) g (bs.set j b) := by
  refine ⟨by rw [List.length_set]; exact h.1, ?_⟩
  have := heap_setCell_same w g j _ 44 (.bool b) h.2
  rw [this]
  congr 2
  simp [List.map_set]
theorem fill_set : ∀ j : Nat, j < 17 → (List.replicate j true ++ List.replicate (17 - j) false).set j true = List.replicate (j + 1) true ++ List.replicate (17 - (j + 1)) false := by decide
/-- The array after the variables up to n of one assignment. -/
def upd (b : Nat) : Nat → List Bool → List Bool
  | 0, bs => bs
  | n + 1, bs => (upd b n bs).set (if tb (b : Int) n = true then 8 - (n + 1) else 8 + (n + 1)) false
theorem upd_len (b : Nat) (bs : List Bool) : ∀ n, (upd b n bs).length = bs.length
  | 0 => rfl
  | n + 1 => by rw [upd, List.length_set]; exact upd_len b bs n
theorem upd_pos (b : Nat) (bs : List Bool) (h : bs.length = 17) (v : Nat) (h1 : v < 8) : ∀ n, n ≤ 8 → (upd b n bs)[8 + (v + 1)]?.getD false = (bs[8 + (v + 1)]?.getD false && (decide (n ≤ v) || tb (b : Int) v))
  | 0, _ => by simp [upd]
  | n + 1, hn => by
    have ih := upd_pos b bs h v h1 n (by omega)
    have hl : (upd b n bs).length = 17 := by rw [upd_len]; exact h
    rw [upd]
    cases e : tb (b : Int) n with
    | true =>
      rw [if_pos rfl, List.getElem?_set_ne (by omega), ih]
      by_cases q : n = v
      · subst q; rw [e]; simp
      · rw [show decide (n + 1 ≤ v) = decide (n ≤ v) from decide_eq_decide.2 ⟨fun _ => by omega, fun _ => by omega⟩]
    | false =>
      rw [if_neg (by simp)]
      by_cases q : n = v
      · subst q
        rw [List.getElem?_set_self (by omega), e, decide_eq_false (show ¬ n + 1 ≤ n by omega)]
        simp
      · rw [List.getElem?_set_ne (by omega), ih, show decide (n + 1 ≤ v) = decide (n ≤ v) from decide_eq_decide.2 ⟨fun _ => by omega, fun _ => by omega⟩]
theorem upd_neg (b : Nat) (bs : List Bool) (h : bs.length = 17) (v : Nat) (h1 : v < 8) : ∀ n, n ≤ 8 → (upd b n bs)[8 - (v + 1)]?.getD false = (bs[8 - (v + 1)]?.getD false && (decide (n ≤ v) || !tb (b : Int) v))
  | 0, _ => by simp [upd]
  | n + 1, hn => by
    have ih := upd_neg b bs h v h1 n (by omega)
    have hl : (upd b n bs).length = 17 := by rw [upd_len]; exact h
    rw [upd]
    cases e : tb (b : Int) n with
    | false =>
      rw [if_neg (by simp), List.getElem?_set_ne (by omega), ih]
      by_cases q : n = v
      · subst q; rw [e]; simp
      · rw [show decide (n + 1 ≤ v) = decide (n ≤ v) from decide_eq_decide.2 ⟨fun _ => by omega, fun _ => by omega⟩]
    | true =>
      rw [if_pos rfl]
      by_cases q : n = v
      · subst q
        rw [List.getElem?_set_self (by omega), e, decide_eq_false (show ¬ n + 1 ≤ n by omega)]
        simp
      · rw [List.getElem?_set_ne (by omega), ih, show decide (n + 1 ≤ v) = decide (n ≤ v) from decide_eq_decide.2 ⟨fun _ => by omega, fun _ => by omega⟩]
/-- The array after the assignments below b. -/
def stA (E : Nat → Bool) : Nat → List Bool
  | 0 => List.replicate 17 true
  | b + 1 => if E b = true then upd b 8 (stA E b) else stA E b
def anyE (E : Nat → Bool) : Nat → Bool
  | 0 => false
  | b + 1 => if E b = true then true else anyE E b
theorem stA_len (E : Nat → Bool) : ∀ b, (stA E b).length = 17
  | 0 => rfl
  | b + 1 => by
    rw [stA]
    split
    · rw [upd_len]; exact stA_len E b
    · exact stA_len E b
theorem anyE_iff (E : Nat → Bool) : ∀ n, anyE E n = true ↔ ∃ b, b < n ∧ E b = true
  | 0 => by simp [anyE]
  | n + 1 => by
    rw [anyE]
    split
    · rename_i h
      exact ⟨fun _ => ⟨n, by omega, h⟩, fun _ => rfl⟩
    · rename_i h
      rw [anyE_iff E n]
      exact ⟨fun ⟨b, h1, h2⟩ => ⟨b, by omega, h2⟩, fun ⟨b, h1, h2⟩ => ⟨b, by
        by_cases q : b = n
        · subst q; exact absurd h2 h
        · omega, h2⟩⟩
theorem stA_pos (E : Nat → Bool) (v : Nat) (hv : v < 8) : ∀ n, (stA E n)[8 + (v + 1)]?.getD false = true ↔ ∀ b, b < n → E b = true → tv (tru (b : Int) 8) ((v + 1 : Nat) : Int) = true
  | 0 => by
    constructor
    · intro _ b hb; omega
    · intro _; rw [stA, List.getElem?_replicate, if_pos (by omega)]; rfl
  | n + 1 => by
    have ih := stA_pos E v hv n
    rw [stA]
    split
    · rename_i h
      rw [upd_pos n _ (stA_len E n) v hv 8 (Nat.le_refl _), Bool.and_eq_true, ih, decide_eq_false (show ¬ 8 ≤ v by omega), Bool.false_or]
      constructor
      · rintro ⟨h1, h2⟩ b hb hE
        by_cases q : b = n
        · subst q; rw [tv_tru_pos _ v 8 hv]; exact h2
        · exact h1 b (by omega) hE
      · intro h1
        exact ⟨fun b hb => h1 b (by omega), by have := h1 n (by omega) h; rw [tv_tru_pos _ v 8 hv] at this; exact this⟩
    · rename_i h
      rw [ih]
      exact ⟨fun h1 b hb hE => by
        by_cases q : b = n
        · subst q; exact absurd hE h
        · exact h1 b (by omega) hE, fun h1 b hb => h1 b (by omega)⟩
theorem stA_neg (E : Nat → Bool) (v : Nat) (hv : v < 8) : ∀ n, (stA E n)[8 - (v + 1)]?.getD false = true ↔ ∀ b, b < n → E b = true → tv (tru (b : Int) 8) (-((v + 1 : Nat) : Int)) = true
  | 0 => by
    constructor
    · intro _ b hb; omega
    · intro _; rw [stA, List.getElem?_replicate, if_pos (by omega)]; rfl
  | n + 1 => by
    have ih := stA_neg E v hv n
    rw [stA]
    split
    · rename_i h
      rw [upd_neg n _ (stA_len E n) v hv 8 (Nat.le_refl _), Bool.and_eq_true, ih, decide_eq_false (show ¬ 8 ≤ v by omega), Bool.false_or]
      constructor
      · rintro ⟨h1, h2⟩ b hb hE
        by_cases q : b = n
        · subst q; rw [tv_tru_neg _ v 8 hv]; exact h2
        · exact h1 b (by omega) hE
      · intro h1
        exact ⟨fun b hb => h1 b (by omega), by have := h1 n (by omega) h; rw [tv_tru_neg _ v 8 hv] at this; exact this⟩
    · rename_i h
      rw [ih]
      exact ⟨fun h1 b hb hE => by
        by_cases q : b = n
        · subst q; exact absurd hE h
        · exact h1 b (by omega) hE, fun h1 b hb => h1 b (by omega)⟩
end Go.Proofs.Ytoacfjmefoiflaa
