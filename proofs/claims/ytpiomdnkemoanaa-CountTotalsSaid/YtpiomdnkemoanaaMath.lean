/- Plain mathematics of totalizers: what is built. No program is named here. -/
namespace Go.Proofs.Ytpiomdnkemoanaa.Tot
/-- The element at i, if there is one. -/
def opt (l : List Int) (i : Int) : List Int := if 0 ≤ i ∧ i < l.length then [l[i.toNat]?.getD 0] else []
theorem opt_in (l : List Int) (k : Nat) (h : k < l.length) : opt l (k : Int) = [l[k]?.getD 0] := by
  rw [opt, if_pos (by omega), Int.toNat_natCast]
theorem opt_out (l : List Int) (i : Int) (h : i < 0 ∨ (l.length : Int) ≤ i) : opt l i = [] := by
  rw [opt, if_neg (by omega)]
/-- One clause. -/
def clause (a b : List Int) (sign i k out : Int) : List Int := ((opt a i).map (sign * ·) ++ (opt b k).map (sign * ·)) ++ [out]
/-- The clauses for i and k. -/
def step (a b outs : List Int) (i k : Int) : List (List Int) :=
  (opt outs (i + k - 1)).map (fun x => clause a b (-1) (i - 1) (k - 1) x) ++ (opt outs (i + k)).map (fun x => clause a b 1 i k (-x))
def inner (a b outs : List Int) (i : Int) : Nat → List (List Int)
  | 0 => []
  | m + 1 => inner a b outs i m ++ step a b outs i (m : Int)
def outer (a b outs : List Int) : Nat → List (List Int)
  | 0 => []
  | m + 1 => outer a b outs m ++ inner a b outs (m : Int) (b.length + 1)
def merge (a b outs : List Int) : List (List Int) := outer a b outs (a.length + 1)
def size (most n : Nat) : Nat := if _h : n < 2 then 0 else size most (n / 2) + size most (n - n / 2) + min n most
theorem size_small {most n : Nat} (h : n < 2) : size most n = 0 := by rw [size, dif_pos h]
theorem size_big {most n : Nat} (h : ¬ n < 2) : size most n = size most (n / 2) + size most (n - n / 2) + min n most := by rw [size, dif_neg h]
/-- n integers from m on. -/
def from_ (m : Nat) : Nat → List Int
  | 0 => []
  | n + 1 => from_ m n ++ [((m + n : Nat) : Int)]
theorem from_length (m : Nat) : ∀ n, (from_ m n).length = n
  | 0 => rfl
  | n + 1 => by rw [from_, List.length_append, from_length m n]; rfl
/-- The outputs and the clauses of a totalizer over l whose first new variable is m. -/
def cnt (most : Nat) (l : List Int) (m : Nat) : List Int × List (List Int) :=
  if _h0 : min l.length most = 0 then ([], [])
  else if _h1 : l.length = 1 then ([l[0]?.getD 0], [])
  else
    let a := cnt most (l.take (l.length / 2)) m
    let b := cnt most (l.drop (l.length / 2)) (m + size most (l.length / 2))
    let outs := from_ (m + size most (l.length / 2) + size most (l.length - l.length / 2)) (min l.length most)
    (outs, a.2 ++ b.2 ++ merge a.1 b.1 outs)
termination_by l.length
decreasing_by
  all_goals simp only [List.length_take, List.length_drop]; omega
theorem cnt_none {most : Nat} {l : List Int} {m : Nat} (h : min l.length most = 0) : cnt most l m = ([], []) := by rw [cnt, dif_pos h]
theorem cnt_one {most : Nat} {l : List Int} {m : Nat} (h : ¬ min l.length most = 0) (h1 : l.length = 1) : cnt most l m = ([l[0]?.getD 0], []) := by rw [cnt, dif_neg h, dif_pos h1]
theorem cnt_more {most : Nat} {l : List Int} {m : Nat} (h : ¬ min l.length most = 0) (h1 : ¬ l.length = 1) :
    cnt most l m = (from_ (m + size most (l.length / 2) + size most (l.length - l.length / 2)) (min l.length most),
      (cnt most (l.take (l.length / 2)) m).2 ++ (cnt most (l.drop (l.length / 2)) (m + size most (l.length / 2))).2 ++
        merge (cnt most (l.take (l.length / 2)) m).1 (cnt most (l.drop (l.length / 2)) (m + size most (l.length / 2))).1 (from_ (m + size most (l.length / 2) + size most (l.length - l.length / 2)) (min l.length most))) := by
  rw [cnt, dif_neg h, dif_neg h1]
/-- Literals of distinct variables below next, given those seen before. -/
def dist (next : Int) : List Int → List Int → Bool
  | _, [] => true
  | seen, x :: l => if x = 0 ∨ x ≤ -next ∨ next ≤ x ∨ x ∈ seen ∨ -x ∈ seen then false else dist next (x :: seen) l
end Go.Proofs.Ytpiomdnkemoanaa.Tot
