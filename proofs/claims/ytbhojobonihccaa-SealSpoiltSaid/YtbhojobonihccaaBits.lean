/- Plain mathematics of a burst: four bytes in a row changed, and what that does to the checksum. No program is named here. -/
import Derived.Test.YtbhojobonihccaaMath
namespace Go.Proofs.Ytbhojobonihccaa.Crc

theorem step_inj {v : Nat} (hv : v < 4294967296) (h : step v = 0) : v = 0 := by
  unfold step at h
  by_cases hp : v % 2 = 0
  · rw [if_pos hp] at h; omega
  · rw [if_neg hp] at h
    have h2 : v / 2 = poly := by
      have h3 : v / 2 ^^^ poly ^^^ poly = poly := by rw [h]; simp
      rwa [Nat.xor_assoc, Nat.xor_self, Nat.xor_zero] at h3
    unfold poly at h2
    omega
theorem steps_inj : ∀ (k : Nat) {v : Nat}, v < 4294967296 → steps k v = 0 → v = 0
  | 0, _, _, h => h
  | k + 1, _, hv, h => step_inj hv (steps_inj k (step_lt hv) h)

/-- The bytes of a number, the least significant first. -/
def dl (x m : Nat) : List Nat := (List.range m).map fun j => x / 256 ^ j % 256
theorem dl_succ (x m : Nat) : dl x (m + 1) = dl x m ++ [x / 256 ^ m % 256] := by simp [dl, List.range_succ]
theorem dl_length (x m : Nat) : (dl x m).length = m := by simp [dl]
theorem dl_cons (x m : Nat) : dl x (m + 1) = x % 256 :: dl (x / 256) m := by
  simp only [dl, List.range_succ_eq_map, List.map_cons, List.map_map, Nat.pow_zero, Nat.div_one]
  congr 1
  apply List.map_congr_left
  intro j _
  simp only [Function.comp, Nat.pow_succ, Nat.div_div_eq_div_mul]
  rw [Nat.mul_comm]
theorem eat_split (s v : Nat) : steps 8 (s ^^^ v) = eat s (v % 256) ^^^ v / 256 := by
  rw [eat_def]
  conv => lhs; rw [← split8 v]
  rw [show s ^^^ (v / 256 * 256 ^^^ v % 256) = (v / 256 * 256) ^^^ (s ^^^ v % 256) by ac_rfl, steps_xor 8 (v / 256 * 256), steps8_high]
  ac_rfl
theorem fold_dl : ∀ (m s x : Nat), fold s (dl x m) = steps (8 * m) (s ^^^ x % 256 ^ m)
  | 0, s, x => by rw [show dl x 0 = [] from rfl, fold_nil]; simp [steps, Nat.mod_one]
  | m + 1, s, x => by
    rw [dl_cons, fold_cons, fold_dl m, show 8 * (m + 1) = 8 + 8 * m by omega, steps_add 8, eat_split]
    have h1 : x % 256 ^ (m + 1) % 256 = x % 256 := by
      rw [Nat.pow_succ, Nat.mod_mul_left_mod]
    have h2 : x % 256 ^ (m + 1) / 256 = x / 256 % 256 ^ m := by
      rw [Nat.pow_succ, Nat.mul_comm, Nat.mod_mul_right_div_self]
    rw [h1, h2]
theorem fold_zeros : ∀ (r e : Nat), fold e (List.replicate r 0) = steps (8 * r) e
  | 0, e => by rw [List.replicate_zero, fold_nil]; rfl
  | r + 1, e => by
    rw [List.replicate_succ, fold_cons, fold_zeros r, show 8 * (r + 1) = 8 + 8 * r by omega, steps_add 8, eat_def, Nat.xor_zero]
def delta (k x m r : Nat) : List Nat := (List.replicate k 0 ++ dl x m) ++ List.replicate r 0
theorem delta_length (k x m r : Nat) : (delta k x m r).length = k + m + r := by simp [delta, dl_length]; omega
theorem fold_delta (k x m r : Nat) : fold 0 (delta k x m r) = steps (8 * r) (steps (8 * m) (x % 256 ^ m)) := by
  unfold delta
  rw [fold_append, fold_append, fold_zeros k, steps_zero, fold_dl, fold_zeros r, Nat.zero_xor]
theorem crc_burst (b : List Nat) (k x m r : Nat) (hl : b.length = k + m + r) (hm : m ≤ 4) : crc (xors b (delta k x m r)) = crc b ↔ x % 256 ^ m = 0 := by
  have hf : fold 4294967295 (xors b (delta k x m r)) = fold 4294967295 b ^^^ fold 0 (delta k x m r) := by
    rw [← fold_xor b (delta k x m r) 4294967295 0 (by rw [delta_length, hl]), Nat.xor_zero]
  have hlt : x % 256 ^ m < 4294967296 := by
    have h1 : 256 ^ m ≤ 256 ^ 4 := Nat.pow_le_pow_right (by omega) hm
    have h2 : x % 256 ^ m < 256 ^ m := Nat.mod_lt _ (Nat.pow_pos (by omega))
    have h3 : (256 : Nat) ^ 4 = 4294967296 := by decide
    omega
  unfold crc
  rw [hf, fold_delta]
  generalize fold 4294967295 b = f
  constructor
  · intro h
    have h1 : steps (8 * r) (steps (8 * m) (x % 256 ^ m)) = 0 := by
      generalize steps (8 * r) (steps (8 * m) (x % 256 ^ m)) = e at h
      generalize (4294967295 : Nat) = c at h
      have h2 : f ^^^ e = f := by
        have h3 := congrArg (· ^^^ c) h
        simp only [Nat.xor_assoc, Nat.xor_self, Nat.xor_zero] at h3
        exact h3
      have h4 := congrArg (f ^^^ ·) h2
      simp only [← Nat.xor_assoc, Nat.xor_self, Nat.zero_xor] at h4
      exact h4
    exact steps_inj _ hlt (steps_inj _ (steps_lt _ hlt) h1)
  · intro h
    rw [h, steps_zero, steps_zero, Nat.xor_zero]
theorem xors_zeros : ∀ (b : List Nat), xors b (List.replicate b.length 0) = b
  | [] => rfl
  | c :: b => by
    rw [List.length_cons, List.replicate_succ]
    simp only [xors, List.zipWith_cons_cons, Nat.xor_zero]
    congr 1
    exact xors_zeros b
theorem xors_none (b : List Nat) (k x r : Nat) (h : b.length = k + r) : xors b (delta k x 0 r) = b := by
  have e : delta k x 0 r = List.replicate b.length 0 := by
    rw [h]; simp [delta, dl, List.replicate_append_replicate]
  rw [e, xors_zeros]
theorem shift_cast (x m : Nat) : (x : Int) / 2 ^ (8 * m) % 256 = ((x / 256 ^ m % 256 : Nat) : Int) := by
  have h : ((2 ^ (8 * m) : Nat) : Int) = (2 : Int) ^ (8 * m) := Int.natCast_pow 2 (8 * m)
  have e : (256 : Nat) ^ m = 2 ^ (8 * m) := by rw [Nat.pow_mul]
  rw [e, ← h, Int.natCast_emod, Int.natCast_ediv]
  rfl
/-- One byte more. -/
theorem xors_next (b : List Nat) (k x i r : Nat) (hl : b.length = k + i + (r + 1)) :
    (xors b (delta k x i (r + 1))).set (k + i) (b[k + i]?.getD 0 ^^^ x / 256 ^ i % 256) = xors b (delta k x (i + 1) r) ∧ (xors b (delta k x i (r + 1)))[k + i]? = some (b[k + i]?.getD 0) := by
  have hb : b = b.take (k + i) ++ (b[k + i]?.getD 0 :: b.drop (k + i + 1)) := by
    rw [List.getElem?_eq_getElem (by omega), Option.getD_some, List.getElem_cons_drop, List.take_append_drop]
  have hP : (List.replicate k 0 ++ dl x i).length = k + i := by simp [dl_length]
  have hT : (b.take (k + i)).length = k + i := by rw [List.length_take]; omega
  have d1 : delta k x i (r + 1) = (List.replicate k 0 ++ dl x i) ++ (0 :: List.replicate r 0) := by unfold delta; rw [List.replicate_succ]
  have d2 : delta k x (i + 1) r = (List.replicate k 0 ++ dl x i) ++ (x / 256 ^ i % 256 :: List.replicate r 0) := by unfold delta; rw [dl_succ]; simp
  generalize List.replicate k 0 ++ dl x i = P at *
  have e1 : ∀ z, xors b (P ++ (z :: List.replicate r 0)) = List.zipWith (· ^^^ ·) (b.take (k + i)) P ++ ((b[k + i]?.getD 0 ^^^ z) :: List.zipWith (· ^^^ ·) (b.drop (k + i + 1)) (List.replicate r 0)) := by
    intro z
    unfold xors
    conv => lhs; rw [hb]
    rw [List.zipWith_append (by rw [hT, hP])]
    rfl
  have hZ : (List.zipWith (· ^^^ ·) (b.take (k + i)) P).length = k + i := by rw [List.length_zipWith, hT, hP, Nat.min_self]
  rw [d1, d2, e1, e1, Nat.xor_zero]
  constructor
  · rw [List.set_append_right _ _ (by omega), hZ, Nat.sub_self]; rfl
  · rw [List.getElem?_append_right (by omega), hZ, Nat.sub_self]; rfl
theorem low_next (x i : Nat) : (decide (x % 256 ^ (i + 1) ≠ 0)) = (decide (x % 256 ^ i ≠ 0) || decide (x / 256 ^ i % 256 ≠ 0)) := by
  have h := Nat.mod_pow_succ (b := 256) (k := i) (x := x)
  have hp : 0 < 256 ^ i := Nat.pow_pos (by omega)
  by_cases h1 : x % 256 ^ i = 0 <;> by_cases h2 : x / 256 ^ i % 256 = 0
  · simp [h, h1, h2]
  · have h3 : 256 ^ i * (x / 256 ^ i % 256) ≠ 0 := Nat.mul_ne_zero (by omega) h2
    simp [h, h1, h2, h3]
  · simp [h, h1, h2]
  · have h3 : x % 256 ^ (i + 1) ≠ 0 := by rw [h]; omega
    simp [h1, h2, h3]
end Go.Proofs.Ytbhojobonihccaa.Crc
