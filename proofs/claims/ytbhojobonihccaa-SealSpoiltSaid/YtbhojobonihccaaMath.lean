/- Plain mathematics on CRC-32 over natural numbers: one step, eight steps, the table, the fold over bytes, that the steps are linear over GF(2) and lose nothing. No program is named here. -/
import Derived.KernelRfl
namespace Go.Proofs.Ytbhojobonihccaa.Crc

def poly : Nat := 3988292384
def step (v : Nat) : Nat := if v % 2 = 0 then v / 2 else v / 2 ^^^ poly
def steps : Nat → Nat → Nat
  | 0, v => v
  | k + 1, v => steps k (step v)
def eat (v c : Nat) : Nat := steps 8 (v ^^^ c)
theorem eat_def (v c : Nat) : eat v c = steps 8 (v ^^^ c) := rfl
attribute [irreducible] eat
def fold : Nat → List Nat → Nat
  | v, [] => v
  | v, c :: l => fold (eat v c) l
def crc (l : List Nat) : Nat := fold 4294967295 l ^^^ 4294967295

theorem div_xor (a b k : Nat) : (a ^^^ b) / 2 ^ k = a / 2 ^ k ^^^ b / 2 ^ k := by
  apply Nat.eq_of_testBit_eq; intro i
  simp [Nat.testBit_div_two_pow, Nat.testBit_xor]
theorem mod_xor (a b k : Nat) : (a ^^^ b) % 2 ^ k = a % 2 ^ k ^^^ b % 2 ^ k := by
  apply Nat.eq_of_testBit_eq; intro i
  simp only [Nat.testBit_mod_two_pow, Nat.testBit_xor]
  cases decide (i < k) <;> simp
theorem div2_xor (a b : Nat) : (a ^^^ b) / 2 = a / 2 ^^^ b / 2 := by simpa using div_xor a b 1
theorem mod2_xor (a b : Nat) : (a ^^^ b) % 2 = a % 2 ^^^ b % 2 := by simpa using mod_xor a b 1
theorem split8 (v : Nat) : (v / 256 * 256) ^^^ (v % 256) = v := by
  apply Nat.eq_of_testBit_eq; intro i
  have h1 : (v / 256 * 256) = (v / 2 ^ 8) * 2 ^ 8 := rfl
  have h2 : v % 256 = v % 2 ^ 8 := rfl
  rw [h1, h2, Nat.testBit_xor, Nat.testBit_mul_two_pow, Nat.testBit_mod_two_pow, Nat.testBit_div_two_pow]
  by_cases h : i < 8
  · simp [h, Nat.not_le.2 h]
  · have h' : 8 ≤ i := by omega
    simp [h, h', Nat.sub_add_cancel h']

theorem step_xor (a b : Nat) : step (a ^^^ b) = step a ^^^ step b := by
  unfold step
  rw [mod2_xor, div2_xor]
  rcases Nat.mod_two_eq_zero_or_one a with ha | ha <;> rcases Nat.mod_two_eq_zero_or_one b with hb | hb <;> simp [ha, hb]
  · ac_rfl
  · ac_rfl
  · rw [show a / 2 ^^^ poly ^^^ (b / 2 ^^^ poly) = (a / 2 ^^^ b / 2) ^^^ (poly ^^^ poly) by ac_rfl]; simp
theorem steps_xor : ∀ k a b, steps k (a ^^^ b) = steps k a ^^^ steps k b
  | 0, _, _ => rfl
  | k + 1, a, b => by rw [steps, step_xor, steps_xor k]; rfl
theorem step_zero : step 0 = 0 := rfl
theorem steps_zero : ∀ k, steps k 0 = 0
  | 0 => rfl
  | k + 1 => by rw [steps, step_zero, steps_zero k]
theorem step_even (h : Nat) : step (h * 2) = h := by simp [step]
theorem steps8_high (h : Nat) : steps 8 (h * 256) = h := by
  have : h * 256 = h * 128 * 2 := by omega
  rw [this]; simp only [steps]
  rw [step_even, show h * 128 = h * 64 * 2 by omega, step_even, show h * 64 = h * 32 * 2 by omega, step_even, show h * 32 = h * 16 * 2 by omega, step_even,
    show h * 16 = h * 8 * 2 by omega, step_even, show h * 8 = h * 4 * 2 by omega, step_even, show h * 4 = h * 2 * 2 by omega, step_even, step_even]
theorem steps_add : ∀ j k v, steps (j + k) v = steps k (steps j v)
  | 0, k, v => by simp [steps]
  | j + 1, k, v => by rw [show j + 1 + k = (j + k) + 1 by omega, steps, steps_add j k]; rfl
theorem steps_succ (k v : Nat) : steps (k + 1) v = step (steps k v) := by rw [steps_add k 1]; rfl

/-- The table: eight steps at once. -/
theorem eat_table (v c : Nat) : v / 256 ^^^ steps 8 (v % 256 ^^^ c) = eat v c := by
  rw [eat_def]
  conv => rhs; rw [← split8 v]
  rw [show v / 256 * 256 ^^^ v % 256 ^^^ c = (v / 256 * 256) ^^^ (v % 256 ^^^ c) by ac_rfl, steps_xor 8 (v / 256 * 256), steps8_high]

theorem poly_lt : poly < 4294967296 := by decide
theorem step_lt {v : Nat} (h : v < 4294967296) : step v < 4294967296 := by
  unfold step
  split
  · omega
  · exact Nat.xor_lt_two_pow (n := 32) (by omega) (by decide)
theorem steps_lt : ∀ (k : Nat) {v : Nat}, v < 4294967296 → steps k v < 4294967296
  | 0, _, h => h
  | k + 1, _, h => steps_lt k (step_lt h)
theorem xor_lt {a b : Nat} (ha : a < 4294967296) (hb : b < 4294967296) : a ^^^ b < 4294967296 := Nat.xor_lt_two_pow (n := 32) ha hb
theorem xor_lt8 {a b : Nat} (ha : a < 256) (hb : b < 256) : a ^^^ b < 256 := Nat.xor_lt_two_pow (n := 8) ha hb
theorem eat_lt {v c : Nat} (h : v < 4294967296) (hc : c < 256) : eat v c < 4294967296 := by
  rw [eat_def]; exact steps_lt 8 (xor_lt h (by omega))
theorem fold_lt (l : List Nat) : ∀ {v : Nat}, v < 4294967296 → (∀ c ∈ l, c < 256) → fold v l < 4294967296 := by
  induction l with
  | nil => intro v h _; exact h
  | cons c l ih => intro v h hl; exact ih (eat_lt h (hl c (by simp))) (fun x hx => hl x (by simp [hx]))
theorem crc_lt_at (k : Nat) (hk : k < 4294967296) (l : List Nat) (hl : ∀ c ∈ l, c < 256) : fold k l ^^^ k < 4294967296 := xor_lt (fold_lt l hk hl) hk
theorem full_lt : (4294967295 : Nat) < 4294967296 := by omega
theorem crc_lt (l : List Nat) (hl : ∀ c ∈ l, c < 256) : crc l < 4294967296 := crc_lt_at _ full_lt l hl
theorem fold_nil (v : Nat) : fold v [] = v := rfl
theorem fold_cons (v c : Nat) (l : List Nat) : fold v (c :: l) = fold (eat v c) l := rfl
theorem fold_append (l : List Nat) : ∀ (v : Nat) (m : List Nat), fold v (l ++ m) = fold (fold v l) m := by
  induction l with
  | nil => intro v m; rw [List.nil_append, fold_nil]
  | cons c l ih => intro v m; rw [List.cons_append, fold_cons, fold_cons, ih]
theorem fold_snoc (l : List Nat) (v c : Nat) : fold v (l ++ [c]) = eat (fold v l) c := by rw [fold_append, fold_cons, fold_nil]
theorem fold_take (l : List Nat) (v k : Nat) (h : k < l.length) : fold v (l.take (k + 1)) = eat (fold v (l.take k)) (l[k]?.getD 0) := by
  rw [List.take_succ_eq_append_getElem h, fold_snoc]; simp [h]
theorem not_eq_xor {v : Nat} (h : v < 4294967296) : 4294967295 - v = v ^^^ 4294967295 := by
  have e : (4294967295 : Nat) = 2 ^ 32 - 1 := by decide
  apply Nat.eq_of_testBit_eq; intro i
  rw [Nat.testBit_xor, e, Nat.testBit_two_pow_sub_one, show 2 ^ 32 - 1 - v = 2 ^ 32 - (v + 1) by omega, Nat.testBit_two_pow_sub_succ (by omega)]
  by_cases hi : i < 32
  · simp [hi]
  · have : v.testBit i = false := Nat.testBit_lt_two_pow (Nat.lt_of_lt_of_le h (show 2 ^ 32 ≤ 2 ^ i from Nat.pow_le_pow_right (by decide) (by omega)))
    simp [hi, this]

/-! ### Linear over GF(2) -/
theorem xor4 (a b c d : Nat) : (a ^^^ b) ^^^ (c ^^^ d) = (a ^^^ c) ^^^ (b ^^^ d) := by ac_rfl
theorem eat_xor (u v c d : Nat) : eat (u ^^^ v) (c ^^^ d) = eat u c ^^^ eat v d := by
  rw [eat_def, eat_def, eat_def, xor4, steps_xor]
def xors (l m : List Nat) : List Nat := List.zipWith (· ^^^ ·) l m
theorem fold_xor : ∀ (l m : List Nat) (u v : Nat), l.length = m.length → fold (u ^^^ v) (xors l m) = fold u l ^^^ fold v m
  | [], [], u, v, _ => by rw [show xors [] [] = [] from rfl, fold_nil, fold_nil, fold_nil]
  | [], _ :: _, _, _, h => by simp at h
  | _ :: _, [], _, _, h => by simp at h
  | c :: l, d :: m, u, v, h => by
    simp only [xors, List.zipWith_cons_cons]
    rw [fold_cons, fold_cons, fold_cons, eat_xor]
    exact fold_xor l m _ _ (by simpa using h)
theorem xors_length (l m : List Nat) (h : l.length = m.length) : (xors l m).length = l.length := by simp [xors, h]
/-- Affine: three lists of one length. -/
theorem crc_three (a b c : List Nat) (hab : a.length = b.length) (hbc : b.length = c.length) : crc (xors (xors a b) c) = crc a ^^^ crc b ^^^ crc c := by
  have h1 : (4294967295 : Nat) = 4294967295 ^^^ 4294967295 ^^^ 4294967295 := by decide
  unfold crc
  conv => lhs; rw [h1]
  rw [fold_xor _ c _ _ (by rw [xors_length a b hab]; omega), fold_xor a b _ _ hab]
  generalize fold 4294967295 a = x
  generalize fold 4294967295 b = y
  generalize fold 4294967295 c = z
  generalize (4294967295 : Nat) = k
  ac_rfl
end Go.Proofs.Ytbhojobonihccaa.Crc
