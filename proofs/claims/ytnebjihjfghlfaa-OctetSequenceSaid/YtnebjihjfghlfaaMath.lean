/- Plain mathematics of zigzag varints: groups of seven bits, reading them back, texts and lists. No program is named here. -/
import Derived.KernelRfl
namespace Go.Proofs.Ytnebjihjfghlfaa.Oct

def zz (n : Int) : Nat := if 0 ≤ n then (2 * n).toNat else (-2 * n - 1).toNat
def unzz (u : Nat) : Int := if u % 2 = 0 then ((u / 2 : Nat) : Int) else -((u / 2 : Nat) : Int) - 1
theorem unzz_zz (n : Int) : unzz (zz n) = n := by
  unfold unzz zz
  by_cases h : 0 ≤ n
  · rw [if_pos h, if_pos (by omega)]; omega
  · rw [if_neg h, if_neg (by omega)]; omega
theorem zz_unzz (u : Nat) : zz (unzz u) = u := by
  unfold unzz zz
  by_cases h : u % 2 = 0
  · rw [if_pos h, if_pos (by omega)]; omega
  · rw [if_neg h, if_neg (by omega)]; omega
theorem zz_lt {n : Int} (h0 : -9223372036854775808 ≤ n) (h1 : n ≤ 9223372036854775807) : zz n < 18446744073709551616 := by
  unfold zz; split <;> omega
theorem unzz_bd {u : Nat} (h : u < 18446744073709551616) : -9223372036854775808 ≤ unzz u ∧ unzz u ≤ 9223372036854775807 := by
  unfold unzz; split <;> omega

/-- The groups of seven bits, at most f + 1 of them. -/
def grp : Nat → Nat → List Nat
  | 0, u => [u]
  | f + 1, u => if u < 128 then [u] else (u % 128 + 128) :: grp f (u / 128)
def enc (n : Int) : List Nat := grp 9 (zz n)
theorem p9 : (128 : Nat) ^ 9 = 9223372036854775808 := by decide
theorem grp_lt : ∀ (f u : Nat), u < 2 * 128 ^ f → ∀ c ∈ grp f u, c < 256
  | 0, u, h, c, hc => by simp [grp] at hc; omega
  | f + 1, u, h, c, hc => by
    unfold grp at hc
    split at hc
    · simp at hc; omega
    · rcases List.mem_cons.1 hc with h1 | h1
      · omega
      · exact grp_lt f (u / 128) (by rw [Nat.pow_succ] at h; omega) c h1
theorem enc_lt {n : Int} (h0 : -9223372036854775808 ≤ n) (h1 : n ≤ 9223372036854775807) : ∀ c ∈ enc n, c < 256 :=
  grp_lt 9 _ (by rw [p9]; have := zz_lt h0 h1; omega)
theorem grp_len : ∀ (f u : Nat), 1 ≤ (grp f u).length ∧ (grp f u).length ≤ f + 1
  | 0, u => by simp [grp]
  | f + 1, u => by
    unfold grp
    split
    · simp
    · have := grp_len f (u / 128); simp only [List.length_cons]; omega
theorem enc_len (n : Int) : 1 ≤ (enc n).length ∧ (enc n).length ≤ 10 := grp_len 9 _

/-- Reading one number: the error, its value, how many bytes. -/
def scan : Nat → Nat → List Nat → Nat × Nat × Nat
  | _, _, [] => (10, 0, 0)
  | i, u, c :: l => if i = 9 ∧ 1 < c then (11, 0, 0) else if c < 128 then (if c = 0 ∧ 0 < i then (11, 0, 0) else (0, u + c * 128 ^ i, i + 1)) else scan (i + 1) (u + (c - 128) * 128 ^ i) l

theorem scan_grp : ∀ (f i u a : Nat) (rest : List Nat), i + f = 9 → (u ≠ 0 ∨ i = 0) → u < 2 * 128 ^ f → scan i a (grp f u ++ rest) = (0, a + u * 128 ^ i, i + (grp f u).length)
  | 0, i, u, a, rest, hi, hu, hb => by
    have h9 : i = 9 := by omega
    subst h9
    have hb' : u < 2 := by simpa using hb
    show scan 9 a ([u] ++ rest) = _
    simp only [List.cons_append, List.nil_append, scan]
    rw [if_neg (by omega), if_pos (by omega), if_neg (by omega)]
    rfl
  | f + 1, i, u, a, rest, hi, hu, hb => by
    unfold grp
    by_cases h : u < 128
    · rw [if_pos h]
      simp only [List.cons_append, List.nil_append, scan]
      rw [if_neg (by omega), if_pos h, if_neg (by omega)]
      rfl
    · rw [if_neg h]
      simp only [List.cons_append, scan, List.length_cons]
      rw [if_neg (by omega), if_neg (by omega), scan_grp f (i + 1) (u / 128) _ rest (by omega) (by omega) (by rw [Nat.pow_succ] at hb; omega)]
      have e : u % 128 + 128 - 128 = u % 128 := by omega
      rw [e, Nat.pow_succ]
      have e2 : a + u % 128 * 128 ^ i + u / 128 * (128 ^ i * 128) = a + u * 128 ^ i := by
        have h3 : u / 128 * (128 ^ i * 128) = (128 * (u / 128)) * 128 ^ i := by rw [Nat.mul_comm (128 ^ i) 128, ← Nat.mul_assoc, Nat.mul_comm (u / 128) 128]
        rw [h3, Nat.add_assoc, ← Nat.add_mul, Nat.mod_add_div]
      rw [e2]
      simp only [Prod.mk.injEq, true_and]
      omega
theorem scan_short : ∀ (f i u a j : Nat), i + f = 9 → j < (grp f u).length → scan i a ((grp f u).take j) = (10, 0, 0)
  | 0, i, u, a, j, hi, hj => by
    have : j = 0 := by simp [grp] at hj; omega
    subst this; rfl
  | f + 1, i, u, a, j, hi, hj => by
    cases j with
    | zero => rfl
    | succ j =>
      unfold grp at hj ⊢
      by_cases h : u < 128
      · rw [if_pos h] at hj; simp at hj
      · rw [if_neg h] at hj ⊢
        simp only [List.take_succ_cons, scan]
        rw [if_neg (by omega), if_neg (by omega)]
        exact scan_short f (i + 1) (u / 128) _ j (by omega) (by simpa using hj)
theorem scan_back : ∀ (l : List Nat) (i a v k : Nat), i ≤ 9 → (∀ c ∈ l, c < 256) → scan i a l = (0, v, k) →
    ∃ u m, v = a + u * 128 ^ i ∧ k = i + m ∧ 1 ≤ m ∧ m ≤ l.length ∧ grp (9 - i) u = l.take m ∧ u < 2 * 128 ^ (9 - i) ∧ (u ≠ 0 ∨ i = 0)
  | [], i, a, v, k, _, _, h => by simp [scan] at h
  | c :: l, i, a, v, k, hi, hb, h => by
    have hc := hb c (by simp)
    unfold scan at h
    by_cases h1 : i = 9 ∧ 1 < c
    · rw [if_pos h1] at h; simp at h
    · rw [if_neg h1] at h
      by_cases h2 : c < 128
      · rw [if_pos h2] at h
        by_cases h3 : c = 0 ∧ 0 < i
        · rw [if_pos h3] at h; simp at h
        · rw [if_neg h3] at h
          simp only [Prod.mk.injEq, true_and] at h
          obtain ⟨rfl, rfl⟩ := h
          refine ⟨c, 1, rfl, rfl, by omega, by simp, ?_, ?_, by omega⟩
          · cases hf : 9 - i with
            | zero => simp [grp]
            | succ f => simp [grp, h2]
          · cases hf : 9 - i with
            | zero => have : i = 9 := by omega
                      simp; omega
            | succ f => have : 1 ≤ 128 ^ f := Nat.pow_pos (by omega)
                        rw [Nat.pow_succ]; omega
      · rw [if_neg h2] at h
        have hi9 : i ≠ 9 := by omega
        obtain ⟨u, m, hv, hk, hm1, hm, hg, hu, hz⟩ := scan_back l (i + 1) _ v k (by omega) (fun x hx => hb x (by simp [hx])) h
        obtain ⟨f, hf⟩ : ∃ f, 9 - i = f + 1 := ⟨8 - i, by omega⟩
        have hf' : 9 - (i + 1) = f := by omega
        rw [hf'] at hg hu
        refine ⟨u * 128 + (c - 128), m + 1, ?_, by omega, by omega, by simpa using hm, ?_, ?_, .inl (by omega)⟩
        · rw [hv, Nat.pow_succ, Nat.add_mul]
          have : u * (128 ^ i * 128) = u * 128 * 128 ^ i := by rw [Nat.mul_comm (128 ^ i) 128, Nat.mul_assoc]
          omega
        · rw [hf]
          unfold grp
          rw [if_neg (by omega), show (u * 128 + (c - 128)) % 128 + 128 = c by omega, show (u * 128 + (c - 128)) / 128 = u by omega, hg]
          simp
        · rw [hf, Nat.pow_succ]; omega

/-- GetInt: the error, the value, the offset behind. -/
def gE (bs : List Nat) (i : Int) : Nat := if i < 0 ∨ (bs.length : Int) < i then 1 else (scan 0 0 (bs.drop i.toNat)).1
def gV (bs : List Nat) (i : Int) : Int := if gE bs i = 0 then unzz (scan 0 0 (bs.drop i.toNat)).2.1 else 0
def gN (bs : List Nat) (i : Int) : Nat := if gE bs i = 0 then i.toNat + (scan 0 0 (bs.drop i.toNat)).2.2 else 0
end Go.Proofs.Ytnebjihjfghlfaa.Oct
