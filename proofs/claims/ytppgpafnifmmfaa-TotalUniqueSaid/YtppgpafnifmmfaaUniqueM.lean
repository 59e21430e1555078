/- Plain mathematics: every assignment of the old variables has just one extension under which the clauses of a totalizer hold. -/
import Derived.Test.YtppgpafnifmmfaaOpenB
import Derived.Laws.Bits64b
namespace Go.Proofs.Ytppgpafnifmmfaa
open Tot

/-- A literal under an assignment that is a function. -/
def val (e : Nat → Bool) (x : Int) : Bool := if x < 0 then !e (-x).toNat else e x.toNat
theorem val_pos (e : Nat → Bool) (k : Nat) : val e (k : Int) = e k := by unfold val; rw [if_neg (by omega), Int.toNat_natCast]
theorem val_negok (e : Nat → Bool) : NegOk (val e) := by
  intro x h
  rcases (show x < 0 ∨ 0 < x by omega) with h1 | h1
  · unfold val; rw [if_neg (by omega), if_pos h1, Bool.not_not]
  · unfold val; rw [if_pos (by omega), if_neg (by omega), Int.neg_neg]
theorem tv_val (bs : List Bool) : tv bs = val (fun k => bs[k]?.getD false) := rfl
def Agree (v : Nat) (e e' : Nat → Bool) : Prop := ∀ k, k < v → e k = e' k
theorem Agree.symm {v : Nat} {e e' : Nat → Bool} (h : Agree v e e') : Agree v e' e := fun k hk => (h k hk).symm
theorem val_congr {v : Nat} {e e' : Nat → Bool} (h : Agree v e e') {x : Int} (hx : Lit v x) : val e x = val e' x := by
  obtain ⟨a, b, c⟩ := hx
  unfold val
  split
  · rw [h _ (by omega)]
  · rw [h _ (by omega)]
theorem satf_congr {v : Nat} {e e' : Nat → Bool} (h : Agree v e e') {cl : List (List Int)} (hl : ∀ c ∈ cl, ∀ x ∈ c, Lit v x) (hs : satf (val e) cl) : satf (val e') cl := by
  intro c hc
  obtain ⟨x, hx, hv⟩ := List.any_eq_true.1 (hs c hc)
  exact List.any_eq_true.2 ⟨x, hx, by rw [← val_congr h (hl c hc x hx)]; exact hv⟩
theorem ctf_congr {v : Nat} {e e' : Nat → Bool} (h : Agree v e e') {l : List Int} (hl : ∀ x ∈ l, Lit v x) : ctf (val e) l = ctf (val e') l := by
  unfold ctf
  rw [List.filter_congr (fun x hx => val_congr h (hl x hx))]
theorem from_get (m n i : Nat) (h : i < n) : (from_ m n)[i]?.getD 0 = ((m + i : Nat) : Int) := by
  induction n with
  | zero => omega
  | succ n ih =>
    rw [from_]
    by_cases h1 : i < n
    · rw [List.getElem?_append_left (by rw [from_length]; exact h1), ih h1]
    · obtain rfl : i = n := by omega
      rw [List.getElem?_append_right (by rw [from_length]; exact Nat.le_refl _), from_length, Nat.sub_self]; rfl
theorem lit_take {v : Nat} {l : List Int} (h : ∀ x ∈ l, Lit v x) (k : Nat) : ∀ x ∈ l.take k, Lit v x := fun x hx => h x (List.mem_of_mem_take hx)
theorem lit_drop {v : Nat} {l : List Int} (h : ∀ x ∈ l, Lit v x) (k : Nat) : ∀ x ∈ l.drop k, Lit v x := fun x hx => h x (List.mem_of_mem_drop hx)

theorem size_zero (n : Nat) : ∀ k, n ≤ k → Tot.size 0 n = 0 := by
  intro k
  induction k generalizing n with
  | zero => intro h; exact Tot.size_small (by omega)
  | succ k ih =>
    intro h
    by_cases h2 : n < 2
    · exact Tot.size_small h2
    · rw [Tot.size_big h2, ih _ (by omega), ih _ (by omega)]; omega
/-- There is an extension. -/
theorem cnt_ext {M m0 : Nat} (h0 : 1 ≤ m0) : ∀ (k : Nat) (l : List Int) (m : Nat), l.length ≤ k → m0 ≤ m → (∀ x ∈ l, Lit m0 x) → ∀ e0 : Nat → Bool,
    ∃ e : Nat → Bool, Agree m e e0 ∧ satf (val e) (cnt M l m).2
  | k, l, m, hk, hm, hl, e0 => by
    by_cases h : min l.length M = 0
    · exact ⟨e0, fun _ _ => rfl, by rw [cnt_none h]; intro c hc; simp at hc⟩
    · by_cases h1 : l.length = 1
      · exact ⟨e0, fun _ _ => rfl, by rw [cnt_one h h1]; intro c hc; simp at hc⟩
      · cases k with
        | zero => omega
        | succ k =>
          have e1 : (l.take (l.length / 2)).length = l.length / 2 := by rw [List.length_take]; omega
          have e2 : (l.drop (l.length / 2)).length = l.length - l.length / 2 := List.length_drop ..
          obtain ⟨s1, hs1⟩ : ∃ s, size M (l.length / 2) = s := ⟨_, rfl⟩
          obtain ⟨s2, hs2⟩ : ∃ s, size M (l.length - l.length / 2) = s := ⟨_, rfl⟩
          have g1 := cnt_good (most := M) h0 k (l.take (l.length / 2)) m (by omega) hm (lit_take hl _)
          have g2 := cnt_good (most := M) h0 k (l.drop (l.length / 2)) (m + s1) (by omega) (by omega) (lit_drop hl _)
          obtain ⟨f1, a1, q1⟩ := cnt_ext (M := M) h0 k (l.take (l.length / 2)) m (by omega) hm (lit_take hl _) e0
          obtain ⟨f2, a2, q2⟩ := cnt_ext (M := M) h0 k (l.drop (l.length / 2)) (m + s1) (by omega) (by omega) (lit_drop hl _) f1
          rw [e1, hs1] at g1
          rw [e2, hs2] at g2
          obtain ⟨K, hK⟩ : ∃ K, ctf (val f2) l = K := ⟨_, rfl⟩
          let e : Nat → Bool := fun v => if m + s1 + s2 ≤ v then decide (v - (m + s1 + s2) < K) else f2 v
          have ae : Agree (m + s1 + s2) f2 e := fun v hv => by show f2 v = if _ then _ else _; rw [if_neg (by omega)]
          have b1 : satf (val e) (cnt M (l.take (l.length / 2)) m).2 := satf_congr (v := m + s1) (fun v hv => (a2 v hv).symm.trans (ae v (by omega))) (fun c hc => (g1.2 c hc).2.2) q1
          have b2 : satf (val e) (cnt M (l.drop (l.length / 2)) (m + s1)).2 := satf_congr (v := m + s1 + s2) ae (fun c hc => (g2.2 c hc).2.2) q2
          have u1 := cnt_unary (val_negok e) k _ _ (by omega) (by omega) (lit_nz (lit_take hl _)) b1
          have u2 := cnt_unary (val_negok e) k _ _ (by omega) (by omega) (lit_nz (lit_drop hl _)) b2
          have hct : ctf (val e) l = K := by rw [← hK]; exact ctf_congr (v := m + s1 + s2) ae.symm (fun x hx => (hl x hx).mono (by omega))
          have uo : Unary (val e) (from_ (m + s1 + s2) (min l.length M)) (ctf (val e) (l.take (l.length / 2)) + ctf (val e) (l.drop (l.length / 2))) := by
            intro i hi
            rw [from_length] at hi
            rw [from_get _ _ _ hi, val_pos, ← ctf_halves, hct]
            show (if _ then _ else _) = _
            rw [if_pos (by omega), show m + s1 + s2 + i - (m + s1 + s2) = i by omega]
          refine ⟨e, fun v hv => (ae v (by omega)).symm.trans ((a2 v (by omega)).trans (a1 v hv)), ?_⟩
          rw [cnt_more h h1, hs1, hs2, satf_append, satf_append]
          refine ⟨⟨b1, b2⟩, ?_⟩
          exact (merge_sat (val_negok e) (na := l.length / 2) (nb := l.length - l.length / 2) (M := M) u1 u2 (cnt_nz _ _ (by omega) (lit_nz (lit_take hl _))) (cnt_nz _ _ (by omega) (lit_nz (lit_drop hl _))) (from_nz _ _ (by omega))
            (by rw [cnt_length, e1]) (by rw [cnt_length, e2]) (by rw [from_length, show l.length / 2 + (l.length - l.length / 2) = l.length by omega])
            (by have := ctf_le (val e) (l.take (l.length / 2)); omega) (by have := ctf_le (val e) (l.drop (l.length / 2)); omega)).2 uo
/-- There is no other. -/
theorem cnt_uniq {M m0 : Nat} (h0 : 1 ≤ m0) (hM : 1 ≤ M) : ∀ (k : Nat) (l : List Int) (m : Nat), l.length ≤ k → m0 ≤ m → (∀ x ∈ l, Lit m0 x) → ∀ e e' : Nat → Bool, Agree m e e' →
    satf (val e) (cnt M l m).2 → satf (val e') (cnt M l m).2 → Agree (m + size M l.length) e e'
  | k, l, m, hk, hm, hl, e, e', ha, q, q' => by
    by_cases h : l.length < 2
    · rw [size_small h]; exact ha
    · have hn : ¬ min l.length M = 0 := by omega
      have h1 : ¬ l.length = 1 := by omega
      cases k with
      | zero => omega
      | succ k =>
        have e1 : (l.take (l.length / 2)).length = l.length / 2 := by rw [List.length_take]; omega
        have e2 : (l.drop (l.length / 2)).length = l.length - l.length / 2 := List.length_drop ..
        have u := cnt_unary (val_negok e) (M := M) l.length l m (Nat.le_refl _) (by omega) (lit_nz hl) q
        have u' := cnt_unary (val_negok e') (M := M) l.length l m (Nat.le_refl _) (by omega) (lit_nz hl) q'
        rw [cnt_more hn h1] at q q' u u'
        rw [satf_append, satf_append] at q q'
        have i1 := cnt_uniq h0 hM k (l.take (l.length / 2)) m (by omega) hm (lit_take hl _) e e' ha q.1.1 q'.1.1
        rw [e1] at i1
        have i2 := cnt_uniq h0 hM k (l.drop (l.length / 2)) (m + size M (l.length / 2)) (by omega) (by omega) (lit_drop hl _) e e' i1 q.1.2 q'.1.2
        rw [e2] at i2
        rw [size_big h]
        obtain ⟨s, hs⟩ : ∃ s, m + size M (l.length / 2) + size M (l.length - l.length / 2) = s := ⟨_, rfl⟩
        rw [hs] at i2 u u'
        have hct : ctf (val e) l = ctf (val e') l := ctf_congr i2 (fun x hx => (hl x hx).mono (by omega))
        intro v hv
        by_cases hvs : v < s
        · exact i2 v hvs
        · obtain ⟨i, rfl⟩ : ∃ i, v = s + i := ⟨v - s, by omega⟩
          have hi : i < min l.length M := by omega
          have w1 := u i (by rw [from_length]; exact hi)
          have w2 := u' i (by rw [from_length]; exact hi)
          rw [from_get _ _ _ hi, val_pos] at w1 w2
          rw [w1, w2, hct]

/-- The bits of t, laid at f on. -/
def setB (bs : List Bool) (f t : Nat) : Nat → List Bool
  | 0 => bs
  | i + 1 => (setB bs f t i).set (f + i) (t.testBit i)
theorem setB_length (bs : List Bool) (f t : Nat) : ∀ i, (setB bs f t i).length = bs.length
  | 0 => rfl
  | i + 1 => by rw [setB, List.length_set, setB_length bs f t i]
theorem setB_get (bs : List Bool) (f t : Nat) : ∀ (i k : Nat), f + i ≤ bs.length → (setB bs f t i)[k]?.getD false = if f ≤ k ∧ k < f + i then t.testBit (k - f) else bs[k]?.getD false
  | 0, k, _ => by rw [setB, if_neg (by omega)]
  | i + 1, k, h => by
    rw [setB, List.getElem?_set]
    by_cases hk : f + i = k
    · subst hk
      rw [if_pos rfl, if_pos (by rw [setB_length]; omega), if_pos (by omega), show f + i - f = i by omega]; rfl
    · rw [if_neg hk, setB_get bs f t i k (by omega)]
      by_cases h2 : f ≤ k ∧ k < f + i
      · rw [if_pos h2, if_pos (by omega)]
      · rw [if_neg h2, if_neg (by omega)]
theorem setB_again (bs : List Bool) (f t t' F : Nat) (h : f + F ≤ bs.length) : setB (setB bs f t' F) f t F = setB bs f t F := by
  apply bools_ext
  · rw [setB_length, setB_length, setB_length]
  · intro k _
    rw [setB_get _ f t F k (by rw [setB_length]; exact h), setB_get bs f t F k h, setB_get bs f t' F k h]
    split <;> rfl
theorem bits_of : ∀ (F : Nat) (h : Nat → Bool), ∃ t, t < 2 ^ F ∧ ∀ i, i < F → t.testBit i = h i
  | 0, _ => ⟨0, by simp, fun i hi => by omega⟩
  | F + 1, h => by
    obtain ⟨t, ht, hb⟩ := bits_of F (fun i => h (i + 1))
    refine ⟨2 * t + (if h 0 then 1 else 0), ?_, fun i hi => ?_⟩
    · rw [Nat.pow_succ]; split <;> omega
    · cases i with
      | zero =>
        rw [Nat.testBit_zero]
        cases h 0 <;> simp
      | succ i =>
        rw [Nat.testBit_succ, show (2 * t + (if h 0 then 1 else 0)) / 2 = t by split <;> omega]
        exact hb i (by omega)
theorem bits_same {F t t' : Nat} (h : t < 2 ^ F) (h' : t' < 2 ^ F) (hb : ∀ i, i < F → t.testBit i = t'.testBit i) : t = t' := by
  apply Nat.eq_of_testBit_eq
  intro i
  by_cases hi : i < F
  · exact hb i hi
  · rw [Nat.testBit_lt_two_pow (Nat.lt_of_lt_of_le h (Nat.pow_le_pow_right (by omega) (by omega))), Nat.testBit_lt_two_pow (Nat.lt_of_lt_of_le h' (Nat.pow_le_pow_right (by omega) (by omega)))]

/-- Of the 2^F ways to fill the new variables just one makes the clauses hold. -/
theorem one_way {M f F : Nat} {zs : List Int} {bs : List Bool} (hf : 1 ≤ f) (hM : 1 ≤ M ∨ F = 0) (hl : ∀ x ∈ zs, Lit f x) (hF : size M zs.length = F) (hb : f + F ≤ bs.length) :
    ∃ t0, t0 < 2 ^ F ∧ ∀ t, t < 2 ^ F → sat (setB bs f t F) (cnt M zs f).2 = decide (t = t0) := by
  obtain ⟨e, ha, he⟩ := cnt_ext (M := M) hf zs.length zs f (Nat.le_refl _) (Nat.le_refl _) hl (fun k => bs[k]?.getD false)
  have hgood := (cnt_good (most := M) hf zs.length zs f (Nat.le_refl _) (Nat.le_refl _) hl).2
  rw [hF] at hgood
  obtain ⟨t0, h0, hb0⟩ := bits_of F (fun i => e (f + i))
  have hag : ∀ t, t < 2 ^ F → Agree f (fun k => (setB bs f t F)[k]?.getD false) e := fun t _ k hk => by
    show (setB bs f t F)[k]?.getD false = e k
    rw [setB_get bs f t F k hb, if_neg (by omega)]
    exact (ha k hk).symm
  have hin : ∀ t i, i < F → (setB bs f t F)[f + i]?.getD false = t.testBit i := fun t i hi => by
    rw [setB_get bs f t F (f + i) hb, if_pos (by omega), show f + i - f = i by omega]
  refine ⟨t0, h0, fun t ht => ?_⟩
  by_cases q : t = t0
  · subst q
    rw [decide_eq_true rfl]
    refine satf_sat ?_
    rw [tv_val]
    refine satf_congr (v := f + F) (e := e) (fun k hk => ?_) (fun c hc => (hgood c hc).2.2) he
    by_cases h1 : k < f
    · exact (hag t ht k h1).symm
    · obtain ⟨i, rfl⟩ : ∃ i, k = f + i := ⟨k - f, by omega⟩
      show _ = (setB bs f t F)[f + i]?.getD false
      rw [hin t i (by omega), hb0 i (by omega)]
  · rw [decide_eq_false q]
    cases hs : sat (setB bs f t F) (cnt M zs f).2 with
    | false => rfl
    | true =>
      refine absurd ?_ q
      rcases hM with hM | hM
      · have hs := sat_satf hs
        rw [tv_val] at hs
        have hu := cnt_uniq hf hM zs.length zs f (Nat.le_refl _) (Nat.le_refl _) hl _ _ (hag t ht) hs he
        rw [hF] at hu
        refine bits_same ht h0 fun i hi => ?_
        rw [← hin t i hi, hb0 i hi]
        exact hu (f + i) (by omega)
      · subst hM
        rw [Nat.pow_zero] at ht h0; omega
theorem size_four (M n : Nat) (h : n ≤ 4) : size M n ≤ 8 := by
  have h1 : size M 1 = 0 := size_small (by omega)
  have h2 : size M 2 ≤ 2 := by rw [size_two]; omega
  have h3 : size M 3 ≤ 5 := by rw [size_big (by omega)]; show size M 1 + size M 2 + _ ≤ 5; omega
  have h4 : size M 4 ≤ 8 := by rw [size_big (by omega)]; show size M 2 + size M 2 + _ ≤ 8; omega
  match n, h with
  | 0, _ => rw [size_small (by omega)]; omega
  | 1, _ => omega
  | 2, _ => omega
  | 3, _ => omega
  | 4, _ => omega
theorem and_one_i64 (a : Nat) (ha : a < 1000000) : bits .and .i64 (a : Int) 1 = ((a % 2 : Nat) : Int) := by
  have h1 : (BitVec.ofInt 64 (a : Int)).toNat = a := by
    rw [BitVec.ofInt_natCast, BitVec.toNat_ofNat]; exact Nat.mod_eq_of_lt (by omega)
  have h2 : (BitVec.ofInt 64 (1 : Int)).toNat = 1 := by decide
  show IntKind.i64.wrap ((BitVec.ofInt 64 (a : Int) &&& BitVec.ofInt 64 (1 : Int)).toNat : Int) = _
  rw [BitVec.toNat_and, h1, h2, Nat.and_one_is_mod]
  exact IntWalk.i64_in _ (by omega)
theorem bit_of (t j : Nat) (ht : t < 1000000) : (bits BinOp.and IntKind.i64 ((t : Int) / 2 ^ j) 1 == 1) = t.testBit j := by
  have e : (t : Int) / 2 ^ j = ((t / 2 ^ j : Nat) : Int) := by
    rw [Int.natCast_ediv, Int.natCast_pow]; rfl
  have hlt : t / 2 ^ j ≤ t := Nat.div_le_self _ _
  rw [e, and_one_i64 _ (by omega), Nat.testBit_eq_decide_div_mod_eq]
  by_cases h : t / 2 ^ j % 2 = 1
  · rw [h, decide_eq_true rfl]; rfl
  · rw [decide_eq_false h, show t / 2 ^ j % 2 = 0 by omega]; rfl
end Go.Proofs.Ytppgpafnifmmfaa
