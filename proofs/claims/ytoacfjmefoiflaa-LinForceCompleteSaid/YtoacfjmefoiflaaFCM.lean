/- What Force answers, and the assignments that extend its literals: plain mathematics. -/
import Derived.Test.YtoacfjmefoiflaaRUnl
import Derived.Test.YtoacfjmefoiflaaNegM
import Derived.Test.YtoacfjmefoiflaaBits
namespace Go.Proofs.Ytoacfjmefoiflaa
set_option maxRecDepth 100000

theorem wsum_le_can (a : List Bool) (X : List Int) (hX : ∀ x ∈ X, tv a x = true) : ∀ C L : List Int, (∀ c ∈ C, 0 < c) → (∀ l ∈ L, l ≠ 0) → wsum a C L ≤ can X C L
  | [], L, _, _ => by cases L <;> simp [wsum, can]
  | c :: C, [], _, _ => by simp [wsum, can]
  | c :: C, l :: L, hC, hL => by
    have ih := wsum_le_can a X hX C L (fun x hx => hC x (List.mem_cons_of_mem _ hx)) (fun x hx => hL x (List.mem_cons_of_mem _ hx))
    have hc := hC c (by simp)
    have hl := hL l (by simp)
    simp only [wsum, can]
    by_cases h : -l ∈ X
    · have h1 := hX _ h
      rw [tv_not a l hl] at h1
      have h2 : tv a l = false := by simpa using h1
      rw [if_pos h, h2]
      simpa using ih
    · rw [if_neg h]
      split <;> omega
theorem wsum_lt_can (a : List Bool) (X : List Int) (s z : Int) (hX : ∀ x ∈ X, tv a x = true) (hz : tv a z = false) : ∀ C L : List Int, (∀ c ∈ C, 0 < c) → (∀ l ∈ L, l ≠ 0) → z ∈ frc X s C L → wsum a C L < can X C L - s
  | [], L, _, _, h => by cases L <;> simp [frc] at h
  | c :: C, [], _, _, h => by simp [frc] at h
  | c :: C, l :: L, hC, hL, h => by
    have hle := wsum_le_can a X hX C L (fun x hx => hC x (List.mem_cons_of_mem _ hx)) (fun x hx => hL x (List.mem_cons_of_mem _ hx))
    have hc := hC c (by simp)
    have hl := hL l (by simp)
    simp only [frc] at h
    simp only [wsum, can]
    rcases List.mem_append.1 h with h | h
    · split at h
      · simp at h
      · rename_i hn
        have e : z = l := by simpa using h
        subst e
        rw [hz, if_neg (fun q => hn (.inr (.inl q)))]
        have : s < c := by
          rcases Int.lt_or_le s c with q | q
          · exact q
          · exact absurd (.inr (.inr q)) hn
        simp
        omega
    · have ih := wsum_lt_can a X s z hX hz C L (fun x hx => hC x (List.mem_cons_of_mem _ hx)) (fun x hx => hL x (List.mem_cons_of_mem _ hx)) h
      by_cases q : -l ∈ X
      · have h1 := hX _ q
        rw [tv_not a l hl] at h1
        have h2 : tv a l = false := by simpa using h1
        rw [if_pos q, h2]
        simp
        omega
      · rw [if_neg q]
        split <;> omega
theorem can_skip (X : List Int) (z : Int) : ∀ C L : List Int, z ∉ L → can (X ++ [-z]) C L = can X C L
  | [], L, _ => by cases L <;> simp [can]
  | c :: C, [], _ => by simp [can]
  | c :: C, l :: L, h => by
    have ih := can_skip X z C L fun q => h (List.mem_cons_of_mem _ q)
    have hl : l ≠ z := fun e => h (by simp [e])
    simp only [can, ih]
    have : -l ∈ X ++ [-z] ↔ -l ∈ X := by
      rw [List.mem_append, List.mem_singleton]
      exact ⟨fun q => q.resolve_right fun e => hl (by omega), .inl⟩
    simp only [this]
theorem can_more (X : List Int) (s z : Int) (hs : 0 ≤ s) (h1 : z ∉ X) (h2 : -z ∉ X) : ∀ C L : List Int, (L.map fun z => max z (-z)).Pairwise (· < ·) → z ∉ frc X s C L → can X C L - s ≤ can (X ++ [-z]) C L
  | [], L, _, _ => by cases L <;> simp [can] <;> omega
  | c :: C, [], _, _ => by simp [can]; omega
  | c :: C, l :: L, hp, h => by
    have hc := List.pairwise_cons.1 hp
    simp only [frc] at h
    have ha := fun q => h (List.mem_append_left _ q)
    have hb := fun q => h (List.mem_append_right _ q)
    simp only [can]
    by_cases e : l = z
    · subst e
      have hn : l ∉ L := fun q => by
        have : max l (-l) < max l (-l) := hc.1 (max l (-l)) (List.mem_map.2 ⟨l, q, rfl⟩)
        omega
      rw [can_skip X l C L hn, if_neg h2, if_pos (by simp)]
      have : c ≤ s := by
        rcases Int.lt_or_le s c with q | q
        · exact absurd (by rw [if_neg (by rintro (r | r | r); exact h1 r; exact h2 r; omega)]; simp) ha
        · exact q
      omega
    · have ih := can_more X s z hs h1 h2 C L hc.2 hb
      have : -l ∈ X ++ [-z] ↔ -l ∈ X := by
        rw [List.mem_append, List.mem_singleton]
        exact ⟨fun q => q.resolve_right fun r => e (by omega), .inl⟩
      simp only [this]
      omega
theorem wsum_can (a : List Bool) (X : List Int) : ∀ C L : List Int, (∀ l ∈ L, tv a l = true ↔ -l ∉ X) → wsum a C L = can X C L
  | [], L, _ => by cases L <;> simp [wsum, can]
  | c :: C, [], _ => by simp [wsum, can]
  | c :: C, l :: L, h => by
    have ih := wsum_can a X C L fun x hx => h x (List.mem_cons_of_mem _ hx)
    have hl := h l (by simp)
    simp only [wsum, can, ih]
    by_cases q : -l ∈ X
    · rw [if_pos q, if_neg (fun e => hl.1 e q)]
    · rw [if_neg q, if_pos (hl.2 q)]
/-- A number whose first eight bits are these. -/
theorem bits_of (f : Nat → Bool) : ∃ b : Nat, b < 256 ∧ ∀ j, j < 8 → tb (b : Int) j = f j := by
  have key : ∀ f0 f1 f2 f3 f4 f5 f6 f7 : Bool, ∃ b : Nat, b < 256 ∧ tb (b : Int) 0 = f0 ∧ tb (b : Int) 1 = f1 ∧ tb (b : Int) 2 = f2 ∧ tb (b : Int) 3 = f3 ∧ tb (b : Int) 4 = f4 ∧ tb (b : Int) 5 = f5 ∧ tb (b : Int) 6 = f6 ∧ tb (b : Int) 7 = f7 := by
    intro f0 f1 f2 f3 f4 f5 f6 f7
    refine ⟨f0.toNat + 2 * f1.toNat + 4 * f2.toNat + 8 * f3.toNat + 16 * f4.toNat + 32 * f5.toNat + 64 * f6.toNat + 128 * f7.toNat, ?_, ?_⟩
    · have := f0.toNat_le; have := f1.toNat_le; have := f2.toNat_le; have := f3.toNat_le; have := f4.toNat_le; have := f5.toNat_le; have := f6.toNat_le; have := f7.toNat_le
      omega
    · revert f0 f1 f2 f3 f4 f5 f6 f7
      decide +kernel
  obtain ⟨b, h, h0, h1, h2, h3, h4, h5, h6, h7⟩ := key (f 0) (f 1) (f 2) (f 3) (f 4) (f 5) (f 6) (f 7)
  refine ⟨b, h, fun j hj => ?_⟩
  match j, hj with
  | 0, _ => exact h0
  | 1, _ => exact h1
  | 2, _ => exact h2
  | 3, _ => exact h3
  | 4, _ => exact h4
  | 5, _ => exact h5
  | 6, _ => exact h6
  | 7, _ => exact h7
/-- Literals of eight variables that don't contradict each other are true under some assignment; what else can be true there is. -/
theorem extend (X C L : List Int) (hX : ∀ x ∈ X, Lit 9 x) (hc : ∀ x ∈ X, -x ∉ X) (hp : (L.map fun z => max z (-z)).Pairwise (· < ·)) (hL : ∀ l ∈ L, Lit 9 l) :
    ∃ b : Nat, b < 256 ∧ (∀ x ∈ X, tv (tru (b : Int) 8) x = true) ∧ wsum (tru (b : Int) 8) C L = can X C L := by
  obtain ⟨b, hb, hbit⟩ := bits_of fun j => decide (((j + 1 : Nat) : Int) ∈ X ∨ (((j + 1 : Nat) : Int) ∈ L ∧ -((j + 1 : Nat) : Int) ∉ X))
  have hap := pw_apart L hp fun z hz => (hL z hz).1
  have htv : ∀ z, Lit 9 z → (z ∈ X ∨ (z ∈ L ∧ -z ∉ X)) → tv (tru (b : Int) 8) z = true := fun z hz hs => by
    obtain ⟨v, h1, h2, hv⟩ := hz.two
    obtain ⟨j, rfl⟩ : ∃ j, v = j + 1 := ⟨v - 1, by omega⟩
    rcases hv with rfl | rfl
    · rw [tv_tru_pos _ j 8 (by omega), hbit j (by omega)]
      exact decide_eq_true hs
    · rw [tv_tru_neg _ j 8 (by omega), hbit j (by omega)]
      have : ¬ (((j + 1 : Nat) : Int) ∈ X ∨ (((j + 1 : Nat) : Int) ∈ L ∧ -((j + 1 : Nat) : Int) ∉ X)) := by
        rintro (q | ⟨q1, q2⟩)
        · rcases hs with r | ⟨_, r⟩
          · exact hc _ q r
          · rw [Int.neg_neg] at r; exact r q
        · rcases hs with r | ⟨r, _⟩
          · exact q2 r
          · exact hap _ q1 r
      rw [decide_eq_false this]; rfl
  refine ⟨b, hb, fun x hx => htv x (hX x hx) (.inl hx), wsum_can _ _ _ _ fun l hl => ⟨fun h q => ?_, fun h => htv l (hL l hl) (.inr ⟨hl, h⟩)⟩⟩
  have := htv (-l) (hL l hl).neg (.inl q)
  rw [tv_not _ l (hL l hl).1, h] at this
  cases this
/-- Whether the assignment with these bits extends the literals and satisfies the constraint. -/
def Ext (lits cs ls : List Int) (k : Int) (b : Nat) : Bool := (lits.all fun z => tv (tru (b : Int) 8) z) && decide (k ≤ wsum (tru (b : Int) 8) cs ls)
theorem Ext_iff {lits cs ls : List Int} {k : Int} {b : Nat} : Ext lits cs ls k b = true ↔ (∀ z ∈ lits, tv (tru (b : Int) 8) z = true) ∧ k ≤ wsum (tru (b : Int) 8) cs ls := by
  unfold Ext
  rw [Bool.and_eq_true, List.all_eq_true, decide_eq_true_iff]
/-- Literals of eight variables that don't contradict each other. -/
def Apt (X : List Int) : Prop := (∀ x ∈ X, Lit 9 x) ∧ ∀ x ∈ X, -x ∉ X
theorem apt_of {X : List Int} (h : ∀ j, j < X.length → goodV X 8 j) : Apt X := by
  have h1 : ∀ x ∈ X, Lit 9 x := fun x hx => by
    obtain ⟨j, hj, rfl⟩ := List.mem_iff_getElem.1 hx
    have := (h j hj).1
    rw [List.getElem?_eq_getElem hj, Option.getD_some] at this
    obtain ⟨a, b, c⟩ := litB_bound this
    exact ⟨a, by omega, by omega⟩
  refine ⟨h1, fun x hx hn => ?_⟩
  have h0 := (h1 x hx).1
  obtain ⟨i, hi, rfl⟩ := List.mem_iff_getElem.1 hx
  obtain ⟨j, hj, e⟩ := List.mem_iff_getElem.1 hn
  have gi := (h i hi).2.2
  have gj := (h j hj).2.2
  rw [List.getElem?_eq_getElem hi, Option.getD_some] at gi
  rw [List.getElem?_eq_getElem hj, Option.getD_some] at gj
  rcases Nat.lt_trichotomy i j with q | q | q
  · exact gj (by rw [e, Int.neg_neg]; exact List.mem_iff_getElem.2 ⟨i, by rw [List.length_take]; omega, List.getElem_take⟩)
  · subst q; omega
  · exact gi (by rw [← e]; exact List.mem_iff_getElem.2 ⟨j, by rw [List.length_take]; omega, List.getElem_take⟩)
theorem Apt.add {X : List Int} (h : Apt X) {z : Int} (hz : Lit 9 z) (h2 : -z ∉ X) : Apt (X ++ [z]) := by
  refine ⟨fun x hx => ?_, fun x hx hn => ?_⟩
  · rcases List.mem_append.1 hx with q | q
    · exact h.1 x q
    · rw [List.mem_singleton.1 q]; exact hz
  · rcases List.mem_append.1 hx with q | q <;> rcases List.mem_append.1 hn with r | r
    · exact h.2 x q r
    · exact h2 (by rw [← List.mem_singleton.1 r, Int.neg_neg]; exact q)
    · rw [List.mem_singleton.1 q] at r; exact h2 r
    · have e1 := List.mem_singleton.1 q; have e2 := List.mem_singleton.1 r; have := hz.1; omega
theorem ok8 {cs ls : List Int} {k : Int} (h : OkL cs ls k 8) (hn : ls.length ≤ 64) : Canon (nC cs ls k) (nL cs ls k) (nK cs ls k) 8 140737488355328 ∧ ∀ a : List Bool, (nK cs ls k ≤ wsum a (nC cs ls k) (nL cs ls k)) ↔ k ≤ wsum a cs ls :=
  ⟨canon cs ls k 8 h.2.2.1 hn h.cs h.ls, mean cs ls k h.up hn⟩
/-- Force succeeds just where an assignment extends the literals and satisfies the constraint. -/
theorem force_iff {lits cs ls : List Int} {k : Int} (h : OkL cs ls k 8) (hn : ls.length ≤ 64) (hA : Apt lits) : fOk lits cs ls k = true ↔ ∃ b : Nat, b < 256 ∧ Ext lits cs ls k b = true := by
  obtain ⟨hc, hm⟩ := ok8 h hn
  unfold fOk
  rw [decide_eq_true_iff]
  constructor
  · intro q
    obtain ⟨b, h1, h2, h3⟩ := extend lits (nC cs ls k) (nL cs ls k) hA.1 hA.2 hc.vs (fun l hl => by have := hc.lit l hl; exact ⟨this.1, by omega, by omega⟩)
    exact ⟨b, h1, Ext_iff.2 ⟨h2, (hm _).1 (by omega)⟩⟩
  · rintro ⟨b, _, hb⟩
    obtain ⟨h2, h3⟩ := Ext_iff.1 hb
    have := wsum_le_can _ lits h2 (nC cs ls k) (nL cs ls k) (fun c hc' => by have := hc.pos c hc'; omega) (fun l hl => (hc.lit l hl).1)
    have := (hm _).2 h3
    omega
theorem frc_mem (X : List Int) (s z : Int) : ∀ C L : List Int, z ∈ frc X s C L → z ∉ X ∧ -z ∉ X
  | [], L, h => by cases L <;> simp [frc] at h
  | c :: C, [], h => by simp [frc] at h
  | c :: C, l :: L, h => by
    simp only [frc] at h
    rcases List.mem_append.1 h with h | h
    · split at h
      · simp at h
      · rename_i q
        have e : z = l := by simpa using h
        subst e
        exact ⟨fun r => q (.inl r), fun r => q (.inr (.inl r))⟩
    · exact frc_mem X s z C L h
/-- What Force returns are the literals that are open and true wherever an assignment extends and satisfies. -/
theorem forced_iff {lits cs ls : List Int} {k : Int} (h : OkL cs ls k 8) (hn : ls.length ≤ 64) (hA : Apt lits) (hok : fOk lits cs ls k = true) {z : Int} (hz : Lit 9 z) :
    z ∈ fRes lits cs ls k ↔ z ∉ lits ∧ -z ∉ lits ∧ ∀ b : Nat, b < 256 → Ext lits cs ls k b = true → tv (tru (b : Int) 8) z = true := by
  obtain ⟨hc, hm⟩ := ok8 h hn
  have hT : nK cs ls k ≤ can lits (nC cs ls k) (nL cs ls k) := by unfold fOk at hok; exact of_decide_eq_true hok
  unfold fRes
  rw [if_pos hok]
  constructor
  · intro q
    obtain ⟨h1, h2⟩ := frc_mem _ _ _ _ _ q
    refine ⟨h1, h2, fun b _ hb => ?_⟩
    obtain ⟨h3, h4⟩ := Ext_iff.1 hb
    cases e : tv (tru (b : Int) 8) z with
    | true => rfl
    | false =>
      have := wsum_lt_can _ lits _ z h3 e (nC cs ls k) (nL cs ls k) (fun c hc' => by have := hc.pos c hc'; omega) (fun l hl => (hc.lit l hl).1) q
      have := (hm _).2 h4
      omega
  · rintro ⟨h1, h2, h3⟩
    by_cases q : z ∈ frc lits (can lits (nC cs ls k) (nL cs ls k) - nK cs ls k) (nC cs ls k) (nL cs ls k)
    · exact q
    · have h4 := can_more lits _ z (by omega) h1 h2 (nC cs ls k) (nL cs ls k) hc.vs q
      have hA2 := hA.add hz.neg (by rw [Int.neg_neg]; exact h1)
      obtain ⟨b, h5, h6, h7⟩ := extend (lits ++ [-z]) (nC cs ls k) (nL cs ls k) hA2.1 hA2.2 hc.vs (fun l hl => by have := hc.lit l hl; exact ⟨this.1, by omega, by omega⟩)
      have h8 := h3 b h5 (Ext_iff.2 ⟨fun x hx => h6 x (List.mem_append_left _ hx), (hm _).1 (by omega)⟩)
      have h9 := h6 (-z) (by simp)
      rw [tv_not _ z hz.1, h8] at h9
      cases h9
theorem pw_len (lo : Int) : ∀ (L : List Int) (hi : Int), L.Pairwise (· < ·) → (∀ x ∈ L, lo < x ∧ x ≤ hi) → lo ≤ hi → (L.length : Int) ≤ hi - lo := by
  intro L
  induction L generalizing lo with
  | nil => intro hi _ _ h; simp; omega
  | cons x L ih =>
    intro hi hp hb h
    have hc := List.pairwise_cons.1 hp
    have hx := hb x (by simp)
    have := ih x hi hc.2 (fun y hy => ⟨hc.1 y hy, (hb y (List.mem_cons_of_mem _ hy)).2⟩) (by omega)
    rw [List.length_cons]
    omega
theorem fRes_len8 {lits cs ls : List Int} {k : Int} (h : OkL cs ls k 8) (hn : ls.length ≤ 64) : (fRes lits cs ls k).length ≤ 8 := by
  obtain ⟨hc, _⟩ := ok8 h hn
  have h1 := frc_len lits (can lits (nC cs ls k) (nL cs ls k) - nK cs ls k) (nC cs ls k) (nL cs ls k)
  have h2 := pw_len 0 _ 8 hc.vs (fun x hx => by
    obtain ⟨z, hz, rfl⟩ := List.mem_map.1 hx
    have := hc.lit z hz
    omega) (by omega)
  rw [List.length_map] at h2
  unfold fRes
  split
  · omega
  · simp
end Go.Proofs.Ytoacfjmefoiflaa
