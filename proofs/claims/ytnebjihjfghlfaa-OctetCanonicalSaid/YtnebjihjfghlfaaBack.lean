/- Plain facts for OctetCanonical: what was read is what would be written. -/
import Derived.Test.YtnebjihjfghlfaaTake
namespace Go.Proofs.Ytnebjihjfghlfaa

theorem g_zero {bs : List Nat} {i : Int} (h : Oct.gE bs i ≠ 0) : Oct.gV bs i = 0 ∧ Oct.gN bs i = 0 := by
  unfold Oct.gV Oct.gN
  rw [if_neg h, if_neg h]
  exact ⟨rfl, rfl⟩
theorem g_back {bs : List Nat} {i : Int} (hb : ∀ c ∈ bs, c < 256) (h : Oct.gE bs i = 0) : (bs.drop i.toNat).take (Oct.gN bs i - i.toNat) = Oct.enc (Oct.gV bs i) := by
  have hin : ¬ (i < 0 ∨ (bs.length : Int) < i) := by
    intro ho
    rw [Oct.gE, if_pos ho] at h
    cases h
  obtain ⟨a, rfl⟩ := Int.eq_ofNat_of_zero_le (show 0 ≤ i by omega)
  have hs : (Oct.scan 0 0 (bs.drop a)).1 = 0 := by rw [Oct.gE, if_neg hin, Int.toNat_natCast] at h; exact h
  obtain ⟨v, m, hvm⟩ : ∃ v m, Oct.scan 0 0 (bs.drop a) = (0, v, m) := ⟨_, _, Prod.ext hs rfl⟩
  obtain ⟨u, k, hv, hk, hk1, hkl, hg, hu, _⟩ := Oct.scan_back _ 0 0 v m (by omega) (fun c hc => hb c (List.mem_of_mem_drop hc)) hvm
  obtain ⟨_, e2, e3⟩ := g_good (bs := bs) (k := a) (by omega) hvm
  have hvu : v = u := by rw [hv]; simp
  have hmk : m = k := by omega
  rw [e2, e3, Int.toNat_natCast, Nat.add_sub_cancel_left, Oct.enc, Oct.zz_unzz, hvu, hmk]
  exact hg.symm
theorem sb_str {l : List Nat} (h : ∀ c ∈ l, c < 256) : sb (str l) = l := by
  unfold sb str
  rw [List.map_map]
  have : ∀ c ∈ l, (UInt8.toNat ∘ fun c => UInt8.ofNat c) c = id c := by
    intro c hc
    have := h c hc
    simp
    omega
  rw [List.map_congr_left this, List.map_id]
theorem str_size (l : List Nat) : (str l).size = l.length := by
  unfold str
  simp [ByteArray.size]
/-- Two cuts that follow one another. -/
theorem cut_two (bs : List Nat) (a b c : Nat) (h1 : a ≤ b) (h2 : b ≤ c) : (bs.drop a).take (c - a) = (bs.drop a).take (b - a) ++ (bs.drop b).take (c - b) := by
  have e1 : c - a = (b - a) + (c - b) := by omega
  have e2 : bs.drop b = (bs.drop a).drop (b - a) := by rw [List.drop_drop]; congr 1; omega
  rw [e1, e2, List.take_add]
/-- A list that was read is what would be written. -/
theorem many_back {bs : List Nat} (hb : ∀ c ∈ bs, c < 256) : ∀ (n p q : Nat) (acc zs : List Int), p ≤ bs.length → manyA n bs p acc = (0, q, zs) →
    ∃ ys, zs = acc ++ ys ∧ ys.length = n ∧ p ≤ q ∧ q ≤ bs.length ∧ (∀ z ∈ ys, Wf z) ∧ (bs.drop p).take (q - p) = ys.flatMap Oct.enc := by
  intro n
  induction n with
  | zero =>
    intro p q acc zs hp h
    simp only [manyA, Prod.mk.injEq, true_and] at h
    obtain ⟨rfl, rfl⟩ := h
    exact ⟨[], by simp, rfl, Nat.le_refl _, hp, by simp, by simp⟩
  | succ n ih =>
    intro p q acc zs hp h
    rw [manyA] at h
    by_cases he : Oct.gE bs (p : Int) = 0
    · rw [if_neg (by omega)] at h
      have hbd := g_bd hb he
      obtain ⟨ys, hz, hl, hpq, hq, hw, hcut⟩ := ih _ q _ zs hbd.2.1 h
      refine ⟨Oct.gV bs (p : Int) :: ys, by rw [hz]; simp, by simp [hl], by omega, hq, ?_, ?_⟩
      · intro z hzm
        rcases List.mem_cons.1 hzm with rfl | hzm
        · exact hbd.2.2.2.1
        · exact hw z hzm
      · have hg := g_back hb he
        rw [Int.toNat_natCast] at hg
        rw [cut_two bs p (Oct.gN bs (p : Int)) q (by omega) hpq, hg, hcut, List.flatMap_cons]
    · rw [if_pos he] at h
      simp only [Prod.mk.injEq] at h
      omega
theorem h_good {bs : List Nat} {i most : Int} (h : hE bs i most = 0) : Oct.gE bs i = 0 ∧ 0 ≤ Oct.gV bs i ∧ Oct.gV bs i ≤ most := by
  unfold hE at h
  by_cases h1 : Oct.gE bs i ≠ 0
  · rw [if_pos h1] at h; exact absurd h h1
  · rw [if_neg h1] at h
    by_cases h2 : Oct.gV bs i < 0
    · rw [if_pos h2] at h; omega
    · rw [if_neg h2] at h
      by_cases h3 : most < Oct.gV bs i
      · rw [if_pos h3] at h; omega
      · exact ⟨by omega, by omega, by omega⟩
/-- What a reading of a text answers where it succeeds. -/
theorem text_back {bs : List Nat} {i most : Int} (hb : ∀ c ∈ bs, c < 256) (h : tE bs i most = 0) :
    Oct.gE bs i = 0 ∧ Oct.gN bs i ≤ tN bs i most ∧ tN bs i most ≤ bs.length ∧ ((str (tB bs i most)).size : Int) ≤ most ∧ (bs.drop i.toNat).take (tN bs i most - i.toNat) = encText (str (tB bs i most)) := by
  have hh : hE bs i most = 0 := by
    by_cases h1 : hE bs i most ≠ 0
    · unfold tE at h; rw [if_pos h1] at h; exact absurd h h1
    · omega
  obtain ⟨g1, g2, g3⟩ := h_good hh
  have hbd := g_bd hb g1
  have hroom : Oct.gV bs i ≤ (bs.length : Int) - (Oct.gN bs i : Int) := by
    unfold tE at h
    rw [if_neg (by omega)] at h
    by_cases h3 : (bs.length : Int) - (Oct.gN bs i : Int) < Oct.gV bs i
    · rw [if_pos h3] at h; omega
    · omega
  have eN : tN bs i most = Oct.gN bs i + (Oct.gV bs i).toNat := by rw [tN, if_pos h]
  have eB : tB bs i most = (bs.drop (Oct.gN bs i)).take (Oct.gV bs i).toNat := by rw [tB, if_pos h]
  have hl : (tB bs i most).length = (Oct.gV bs i).toNat := by rw [eB, List.length_take, List.length_drop]; omega
  have hby : ∀ c ∈ tB bs i most, c < 256 := by rw [eB]; exact fun c hc => hb c (List.mem_of_mem_drop (List.mem_of_mem_take hc))
  refine ⟨g1, by omega, by omega, by rw [str_size, hl]; omega, ?_⟩
  rw [encText, sb_str hby, str_size, hl, Int.toNat_of_nonneg g2, cut_two bs i.toNat (Oct.gN bs i) (tN bs i most) (by omega) (by omega), g_back hb g1, eN, Nat.add_sub_cancel_left, ← eB]
/-- What a reading of a list answers where it succeeds. -/
theorem ints_back {bs : List Nat} {i most : Int} {q : Nat} {zs : List Int} (hb : ∀ c ∈ bs, c < 256) (h : iR bs i most = (0, q, zs)) :
    Oct.gE bs i = 0 ∧ Oct.gN bs i ≤ q ∧ q ≤ bs.length ∧ (zs.length : Int) ≤ most ∧ (∀ z ∈ zs, Wf z) ∧ (bs.drop i.toNat).take (q - i.toNat) = encInts zs := by
  by_cases h1 : hE bs i most ≠ 0
  · rw [iR, if_pos h1] at h
    simp only [Prod.mk.injEq] at h
    omega
  · have hh : hE bs i most = 0 := by omega
    obtain ⟨g1, g2, g3⟩ := h_good hh
    have hbd := g_bd hb g1
    rw [iR_good hh] at h
    obtain ⟨ys, hz, hl, hpq, hq, hw, hcut⟩ := many_back hb _ _ q [] zs hbd.2.1 h
    rw [List.nil_append] at hz
    subst hz
    refine ⟨g1, hpq, hq, by omega, hw, ?_⟩
    rw [encInts, hl, Int.toNat_of_nonneg g2, cut_two bs i.toNat (Oct.gN bs i) q (by omega) hpq, g_back hb g1, hcut]
end Go.Proofs.Ytnebjihjfghlfaa
