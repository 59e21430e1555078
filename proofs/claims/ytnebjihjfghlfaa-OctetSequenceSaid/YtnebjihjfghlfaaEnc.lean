/- Plain facts on what was written and is read again: whole, or cut short. -/
import Derived.Test.YtnebjihjfghlfaaLaw
namespace Go.Proofs.Ytnebjihjfghlfaa

theorem scan_enc (z : Int) (hz : Wf z) (rest : List Nat) : Oct.scan 0 0 (Oct.enc z ++ rest) = (0, Oct.zz z, (Oct.enc z).length) := by
  have h := Oct.scan_grp 9 0 (Oct.zz z) 0 rest (by omega) (.inr rfl) (by rw [Oct.p9]; have := Oct.zz_lt hz.1 hz.2; omega)
  have e : Oct.enc z = Oct.grp 9 (Oct.zz z) := rfl
  rw [e, h]
  simp
theorem g_enc (pre rest : List Nat) (z : Int) (hz : Wf z) : Oct.gE (pre ++ (Oct.enc z ++ rest)) (pre.length : Int) = 0 ∧ Oct.gV (pre ++ (Oct.enc z ++ rest)) (pre.length : Int) = z ∧ Oct.gN (pre ++ (Oct.enc z ++ rest)) (pre.length : Int) = pre.length + (Oct.enc z).length := by
  obtain ⟨h1, h2, h3⟩ := g_good (bs := pre ++ (Oct.enc z ++ rest)) (k := pre.length) (v := Oct.zz z) (m := (Oct.enc z).length) (by rw [List.length_append]; omega) (by rw [List.drop_left]; exact scan_enc z hz rest)
  exact ⟨h1, by rw [h2, Oct.unzz_zz], h3⟩
theorem g_cut (pre : List Nat) (z : Int) (j : Nat) (hj : j < (Oct.enc z).length) : Oct.gE (pre ++ (Oct.enc z).take j) (pre.length : Int) = 10 := by
  exact (g_bad (bs := pre ++ (Oct.enc z).take j) (k := pre.length) (e := 10) (by rw [List.length_append]; omega) (by decide) (by rw [List.drop_left]; exact Oct.scan_short 9 0 (Oct.zz z) 0 j (by omega) hj)).1

/-- A list that was written is read again. -/
theorem many_enc (zs : List Int) : ∀ (pre rest : List Nat) (acc : List Int), (∀ z ∈ zs, Wf z) → manyA zs.length (pre ++ (zs.flatMap Oct.enc ++ rest)) pre.length acc = (0, pre.length + (zs.flatMap Oct.enc).length, acc ++ zs) := by
  induction zs with
  | nil => intro pre rest acc _; simp [manyA]
  | cons z zs ih =>
    intro pre rest acc hz
    have e : pre ++ ((z :: zs).flatMap Oct.enc ++ rest) = pre ++ (Oct.enc z ++ (zs.flatMap Oct.enc ++ rest)) := by simp [List.flatMap_cons]
    have e2 : pre ++ (Oct.enc z ++ (zs.flatMap Oct.enc ++ rest)) = (pre ++ Oct.enc z) ++ (zs.flatMap Oct.enc ++ rest) := by simp
    obtain ⟨h1, h2, h3⟩ := g_enc pre (zs.flatMap Oct.enc ++ rest) z (hz z (by simp))
    rw [e, List.length_cons, manyA, h1, h2, h3, if_neg (by simp), e2]
    have := ih (pre ++ Oct.enc z) rest (acc ++ [z]) (fun x hx => hz x (by simp [hx]))
    rw [List.length_append] at this
    rw [this]
    simp only [List.flatMap_cons, List.length_append, List.append_assoc, List.cons_append, List.nil_append, Nat.add_assoc]
/-- A list whose writing is cut short is read as too short. -/
theorem many_cut (zs : List Int) : ∀ (pre : List Nat) (acc : List Int) (r : Nat), (∀ z ∈ zs, Wf z) → r < (zs.flatMap Oct.enc).length → manyA zs.length (pre ++ (zs.flatMap Oct.enc).take r) pre.length acc = (10, 0, []) := by
  induction zs with
  | nil => intro pre acc r _ h; simp at h
  | cons z zs ih =>
    intro pre acc r hz hr
    rw [List.flatMap_cons] at hr ⊢
    rw [List.length_append] at hr
    by_cases h : r < (Oct.enc z).length
    · have e : (Oct.enc z ++ zs.flatMap Oct.enc).take r = (Oct.enc z).take r := by rw [List.take_append_of_le_length (by omega)]
      rw [e, List.length_cons, manyA, g_cut pre z r h, if_pos (by decide)]
    · have e : (Oct.enc z ++ zs.flatMap Oct.enc).take r = Oct.enc z ++ (zs.flatMap Oct.enc).take (r - (Oct.enc z).length) := by
        rw [List.take_append]
        rw [List.take_of_length_le (by omega)]
      obtain ⟨h1, h2, h3⟩ := g_enc pre ((zs.flatMap Oct.enc).take (r - (Oct.enc z).length)) z (hz z (by simp))
      rw [e, List.length_cons, manyA, h1, h2, h3, if_neg (by simp)]
      have := ih (pre ++ Oct.enc z) (acc ++ [z]) (r - (Oct.enc z).length) (fun x hx => hz x (by simp [hx])) (by omega)
      rw [List.length_append, List.append_assoc] at this
      exact this
theorem str_sb (t : ByteArray) : str (sb t) = t := by
  unfold str sb
  rw [List.map_map]
  have e : (fun c => UInt8.ofNat c) ∘ UInt8.toNat = id := by funext x; simp
  rw [e, List.map_id]
/-- A text that was written is read again. -/
theorem text_enc (pre rest : List Nat) (t : ByteArray) (ht : t.size ≤ 9223372036854775807) : textAns (pre ++ (encText t ++ rest)) (pre.length : Int) (t.size : Int) = .returned (.tuple #[.string t, .int .i64 ((pre.length + (encText t).length : Nat) : Int), .int .i64 0]) := by
  have e : pre ++ (encText t ++ rest) = pre ++ (Oct.enc (t.size : Int) ++ (sb t ++ rest)) := by simp [encText]
  obtain ⟨h1, h2, h3⟩ := g_enc pre (sb t ++ rest) (t.size : Int) (wf_nat _ ht)
  rw [e]
  have hT : tE (pre ++ (Oct.enc (t.size : Int) ++ (sb t ++ rest))) (pre.length : Int) (t.size : Int) = 0 := by
    rw [tE, hE, h1, h2, h3]
    simp only [List.length_append, sb_length]
    rw [if_neg (by first | (simp; done) | (simp; omega)), if_neg (by omega)]
  rw [textAns_good hT, h2, h3, Int.toNat_natCast]
  have e2 : (pre ++ (Oct.enc (t.size : Int) ++ (sb t ++ rest))).drop (pre.length + (Oct.enc (t.size : Int)).length) = sb t ++ rest := by
    rw [← List.append_assoc, ← List.length_append, List.drop_left]
  have e3 : (sb t ++ rest).take t.size = sb t := by rw [← sb_length t, List.take_left]
  rw [e2, e3, str_sb]
  simp only [encText, List.length_append, sb_length, Nat.add_assoc]
theorem text_cut (t : ByteArray) (j : Nat) (ht : t.size ≤ 9223372036854775807) (hj : j < (encText t).length) : textAns ((encText t).take j) 0 (t.size : Int) = .returned (.tuple #[.string ⟨#[]⟩, .int .i64 0, .int .i64 10]) := by
  refine textAns_bad (x := 10) ?_ (by decide)
  unfold encText at hj ⊢
  rw [List.length_append, sb_length] at hj
  by_cases h : j < (Oct.enc (t.size : Int)).length
  · rw [List.take_append_of_le_length (by omega), tE, hE]
    have := g_cut [] (t.size : Int) j h
    simp only [List.nil_append, List.length_nil] at this
    have h2 : Oct.gE ((Oct.enc (t.size : Int)).take j) 0 = 10 := this
    rw [h2]; simp
  · have e : (Oct.enc (t.size : Int) ++ sb t).take j = Oct.enc (t.size : Int) ++ (sb t).take (j - (Oct.enc (t.size : Int)).length) := by
      rw [List.take_append, List.take_of_length_le (by omega)]
    obtain ⟨h1, h2, h3⟩ := g_enc [] ((sb t).take (j - (Oct.enc (t.size : Int)).length)) (t.size : Int) (wf_nat _ ht)
    simp only [List.nil_append, List.length_nil, Nat.zero_add] at h1 h2 h3
    rw [e, tE, hE]
    have h1' : Oct.gE (Oct.enc (t.size : Int) ++ (sb t).take (j - (Oct.enc (t.size : Int)).length)) 0 = 0 := h1
    have h2' : Oct.gV (Oct.enc (t.size : Int) ++ (sb t).take (j - (Oct.enc (t.size : Int)).length)) 0 = (t.size : Int) := h2
    have h3' : Oct.gN (Oct.enc (t.size : Int) ++ (sb t).take (j - (Oct.enc (t.size : Int)).length)) 0 = (Oct.enc (t.size : Int)).length := h3
    rw [h1', h2', h3']
    simp only [List.length_append, List.length_take, sb_length]
    rw [if_neg (by first | (simp; done) | (simp; omega)), if_pos (by omega)]
theorem ints_enc (pre rest : List Nat) (zs : List Int) (hz : ∀ z ∈ zs, Wf z) (hl : zs.length ≤ 9223372036854775807) (most : Int) (hm : (zs.length : Int) ≤ most) : iR (pre ++ (encInts zs ++ rest)) (pre.length : Int) most = (0, pre.length + (encInts zs).length, zs) := by
  have e : pre ++ (encInts zs ++ rest) = pre ++ (Oct.enc (zs.length : Int) ++ (zs.flatMap Oct.enc ++ rest)) := by simp [encInts]
  obtain ⟨h1, h2, h3⟩ := g_enc pre (zs.flatMap Oct.enc ++ rest) (zs.length : Int) (wf_nat _ hl)
  rw [e]
  have hH : hE (pre ++ (Oct.enc (zs.length : Int) ++ (zs.flatMap Oct.enc ++ rest))) (pre.length : Int) most = 0 := by
    rw [hE, h1, h2, if_neg (by simp), if_neg (by omega), if_neg (by omega)]
  rw [iR_good hH, h2, h3, Int.toNat_natCast]
  have := many_enc zs (pre ++ Oct.enc (zs.length : Int)) rest [] hz
  rw [List.length_append, List.append_assoc, List.nil_append] at this
  rw [this]
  simp only [encInts, List.length_append, Nat.add_assoc]
theorem ints_cut (zs : List Int) (j : Nat) (hz : ∀ z ∈ zs, Wf z) (hl : zs.length ≤ 9223372036854775807) (hj : j < (encInts zs).length) : iR ((encInts zs).take j) 0 (zs.length : Int) = (10, 0, []) := by
  unfold encInts at hj ⊢
  rw [List.length_append] at hj
  by_cases h : j < (Oct.enc (zs.length : Int)).length
  · rw [List.take_append_of_le_length (by omega)]
    have h2 : Oct.gE ((Oct.enc (zs.length : Int)).take j) 0 = 10 := by
      have := g_cut [] (zs.length : Int) j h
      simp only [List.nil_append, List.length_nil] at this
      exact this
    have h3 : hE ((Oct.enc (zs.length : Int)).take j) 0 (zs.length : Int) = 10 := by rw [hE, h2]; simp
    rw [iR, h3, if_pos (by decide)]
  · have e : (Oct.enc (zs.length : Int) ++ zs.flatMap Oct.enc).take j = Oct.enc (zs.length : Int) ++ (zs.flatMap Oct.enc).take (j - (Oct.enc (zs.length : Int)).length) := by
      rw [List.take_append, List.take_of_length_le (by omega)]
    obtain ⟨h1, h2, h3⟩ := g_enc [] ((zs.flatMap Oct.enc).take (j - (Oct.enc (zs.length : Int)).length)) (zs.length : Int) (wf_nat _ hl)
    simp only [List.nil_append, List.length_nil, Nat.zero_add] at h1 h2 h3
    have h1' : Oct.gE (Oct.enc (zs.length : Int) ++ (zs.flatMap Oct.enc).take (j - (Oct.enc (zs.length : Int)).length)) 0 = 0 := h1
    have h2' : Oct.gV (Oct.enc (zs.length : Int) ++ (zs.flatMap Oct.enc).take (j - (Oct.enc (zs.length : Int)).length)) 0 = (zs.length : Int) := h2
    have h3' : Oct.gN (Oct.enc (zs.length : Int) ++ (zs.flatMap Oct.enc).take (j - (Oct.enc (zs.length : Int)).length)) 0 = (Oct.enc (zs.length : Int)).length := h3
    rw [e]
    have hH : hE (Oct.enc (zs.length : Int) ++ (zs.flatMap Oct.enc).take (j - (Oct.enc (zs.length : Int)).length)) 0 (zs.length : Int) = 0 := by
      rw [hE, h1', h2', if_neg (by simp), if_neg (by omega), if_neg (by omega)]
    rw [iR_good hH, h2', h3', Int.toNat_natCast]
    exact many_cut zs (Oct.enc (zs.length : Int)) [] _ hz (by omega)
end Go.Proofs.Ytnebjihjfghlfaa
