/- Plain mathematics: one byte of a frame's checksum or payload changed; the ends of the frames. -/
import Derived.Test.YtbhojobonihccaaScanM
namespace Go.Proofs.Ytbhojobonihccaa

theorem span_bound : ∀ (l : List (List Nat)), (∀ x ∈ l, x.length ≤ 1000) → span l ≤ 1008 * l.length
  | [], _ => by rw [span_nil]; omega
  | x :: l, h => by
    have h1 := h x (List.mem_cons_self ..)
    have h2 := span_bound l (fun y hy => h y (List.mem_cons_of_mem _ hy))
    rw [span_cons, List.length_cons]; omega
theorem be4_set_ne {bs : List Nat} {i t : Nat} (h : 4 ≤ i) : be4 (bs.set i t) = be4 bs := by
  unfold be4
  rw [List.getElem?_set_ne (by omega), List.getElem?_set_ne (by omega), List.getElem?_set_ne (by omega), List.getElem?_set_ne (by omega)]
theorem be4_set {bs : List Nat} {i t : Nat} (hi : i < 4) (hl : 4 ≤ bs.length) (hb : ∀ c ∈ bs, c < 256) (hne : bs[i]?.getD 0 ≠ t) : be4 (bs.set i t) ≠ be4 bs := by
  have h : ∀ j : Nat, bs[j]?.getD 0 < 256 := fun j => by
    rcases Nat.lt_or_ge j bs.length with hj | hj
    · rw [List.getElem?_eq_getElem hj]; exact hb _ (List.getElem_mem hj)
    · rw [List.getElem?_eq_none hj]; simp
  have h0 := h 0
  have h1 := h 1
  have h2 := h 2
  have h3 := h 3
  rcases (show i = 0 ∨ i = 1 ∨ i = 2 ∨ i = 3 by omega) with rfl | rfl | rfl | rfl <;>
    (unfold be4; simp only [List.getElem?_set, show (0 : Nat) < bs.length by omega, show (1 : Nat) < bs.length by omega, show (2 : Nat) < bs.length by omega, show (3 : Nat) < bs.length by omega, if_true, Option.getD_some, Nat.reduceEqDiff, if_false]; simp; omega)
theorem spoilt_open (x rest : List Nat) (o t : Nat) (hx : x.length ≤ 65536) (hb : ∀ c ∈ x, c < 256) (ho : 4 ≤ o) (ho2 : o < 8 + x.length) (ht : t < 256) (hne : (frameOf x ++ rest)[o]?.getD 0 ≠ t) :
    openE ((frameOf x ++ rest).set o t) = 20 := by
  have hlen : ((frameOf x ++ rest).set o t).length = 8 + x.length + rest.length := by rw [List.length_set, List.length_append, frameOf_length]
  have hbe : be4 ((frameOf x ++ rest).set o t) = x.length := by rw [be4_set_ne ho, frame_be4 x rest hx]
  have hcrc := Crc.crc_lt x hb
  have key : Crc.crc (body ((frameOf x ++ rest).set o t)) ≠ be4 (((frameOf x ++ rest).set o t).drop 4) := by
    rw [body, hbe, List.drop_set, List.drop_set, frame_drop8, frame_drop4, if_neg (show ¬ o < 4 by omega)]
    by_cases h8 : o < 8
    · rw [if_pos h8, List.take_left]
      have h4 : (w4 (Crc.crc x) ++ (x ++ rest))[o - 4]?.getD 0 ≠ t := by
        rw [← frame_drop4 x rest, List.getElem?_drop, show 4 + (o - 4) = o by omega]; exact hne
      have hw : (w4 (Crc.crc x) ++ (x ++ rest))[o - 4]? = (w4 (Crc.crc x))[o - 4]? := List.getElem?_append_left (by simp [w4]; omega)
      rw [hw] at h4
      have hs : (w4 (Crc.crc x) ++ (x ++ rest)).set (o - 4) t = (w4 (Crc.crc x)).set (o - 4) t ++ (x ++ rest) := List.set_append_left _ _ (by simp [w4]; omega)
      have h5 := be4_set (bs := w4 (Crc.crc x)) (i := o - 4) (by omega) (by simp [w4]) (w4_lt _) h4
      have h6 : be4 (w4 (Crc.crc x)) = Crc.crc x := by have := be4_w4 (Crc.crc x) [] hcrc; rwa [List.append_nil] at this
      have h7 : be4 ((w4 (Crc.crc x)).set (o - 4) t ++ (x ++ rest)) = be4 ((w4 (Crc.crc x)).set (o - 4) t) := by
        unfold be4
        rw [List.getElem?_append_left (by simp [w4]), List.getElem?_append_left (by simp [w4]), List.getElem?_append_left (by simp [w4]), List.getElem?_append_left (by simp [w4])]
      rw [hs, h7]
      rw [h6] at h5
      exact fun e => h5 e.symm
    · rw [if_neg h8, be4_set_ne (show 4 ≤ o - 4 by omega), be4_w4 _ _ hcrc, List.set_append_left _ _ (show o - 8 < x.length by omega),
        List.take_append_of_le_length (by rw [List.length_set]; omega), List.take_of_length_le (by rw [List.length_set]; omega)]
      refine crc_one x hb (o - 8) t (by omega) ht ?_
      have : (frameOf x ++ rest)[o]? = x[o - 8]? := by
        have h9 : (frameOf x ++ rest)[8 + (o - 8)]? = (x ++ rest)[o - 8]? := by rw [← frame_drop8 x rest, List.getElem?_drop]
        have h10 : (x ++ rest)[o - 8]? = x[o - 8]? := List.getElem?_append_left (by omega)
        rw [show 8 + (o - 8) = o by omega, h10] at h9
        exact h9
      rw [← this]; exact hne
  unfold openE
  rw [hlen, hbe, if_neg (by omega), if_neg (by omega), if_neg (by omega), if_neg key]

theorem framesOf_split (l : List (List Nat)) (i : Nat) (h : i < l.length) : framesOf l = framesOf (l.take i) ++ (frameOf (l[i]?.getD []) ++ framesOf (l.drop (i + 1))) := by
  conv => lhs; rw [← List.take_append_drop i l, List.drop_eq_getElem_cons h]
  rw [framesOf_append, framesOf]; simp [h]
/-- One byte of the checksum or the payload of some frame changed. -/
theorem spoilt (l : List (List Nat)) (k t : Nat) (hf : Fit l) (hk : k < span l) (ht : t < 256) (hne : (framesOf l)[k]?.getD 0 ≠ t) (h4 : span (l.take (whole k l)) + 4 ≤ k) :
    scan ((framesOf l).set k t) = l.take (whole k l) ∧ openE (((framesOf l).set k t).drop (span (l.take (whole k l)))) = 20 := by
  obtain ⟨hle, hlt⟩ := whole_span l k hk
  have hend : ¬ endAt l (whole k l) ≤ k := fun e => by have := (endAt_whole l k _ hlt).1 e; omega
  rw [span_next l _ hlt] at hend
  have hx := hf (l[whole k l]?.getD []) (by rw [List.getElem?_eq_getElem hlt]; exact List.getElem_mem hlt)
  have hft : Fit (l.take (whole k l)) := fun y hy => hf y (List.mem_of_mem_take hy)
  have hlf := framesOf_length (l.take (whole k l))
  rw [framesOf_split l _ hlt] at hne ⊢
  generalize l[whole k l]?.getD [] = x at *
  generalize framesOf (l.drop (whole k l + 1)) = rest at *
  rw [List.getElem?_append_right (by omega), hlf] at hne
  have hs := spoilt_open x rest (k - span (l.take (whole k l))) t hx.1 hx.2 (by omega) (by omega) ht hne
  rw [List.set_append_right _ _ (by omega), hlf]
  constructor
  · rw [scan_frames _ _ hft, scan_bad (by rw [hs]; omega), List.append_nil]
  · conv => lhs; rw [← hlf, List.drop_left]
    rw [hlf]; exact hs
theorem endAt_last (l : List (List Nat)) (i : Nat) : endAt l i = span (l.take (i + 1)) := rfl
end Go.Proofs.Ytbhojobonihccaa
