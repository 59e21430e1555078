/- Plain mathematics of scanning: which payloads a list of bytes holds in complete frames at its head. -/
import Derived.Test.YtbhojobonihccaaOne
import Derived.Test.YtbhojobonihccaaBits
namespace Go.Proofs.Ytbhojobonihccaa

def scan (bs : List Nat) : List (List Nat) := if h : openE bs = 0 then body bs :: scan (bs.drop (8 + be4 bs)) else []
termination_by bs.length
decreasing_by
  have := openE_zero h
  rw [List.length_drop]; omega
theorem scan_good {bs : List Nat} (h : openE bs = 0) : scan bs = body bs :: scan (bs.drop (8 + be4 bs)) := by rw [scan, dif_pos h]
theorem scan_bad {bs : List Nat} (h : openE bs ≠ 0) : scan bs = [] := by rw [scan, dif_neg h]
/-- How many bytes the frames of these payloads take. -/
def span : List (List Nat) → Nat
  | [] => 0
  | x :: l => 8 + x.length + span l
theorem span_nil : span [] = 0 := rfl
theorem span_cons (x : List Nat) (l : List (List Nat)) : span (x :: l) = 8 + x.length + span l := rfl
theorem span_append : ∀ (l m : List (List Nat)), span (l ++ m) = span l + span m
  | [], m => by rw [List.nil_append, span_nil, Nat.zero_add]
  | x :: l, m => by rw [List.cons_append, span_cons, span_cons, span_append l m]; omega
theorem span_snoc (l : List (List Nat)) (x : List Nat) : span (l ++ [x]) = span l + (8 + x.length) := by
  rw [span_append, span_cons, span_nil, Nat.add_zero]
theorem eight_length : ∀ (l : List (List Nat)), 8 * l.length ≤ span l
  | [] => by rw [span_nil, List.length_nil]; omega
  | x :: l => by rw [span_cons, List.length_cons]; have := eight_length l; omega
theorem scan_span_le : ∀ (n : Nat) (bs : List Nat), bs.length ≤ n → span (scan bs) ≤ bs.length
  | 0, bs, h => by
    rw [scan_bad (by intro h0; have := openE_zero h0; omega), span_nil]; omega
  | n + 1, bs, h => by
    by_cases hE : openE bs = 0
    · have h1 := openE_zero hE
      have h2 := scan_span_le n (bs.drop (8 + be4 bs)) (by rw [List.length_drop]; omega)
      rw [scan_good hE, span_cons, body_length h1.2.2.1]
      rw [List.length_drop] at h2; omega
    · rw [scan_bad hE, span_nil]; omega
theorem scan_le (bs : List Nat) : span (scan bs) ≤ bs.length := scan_span_le _ bs (Nat.le_refl _)

/-- Payloads that have frames. -/
def Fit (l : List (List Nat)) : Prop := ∀ x ∈ l, x.length ≤ 65536 ∧ ∀ c ∈ x, c < 256
theorem Fit.head {x : List Nat} {l : List (List Nat)} (h : Fit (x :: l)) : x.length ≤ 65536 ∧ ∀ c ∈ x, c < 256 := h x (List.mem_cons_self ..)
theorem Fit.tail {x : List Nat} {l : List (List Nat)} (h : Fit (x :: l)) : Fit l := fun y hy => h y (List.mem_cons_of_mem _ hy)
def framesOf : List (List Nat) → List Nat
  | [] => []
  | x :: l => frameOf x ++ framesOf l
theorem framesOf_snoc : ∀ (l : List (List Nat)) (x : List Nat), framesOf (l ++ [x]) = framesOf l ++ frameOf x
  | [], x => by simp [framesOf]
  | y :: l, x => by rw [List.cons_append, framesOf, framesOf, framesOf_snoc l x, List.append_assoc]
theorem framesOf_append : ∀ (l m : List (List Nat)), framesOf (l ++ m) = framesOf l ++ framesOf m
  | [], m => by simp [framesOf]
  | y :: l, m => by rw [List.cons_append, framesOf, framesOf, framesOf_append l m, List.append_assoc]
theorem frameOf_length (x : List Nat) : (frameOf x).length = 8 + x.length := by simp [frameOf, w4]; omega
theorem framesOf_length : ∀ (l : List (List Nat)), (framesOf l).length = span l
  | [] => rfl
  | x :: l => by rw [framesOf, List.length_append, frameOf_length, framesOf_length l, span_cons]
theorem be4_w4 (n : Nat) (rest : List Nat) (h : n < 4294967296) : be4 (w4 n ++ rest) = n := by
  simp [be4, w4]; omega
theorem frame_be4 (x rest : List Nat) (hx : x.length ≤ 65536) : be4 (frameOf x ++ rest) = x.length := by
  rw [frameOf, List.append_assoc, List.append_assoc]
  exact be4_w4 _ _ (by omega)
theorem frame_drop8 (x rest : List Nat) : (frameOf x ++ rest).drop 8 = x ++ rest := by simp [frameOf, w4]
theorem frame_drop4 (x rest : List Nat) : (frameOf x ++ rest).drop 4 = w4 (Crc.crc x) ++ (x ++ rest) := by simp [frameOf, w4]
theorem frame_body (x rest : List Nat) (hx : x.length ≤ 65536) : body (frameOf x ++ rest) = x := by
  rw [body, frame_be4 x rest hx, frame_drop8, List.take_left]
theorem frame_open (x rest : List Nat) (hx : x.length ≤ 65536) (hb : ∀ c ∈ x, c < 256) : openE (frameOf x ++ rest) = 0 := by
  unfold openE
  rw [frame_be4 x rest hx, frame_body x rest hx, frame_drop4, be4_w4 _ _ (Crc.crc_lt x hb), List.length_append, frameOf_length,
    if_neg (by omega), if_neg (by omega), if_neg (by omega), if_pos rfl]
theorem frame_rest (x rest : List Nat) (hx : x.length ≤ 65536) : (frameOf x ++ rest).drop (8 + be4 (frameOf x ++ rest)) = rest := by
  rw [frame_be4 x rest hx, ← frameOf_length, List.drop_left]
theorem scan_frames : ∀ (l : List (List Nat)) (rest : List Nat), Fit l → scan (framesOf l ++ rest) = l ++ scan rest
  | [], rest, _ => by simp [framesOf]
  | x :: l, rest, h => by
    have hx := h.head
    rw [framesOf, List.append_assoc, scan_good (frame_open x _ hx.1 hx.2), frame_body x _ hx.1, frame_rest x _ hx.1, scan_frames l rest h.tail, List.cons_append]
theorem scan_nil : scan [] = [] := scan_bad (by simp [openE])
theorem scan_all (l : List (List Nat)) (h : Fit l) : scan (framesOf l) = l := by
  have := scan_frames l [] h
  rwa [List.append_nil, scan_nil, List.append_nil] at this

/-- A list of bytes that opens is a frame and a rest. -/
theorem open_split {bs : List Nat} (hb : ∀ c ∈ bs, c < 256) (h : openE bs = 0) : bs = frameOf (body bs) ++ bs.drop (8 + be4 bs) ∧ (body bs).length ≤ 65536 ∧ ∀ c ∈ body bs, c < 256 := by
  have h1 := openE_zero h
  refine ⟨?_, by rw [body_length h1.2.2.1]; exact h1.2.1, fun c hc => hb c (List.mem_of_mem_drop (List.mem_of_mem_take hc))⟩
  rw [reframed bs hb h, List.take_append_drop]
theorem scan_join : ∀ (n : Nat) (a b : List Nat), a.length ≤ n → (∀ c ∈ a, c < 256) → span (scan a) = a.length → scan (a ++ b) = scan a ++ scan b
  | n, a, b, hn, ha, hs => by
    by_cases hE : openE a = 0
    · have h1 := openE_zero hE
      obtain ⟨e, hx, hxb⟩ := open_split ha hE
      cases n with
      | zero => omega
      | succ n =>
        have hsp := hs
        rw [scan_good hE, span_cons, body_length h1.2.2.1] at hsp
        have ih := scan_join n (a.drop (8 + be4 a)) b (by rw [List.length_drop]; omega) (fun c hc => ha c (List.mem_of_mem_drop hc)) (by rw [List.length_drop]; omega)
        rw [scan_good hE, List.cons_append, ← ih]
        have e2 : a ++ b = frameOf (body a) ++ (a.drop (8 + be4 a) ++ b) := by rw [← List.append_assoc, ← e]
        rw [e2, scan_good (frame_open _ _ hx hxb), frame_body _ _ hx, frame_rest _ _ hx]
    · rw [scan_bad hE, span_nil] at hs
      have : a = [] := List.eq_nil_of_length_eq_zero hs.symm
      subst this
      rw [scan_nil, List.nil_append, List.nil_append]

/-! ### Cut anywhere -/
/-- How many of the frames end within the first k bytes. -/
def whole : Nat → List (List Nat) → Nat
  | _, [] => 0
  | k, x :: l => if 8 + x.length ≤ k then whole (k - (8 + x.length)) l + 1 else 0
theorem whole_le : ∀ (k : Nat) (l : List (List Nat)), whole k l ≤ l.length
  | _, [] => by simp [whole]
  | k, x :: l => by
    unfold whole; split
    · have := whole_le (k - (8 + x.length)) l; rw [List.length_cons]; omega
    · omega
theorem cut_frame (x rest : List Nat) (k : Nat) (hx : x.length ≤ 65536) (hk : k < 8 + x.length) : openE ((frameOf x ++ rest).take k) ≠ 0 := by
  unfold openE
  have hl : ((frameOf x ++ rest).take k).length = k := by rw [List.length_take, List.length_append, frameOf_length]; omega
  by_cases h8 : k < 8
  · rw [hl, if_pos h8]; omega
  · have hb : be4 ((frameOf x ++ rest).take k) = x.length := by
      rw [← frame_be4 x rest hx]
      unfold be4
      rw [List.getElem?_take_of_lt (by omega), List.getElem?_take_of_lt (by omega), List.getElem?_take_of_lt (by omega), List.getElem?_take_of_lt (by omega)]
    rw [hl, hb, if_neg h8, if_neg (by omega), if_pos (by omega)]; omega
theorem scan_cut : ∀ (l : List (List Nat)) (k : Nat), Fit l → scan ((framesOf l).take k) = l.take (whole k l)
  | [], k, _ => by simp [framesOf, scan_nil]
  | x :: l, k, h => by
    have hx := h.head
    rw [framesOf, whole]
    by_cases hk : 8 + x.length ≤ k
    · rw [if_pos hk, List.take_succ_cons, ← scan_cut l (k - (8 + x.length)) h.tail, List.take_append, List.take_of_length_le (by rw [frameOf_length]; exact hk), frameOf_length,
        scan_good (frame_open x _ hx.1 hx.2), frame_body x _ hx.1, frame_rest x _ hx.1]
    · rw [if_neg hk, List.take_zero, scan_bad (cut_frame x _ k hx.1 (by omega))]
/-- The end of frame i. -/
def endAt (l : List (List Nat)) (i : Nat) : Nat := span (l.take (i + 1))
theorem endAt_cons (x : List Nat) (l : List (List Nat)) (i : Nat) : endAt (x :: l) (i + 1) = 8 + x.length + endAt l i := by
  unfold endAt; rw [List.take_succ_cons, span_cons]
theorem endAt_whole : ∀ (l : List (List Nat)) (k i : Nat), i < l.length → (endAt l i ≤ k ↔ i < whole k l)
  | [], k, i, h => by simp at h
  | x :: l, k, 0, _ => by
    rw [show endAt (x :: l) 0 = 8 + x.length by simp [endAt, span], whole]
    split <;> omega
  | x :: l, k, i + 1, h => by
    have ih := endAt_whole l (k - (8 + x.length)) i (by simpa using h)
    rw [endAt_cons, whole]
    split
    · omega
    · omega
theorem take_next {α : Type} (l : List α) (i : Nat) (d : α) (h : i < l.length) : l.take (i + 1) = l.take i ++ [l[i]?.getD d] := by
  rw [List.take_succ_eq_append_getElem h]; simp [h]
theorem span_next (l : List (List Nat)) (i : Nat) (h : i < l.length) : endAt l i = span (l.take i) + (8 + (l[i]?.getD []).length) := by
  unfold endAt; rw [take_next l i [] h, span_snoc]
theorem whole_span (l : List (List Nat)) (k : Nat) (h : k < span l) : span (l.take (whole k l)) ≤ k ∧ whole k l < l.length := by
  have hw := whole_le k l
  have hlt : whole k l < l.length := by
    rcases Nat.lt_or_ge (whole k l) l.length with h1 | h1
    · exact h1
    · exfalso
      have e : whole k l = l.length := by omega
      rcases Nat.eq_zero_or_pos l.length with h0 | h0
      · rw [List.eq_nil_of_length_eq_zero h0, span_nil] at h; omega
      · have h2 := (endAt_whole l k (l.length - 1) (by omega)).2 (by omega)
        unfold endAt at h2
        rw [show l.length - 1 + 1 = l.length by omega, List.take_length] at h2; omega
  refine ⟨?_, hlt⟩
  rcases Nat.eq_zero_or_pos (whole k l) with h0 | h0
  · rw [h0, List.take_zero, span_nil]; omega
  · have h2 := (endAt_whole l k (whole k l - 1) (by omega)).2 (by omega)
    unfold endAt at h2
    rwa [show whole k l - 1 + 1 = whole k l by omega] at h2

/-! ### One byte changed -/
theorem crc_one (x : List Nat) (hx : ∀ c ∈ x, c < 256) (o t : Nat) (ho : o < x.length) (ht : t < 256) (hne : x[o]?.getD 0 ≠ t) : Crc.crc (x.set o t) ≠ Crc.crc x := by
  have hb : x[o]?.getD 0 < 256 := by rw [List.getElem?_eq_getElem ho]; exact hx _ (List.getElem_mem ho)
  have hd : x[o]?.getD 0 ^^^ t < 256 := Crc.xor_lt8 hb ht
  have hnz : x[o]?.getD 0 ^^^ t ≠ 0 := by
    intro h0
    apply hne
    have : x[o]?.getD 0 ^^^ t ^^^ t = 0 ^^^ t := by rw [h0]
    rwa [Nat.xor_assoc, Nat.xor_self, Nat.xor_zero, Nat.zero_xor] at this
  have hburst := Crc.crc_burst x o (x[o]?.getD 0 ^^^ t) 1 (x.length - o - 1) (by omega) (by omega)
  have hset : Crc.xors x (Crc.delta o (x[o]?.getD 0 ^^^ t) 1 (x.length - o - 1)) = x.set o t := by
    have h0 := Crc.xors_next x o (x[o]?.getD 0 ^^^ t) 0 (x.length - o - 1) (by omega)
    rw [Crc.xors_none x o _ _ (by omega)] at h0
    rw [← h0.1]
    simp [Nat.mod_eq_of_lt hd, ← Nat.xor_assoc]
  rw [hset] at hburst
  intro h
  have := hburst.1 h
  rw [Nat.pow_one, Nat.mod_eq_of_lt hd] at this
  exact hnz this
end Go.Proofs.Ytbhojobonihccaa
