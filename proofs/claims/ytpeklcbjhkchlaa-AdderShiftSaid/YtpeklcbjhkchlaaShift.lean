/- For all slices of integers and every number the law AdderShift answers true at the landed code and changes nothing that came in: doubling all coefficients shifts the bits by one position and leaves the clauses. Conditions: those of the statement alone. -/
import Derived.Test.YtpeklcbjhkchlaaFacts
namespace Go.Proofs.Ytpeklcbjhkchlaa
open Go.ChangeShapes Go.WideShapes Go.ChangeAt Go.RowKit
set_option maxRecDepth 100000

theorem bitLen_double (x : Nat) (h0 : 0 < x) (h : x < 2 ^ 63) : Lib.bitLen (2 * x) = Lib.bitLen x + 1 := by
  obtain ⟨a1, a2, a3⟩ := Lib.bitLenAux_bounds 64 x (by omega) (by omega)
  obtain ⟨b1, b2, b3⟩ := Lib.bitLenAux_bounds 64 (2 * x) (by omega) (by omega)
  obtain ⟨a, ha⟩ : ∃ a, Lib.bitLenAux 64 x = a := ⟨_, rfl⟩
  obtain ⟨b, hb⟩ : ∃ b, Lib.bitLenAux 64 (2 * x) = b := ⟨_, rfl⟩
  rw [ha] at a1 a2 a3
  rw [hb] at b1 b2 b3
  show Lib.bitLenAux 64 (2 * x) = Lib.bitLenAux 64 x + 1
  rw [ha, hb]
  rcases Nat.lt_trichotomy b (a + 1) with q | q | q
  · have hp : 2 ^ b ≤ 2 ^ a := Nat.pow_le_pow_right (by omega) (by omega)
    have hq : 2 ^ a = 2 * 2 ^ (a - 1) := by rw [← Nat.pow_succ']; congr 1; omega
    omega
  · exact q
  · have hp : 2 ^ (a + 1) ≤ 2 ^ (b - 1) := Nat.pow_le_pow_right (by omega) (by omega)
    rw [Nat.pow_succ] at hp
    omega
def dbl (xs : List Nat) : List Nat := xs.map fun x => 2 * x
theorem qs_dbl : ∀ (xs : List Nat) (ls : List Int) (p : Nat), qs (dbl xs) ls (p + 1) = qs xs ls p
  | [], ls, p => by simp [qs, dbl]
  | x :: xs, [], p => by simp [qs]
  | x :: xs, l :: ls, p => by
    have := qs_dbl xs ls p
    show qs (2 * x :: dbl xs) (l :: ls) (p + 1) = _
    rw [qs_cons, qs_cons, this, Nat.testBit_succ, show 2 * x / 2 = x by omega]
theorem qs_dbl0 : ∀ (xs : List Nat) (ls : List Int), qs (dbl xs) ls 0 = []
  | [], ls => by simp [qs, dbl]
  | x :: xs, [] => by simp [qs]
  | x :: xs, l :: ls => by
    have := qs_dbl0 xs ls
    show qs (2 * x :: dbl xs) (l :: ls) 0 = _
    rw [qs_cons, this, Nat.testBit_zero]
    simp
theorem hgt_zero : ∀ {xs : List Nat}, (xs.any fun x => decide (0 < x)) = false → hgt xs = 0
  | [], _ => rfl
  | x :: xs, h => by
    simp at h
    obtain ⟨h1, h2⟩ := h
    subst h1
    show max (Lib.bitLen 0) (hgt xs) = 0
    rw [hgt_zero (xs := xs) (by simpa using h2), show Lib.bitLen 0 = 0 from rfl]; rfl
theorem bitLen_pos {x : Nat} (h : 0 < x) (h2 : x < 2 ^ 64) : 0 < Lib.bitLen x := by
  have := bitLen_lt x h2
  rcases Nat.eq_zero_or_pos (Lib.bitLen x) with e | e
  · rw [e] at this; omega
  · exact e
theorem hgt_dbl : ∀ {xs : List Nat}, (∀ x ∈ xs, x < 2 ^ 63) → (xs.any fun x => decide (0 < x)) = true → hgt (dbl xs) = hgt xs + 1
  | [], _, h => by simp at h
  | x :: xs, hx, h => by
    have hx0 := hx x (by simp)
    have hxs : ∀ y ∈ xs, y < 2 ^ 63 := fun y hy => hx y (List.mem_cons_of_mem _ hy)
    show max (Lib.bitLen (2 * x)) (hgt (dbl xs)) = max (Lib.bitLen x) (hgt xs) + 1
    cases ha : (xs.any fun x => decide (0 < x)) with
    | true =>
      rw [hgt_dbl hxs ha]
      rcases Nat.eq_zero_or_pos x with e | e
      · subst e
        have e1 : Lib.bitLen (2 * 0) = 0 := rfl
        have e2 : Lib.bitLen 0 = 0 := rfl
        omega
      · rw [bitLen_double x e hx0]; omega
    | false =>
      have hz := hgt_zero ha
      have hzd : hgt (dbl xs) = 0 := hgt_zero (by
        unfold dbl
        rw [List.any_map, List.any_eq_false]
        intro y hy
        have := List.any_eq_false.1 ha y hy
        simp at this ⊢
        omega)
      have e : 0 < x := by
        rw [List.any_cons, ha, Bool.or_false] at h
        exact of_decide_eq_true h
      rw [hz, hzd, bitLen_double x e hx0]; omega
theorem rowsOf_dbl {xs : List Nat} {ls : List Int} (hx : ∀ x ∈ xs, x < 2 ^ 63) (h : (xs.any fun x => decide (0 < x)) = true) : rowsOf (dbl xs) ls = [] :: rowsOf xs ls := by
  unfold rowsOf
  rw [hgt_dbl hx h, List.range_succ_eq_map, List.map_cons, qs_dbl0, List.map_map]
  congr 1
  apply List.map_congr_left
  intro p _
  exact qs_dbl xs ls p
theorem rowsOf_zero {xs : List Nat} {ls : List Int} (h : (xs.any fun x => decide (0 < x)) = false) : rowsOf xs ls = [] := by
  unfold rowsOf
  rw [hgt_zero h]; rfl
theorem any_dbl {xs : List Nat} (h : (xs.any fun x => decide (0 < x)) = false) : ((dbl xs).any fun x => decide (0 < x)) = false := by
  unfold dbl
  rw [List.any_map, List.any_eq_false]
  intro y hy
  have := List.any_eq_false.1 h y hy
  simp at this ⊢
  omega
theorem addUp_dbl (rows : List (List Int)) (N : Nat) : addUp ([] :: rows) [] N = (addUp rows [] N).map fun t => (0 :: t.1, t.2.1, t.2.2) := by
  rw [addUp_some (r := ([], [], [], N)) (by simp) (by simpa using red_done N (by simp))]
  simp
theorem dbl_take (xs : List Nat) (j : Nat) (h : j < xs.length) : nats (dbl (xs.take (j + 1))) = nats (dbl (xs.take j)) ++ [2 * ((xs[j]?.getD 0 : Nat) : Int)] := by
  rw [List.take_add_one, List.getElem?_eq_getElem h]
  unfold dbl nats
  rw [List.map_append, List.map_append]
  simp
theorem dbl_len (xs : List Nat) : (dbl xs).length = xs.length := List.length_map _
theorem anyp_take (xs : List Nat) (j : Nat) (h : j < xs.length) : (xs.take (j + 1)).any (fun x => decide (0 < x)) = ((xs.take j).any (fun x => decide (0 < x)) || decide (0 < xs[j]?.getD 0)) := by
  rw [List.take_add_one, List.getElem?_eq_getElem h, Option.toList_some, List.any_append]; simp
theorem Int.nat_map (xs : List Nat) : (nats xs).map Int.toNat = xs := by
  unfold nats
  rw [List.map_map]
  induction xs with
  | nil => rfl
  | cons x xs ih => rw [List.map_cons, ih]; simp
theorem okS_dbl {xs : List Nat} {ls : List Int} {next : Int} (hx : ∀ x ∈ xs, x ≤ 549755813888) : OkS (nats (dbl xs)) ls next ↔ OkS (nats xs) ls next := by
  unfold OkS
  rw [nats_len, nats_len, dbl_len]
  refine and_congr_right fun _ => and_congr_right fun _ => and_congr_right fun hl => forall_congr' fun j => forall_congr' fun hj => ?_
  have hjx : j < xs.length := by omega
  rw [nats_at, nats_at]
  unfold Ok1
  have e : (dbl xs)[j]?.getD 0 = 2 * (xs[j]?.getD 0) := by
    unfold dbl
    rw [List.getElem?_map, List.getElem?_eq_getElem hjx]; rfl
  have hb : xs[j]?.getD 0 ≤ 549755813888 := by
    rw [List.getElem?_eq_getElem hjx]; exact hx _ (List.getElem_mem hjx)
  rw [e]
  refine and_congr_left fun _ => ⟨fun _ => ⟨by omega, by omega⟩, fun _ => ⟨by omega, by omega⟩⟩

theorem addUp_bits2 (rows : List (List Int)) (carry : List Int) (next : Nat) (t : List Int × List (List Int) × Nat) (h : addUp rows carry next = some t) :
    2 * t.1.length + next ≤ 2 * (rows.length + carry.length) + t.2.2 := by
  refine addUp_ind (P := fun rows carry next t => 2 * t.1.length + next ≤ 2 * (rows.length + carry.length) + t.2.2)
    (fun (next : Nat) => Nat.le_refl _) (fun rows carry (next : Nat) r t hne hr ht ih => ?_) rows carry next t h
  obtain ⟨s1, s2, _⟩ := red_sizes _ _ _ r (Nat.le_refl _) hr
  show 2 * (t.1.length + 1) + next ≤ _ + t.2.2
  cases rows with
  | nil =>
    have hc : carry ≠ [] := fun e => hne ⟨rfl, e⟩
    have hc2 : 0 < carry.length := List.length_pos_iff.2 hc
    simp only [List.headD_nil, List.nil_append, List.tail_nil, List.length_nil] at *
    omega
  | cons q rs =>
    simp only [List.headD_cons, List.tail_cons, List.length_cons] at *
    omega
theorem shift_out (A1 A2 : Option Addr) (n1 n2 c1 c2 : Nat) (next : Int) (w : World) (h : 40 < n1 ∨ 40 < n2) :
    Calls Try.prog 9 #[.slice A1 n1 c1, .slice A2 n2 c2, .int .i64 next] w fun e w' => e = .returned (.bool true) ∧ Below w.heap.size w w' := by
  by_cases h1 : 40 < n1
  · clear h
    go_enter Try.func9, Try.ntmps9
    go_wp2_with fail
    refine (live_any w).mono ?_
    rintro e w1 ⟨rfl, hb1⟩
    go_wp2_with fail
    go_ret
    exact ⟨rfl, hb1⟩
  · have h2 : 40 < n2 := by omega
    clear h
    go_enter Try.func9, Try.ntmps9
    go_wp2_with fail
    refine (live_any w).mono ?_
    rintro e w1 ⟨rfl, hb1⟩
    go_wp2_with fail
    go_ret
    exact ⟨rfl, hb1⟩

set_option maxHeartbeats 8000000 in
theorem shift_err (A1 A2 : Option Addr) (n1 n2 c1 c2 : Nat) (next E : Int) (xs : List Nat) (ls : List Int) (w : World) (r1 : RdI w.heap.size w A1 (nats xs)) (r2 : RdI w.heap.size w A2 ls) (h1 : n1 ≤ 40) (h2 : n2 ≤ 40) (hl1 : xs.length = n1) (hl2 : ls.length = n2) (hx : ∀ x ∈ xs, x ≤ 549755813888) (hE : E ≠ 0)
    (hS1 : ∀ W : World, RdI W.heap.size W A1 (nats xs) → RdI W.heap.size W A2 ls → Calls Try.prog 13 #[.slice A1 n1 c1, .slice A2 n2 c2, .int .i64 next] W (SumRes W [] [] 0 E))
    (hS2 : ∀ (W : World) B1 d1, RdI W.heap.size W B1 (nats (dbl xs)) → RdI W.heap.size W A2 ls → Calls Try.prog 13 #[.slice B1 n1 d1, .slice A2 n2 c2, .int .i64 next] W (SumRes W [] [] 0 E)) :
    Calls Try.prog 9 #[.slice A1 n1 c1, .slice A2 n2 c2, .int .i64 next] w fun e w' => e = .returned (.bool true) ∧ Below w.heap.size w w' := by
  have d0 : (E != 0) = true := by simpa using hE
  have Hl := Lib.hid (And.intro hl1 hl2)
  have Hx := Lib.hid hx
  clear hl1 hl2 hx
  go_enter Try.func9, Try.ntmps9
  go_wp2_with fail
  refine (live_any w).mono ?_
  rintro e w1 ⟨rfl, hb1⟩
  have hr1 := RdI.more (r1.below hb1 (Nat.le_refl _)) hb1.size
  have hr2 := RdI.more (r2.below hb1 (Nat.le_refl _)) hb1.size
  have R1 := Lib.hid hr1
  have R2 := Lib.hid hr2
  clear r1 r2 hr1 hr2
  go_wp2_with fail
  go_loopw [7, 8, 9] (fun v7 v8 v9 wr => ∃ j : Nat, j ≤ n1 ∧ v9 = .int .i64 j ∧ v8 = .bool ((xs.take j).any fun x => decide (0 < x)) ∧ RowI wr w1.heap.size v7 (nats (dbl (xs.take j))) ∧ Below w1.heap.size w1 wr) (fun _ _ v _ => n1 - (intOf v).toNat)
  case atStart => exact ⟨0, by omega, rfl, rfl, RowI.empty _ _, Below.refl _ _⟩
  case round =>
    obtain ⟨j, hj, rfl, rfl, row, low⟩ := hrel
    by_cases hlt : j < n1
    · have hjl : j < xs.length := by rw [Hl.out.1]; exact hlt
      obtain ⟨b, off, hA, hbl, hc⟩ := (R1.out.below low (Nat.le_refl _)).2 (by rw [nats_len]; omega)
      have hc1 := hc j (by rw [nats_len]; exact hjl)
      rw [nats_at] at hc1
      have hx1 := Hx.out (xs[j]?.getD 0) (by rw [List.getElem?_eq_getElem hjl]; exact List.getElem_mem hjl)
      have t1 := dbl_take xs j hjl
      have t2 := anyp_take xs j hjl
      have hlen : (nats (dbl (xs.take j))).length ≤ 1000000 := by rw [nats_len, dbl_len, List.length_take]; omega
      obtain ⟨A7, c7, hv7, _⟩ := row.shape
      obtain ⟨L7, hL7⟩ : ∃ L7, (nats (dbl (xs.take j))).length = L7 := ⟨_, rfl⟩
      rw [hL7] at hv7
      subst hv7
      have T1 := Lib.hid t1
      have T2 := Lib.hid t2
      have Row := Lib.hid row
      have HLen := Lib.hid hlen
      clear hc hjl t1 t2 hlen row hL7
      cases hA
      generalize xs[j]?.getD 0 = x at *
      generalize (xs.take j).any (fun x => decide (0 < x)) = z at *
      have hsz := low.size
      cases z with
      | true =>
        go_wp2_with (at_builtin; refine wpList_push rfl _ _ rfl w1.heap.size (.slice A7 L7 c7) _ rfl Row.out (2 * (x : Int)) ⟨by omega, by omega⟩ rfl HLen.out hsz ?_)
        intro v' w3 row3 low3
        have low4 := low.trans low3
        rw [← T1.out] at row3
        have row3 := Lib.hid row3
        clear Row low3 T1 low HLen
        go_wp2_with fail
        go_roundw
        case rel => exact ⟨j + 1, by omega, by go_num, by rw [T2.out]; rfl, row3.out, low4⟩
        case measure => simp [intOf]; omega
      | false =>
        go_wp2_with (at_builtin; refine wpList_push rfl _ _ rfl w1.heap.size (.slice A7 L7 c7) _ rfl Row.out (2 * (x : Int)) ⟨by omega, by omega⟩ rfl HLen.out hsz ?_)
        intro v' w3 row3 low3
        have low4 := low.trans low3
        rw [← T1.out] at row3
        have row3 := Lib.hid row3
        clear Row low3 T1 low HLen
        go_wp2_with fail
        go_roundw
        case rel => exact ⟨j + 1, by omega, by go_num, by rw [T2.out]; simp, row3.out, low4⟩
        case measure => simp [intOf]; omega
    · obtain rfl : j = n1 := by omega
      rw [List.take_of_length_le (Nat.le_of_eq Hl.out.1)] at row ⊢
      obtain ⟨A7, c7, hv7, _, _, rd7⟩ := row.shape
      rw [nats_len, dbl_len, Hl.out.1] at hv7
      subst hv7
      have hr1 := RdI.more (R1.out.below low (Nat.le_refl _)) low.size
      have hr2 := RdI.more (R2.out.below low (Nat.le_refl _)) low.size
      have hb2 := hb1.trans (low.mono hb1.size)
      clear row R1 R2
      generalize (xs.any fun x => decide (0 < x)) = z
      go_wp2_with fail
      refine (hS1 wr hr1 hr2).mono ?_
      rintro e w3 ⟨A3, c3, B3, d3, rfl, _, r3, r4, hb3, hl4⟩
      have hb13 := hb2.trans (hb3.mono hb2.size)
      have rd7' := RdI.more (rd7.below hb3 (Nat.le_refl _)) hb3.size
      have hr2' := RdI.more (hr2.below hb3 (Nat.le_refl _)) hb3.size
      clear hr1 hr2 hS1 rd7 r3 r4 hl4 hb3 hb2 low
      go_wp2_with fail
      refine (hS2 w3 A7 c7 rd7' hr2').mono ?_
      rintro e w4 ⟨A4, c4, B4, d4, rfl, _, r5, r6, hb4, hl6⟩
      have hb14 := hb13.trans (hb4.mono hb13.size)
      clear hS2 rd7' hr2' r5 r6 hl6 hb4 hb13
      go_wp2_with fail
      go_ret
      exact ⟨by simp, hb14⟩

set_option maxHeartbeats 8000000 in
theorem shift_zero (A1 A2 : Option Addr) (n1 n2 c1 c2 M K nb1 : Nat) (next : Int) (xs : List Nat) (ls bits : List Int) (cl : List (List Int)) (w : World) (r1 : RdI w.heap.size w A1 (nats xs)) (r2 : RdI w.heap.size w A2 ls) (h1 : n1 ≤ 40) (h2 : n2 ≤ 40) (hl1 : xs.length = n1) (hl2 : ls.length = n2) (hx : ∀ x ∈ xs, x ≤ 549755813888) (hany : (xs.any fun x => decide (0 < x)) = false) (hK : cl.length = K) (hnb : bits.length = nb1) (hz : nb1 = 0) (hKm : K ≤ maxLen)
    (hS1 : ∀ W : World, RdI W.heap.size W A1 (nats xs) → RdI W.heap.size W A2 ls → Calls Try.prog 13 #[.slice A1 n1 c1, .slice A2 n2 c2, .int .i64 next] W (SumRes W bits cl M 0))
    (hS2 : ∀ (W : World) B1 d1, RdI W.heap.size W B1 (nats (dbl xs)) → RdI W.heap.size W A2 ls → Calls Try.prog 13 #[.slice B1 n1 d1, .slice A2 n2 c2, .int .i64 next] W (SumRes W bits cl M 0)) :
    Calls Try.prog 9 #[.slice A1 n1 c1, .slice A2 n2 c2, .int .i64 next] w fun e w' => e = .returned (.bool true) ∧ Below w.heap.size w w' := by
  have Hany := Lib.hid hany
  have HK := Lib.hid (And.intro hK hnb)
  have HZ := Lib.hid hz
  have HKm := Lib.hid hKm
  clear hany hK hnb hz hKm
  have Hl := Lib.hid (And.intro hl1 hl2)
  have Hx := Lib.hid hx
  clear hl1 hl2 hx
  go_enter Try.func9, Try.ntmps9
  go_wp2_with fail
  refine (live_any w).mono ?_
  rintro e w1 ⟨rfl, hb1⟩
  have hr1 := RdI.more (r1.below hb1 (Nat.le_refl _)) hb1.size
  have hr2 := RdI.more (r2.below hb1 (Nat.le_refl _)) hb1.size
  have R1 := Lib.hid hr1
  have R2 := Lib.hid hr2
  clear r1 r2 hr1 hr2
  go_wp2_with fail
  go_loopw [7, 8, 9] (fun v7 v8 v9 wr => ∃ j : Nat, j ≤ n1 ∧ v9 = .int .i64 j ∧ v8 = .bool ((xs.take j).any fun x => decide (0 < x)) ∧ RowI wr w1.heap.size v7 (nats (dbl (xs.take j))) ∧ Below w1.heap.size w1 wr) (fun _ _ v _ => n1 - (intOf v).toNat)
  case atStart => exact ⟨0, by omega, rfl, rfl, RowI.empty _ _, Below.refl _ _⟩
  case round =>
    obtain ⟨j, hj, rfl, rfl, row, low⟩ := hrel
    by_cases hlt : j < n1
    · have hjl : j < xs.length := by rw [Hl.out.1]; exact hlt
      obtain ⟨b, off, hA, hbl, hc⟩ := (R1.out.below low (Nat.le_refl _)).2 (by rw [nats_len]; omega)
      have hc1 := hc j (by rw [nats_len]; exact hjl)
      rw [nats_at] at hc1
      have hx1 := Hx.out (xs[j]?.getD 0) (by rw [List.getElem?_eq_getElem hjl]; exact List.getElem_mem hjl)
      have t1 := dbl_take xs j hjl
      have t2 := anyp_take xs j hjl
      have hlen : (nats (dbl (xs.take j))).length ≤ 1000000 := by rw [nats_len, dbl_len, List.length_take]; omega
      obtain ⟨A7, c7, hv7, _⟩ := row.shape
      obtain ⟨L7, hL7⟩ : ∃ L7, (nats (dbl (xs.take j))).length = L7 := ⟨_, rfl⟩
      rw [hL7] at hv7
      subst hv7
      have T1 := Lib.hid t1
      have T2 := Lib.hid t2
      have Row := Lib.hid row
      have HLen := Lib.hid hlen
      clear hc hjl t1 t2 hlen row hL7
      cases hA
      generalize xs[j]?.getD 0 = x at *
      generalize (xs.take j).any (fun x => decide (0 < x)) = z at *
      have hsz := low.size
      cases z with
      | true =>
        go_wp2_with (at_builtin; refine wpList_push rfl _ _ rfl w1.heap.size (.slice A7 L7 c7) _ rfl Row.out (2 * (x : Int)) ⟨by omega, by omega⟩ rfl HLen.out hsz ?_)
        intro v' w3 row3 low3
        have low4 := low.trans low3
        rw [← T1.out] at row3
        have row3 := Lib.hid row3
        clear Row low3 T1 low HLen
        go_wp2_with fail
        go_roundw
        case rel => exact ⟨j + 1, by omega, by go_num, by rw [T2.out]; rfl, row3.out, low4⟩
        case measure => simp [intOf]; omega
      | false =>
        go_wp2_with (at_builtin; refine wpList_push rfl _ _ rfl w1.heap.size (.slice A7 L7 c7) _ rfl Row.out (2 * (x : Int)) ⟨by omega, by omega⟩ rfl HLen.out hsz ?_)
        intro v' w3 row3 low3
        have low4 := low.trans low3
        rw [← T1.out] at row3
        have row3 := Lib.hid row3
        clear Row low3 T1 low HLen
        go_wp2_with fail
        go_roundw
        case rel => exact ⟨j + 1, by omega, by go_num, by rw [T2.out]; simp, row3.out, low4⟩
        case measure => simp [intOf]; omega
    · obtain rfl : j = n1 := by omega
      rw [List.take_of_length_le (Nat.le_of_eq Hl.out.1)] at row ⊢
      obtain ⟨A7, c7, hv7, _, _, rd7⟩ := row.shape
      rw [nats_len, dbl_len, Hl.out.1] at hv7
      subst hv7
      have hr1 := RdI.more (R1.out.below low (Nat.le_refl _)) low.size
      have hr2 := RdI.more (R2.out.below low (Nat.le_refl _)) low.size
      have hb2 := hb1.trans (low.mono hb1.size)
      clear row R1 R2
      have hany := Hany.out
      rw [hany]
      go_wp2_with fail
      refine (hS1 wr hr1 hr2).mono ?_
      rintro e w3 ⟨A3, c3, B3, d3, rfl, hcc3, r3, r4, hb3, hl4⟩
      rw [HK.out.1, HK.out.2]
      rw [HK.out.2] at hcc3
      have hb13 := hb2.trans (hb3.mono hb2.size)
      have rd7' := RdI.more (rd7.below hb3 (Nat.le_refl _)) hb3.size
      have hr2' := RdI.more (hr2.below hb3 (Nat.le_refl _)) hb3.size
      have r3 := Lib.hid r3
      have r4 := Lib.hid r4
      have hl4 := Lib.hid hl4
      clear hr1 hr2 hS1 rd7 hb3 hb2 low hany
      go_wp2_with fail
      refine (hS2 w3 A7 c7 rd7' hr2').mono ?_
      rintro e w4 ⟨A4, c4, B4, d4, rfl, hcc4, r5, r6, hb4, hl6⟩
      rw [HK.out.1, HK.out.2]
      rw [HK.out.2] at hcc4
      have hb14 := hb13.trans (hb4.mono hb13.size)
      have r3' := RdI.more (r3.out.below hb4 (Nat.le_refl _)) hb4.size
      have r4' := RdR.more (r4.out.below hb4 (Nat.le_refl _)) hb4.size
      have hLi := Lib.hid (Lists_any _ _ B3 B4 K d3 d4 cl w4 r4' r6 HK.out.1 HKm.out hl4.out)
      clear hS2 rd7' hr2' hb4 hb13 r3 r4 hl6 r6 r4'
      have Hz := HZ.out
      subst Hz
      clear r5 r3'
      go_wp2_with fail
      refine hLi.out.mono ?_
      rintro e w5 ⟨rfl, q, rfl⟩
      clear hLi
      go_wp2_with fail
      go_ret
      exact ⟨rfl, below_drewN hb14 q⟩

set_option maxHeartbeats 8000000 in
theorem shift_some (A1 A2 : Option Addr) (n1 n2 c1 c2 M K nb1 : Nat) (next : Int) (xs : List Nat) (ls bits : List Int) (cl : List (List Int)) (w : World) (r1 : RdI w.heap.size w A1 (nats xs)) (r2 : RdI w.heap.size w A2 ls) (h1 : n1 ≤ 40) (h2 : n2 ≤ 40) (hl1 : xs.length = n1) (hl2 : ls.length = n2) (hx : ∀ x ∈ xs, x ≤ 549755813888) (hany : (xs.any fun x => decide (0 < x)) = true) (hK : cl.length = K) (hnb : bits.length = nb1) (hb : nb1 ≤ 100000) (hKm : K ≤ maxLen)
    (hS1 : ∀ W : World, RdI W.heap.size W A1 (nats xs) → RdI W.heap.size W A2 ls → Calls Try.prog 13 #[.slice A1 n1 c1, .slice A2 n2 c2, .int .i64 next] W (SumRes W bits cl M 0))
    (hS2 : ∀ (W : World) B1 d1, RdI W.heap.size W B1 (nats (dbl xs)) → RdI W.heap.size W A2 ls → Calls Try.prog 13 #[.slice B1 n1 d1, .slice A2 n2 c2, .int .i64 next] W (SumRes W (0 :: bits) cl M 0)) :
    Calls Try.prog 9 #[.slice A1 n1 c1, .slice A2 n2 c2, .int .i64 next] w fun e w' => e = .returned (.bool true) ∧ Below w.heap.size w w' := by
  have Hany := Lib.hid hany
  have HK := Lib.hid (And.intro hK hnb)
  have HK2 := Lib.hid (show (0 :: bits).length = nb1 + 1 by rw [List.length_cons, hnb])
  have HKb := Lib.hid (show nb1 ≤ maxLen by unfold maxLen; omega)
  have HKm := Lib.hid hKm
  clear hany hK hnb hKm
  have Hl := Lib.hid (And.intro hl1 hl2)
  have Hx := Lib.hid hx
  clear hl1 hl2 hx
  go_enter Try.func9, Try.ntmps9
  go_wp2_with fail
  refine (live_any w).mono ?_
  rintro e w1 ⟨rfl, hb1⟩
  have hr1 := RdI.more (r1.below hb1 (Nat.le_refl _)) hb1.size
  have hr2 := RdI.more (r2.below hb1 (Nat.le_refl _)) hb1.size
  have R1 := Lib.hid hr1
  have R2 := Lib.hid hr2
  clear r1 r2 hr1 hr2
  go_wp2_with fail
  go_loopw [7, 8, 9] (fun v7 v8 v9 wr => ∃ j : Nat, j ≤ n1 ∧ v9 = .int .i64 j ∧ v8 = .bool ((xs.take j).any fun x => decide (0 < x)) ∧ RowI wr w1.heap.size v7 (nats (dbl (xs.take j))) ∧ Below w1.heap.size w1 wr) (fun _ _ v _ => n1 - (intOf v).toNat)
  case atStart => exact ⟨0, by omega, rfl, rfl, RowI.empty _ _, Below.refl _ _⟩
  case round =>
    obtain ⟨j, hj, rfl, rfl, row, low⟩ := hrel
    by_cases hlt : j < n1
    · have hjl : j < xs.length := by rw [Hl.out.1]; exact hlt
      obtain ⟨b, off, hA, hbl, hc⟩ := (R1.out.below low (Nat.le_refl _)).2 (by rw [nats_len]; omega)
      have hc1 := hc j (by rw [nats_len]; exact hjl)
      rw [nats_at] at hc1
      have hx1 := Hx.out (xs[j]?.getD 0) (by rw [List.getElem?_eq_getElem hjl]; exact List.getElem_mem hjl)
      have t1 := dbl_take xs j hjl
      have t2 := anyp_take xs j hjl
      have hlen : (nats (dbl (xs.take j))).length ≤ 1000000 := by rw [nats_len, dbl_len, List.length_take]; omega
      obtain ⟨A7, c7, hv7, _⟩ := row.shape
      obtain ⟨L7, hL7⟩ : ∃ L7, (nats (dbl (xs.take j))).length = L7 := ⟨_, rfl⟩
      rw [hL7] at hv7
      subst hv7
      have T1 := Lib.hid t1
      have T2 := Lib.hid t2
      have Row := Lib.hid row
      have HLen := Lib.hid hlen
      clear hc hjl t1 t2 hlen row hL7
      cases hA
      generalize xs[j]?.getD 0 = x at *
      generalize (xs.take j).any (fun x => decide (0 < x)) = z at *
      have hsz := low.size
      cases z with
      | true =>
        go_wp2_with (at_builtin; refine wpList_push rfl _ _ rfl w1.heap.size (.slice A7 L7 c7) _ rfl Row.out (2 * (x : Int)) ⟨by omega, by omega⟩ rfl HLen.out hsz ?_)
        intro v' w3 row3 low3
        have low4 := low.trans low3
        rw [← T1.out] at row3
        have row3 := Lib.hid row3
        clear Row low3 T1 low HLen
        go_wp2_with fail
        go_roundw
        case rel => exact ⟨j + 1, by omega, by go_num, by rw [T2.out]; rfl, row3.out, low4⟩
        case measure => simp [intOf]; omega
      | false =>
        go_wp2_with (at_builtin; refine wpList_push rfl _ _ rfl w1.heap.size (.slice A7 L7 c7) _ rfl Row.out (2 * (x : Int)) ⟨by omega, by omega⟩ rfl HLen.out hsz ?_)
        intro v' w3 row3 low3
        have low4 := low.trans low3
        rw [← T1.out] at row3
        have row3 := Lib.hid row3
        clear Row low3 T1 low HLen
        go_wp2_with fail
        go_roundw
        case rel => exact ⟨j + 1, by omega, by go_num, by rw [T2.out]; simp, row3.out, low4⟩
        case measure => simp [intOf]; omega
    · obtain rfl : j = n1 := by omega
      rw [List.take_of_length_le (Nat.le_of_eq Hl.out.1)] at row ⊢
      obtain ⟨A7, c7, hv7, _, _, rd7⟩ := row.shape
      rw [nats_len, dbl_len, Hl.out.1] at hv7
      subst hv7
      have hr1 := RdI.more (R1.out.below low (Nat.le_refl _)) low.size
      have hr2 := RdI.more (R2.out.below low (Nat.le_refl _)) low.size
      have hb2 := hb1.trans (low.mono hb1.size)
      clear row R1 R2
      have hany := Hany.out
      rw [hany]
      go_wp2_with fail
      refine (hS1 wr hr1 hr2).mono ?_
      rintro e w3 ⟨A3, c3, B3, d3, rfl, hcc3, r3, r4, hb3, hl4⟩
      rw [HK.out.1, HK.out.2]
      rw [HK.out.2] at hcc3
      have hb13 := hb2.trans (hb3.mono hb2.size)
      have rd7' := RdI.more (rd7.below hb3 (Nat.le_refl _)) hb3.size
      have hr2' := RdI.more (hr2.below hb3 (Nat.le_refl _)) hb3.size
      have r3 := Lib.hid r3
      have r4 := Lib.hid r4
      have hl4 := Lib.hid hl4
      clear hr1 hr2 hS1 rd7 hb3 hb2 low hany
      go_wp2_with fail
      refine (hS2 w3 A7 c7 rd7' hr2').mono ?_
      rintro e w4 ⟨A4, c4, B4, d4, rfl, hcc4, r5, r6, hb4, hl6⟩
      rw [HK.out.1, HK2.out]
      rw [HK2.out] at hcc4
      have hb14 := hb13.trans (hb4.mono hb13.size)
      have r3' := RdI.more (r3.out.below hb4 (Nat.le_refl _)) hb4.size
      have r4' := RdR.more (r4.out.below hb4 (Nat.le_refl _)) hb4.size
      have hLi := Lib.hid (Lists_any _ _ B3 B4 K d3 d4 cl w4 r4' r6 HK.out.1 HKm.out hl4.out)
      clear hS2 rd7' hr2' hb4 hb13 r3 r4 hl6 r6 r4'
      have R3 := Lib.hid r3'
      have hcut := (r5.cut (k := 1) (cap := c4) (by rw [HK2.out]; exact hcc4))
      obtain ⟨b0, o0, hA0, _, hc0⟩ := r5.2 (by rw [HK2.out]; omega)
      have hc00 := hc0 0 (by rw [HK2.out]; omega)
      rw [show (0 :: bits : List Int)[0]?.getD 0 = 0 from rfl, Nat.add_zero] at hc00
      have Hcut := Lib.hid hcut
      clear r5 r3' hc0 hcut
      subst hA0
      go_wp2_with fail
      refine hLi.out.mono ?_
      rintro e w5 ⟨rfl, q, rfl⟩
      clear hLi
      by_cases hc4 : c4 = 1
      · have hnb0 : nb1 = 0 := by omega
        have hI := Lib.hid (Ints_any 0 _ (some ⟨b0, o0, none⟩) A3 nb1 0 c3 bits (w4.drewN q) (by have := HK.out.2; rw [hnb0] at this; rw [List.eq_nil_of_length_eq_zero this]; exact RdI.nil _ _ _) R3.out HK.out.2 HKb.out)
        clear Hcut hcc3 hcc4 HK2 HKb hb
        subst hc4
        subst hnb0
        rw [Nat.zero_add]
        go_wp2_with fail
        refine hI.out.mono ?_
        rintro e w5 ⟨rfl, q2, rfl⟩
        go_wp2_with fail
        go_ret
        exact ⟨rfl, by first | exact below_drewN (below_drewN hb14 q) q2 | exact below_drewN hb14 (q + q2)⟩
      · have hcut2 : RdI w4.heap.size w4 (some ⟨b0, o0 + 1, none⟩) bits := by
          have := Hcut.out
          unfold cutA at this
          rw [if_neg hc4] at this
          simpa [add_plain] using this
        have hI := Lib.hid (Ints_any _ _ (some ⟨b0, o0 + 1, none⟩) A3 nb1 (c4 - 1) c3 bits (w4.drewN q) hcut2 R3.out HK.out.2 HKb.out)
        clear hcut2 Hcut
        go_wp2_with fail
        refine hI.out.mono ?_
        rintro e w5 ⟨rfl, q2, rfl⟩
        go_wp2_with fail
        go_ret
        exact ⟨rfl, by first | exact below_drewN (below_drewN hb14 q) q2 | exact below_drewN hb14 (q + q2)⟩

set_option maxHeartbeats 4000000 in
theorem shift_bad (A1 A2 : Option Addr) (n1 n2 c1 c2 i0 : Nat) (next : Int) (xs : List Int) (w : World) (r1 : RdI w.heap.size w A1 xs) (h1 : n1 ≤ 40) (h2 : n2 ≤ 40) (hl1 : xs.length = n1) (hi : i0 < n1) (hok : ∀ j, j < i0 → 0 ≤ xs[j]?.getD 0 ∧ xs[j]?.getD 0 ≤ 549755813888) (hbad : ¬ (0 ≤ xs[i0]?.getD 0 ∧ xs[i0]?.getD 0 ≤ 549755813888)) :
    Calls Try.prog 9 #[.slice A1 n1 c1, .slice A2 n2 c2, .int .i64 next] w fun e w' => e = .returned (.bool true) ∧ Below w.heap.size w w' := by
  have Hl := Lib.hid hl1
  have Hok := Lib.hid hok
  have Hbad := Lib.hid hbad
  clear hl1 hok hbad
  go_enter Try.func9, Try.ntmps9
  go_wp2_with fail
  refine (live_any w).mono ?_
  rintro e w1 ⟨rfl, hb1⟩
  have R1 := Lib.hid (RdI.more (r1.below hb1 (Nat.le_refl _)) hb1.size)
  clear r1
  go_wp2_with fail
  go_loopw [7, 8, 9] (fun v7 v8 v9 wr => ∃ (j : Nat) (ys : List Int) (z : Bool), j ≤ i0 ∧ v9 = .int .i64 j ∧ v8 = .bool z ∧ RowI wr w1.heap.size v7 ys ∧ ys.length = j ∧ Below w1.heap.size w1 wr) (fun _ _ v _ => i0 - (intOf v).toNat)
  case atStart => exact ⟨0, [], false, by omega, rfl, rfl, RowI.empty _ _, rfl, Below.refl _ _⟩
  case round =>
    obtain ⟨j, ys, z, hj, rfl, rfl, row, hyl, low⟩ := hrel
    have hjn : j < n1 := by omega
    obtain ⟨b, off, hA, hbl, hc⟩ := (R1.out.below low (Nat.le_refl _)).2 (by rw [Hl.out]; omega)
    have hc1 := hc j (by rw [Hl.out]; exact hjn)
    obtain ⟨A7, c7, hv7, _⟩ := row.shape
    subst hv7
    by_cases hlt : j < i0
    · obtain ⟨g1, g2⟩ := Hok.out j hlt
      have Row := Lib.hid row
      have HLen := Lib.hid hyl
      clear hc row hyl
      cases hA
      generalize xs[j]?.getD 0 = x at *
      obtain ⟨L7, hL7⟩ : ∃ L7, ys.length = L7 := ⟨_, rfl⟩
      rw [hL7] at Row ⊢
      clear hL7
      have hsz := low.size
      cases z with
      | true =>
        go_wp2_with (at_builtin; refine wpList_push rfl _ _ rfl w1.heap.size (.slice A7 L7 c7) _ rfl Row.out (2 * x) ⟨by omega, by omega⟩ rfl (by rw [HLen.out]; omega) hsz ?_)
        intro v' w3 row3 low3
        have low4 := low.trans low3
        have row3 := Lib.hid row3
        have hl3 := Lib.hid (show (ys ++ [2 * x]).length = j + 1 by rw [List.length_append, HLen.out]; rfl)
        clear Row low3 low HLen
        go_wp2_with fail
        go_roundw
        case rel => exact ⟨j + 1, _, true, by omega, by go_num, rfl, row3.out, hl3.out, low4⟩
        case measure => simp [intOf]; omega
      | false =>
        obtain ⟨z2, hz2⟩ : ∃ z2, decide (0 < x) = z2 := ⟨_, rfl⟩
        go_wp2_with (at_builtin; refine wpList_push rfl _ _ rfl w1.heap.size (.slice A7 L7 c7) _ rfl Row.out (2 * x) ⟨by omega, by omega⟩ rfl (by rw [HLen.out]; omega) hsz ?_)
        intro v' w3 row3 low3
        have low4 := low.trans low3
        have row3 := Lib.hid row3
        have hl3 := Lib.hid (show (ys ++ [2 * x]).length = j + 1 by rw [List.length_append, HLen.out]; rfl)
        clear Row low3 low HLen
        go_wp2_with fail
        go_roundw
        case rel => exact ⟨j + 1, _, z2, by omega, by go_num, rfl, row3.out, hl3.out, low4⟩
        case measure => simp [intOf]; omega
    · obtain rfl : j = i0 := by omega
      have hbd := Hbad.out
      clear hc row hyl Hok Hbad
      cases hA
      generalize xs[j]?.getD 0 = x at *
      generalize ys.length = L7
      have hb12 := hb1.trans (low.mono hb1.size)
      by_cases g1 : x < 0
      · clear hbd
        go_wp2_with fail
        go_ret
        exact ⟨rfl, hb12⟩
      · have g2 : 549755813888 < x := by omega
        have g3 : 0 ≤ x := by omega
        clear hbd g1
        go_wp2_with fail
        go_ret
        exact ⟨rfl, hb12⟩

theorem first_half (xs : List Int) : ∀ n : Nat, (∀ j, j < n → 0 ≤ xs[j]?.getD 0 ∧ xs[j]?.getD 0 ≤ 549755813888) ∨ ∃ i, i < n ∧ (∀ j, j < i → 0 ≤ xs[j]?.getD 0 ∧ xs[j]?.getD 0 ≤ 549755813888) ∧ ¬ (0 ≤ xs[i]?.getD 0 ∧ xs[i]?.getD 0 ≤ 549755813888)
  | 0 => .inl fun j hj => absurd hj (Nat.not_lt_zero j)
  | n + 1 => by
    rcases first_half xs n with h | ⟨i, h1, h2⟩
    · by_cases e : 0 ≤ xs[n]?.getD 0 ∧ xs[n]?.getD 0 ≤ 549755813888
      · left; intro j hj
        rcases Nat.lt_or_ge j n with q | q
        · exact h j q
        · rw [show j = n by omega]; exact e
      · exact .inr ⟨n, by omega, h, e⟩
    · exact .inr ⟨i, by omega, h2⟩
theorem shift_any (A1 A2 : Option Addr) (n1 n2 c1 c2 : Nat) (next : Int) (xs ls : List Int) (w : World) (r1 : RdI w.heap.size w A1 xs) (r2 : RdI w.heap.size w A2 ls) (hl1 : xs.length = n1) (hl2 : ls.length = n2) :
    Calls Try.prog 9 #[.slice A1 n1 c1, .slice A2 n2 c2, .int .i64 next] w fun e w' => e = .returned (.bool true) ∧ Below w.heap.size w w' := by
  by_cases h : 40 < n1 ∨ 40 < n2
  · exact shift_out A1 A2 n1 n2 c1 c2 next w h
  · rcases first_half xs n1 with g | ⟨i, g1, g2, g3⟩
    · obtain ⟨ys, rfl⟩ : ∃ ys, xs = nats ys := ⟨xs.map Int.toNat, (nats_toNat fun j hj => (g j (by omega)).1).symm⟩
      rw [nats_len] at hl1
      have hx : ∀ x ∈ ys, x ≤ 549755813888 := fun x hx => by
        obtain ⟨j, hj, rfl⟩ := List.mem_iff_getElem.1 hx
        have := (g j (by omega)).2
        rw [nats_at, List.getElem?_eq_getElem hj, Option.getD_some] at this
        omega
      have hd1 : (nats (dbl ys)).length = n1 := by rw [nats_len, dbl_len, hl1]
      have hd0 : (nats ys).length = n1 := by rw [nats_len, hl1]
      by_cases ho : OkS (nats ys) ls next
      · have ho2 := (okS_dbl hx).2 ho
        obtain ⟨k1, k2, k3, _⟩ := id ho
        rw [hd0, hl2] at k3
        obtain rfl := k3
        obtain ⟨N, rfl⟩ := Int.eq_ofNat_of_zero_le (show 0 ≤ next by omega)
        have hS1 := fun t (ht : addUp (rowsOf ys ls) [] N = some t) => Sum_some (c1 := c1) (c2 := c2) (A1 := A1) (A2 := A2) (t := t) ho (by rw [Int.nat_map]; exact ht) hd0 hl2 (by omega)
        have hS2 := fun t (ht : addUp (rowsOf (dbl ys) ls) [] N = some t) (W : World) B1 d1 => Sum_some (c1 := d1) (c2 := c2) (A1 := B1) (A2 := A2) (t := t) ho2 (by rw [Int.nat_map]; exact ht) hd1 hl2 (by omega) W
        have hx63 : ∀ x ∈ ys, x < 2 ^ 63 := fun x h => by have := hx x h; omega
        have hx64 : ∀ x ∈ ys, x < 2 ^ 64 := fun x h => by have := hx x h; omega
        cases hany : (ys.any fun x => decide (0 < x)) with
        | false =>
          have e1 : addUp (rowsOf ys ls) [] N = some ([], [], N) := by rw [rowsOf_zero hany, addUp_done]
          have e2 : addUp (rowsOf (dbl ys) ls) [] N = some ([], [], N) := by rw [rowsOf_zero (any_dbl hany), addUp_done]
          exact shift_zero A1 A2 n1 n1 c1 c2 N 0 0 N ys ls [] [] w r1 r2 (by omega) (by omega) hl1 hl2 hx hany rfl rfl rfl (by unfold maxLen; omega) (hS1 _ e1) (fun W B1 d1 => hS2 _ e2 W B1 d1)
        | true =>
          have e2 := addUp_dbl (rowsOf ys ls) N
          rw [← rowsOf_dbl hx63 hany] at e2
          rcases ht : addUp (rowsOf ys ls) [] N with _ | t
          · rw [ht] at e2
            exact shift_err A1 A2 n1 n1 c1 c2 N 2 ys ls w r1 r2 (by omega) (by omega) hl1 hl2 hx (by omega) (Sum_none ho (by rw [Int.nat_map]; exact ht) hd0 hl2 (by omega)) (fun W B1 d1 q1 q2 => Sum_none ho2 (by rw [Int.nat_map]; exact e2) hd1 hl2 (by omega) W q1 q2)
          · rw [ht] at e2
            obtain ⟨A, i1, i2, i3, i4, i5⟩ := addUp_sizes _ _ _ t ht
            have h65 := i4 (by omega)
            have hbt := addUp_bits2 _ _ _ t ht
            rw [rowsOf_len, List.length_nil] at hbt
            have hg := hgt_le hx64
            exact shift_some A1 A2 n1 n1 c1 c2 t.2.2 _ _ N ys ls t.1 t.2.1 w r1 r2 (by omega) (by omega) hl1 hl2 hx hany rfl rfl (by omega) (by unfold maxLen; omega) (hS1 _ ht) (fun W B1 d1 => hS2 _ e2 W B1 d1)
      · have ho2 : ¬ OkS (nats (dbl ys)) ls next := fun h => ho ((okS_dbl hx).1 h)
        exact shift_err A1 A2 n1 n2 c1 c2 next 1 ys ls w r1 r2 (by omega) (by omega) hl1 hl2 hx (by omega) (fun W q1 q2 => Sum_arg _ n1 n2 c1 c2 next A1 A2 _ ls W q1 q2 hd0 hl2 (by omega) ho)
          (fun W B1 d1 q1 q2 => Sum_arg _ n1 n2 d1 c2 next B1 A2 _ ls W q1 q2 hd1 hl2 (by omega) ho2)
    · exact shift_bad A1 A2 n1 n2 c1 c2 i next xs w r1 (by omega) (by omega) hl1 g1 g2 g3

set_option maxRecDepth 100000 in
theorem adderShift_lifted (os : Os) (started : os.Started) (H : Type) (enc : TypeId × Value → H) :
    ReturnsInHanded {} Try.checked os 9 .any (Rows.adderShiftSpec.pre6 enc Try.prog Try.f9 Rows.adderShiftRow.domain false) (Rows.adderShiftSpec.post enc Try.prog Try.f9 false true false false) := by
  refine returnsInHanded_of_change (C := Try.checked) Try_own started (by kernel_rfl) Try.func9
    (ChangeSpec.witness6 (enc := enc) (C := Try.checked) false ⟨#[], #[.slice Option.none 0 0, .slice Option.none 0 0, .int .i64 0], []⟩ 9 (by kernel_rfl) (by kernel_rfl) (by kernel_rfl) (by kernel_rfl)) ?_
  intro W base args ds gs before hval0 hW _ _
  have hval : ∀ (j : Nat) t v, Try.f9.params[j]? = some t → args[j]? = some v → Value.okWide Try.prog W .any base t v := hval0
  have hW' := hW
  obtain ⟨p, q, hA0, hV, rfl, _, _⟩ := hW
  have hA : DataW.TrodAll enc Try.prog W 0 (fun _ => true) true Try.f9.params.toList args.toList ds p := hA0
  have hpar : Try.f9.params = #[22, 22, 3] := rfl
  rw [hpar] at hA hval
  have hlt : ∀ x ∈ p, x.block < W.heap.size := fun x hx => hW'.lt x (List.mem_append_left _ hx)
  obtain ⟨rfl, rfl⟩ := trodVars_none hV
  clear hA0 hval0
  obtain ⟨v0, vs0, d0, ds0, p0, q0, hargs0, rfl, rfl, h0, r0⟩ := trodAll_cons hA
  obtain ⟨v1, vs1, d1, ds1, p1, q1, hargs1, rfl, rfl, h1, r1⟩ := trodAll_cons r0
  obtain ⟨v2, vs2, d2, ds2, p2, q2, hargs2, rfl, rfl, h2, r2⟩ := trodAll_cons r1
  obtain ⟨hlast, rfl, rfl⟩ := trodAll_nil r2
  obtain rfl : args = #[v0, v1, v2] := by
    apply Array.toList_inj.1
    rw [hargs0, hargs1, hargs2, hlast]
  obtain ⟨A0, n0, cap0, zs0, rfl, hr0, hl0, hlc0, hm0, hn0⟩ := open_intlist (hval 0 22 v0 rfl rfl) h0 (fun x hx => hlt x (List.mem_append_left _ hx))
  obtain ⟨A1, n1, cap1, zs1, rfl, hr1, hl1, hlc1, hm1, hn1⟩ := open_intlist (hval 1 22 v1 rfl rfl) h1 (fun x hx => hlt x (List.mem_append_right _ (List.mem_append_left _ hx)))
  obtain ⟨n2, rfl, rfl, rfl, wf2⟩ := open_int underlying3' (hval 2 3 v2 rfl rfl) h2
  refine (shift_any A0 A1 n0 n1 cap0 cap1 n2 zs0 zs1 W hr0 hr1 hl0 hl1).mono fun e W' ⟨he, hb⟩ => ?_
  subst he
  exact ⟨_, rfl, law_post Try_laidOut hW' rfl (by rw [hpar]; decide +kernel) 4 rfl Try.underlying4 rfl hb⟩

theorem adderShift_holds : Rows.AdderShiftSaid :=
  OpenClaim.holds_of_wide 9 Try.f9 rfl rfl rfl rfl rfl rfl rfl ⟨rfl, rfl, rfl, rfl, rfl⟩ rfl rfl rfl rfl rfl (by kernel_rfl) Try.func9 (by kernel_rfl)
    (of_decide_eq_true (by kernel_rfl)) (by unfold Func.isWrapper; first | (rw [if_pos (by decide +kernel)]; kernel_rfl) | (rw [if_neg (by decide +kernel)]; exact ⟨rfl, rfl⟩))
    (fun os started H enc _ => adderShift_lifted os started H enc)
end Go.Proofs.Ytpeklcbjhkchlaa
