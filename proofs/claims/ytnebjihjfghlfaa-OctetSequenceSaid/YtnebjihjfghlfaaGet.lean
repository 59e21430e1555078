/- The walks of GetInt and of the document's own. -/
import Derived.Test.YtnebjihjfghlfaaPut2
namespace Go.Proofs.Ytnebjihjfghlfaa
open Go.RowKit

theorem g_out {bs : List Nat} {i : Int} (h : i < 0 ∨ (bs.length : Int) < i) : Oct.gE bs i = 1 ∧ Oct.gV bs i = 0 ∧ Oct.gN bs i = 0 := by
  have h1 : Oct.gE bs i = 1 := by rw [Oct.gE, if_pos h]
  exact ⟨h1, by rw [Oct.gV, h1, if_neg (by omega)], by rw [Oct.gN, h1, if_neg (by omega)]⟩
theorem g_bad {bs : List Nat} {k e : Nat} (hk : k ≤ bs.length) (he : e ≠ 0) (h : Oct.scan 0 0 (bs.drop k) = (e, 0, 0)) : Oct.gE bs (k : Int) = e ∧ Oct.gV bs (k : Int) = 0 ∧ Oct.gN bs (k : Int) = 0 := by
  have h1 : Oct.gE bs (k : Int) = e := by rw [Oct.gE, if_neg (by omega), Int.toNat_natCast, h]
  exact ⟨h1, by rw [Oct.gV, h1, if_neg he], by rw [Oct.gN, h1, if_neg he]⟩
theorem g_good {bs : List Nat} {k v m : Nat} (hk : k ≤ bs.length) (h : Oct.scan 0 0 (bs.drop k) = (0, v, m)) : Oct.gE bs (k : Int) = 0 ∧ Oct.gV bs (k : Int) = Oct.unzz v ∧ Oct.gN bs (k : Int) = k + m := by
  have h1 : Oct.gE bs (k : Int) = 0 := by rw [Oct.gE, if_neg (by omega), Int.toNat_natCast, h]
  exact ⟨h1, by rw [Oct.gV, h1, if_pos rfl, Int.toNat_natCast, h], by rw [Oct.gN, h1, if_pos rfl, Int.toNat_natCast, h]⟩
theorem ret3 {a a' b b' c c' : Int} (h1 : a = a') (h2 : b = b') (h3 : c = c') : Ending.returned (.tuple #[.int .i64 a, .int .i64 b, .int .i64 c]) = .returned (.tuple #[.int .i64 a', .int .i64 b', .int .i64 c']) := by rw [h1, h2, h3]
theorem and127 (c : Nat) (hc : c < 256) : bits .and .u8 (c : Int) 127 = ((c % 128 : Nat) : Int) := by
  have h := u8_and_nat c 127 hc (by omega)
  rw [nat_mask7] at h
  exact h
theorem pow7 (k : Nat) : (2 : Nat) ^ (7 * k) = 128 ^ k := by rw [Nat.pow_mul]
theorem shl7 (x k : Nat) : ((x : Nat) : Int) * 2 ^ (7 * k) = ((x * 128 ^ k : Nat) : Int) := by
  rw [← pow7]; have h : ((2 ^ (7 * k) : Nat) : Int) = (2 : Int) ^ (7 * k) := Int.natCast_pow 2 (7 * k)
  rw [← h]; exact (Int.natCast_mul _ _).symm
theorem pow_le9 {k : Nat} (h : k ≤ 9) : 128 ^ k ≤ 9223372036854775808 := by
  have := Nat.pow_le_pow_right (n := 128) (by omega) h
  rwa [Oct.p9] at this
theorem pow_le8 {k : Nat} (h : k ≤ 8) : 128 ^ k ≤ 72057594037927936 := by
  have := Nat.pow_le_pow_right (n := 128) (by omega) h
  rwa [show (128 : Nat) ^ 8 = 72057594037927936 by decide] at this
/-- One byte more: its part of the number, and the sum. -/
theorem part_lt {c k u : Nat} (hk : k ≤ 9) (hc : c < 256) (h9 : k = 9 → c ≤ 1) (hu : u < 128 ^ k) : c % 128 * 128 ^ k ≤ 9223372036854775808 ∧ u + c % 128 * 128 ^ k < 2 * 9223372036854775808 ∧ bits .or .u64 (u : Int) ((c % 128 * 128 ^ k : Nat) : Int) = ((u + c % 128 * 128 ^ k : Nat) : Int) ∧ (k ≤ 8 → u + c % 128 * 128 ^ k < 128 ^ (k + 1)) := by
  have hp := pow_le9 hk
  have h1 : c % 128 * 128 ^ k ≤ 9223372036854775808 := by
    rcases Nat.lt_or_ge 8 k with h | h
    · have h2 : c % 128 ≤ 1 := by have := h9 (by omega); omega
      calc c % 128 * 128 ^ k ≤ 1 * 128 ^ k := Nat.mul_le_mul_right _ h2
        _ ≤ _ := by omega
    · have h2 := pow_le8 h
      calc c % 128 * 128 ^ k ≤ 127 * 128 ^ k := Nat.mul_le_mul_right _ (by omega)
        _ ≤ _ := by omega
  refine ⟨h1, by omega, ?_, fun h => ?_⟩
  · rw [u64_or_nat _ _ (by omega) (by omega), Nat.or_comm, nat_join (7 * k) _ u (by rw [pow7]; exact Nat.mul_mod_left _ _) (by rw [pow7]; exact hu), Nat.add_comm]
  · rw [Nat.pow_succ]
    have : c % 128 * 128 ^ k ≤ 127 * 128 ^ k := Nat.mul_le_mul_right _ (by omega)
    omega

theorem GetInt_out (A : Option Addr) (len cap : Nat) (i : Int) (w : World) (h : i < 0 ∨ (len : Int) < i) :
    Calls Try.prog 13 #[.slice A len cap, .int .i64 i] w fun e w' => e = .returned (.tuple #[.int .i64 0, .int .i64 0, .int .i64 1]) ∧ w = w' := by
  by_cases h0 : i < 0
  · go_enter Try.func13, Try.ntmps13
    go_wp2
    go_ret3
    exact ⟨rfl, rfl⟩
  · have h1 : (len : Int) < i := by omega
    clear h
    go_enter Try.func13, Try.ntmps13
    go_wp2
    go_ret3
    exact ⟨rfl, rfl⟩

set_option maxRecDepth 20000 in
set_option maxHeartbeats 2000000 in
theorem GetInt_in (B : Nat) (A : Option Addr) (len cap a : Nat) (bs : List Nat) (w : World) (hr : Rd B w A bs) (hl : bs.length = len) (hm : len ≤ maxLen) (ha : a ≤ len) :
    Calls Try.prog 13 #[.slice A len cap, .int .i64 (a : Int)] w fun e w' => e = .returned (.tuple #[.int .i64 (Oct.gV bs (a : Int)), .int .i64 (Oct.gN bs (a : Int) : Nat), .int .i64 (Oct.gE bs (a : Int) : Nat)]) ∧ w = w' := by
  unfold maxLen at hm
  have H := Lib.hid hl
  have Ha : Hid (a ≤ bs.length) := by show _ ≤ _; omega
  clear hl
  go_enter Try.func13, Try.ntmps13
  go_wp2
  go_loop [7, 18] (fun uv i => ∃ k u : Nat, k ≤ 9 ∧ a + k ≤ len ∧ i = .int .i64 k ∧ uv = .int .u64 (u : Int) ∧ Hid (Oct.scan 0 0 (bs.drop a) = Oct.scan k u (bs.drop (a + k))) ∧ Hid (u < 128 ^ k)) (fun _ i => 10 - (intOf i).toNat)
  case atStart => exact ⟨0, 0, by omega, by omega, rfl, rfl, rfl, by show (0 : Nat) < 128 ^ 0; decide⟩
  case round =>
    obtain ⟨k, u, hk9, hak, rfl, rfl, hscan, hu⟩ := hrel
    by_cases hend : len ≤ a + k
    · have hsc : Oct.scan 0 0 (bs.drop a) = (10, 0, 0) := by rw [hscan.out, List.drop_eq_nil_of_le (by rw [H.out]; omega), Oct.scan]
      obtain ⟨e1, e2, e3⟩ := g_bad Ha.out (by decide) hsc
      have E1 := Lib.hid e1; have E2 := Lib.hid e2; have E3 := Lib.hid e3
      clear hsc e1 e2 e3
      go_wp2
      go_ret3
      exact ⟨by rw [E1.out, E2.out, E3.out]; rfl, rfl⟩
    · obtain ⟨b, off, rfl, _, hc⟩ := hr.2 (by rw [H.out]; omega)
      have hck := hc (a + k) (by rw [H.out]; omega)
      have hcons : Hid (bs.drop (a + k) = (bs[a + k]?.getD 0) :: bs.drop (a + k + 1)) := by
        show _ = _
        rw [List.drop_eq_getElem_cons (by rw [H.out]; omega), List.getElem?_eq_getElem (by rw [H.out]; omega)]; rfl
      have hcb := hr.byte (a + k)
      generalize bs[a + k]?.getD 0 = c at *
      clear hc
      have hand := and127 c hcb
      by_cases hbad : k = 9 ∧ 1 < c
      · obtain ⟨rfl, hc1⟩ := hbad
        have hsc : Oct.scan 0 0 (bs.drop a) = (11, 0, 0) := by rw [hscan.out, hcons.out, Oct.scan, if_pos ⟨rfl, hc1⟩]
        obtain ⟨e1, e2, e3⟩ := g_bad Ha.out (by decide) hsc
        have E1 := Lib.hid e1; have E2 := Lib.hid e2; have E3 := Lib.hid e3
        clear hsc e1 e2 e3
        go_wp2
        go_ret3
        exact ⟨by rw [E1.out, E2.out, E3.out]; rfl, rfl⟩
      · have h9 : k = 9 → c ≤ 1 := fun h => by omega
        obtain ⟨p1, p2, p3, p4⟩ := part_lt hk9 hcb h9 hu.out
        have hshl := shl7 (c % 128) k
        have hsum : Hid (128 ≤ c → Oct.scan k u (bs.drop (a + k)) = Oct.scan (k + 1) (u + c % 128 * 128 ^ k) (bs.drop (a + (k + 1)))) := by
          show _ → _
          intro h128
          rw [hcons.out, Oct.scan, if_neg hbad, if_neg (by omega), show c - 128 = c % 128 by omega, Nat.add_assoc]
        have hlow : Hid (c < 128 → Oct.scan k u (bs.drop (a + k)) = if c = 0 ∧ 0 < k then (11, 0, 0) else (0, u + c % 128 * 128 ^ k, k + 1)) := by
          show _ → _
          intro h128
          rw [hcons.out, Oct.scan, if_neg hbad, if_pos h128, show c % 128 = c by omega]
        have P4 := Lib.hid p4
        have Hy : Hid (c % 128 * 128 ^ k ≤ 9223372036854775808) := p1
        have h9b : ((k : Int) == 9) = true → (c : Int) ≤ 1 := fun h => by rw [beq_iff_eq] at h; omega
        have hd : c % 128 < 128 := by omega
        have hpart : Hid (128 ≤ c ∨ c % 128 = c) := by show _ ∨ _; omega
        obtain ⟨y, hy⟩ : ∃ y, c % 128 * 128 ^ k = y := ⟨_, rfl⟩
        rw [hy] at p1 p2 p3 P4 hshl hsum hlow Hy
        obtain ⟨s, hs⟩ : ∃ s, u + y = s := ⟨_, rfl⟩
        rw [hs] at p2 p3 P4 hsum hlow
        generalize c % 128 = d at *
        clear p4 h9 hbad hy hs hpart
        have hmid : Hid True := trivial
        by_cases h128 : 128 ≤ c
        · have hk8 : k ≤ 8 := by
            rcases Nat.lt_or_ge 8 k with h | h
            · exfalso; have := h9b (by rw [beq_iff_eq]; omega); omega
            · exact h
          have hkb : ((k : Int) == 9) = false := by rw [beq_eq_false_iff_ne]; omega
          have hs2 : Hid (Oct.scan 0 0 (bs.drop a) = Oct.scan (k + 1) s (bs.drop (a + (k + 1)))) := by show _ = _; rw [hscan.out]; exact hsum.out h128
          have hu2 : Hid (s < 128 ^ (k + 1)) := P4.out hk8
          clear h9b
          go_wp2
          go_round
          case rel => exact ⟨k + 1, s, by omega, by omega, by go_num, by go_num, hs2, hu2⟩
          case measure => simp [intOf]; omega
        · by_cases hz : c = 0 ∧ 0 < k
          · obtain ⟨rfl, hk0⟩ := hz
            have hsc : Oct.scan 0 0 (bs.drop a) = (11, 0, 0) := by rw [hscan.out, hlow.out (by omega), if_pos ⟨rfl, hk0⟩]
            obtain ⟨e1, e2, e3⟩ := g_bad Ha.out (by decide) hsc
            have E1 := Lib.hid e1; have E2 := Lib.hid e2; have E3 := Lib.hid e3
            clear hsc e1 e2 e3 h9b
            by_cases hkb : k = 9
            · subst hkb
              go_wp2
              go_ret3
              exact ⟨by rw [E1.out, E2.out, E3.out]; rfl, rfl⟩
            · have hkb' : ((k : Int) == 9) = false := by rw [beq_eq_false_iff_ne]; omega
              go_wp2
              go_ret3
              exact ⟨by rw [E1.out, E2.out, E3.out]; rfl, rfl⟩
          · have hsc : Oct.scan 0 0 (bs.drop a) = (0, s, k + 1) := by rw [hscan.out, hlow.out (by omega), if_neg hz]
            obtain ⟨e1, e2, e3⟩ := g_good Ha.out hsc
            have E1 := Lib.hid e1; have E2 := Lib.hid e2; have E3 := Lib.hid e3
            clear hsc e1 e2 e3
            have hsy : s < 18446744073709551616 := by omega
            have Hsy := Lib.hid hsy
            have hc128 : c < 128 := by omega
            clear hsy p2 p1
            have hp1 : y ≤ 18446744073709551615 := by have := Hy.out; omega
            by_cases hkb : k = 9
            · have hc1 : (c : Int) ≤ 1 := h9b (by rw [beq_iff_eq]; omega)
              have hkt : ((k : Int) == 9) = true := by rw [beq_iff_eq]; omega
              have hc0 : ((c : Int) == 0) = false := by rw [beq_eq_false_iff_ne]; omega
              have Hkb := Lib.hid hkb
              clear h9b hz hkb
              go_wp2_with (go_at_call 26; refine (unzigzag_any s _ Hsy.out).mono ?_; rintro e w' ⟨rfl, rfl⟩)
              go_ret3
              exact ⟨by rw [E1.out, E2.out, E3.out]; exact ret3 rfl (by omega) rfl, rfl⟩
            · have hkb' : ((k : Int) == 9) = false := by rw [beq_eq_false_iff_ne]; omega
              clear h9b hkb
              by_cases hc0 : c = 0
              · have hk0 : k ≤ 0 := by omega
                have hct : ((c : Int) == 0) = true := by rw [beq_iff_eq]; omega
                clear hz hc0
                go_wp2_with (go_at_call 26; refine (unzigzag_any s _ Hsy.out).mono ?_; rintro e w' ⟨rfl, rfl⟩)
                go_ret3
                exact ⟨by rw [E1.out, E2.out, E3.out]; exact ret3 rfl (by omega) rfl, rfl⟩
              · have hc0' : ((c : Int) == 0) = false := by rw [beq_eq_false_iff_ne]; omega
                clear hz hc0
                go_wp2_with (go_at_call 26; refine (unzigzag_any s _ Hsy.out).mono ?_; rintro e w' ⟨rfl, rfl⟩)
                go_ret3
                exact ⟨by rw [E1.out, E2.out, E3.out]; exact ret3 rfl (by omega) rfl, rfl⟩

theorem GetInt_any (B : Nat) (A : Option Addr) (len cap : Nat) (bs : List Nat) (i : Int) (w : World) (hr : Rd B w A bs) (hl : bs.length = len) (hm : len ≤ maxLen) :
    Calls Try.prog 13 #[.slice A len cap, .int .i64 i] w fun e w' => e = .returned (.tuple #[.int .i64 (Oct.gV bs i), .int .i64 (Oct.gN bs i : Nat), .int .i64 (Oct.gE bs i : Nat)]) ∧ w = w' := by
  by_cases h : i < 0 ∨ (len : Int) < i
  · refine (GetInt_out A len cap i w h).mono fun e w' ⟨he, hw⟩ => ⟨?_, hw⟩
    obtain ⟨e1, e2, e3⟩ := g_out (bs := bs) (i := i) (by rw [hl]; exact h)
    rw [he, e1, e2, e3]; rfl
  · obtain ⟨a, rfl⟩ := Int.eq_ofNat_of_zero_le (show 0 ≤ i by omega)
    exact GetInt_in B A len cap a bs w hr hl hm (by omega)

theorem RGetInt_out (A : Option Addr) (len cap : Nat) (i : Int) (w : World) (h : i < 0 ∨ (len : Int) < i) :
    Calls Try.prog 14 #[.slice A len cap, .int .i64 i] w fun e w' => e = .returned (.tuple #[.int .i64 0, .int .i64 0, .int .i64 1]) ∧ w = w' := by
  by_cases h0 : i < 0
  · go_enter Try.func14, Try.ntmps14
    go_wp2
    go_ret3
    exact ⟨rfl, rfl⟩
  · have h1 : (len : Int) < i := by omega
    clear h
    go_enter Try.func14, Try.ntmps14
    go_wp2
    go_ret3
    exact ⟨rfl, rfl⟩

theorem unzz_odd (s : Nat) (h : s % 2 = 1) : Oct.unzz s = -((s / 2 : Nat) : Int) - 1 := by rw [Oct.unzz, if_neg (by omega)]
theorem unzz_even (s : Nat) (h : s % 2 = 0) : Oct.unzz s = ((s / 2 : Nat) : Int) := by rw [Oct.unzz, if_pos h]

set_option maxRecDepth 20000 in
set_option maxHeartbeats 2000000 in
theorem RGetInt_in (B : Nat) (A : Option Addr) (len cap a : Nat) (bs : List Nat) (w : World) (hr : Rd B w A bs) (hl : bs.length = len) (hm : len ≤ maxLen) (ha : a ≤ len) :
    Calls Try.prog 14 #[.slice A len cap, .int .i64 (a : Int)] w fun e w' => e = .returned (.tuple #[.int .i64 (Oct.gV bs (a : Int)), .int .i64 (Oct.gN bs (a : Int) : Nat), .int .i64 (Oct.gE bs (a : Int) : Nat)]) ∧ w = w' := by
  unfold maxLen at hm
  have H := Lib.hid hl
  have Ha : Hid (a ≤ bs.length) := by show _ ≤ _; omega
  clear hl
  go_enter Try.func14, Try.ntmps14
  go_wp2
  go_loop [7, 8, 9] (fun uv tv i => ∃ k u T : Nat, k ≤ 9 ∧ a + k ≤ len ∧ i = .int .i64 k ∧ uv = .int .u64 (u : Int) ∧ tv = .int .u64 (T : Int) ∧ Hid (Oct.scan 0 0 (bs.drop a) = Oct.scan k u (bs.drop (a + k))) ∧ Hid (u < 128 ^ k) ∧ Hid (T = 128 ^ k)) (fun _ _ i => 11 - (intOf i).toNat)
  case atStart => exact ⟨0, 0, 1, by omega, by omega, rfl, rfl, rfl, rfl, by show (0 : Nat) < 128 ^ 0; decide, rfl⟩
  case round =>
    obtain ⟨k, u, T, hk9, hak, rfl, rfl, rfl, hscan, hu, hT⟩ := hrel
    by_cases hend : len ≤ a + k
    · have hsc : Oct.scan 0 0 (bs.drop a) = (10, 0, 0) := by rw [hscan.out, List.drop_eq_nil_of_le (by rw [H.out]; omega), Oct.scan]
      obtain ⟨e1, e2, e3⟩ := g_bad Ha.out (by decide) hsc
      have E1 := Lib.hid e1; have E2 := Lib.hid e2; have E3 := Lib.hid e3
      have hteq : ((a : Int) + (k : Int) == (len : Int)) = true := by rw [beq_iff_eq]; omega
      clear hsc e1 e2 e3
      go_wp2
      go_ret3
      exact ⟨by rw [E1.out, E2.out, E3.out]; rfl, rfl⟩
    · have hteq : ((a : Int) + (k : Int) == (len : Int)) = false := by rw [beq_eq_false_iff_ne]; omega
      obtain ⟨b, off, rfl, _, hc⟩ := hr.2 (by rw [H.out]; omega)
      have hck := hc (a + k) (by rw [H.out]; omega)
      have hcons : Hid (bs.drop (a + k) = (bs[a + k]?.getD 0) :: bs.drop (a + k + 1)) := by
        show _ = _
        rw [List.drop_eq_getElem_cons (by rw [H.out]; omega), List.getElem?_eq_getElem (by rw [H.out]; omega)]; rfl
      have hcb := hr.byte (a + k)
      generalize bs[a + k]?.getD 0 = c at *
      clear hc
      by_cases hbad : k = 9 ∧ 1 < c
      · obtain ⟨hk, hc1⟩ := hbad
        have hsc : Oct.scan 0 0 (bs.drop a) = (11, 0, 0) := by rw [hscan.out, hcons.out, Oct.scan, if_pos ⟨hk, hc1⟩]
        obtain ⟨e1, e2, e3⟩ := g_bad Ha.out (by decide) hsc
        have E1 := Lib.hid e1; have E2 := Lib.hid e2; have E3 := Lib.hid e3
        have hkt : ((k : Int) == 9) = true := by rw [beq_iff_eq]; omega
        clear hsc e1 e2 e3 hk
        go_wp2
        go_ret3
        exact ⟨by rw [E1.out, E2.out, E3.out]; rfl, rfl⟩
      · have h9 : k = 9 → c ≤ 1 := fun h => by omega
        obtain ⟨p1, p2, _, p4⟩ := part_lt hk9 hcb h9 hu.out
        have hsum : Hid (128 ≤ c → Oct.scan k u (bs.drop (a + k)) = Oct.scan (k + 1) (u + c % 128 * 128 ^ k) (bs.drop (a + (k + 1)))) := by
          show _ → _
          intro h128
          rw [hcons.out, Oct.scan, if_neg hbad, if_neg (by omega), show c - 128 = c % 128 by omega, Nat.add_assoc]
        have hlow : Hid (c < 128 → Oct.scan k u (bs.drop (a + k)) = if c = 0 ∧ 0 < k then (11, 0, 0) else (0, u + c % 128 * 128 ^ k, k + 1)) := by
          show _ → _
          intro h128
          rw [hcons.out, Oct.scan, if_neg hbad, if_pos h128, show c % 128 = c by omega]
        have P4 := Lib.hid p4
        have hT63 : T ≤ 9223372036854775808 := by rw [hT.out]; exact pow_le9 hk9
        have hT8 : Hid (k ≤ 8 → T ≤ 72057594037927936) := fun h => by rw [hT.out]; exact pow_le8 h
        have hd : c % 128 < 128 := by omega
        have hdi : (c : Int) % 128 = ((c % 128 : Nat) : Int) := by omega
        have hkey : (k : Int) < 9 ∨ c ≤ 1 := by omega
        rw [← hT.out] at p1 p2 P4 hsum hlow
        obtain ⟨y, hy⟩ : ∃ y, c % 128 * T = y := ⟨_, rfl⟩
        rw [hy] at p1 p2 P4 hsum hlow
        have hyi : ((c % 128 : Nat) : Int) * (T : Int) = (y : Int) := by rw [← hy]; exact (Int.natCast_mul _ _).symm
        obtain ⟨s, hs⟩ : ∃ s, u + y = s := ⟨_, rfl⟩
        rw [hs] at p2 P4 hsum hlow
        have hsi : (u : Int) + (y : Int) = (s : Int) := by omega
        have hus : u ≤ 18446744073709551615 := by omega
        have hys : y ≤ 18446744073709551615 := by omega
        have hss : s ≤ 18446744073709551615 := by omega
        generalize c % 128 = d at *
        clear p4 h9 hbad hy hs p1 p2
        by_cases h128 : 128 ≤ c
        · have hk8 : k ≤ 8 := by omega
          have hkb : ((k : Int) == 9) = false := by rw [beq_eq_false_iff_ne]; omega
          have hcz : ((c : Int) == 0) = false := by rw [beq_eq_false_iff_ne]; omega
          have hs2 : Hid (Oct.scan 0 0 (bs.drop a) = Oct.scan (k + 1) s (bs.drop (a + (k + 1)))) := by show _ = _; rw [hscan.out]; exact hsum.out h128
          have hu2 : Hid (s < 128 ^ (k + 1)) := P4.out hk8
          have hTb := hT8.out hk8
          have hT2 : Hid (T * 128 = 128 ^ (k + 1)) := by show _ = _; rw [hT.out, Nat.pow_succ]
          clear hkey
          go_wp2
          go_round
          case rel => exact ⟨k + 1, s, T * 128, by omega, by omega, by go_num, rfl, by go_num, hs2, hu2, hT2⟩
          case measure => simp [intOf]; omega
        · by_cases hz : c = 0 ∧ 0 < k
          · obtain ⟨hc0, hk0⟩ := hz
            have hsc : Oct.scan 0 0 (bs.drop a) = (11, 0, 0) := by rw [hscan.out, hlow.out (by omega), if_pos ⟨hc0, hk0⟩]
            obtain ⟨e1, e2, e3⟩ := g_bad Ha.out (by decide) hsc
            have E1 := Lib.hid e1; have E2 := Lib.hid e2; have E3 := Lib.hid e3
            have hct : ((c : Int) == 0) = true := by rw [beq_iff_eq]; omega
            have hcle : c ≤ 0 := by omega
            clear hsc e1 e2 e3 hkey hc0
            rcases (show ((k : Int) == 9) = true ∨ ((k : Int) == 9) = false from by cases ((k : Int) == 9) <;> simp) with hkb | hkb
            all_goals
              go_wp2
              go_ret3
              exact ⟨by rw [E1.out, E2.out, E3.out]; rfl, rfl⟩
          · have hsc : Oct.scan 0 0 (bs.drop a) = (0, s, k + 1) := by rw [hscan.out, hlow.out (by omega), if_neg hz]
            obtain ⟨e1, e2, e3⟩ := g_good Ha.out hsc
            have E1 := Lib.hid e1; have E2 := Lib.hid e2; have E3 := Lib.hid e3
            clear hsc e1 e2 e3
            have hO : Hid (s % 2 = 1 → Oct.unzz s = -((s / 2 : Nat) : Int) - 1) := unzz_odd s
            have hV : Hid (s % 2 = 0 → Oct.unzz s = ((s / 2 : Nat) : Int)) := unzz_even s
            have hc128 : c < 128 := by omega
            rcases (show (k = 9 ∧ c = 1) ∨ (k < 9 ∧ c = 0 ∧ k = 0) ∨ (k < 9 ∧ c ≠ 0) by omega) with ⟨hx1, hx2⟩ | ⟨hx1, hx2, hx3⟩ | ⟨hx1, hx2⟩
            · have t1 : ((k : Int) == 9) = true := by rw [beq_iff_eq]; omega
              have t2 : ((c : Int) == 0) = false := by rw [beq_eq_false_iff_ne]; omega
              have hcle : c ≤ 1 := by omega
              clear hx1 hx2 hz hkey
              rcases Nat.mod_two_eq_zero_or_one s with hp | hp
              · have t3 : ((s : Int) % 2 == 1) = false := by rw [beq_eq_false_iff_ne]; omega
                have HU := Lib.hid (hV.out hp)
                clear hp
                go_wp2
                go_ret3
                exact ⟨by rw [E1.out, E2.out, E3.out, HU.out]; exact ret3 (by omega) (by omega) rfl, rfl⟩
              · have t3 : ((s : Int) % 2 == 1) = true := by rw [beq_iff_eq]; omega
                have HU := Lib.hid (hO.out hp)
                clear hp
                go_wp2
                go_ret3
                exact ⟨by rw [E1.out, E2.out, E3.out, HU.out]; exact ret3 (by omega) (by omega) rfl, rfl⟩
            · have t1 : ((k : Int) == 9) = false := by rw [beq_eq_false_iff_ne]; omega
              have t2 : ((c : Int) == 0) = true := by rw [beq_iff_eq]; omega
              have hkle : k ≤ 0 := by omega
              clear hx2 hx3 hz hkey
              rcases Nat.mod_two_eq_zero_or_one s with hp | hp
              · have t3 : ((s : Int) % 2 == 1) = false := by rw [beq_eq_false_iff_ne]; omega
                have HU := Lib.hid (hV.out hp)
                clear hp
                go_wp2
                go_ret3
                exact ⟨by rw [E1.out, E2.out, E3.out, HU.out]; exact ret3 (by omega) (by omega) rfl, rfl⟩
              · have t3 : ((s : Int) % 2 == 1) = true := by rw [beq_iff_eq]; omega
                have HU := Lib.hid (hO.out hp)
                clear hp
                go_wp2
                go_ret3
                exact ⟨by rw [E1.out, E2.out, E3.out, HU.out]; exact ret3 (by omega) (by omega) rfl, rfl⟩
            · have t1 : ((k : Int) == 9) = false := by rw [beq_eq_false_iff_ne]; omega
              have t2 : ((c : Int) == 0) = false := by rw [beq_eq_false_iff_ne]; omega
              clear hx2 hz hkey
              rcases Nat.mod_two_eq_zero_or_one s with hp | hp
              · have t3 : ((s : Int) % 2 == 1) = false := by rw [beq_eq_false_iff_ne]; omega
                have HU := Lib.hid (hV.out hp)
                clear hp
                go_wp2
                go_ret3
                exact ⟨by rw [E1.out, E2.out, E3.out, HU.out]; exact ret3 (by omega) (by omega) rfl, rfl⟩
              · have t3 : ((s : Int) % 2 == 1) = true := by rw [beq_iff_eq]; omega
                have HU := Lib.hid (hO.out hp)
                clear hp
                go_wp2
                go_ret3
                exact ⟨by rw [E1.out, E2.out, E3.out, HU.out]; exact ret3 (by omega) (by omega) rfl, rfl⟩
theorem RGetInt_any (B : Nat) (A : Option Addr) (len cap : Nat) (bs : List Nat) (i : Int) (w : World) (hr : Rd B w A bs) (hl : bs.length = len) (hm : len ≤ maxLen) :
    Calls Try.prog 14 #[.slice A len cap, .int .i64 i] w fun e w' => e = .returned (.tuple #[.int .i64 (Oct.gV bs i), .int .i64 (Oct.gN bs i : Nat), .int .i64 (Oct.gE bs i : Nat)]) ∧ w = w' := by
  by_cases h : i < 0 ∨ (len : Int) < i
  · refine (RGetInt_out A len cap i w h).mono fun e w' ⟨he, hw⟩ => ⟨?_, hw⟩
    obtain ⟨e1, e2, e3⟩ := g_out (bs := bs) (i := i) (by rw [hl]; exact h)
    rw [he, e1, e2, e3]; rfl
  · obtain ⟨a, rfl⟩ := Int.eq_ofNat_of_zero_le (show 0 ≤ i by omega)
    exact RGetInt_in B A len cap a bs w hr hl hm (by omega)
end Go.Proofs.Ytnebjihjfghlfaa
