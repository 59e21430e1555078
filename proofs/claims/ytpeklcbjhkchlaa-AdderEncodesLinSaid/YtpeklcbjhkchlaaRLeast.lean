/- The walk of the reference's Least. -/
import Derived.Test.YtpeklcbjhkchlaaLeast
namespace Go.Proofs.Ytpeklcbjhkchlaa
open Go.RowKit
set_option maxRecDepth 100000

theorem results18 (tm : Array Value) (w : World) : (results Try.f18 tm).run Try.prog w = .ok (.tuple #[tm[4]?.getD undef, tm[5]?.getD undef]) w := by
  have hr : Try.f18.results = #[.tmp 4, .tmp 5] := rfl
  simp only [results, hr]
  simp [go_sem]
theorem le_nil18 {w W : World} {E : Int} {tm : Array Value} (hb : Below w.heap.size w W) (h4 : tm[4]?.getD undef = .slice Option.none 0 0) (h5 : tm[5]?.getD undef = .int .i64 E) :
    bodyPost Try.prog Try.f18 (LeRes w [] E) .ret { tmps := tm, defers := [] } W := by
  refine bodyPost_ret (results18 tm W) rfl ?_
  rw [h4, h5]
  exact ⟨Option.none, 0, rfl, fun q => absurd q (by simp), hb, fun j q => absurd q (by simp)⟩
theorem le_done18 {w W : World} {cl : List (List Int)} {tm : Array Value} {v : Value} (h : Cls W w.heap.size v cl) (hb : Below w.heap.size w W) (h4 : tm[4]?.getD undef = v) (h5 : tm[5]?.getD undef = .int .i64 0) :
    bodyPost Try.prog Try.f18 (LeRes w cl 0) .ret { tmps := tm, defers := [] } W := by
  refine bodyPost_ret (results18 tm W) rfl ?_
  rw [h4, h5]
  obtain ⟨A, c, rfl, h1, h2⟩ := h.res
  exact ⟨A, c, rfl, h1, hb, h2⟩
theorem RLeast_low (A : Option Addr) (n c : Nat) (k : Int) (w : World) (h : k < 0 ∨ 4503599627370496 < k) :
    Calls Try.prog 18 #[.slice A n c, .int .i64 k] w (LeRes w [] 1) := by
  by_cases h1 : k < 0
  · clear h
    go_enter Try.func18, Try.ntmps18
    go_wp2_with fail
    exact le_nil18 (Below.refl _ _) rfl rfl
  · have h2 : 4503599627370496 < k := by omega
    have h3 : 0 ≤ k := by omega
    clear h h1
    go_enter Try.func18, Try.ntmps18
    go_wp2_with fail
    exact le_nil18 (Below.refl _ _) rfl rfl
theorem far_split {x : Int} (h : farB x = true) : x < -65536 ∨ (-65536 ≤ x ∧ 65536 < x) := by
  unfold farB at h; simp at h; omega
theorem far_not {x : Int} (h : farB x = false) : -65536 ≤ x ∧ x ≤ 65536 := by
  unfold farB at h; simp at h; omega
/-- The first that is too far. -/
theorem first_far : ∀ (l : List Int), l.any farB = true → ∃ i, i < l.length ∧ farB (l[i]?.getD 0) = true ∧ ∀ j, j < i → farB (l[j]?.getD 0) = false
  | [], h => by simp at h
  | x :: l, h => by
    cases hx : farB x with
    | true => exact ⟨0, by simp, by simpa using hx, fun j hj => absurd hj (Nat.not_lt_zero j)⟩
    | false =>
      obtain ⟨i, h1, h2, h3⟩ := first_far l (by simpa [hx] using h)
      exact ⟨i + 1, by simp; omega, by simpa using h2, fun j hj => by
        cases j with
        | zero => simpa using hx
        | succ j => simpa using h3 j (by omega)⟩
set_option maxHeartbeats 4000000 in
theorem RLeast_far (B : Nat) (A : Option Addr) (n c k : Nat) (bits : List Int) (w : World) (hr : RdI B w A bits) (hl : bits.length = n) (hn : n ≤ maxLen) (hk : k ≤ 4503599627370496) (hf : bits.any farB = true) :
    Calls Try.prog 18 #[.slice A n c, .int .i64 (k : Int)] w (LeRes w [] 1) := by
  obtain ⟨i0, h1, h2, h3⟩ := first_far bits hf
  rw [hl] at h1
  have hn : n ≤ 9223372036854775807 := by unfold maxLen at hn; omega
  obtain ⟨b, off, rfl, _, hc⟩ := hr.2 (by omega)
  rw [hl] at hc
  have H := Lib.hid (And.intro hc (And.intro h2 h3))
  clear hc h2 h3 hr hl hf
  go_enter Try.func18, Try.ntmps18
  go_wp2_with fail
  go_loopw [6] (fun i wr => ∃ j : Nat, j ≤ i0 ∧ i = .int .i64 j ∧ w = wr) (fun i _ => i0 - (intOf i).toNat)
  case atStart => exact ⟨0, by omega, rfl, rfl⟩
  case round =>
    obtain ⟨j, hj, rfl, rfl⟩ := hrel
    have hc1 := H.out.1 j (by omega)
    by_cases hlt : j < i0
    · have hx := H.out.2.2 j hlt
      have hjn : j < n := by omega
      generalize bits[j]?.getD 0 = x at *
      obtain ⟨x1, x2⟩ := far_not hx
      clear hx
      go_wp2_with fail
      go_roundw
      case rel => exact ⟨j + 1, by omega, by go_num, trivial⟩
      case measure => simp [intOf]; omega
    · obtain rfl : j = i0 := by omega
      have hx := H.out.2.1
      clear H
      generalize bits[j]?.getD 0 = x at *
      rcases far_split hx with h | ⟨h4, h5⟩
      · clear hx
        go_wp2_with fail
        exact le_nil18 (Below.refl _ _) rfl rfl
      · clear hx
        go_wp2_with fail
        exact le_nil18 (Below.refl _ _) rfl rfl
theorem not_far {l : List Int} (h : l.any farB = false) (j : Nat) (hj : j < l.length) : -65536 ≤ l[j]?.getD 0 ∧ l[j]?.getD 0 ≤ 65536 := by
  rw [List.getElem?_eq_getElem hj]
  exact far_not (by
    have := List.any_eq_false.1 h _ (List.getElem_mem hj)
    simpa using this)
set_option maxHeartbeats 4000000 in
theorem RLeast_long (B : Nat) (A : Option Addr) (n c k : Nat) (bits : List Int) (w : World) (hr : RdI B w A bits) (hl : bits.length = n) (hn : n ≤ maxLen) (hk : k ≤ 4503599627370496) (hf : bits.any farB = false) (h60 : 60 < n) :
    Calls Try.prog 18 #[.slice A n c, .int .i64 (k : Int)] w (LeRes w [] 2) := by
  have hn : n ≤ 9223372036854775807 := by unfold maxLen at hn; omega
  have hnf := not_far hf
  obtain ⟨b, off, rfl, _, hc⟩ := hr.2 (by omega)
  rw [hl] at hc hnf
  have H := Lib.hid (And.intro hc hnf)
  clear hc hnf hr hl hf
  go_enter Try.func18, Try.ntmps18
  go_wp2_with fail
  go_loopw [6] (fun i wr => ∃ j : Nat, j ≤ n ∧ i = .int .i64 j ∧ w = wr) (fun i _ => n - (intOf i).toNat)
  case atStart => exact ⟨0, by omega, rfl, rfl⟩
  case round =>
    obtain ⟨j, hj, rfl, rfl⟩ := hrel
    by_cases hlt : j < n
    · have hc1 := H.out.1 j hlt
      obtain ⟨x1, x2⟩ := H.out.2 j hlt
      generalize bits[j]?.getD 0 = x at *
      go_wp2_with fail
      go_roundw
      case rel => exact ⟨j + 1, by omega, by go_num, trivial⟩
      case measure => simp [intOf]; omega
    · obtain rfl : j = n := by omega
      clear H
      go_wp2_with fail
      exact le_nil18 (Below.refl _ _) rfl rfl
theorem bit0_of (t j : Nat) (ht : t < 4503599627370497) : (bits BinOp.and IntKind.i64 ((t : Int) / 2 ^ j) 1 == 0) = !t.testBit j := by
  have e : (t : Int) / 2 ^ j = ((t / 2 ^ j : Nat) : Int) := by
    rw [Int.natCast_ediv, Int.natCast_pow]; rfl
  have hlt : t / 2 ^ j ≤ t := Nat.div_le_self _ _
  rw [e, and_one_i64 _ (by omega), Nat.testBit_eq_decide_div_mod_eq]
  by_cases h : t / 2 ^ j % 2 = 1
  · rw [h, decide_eq_true rfl]; rfl
  · rw [decide_eq_false h, show t / 2 ^ j % 2 = 0 by omega]; rfl

set_option maxHeartbeats 8000000 in
theorem RLeast_any (B : Nat) (A : Option Addr) (n c k : Nat) (bits : List Int) (w : World) (hr : RdI B w A bits) (hB : B ≤ w.heap.size) (hl : bits.length = n) (hk : k ≤ 4503599627370496) (hf : bits.any farB = false) (h60 : n ≤ 60) :
    Calls Try.prog 18 #[.slice A n c, .int .i64 (k : Int)] w (LeRes w (ls bits k 60) 0) := by
  have hnf := not_far hf
  rw [hl] at hnf
  have Hl := Lib.hid hl
  have R := Lib.hid hr
  have NF := Lib.hid hnf
  clear hr hl hf hnf
  go_enter Try.func18, Try.ntmps18
  go_wp2_with fail
  go_loopw [6] (fun i wr => ∃ j : Nat, j ≤ n ∧ i = .int .i64 j ∧ w = wr) (fun i _ => n - (intOf i).toNat)
  case atStart => exact ⟨0, by omega, rfl, rfl⟩
  case round =>
    obtain ⟨j, hj, rfl, rfl⟩ := hrel
    by_cases hlt : j < n
    · obtain ⟨b, off, rfl, _, hc⟩ := R.out.2 (by rw [Hl.out]; omega)
      have hc1 := hc j (by rw [Hl.out]; exact hlt)
      obtain ⟨x1, x2⟩ := NF.out j hlt
      clear hc R NF
      generalize bits[j]?.getD 0 = x at *
      go_wp2_with fail
      go_roundw
      case rel => exact ⟨j + 1, by omega, by go_num, trivial⟩
      case measure => simp [intOf]; omega
    · obtain rfl : j = n := by omega
      clear NF
      go_wp2_with fail
      go_loopw [7, 8] (fun v7 vi wr => ∃ i : Nat, i ≤ 60 ∧ vi = .int .i64 i ∧ Hid (Cls wr w.heap.size v7 (ls bits k i)) ∧ Below w.heap.size w wr) (fun _ vi _ => 60 - (intOf vi).toNat)
      case atStart => exact ⟨0, by omega, rfl, Lib.hid (Cls.nil _ _), Below.refl _ _⟩
      case round =>
        obtain ⟨i, hi, rfl, hcl, hlow⟩ := hrel
        rename World => W0
        by_cases hlt : i < 60
        · have hset := bit0_of k i (by omega)
          have hmin : min i 64 = i := by omega
          rcases ht : k.testBit i with _ | _
          · rw [ht] at hset
            have hcl2 : Hid (Cls W0 w.heap.size u7 (ls bits k (i + 1))) := by
              rw [ls, ht]; exact hcl
            clear hcl ht
            go_wp2_with fail
            go_roundw
            case rel => exact ⟨i + 1, by omega, by go_num, hcl2, hlow⟩
            case measure => simp [intOf]; omega
          · rw [ht] at hset
            have Ht := Lib.hid ht
            have f60 : decide ((i : Int) < 60) = true := decide_eq_true (by omega)
            have f60 : decide ((i : Int) < 60) = true := decide_eq_true (by omega)
            by_cases hin : i < j
            · obtain ⟨b, off, hA, _, hc⟩ := (R.out.below hlow hB).2 (by rw [Hl.out]; omega)
              have hc1 := hc i (by rw [Hl.out]; omega)
              have hwz := R.out.wf (j := i) (by rw [Hl.out]; omega)
              have hlc : lc bits k i (0 + 1) = if bits[i + 0]?.getD 0 ≠ 0 ∧ (0 = 0 ∨ k.testBit (i + 0) = false) then lc bits k i 0 ++ [bits[i + 0]?.getD 0] else lc bits k i 0 := rfl
              rw [Nat.add_zero] at hlc
              clear hc
              generalize bits[i]?.getD 0 = z at hc1 hlc hwz
              have hrow0 := RowI.empty W0 W0.heap.size
              have emin : min (0 + 1) (j - i) = 0 + 1 := by omega
              by_cases hz : z = 0
              · subst hz
                rw [if_neg (by simp)] at hlc
                have row0 : Hid (RowI W0 W0.heap.size (.slice Option.none 0 0) (lc bits k i (min (0 + 1) (j - i)))) := by rw [emin, hlc]; exact Lib.hid hrow0
                have low0 : Below W0.heap.size W0 W0 := Below.refl _ _
                replace R := Lib.hid R.out
                clear emin hlc hwz hrow0
                rw [hA] at R ⊢
                clear hA
                go_wp2_with fail
                go_loopw [9, 10] (fun v9 vj wr2 => ∃ d : Nat, (i + 1 + d ≤ j ∨ d = 0) ∧ vj = .int .i64 ((i + 1 + d : Nat) : Int) ∧ RowI wr2 W0.heap.size v9 (lc bits k i (min (d + 1) (j - i))) ∧ Below W0.heap.size W0 wr2) (fun _ vj _ => 60 - (intOf vj).toNat)
                case atStart => exact ⟨0, .inr rfl, by go_num, row0.out, low0⟩
                case round =>
                  obtain ⟨d, hd, rfl, row, low⟩ := hrel
                  have hlw := hlow.trans (low.mono hlow.size)
                  by_cases hjn : i + 1 + d < j
                  · obtain ⟨b, off, hA, _, hc⟩ := (R.out.below hlw hB).2 (by rw [Hl.out]; omega)
                    have hc1 := hc (i + 1 + d) (by rw [Hl.out]; omega)
                    have hwz := R.out.wf (j := i + 1 + d) (by rw [Hl.out]; omega)
                    have hlc : lc bits k i (d + 1 + 1) = if bits[i + (d + 1)]?.getD 0 ≠ 0 ∧ (d + 1 = 0 ∨ k.testBit (i + (d + 1)) = false) then lc bits k i (d + 1) ++ [bits[i + (d + 1)]?.getD 0] else lc bits k i (d + 1) := rfl
                    rw [show i + (d + 1) = i + 1 + d by omega] at hlc
                    rw [show min (d + 1) (j - i) = d + 1 by omega] at row
                    have emin : min (d + 1 + 1) (j - i) = d + 1 + 1 := by omega
                    have Emin := Lib.hid emin
                    clear hc hlw R emin
                    cases hA
                    replace row := Lib.hid row
                    generalize bits[i + 1 + d]?.getD 0 = z at hc1 hlc hwz
                    obtain ⟨q, hq⟩ : ∃ q, q = i + 1 + d := ⟨_, rfl⟩
                    rw [← hq] at hc1 hlc hjn ⊢
                    have Hq := Lib.hid hq
                    have hset2 := bit0_of k q (by omega)
                    have hmin2 : min q 64 = q := by omega
                    rcases ht : k.testBit q with _ | _
                    · rw [ht] at hset2
                      by_cases hz : z = 0
                      · subst hz
                        rw [if_neg (by simp)] at hlc
                        rw [← hlc] at row
                        have row3 := Lib.hid row.out
                        clear row hlc hwz hq ht
                        go_wp2_with fail
                        go_roundw
                        case rel => exact ⟨d + 1, by have := Hq.out; omega, by rw [show i + 1 + (d + 1) = q + 1 by have := Hq.out; omega]; go_num, by rw [Emin.out]; exact row3.out, low⟩
                        case measure => simp [intOf]; omega
                      · have f0 : (z != 0) = true := by simpa using hz
                        rw [if_pos ⟨hz, .inr ht⟩] at hlc
                        have hlc := Lib.hid hlc
                        clear hz hq ht
                        go_wp2_with (at_builtin; refine wpList_push rfl _ _ rfl W0.heap.size _ _ rfl row.out z hwz rfl (by have := lc_len bits k i (d + 1); omega) low.size ?_)
                        intro v' w3 row3 low3
                        have low4 := low.trans low3
                        rw [← hlc.out] at row3
                        have row3 := Lib.hid row3
                        clear row low low3 hlc
                        go_wp2_with fail
                        go_roundw
                        case rel => exact ⟨d + 1, by have := Hq.out; omega, by rw [show i + 1 + (d + 1) = q + 1 by have := Hq.out; omega]; go_num, by rw [Emin.out]; exact row3.out, low4⟩
                        case measure => simp [intOf]; omega
                    · rw [ht] at hset2
                      rw [if_neg (by simp [ht])] at hlc
                      rw [← hlc] at row
                      have row3 := Lib.hid row.out
                      clear row hlc hwz hq ht
                      go_wp2_with fail
                      go_roundw
                      case rel => exact ⟨d + 1, by have := Hq.out; omega, by rw [show i + 1 + (d + 1) = q + 1 by have := Hq.out; omega]; go_num, by rw [Emin.out]; exact row3.out, low⟩
                      case measure => simp [intOf]; omega
                  · rw [show min (d + 1) (j - i) = j - i by omega] at row
                    obtain ⟨A8, c8, hu8, _⟩ := row.shape
                    subst hu8
                    obtain ⟨L8, hL8⟩ : ∃ L8, (lc bits k i (j - i)).length = L8 := ⟨_, rfl⟩
                    rw [hL8] at row ⊢
                    obtain ⟨q, hq⟩ : ∃ q, q = i + 1 + d := ⟨_, rfl⟩
                    rw [← hq] at hjn ⊢
                    have hcl2 := hcl.out.below low
                    obtain ⟨vs, hown, hels⟩ := hcl2
                    have hrow := row.base (base' := w.heap.size) hlow.size
                    have hlen := ls_len bits k i
                    have hlsn : ls bits k (i + 1) = ls bits k i ++ [lc bits k i (j - i)] := by
                      rw [ls, Ht.out, if_pos rfl, Hl.out]
                    have hlsn := Lib.hid hlsn
                    have HH := Lib.hid (And.intro hown (And.intro hels hrow))
                    clear hown hels hrow row hcl low hL8 hq hd
                    go_wp2_with (at_builtin; refine push_row_ex rfl _ _ rfl w.heap.size _ vs _ rfl HH.out.1 HH.out.2.1 _ _ HH.out.2.2 rfl (by omega) hlw.size ?_)
                    intro v' w3 hown3 hels3 hlow3 _ _
                    have hcl3 : Hid (Cls w3 w.heap.size v' (ls bits k (i + 1))) := by
                      rw [hlsn.out]; exact Lib.hid ⟨vs ++ [.slice A8 L8 c8], by rw [List.length_append]; exact hown3, hels3⟩
                    have hlw3 := hlw.trans hlow3
                    clear HH hown3 hels3 hlow3 hlsn
                    go_wp2_with fail
                    go_roundw
                    case rel => exact ⟨i + 1, by omega, by go_num, hcl3, hlw3⟩
                    case measure => simp [intOf]; omega
              · have f0 : (z != 0) = true := by simpa using hz
                rw [if_pos ⟨hz, .inl rfl⟩] at hlc
                have hlc := Lib.hid hlc
                have Emin0 := Lib.hid emin
                rw [hA] at R ⊢
                clear hz emin hA
                go_wp2_with (at_builtin; refine wpList_push rfl _ _ rfl W0.heap.size _ _ rfl hrow0 z hwz rfl (by simp) (Nat.le_refl _) ?_)
                intro v0 w1 row0 low0
                replace row0 : RowI w1 W0.heap.size v0 (lc bits k i 0 ++ [z]) := row0
                rw [← hlc.out] at row0
                replace row0 : RowI w1 W0.heap.size v0 (lc bits k i (min (0 + 1) (j - i))) := by rw [Emin0.out]; exact row0
                replace row0 := Lib.hid row0
                clear hrow0 hlc Emin0
                go_wp2_with fail
                go_loopw [9, 10] (fun v9 vj wr2 => ∃ d : Nat, (i + 1 + d ≤ j ∨ d = 0) ∧ vj = .int .i64 ((i + 1 + d : Nat) : Int) ∧ RowI wr2 W0.heap.size v9 (lc bits k i (min (d + 1) (j - i))) ∧ Below W0.heap.size W0 wr2) (fun _ vj _ => 60 - (intOf vj).toNat)
                case atStart => exact ⟨0, .inr rfl, by go_num, row0.out, low0⟩
                case round =>
                  obtain ⟨d, hd, rfl, row, low⟩ := hrel
                  have hlw := hlow.trans (low.mono hlow.size)
                  by_cases hjn : i + 1 + d < j
                  · obtain ⟨b, off, hA, _, hc⟩ := (R.out.below hlw hB).2 (by rw [Hl.out]; omega)
                    have hc1 := hc (i + 1 + d) (by rw [Hl.out]; omega)
                    have hwz := R.out.wf (j := i + 1 + d) (by rw [Hl.out]; omega)
                    have hlc : lc bits k i (d + 1 + 1) = if bits[i + (d + 1)]?.getD 0 ≠ 0 ∧ (d + 1 = 0 ∨ k.testBit (i + (d + 1)) = false) then lc bits k i (d + 1) ++ [bits[i + (d + 1)]?.getD 0] else lc bits k i (d + 1) := rfl
                    rw [show i + (d + 1) = i + 1 + d by omega] at hlc
                    rw [show min (d + 1) (j - i) = d + 1 by omega] at row
                    have emin : min (d + 1 + 1) (j - i) = d + 1 + 1 := by omega
                    have Emin := Lib.hid emin
                    clear hc hlw R emin
                    cases hA
                    replace row := Lib.hid row
                    generalize bits[i + 1 + d]?.getD 0 = z at hc1 hlc hwz
                    obtain ⟨q, hq⟩ : ∃ q, q = i + 1 + d := ⟨_, rfl⟩
                    rw [← hq] at hc1 hlc hjn ⊢
                    have Hq := Lib.hid hq
                    have hset2 := bit0_of k q (by omega)
                    have hmin2 : min q 64 = q := by omega
                    rcases ht : k.testBit q with _ | _
                    · rw [ht] at hset2
                      by_cases hz : z = 0
                      · subst hz
                        rw [if_neg (by simp)] at hlc
                        rw [← hlc] at row
                        have row3 := Lib.hid row.out
                        clear row hlc hwz hq ht
                        go_wp2_with fail
                        go_roundw
                        case rel => exact ⟨d + 1, by have := Hq.out; omega, by rw [show i + 1 + (d + 1) = q + 1 by have := Hq.out; omega]; go_num, by rw [Emin.out]; exact row3.out, low⟩
                        case measure => simp [intOf]; omega
                      · have f0 : (z != 0) = true := by simpa using hz
                        rw [if_pos ⟨hz, .inr ht⟩] at hlc
                        have hlc := Lib.hid hlc
                        clear hz hq ht
                        go_wp2_with (at_builtin; refine wpList_push rfl _ _ rfl W0.heap.size _ _ rfl row.out z hwz rfl (by have := lc_len bits k i (d + 1); omega) low.size ?_)
                        intro v' w3 row3 low3
                        have low4 := low.trans low3
                        rw [← hlc.out] at row3
                        have row3 := Lib.hid row3
                        clear row low low3 hlc
                        go_wp2_with fail
                        go_roundw
                        case rel => exact ⟨d + 1, by have := Hq.out; omega, by rw [show i + 1 + (d + 1) = q + 1 by have := Hq.out; omega]; go_num, by rw [Emin.out]; exact row3.out, low4⟩
                        case measure => simp [intOf]; omega
                    · rw [ht] at hset2
                      rw [if_neg (by simp [ht])] at hlc
                      rw [← hlc] at row
                      have row3 := Lib.hid row.out
                      clear row hlc hwz hq ht
                      go_wp2_with fail
                      go_roundw
                      case rel => exact ⟨d + 1, by have := Hq.out; omega, by rw [show i + 1 + (d + 1) = q + 1 by have := Hq.out; omega]; go_num, by rw [Emin.out]; exact row3.out, low⟩
                      case measure => simp [intOf]; omega
                  · rw [show min (d + 1) (j - i) = j - i by omega] at row
                    obtain ⟨A8, c8, hu8, _⟩ := row.shape
                    subst hu8
                    obtain ⟨L8, hL8⟩ : ∃ L8, (lc bits k i (j - i)).length = L8 := ⟨_, rfl⟩
                    rw [hL8] at row ⊢
                    obtain ⟨q, hq⟩ : ∃ q, q = i + 1 + d := ⟨_, rfl⟩
                    rw [← hq] at hjn ⊢
                    have hcl2 := hcl.out.below low
                    obtain ⟨vs, hown, hels⟩ := hcl2
                    have hrow := row.base (base' := w.heap.size) hlow.size
                    have hlen := ls_len bits k i
                    have hlsn : ls bits k (i + 1) = ls bits k i ++ [lc bits k i (j - i)] := by
                      rw [ls, Ht.out, if_pos rfl, Hl.out]
                    have hlsn := Lib.hid hlsn
                    have HH := Lib.hid (And.intro hown (And.intro hels hrow))
                    clear hown hels hrow row hcl low hL8 hq hd
                    go_wp2_with (at_builtin; refine push_row_ex rfl _ _ rfl w.heap.size _ vs _ rfl HH.out.1 HH.out.2.1 _ _ HH.out.2.2 rfl (by omega) hlw.size ?_)
                    intro v' w3 hown3 hels3 hlow3 _ _
                    have hcl3 : Hid (Cls w3 w.heap.size v' (ls bits k (i + 1))) := by
                      rw [hlsn.out]; exact Lib.hid ⟨vs ++ [.slice A8 L8 c8], by rw [List.length_append]; exact hown3, hels3⟩
                    have hlw3 := hlw.trans hlow3
                    clear HH hown3 hels3 hlow3 hlsn
                    go_wp2_with fail
                    go_roundw
                    case rel => exact ⟨i + 1, by omega, by go_num, hcl3, hlw3⟩
                    case measure => simp [intOf]; omega
            · have row0 : Hid (RowI W0 W0.heap.size (.slice Option.none 0 0) (lc bits k i (min (0 + 1) (j - i)))) := by
                rw [show min (0 + 1) (j - i) = 0 by omega]; exact Lib.hid (RowI.empty W0 W0.heap.size)
              have low0 : Below W0.heap.size W0 W0 := Below.refl _ _
              go_wp2_with fail
              go_loopw [9, 10] (fun v9 vj wr2 => ∃ d : Nat, (i + 1 + d ≤ j ∨ d = 0) ∧ vj = .int .i64 ((i + 1 + d : Nat) : Int) ∧ RowI wr2 W0.heap.size v9 (lc bits k i (min (d + 1) (j - i))) ∧ Below W0.heap.size W0 wr2) (fun _ vj _ => 60 - (intOf vj).toNat)
              case atStart => exact ⟨0, .inr rfl, by go_num, row0.out, low0⟩
              case round =>
                obtain ⟨d, hd, rfl, row, low⟩ := hrel
                have hlw := hlow.trans (low.mono hlow.size)
                by_cases hjn : i + 1 + d < j
                · obtain ⟨b, off, hA, _, hc⟩ := (R.out.below hlw hB).2 (by rw [Hl.out]; omega)
                  have hc1 := hc (i + 1 + d) (by rw [Hl.out]; omega)
                  have hwz := R.out.wf (j := i + 1 + d) (by rw [Hl.out]; omega)
                  have hlc : lc bits k i (d + 1 + 1) = if bits[i + (d + 1)]?.getD 0 ≠ 0 ∧ (d + 1 = 0 ∨ k.testBit (i + (d + 1)) = false) then lc bits k i (d + 1) ++ [bits[i + (d + 1)]?.getD 0] else lc bits k i (d + 1) := rfl
                  rw [show i + (d + 1) = i + 1 + d by omega] at hlc
                  rw [show min (d + 1) (j - i) = d + 1 by omega] at row
                  have emin : min (d + 1 + 1) (j - i) = d + 1 + 1 := by omega
                  have Emin := Lib.hid emin
                  clear hc hlw R emin
                  cases hA
                  replace row := Lib.hid row
                  generalize bits[i + 1 + d]?.getD 0 = z at hc1 hlc hwz
                  obtain ⟨q, hq⟩ : ∃ q, q = i + 1 + d := ⟨_, rfl⟩
                  rw [← hq] at hc1 hlc hjn ⊢
                  have Hq := Lib.hid hq
                  have hset2 := bit0_of k q (by omega)
                  have hmin2 : min q 64 = q := by omega
                  rcases ht : k.testBit q with _ | _
                  · rw [ht] at hset2
                    by_cases hz : z = 0
                    · subst hz
                      rw [if_neg (by simp)] at hlc
                      rw [← hlc] at row
                      have row3 := Lib.hid row.out
                      clear row hlc hwz hq ht
                      go_wp2_with fail
                      go_roundw
                      case rel => exact ⟨d + 1, by have := Hq.out; omega, by rw [show i + 1 + (d + 1) = q + 1 by have := Hq.out; omega]; go_num, by rw [Emin.out]; exact row3.out, low⟩
                      case measure => simp [intOf]; omega
                    · have f0 : (z != 0) = true := by simpa using hz
                      rw [if_pos ⟨hz, .inr ht⟩] at hlc
                      have hlc := Lib.hid hlc
                      clear hz hq ht
                      go_wp2_with (at_builtin; refine wpList_push rfl _ _ rfl W0.heap.size _ _ rfl row.out z hwz rfl (by have := lc_len bits k i (d + 1); omega) low.size ?_)
                      intro v' w3 row3 low3
                      have low4 := low.trans low3
                      rw [← hlc.out] at row3
                      have row3 := Lib.hid row3
                      clear row low low3 hlc
                      go_wp2_with fail
                      go_roundw
                      case rel => exact ⟨d + 1, by have := Hq.out; omega, by rw [show i + 1 + (d + 1) = q + 1 by have := Hq.out; omega]; go_num, by rw [Emin.out]; exact row3.out, low4⟩
                      case measure => simp [intOf]; omega
                  · rw [ht] at hset2
                    rw [if_neg (by simp [ht])] at hlc
                    rw [← hlc] at row
                    have row3 := Lib.hid row.out
                    clear row hlc hwz hq ht
                    go_wp2_with fail
                    go_roundw
                    case rel => exact ⟨d + 1, by have := Hq.out; omega, by rw [show i + 1 + (d + 1) = q + 1 by have := Hq.out; omega]; go_num, by rw [Emin.out]; exact row3.out, low⟩
                    case measure => simp [intOf]; omega
                · rw [show min (d + 1) (j - i) = j - i by omega] at row
                  obtain ⟨A8, c8, hu8, _⟩ := row.shape
                  subst hu8
                  obtain ⟨L8, hL8⟩ : ∃ L8, (lc bits k i (j - i)).length = L8 := ⟨_, rfl⟩
                  rw [hL8] at row ⊢
                  obtain ⟨q, hq⟩ : ∃ q, q = i + 1 + d := ⟨_, rfl⟩
                  rw [← hq] at hjn ⊢
                  have hcl2 := hcl.out.below low
                  obtain ⟨vs, hown, hels⟩ := hcl2
                  have hrow := row.base (base' := w.heap.size) hlow.size
                  have hlen := ls_len bits k i
                  have hlsn : ls bits k (i + 1) = ls bits k i ++ [lc bits k i (j - i)] := by
                    rw [ls, Ht.out, if_pos rfl, Hl.out]
                  have hlsn := Lib.hid hlsn
                  have HH := Lib.hid (And.intro hown (And.intro hels hrow))
                  clear hown hels hrow row hcl low hL8 hq hd
                  go_wp2_with (at_builtin; refine push_row_ex rfl _ _ rfl w.heap.size _ vs _ rfl HH.out.1 HH.out.2.1 _ _ HH.out.2.2 rfl (by omega) hlw.size ?_)
                  intro v' w3 hown3 hels3 hlow3 _ _
                  have hcl3 : Hid (Cls w3 w.heap.size v' (ls bits k (i + 1))) := by
                    rw [hlsn.out]; exact Lib.hid ⟨vs ++ [.slice A8 L8 c8], by rw [List.length_append]; exact hown3, hels3⟩
                  have hlw3 := hlw.trans hlow3
                  clear HH hown3 hels3 hlow3 hlsn
                  go_wp2_with fail
                  go_roundw
                  case rel => exact ⟨i + 1, by omega, by go_num, hcl3, hlw3⟩
                  case measure => simp [intOf]; omega
        · obtain rfl : i = 60 := by omega
          go_wp2_with fail
          exact le_done18 hcl.out hlow rfl rfl
end Go.Proofs.Ytpeklcbjhkchlaa
