/- The walk of Least. -/
import Derived.Test.YtpeklcbjhkchlaaFar
import Derived.Test.YtpeklcbjhkchlaaAdderM
namespace Go.Proofs.Ytpeklcbjhkchlaa
open Go.RowKit
set_option maxRecDepth 100000

/-- The clause of position i: the bits at i and, where k has none, above it. -/
def lc (bits : List Int) (k i : Nat) : Nat → List Int
  | 0 => []
  | d + 1 => if bits[i + d]?.getD 0 ≠ 0 ∧ (d = 0 ∨ k.testBit (i + d) = false) then lc bits k i d ++ [bits[i + d]?.getD 0] else lc bits k i d
def ls (bits : List Int) (k : Nat) : Nat → List (List Int)
  | 0 => []
  | i + 1 => if k.testBit i then ls bits k i ++ [lc bits k i (bits.length - i)] else ls bits k i
theorem lc_len (bits : List Int) (k i : Nat) : ∀ d, (lc bits k i d).length ≤ d
  | 0 => Nat.le_refl _
  | d + 1 => by
    have := lc_len bits k i d
    rw [lc]
    split
    · rw [List.length_append]; simp only [List.length_singleton]; omega
    · omega
theorem ls_len (bits : List Int) (k : Nat) : ∀ i, (ls bits k i).length ≤ i
  | 0 => Nat.le_refl _
  | i + 1 => by
    have := ls_len bits k i
    rw [ls]
    split
    · rw [List.length_append]; simp only [List.length_singleton]; omega
    · omega

/-- Clauses and the error. -/
def LeRes (w : World) (cl : List (List Int)) (E : Int) (e : Ending) (w' : World) : Prop :=
  ∃ A c, e = .returned (.tuple #[.slice A cl.length c, .int .i64 E]) ∧ RdR w'.heap.size w' A cl ∧ Below w.heap.size w w' ∧ ∀ j, j < cl.length → (cl[j]?.getD []).length ≤ maxLen
theorem results17 (tm : Array Value) (w : World) : (results Try.f17 tm).run Try.prog w = .ok (.tuple #[tm[4]?.getD undef, tm[5]?.getD undef]) w := by
  have hr : Try.f17.results = #[.tmp 4, .tmp 5] := rfl
  simp only [results, hr]
  simp [go_sem]
theorem le_nil {w W : World} {E : Int} {tm : Array Value} (hb : Below w.heap.size w W) (h4 : tm[4]?.getD undef = .slice Option.none 0 0) (h5 : tm[5]?.getD undef = .int .i64 E) :
    bodyPost Try.prog Try.f17 (LeRes w [] E) .ret { tmps := tm, defers := [] } W := by
  refine bodyPost_ret (results17 tm W) rfl ?_
  rw [h4, h5]
  exact ⟨Option.none, 0, rfl, fun q => absurd q (by simp), hb, fun j q => absurd q (by simp)⟩
theorem le_done {w W : World} {cl : List (List Int)} {tm : Array Value} {v : Value} (h : Cls W w.heap.size v cl) (hb : Below w.heap.size w W) (h4 : tm[4]?.getD undef = v) (h5 : tm[5]?.getD undef = .int .i64 0) :
    bodyPost Try.prog Try.f17 (LeRes w cl 0) .ret { tmps := tm, defers := [] } W := by
  refine bodyPost_ret (results17 tm W) rfl ?_
  rw [h4, h5]
  obtain ⟨A, c, rfl, h1, h2⟩ := h.res
  exact ⟨A, c, rfl, h1, hb, h2⟩
theorem Least_low (A : Option Addr) (n c : Nat) (k : Int) (w : World) (h : k < 0 ∨ 4503599627370496 < k) :
    Calls Try.prog 17 #[.slice A n c, .int .i64 k] w (LeRes w [] 1) := by
  by_cases h1 : k < 0
  · clear h
    go_enter Try.func17, Try.ntmps17
    go_wp2_with fail
    exact le_nil (Below.refl _ _) rfl rfl
  · have h2 : 4503599627370496 < k := by omega
    have h3 : 0 ≤ k := by omega
    clear h h1
    go_enter Try.func17, Try.ntmps17
    go_wp2_with fail
    exact le_nil (Below.refl _ _) rfl rfl
theorem Least_far (B : Nat) (A : Option Addr) (n c k : Nat) (bits : List Int) (w : World) (hr : RdI B w A bits) (hl : bits.length = n) (hn : n ≤ maxLen) (hk : k ≤ 4503599627370496) (hf : bits.any farB = true) :
    Calls Try.prog 17 #[.slice A n c, .int .i64 (k : Int)] w (LeRes w [] 1) := by
  have hC := Contains35 B A n c bits w hr hl hn
  rw [hf] at hC
  have hC := Lib.hid hC
  clear hr hl hn hf
  go_enter Try.func17, Try.ntmps17
  go_wp2_with fail
  refine hC.out.mono ?_
  rintro e w' ⟨rfl, rfl⟩
  go_wp2_with fail
  exact le_nil (Below.refl _ _) rfl rfl
theorem Least_long (B : Nat) (A : Option Addr) (n c k : Nat) (bits : List Int) (w : World) (hr : RdI B w A bits) (hl : bits.length = n) (hn : n ≤ maxLen) (hk : k ≤ 4503599627370496) (hf : bits.any farB = false) (h60 : 60 < n) :
    Calls Try.prog 17 #[.slice A n c, .int .i64 (k : Int)] w (LeRes w [] 2) := by
  have hC := Contains35 B A n c bits w hr hl hn
  rw [hf] at hC
  have hC := Lib.hid hC
  clear hr hl hn hf
  go_enter Try.func17, Try.ntmps17
  go_wp2_with fail
  refine hC.out.mono ?_
  rintro e w' ⟨rfl, rfl⟩
  go_wp2_with fail
  exact le_nil (Below.refl _ _) rfl rfl

set_option maxHeartbeats 8000000 in
theorem Least_any (B : Nat) (A : Option Addr) (n c k : Nat) (bits : List Int) (w : World) (hr : RdI B w A bits) (hB : B ≤ w.heap.size) (hl : bits.length = n) (hk : k ≤ 4503599627370496) (hf : bits.any farB = false) (h60 : n ≤ 60) :
    Calls Try.prog 17 #[.slice A n c, .int .i64 (k : Int)] w (LeRes w (ls bits k 60) 0) := by
  have hC := Contains35 B A n c bits w hr hl (by unfold maxLen; omega)
  rw [hf] at hC
  have hC := Lib.hid hC
  have Hl := Lib.hid hl
  have R := Lib.hid hr
  clear hr hl hf
  go_enter Try.func17, Try.ntmps17
  go_wp2_with fail
  refine hC.out.mono ?_
  rintro e w' ⟨rfl, rfl⟩
  clear hC
  go_wp2_with fail
  go_loopw [6, 23] (fun v6 vi wr => ∃ i : Nat, i ≤ 60 ∧ vi = .int .i64 i ∧ Hid (Cls wr w.heap.size v6 (ls bits k i)) ∧ Below w.heap.size w wr) (fun _ vi _ => 60 - (intOf vi).toNat)
  case atStart => exact ⟨0, by omega, rfl, Lib.hid (Cls.nil _ _), Below.refl _ _⟩
  case round =>
    obtain ⟨i, hi, rfl, hcl, hlow⟩ := hrel
    rename World => W0
    by_cases hlt : i < 60
    · have hset := fun W => set_any k i W (by omega) (by omega)
      have hset := Lib.hid hset
      rcases ht : k.testBit i with _ | _
      · rw [ht] at hset
        have hcl2 : Hid (Cls W0 w.heap.size u6 (ls bits k (i + 1))) := by
          rw [ls, ht]; exact hcl
        clear hcl ht
        go_wp2_with fail
        refine (hset.out _).mono ?_
        rintro e w' ⟨rfl, rfl⟩
        clear hset
        go_wp2_with fail
        go_roundw
        case rel => exact ⟨i + 1, by omega, by go_num, hcl2, hlow⟩
        case measure => simp [intOf]; omega
      · rw [ht] at hset
        have Ht := Lib.hid ht
        clear ht
        go_wp2_with fail
        refine (hset.out _).mono ?_
        rintro e w' ⟨rfl, rfl⟩
        clear hset
        go_wp2_with fail
        go_loopw [8, 9] (fun v8 vj wr2 => ∃ d : Nat, d ≤ n - i ∧ vj = .int .i64 ((i + d : Nat) : Int) ∧ RowI wr2 W0.heap.size v8 (lc bits k i d) ∧ Below W0.heap.size W0 wr2) (fun _ vj _ => 60 - (intOf vj).toNat)
        case atStart => exact ⟨0, by omega, rfl, RowI.empty _ _, Below.refl _ _⟩
        case round =>
          obtain ⟨d, hd, rfl, row, low⟩ := hrel
          have hlw := hlow.trans (low.mono hlow.size)
          by_cases hjn : i + d < n
          · obtain ⟨b, off, rfl, _, hc⟩ := (R.out.below hlw hB).2 (by rw [Hl.out]; omega)
            have hc1 := hc (i + d) (by rw [Hl.out]; omega)
            have hwz := R.out.wf (j := i + d) (by rw [Hl.out]; omega)
            have hlc : lc bits k i (d + 1) = if bits[i + d]?.getD 0 ≠ 0 ∧ (d = 0 ∨ k.testBit (i + d) = false) then lc bits k i d ++ [bits[i + d]?.getD 0] else lc bits k i d := rfl
            clear hc hlw R
            replace row := Lib.hid row
            generalize bits[i + d]?.getD 0 = z at hc1 hlc hwz
            obtain ⟨j, hj⟩ : ∃ j, j = i + d := ⟨_, rfl⟩
            rw [← hj] at hc1 hlc hjn ⊢
            have Hj := Lib.hid hj
            by_cases hz : z = 0
            · subst hz
              rw [if_neg (by simp)] at hlc
              rw [← hlc] at row
              have row3 := Lib.hid row.out
              clear row hlc hwz hj
              go_wp2_with fail
              go_roundw
              case rel => exact ⟨d + 1, by have := Hj.out; omega, by rw [show i + (d + 1) = j + 1 by have := Hj.out; omega]; go_num, row3.out, low⟩
              case measure => simp [intOf]; omega
            · have f0 : (z != 0) = true := by simpa using hz
              by_cases hd0 : d = 0
              · rw [if_pos ⟨hz, .inl hd0⟩] at hlc
                have hji : j = i := by omega
                have hlc := Lib.hid hlc
                clear hz hj
                subst hji
                subst hd0
                go_wp2_with (at_builtin; refine wpList_push rfl _ _ rfl W0.heap.size _ _ rfl row.out z hwz rfl (by have := lc_len bits k j 0; omega) low.size ?_)
                intro v' w3 row3 low3
                have low4 := low.trans low3
                rw [← hlc.out] at row3
                have row3 := Lib.hid row3
                clear row low low3 hlc
                go_wp2_with fail
                go_roundw
                case rel => exact ⟨0 + 1, by omega, by rw [show j + (0 + 1) = j + 1 by omega]; go_num, row3.out, low4⟩
                case measure => simp [intOf]; omega
              · have f1 : ((j : Int) == (i : Int)) = false := by simp; omega
                have f2 : (j == i) = false := by simp; omega
                have hset := fun W => set_any k j W (by omega) (by omega)
                have hset := Lib.hid hset
                rcases ht : k.testBit j with _ | _
                · rw [if_pos ⟨hz, .inr ht⟩] at hlc
                  rw [ht] at hset
                  have hlc := Lib.hid hlc
                  clear hz hj ht
                  go_wp2_with fail
                  refine (hset.out _).mono ?_
                  rintro e w' ⟨rfl, rfl⟩
                  clear hset
                  go_wp2_with (at_builtin; refine wpList_push rfl _ _ rfl W0.heap.size _ _ rfl row.out z hwz rfl (by have := lc_len bits k i d; omega) low.size ?_)
                  intro v' w3 row3 low3
                  have low4 := low.trans low3
                  rw [← hlc.out] at row3
                  have row3 := Lib.hid row3
                  clear row low low3 hlc
                  go_wp2_with fail
                  go_roundw
                  case rel => exact ⟨d + 1, by have := Hj.out; omega, by rw [show i + (d + 1) = j + 1 by have := Hj.out; omega]; go_num, row3.out, low4⟩
                  case measure => simp [intOf]; omega
                · rw [if_neg (by simp [hd0, ht])] at hlc
                  rw [ht] at hset
                  rw [← hlc] at row
                  have row3 := Lib.hid row.out
                  clear row hlc hwz hz hj ht
                  go_wp2_with fail
                  refine (hset.out _).mono ?_
                  rintro e w' ⟨rfl, rfl⟩
                  clear hset
                  go_wp2_with fail
                  go_roundw
                  case rel => exact ⟨d + 1, by have := Hj.out; omega, by rw [show i + (d + 1) = j + 1 by have := Hj.out; omega]; go_num, row3.out, low⟩
                  case measure => simp [intOf]; omega
          · have hdn : d = n - i := by omega
            obtain ⟨j, hj⟩ : ∃ j, j = i + d := ⟨_, rfl⟩
            rw [← hj] at hjn ⊢
            obtain ⟨A8, c8, hu8, _⟩ := row.shape
            subst hu8
            obtain ⟨L8, hL8⟩ : ∃ L8, (lc bits k i d).length = L8 := ⟨_, rfl⟩
            rw [hL8] at row ⊢
            have hcl2 := hcl.out.below low
            obtain ⟨vs, hown, hels⟩ := hcl2
            have hrow := row.base (base' := w.heap.size) hlow.size
            have hlen := ls_len bits k i
            have hlsn : ls bits k (i + 1) = ls bits k i ++ [lc bits k i d] := by
              rw [ls, Ht.out, if_pos rfl, Hl.out, hdn]
            have hlsn := Lib.hid hlsn
            have HH := Lib.hid (And.intro hown (And.intro hels hrow))
            clear hown hels hrow row hcl low hj hdn hL8
            go_wp2_with (at_builtin; refine push_row_ex rfl _ _ rfl w.heap.size _ vs _ rfl HH.out.1 HH.out.2.1 _ _ HH.out.2.2 rfl (by omega) hlw.size ?_)
            intro v' w3 hown3 hels3 hlow3 _ _
            have hcl3 : Hid (Cls w3 w.heap.size v' (ls bits k (i + 1))) := by
              rw [hlsn.out]; exact Lib.hid ⟨vs ++ [.slice A8 L8 c8], by rw [List.length_append]; exact hown3, hels3⟩
            have hlw3 := hlw.trans hlow3
            clear HH hown3 hels3 hlow3 hlsn
            go_wp2_with fail
            go_roundw
            case rel => exact ⟨i + 1, by omega, by go_num, hcl3, hlw3⟩
            case measure => simp [intOf]; omega
    · obtain rfl : i = 60 := by omega
      go_wp2_with fail
      exact le_done hcl.out hlow rfl rfl
end Go.Proofs.Ytpeklcbjhkchlaa
