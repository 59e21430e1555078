/- The walks of GetText, GetInts, and of the document's own. -/
import Derived.Test.YtnebjihjfghlfaaGet
namespace Go.Proofs.Ytnebjihjfghlfaa
open Go.RowKit

theorem g_bd {bs : List Nat} {i : Int} (hb : ∀ c ∈ bs, c < 256) (h : Oct.gE bs i = 0) : i + 1 ≤ (Oct.gN bs i : Int) ∧ Oct.gN bs i ≤ bs.length ∧ 0 ≤ i ∧ Wf (Oct.gV bs i) ∧ Oct.gN bs i ≤ i.toNat + 10 := by
  have hin : ¬ (i < 0 ∨ (bs.length : Int) < i) := by
    intro ho
    rw [Oct.gE, if_pos ho] at h
    cases h
  obtain ⟨a, rfl⟩ := Int.eq_ofNat_of_zero_le (show 0 ≤ i by omega)
  have hs : (Oct.scan 0 0 (bs.drop a)).1 = 0 := by rw [Oct.gE, if_neg hin, Int.toNat_natCast] at h; exact h
  obtain ⟨v, m, hvm⟩ : ∃ v m, Oct.scan 0 0 (bs.drop a) = (0, v, m) := ⟨_, _, Prod.ext hs rfl⟩
  obtain ⟨u, k, hv, hk, hk1, hkl, hg, hu, _⟩ := Oct.scan_back _ 0 0 v m (by omega) (fun c hc => hb c (List.mem_of_mem_drop hc)) hvm
  obtain ⟨_, e2, e3⟩ := g_good (bs := bs) (k := a) (by omega) hvm
  rw [List.length_drop] at hkl
  have hk10 : k ≤ 10 := by
    have h1 := (Oct.grp_len (9 - 0) u).2
    have h2 := congrArg List.length hg
    rw [List.length_take, List.length_drop] at h2
    omega
  have hu2 : v < 18446744073709551616 := by
    have h3 : u < 2 * 128 ^ 9 := hu
    rw [Oct.p9] at h3
    rw [hv]; simp; omega
  rw [e2, e3]
  exact ⟨by omega, by omega, by omega, Oct.unzz_bd hu2, by rw [Int.toNat_natCast]; omega⟩

/-- The error ahead of what is counted. -/
def hE (bs : List Nat) (i most : Int) : Nat := if Oct.gE bs i ≠ 0 then Oct.gE bs i else if Oct.gV bs i < 0 then 11 else if most < Oct.gV bs i then 2 else 0
def tE (bs : List Nat) (i most : Int) : Nat := if hE bs i most ≠ 0 then hE bs i most else if (bs.length : Int) - (Oct.gN bs i : Int) < Oct.gV bs i then 10 else 0
def tB (bs : List Nat) (i most : Int) : List Nat := if tE bs i most = 0 then (bs.drop (Oct.gN bs i)).take (Oct.gV bs i).toNat else []
def tN (bs : List Nat) (i most : Int) : Nat := if tE bs i most = 0 then Oct.gN bs i + (Oct.gV bs i).toNat else 0
def textAns (bs : List Nat) (i most : Int) : Ending := .returned (.tuple #[.string (str (tB bs i most)), .int .i64 (tN bs i most : Nat), .int .i64 (tE bs i most : Nat)])
theorem textAns_bad {bs : List Nat} {i most : Int} {x : Nat} (h : tE bs i most = x) (hx : x ≠ 0) : textAns bs i most = .returned (.tuple #[.string ⟨#[]⟩, .int .i64 0, .int .i64 (x : Int)]) := by
  have h1 : tB bs i most = [] := by rw [tB, h, if_neg hx]
  have h2 : tN bs i most = 0 := by rw [tN, h, if_neg hx]
  rw [textAns, h1, h2, h]; rfl
theorem textAns_good {bs : List Nat} {i most : Int} (h : tE bs i most = 0) : textAns bs i most = .returned (.tuple #[.string (str ((bs.drop (Oct.gN bs i)).take (Oct.gV bs i).toNat)), .int .i64 ((Oct.gN bs i + (Oct.gV bs i).toNat : Nat) : Int), .int .i64 0]) := by
  have h1 : tB bs i most = (bs.drop (Oct.gN bs i)).take (Oct.gV bs i).toNat := by rw [tB, h, if_pos rfl]
  have h2 : tN bs i most = Oct.gN bs i + (Oct.gV bs i).toNat := by rw [tN, h, if_pos rfl]
  rw [textAns, h1, h2, h]; rfl

set_option maxHeartbeats 1000000 in
theorem GetText_any (B : Nat) (A : Option Addr) (len cap : Nat) (bs : List Nat) (i most : Int) (w : World) (hr : Rd B w A bs) (hB : B ≤ w.heap.size) (hl : bs.length = len) (hcap : len ≤ cap) (hm : cap ≤ maxLen) :
    Calls Try.prog 17 #[.slice A len cap, .int .i64 i, .int .i64 most] w fun e w' => e = textAns bs i most ∧ Below w.heap.size w w' := by
  have Hm : len ≤ maxLen := by omega
  unfold maxLen at hm
  have hb1 : Below w.heap.size w (w.alloc (.cells #[.slice A len cap] 22)) := (Below.refl _ w).alloc (Nat.le_refl _) _
  have hr1 := hr.below hb1 hB
  have hbox := Box.new w 22 (.slice A len cap)
  have hcb := hbox.cell
  have H := Lib.hid hl
  by_cases h1 : Oct.gE bs i = 0
  · obtain ⟨g1, g2, g3, g4, _⟩ := g_bd hr.1 h1
    by_cases h2 : Oct.gV bs i < 0
    · have HA := Lib.hid (textAns_bad (bs := bs) (i := i) (most := most) (x := 11) (by rw [tE, hE, h1]; simp [h2]) (by decide))
      have hc := GetInt_any B A len cap bs i (w.alloc (.cells #[.slice A len cap] 22)) hr1 H.out Hm
      rw [h1] at hc
      have HC := Lib.hid hc
      generalize Oct.gV bs i = V at *
      generalize Oct.gN bs i = N at *
      clear hc hl h1
      go_enter Try.func17, Try.ntmps17
      go_wp2_with (first | (go_at_call 13; refine HC.out.mono ?_; rintro e w' ⟨rfl, rfl⟩) | go_in)
      go_ret3
      go_wp2
      go_ret3
      exact ⟨by rw [HA.out]; rfl, hb1⟩
    · by_cases h3 : most < Oct.gV bs i
      · have HA := Lib.hid (textAns_bad (bs := bs) (i := i) (most := most) (x := 2) (by rw [tE, hE, h1]; simp [h2, h3]) (by decide))
        have hc := GetInt_any B A len cap bs i (w.alloc (.cells #[.slice A len cap] 22)) hr1 H.out Hm
        rw [h1] at hc
        have HC := Lib.hid hc
        generalize Oct.gV bs i = V at *
        generalize Oct.gN bs i = N at *
        clear hc hl h1
        go_enter Try.func17, Try.ntmps17
        go_wp2_with (first | (go_at_call 13; refine HC.out.mono ?_; rintro e w' ⟨rfl, rfl⟩) | go_in)
        go_ret3
        go_wp2
        go_ret3
        exact ⟨by rw [HA.out]; rfl, hb1⟩
      · obtain ⟨n, hn⟩ := Int.eq_ofNat_of_zero_le (show 0 ≤ Oct.gV bs i by omega)
        by_cases h4 : len < Oct.gN bs i + n
        · have HA := Lib.hid (textAns_bad (bs := bs) (i := i) (most := most) (x := 10) (by rw [tE, hE, h1]; simp [h2, h3]; omega) (by decide))
          have hc := GetInt_any B A len cap bs i (w.alloc (.cells #[.slice A len cap] 22)) hr1 H.out Hm
          rw [h1, hn] at hc
          have HC := Lib.hid hc
          rw [hn] at h3 g4
          have hlt : (len : Int) - (Oct.gN bs i : Int) < (n : Int) := by omega
          have hNl : Oct.gN bs i ≤ len := by omega
          have hnw : (n : Int) ≤ 9223372036854775807 := g4.2
          generalize Oct.gN bs i = N at *
          clear hc hl h1 hn h2 g4
          go_enter Try.func17, Try.ntmps17
          go_wp2_with (first | (go_at_call 13; refine HC.out.mono ?_; rintro e w' ⟨rfl, rfl⟩) | go_in)
          go_ret3
          go_wp2
          go_ret3
          go_wp2
          go_ret3
          exact ⟨by rw [HA.out]; rfl, hb1⟩
        · have hA := textAns_good (bs := bs) (i := i) (most := most) (by rw [tE, hE, h1]; simp [h2, h3]; omega)
          have hc := GetInt_any B A len cap bs i (w.alloc (.cells #[.slice A len cap] 22)) hr1 H.out Hm
          rw [h1, hn] at hc
          have HC := Lib.hid hc
          rw [hn, Int.toNat_natCast] at hA
          have HA := Lib.hid hA
          rw [hn] at h3 g4
          have hwin := fun w => run_win w A len cap (Oct.gN bs i : Int) ((Oct.gN bs i : Int) + (n : Int)) (Oct.gN bs i) n rfl (by omega) (by omega)
          have hconv := conv_str B (cutA cap (Oct.gN bs i) A) n (cap - Oct.gN bs i) ((bs.drop (Oct.gN bs i)).take n) _ (hr1.window n (by omega)) (by rw [List.length_take, List.length_drop]; omega)
          have hNl : Oct.gN bs i ≤ len := by omega
          have hnw : (n : Int) ≤ 9223372036854775807 := g4.2
          have hle : ((len : Int) - (Oct.gN bs i : Int)) ≥ (n : Int) := by omega
          generalize str ((bs.drop (Oct.gN bs i)).take n) = S at *
          generalize Oct.gN bs i = N at *
          clear hc hl h1 hn h2 hA
          go_enter Try.func17, Try.ntmps17
          go_wp2_with (first | (go_at_call 13; refine HC.out.mono ?_; rintro e w' ⟨rfl, rfl⟩) | go_in)
          go_ret3
          go_wp2
          go_ret3
          go_wp2
          go_ret3
          exact ⟨by rw [HA.out]; rfl, hb1⟩
  · have HA := Lib.hid (textAns_bad (bs := bs) (i := i) (most := most) (x := Oct.gE bs i) (by rw [tE, hE, if_pos h1, if_pos h1]) h1)
    have HC := Lib.hid (GetInt_any B A len cap bs i (w.alloc (.cells #[.slice A len cap] 22)) hr1 H.out Hm)
    have hne : ((Oct.gE bs i : Int) != 0) = true := by rw [bne_iff_ne]; omega
    generalize Oct.gV bs i = V at *
    generalize Oct.gN bs i = N at *
    generalize Oct.gE bs i = E at *
    clear hl h1
    go_enter Try.func17, Try.ntmps17
    go_wp2_with (first | (go_at_call 13; refine HC.out.mono ?_; rintro e w' ⟨rfl, rfl⟩) | go_in)
    go_ret3
    go_wp2
    go_ret3
    exact ⟨by rw [HA.out]; rfl, hb1⟩
set_option maxHeartbeats 1000000 in
theorem RGetText_any (B : Nat) (A : Option Addr) (len cap : Nat) (bs : List Nat) (i most : Int) (w : World) (hr : Rd B w A bs) (hl : bs.length = len) (hcap : len ≤ cap) (hm : cap ≤ maxLen) :
    Calls Try.prog 18 #[.slice A len cap, .int .i64 i, .int .i64 most] w fun e w' => e = textAns bs i most ∧ Below w.heap.size w w' := by
  have Hm : len ≤ maxLen := by omega
  unfold maxLen at hm
  have hb1 := Below.refl w.heap.size w
  have hr1 := hr
  have H := Lib.hid hl
  by_cases h1 : Oct.gE bs i = 0
  · obtain ⟨g1, g2, g3, g4, _⟩ := g_bd hr.1 h1
    by_cases h2 : Oct.gV bs i < 0
    · have HA := Lib.hid (textAns_bad (bs := bs) (i := i) (most := most) (x := 11) (by rw [tE, hE, h1]; simp [h2]) (by decide))
      have hc := RGetInt_any B A len cap bs i w hr1 H.out Hm
      rw [h1] at hc
      have HC := Lib.hid hc
      generalize Oct.gV bs i = V at *
      generalize Oct.gN bs i = N at *
      clear hc hl h1
      go_enter Try.func18, Try.ntmps18
      go_wp2_with (first | (go_at_call 14; refine HC.out.mono ?_; rintro e w' ⟨rfl, rfl⟩) | go_in)
      go_ret3
      go_wp2
      go_ret3
      exact ⟨by rw [HA.out]; rfl, hb1⟩
    · by_cases h3 : most < Oct.gV bs i
      · have HA := Lib.hid (textAns_bad (bs := bs) (i := i) (most := most) (x := 2) (by rw [tE, hE, h1]; simp [h2, h3]) (by decide))
        have hc := RGetInt_any B A len cap bs i w hr1 H.out Hm
        rw [h1] at hc
        have HC := Lib.hid hc
        generalize Oct.gV bs i = V at *
        generalize Oct.gN bs i = N at *
        clear hc hl h1
        go_enter Try.func18, Try.ntmps18
        go_wp2_with (first | (go_at_call 14; refine HC.out.mono ?_; rintro e w' ⟨rfl, rfl⟩) | go_in)
        go_ret3
        go_wp2
        go_ret3
        exact ⟨by rw [HA.out]; rfl, hb1⟩
      · obtain ⟨n, hn⟩ := Int.eq_ofNat_of_zero_le (show 0 ≤ Oct.gV bs i by omega)
        by_cases h4 : len < Oct.gN bs i + n
        · have HA := Lib.hid (textAns_bad (bs := bs) (i := i) (most := most) (x := 10) (by rw [tE, hE, h1]; simp [h2, h3]; omega) (by decide))
          have hc := RGetInt_any B A len cap bs i w hr1 H.out Hm
          rw [h1, hn] at hc
          have HC := Lib.hid hc
          rw [hn] at h3 g4
          have hlt : (len : Int) - (Oct.gN bs i : Int) < (n : Int) := by omega
          have hNl : Oct.gN bs i ≤ len := by omega
          have hnw : (n : Int) ≤ 9223372036854775807 := g4.2
          generalize Oct.gN bs i = N at *
          clear hc hl h1 hn h2 g4
          go_enter Try.func18, Try.ntmps18
          go_wp2_with (first | (go_at_call 14; refine HC.out.mono ?_; rintro e w' ⟨rfl, rfl⟩) | go_in)
          go_ret3
          go_wp2
          go_ret3
          exact ⟨by rw [HA.out]; rfl, hb1⟩
        · have hA := textAns_good (bs := bs) (i := i) (most := most) (by rw [tE, hE, h1]; simp [h2, h3]; omega)
          have hc := RGetInt_any B A len cap bs i w hr1 H.out Hm
          rw [h1, hn] at hc
          have HC := Lib.hid hc
          rw [hn, Int.toNat_natCast] at hA
          have HA := Lib.hid hA
          rw [hn] at h3 g4
          have hwin := fun w => run_win w A len cap (Oct.gN bs i : Int) ((Oct.gN bs i : Int) + (n : Int)) (Oct.gN bs i) n rfl (by omega) (by omega)
          have hconv := conv_str B (cutA cap (Oct.gN bs i) A) n (cap - Oct.gN bs i) ((bs.drop (Oct.gN bs i)).take n) _ (hr1.window n (by omega)) (by rw [List.length_take, List.length_drop]; omega)
          have hNl : Oct.gN bs i ≤ len := by omega
          have hnw : (n : Int) ≤ 9223372036854775807 := g4.2
          have hle : ((len : Int) - (Oct.gN bs i : Int)) ≥ (n : Int) := by omega
          generalize str ((bs.drop (Oct.gN bs i)).take n) = S at *
          generalize Oct.gN bs i = N at *
          clear hc hl h1 hn h2 hA
          go_enter Try.func18, Try.ntmps18
          go_wp2_with (first | (go_at_call 14; refine HC.out.mono ?_; rintro e w' ⟨rfl, rfl⟩) | go_in)
          go_ret3
          go_wp2
          go_ret3
          exact ⟨by rw [HA.out]; rfl, hb1⟩
  · have HA := Lib.hid (textAns_bad (bs := bs) (i := i) (most := most) (x := Oct.gE bs i) (by rw [tE, hE, if_pos h1, if_pos h1]) h1)
    have HC := Lib.hid (RGetInt_any B A len cap bs i w hr1 H.out Hm)
    have hne : ((Oct.gE bs i : Int) != 0) = true := by rw [bne_iff_ne]; omega
    generalize Oct.gV bs i = V at *
    generalize Oct.gN bs i = N at *
    generalize Oct.gE bs i = E at *
    clear hl h1
    go_enter Try.func18, Try.ntmps18
    go_wp2_with (first | (go_at_call 14; refine HC.out.mono ?_; rintro e w' ⟨rfl, rfl⟩) | go_in)
    go_ret3
    go_wp2
    go_ret3
    exact ⟨by rw [HA.out]; rfl, hb1⟩

/-! ### Lists -/
/-- n numbers in a row. -/
def manyA : Nat → List Nat → Nat → List Int → Nat × Nat × List Int
  | 0, _, p, acc => (0, p, acc)
  | n + 1, bs, p, acc => if Oct.gE bs (p : Int) ≠ 0 then (Oct.gE bs (p : Int), 0, []) else manyA n bs (Oct.gN bs (p : Int)) (acc ++ [Oct.gV bs (p : Int)])
def iR (bs : List Nat) (i most : Int) : Nat × Nat × List Int := if hE bs i most ≠ 0 then (hE bs i most, 0, []) else manyA (Oct.gV bs i).toNat bs (Oct.gN bs i) []
/-- What a reading of a list answers: the list in memory of the call's own. -/
def IntsAns (base : Nat) (w : World) (r : Nat × Nat × List Int) (e : Ending) (w' : World) : Prop :=
  ∃ v, e = .returned (.tuple #[v, .int .i64 (r.2.1 : Int), .int .i64 (r.1 : Int)]) ∧ RowI w' base v r.2.2 ∧ Below base w w'

set_option maxRecDepth 20000 in
set_option maxHeartbeats 1000000 in
/-- The closure that reads n numbers at p. -/
theorem read_ints (B : Nat) (A : Option Addr) (len cap g n p : Nat) (bs : List Nat) (w : World) (hr : Rd B w A bs) (hB : B ≤ w.heap.size) (hbox : Box w g 22 (.slice A len cap)) (hl : bs.length = len) (hm : len ≤ 1000000000) (hp : p ≤ len) (hn : n ≤ 9223372036854775807) :
    Calls Try.prog 33 #[.int .i64 (n : Int), .int .i64 (p : Int), .pointer (some ⟨g, 0, none⟩)] w (IntsAns w.heap.size w (manyA n bs p [])) := by
  have H := Lib.hid hl
  clear hl
  go_enter Try.func33, Try.ntmps33
  go_wp2
  go_loopw [8, 1, 13] (fun lv pv iv wr => ∃ (k q : Nat) (acc : List Int), k ≤ n ∧ q ≤ len ∧ iv = .int .i64 k ∧ pv = .int .i64 q ∧ RowI wr w.heap.size lv acc ∧ Below w.heap.size w wr ∧ acc.length ≤ q ∧ Hid (manyA n bs p [] = manyA (n - k) bs q acc)) (fun _ _ iv _ => n - (intOf iv).toNat)
  case atStart => exact ⟨0, p, [], by omega, hp, rfl, rfl, RowI.nothing _ _, Below.refl _ _, by simp, rfl⟩
  case round =>
    obtain ⟨k, q, acc, hk, hq, rfl, rfl, hrow, hbr, hacc, hmany⟩ := hrel
    obtain ⟨lv, rfl⟩ : ∃ lv, lv = u8 := ⟨_, rfl⟩
    have hszr := hbr.size
    have hbx := hbox.below hbr hbox.lt
    have hcb := hbx.cell
    by_cases hlt : k < n
    · have HC := Lib.hid (GetInt_any B A len cap bs (q : Int) wr (hr.below hbr hB) H.out (by unfold maxLen; omega))
      have hnk : n - k = (n - (k + 1)) + 1 := by omega
      by_cases hE : Oct.gE bs (q : Int) = 0
      · obtain ⟨g1, g2, _, g4, _⟩ := g_bd hr.1 hE
        have hm2 : Hid (manyA n bs p [] = manyA (n - (k + 1)) bs (Oct.gN bs (q : Int)) (acc ++ [Oct.gV bs (q : Int)])) := by
          show _ = _
          rw [hmany.out, hnk, manyA, if_neg (by omega)]
        rw [H.out] at g2
        rw [hE] at HC
        generalize Oct.gN bs (q : Int) = N at *
        generalize Oct.gV bs (q : Int) = V at *
        clear hE hnk
        go_wp2_with (first | (go_at_call 13; refine HC.out.mono ?_; rintro e w' ⟨rfl, rfl⟩) | (at_builtin; refine wpList_append_int rfl _ _ rfl w.heap.size lv acc rfl V wr rfl hrow rfl g4 ?c1 hszr ?_))
        case c1 => omega
        intro v2 w2 hr2 hg2
        have hb2 := (hbr.alloc hszr _).grown hg2 (by first | (simp; done) | (simp; omega)) (fun k hk => (hrow.2.lt k hk).1)
        go_wp2
        go_roundw
        case rel => exact ⟨k + 1, N, acc ++ [V], by omega, g2, by go_num, rfl, hr2, hb2, by rw [List.length_append]; simp; omega, hm2⟩
        case measure => simp [intOf]; omega
      · have hm2 : Hid (manyA n bs p [] = (Oct.gE bs (q : Int), 0, [])) := by
          show _ = _
          rw [hmany.out, hnk, manyA, if_pos hE]
        have hne : ((Oct.gE bs (q : Int) : Int) != 0) = true := by rw [bne_iff_ne]; omega
        generalize Oct.gN bs (q : Int) = N at *
        generalize Oct.gV bs (q : Int) = V at *
        generalize Oct.gE bs (q : Int) = E at *
        clear hE hnk
        go_wp2_with (go_at_call 13; refine HC.out.mono ?_; rintro e w' ⟨rfl, rfl⟩)
        go_ret3
        rw [hm2.out]
        exact ⟨_, rfl, RowI.nothing _ _, hbr⟩
    · obtain rfl : k = n := by omega
      have hm2 : Hid (manyA k bs p [] = (0, q, acc)) := by show _ = _; rw [hmany.out, Nat.sub_self, manyA]
      go_wp2
      go_ret3
      rw [hm2.out]
      exact ⟨lv, rfl, hrow, hbr⟩

theorem IntsAns.bad {base : Nat} {w w' : World} {bs : List Nat} {i most : Int} {x : Nat} {e : Ending} (h : hE bs i most = x) (hx : x ≠ 0) (he : e = .returned (.tuple #[.slice Option.none 0 0, .int .i64 0, .int .i64 (x : Int)])) (hb : Below base w w') : IntsAns base w (iR bs i most) e w' := by
  have h1 : iR bs i most = (x, 0, []) := by rw [iR, h, if_pos hx]
  rw [h1]
  exact ⟨_, he, RowI.nothing _ _, hb⟩
theorem iR_good {bs : List Nat} {i most : Int} (h : hE bs i most = 0) : iR bs i most = manyA (Oct.gV bs i).toNat bs (Oct.gN bs i) [] := by rw [iR, h, if_neg (by omega)]

set_option maxHeartbeats 1000000 in
theorem GetInts_any (B : Nat) (A : Option Addr) (len cap : Nat) (bs : List Nat) (i most : Int) (w : World) (hr : Rd B w A bs) (hB : B ≤ w.heap.size) (hl : bs.length = len) (hm : len ≤ 1000000000) :
    Calls Try.prog 21 #[.slice A len cap, .int .i64 i, .int .i64 most] w (IntsAns w.heap.size w (iR bs i most)) := by
  have Hm : len ≤ maxLen := by unfold maxLen; omega
  have hb1 : Below w.heap.size w (w.alloc (.cells #[.slice A len cap] 22)) := (Below.refl _ w).alloc (Nat.le_refl _) _
  have hr1 := hr.below hb1 hB
  have hbox := Box.new w 22 (.slice A len cap)
  have hcb := hbox.cell
  have H := Lib.hid hl
  by_cases h1 : Oct.gE bs i = 0
  · obtain ⟨g1, g2, g3, g4, _⟩ := g_bd hr.1 h1
    by_cases h2 : Oct.gV bs i < 0
    · have HA := fun w' => Lib.hid (IntsAns.bad (base := w.heap.size) (w := w) (w' := w') (bs := bs) (i := i) (most := most) (x := 11) (by rw [hE, h1]; simp [h2]) (by decide) rfl)
      have hc := GetInt_any B A len cap bs i (w.alloc (.cells #[.slice A len cap] 22)) hr1 H.out Hm
      rw [h1] at hc
      have HC := Lib.hid hc
      generalize Oct.gV bs i = V at *
      generalize Oct.gN bs i = N at *
      clear hc hl h1
      go_enter Try.func21, Try.ntmps21
      go_wp2_with (first | (go_at_call 13; refine HC.out.mono ?_; rintro e w' ⟨rfl, rfl⟩) | go_in)
      go_ret3
      go_wp2
      go_ret3
      exact (HA _).out hb1
    · by_cases h3 : most < Oct.gV bs i
      · have HA := fun w' => Lib.hid (IntsAns.bad (base := w.heap.size) (w := w) (w' := w') (bs := bs) (i := i) (most := most) (x := 2) (by rw [hE, h1]; simp [h2, h3]) (by decide) rfl)
        have hc := GetInt_any B A len cap bs i (w.alloc (.cells #[.slice A len cap] 22)) hr1 H.out Hm
        rw [h1] at hc
        have HC := Lib.hid hc
        generalize Oct.gV bs i = V at *
        generalize Oct.gN bs i = N at *
        clear hc hl h1
        go_enter Try.func21, Try.ntmps21
        go_wp2_with (first | (go_at_call 13; refine HC.out.mono ?_; rintro e w' ⟨rfl, rfl⟩) | go_in)
        go_ret3
        go_wp2
        go_ret3
        exact (HA _).out hb1
      · obtain ⟨n, hn⟩ := Int.eq_ofNat_of_zero_le (show 0 ≤ Oct.gV bs i by omega)
        have hA := iR_good (bs := bs) (i := i) (most := most) (by rw [hE, h1]; simp [h2, h3])
        rw [hn, Int.toNat_natCast] at hA
        have HA := Lib.hid hA
        have hc := GetInt_any B A len cap bs i (w.alloc (.cells #[.slice A len cap] 22)) hr1 H.out Hm
        rw [h1, hn] at hc
        have HC := Lib.hid hc
        rw [hn] at h3 g4
        rw [H.out] at g2
        have hnw : (n : Int) ≤ 9223372036854775807 := g4.2
        have hread := Lib.hid (read_ints B A len cap w.heap.size n (Oct.gN bs i) bs _ hr1 (by simp; omega) hbox H.out hm g2 (by omega))
        generalize Oct.gN bs i = N at *
        clear hc hl h1 h2 hn hA g4
        go_enter Try.func21, Try.ntmps21
        go_wp2_with (first | (go_at_call 13; refine HC.out.mono ?_; rintro e w' ⟨rfl, rfl⟩) | (go_at_call 33; refine hread.out.mono ?_; rintro e w2 ⟨v2, rfl, hr2, hb2⟩) | go_in)
        go_ret3
        go_wp2
        go_ret3
        rw [HA.out]
        exact ⟨v2, rfl, hr2.base (by simp), hb1.trans (hb2.mono (by simp))⟩
  · have HA := fun w' => Lib.hid (IntsAns.bad (base := w.heap.size) (w := w) (w' := w') (bs := bs) (i := i) (most := most) (x := Oct.gE bs i) (by rw [hE, if_pos h1]) h1 rfl)
    have HC := Lib.hid (GetInt_any B A len cap bs i (w.alloc (.cells #[.slice A len cap] 22)) hr1 H.out Hm)
    have hne : ((Oct.gE bs i : Int) != 0) = true := by rw [bne_iff_ne]; omega
    generalize Oct.gV bs i = V at *
    generalize Oct.gN bs i = N at *
    generalize Oct.gE bs i = E at *
    clear hl h1
    go_enter Try.func21, Try.ntmps21
    go_wp2_with (first | (go_at_call 13; refine HC.out.mono ?_; rintro e w' ⟨rfl, rfl⟩) | go_in)
    go_ret3
    go_wp2
    go_ret3
    exact (HA _).out hb1

set_option maxRecDepth 20000 in
set_option maxHeartbeats 2000000 in
theorem RGetInts_any (B : Nat) (A : Option Addr) (len cap : Nat) (bs : List Nat) (i most : Int) (w : World) (hr : Rd B w A bs) (hB : B ≤ w.heap.size) (hl : bs.length = len) (hm : len ≤ 1000000000) :
    Calls Try.prog 22 #[.slice A len cap, .int .i64 i, .int .i64 most] w (IntsAns w.heap.size w (iR bs i most)) := by
  have Hm : len ≤ maxLen := by unfold maxLen; omega
  have hb1 := Below.refl w.heap.size w
  have H := Lib.hid hl
  have HC0 := Lib.hid (RGetInt_any B A len cap bs i w hr H.out Hm)
  by_cases h1 : Oct.gE bs i = 0
  · obtain ⟨g1, g2, g3, g4, _⟩ := g_bd hr.1 h1
    by_cases h2 : Oct.gV bs i < 0
    · have HA := fun w' => Lib.hid (IntsAns.bad (base := w.heap.size) (w := w) (w' := w') (bs := bs) (i := i) (most := most) (x := 11) (by rw [hE, h1]; simp [h2]) (by decide) rfl)
      have HC := Lib.hid HC0.out
      rw [h1] at HC
      generalize Oct.gV bs i = V at *
      generalize Oct.gN bs i = N at *
      clear HC0 hl h1
      go_enter Try.func22, Try.ntmps22
      go_wp2_with (first | (go_at_call 14; refine HC.out.mono ?_; rintro e w' ⟨rfl, rfl⟩) | go_in)
      go_ret3
      go_wp2
      go_ret3
      exact (HA _).out hb1
    · by_cases h3 : most < Oct.gV bs i
      · have HA := fun w' => Lib.hid (IntsAns.bad (base := w.heap.size) (w := w) (w' := w') (bs := bs) (i := i) (most := most) (x := 2) (by rw [hE, h1]; simp [h2, h3]) (by decide) rfl)
        have HC := Lib.hid HC0.out
        rw [h1] at HC
        generalize Oct.gV bs i = V at *
        generalize Oct.gN bs i = N at *
        clear HC0 hl h1
        go_enter Try.func22, Try.ntmps22
        go_wp2_with (first | (go_at_call 14; refine HC.out.mono ?_; rintro e w' ⟨rfl, rfl⟩) | go_in)
        go_ret3
        go_wp2
        go_ret3
        exact (HA _).out hb1
      · obtain ⟨n, hn⟩ := Int.eq_ofNat_of_zero_le (show 0 ≤ Oct.gV bs i by omega)
        have hA := iR_good (bs := bs) (i := i) (most := most) (by rw [hE, h1]; simp [h2, h3])
        rw [hn, Int.toNat_natCast] at hA
        have HA := Lib.hid hA
        have HC := Lib.hid HC0.out
        rw [h1, hn] at HC
        rw [hn] at h3 g4
        rw [H.out] at g2
        have hnw : (n : Int) ≤ 9223372036854775807 := g4.2
        generalize Oct.gN bs i = N at *
        clear HC0 hl h1 h2 hn hA g4
        have hrow0 : RowI (w.alloc (.cells #[] 3)) w.heap.size (.slice (some ⟨w.heap.size, 0, none⟩) 0 0) [] := ⟨by simp, by simpa using World.ownsRow_made w #[] 0 (Nat.le_refl _) (Nat.zero_le _) rfl⟩
        go_enter Try.func22, Try.ntmps22
        go_wp2_with (first | (go_at_call 14; refine HC.out.mono ?_; rintro e w' ⟨rfl, rfl⟩) | go_in)
        go_ret3
        go_wp2
        go_loopw [12, 10, 13] (fun lv pv iv wr => ∃ (k q : Nat) (acc : List Int), k ≤ n ∧ q ≤ len ∧ iv = .int .i64 k ∧ pv = .int .i64 q ∧ RowI wr w.heap.size lv acc ∧ Below w.heap.size w wr ∧ acc.length ≤ q ∧ Hid (manyA n bs N [] = manyA (n - k) bs q acc)) (fun _ _ iv _ => n - (intOf iv).toNat)
        case atStart => exact ⟨0, N, [], by omega, g2, rfl, rfl, hrow0, hb1.alloc (Nat.le_refl _) _, by simp, rfl⟩
        case round =>
          obtain ⟨k, q, acc, hk, hq, rfl, rfl, hrow, hbr, hacc, hmany⟩ := hrel
          obtain ⟨lv, rfl⟩ : ∃ lv, lv = u12 := ⟨_, rfl⟩
          have hszr := hbr.size
          by_cases hlt : k < n
          · have HC2 := Lib.hid (RGetInt_any B A len cap bs (q : Int) wr (hr.below hbr hB) H.out Hm)
            have hnk : n - k = (n - (k + 1)) + 1 := by omega
            by_cases hE : Oct.gE bs (q : Int) = 0
            · obtain ⟨q1, q2, _, q4, _⟩ := g_bd hr.1 hE
              have hm2 : Hid (manyA n bs N [] = manyA (n - (k + 1)) bs (Oct.gN bs (q : Int)) (acc ++ [Oct.gV bs (q : Int)])) := by
                show _ = _
                rw [hmany.out, hnk, manyA, if_neg (by omega)]
              rw [H.out] at q2
              rw [hE] at HC2
              generalize Oct.gN bs (q : Int) = N2 at *
              generalize Oct.gV bs (q : Int) = V at *
              clear hE hnk
              go_wp2_with (first | (go_at_call 14; refine HC2.out.mono ?_; rintro e w' ⟨rfl, rfl⟩) | (at_builtin; refine wpList_append_int rfl _ _ rfl w.heap.size lv acc rfl V wr rfl hrow rfl q4 ?c1 hszr ?_))
              case c1 => omega
              intro v2 w2 hr2 hg2
              have hb2 := (hbr.alloc hszr _).grown hg2 (by first | (simp; done) | (simp; omega)) (fun k hk => (hrow.2.lt k hk).1)
              go_wp2
              go_roundw
              case rel => exact ⟨k + 1, N2, acc ++ [V], by omega, q2, by go_num, rfl, hr2, hb2, by rw [List.length_append]; simp; omega, hm2⟩
              case measure => simp [intOf]; omega
            · have hm2 : Hid (manyA n bs N [] = (Oct.gE bs (q : Int), 0, [])) := by
                show _ = _
                rw [hmany.out, hnk, manyA, if_pos hE]
              have hne : ((Oct.gE bs (q : Int) : Int) != 0) = true := by rw [bne_iff_ne]; omega
              generalize Oct.gN bs (q : Int) = N2 at *
              generalize Oct.gV bs (q : Int) = V at *
              generalize Oct.gE bs (q : Int) = E at *
              clear hE hnk
              go_wp2_with (go_at_call 14; refine HC2.out.mono ?_; rintro e w' ⟨rfl, rfl⟩)
              go_ret3
              rw [HA.out, hm2.out]
              exact ⟨_, rfl, RowI.nothing _ _, hbr⟩
          · obtain rfl : k = n := by omega
            have hm2 : Hid (manyA k bs N [] = (0, q, acc)) := by show _ = _; rw [hmany.out, Nat.sub_self, manyA]
            go_wp2
            go_ret3
            rw [HA.out, hm2.out]
            exact ⟨lv, rfl, hrow, hbr⟩
  · have HA := fun w' => Lib.hid (IntsAns.bad (base := w.heap.size) (w := w) (w' := w') (bs := bs) (i := i) (most := most) (x := Oct.gE bs i) (by rw [hE, if_pos h1]) h1 rfl)
    have HC := Lib.hid HC0.out
    have hne : ((Oct.gE bs i : Int) != 0) = true := by rw [bne_iff_ne]; omega
    generalize Oct.gV bs i = V at *
    generalize Oct.gN bs i = N at *
    generalize Oct.gE bs i = E at *
    clear hl h1 HC0
    go_enter Try.func22, Try.ntmps22
    go_wp2_with (first | (go_at_call 14; refine HC.out.mono ?_; rintro e w' ⟨rfl, rfl⟩) | go_in)
    go_ret3
    go_wp2
    go_ret3
    exact (HA _).out hb1

/-- Two lists of integers, compared. -/
theorem eq_ints (zs ys : List Int) (h : zs.length = ys.length) (hall : ∀ j, j < zs.length → zs[j]?.getD 0 = ys[j]?.getD 0) : zs = ys := by
  apply List.ext_getElem h
  intro j h1 h2
  have := hall j h1
  rwa [List.getElem?_eq_getElem h1, List.getElem?_eq_getElem h2] at this
set_option maxHeartbeats 1000000 in
theorem Ints_same (B C : Nat) (A D : Option Addr) (n c m d : Nat) (zs : List Int) (w : World) (hr : RdI B w A zs) (hs : RdI C w D zs) (hl : zs.length = n) (hm : zs.length = m) (hn : n ≤ maxLen) :
    Calls Try.prog 25 #[.slice A n c, .slice D m d] w fun e w' => e = .returned (.bool true) ∧ ∃ k, w' = w.drewN k := by
  unfold maxLen at hn
  have HN := Lib.hid hl
  obtain rfl : n = m := by omega
  clear hl hm
  go_enter Try.func25, Try.ntmps25
  go_wp2
  go_loopw [5] (fun i wr => ∃ k q : Nat, k ≤ n ∧ i = .int .i64 k ∧ wr = w.drewN q) (fun i _ => n - (intOf i).toNat)
  case atStart => exact ⟨0, 0, by omega, rfl, rfl⟩
  case round =>
    obtain ⟨k, q, hk, rfl, rfl⟩ := hrel
    by_cases hlt : k < n
    · obtain ⟨b, off, rfl, _, hc⟩ := hr.2 (by rw [HN.out]; omega)
      obtain ⟨b2, off2, rfl, _, hc2⟩ := hs.2 (by rw [HN.out]; omega)
      have g1 := hc k (by rw [HN.out]; exact hlt)
      have g2 := hc2 k (by rw [HN.out]; exact hlt)
      generalize zs[k]?.getD 0 = x at *
      clear hc hc2
      have hk0 : (0 : Int) ≤ (k : Int) := Int.natCast_nonneg _
      have hkn : (k : Int) < (n : Int) := by omega
      have hx : (x != x) = false := by simp
      go_wp2
      go_quiet (fail)
      go_wp2
      go_roundw
      case rel => exact ⟨k + 1, _, by omega, by go_num, rfl⟩
      case measure => simp [intOf]; omega
    · obtain rfl : k = n := by omega
      go_wp2
      go_ret
      exact ⟨rfl, q, rfl⟩
end Go.Proofs.Ytnebjihjfghlfaa
