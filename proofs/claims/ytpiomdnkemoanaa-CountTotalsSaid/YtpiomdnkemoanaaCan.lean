/- The walk of can: whether an extension of an assignment satisfies the clauses. -/
import Derived.Test.YtpiomdnkemoanaaCases
import Derived.Laws.Bits64b
namespace Go.Proofs.Ytpiomdnkemoanaa
open Go.RowKit

/-- An assignment with the bits of t behind it. -/
def ext (bs : List Bool) (t F : Nat) : List Bool := bs ++ (List.range F).map fun i => t.testBit i
theorem ext_len (bs : List Bool) (t F : Nat) : (ext bs t F).length = bs.length + F := by simp [ext]
theorem ext_next (bs : List Bool) (t F : Nat) : ext bs t (F + 1) = ext bs t F ++ [t.testBit F] := by
  unfold ext; rw [List.range_succ, List.map_append, List.append_assoc]; rfl
theorem bits_of : ∀ (F : Nat) (h : Nat → Bool), ∃ t, t < 2 ^ F ∧ ∀ i, i < F → t.testBit i = h i
  | 0, _ => ⟨0, by simp, fun i hi => by omega⟩
  | F + 1, h => by
    obtain ⟨t, ht, hb⟩ := bits_of F (fun i => h (i + 1))
    refine ⟨2 * t + (if h 0 then 1 else 0), ?_, fun i hi => ?_⟩
    · rw [Nat.pow_succ]; split <;> omega
    · cases i with
      | zero =>
        rw [Nat.testBit_zero]
        cases h 0 <;> simp
      | succ i =>
        rw [Nat.testBit_succ, show (2 * t + (if h 0 then 1 else 0)) / 2 = t by split <;> omega]
        exact hb i (by omega)
/-- Each longer assignment is such an extension. -/
theorem ext_of {bs b : List Bool} {F : Nat} (hl : b.length = bs.length + F) (h : Agr bs.length b bs) : ∃ t, t < 2 ^ F ∧ ext bs t F = b := by
  obtain ⟨t, ht, hb⟩ := bits_of F (fun i => b[bs.length + i]?.getD false)
  refine ⟨t, ht, bools_ext (by rw [ext_len, hl]) fun i hi => ?_⟩
  rw [ext_len] at hi
  unfold ext
  by_cases h1 : i < bs.length
  · rw [List.getElem?_append_left h1, h i h1]
  · obtain ⟨j, rfl⟩ : ∃ j, i = bs.length + j := ⟨i - bs.length, by omega⟩
    rw [List.getElem?_append_right (by omega), Nat.add_sub_cancel_left, List.getElem?_map, List.getElem?_range (by omega)]
    exact hb j (by omega)
theorem ext_agr (bs : List Bool) (t F : Nat) : Agr bs.length (ext bs t F) bs := fun j h => by unfold ext; rw [List.getElem?_append_left h]
theorem all_take {α : Type} (f : α → Bool) (l : List α) (j : Nat) (h : j < l.length) : (l.take (j + 1)).all f = ((l.take j).all f && f l[j]) := by
  rw [List.take_add_one, List.getElem?_eq_getElem h, List.all_append]; simp
theorem sat_take (b : List Bool) (cl : List (List Int)) (j : Nat) (h : j < cl.length) : sat b (cl.take (j + 1)) = (sat b (cl.take j) && (cl[j]?.getD []).any (tv b)) := by
  unfold sat; rw [all_take _ cl j h, List.getElem?_eq_getElem h]; rfl
theorem shl_small {F T : Nat} (h : 2 ^ F = T) (hF : F ≤ 9) : wrap64 (2 ^ F) = (T : Int) := by
  have h1 : T ≤ 512 := by rw [← h]; exact Nat.pow_le_pow_right (n := 2) (by omega) hF
  have h2 : (2 : Int) ^ F = (T : Int) := by rw [← h]; exact (Int.natCast_pow 2 F).symm
  rw [h2]; unfold wrap64; omega
theorem and_one_i64 (a : Nat) (ha : a < 1000000) : bits .and .i64 (a : Int) 1 = ((a % 2 : Nat) : Int) := by
  have h1 : (BitVec.ofInt 64 (a : Int)).toNat = a := by
    rw [BitVec.ofInt_natCast, BitVec.toNat_ofNat]; exact Nat.mod_eq_of_lt (by omega)
  have h2 : (BitVec.ofInt 64 (1 : Int)).toNat = 1 := by decide
  show IntKind.i64.wrap ((BitVec.ofInt 64 (a : Int) &&& BitVec.ofInt 64 (1 : Int)).toNat : Int) = _
  rw [BitVec.toNat_and, h1, h2, Nat.and_one_is_mod]
  exact IntWalk.i64_in _ (by omega)
theorem bit_of (t j : Nat) (ht : t < 1000000) : (bits BinOp.and IntKind.i64 ((t : Int) / 2 ^ j) 1 == 1) = t.testBit j := by
  have e : (t : Int) / 2 ^ j = ((t / 2 ^ j : Nat) : Int) := by
    rw [Int.natCast_ediv, Int.natCast_pow]; rfl
  have hlt : t / 2 ^ j ≤ t := Nat.div_le_self _ _
  rw [e, and_one_i64 _ (by omega), Nat.testBit_eq_decide_div_mod_eq]
  by_cases h : t / 2 ^ j % 2 = 1
  · rw [h, decide_eq_true rfl]; rfl
  · rw [decide_eq_false h, show t / 2 ^ j % 2 = 0 by omega]; rfl

theorem results18 (tm : Array Value) (w : World) : (results Try.f18 tm).run Try.prog w = .ok (.tuple #[tm[6]?.getD undef, tm[7]?.getD undef]) w := by
  have hr : Try.f18.results = #[.tmp 6, .tmp 7] := rfl
  simp only [results, hr]
  simp [go_sem]

theorem can_none (A D : Option Addr) (C c N d : Nat) (a : Int) (w : World) (h : a < (N : Int) ∨ (N : Int) + 9 < a) (hN : N ≤ 100000) (ha : -100000 ≤ a ∧ a ≤ 100000) :
    Calls Try.prog 18 #[.slice A C c, .slice D N d, .int .i64 a] w fun e w' => e = .returned (.tuple #[.bool false, .bool false]) ∧ w = w' := by
  by_cases h1 : a < (N : Int)
  · have d0 : decide (a - (N : Int) < 0) = true := decide_eq_true (by omega)
    clear h
    go_enter Try.func18, Try.ntmps18
    go_wp2_with fail
    go_ret2
    exact ⟨rfl, rfl⟩
  · have d0 : decide (a - (N : Int) < 0) = false := decide_eq_false (by omega)
    have d1 : decide (9 < a - (N : Int)) = true := decide_eq_true (by omega)
    clear h
    go_enter Try.func18, Try.ntmps18
    go_wp2_with fail
    go_ret2
    exact ⟨rfl, rfl⟩

set_option maxRecDepth 30000 in
set_option maxHeartbeats 8000000 in
theorem can_some (A D : Option Addr) (C c N d a F : Nat) (cl : List (List Int)) (bs : List Bool) (z : Bool) (w : World) (hr : RdR w.heap.size w A cl) (hC : cl.length = C) (hC2 : C ≤ maxLen) (hg : ∀ j, j < cl.length → (cl[j]?.getD []).length ≤ maxLen) (hD : RdB w.heap.size w D bs) (hN : bs.length = N) (hN1 : 1 ≤ N) (hN2 : N ≤ 10000)
    (ha : N + F = a) (hF : F ≤ 9) (hlit : ∀ x ∈ cl, ∀ y ∈ x, Lit a y) (hz : z = true ↔ ∃ t, t < 2 ^ F ∧ sat (ext bs t F) cl = true) :
    Calls Try.prog 18 #[.slice A C c, .slice D N d, .int .i64 (a : Int)] w fun e w' => e = .returned (.tuple #[.bool z, .bool true]) ∧ Below w.heap.size w w' := by
  obtain ⟨T, hT2⟩ : ∃ T, 2 ^ F = T := ⟨_, rfl⟩
  rw [hT2] at hz
  have Hz := Lib.hid hz
  have hsh := shl_small hT2 hF
  have hTl : T ≤ 512 := by rw [← hT2]; exact Nat.pow_le_pow_right (n := 2) (by omega) hF
  have HC := Lib.hid hC
  have Hg := Lib.hid hg
  have HN := Lib.hid hN
  have Hlit := Lib.hid hlit
  have hDn : D = none → d = 0 := by
    intro e
    obtain ⟨_, _, e2, _⟩ := hD (by omega)
    rw [e] at e2; cases e2
  have hfr : (a : Int) - (N : Int) = (F : Int) := by omega
  have Ha := Lib.hid ha
  have g1 : decide ((F : Int) < 0) = false := decide_eq_false (by omega)
  have g2 : decide ((9 : Int) < (F : Int)) = false := decide_eq_false (by omega)
  have hmaxl : C ≤ 9223372036854775807 := by unfold maxLen at hC2; omega
  clear hz hT2 hC hg hN hlit ha
  go_enter Try.func18, Try.ntmps18
  go_wp2_with fail
  simp only [hsh]
  clear hsh
  go_loopw [27] (fun b wr => ∃ t : Nat, t ≤ T ∧ b = .int .i64 t ∧ (∀ t', t' < t → sat (ext bs t' F) cl = false) ∧ Below w.heap.size w wr) (fun b _ => T - (intOf b).toNat)
  case atStart => exact ⟨0, by omega, rfl, fun t h => by omega, Below.refl _ _⟩
  case round =>
    obtain ⟨t, ht, rfl, hno, hb⟩ := hrel
    have Hno := Lib.hid hno
    clear hno
    by_cases hlt : t < T
    · have hrD := hD.below hb (Nat.le_refl _)
      have hsz := hb.size
      go_wp2_with (at_builtin; refine push_bools rfl _ _ rfl w.heap.size _ [] rfl (RowV.empty _ _) w.heap.size D N d bs rfl hrD HN.out hDn (by simp; omega) hsz ?_)
      intro v1 w1 own1 low1
      have hb1 := hb.trans low1
      have own1 : RowV w1 w.heap.size v1 (ext bs t 0) := by simpa [ext] using own1
      obtain ⟨A1, c1, hv1, _, _, _⟩ := own1.shape
      rw [ext_len, HN.out, Nat.add_zero] at hv1
      subst hv1
      clear low1 hrD hsz hb
      go_wp2_with fail
      go_loopw [10, 33] (fun v i wr' => ∃ j : Nat, j ≤ F ∧ i = .int .i64 j ∧ RowV wr' w.heap.size v (ext bs t j) ∧ Below w.heap.size w wr') (fun _ i _ => F - (intOf i).toNat)
      case atStart => exact ⟨0, by omega, rfl, own1, hb1⟩
      case round =>
        obtain ⟨j, hj, rfl, own2, hb2⟩ := hrel
        clear own1 hb1
        obtain ⟨A2, c2, hv2, _, _, rd2⟩ := own2.shape
        rw [ext_len, HN.out] at hv2
        subst hv2
        have hsz2 := hb2.size
        by_cases hjt : j < F
        · have hnx := ext_next bs t j
          have hbit := bit_of t j (by omega)
          have Hnx := Lib.hid hnx
          clear hnx
          generalize hzz : t.testBit j = q at *
          have Hzz := Lib.hid hzz
          clear hzz
          go_wp2_with (at_builtin; refine push_bool rfl _ _ rfl w.heap.size _ _ rfl own2 q rfl ?hb hsz2 ?_)
          case hb => rw [ext_len, HN.out]; omega
          intro v3 w3 own3 low3
          rw [← Hnx.out] at own3
          go_wp2_with fail
          go_roundw
          case rel => exact ⟨j + 1, by omega, by go_num, own3, hb2.trans low3⟩
          case measure => simp [intOf]; omega
        · obtain rfl : j = F := by omega
          have hel : (ext bs t j).length = a := by rw [ext_len, HN.out]; exact Ha.out
          have Hel := Lib.hid hel
          have haN : N + j = a := Ha.out
          rw [haN]
          have hr2 := hr.below hb2 (Nat.le_refl _)
          have Hno2 : Hid (sat (ext bs t j) cl = false → ∀ t', t' < t + 1 → sat (ext bs t' j) cl = false) := Lib.hid (fun h t' h1 => by
            rcases Nat.lt_or_ge t' t with h2 | h2
            · exact Hno.out t' h2
            · rw [show t' = t by omega]; exact h)
          have Hyes : Hid (sat (ext bs t j) cl = true → z = true) := Lib.hid (fun h => Hz.out.2 ⟨t, hlt, h⟩)
          have Hall : Hid (sat (ext bs t j) (cl.take C) = sat (ext bs t j) cl) := Lib.hid (by rw [← HC.out, List.take_length])
          have Hnxt := fun q => Lib.hid (sat_take (ext bs t j) cl q)
          clear hel Hno
          obtain ⟨cur, hcur⟩ : ∃ cur, ext bs t j = cur := ⟨_, rfl⟩
          rw [hcur] at Hel Hyes Hall own2 rd2
          simp only [hcur] at Hnxt
          have Hno2 : Hid (sat cur cl = false → ∀ t', t' < t + 1 → sat (ext bs t' j) cl = false) := by rw [← hcur]; exact Hno2
          clear hcur
          go_wp2_with fail
          go_loopw [12, 47] (fun q i wr2 => ∃ p : Nat, p ≤ C ∧ q = .bool (sat cur (cl.take p)) ∧ i = .int .i64 p ∧ Below w.heap.size w wr2 ∧ Below wr.heap.size wr wr2) (fun _ i _ => C - (intOf i).toNat)
          case atStart => exact ⟨0, by omega, by simp [sat], rfl, hb2, Below.refl _ _⟩
          case round =>
            obtain ⟨p, hp, rfl, rfl, hb3, hb4⟩ := hrel
            by_cases hpt : p < C
            · have hjo : p < cl.length := by rw [HC.out]; exact hpt
              have hnx := (Hnxt p).out hjo
              have hr3 := hr2.below hb4 (by omega)
              have rd3 := rd2.below hb4 (Nat.le_refl _)
              have hsz4 := hb4.size
              obtain ⟨b, off, rfl, _, hc⟩ := hr3 (by omega)
              obtain ⟨E, ec, hc1, hr1⟩ := hc p hjo
              have hxl := Hg.out p hjo
              have hmem : cl[p]?.getD [] ∈ cl := by rw [List.getElem?_eq_getElem hjo]; exact List.getElem_mem _
              have hlj := Hlit.out _ hmem
              clear hc hmem hjo hr2 rd2 own2
              generalize cl[p]?.getD [] = x at *
              generalize sat cur (cl.take p) = y at *
              cases y with
              | false =>
                have Hn := Lib.hid hnx
                clear hnx hlj hr1 hxl
                go_wp2_with fail
                go_roundw
                case rel => exact ⟨p + 1, by omega, by rw [Hn.out]; rfl, by go_num, hb3, hb4⟩
                case measure => simp [intOf]; omega
              | true =>
                rw [Bool.true_and] at hnx
                obtain ⟨L, hL⟩ : ∃ L, x.length = L := ⟨_, rfl⟩
                rw [hL] at hc1 hxl
                have hH := Lib.hid (Holds_any _ _ _ E a L ec a c2 x cur _ hr1 (by omega) hL hxl rd3 hsz4 Hel.out hlj (Nat.le_refl _) (by omega) (by omega))
                rw [← hnx] at hH
                have Hn := Lib.hid hnx
                clear hnx hlj hr1 hxl hL rd3
                go_wp2_with fail
                refine hH.out.mono ?_
                rintro e w6 ⟨rfl, hb6⟩
                have hb36 := hb3.trans (hb6.mono hb3.size)
                have hb46 := hb4.trans (hb6.mono hsz4)
                go_wp2_with fail
                go_roundw
                case rel => exact ⟨p + 1, by omega, rfl, by go_num, hb36, hb46⟩
                case measure => simp [intOf]; omega
            · obtain rfl : p = C := by omega
              rw [Hall.out]
              cases hs : sat cur cl with
              | true =>
                have hzt := Hyes.out hs
                subst hzt
                clear hs Hno2 Hyes Hz
                go_wp2_with fail
                go_ret2
                exact ⟨rfl, hb3⟩
              | false =>
                have Hn2 := Lib.hid (Hno2.out hs)
                clear hs Hno2 Hyes
                go_wp2_with fail
                go_roundw
                case rel => exact ⟨t + 1, by omega, by go_num, Hn2.out, hb3⟩
                case measure => simp [intOf]; omega
    · obtain rfl : t = T := by omega
      have hzf : z = false := by
        cases z with
        | false => rfl
        | true =>
          obtain ⟨t', h1, h2⟩ := Hz.out.1 rfl
          rw [Hno.out t' h1] at h2; cases h2
      subst hzf
      clear Hno Hz
      go_wp2_with fail
      go_ret2
      exact ⟨rfl, hb⟩
end Go.Proofs.Ytpiomdnkemoanaa
