/- The walks of the law's small helpers: truths, number, sum. -/
import Derived.Test.YtpeklcbjhkchlaaSumsN
import Derived.Test.YtpeklcbjhkchlaaLive
namespace Go.Proofs.Ytpeklcbjhkchlaa
open Go.ChangeShapes Go.WideShapes Go.ChangeAt Go.RowKit
set_option maxRecDepth 100000

/-- The bit of a number, as the law reads it. -/
def tb (pick : Int) (i : Nat) : Bool := bits BinOp.and IntKind.i64 (pick / 2 ^ i) 1 == 1
def tru (pick : Int) : Nat → List Bool
  | 0 => [false]
  | n + 1 => tru pick n ++ [tb pick n]
theorem tru_len (pick : Int) : ∀ n, (tru pick n).length = n + 1
  | 0 => rfl
  | n + 1 => by rw [tru, List.length_append, tru_len pick n]; rfl

set_option maxHeartbeats 2000000 in
theorem truths_any (n : Nat) (pick : Int) (w : World) (hn : n ≤ 60) (hp : Wf pick) :
    Calls Try.prog 22 #[.int .i64 (n : Int), .int .i64 pick] w fun e w' => ∃ A c, e = .returned (.slice A (n + 1) c) ∧ RdB w'.heap.size w' A (tru pick n) ∧ Below w.heap.size w w' := by
  obtain ⟨hp1, hp2⟩ := hp
  go_enter Try.func22, Try.ntmps22
  go_wp2_with fail
  go_loopw [5, 6] (fun v i wr => ∃ j : Nat, j ≤ n ∧ i = .int .i64 ((j + 1 : Nat) : Int) ∧ RowV wr w.heap.size v (tru pick j) ∧ Below w.heap.size w wr) (fun _ i _ => n + 1 - (intOf i).toNat)
  case atStart => exact ⟨0, by omega, rfl, RowV.one w w.heap.size false (Nat.le_refl _), (Below.refl _ _).alloc (Nat.le_refl _) _⟩
  case round =>
    obtain ⟨j, hj, rfl, row, low⟩ := hrel
    by_cases hlt : j < n
    · have htr : tru pick (j + 1) = tru pick j ++ [tb pick j] := rfl
      have hlen := tru_len pick j
      have hmin : min j 64 = j := by omega
      have e1 : ((j + 1 : Nat) : Int) - 1 = (j : Int) := by omega
      have htb : (bits BinOp.and IntKind.i64 (pick / 2 ^ j) 1 == 1) = tb pick j := rfl
      have Ht := Lib.hid htr
      clear htr
      generalize tb pick j = z at *
      go_wp2_with (at_builtin; refine push_bool rfl _ _ rfl w.heap.size _ _ rfl row z rfl (by rw [hlen]; omega) low.size ?_)
      intro v' w3 row3 low3
      have low4 := low.trans low3
      rw [← Ht.out] at row3
      have row3 := Lib.hid row3
      clear row low low3 Ht htb hlen
      go_wp2_with fail
      go_roundw
      case rel => exact ⟨j + 1, by omega, by go_num, row3.out, low4⟩
      case measure => simp [intOf]; omega
    · obtain rfl : j = n := by omega
      obtain ⟨A, c, rfl, _, _, rd⟩ := row.shape
      rw [tru_len]
      clear row
      go_wp2_with fail
      go_ret
      exact ⟨A, c, rfl, rd, low⟩

set_option maxHeartbeats 4000000 in
theorem number_any (B C n c m d v : Nat) (A D : Option Addr) (zs : List Int) (bs : List Bool) (w : World) (hr : RdI B w A zs) (hB : B ≤ w.heap.size) (hl : zs.length = n) (hn : n ≤ 60) (hb : RdB C w D bs) (hC : C ≤ w.heap.size) (hm : bs.length = m) (hm2 : m ≤ 65538) (hv : v ≤ m) (hv2 : v ≤ 65537) (hx : ∀ x ∈ zs, x = 0 ∨ Lit v x) :
    Calls Try.prog 24 #[.slice A n c, .slice D m d] w fun e w' => e = .returned (.int .i64 ((nb bs zs : Nat) : Int)) ∧ Below w.heap.size w w' := by
  have Hl := Lib.hid hl
  have R := Lib.hid hr
  have RB := Lib.hid hb
  have Hm := Lib.hid hm
  have Hx := Lib.hid hx
  obtain ⟨T, hT⟩ : ∃ T, nb bs zs = T := ⟨_, rfl⟩
  rw [hT]
  have HT := Lib.hid hT
  clear hl hr hb hm hx hT
  go_enter Try.func24, Try.ntmps24
  go_wp2_with fail
  go_loopw [5, 6] (fun s i wr => ∃ j : Nat, j ≤ n ∧ i = .int .i64 j ∧ s = .int .i64 ((nb bs (zs.take j) : Nat) : Int) ∧ Below w.heap.size w wr) (fun _ i _ => n - (intOf i).toNat)
  case atStart => exact ⟨0, by omega, rfl, rfl, Below.refl _ _⟩
  case round =>
    obtain ⟨j, hj, rfl, rfl, low⟩ := hrel
    by_cases hlt : j < n
    · have hjl : j < zs.length := by rw [Hl.out]; exact hlt
      obtain ⟨b, off, rfl, _, hc⟩ := (R.out.below low hB).2 (by omega)
      have hc1 := hc j hjl
      have hz := Hx.out (zs[j]?.getD 0) (by rw [List.getElem?_eq_getElem hjl]; exact List.getElem_mem hjl)
      have htk : nb bs (zs.take (j + 1)) = nb bs (zs.take j) + (if zs[j]?.getD 0 ≠ 0 ∧ tv bs (zs[j]?.getD 0) = true then 2 ^ j else 0) := by
        rw [List.take_add_one, List.getElem?_eq_getElem hjl, Option.toList_some, nb_snoc, List.length_take, Nat.min_eq_left (by omega)]; rfl
      have hlt2 := nb_lt bs (zs.take j)
      rw [List.length_take, Nat.min_eq_left (by omega)] at hlt2
      have hp1 : 2 ^ j ≤ 2 ^ 59 := Nat.pow_le_pow_right (by omega) (by omega)
      have hp0 : 1 ≤ 2 ^ j := Nat.one_le_two_pow
      have Ht := Lib.hid htk
      have RBw := RB.out.below low hC
      have hsz := low.size
      clear hc hjl htk R RB
      generalize zs[j]?.getD 0 = z at *
      generalize nb bs (zs.take j) = N at *
      have hN : N < 576460752303423488 := by omega
      have hpc : ((2 : Int) ^ j) = ((2 ^ j : Nat) : Int) := by rw [Int.natCast_pow]; rfl
      generalize 2 ^ j = P at *
      have hmin : min j 64 = j := by omega
      by_cases hz0 : z = 0
      · subst hz0
        have h1 := Ht.out
        rw [if_neg (by simp)] at h1
        have H1 := Lib.hid h1
        clear h1 Ht hz hlt2 hp1 hpc
        go_wp2_with fail
        go_roundw
        case rel => exact ⟨j + 1, by omega, by go_num, by rw [H1.out, Nat.add_zero], low⟩
        case measure => simp [intOf]; omega
      · have f0 : (z != 0) = true := by simpa using hz0
        have hlit : Lit v z := hz.resolve_left hz0
        have hH := Holds_any C (wr.heap.size + 1) D (some ⟨wr.heap.size, 0, none⟩) v 1 1 m d [z] bs (wr.alloc (.cells #[.int .i64 z] 3)) (RdI.lit wr #[.int .i64 z] [z] (fun x hx => by rw [List.mem_singleton.1 hx]; obtain ⟨_, q1, q2⟩ := hlit; exact ⟨by omega, by omega⟩) rfl) (by simp) rfl (by unfold maxLen; omega) (RBw.below ((Below.refl _ _).alloc (Nat.le_refl _) _) (by omega)) (by simp; omega) Hm.out (fun x hx => by rw [List.mem_singleton.1 hx]; exact hlit) hv hv2 hm2
        rw [show [z].any (tv bs) = tv bs z by simp] at hH
        have hH := Lib.hid hH
        have h1 := Ht.out
        clear Ht hz hlit
        generalize tv bs z = t at *
        cases t with
        | true =>
          rw [if_pos ⟨hz0, rfl⟩] at h1
          have H1 := Lib.hid h1
          clear h1 hz0 hlt2
          go_wp2_with fail
          refine hH.out.mono ?_
          rintro e w2 ⟨rfl, hb2⟩
          have low2 := low.trans (((Below.refl wr.heap.size wr).alloc (Nat.le_refl _) _).trans (hb2.mono (by simp)) |>.mono hsz)
          clear hH hb2
          go_wp2_with fail
          go_roundw
          case rel => exact ⟨j + 1, by omega, by go_num, by rw [H1.out]; go_num, low2⟩
          case measure => simp [intOf]; omega
        | false =>
          rw [if_neg (by simp)] at h1
          have H1 := Lib.hid h1
          clear h1 hz0 hlt2 hp1 hpc
          go_wp2_with fail
          refine hH.out.mono ?_
          rintro e w2 ⟨rfl, hb2⟩
          have low2 := low.trans (((Below.refl wr.heap.size wr).alloc (Nat.le_refl _) _).trans (hb2.mono (by simp)) |>.mono hsz)
          clear hH hb2
          go_wp2_with fail
          go_roundw
          case rel => exact ⟨j + 1, by omega, by go_num, by rw [H1.out, Nat.add_zero], low2⟩
          case measure => simp [intOf]; omega
    · obtain rfl : j = n := by omega
      have h1 := HT.out
      rw [← List.take_length (l := zs), Hl.out] at h1
      rw [h1]
      clear h1 R RB HT
      go_wp2_with fail
      go_ret
      exact ⟨rfl, low⟩

theorem sm_take (a : List Bool) (xs : List Nat) (ls : List Int) (j : Nat) (h1 : j < xs.length) (h2 : j < ls.length) : sm a (xs.take (j + 1)) (ls.take (j + 1)) = sm a (xs.take j) (ls.take j) + (if tv a (ls[j]?.getD 0) = true then xs[j]?.getD 0 else 0) := by
  rw [List.take_add_one, List.take_add_one, List.getElem?_eq_getElem h1, List.getElem?_eq_getElem h2, Option.toList_some, Option.toList_some, sm_append a _ _ _ _ (by rw [List.length_take, List.length_take]; omega)]
  simp [sm]
theorem sm_le (a : List Bool) (M : Nat) : ∀ (xs : List Nat) (ls : List Int), (∀ x ∈ xs, x ≤ M) → sm a xs ls ≤ M * xs.length
  | [], ls, _ => by cases ls <;> simp [sm]
  | x :: xs, [], _ => by simp [sm]
  | x :: xs, l :: ls, h => by
    have := sm_le a M xs ls fun y hy => h y (List.mem_cons_of_mem _ hy)
    have h1 := h x (by simp)
    rw [List.length_cons, Nat.mul_add, Nat.mul_one]
    simp only [sm]
    split <;> omega

set_option maxHeartbeats 4000000 in
theorem sum_any (B C n c1 c2 m d v : Nat) (A1 A2 D : Option Addr) (xs : List Nat) (ls : List Int) (bs : List Bool) (w : World) (r1 : RdI B w A1 (nats xs)) (r2 : RdI B w A2 ls) (hB : B ≤ w.heap.size) (hl1 : xs.length = n) (hl2 : ls.length = n) (hn : n ≤ 40) (hb : RdB C w D bs) (hC : C ≤ w.heap.size) (hm : bs.length = m) (hm2 : m ≤ 65538) (hv : v ≤ m) (hv2 : v ≤ 65537) (hx : ∀ x ∈ ls, Lit v x) (hM : ∀ x ∈ xs, x ≤ 1099511627776) :
    Calls Try.prog 25 #[.slice A1 n c1, .slice A2 n c2, .slice D m d] w fun e w' => e = .returned (.int .i64 ((sm bs xs ls : Nat) : Int)) ∧ Below w.heap.size w w' := by
  have Hl1 := Lib.hid hl1
  have Hl2 := Lib.hid hl2
  have R1 := Lib.hid r1
  have R2 := Lib.hid r2
  have RB := Lib.hid hb
  have Hm := Lib.hid hm
  have Hx := Lib.hid hx
  have HM := Lib.hid hM
  obtain ⟨T, hT⟩ : ∃ T, sm bs xs ls = T := ⟨_, rfl⟩
  rw [hT]
  have HT := Lib.hid hT
  clear hl1 hl2 r1 r2 hb hm hx hT hM
  go_enter Try.func25, Try.ntmps25
  go_wp2_with fail
  go_loopw [7, 8] (fun s i wr => ∃ j : Nat, j ≤ n ∧ i = .int .i64 j ∧ s = .int .i64 ((sm bs (xs.take j) (ls.take j) : Nat) : Int) ∧ Below w.heap.size w wr) (fun _ i _ => n - (intOf i).toNat)
  case atStart => exact ⟨0, by omega, rfl, rfl, Below.refl _ _⟩
  case round =>
    obtain ⟨j, hj, rfl, rfl, low⟩ := hrel
    by_cases hlt : j < n
    · have hj1 : j < xs.length := by rw [Hl1.out]; exact hlt
      have hj2 : j < ls.length := by rw [Hl2.out]; exact hlt
      obtain ⟨b1, o1, hA1, _, q1⟩ := (R1.out.below low hB).2 (by rw [nats_len]; omega)
      have hc1 := q1 j (by rw [nats_len]; exact hj1)
      rw [nats_at] at hc1
      obtain ⟨b2, o2, hA2, _, q2⟩ := (R2.out.below low hB).2 (by omega)
      have hc2 := q2 j hj2
      have hlit := Hx.out (ls[j]?.getD 0) (by rw [List.getElem?_eq_getElem hj2]; exact List.getElem_mem hj2)
      have hx1 := HM.out (xs[j]?.getD 0) (by rw [List.getElem?_eq_getElem hj1]; exact List.getElem_mem hj1)
      have htk := sm_take bs xs ls j hj1 hj2
      have hle := sm_le bs 1099511627776 (xs.take j) (ls.take j) (fun x hx => HM.out x (List.mem_of_mem_take hx))
      rw [List.length_take, Nat.min_eq_left (by omega)] at hle
      have Ht := Lib.hid htk
      have RBw := RB.out.below low hC
      have hsz := low.size
      have hb1c : b1 < wr.heap.size := by omega
      clear q1 q2 hj1 hj2 htk R1 R2 RB
      subst hA1
      subst hA2
      generalize ls[j]?.getD 0 = z at *
      generalize xs[j]?.getD 0 = x at *
      generalize sm bs (xs.take j) (ls.take j) = N at *
      have hH := Holds_any C (wr.heap.size + 1) D (some ⟨wr.heap.size, 0, none⟩) v 1 1 m d [z] bs (wr.alloc (.cells #[.int .i64 z] 3)) (RdI.lit wr #[.int .i64 z] [z] (fun x hx => by rw [List.mem_singleton.1 hx]; obtain ⟨_, q1, q2⟩ := hlit; exact ⟨by omega, by omega⟩) rfl) (by simp) rfl (by unfold maxLen; omega) (RBw.below ((Below.refl _ _).alloc (Nat.le_refl _) _) (by omega)) (by simp; omega) Hm.out (fun x hx => by rw [List.mem_singleton.1 hx]; exact hlit) hv hv2 hm2
      rw [show [z].any (tv bs) = tv bs z by simp] at hH
      have hH := Lib.hid hH
      have h1 := Ht.out
      clear Ht hlit
      generalize tv bs z = t at *
      cases t with
      | true =>
        rw [if_pos rfl] at h1
        have H1 := Lib.hid h1
        clear h1
        go_wp2_with fail
        refine hH.out.mono ?_
        rintro e w2 ⟨rfl, hb2⟩
        have low1 := (((Below.refl wr.heap.size wr).alloc (Nat.le_refl _) (.cells #[.int .i64 z] 3)).trans (hb2.mono (by simp)))
        have low2 := low.trans (low1.mono hsz)
        have hc3 := (low1.cell (p := ⟨b1, o1 + j, none⟩) hb1c).trans hc1
        clear hH hb2 low1 hc1 hc2
        go_wp2_with fail
        go_roundw
        case rel => exact ⟨j + 1, by omega, by go_num, by rw [H1.out]; go_num, low2⟩
        case measure => simp [intOf]; omega
      | false =>
        rw [if_neg (by simp)] at h1
        have H1 := Lib.hid h1
        clear h1
        go_wp2_with fail
        refine hH.out.mono ?_
        rintro e w2 ⟨rfl, hb2⟩
        have low2 := low.trans (((Below.refl wr.heap.size wr).alloc (Nat.le_refl _) _).trans (hb2.mono (by simp)) |>.mono hsz)
        clear hH hb2
        go_wp2_with fail
        go_roundw
        case rel => exact ⟨j + 1, by omega, by go_num, by rw [H1.out, Nat.add_zero], low2⟩
        case measure => simp [intOf]; omega
    · obtain rfl : j = n := by omega
      have h1 := HT.out
      rw [← List.take_length (l := xs), ← List.take_length (l := ls), Hl1.out, Hl2.out] at h1
      rw [h1]
      clear h1 R1 R2 RB HT
      go_wp2_with fail
      go_ret
      exact ⟨rfl, low⟩

end Go.Proofs.Ytpeklcbjhkchlaa
