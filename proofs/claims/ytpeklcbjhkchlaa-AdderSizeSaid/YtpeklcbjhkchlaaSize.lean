/- For all slices of integers and every number the law AdderSize answers true at the landed code and changes nothing that came in: how many variables and clauses Sum makes, and of what. Conditions: those of the statement alone. -/
import Derived.Test.YtpeklcbjhkchlaaSumsN
import Derived.Test.YtpeklcbjhkchlaaLive
namespace Go.Proofs.Ytpeklcbjhkchlaa
open Go.ChangeShapes Go.WideShapes Go.ChangeAt Go.RowKit
set_option maxRecDepth 100000

/-- How many of the lowest h bits are set. -/
def pop (x : Nat) : Nat → Nat
  | 0 => 0
  | h + 1 => pop x h + (x / 2 ^ h) % 2
theorem pop_le (x : Nat) : ∀ h, pop x h ≤ h
  | 0 => Nat.le_refl _
  | h + 1 => by have := pop_le x h; have := Nat.mod_lt (x / 2 ^ h) (show 0 < 2 by omega); rw [pop]; omega
theorem pop_over {x h : Nat} (hx : x / 2 ^ h = 0) : ∀ d, pop x (h + d) = pop x h
  | 0 => rfl
  | d + 1 => by
    rw [← Nat.add_assoc, pop, pop_over hx d, Nat.pow_add, ← Nat.div_div_eq_div_mul, hx, Nat.zero_div]; rfl
def pops (xs : List Nat) (h : Nat) : Nat → Nat
  | 0 => 0
  | j + 1 => pops xs h j + pop (xs[j]?.getD 0) h
def ll (f : Nat → List Int) : Nat → Nat
  | 0 => 0
  | h + 1 => ll f h + (f h).length
theorem rl_snoc (q : List Int) : ∀ l : List (List Int), rl (l ++ [q]) = rl l + q.length
  | [] => by simp [rl]
  | p :: l => by show p.length + rl (l ++ [q]) = p.length + rl l + q.length; rw [rl_snoc q l]; omega
theorem rl_range (f : Nat → List Int) : ∀ h, rl ((List.range h).map f) = ll f h
  | 0 => rfl
  | h + 1 => by rw [List.range_succ, List.map_append, List.map_singleton, rl_snoc, rl_range f h]; rfl
def popl : List Nat → Nat → Nat
  | [], _ => 0
  | x :: xs, h => pop x h + popl xs h
theorem ll_qs : ∀ (xs : List Nat) (ls : List Int) (h : Nat), xs.length = ls.length → ll (qs xs ls) h = popl xs h
  | [], [], 0, _ => rfl
  | [], [], h + 1, e => by rw [ll, ll_qs [] [] h e]; rfl
  | x :: xs, l :: ls, 0, e => by
    have := ll_qs xs ls 0 (by simpa using e)
    show 0 = pop x 0 + popl xs 0
    rw [← this]; rfl
  | x :: xs, l :: ls, h + 1, e => by
    have i1 := ll_qs (x :: xs) (l :: ls) h e
    have i2 := ll_qs xs ls (h + 1) (by simpa using e)
    rw [ll] at i2
    have i3 := ll_qs xs ls h (by simpa using e)
    have hm := Nat.mod_lt (x / 2 ^ h) (show 0 < 2 by omega)
    rw [ll, i1, qs_cons, List.length_append, Nat.testBit_eq_decide_div_mod_eq]
    show pop x h + popl xs h + _ = (pop x h + (x / 2 ^ h) % 2) + popl xs (h + 1)
    by_cases hb : x / 2 ^ h % 2 = 1
    · rw [hb]; simp; omega
    · rw [show x / 2 ^ h % 2 = 0 by omega]; simp; omega
  | [], l :: ls, _, h => by simp at h
  | x :: xs, [], _, h => by simp at h
theorem popl_same (h : Nat) : ∀ xs : List Nat, (∀ x ∈ xs, Lib.bitLen x ≤ h ∧ x < 2 ^ 64) → h ≤ 64 → popl xs h = popl xs 64
  | [], _, _ => rfl
  | x :: xs, hx, h64 => by
    have h1 := hx x (by simp)
    have h2 := bitLen_lt x h1.2
    have h3 : x / 2 ^ h = 0 := Nat.div_eq_of_lt (Nat.lt_of_lt_of_le h2 (Nat.pow_le_pow_right (by omega) h1.1))
    have h4 := pop_over h3 (64 - h)
    rw [show h + (64 - h) = 64 by omega] at h4
    show pop x h + popl xs h = pop x 64 + popl xs 64
    rw [h4, popl_same h xs (fun y hy => hx y (List.mem_cons_of_mem _ hy)) h64]
theorem rows_pop (xs : List Nat) (ls : List Int) (he : xs.length = ls.length) (h : ∀ x ∈ xs, x < 2 ^ 64) : rl (rowsOf xs ls) = popl xs 64 := by
  unfold rowsOf
  rw [rl_range, ll_qs _ _ _ he, popl_same _ _ (fun x hx => ⟨hgt_ge hx, h x hx⟩) (hgt_le h)]
theorem pops_snoc (x h : Nat) (xs : List Nat) : ∀ j, j ≤ xs.length → pops (xs ++ [x]) h j = pops xs h j
  | 0, _ => rfl
  | j + 1, hj => by rw [pops, pops, pops_snoc x h xs j (by omega), List.getElem?_append_left (by omega)]
theorem popl_snoc (x h : Nat) : ∀ xs : List Nat, popl (xs ++ [x]) h = popl xs h + pop x h
  | [] => by simp [popl]
  | y :: xs => by show pop y h + popl (xs ++ [x]) h = pop y h + popl xs h + pop x h; rw [popl_snoc x h xs]; omega
theorem popl_take (h : Nat) (xs : List Nat) : ∀ j, j ≤ xs.length → popl (xs.take j) h = pops xs h j
  | 0, _ => rfl
  | j + 1, hj => by
    have e : xs[j]? = some (xs[j]'(by omega)) := List.getElem?_eq_getElem (by omega)
    rw [List.take_add_one, e, Option.toList_some, popl_snoc, popl_take h xs j (by omega), pops, e, Option.getD_some]
theorem popl_all (h : Nat) (xs : List Nat) : popl xs h = pops xs h xs.length := by
  have := popl_take h xs xs.length (Nat.le_refl _)
  rwa [List.take_length] at this
theorem pops_le (xs : List Nat) : ∀ j, pops xs 64 j ≤ 64 * j
  | 0 => Nat.le_refl _
  | j + 1 => by have := pops_le xs j; have := pop_le (xs[j]?.getD 0) 64; rw [pops]; omega

theorem addUp_bits (rows : List (List Int)) (carry : List Int) (next : Nat) (t : List Int × List (List Int) × Nat) (h : addUp rows carry next = some t) :
    2 * t.1.length + next ≤ 2 * (rows.length + carry.length) + t.2.2 := by
  refine addUp_ind (P := fun rows carry next t => 2 * t.1.length + next ≤ 2 * (rows.length + carry.length) + t.2.2)
    (fun (next : Nat) => Nat.le_refl _) (fun rows carry (next : Nat) r t hne hr ht ih => ?_) rows carry next t h
  obtain ⟨s1, s2, _⟩ := red_sizes _ _ _ r (Nat.le_refl _) hr
  show 2 * (t.1.length + 1) + next ≤ _ + t.2.2
  cases rows with
  | nil =>
    have hc : carry ≠ [] := fun e => hne ⟨rfl, e⟩
    have hc2 : 0 < carry.length := List.length_pos_iff.2 hc
    simp only [List.headD_nil, List.nil_append, List.tail_nil, List.length_nil] at *
    omega
  | cons q rs =>
    simp only [List.headD_cons, List.tail_cons, List.length_cons] at *
    omega
theorem max_abs {M : Nat} {y : Int} (h : y = 0 ∨ Lit M y) (hM : 1 ≤ M) (hM2 : M ≤ 70000) : ∃ k : Nat, k < M ∧ max y (wrap64 (-y)) = (k : Int) := by
  have hw : wrap64 (-y) = -y := IntWalk.wrap64_in _ (by rcases h with rfl | ⟨_, h1, h2⟩ <;> omega)
  refine ⟨(max y (-y)).toNat, ?_, ?_⟩
  · rcases h with rfl | ⟨_, h1, h2⟩ <;> omega
  · rw [hw]; omega
set_option maxHeartbeats 4000000 in
theorem size_err (A1 A2 : Option Addr) (n1 n2 c1 c2 : Nat) (next E : Int) (xs ls : List Int) (w : World) (r1 : RdI w.heap.size w A1 xs) (r2 : RdI w.heap.size w A2 ls) (h1 : n1 ≤ 40) (h2 : n2 ≤ 40) (hE : E ≠ 0)
    (hS : ∀ W : World, RdI W.heap.size W A1 xs → RdI W.heap.size W A2 ls → Calls Try.prog 13 #[.slice A1 n1 c1, .slice A2 n2 c2, .int .i64 next] W (SumRes W [] [] 0 E)) :
    Calls Try.prog 10 #[.slice A1 n1 c1, .slice A2 n2 c2, .int .i64 next] w fun e w' => e = .returned (.bool true) ∧ Below w.heap.size w w' := by
  have d0 : (E != 0) = true := by simpa using hE
  go_enter Try.func10, Try.ntmps10
  go_wp2_with fail
  refine (live_any w).mono ?_
  rintro e w1 ⟨rfl, hb1⟩
  have hr1 := RdI.more (r1.below hb1 (Nat.le_refl _)) hb1.size
  have hr2 := RdI.more (r2.below hb1 (Nat.le_refl _)) hb1.size
  go_wp2_with fail
  refine (hS w1 hr1 hr2).mono ?_
  rintro e w2 ⟨A3, c3, B3, d3, rfl, _, _, _, hb2, _⟩
  have hb12 := hb1.trans (hb2.mono hb1.size)
  clear hS hr1 hr2 r1 r2
  go_wp2_with fail
  go_ret
  exact ⟨rfl, hb12⟩
theorem size_out (A1 A2 : Option Addr) (n1 n2 c1 c2 : Nat) (next : Int) (w : World) (h : 40 < n1 ∨ 40 < n2) :
    Calls Try.prog 10 #[.slice A1 n1 c1, .slice A2 n2 c2, .int .i64 next] w fun e w' => e = .returned (.bool true) ∧ Below w.heap.size w w' := by
  by_cases h1 : 40 < n1
  · clear h
    go_enter Try.func10, Try.ntmps10
    go_wp2_with fail
    refine (live_any w).mono ?_
    rintro e w1 ⟨rfl, hb1⟩
    go_wp2_with fail
    go_ret
    exact ⟨rfl, hb1⟩
  · have h2 : 40 < n2 := by omega
    clear h
    go_enter Try.func10, Try.ntmps10
    go_wp2_with fail
    refine (live_any w).mono ?_
    rintro e w1 ⟨rfl, hb1⟩
    go_wp2_with fail
    go_ret
    exact ⟨rfl, hb1⟩

set_option maxHeartbeats 8000000 in
theorem size_main (A1 A2 : Option Addr) (n c1 c2 next K A nb : Nat) (xs : List Nat) (ls bits : List Int) (cl : List (List Int)) (w : World) (r1 : RdI w.heap.size w A1 (nats xs)) (r2 : RdI w.heap.size w A2 ls) (hn : n ≤ 40) (hl : xs.length = n) (hx : ∀ x ∈ xs, x ≤ 1099511627776)
    (hn1 : 1 ≤ next) (hnx : next ≤ 65537) (hnb : nb ≤ 100000) (hcl : cl.length = K) (hA : next + 2 * A ≤ 65537) (hK1 : 7 * A ≤ K) (hK2 : K ≤ 14 * A) (hset : A = 0 → pops xs 64 n ≤ nb) (hbl : bits.length = nb)
    (hbits : ∀ x ∈ bits, x = 0 ∨ Lit (next + 2 * A) x) (hlits : ∀ l ∈ cl, ∀ y ∈ l, Lit (next + 2 * A) y)
    (hS : ∀ W : World, RdI W.heap.size W A1 (nats xs) → RdI W.heap.size W A2 ls → Calls Try.prog 13 #[.slice A1 n c1, .slice A2 n c2, .int .i64 (next : Int)] W (SumRes W bits cl (next + 2 * A) 0)) :
    Calls Try.prog 10 #[.slice A1 n c1, .slice A2 n c2, .int .i64 (next : Int)] w fun e w' => e = .returned (.bool true) ∧ Below w.heap.size w w' := by
  have hKb : K ≤ 1000000 := by omega
  have Hl := Lib.hid hl
  have Hx := Lib.hid hx
  have Hset := Lib.hid hset
  have Hcl := Lib.hid hcl
  have Hb := Lib.hid hbl
  have Hbits := Lib.hid hbits
  have Hlits := Lib.hid hlits
  clear hl hx hset hcl hbl hbits hlits
  go_enter Try.func10, Try.ntmps10
  go_wp2_with fail
  refine (live_any w).mono ?_
  rintro e w1 ⟨rfl, hb1⟩
  have hr1 := RdI.more (r1.below hb1 (Nat.le_refl _)) hb1.size
  have hr2 := RdI.more (r2.below hb1 (Nat.le_refl _)) hb1.size
  go_wp2_with fail
  refine (hS w1 hr1 hr2).mono ?_
  rintro e w2 ⟨A3, c3, B3, d3, rfl, hc3, r3, r4, hb2, hl4⟩
  rw [Hcl.out, Hb.out]
  rw [Hb.out] at hc3
  have hb12 := hb1.trans (hb2.mono hb1.size)
  have r1 := hr1.below hb2 (Nat.le_refl _)
  have r3 := Lib.hid r3
  have r4 := Lib.hid r4
  have hl4 := Lib.hid hl4
  clear hS hr1 hr2 r2 hb1 hb2
  obtain ⟨M, hM⟩ : ∃ M, M = next + 2 * A := ⟨_, rfl⟩
  rw [← hM] at Hbits Hlits hA ⊢
  have HM := Lib.hid hM
  have g1 : next ≤ M := by omega
  clear hM
  go_wp2_with fail
  go_loopw [12, 13] (fun s i wr => ∃ j : Nat, j ≤ n ∧ i = .int .i64 j ∧ s = .int .i64 ((pops xs 64 j : Nat) : Int) ∧ w2 = wr) (fun _ i _ => n - (intOf i).toNat)
  case atStart => exact ⟨0, by omega, rfl, rfl, rfl⟩
  case round =>
    obtain ⟨j, hj, rfl, rfl, rfl⟩ := hrel
    by_cases hlt : j < n
    · obtain ⟨b, off, rfl, _, hc⟩ := r1.2 (by rw [nats_len, Hl.out]; omega)
      have hc1 := hc j (by rw [nats_len, Hl.out]; exact hlt)
      rw [nats_at] at hc1
      have hx1 : xs[j]?.getD 0 ≤ 1099511627776 := by
        have hjl : j < xs.length := by rw [Hl.out]; exact hlt
        rw [List.getElem?_eq_getElem hjl]
        exact Hx.out _ (List.getElem_mem hjl)
      have hps : pops xs 64 (j + 1) = pops xs 64 j + pop (xs[j]?.getD 0) 64 := rfl
      have hle := pops_le xs j
      have Hps := Lib.hid hps
      clear hc hps r1
      generalize xs[j]?.getD 0 = x at *
      generalize pops xs 64 j = P at *
      go_wp2_with fail
      go_loopw [12, 14] (fun s v wr => ∃ k : Nat, k ≤ 64 ∧ v = .int .i64 ((x / 2 ^ k : Nat) : Int) ∧ s = .int .i64 ((P + pop x k : Nat) : Int) ∧ w2 = wr) (fun _ v _ => (intOf v).toNat)
      case atStart => exact ⟨0, by omega, by rw [Nat.pow_zero, Nat.div_one], by rw [pop, Nat.add_zero], rfl⟩
      case round =>
        obtain ⟨k, hk, rfl, rfl, rfl⟩ := hrel
        have e1 : pop x (k + 1) = pop x k + (x / 2 ^ k) % 2 := rfl
        have e2 : x / 2 ^ (k + 1) = x / 2 ^ k / 2 := by rw [Nat.pow_succ, Nat.div_div_eq_div_mul]
        have e3 : x / 2 ^ k ≤ x := Nat.div_le_self _ _
        have e4 := pop_le x k
        have e5 : 64 ≤ k → x / 2 ^ k = 0 := fun h => Nat.div_eq_of_lt (Nat.lt_of_lt_of_le (show x < 2 ^ 64 by omega) (Nat.pow_le_pow_right (by omega) h))
        have e6 : x / 2 ^ k = 0 → pop x 64 = pop x k := fun h => by
          have := pop_over h (64 - k)
          rwa [show k + (64 - k) = 64 by omega] at this
        have E12 := Lib.hid (And.intro e1 e2)
        have E56 := Lib.hid (And.intro e5 e6)
        clear e1 e2 e5 e6
        generalize x / 2 ^ k = v at *
        generalize pop x k = p at *
        by_cases h0 : 0 < v
        · have hk64 : k < 64 := by
            rcases Nat.lt_or_ge k 64 with h | h
            · exact h
            · have := E56.out.1 h; omega
          have hm : v % 2 ≤ 1 := by omega
          go_wp2_with fail
          go_roundw
          case rel => exact ⟨k + 1, by omega, by rw [E12.out.2]; go_num, by rw [E12.out.1]; go_num, trivial⟩
          case measure => simp [intOf]; omega
        · obtain rfl : v = 0 := by omega
          have hp := E56.out.2 rfl
          have hp2 : P + p = pops xs 64 (j + 1) := by rw [Hps.out, hp]
          have Hp2 := Lib.hid hp2
          clear E56 E12 Hps hp hp2
          go_wp2_with fail
          go_roundw
          case rel => exact ⟨j + 1, by omega, by go_num, by rw [Hp2.out], trivial⟩
          case measure => simp [intOf]; omega
    · obtain rfl : j = n := by omega
      clear r1
      go_wp2_with fail
      go_loopw [15] (fun i wr => ∃ q : Nat, q ≤ nb ∧ i = .int .i64 q ∧ ∃ k, wr = w2.drewN k) (fun i _ => nb - (intOf i).toNat)
      case atStart => exact ⟨0, by omega, rfl, 0, rfl⟩
      case round =>
        obtain ⟨q, hq, rfl, k1, rfl⟩ := hrel
        by_cases hqt : q < nb
        · obtain ⟨b, off, rfl, _, hc⟩ := r3.out.2 (by rw [Hb.out]; omega)
          have hc1 := hc q (by rw [Hb.out]; exact hqt)
          have hql : q < bits.length := by rw [Hb.out]; exact hqt
          have hxb := Hbits.out (bits[q]?.getD 0) (by rw [List.getElem?_eq_getElem hql]; exact List.getElem_mem hql)
          clear hc hql r3
          generalize bits[q]?.getD 0 = y at *
          obtain ⟨k, hk1, hk2⟩ := max_abs hxb (by omega) (by omega)
          have f1 : decide ((k : Int) < 0) = false := decide_eq_false (by omega)
          have f2 : decide (M ≤ k) = false := decide_eq_false (by omega)
          clear hxb
          go_wp2_with fail
          go_quiet (fail)
          go_wp2_with fail
          go_roundw
          case rel => exact ⟨q + 1, by omega, by go_num, _, rfl⟩
          case measure => simp [intOf]; omega
        · obtain rfl : q = nb := by omega
          clear r3
          obtain ⟨W5, hW5⟩ : ∃ W5, W5 = w2.drewN k1 := ⟨_, rfl⟩
          have r5 : RdR W5.heap.size W5 B3 cl := by rw [hW5]; exact r4.out
          have hb15 : Below w.heap.size w W5 := by rw [hW5]; exact below_drewN hb12 k1
          rw [← hW5]
          have r5 := Lib.hid r5
          clear hW5 r4 hb12
          go_wp2_with fail
          go_loopw [17] (fun i wr => ∃ q : Nat, q ≤ K ∧ i = .int .i64 q ∧ ∃ k, wr = W5.drewN k) (fun i _ => K - (intOf i).toNat)
          case atStart => exact ⟨0, by omega, rfl, 0, rfl⟩
          case round =>
            obtain ⟨i, hi, rfl, k2, rfl⟩ := hrel
            by_cases hit : i < K
            · obtain ⟨b, off, rfl, _, hc⟩ := r5.out (by rw [Hcl.out]; omega)
              obtain ⟨E, ec, hc1, hr6⟩ := hc i (by rw [Hcl.out]; exact hit)
              have hil : i < cl.length := by rw [Hcl.out]; exact hit
              have hle : (cl[i]?.getD []).length ≤ maxLen := hl4.out i hil
              have hlit : ∀ y ∈ cl[i]?.getD [], Lit M y := by rw [List.getElem?_eq_getElem hil]; exact Hlits.out _ (List.getElem_mem hil)
              obtain ⟨L, hL⟩ : ∃ L, (cl[i]?.getD []).length = L := ⟨_, rfl⟩
              rw [hL] at hc1 hle
              have HL := Lib.hid hL
              have Hlit := Lib.hid hlit
              have R5 := Lib.hid r5.out
              clear hc hil hL hlit r5
              generalize cl[i]?.getD [] = x at *
              have hle : L ≤ 9223372036854775807 := by unfold maxLen at hle; omega
              go_wp2_with fail
              go_loopw [18] (fun i wr => ∃ q : Nat, q ≤ L ∧ i = .int .i64 q ∧ ∃ k, wr = W5.drewN k) (fun i _ => L - (intOf i).toNat)
              case atStart => exact ⟨0, by omega, rfl, _, rfl⟩
              case round =>
                obtain ⟨d, hd, rfl, k3, rfl⟩ := hrel
                by_cases hdt : d < L
                · have hdl : d < x.length := by rw [HL.out]; exact hdt
                  obtain ⟨b3, off3, hE, _, hc3⟩ := hr6.2 (by omega)
                  have hc4 := hc3 d hdl
                  have hy := Hlit.out (x[d]?.getD 0) (by rw [List.getElem?_eq_getElem hdl]; exact List.getElem_mem hdl)
                  clear hc3 hdl hr6
                  cases hE
                  generalize x[d]?.getD 0 = y at *
                  obtain ⟨k, hk1, hk2⟩ := max_abs (.inr hy) (by omega) (by omega)
                  have f0 : (y == 0) = false := by simpa using hy.1
                  have f2 : decide (M ≤ k) = false := decide_eq_false (by omega)
                  clear hy
                  go_wp2_with fail
                  go_quiet (fail)
                  go_wp2_with fail
                  go_roundw
                  case rel => exact ⟨d + 1, by omega, by go_num, _, rfl⟩
                  case measure => simp [intOf]; omega
                · obtain rfl : d = L := by omega
                  clear hr6
                  go_wp2_with fail
                  go_roundw
                  case rel => exact ⟨i + 1, by omega, by go_num, _, rfl⟩
                  case measure => simp [intOf]; omega
            · obtain rfl : i = K := by omega
              clear r5
              have hps := pops_le xs j
              have hse := Hset.out
              have hM := HM.out
              generalize pops xs 64 j = P at *
              go_wp2_with fail
              all_goals
                go_ret
                refine ⟨?_, below_drewN hb15 _⟩
                by_cases e : A = 0
                · have := hse e
                  simp [this]
                · have h2 : (next : Int) < (next : Int) + 2 * (A : Int) := by omega
                  simp [h2]

theorem size_any (A1 A2 : Option Addr) (n1 n2 c1 c2 : Nat) (next : Int) (xs ls : List Int) (w : World) (r1 : RdI w.heap.size w A1 xs) (r2 : RdI w.heap.size w A2 ls) (hl1 : xs.length = n1) (hl2 : ls.length = n2) :
    Calls Try.prog 10 #[.slice A1 n1 c1, .slice A2 n2 c2, .int .i64 next] w fun e w' => e = .returned (.bool true) ∧ Below w.heap.size w w' := by
  by_cases h : 40 < n1 ∨ 40 < n2
  · exact size_out A1 A2 n1 n2 c1 c2 next w h
  · by_cases ho : OkS xs ls next
    · obtain ⟨h1, h2, h3, h4⟩ := id ho
      obtain ⟨N, rfl⟩ := Int.eq_ofNat_of_zero_le (show 0 ≤ next by omega)
      obtain rfl : n1 = n2 := by omega
      have hnat := ho.nats
      rw [Int.toNat_natCast] at h4
      have hx : ∀ x ∈ xs.map Int.toNat, x ≤ 1099511627776 := fun x hx => by
        obtain ⟨z, hz, rfl⟩ := List.mem_map.1 hx
        obtain ⟨j, hj, rfl⟩ := List.mem_iff_getElem.1 hz
        have := (h4 j (by omega)).1.2
        rw [List.getElem?_eq_getElem hj, Option.getD_some] at this
        omega
      have hx64 : ∀ x ∈ xs.map Int.toNat, x < 2 ^ 64 := fun x h => by have := hx x h; omega
      have hlit : ∀ y ∈ ls, Lit N y := fun y hy => by
        obtain ⟨j, hj, rfl⟩ := List.mem_iff_getElem.1 hy
        have := (h4 j hj).2
        rw [List.getElem?_eq_getElem hj, Option.getD_some] at this
        exact this
      rcases ht : addUp (rowsOf (xs.map Int.toNat) ls) [] N with _ | t
      · refine size_err A1 A2 n1 n1 c1 c2 N 2 xs ls w r1 r2 (by omega) (by omega) (by omega) (fun W q1 q2 => (Sum_ok _ n1 c1 c2 N A1 A2 xs ls W q1 q2 (Nat.le_refl _) hl1 hl2 (by omega) ho).mono fun e w' hs => ?_)
        unfold Summed at hs
        rwa [Int.toNat_natCast, ht] at hs
      · obtain ⟨A, i1, i2, i3, i4, i5⟩ := addUp_sizes _ _ _ t ht
        have hr : ∀ q ∈ rowsOf (xs.map Int.toNat) ls, ∀ x ∈ q, Lit N x := fun q hq x hx => by
          unfold rowsOf at hq
          obtain ⟨p, _, rfl⟩ := List.mem_map.1 hq
          exact hlit x (qs_mem hx)
        obtain ⟨j1, j2, j3, j4⟩ := addUp_lits _ _ _ t ht (by omega) hr (fun x hx => absurd hx (by simp))
        have hbt := addUp_bits _ _ _ t ht
        rw [rowsOf_len, List.length_nil] at hbt
        have hg := hgt_le hx64
        have hlen : (xs.map Int.toNat).length = n1 := by rw [List.length_map, hl1]
        have hpop := rows_pop (xs.map Int.toNat) ls (by rw [hlen, hl2]) hx64
        rw [popl_all, hlen] at hpop
        rw [i1] at j2 j4
        have h65 := i4 (by omega)
        exact size_main A1 A2 n1 c1 c2 N t.2.1.length A t.1.length (xs.map Int.toNat) ls t.1 t.2.1 w (by rw [hnat]; exact r1) r2 (by omega) hlen hx (by omega) (by omega) (by omega) rfl (by omega) i2 i3 (fun e => by have := i5 e; rw [List.length_nil] at this; omega) rfl j4 j2
          (fun W q1 q2 => (Sum_ok _ n1 c1 c2 N A1 A2 xs ls W (by rw [hnat] at q1; exact q1) q2 (Nat.le_refl _) hl1 hl2 (by omega) ho).mono fun e w' hs => by
            unfold Summed at hs
            rw [Int.toNat_natCast, ht] at hs
            rw [← i1]; exact hs)
    · exact size_err A1 A2 n1 n2 c1 c2 next 1 xs ls w r1 r2 (by omega) (by omega) (by omega) (fun W q1 q2 => Sum_arg _ n1 n2 c1 c2 next A1 A2 xs ls W q1 q2 hl1 hl2 (by omega) ho)

set_option maxRecDepth 100000 in
theorem adderSize_lifted (os : Os) (started : os.Started) (H : Type) (enc : TypeId × Value → H) :
    ReturnsInHanded {} Try.checked os 10 .any (Rows.adderSizeSpec.pre6 enc Try.prog Try.f10 Rows.adderSizeRow.domain false) (Rows.adderSizeSpec.post enc Try.prog Try.f10 false true false false) := by
  refine returnsInHanded_of_change (C := Try.checked) Try_own started (by kernel_rfl) Try.func10
    (ChangeSpec.witness6 (enc := enc) (C := Try.checked) false ⟨#[], #[.slice Option.none 0 0, .slice Option.none 0 0, .int .i64 0], []⟩ 10 (by kernel_rfl) (by kernel_rfl) (by kernel_rfl) (by kernel_rfl)) ?_
  intro W base args ds gs before hval0 hW _ _
  have hval : ∀ (j : Nat) t v, Try.f10.params[j]? = some t → args[j]? = some v → Value.okWide Try.prog W .any base t v := hval0
  have hW' := hW
  obtain ⟨p, q, hA0, hV, rfl, _, _⟩ := hW
  have hA : DataW.TrodAll enc Try.prog W 0 (fun _ => true) true Try.f10.params.toList args.toList ds p := hA0
  have hpar : Try.f10.params = #[22, 22, 3] := rfl
  rw [hpar] at hA hval
  have hlt : ∀ x ∈ p, x.block < W.heap.size := fun x hx => hW'.lt x (List.mem_append_left _ hx)
  obtain ⟨rfl, rfl⟩ := trodVars_none hV
  clear hA0 hval0
  obtain ⟨v0, vs0, d0, ds0, p0, q0, hargs0, rfl, rfl, h0, r0⟩ := trodAll_cons hA
  obtain ⟨v1, vs1, d1, ds1, p1, q1, hargs1, rfl, rfl, h1, r1⟩ := trodAll_cons r0
  obtain ⟨v2, vs2, d2, ds2, p2, q2, hargs2, rfl, rfl, h2, r2⟩ := trodAll_cons r1
  obtain ⟨hlast, rfl, rfl⟩ := trodAll_nil r2
  obtain rfl : args = #[v0, v1, v2] := by
    apply Array.toList_inj.1
    rw [hargs0, hargs1, hargs2, hlast]
  obtain ⟨A0, n0, cap0, zs0, rfl, hr0, hl0, hlc0, hm0, hn0⟩ := open_intlist (hval 0 22 v0 rfl rfl) h0 (fun x hx => hlt x (List.mem_append_left _ hx))
  obtain ⟨A1, n1, cap1, zs1, rfl, hr1, hl1, hlc1, hm1, hn1⟩ := open_intlist (hval 1 22 v1 rfl rfl) h1 (fun x hx => hlt x (List.mem_append_right _ (List.mem_append_left _ hx)))
  obtain ⟨n2, rfl, rfl, rfl, wf2⟩ := open_int underlying3' (hval 2 3 v2 rfl rfl) h2
  refine (size_any A0 A1 n0 n1 cap0 cap1 n2 zs0 zs1 W hr0 hr1 hl0 hl1).mono fun e W' ⟨he, hb⟩ => ?_
  subst he
  exact ⟨_, rfl, law_post Try_laidOut hW' rfl (by rw [hpar]; decide +kernel) 4 rfl Try.underlying4 rfl hb⟩

theorem adderSize_holds : Rows.AdderSizeSaid :=
  OpenClaim.holds_of_wide 10 Try.f10 rfl rfl rfl rfl rfl rfl rfl ⟨rfl, rfl, rfl, rfl, rfl⟩ rfl rfl rfl rfl rfl (by kernel_rfl) Try.func10 (by kernel_rfl)
    (of_decide_eq_true (by kernel_rfl)) (by unfold Func.isWrapper; first | (rw [if_pos (by decide +kernel)]; kernel_rfl) | (rw [if_neg (by decide +kernel)]; exact ⟨rfl, rfl⟩))
    (fun os started H enc _ => adderSize_lifted os started H enc)
end Go.Proofs.Ytpeklcbjhkchlaa
