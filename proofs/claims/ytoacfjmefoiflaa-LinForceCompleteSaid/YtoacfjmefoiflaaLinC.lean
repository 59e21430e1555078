/- What lin.Check answers. -/
import Derived.Test.YtoacfjmefoiflaaBase
namespace Go.Proofs.Ytoacfjmefoiflaa
open Go.ChangeShapes Go.WideShapes Go.ChangeAt Go.RowKit
set_option maxRecDepth 100000

def numB (x : Int) : Bool := decide (-1099511627776 ≤ x) && decide (x ≤ 1099511627776)
def litB (x N : Int) : Bool := decide (x ≠ 0) && decide (-N ≤ x) && decide (x ≤ N)
theorem lnumber_any (x : Int) (w : World) : Calls Try.prog 42 #[.int .i64 x] w fun e w' => e = .returned (.bool (numB x)) ∧ w = w' := by
  obtain ⟨r, hr⟩ : ∃ r, numB x = r := ⟨_, rfl⟩
  rw [hr]
  have Hr := Lib.hid hr
  clear hr
  by_cases h1 : -1099511627776 ≤ x
  · by_cases h2 : x ≤ 1099511627776
    · obtain rfl : r = true := by rw [← Hr.out]; unfold numB; rw [decide_eq_true h1, decide_eq_true h2]; rfl
      go_enter Try.func42, Try.ntmps42
      go_wp2
      go_ret
      exact ⟨rfl, rfl⟩
    · obtain rfl : r = false := by rw [← Hr.out]; unfold numB; rw [decide_eq_true h1, decide_eq_false h2]; rfl
      have f2 : decide (x ≤ 1099511627776) = false := decide_eq_false h2
      go_enter Try.func42, Try.ntmps42
      go_wp2
      go_ret
      exact ⟨rfl, rfl⟩
  · obtain rfl : r = false := by rw [← Hr.out]; unfold numB; rw [decide_eq_false h1]; rfl
    have f2 : decide (-1099511627776 ≤ x) = false := decide_eq_false h1
    go_enter Try.func42, Try.ntmps42
    go_wp2
    go_ret
    exact ⟨rfl, rfl⟩
theorem lliteral_any (x N : Int) (w : World) (h0 : 0 ≤ N) (h1 : N ≤ 65536) : Calls Try.prog 43 #[.int .i64 x, .int .i64 N] w fun e w' => e = .returned (.bool (litB x N)) ∧ w = w' := by
  obtain ⟨r, hr⟩ : ∃ r, litB x N = r := ⟨_, rfl⟩
  rw [hr]
  have Hr := Lib.hid hr
  clear hr
  by_cases hx : x = 0
  · obtain rfl : r = false := by rw [← Hr.out]; unfold litB; rw [decide_eq_false (by omega)]; rfl
    subst hx
    go_enter Try.func43, Try.ntmps43
    go_wp2
    go_ret
    exact ⟨rfl, rfl⟩
  · have f0 : (x != 0) = true := by simpa using hx
    by_cases h2 : -N ≤ x
    · by_cases h3 : x ≤ N
      · obtain rfl : r = true := by rw [← Hr.out]; unfold litB; rw [decide_eq_true hx, decide_eq_true h2, decide_eq_true h3]; rfl
        clear hx
        have g2 : decide (-N ≤ x) = true := decide_eq_true h2
        have g3 : decide (x ≤ N) = true := decide_eq_true h3
        go_enter Try.func43, Try.ntmps43
        go_wp2
        go_ret
        exact ⟨rfl, rfl⟩
      · obtain rfl : r = false := by rw [← Hr.out]; unfold litB; rw [decide_eq_true hx, decide_eq_true h2, decide_eq_false h3]; rfl
        clear hx
        have g2 : decide (-N ≤ x) = true := decide_eq_true h2
        have g3 : decide (x ≤ N) = false := decide_eq_false h3
        go_enter Try.func43, Try.ntmps43
        go_wp2
        go_ret
        exact ⟨rfl, rfl⟩
    · obtain rfl : r = false := by rw [← Hr.out]; unfold litB; rw [decide_eq_true hx, decide_eq_false h2]; rfl
      clear hx
      have g2 : decide (-N ≤ x) = false := decide_eq_false h2
      go_enter Try.func43, Try.ntmps43
      go_wp2
      go_ret
      exact ⟨rfl, rfl⟩

/-- A Lin in a block of its own. -/
def LinAt (w : World) (g : Nat) (vc vl : Value) (k : Int) (t : TypeId) : Prop := w.heap[g]? = some (.cells #[vc, vl, .int .i64 k] t (0, 0))
theorem LinAt.cells {w : World} {g : Nat} {vc vl : Value} {k : Int} {t : TypeId} (h : LinAt w g vc vl k t) : w.cell? ⟨g, 0, none⟩ = some vc ∧ w.cell? ⟨g, 1, none⟩ = some vl ∧ w.cell? ⟨g, 2, none⟩ = some (.int .i64 k) := by
  refine ⟨?_, ?_, ?_⟩
  · rw [cell_of_row w g 0 _ t (0, 0) h]; rfl
  · rw [cell_of_row w g 1 _ t (0, 0) h]; rfl
  · rw [cell_of_row w g 2 _ t (0, 0) h]; rfl
theorem LinAt.below {w w' : World} {g : Nat} {vc vl : Value} {k : Int} {t : TypeId} (h : LinAt w g vc vl k t) (hb : Below w.heap.size w w') : LinAt w' g vc vl k t := (hb.block g (Array.getElem?_eq_some_iff.1 h).1).trans h
theorem LinAt.lt {w : World} {g : Nat} {vc vl : Value} {k : Int} {t : TypeId} (h : LinAt w g vc vl k t) : g < w.heap.size := (Array.getElem?_eq_some_iff.1 h).1

/-- A constraint that lin.Check takes. -/
def OkL (cs ls : List Int) (k N : Int) : Prop := 0 ≤ N ∧ N ≤ 65536 ∧ cs.length = ls.length ∧ numB k = true ∧ ∀ j, j < ls.length → numB (cs[j]?.getD 0) = true ∧ litB (ls[j]?.getD 0) N = true
theorem firstL (cs ls : List Int) (N : Int) : ∀ n : Nat, (∀ j, j < n → numB (cs[j]?.getD 0) = true ∧ litB (ls[j]?.getD 0) N = true) ∨ ∃ i, i < n ∧ (∀ j, j < i → numB (cs[j]?.getD 0) = true ∧ litB (ls[j]?.getD 0) N = true) ∧ ¬ (numB (cs[i]?.getD 0) = true ∧ litB (ls[i]?.getD 0) N = true)
  | 0 => .inl fun j hj => absurd hj (Nat.not_lt_zero j)
  | n + 1 => by
    rcases firstL cs ls N n with h | ⟨i, h1, h2⟩
    · by_cases e : numB (cs[n]?.getD 0) = true ∧ litB (ls[n]?.getD 0) N = true
      · left; intro j hj
        rcases Nat.lt_or_ge j n with q | q
        · exact h j q
        · rw [show j = n by omega]; exact e
      · exact .inr ⟨n, by omega, h, e⟩
    · exact .inr ⟨i, by omega, h2⟩

set_option maxHeartbeats 4000000 in
theorem LinCheck_loop (B : Nat) (AC AL : Option Addr) (n cc lc i0 : Nat) (k N E : Int) (cs ls : List Int) (w : World) (hc : RdI B w AC cs) (hr : RdI B w AL ls) (hB : B ≤ w.heap.size) (hcl : cs.length = n) (hl : ls.length = n) (hn : n ≤ 4096) (h0 : 0 ≤ N) (h1 : N ≤ 65536) (hk : numB k = true)
    (hi : i0 ≤ n) (hok : ∀ j, j < i0 → numB (cs[j]?.getD 0) = true ∧ litB (ls[j]?.getD 0) N = true) (hE : (i0 = n ∧ E = 0) ∨ (i0 < n ∧ E = 1 ∧ ¬ (numB (cs[i0]?.getD 0) = true ∧ litB (ls[i0]?.getD 0) N = true))) :
    Calls Try.prog 17 #[.agg #[.slice AC n cc, .slice AL n lc, .int .i64 k], .int .i64 N] w fun e w' => e = .returned (.int .i64 E) ∧ Below w.heap.size w w' := by
  obtain ⟨W1, hW1⟩ : ∃ W, W = w.alloc (.cells #[.slice AC n cc, .slice AL n lc, .int .i64 k] 24) := ⟨_, rfl⟩
  have hb1 : Below w.heap.size w W1 := by rw [hW1]; exact (Below.refl w.heap.size w).alloc (Nat.le_refl _) _
  have hat : LinAt W1 w.heap.size (.slice AC n cc) (.slice AL n lc) k 24 := by rw [hW1]; exact heap_alloc_new _ _
  obtain ⟨cC, cL, cK⟩ := hat.cells
  have HW := Lib.hid hW1
  have Hl := Lib.hid (And.intro hcl hl)
  have Hok := Lib.hid hok
  have HE := Lib.hid hE
  have R := Lib.hid (And.intro (hc.below hb1 hB) (hr.below hb1 hB))
  have hnk := fun W => lnumber_any k W
  rw [hk] at hnk
  have Hnk := Lib.hid hnk
  clear hW1 hcl hl hok hE hc hr hnk hk
  go_enter Try.func17, Try.ntmps17
  go_wp2_with fail
  rw [← HW.out]
  clear HW
  go_wp2_with fail
  refine (Hnk.out _).mono ?_
  rintro e w' ⟨rfl, rfl⟩
  go_wp2_with fail
  go_loopw [31] (fun i wr => ∃ j : Nat, j ≤ i0 ∧ i = .int .i64 j ∧ W1 = wr) (fun i _ => n - (intOf i).toNat)
  case atStart => exact ⟨0, by omega, rfl, rfl⟩
  case round =>
    obtain ⟨j, hj, rfl, rfl⟩ := hrel
    by_cases hlt : j < n
    · have hjz : j < ls.length := by rw [Hl.out.2]; exact hlt
      have hjc : j < cs.length := by rw [Hl.out.1]; exact hlt
      obtain ⟨b, off, hAL, _, hcz⟩ := R.out.2.2 (by omega)
      obtain ⟨b2, off2, hAC, _, hcc⟩ := R.out.1.2 (by omega)
      have hz1 := hcz j hjz
      have hc1 := hcc j hjc
      have hN1 := fun W => lnumber_any (cs[j]?.getD 0) W
      have hN2 := fun W => lliteral_any (ls[j]?.getD 0) N W h0 h1
      cases hAL
      cases hAC
      by_cases hji : j < i0
      · obtain ⟨g1, g2⟩ := Hok.out j hji
        rw [g1] at hN1
        rw [g2] at hN2
        have HN1 := Lib.hid hN1
        have HN2 := Lib.hid hN2
        clear hcz hcc hjz hjc hN1 hN2 g1 g2 Hok HE R
        generalize ls[j]?.getD 0 = x at *
        generalize cs[j]?.getD 0 = y at *
        go_wp2_with fail
        refine (HN1.out _).mono ?_
        rintro e w' ⟨rfl, rfl⟩
        go_wp2_with fail
        refine (HN2.out _).mono ?_
        rintro e w' ⟨rfl, rfl⟩
        go_wp2_with fail
        go_roundw
        case rel => exact ⟨j + 1, by omega, by go_num, trivial⟩
        case measure => simp [intOf]; omega
      · obtain rfl : j = i0 := by omega
        obtain ⟨_, hE1, hbad⟩ := HE.out.resolve_left (by omega)
        subst hE1
        clear hcz hcc hjz hjc Hok HE R
        generalize ls[j]?.getD 0 = x at *
        generalize cs[j]?.getD 0 = y at *
        cases g1 : numB y with
        | true =>
          cases g2 : litB x N with
          | true => exact absurd ⟨g1, g2⟩ hbad
          | false =>
            rw [g1] at hN1
            rw [g2] at hN2
            have HN1 := Lib.hid hN1
            have HN2 := Lib.hid hN2
            clear hN1 hN2 g1 g2 hbad
            go_wp2_with fail
            refine (HN1.out _).mono ?_
            rintro e w' ⟨rfl, rfl⟩
            go_wp2_with fail
            refine (HN2.out _).mono ?_
            rintro e w' ⟨rfl, rfl⟩
            go_wp2_with fail
            go_ret
            exact ⟨rfl, hb1⟩
        | false =>
          rw [g1] at hN1
          have HN1 := Lib.hid hN1
          clear hN1 hN2 g1 hbad
          go_wp2_with fail
          refine (HN1.out _).mono ?_
          rintro e w' ⟨rfl, rfl⟩
          go_wp2_with fail
          go_ret
          exact ⟨rfl, hb1⟩
    · obtain rfl : j = n := by omega
      obtain ⟨_, hE1⟩ := HE.out.resolve_right (by omega)
      subst hE1
      clear Hok HE R
      go_wp2_with fail
      go_ret
      exact ⟨rfl, hb1⟩
theorem LinCheck_head (AC AL : Option Addr) (n1 n2 cc lc : Nat) (k N : Int) (w : World) (h0 : 0 ≤ N) (h1 : N ≤ 65536) (h : n1 ≠ n2 ∨ numB k = false) :
    Calls Try.prog 17 #[.agg #[.slice AC n1 cc, .slice AL n2 lc, .int .i64 k], .int .i64 N] w fun e w' => e = .returned (.int .i64 1) ∧ Below w.heap.size w w' := by
  obtain ⟨W1, hW1⟩ : ∃ W, W = w.alloc (.cells #[.slice AC n1 cc, .slice AL n2 lc, .int .i64 k] 24) := ⟨_, rfl⟩
  have hb1 : Below w.heap.size w W1 := by rw [hW1]; exact (Below.refl w.heap.size w).alloc (Nat.le_refl _) _
  have hat : LinAt W1 w.heap.size (.slice AC n1 cc) (.slice AL n2 lc) k 24 := by rw [hW1]; exact heap_alloc_new _ _
  obtain ⟨cC, cL, cK⟩ := hat.cells
  have HW := Lib.hid hW1
  have hnk := fun W => lnumber_any k W
  clear hW1
  by_cases hne : n1 = n2
  · subst hne
    rw [h.resolve_left (by simp)] at hnk
    have Hnk := Lib.hid hnk
    clear hnk h
    go_enter Try.func17, Try.ntmps17
    go_wp2_with fail
    rw [← HW.out]
    clear HW
    go_wp2_with fail
    refine (Hnk.out _).mono ?_
    rintro e w' ⟨rfl, rfl⟩
    go_wp2_with fail
    go_ret
    exact ⟨rfl, hb1⟩
  · have f1 : ((n1 : Int) != (n2 : Int)) = true := by simp; omega
    have f2 : (n1 != n2) = true := by simp; omega
    clear hnk h hne
    go_enter Try.func17, Try.ntmps17
    go_wp2_with fail
    rw [← HW.out]
    clear HW
    go_wp2_with fail
    go_ret
    exact ⟨rfl, hb1⟩
/-- lin.Check for any constraint that isn't long. -/
theorem LinCheck_any (B : Nat) (AC AL : Option Addr) (n1 n2 cc lc : Nat) (k N : Int) (cs ls : List Int) (w : World) (hc : RdI B w AC cs) (hr : RdI B w AL ls) (hB : B ≤ w.heap.size) (hcl : cs.length = n1) (hl : ls.length = n2) (hn : n2 ≤ 4096) (h0 : 0 ≤ N) (h1 : N ≤ 65536) :
    (OkL cs ls k N → Calls Try.prog 17 #[.agg #[.slice AC n1 cc, .slice AL n2 lc, .int .i64 k], .int .i64 N] w fun e w' => e = .returned (.int .i64 0) ∧ Below w.heap.size w w') ∧
    (¬ OkL cs ls k N → Calls Try.prog 17 #[.agg #[.slice AC n1 cc, .slice AL n2 lc, .int .i64 k], .int .i64 N] w fun e w' => e = .returned (.int .i64 1) ∧ Below w.heap.size w w') := by
  refine ⟨fun ⟨_, _, g3, g4, g5⟩ => ?_, fun hno => ?_⟩
  · obtain rfl : n1 = n2 := by omega
    exact LinCheck_loop B AC AL n1 cc lc n1 k N 0 cs ls w hc hr hB hcl hl hn h0 h1 g4 (Nat.le_refl _) (by rw [← hl]; exact g5) (.inl ⟨rfl, rfl⟩)
  · by_cases g : n1 ≠ n2 ∨ numB k = false
    · exact LinCheck_head AC AL n1 n2 cc lc k N w h0 h1 g
    · obtain rfl : n1 = n2 := by
        by_cases e : n1 = n2
        · exact e
        · exact absurd (.inl e) g
      have hk : numB k = true := by
        cases e : numB k with
        | true => rfl
        | false => exact absurd (.inr e) g
      rcases firstL cs ls N n1 with q | ⟨i, q1, q2, q3⟩
      · exact absurd ⟨h0, h1, by omega, hk, by rw [hl]; exact q⟩ hno
      · exact LinCheck_loop B AC AL n1 cc lc i k N 1 cs ls w hc hr hB hcl hl hn h0 h1 hk (by omega) q2 (.inr ⟨q1, rfl, q3⟩)
end Go.Proofs.Ytoacfjmefoiflaa
