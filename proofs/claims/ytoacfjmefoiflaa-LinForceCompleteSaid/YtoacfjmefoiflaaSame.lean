/- What lin.Same and the reference's Same answer. -/
import Derived.Test.YtoacfjmefoiflaaEq
import Derived.Test.YtoacfjmefoiflaaLinC
namespace Go.Proofs.Ytoacfjmefoiflaa
open Go.RowKit
set_option maxRecDepth 30000

theorem Equal_low (B C : Nat) (A D : Option Addr) (n m c d : Nat) (xs ys : List Int) (w : World) (hr : RdI B w A xs) (hs : RdI C w D ys) (hl : xs.length = n) (hl2 : ys.length = m) (hn : n ≤ maxLen) :
    Calls Try.prog 44 #[.slice A n c, .slice D m d] w fun e w' => e = .returned (.bool (decide (xs = ys))) ∧ Below w.heap.size w w' :=
  (Equal_any B C A D n m c d xs ys w hr hs hl hl2 hn).mono fun _ _ ⟨h1, k, h2⟩ => ⟨h1, by rw [h2]; exact below_drewN (Below.refl _ _) k⟩
theorem Ints_low (B C : Nat) (A D : Option Addr) (n m c d : Nat) (xs ys : List Int) (w : World) (hr : RdI B w A xs) (hs : RdI C w D ys) (hl : xs.length = n) (hl2 : ys.length = m) (hn : n ≤ maxLen) :
    Calls Try.prog 22 #[.slice A n c, .slice D m d] w fun e w' => e = .returned (.bool (decide (xs = ys))) ∧ Below w.heap.size w w' :=
  (Ints_any B C A D n m c d xs ys w hr hs hl hl2 hn).mono fun _ _ ⟨h1, k, h2⟩ => ⟨h1, by rw [h2]; exact below_drewN (Below.refl _ _) k⟩

/-- Two constraints are the same. -/
def sameB (cs ls : List Int) (k : Int) (cs2 ls2 : List Int) (k2 : Int) : Bool := decide (cs = cs2) && decide (ls = ls2) && (k == k2)
theorem sameB_iff {cs ls : List Int} {k : Int} {cs2 ls2 : List Int} {k2 : Int} : sameB cs ls k cs2 ls2 k2 = true ↔ cs = cs2 ∧ ls = ls2 ∧ k = k2 := by
  unfold sameB
  rw [Bool.and_eq_true, Bool.and_eq_true, decide_eq_true_eq, decide_eq_true_eq, beq_iff_eq, and_assoc]

set_option maxHeartbeats 4000000 in
theorem Same_any (B : Nat) (A L A2 L2 : Option Addr) (n m n2 m2 c d c2 d2 : Nat) (k k2 : Int) (cs ls cs2 ls2 : List Int) (w : World) (r1 : RdI B w A cs) (r2 : RdI B w L ls) (r3 : RdI B w A2 cs2) (r4 : RdI B w L2 ls2) (hB : B ≤ w.heap.size)
    (h1 : cs.length = n) (h2 : ls.length = m) (h3 : cs2.length = n2) (h4 : ls2.length = m2) (hn : n ≤ maxLen) (hm : m ≤ maxLen) :
    Calls Try.prog 19 #[.agg #[.slice A n c, .slice L m d, .int .i64 k], .agg #[.slice A2 n2 c2, .slice L2 m2 d2, .int .i64 k2]] w fun e w' => e = .returned (.bool (sameB cs ls k cs2 ls2 k2)) ∧ Below w.heap.size w w' := by
  obtain ⟨W1, hW1⟩ : ∃ W, W = (w.alloc (.cells #[.slice A n c, .slice L m d, .int .i64 k] 24)).alloc (.cells #[.slice A2 n2 c2, .slice L2 m2 d2, .int .i64 k2] 24) := ⟨_, rfl⟩
  have hb1 : Below w.heap.size w W1 := by rw [hW1]; exact ((Below.refl _ _).alloc (Nat.le_refl _) _).alloc (by simp) _
  have hg1 : LinAt W1 w.heap.size (.slice A n c) (.slice L m d) k 24 := by rw [hW1]; exact (heap_alloc_old _ _ (by simp)).trans (heap_alloc_new _ _)
  have hg2 : LinAt W1 (w.heap.size + 1) (.slice A2 n2 c2) (.slice L2 m2 d2) k2 24 := by
    have := heap_alloc_new (w.alloc (.cells #[.slice A n c, .slice L m d, .int .i64 k] 24)) (.cells #[.slice A2 n2 c2, .slice L2 m2 d2, .int .i64 k2] 24)
    rw [World.size_alloc] at this
    rw [hW1]; exact this
  have hs1 : W1.heap.size = w.heap.size + 2 := by rw [hW1]; simp
  have HE1 := Lib.hid (fun W (h : Below w.heap.size w W) => Equal_low B B A A2 n n2 c c2 cs cs2 W (r1.below h hB) (r3.below h hB) h1 h3 hn)
  have HE2 := Lib.hid (fun W (h : Below w.heap.size w W) => Equal_low B B L L2 m m2 d d2 ls ls2 W (r2.below h hB) (r4.below h hB) h2 h4 hm)
  obtain ⟨q, hq⟩ : ∃ q, sameB cs ls k cs2 ls2 k2 = q := ⟨_, rfl⟩
  rw [hq]
  unfold sameB at hq
  obtain ⟨p1, e1⟩ : ∃ p1, decide (cs = cs2) = p1 := ⟨_, rfl⟩
  obtain ⟨p2, e2⟩ : ∃ p2, decide (ls = ls2) = p2 := ⟨_, rfl⟩
  obtain ⟨p3, e3⟩ : ∃ p3, (k == k2) = p3 := ⟨_, rfl⟩
  rw [e1, e2, e3] at hq
  rw [e1] at HE1
  rw [e2] at HE2
  have HW := Lib.hid hW1
  have HQ := Lib.hid hq
  have HG := Lib.hid (And.intro hg1 hg2)
  obtain ⟨x1, x2, x3⟩ := hg1.cells
  obtain ⟨y1, y2, y3⟩ := hg2.cells
  clear r1 r2 r3 r4 h1 h2 h3 h4 hn hm hq hW1 e1 e2 hg1 hg2
  cases p1 with
  | false =>
    obtain rfl : q = false := by rw [← HQ.out]; rfl
    go_enter Try.func19, Try.ntmps19
    go_wp2_with fail
    rw [← HW.out]
    clear HW
    go_wp2_with fail
    refine (HE1.out W1 hb1).mono ?_
    rintro e w2 ⟨rfl, hb2⟩
    have low := hb1.trans (hb2.mono (by omega))
    clear HE1 HE2 HQ HG x1 x2 x3 y1 y2 y3 hb2
    go_wp2_with fail
    go_ret
    exact ⟨rfl, low⟩
  | true =>
    cases p2 with
    | false =>
      obtain rfl : q = false := by rw [← HQ.out]; rfl
      go_enter Try.func19, Try.ntmps19
      go_wp2_with fail
      rw [← HW.out]
      clear HW
      go_wp2_with fail
      refine (HE1.out W1 hb1).mono ?_
      rintro e w2 ⟨rfl, hb2⟩
      have low := hb1.trans (hb2.mono (by omega))
      have hs2 := hb2.size
      obtain ⟨x1, x2, x3⟩ := (HG.out.1.below hb2).cells
      obtain ⟨y1, y2, y3⟩ := (HG.out.2.below hb2).cells
      clear HE1 HQ HG hb2
      go_wp2_with fail
      refine (HE2.out w2 low).mono ?_
      rintro e w3 ⟨rfl, hb3⟩
      have low3 := low.trans (hb3.mono (by omega))
      clear HE2 hb3
      go_wp2_with fail
      go_ret
      exact ⟨rfl, low3⟩
    | true =>
      obtain rfl : q = p3 := by rw [← HQ.out]; rfl
      go_enter Try.func19, Try.ntmps19
      go_wp2_with fail
      rw [← HW.out]
      clear HW
      go_wp2_with fail
      refine (HE1.out W1 hb1).mono ?_
      rintro e w2 ⟨rfl, hb2⟩
      have low := hb1.trans (hb2.mono (by omega))
      have hs2 := hb2.size
      have HG2 := Lib.hid (And.intro (HG.out.1.below hb2) (HG.out.2.below hb2))
      obtain ⟨x1, x2, x3⟩ := HG2.out.1.cells
      obtain ⟨y1, y2, y3⟩ := HG2.out.2.cells
      clear HE1 HQ HG hb2
      go_wp2_with fail
      refine (HE2.out w2 low).mono ?_
      rintro e w3 ⟨rfl, hb3⟩
      have low3 := low.trans (hb3.mono (by omega))
      obtain ⟨u1, u2, u3⟩ := (HG2.out.1.below hb3).cells
      obtain ⟨v1, v2, v3⟩ := (HG2.out.2.below hb3).cells
      clear HE2 hb3 HG2
      go_wp2_with fail
      go_ret
      exact ⟨rfl, low3⟩
end Go.Proofs.Ytoacfjmefoiflaa
