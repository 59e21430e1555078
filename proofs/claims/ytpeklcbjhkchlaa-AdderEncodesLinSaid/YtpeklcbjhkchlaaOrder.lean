/- For all slices of integers and all numbers the law AdderOrder answers true at the landed code and changes nothing that came in: the order of the terms changes neither the value of the bits nor how many variables are made, as far as it is tried. Conditions: those of the statement alone. -/
import Derived.Test.YtpeklcbjhkchlaaFacts
namespace Go.Proofs.Ytpeklcbjhkchlaa
open Go.ChangeShapes Go.WideShapes Go.ChangeAt Go.RowKit
set_option maxRecDepth 100000

/-- Two rows in blocks of their own. -/
def Dis (v u : Value) : Prop := ∀ k, ¬ (v.ownBlock = some k ∧ u.ownBlock = some k)
theorem Dis.symm {v u : Value} (h : Dis v u) : Dis u v := fun k ⟨a, b⟩ => h k ⟨b, a⟩
theorem Dis.nil (u : Value) : Dis (.slice Option.none 0 0) u := fun k ⟨a, _⟩ => by simp [Value.ownBlock] at a
/-- An append to one of two rows. -/
theorem push_q2 {ops : Array Oper} {rest : List Oper} {o : Oper} {a : Act} {Q : Exit → Act → World → Prop} {w : World} (hgd : o.guard = none) (s x : Operand)
    (ho : o.op = .call { callee := .builtin .append, args := #[s, x], argTypes := #[22, 22] }) (base : Nat) (v u : Value) (zs ys : List Int) (hs : a.eval s = v) (hv : QI w base v zs) (hu : QI w base u ys) (hd : Dis v u) (z : Int) (hz : Wf z)
    (hx : a.eval x = .slice (some ⟨w.heap.size, 0, none⟩) 1 1) (hlen : zs.length ≤ 1000000) (hbase : base ≤ w.heap.size)
    (h : ∀ v' w', QI w' base v' (zs ++ [z]) → QI w' base u ys → Dis v' u → Below base w w' → w.heap.size ≤ w'.heap.size → wpList Try.prog ops Q rest (a.put o.dst v') w') : wpList Try.prog ops Q (o :: rest) a (w.alloc (.cells #[.int .i64 z] 3)) := by
  have hv1 : QI (w.alloc (.cells #[.int .i64 z] 3)) base v zs := hv.same fun k hk => heap_alloc_old w _ (hv.lt hk).2
  refine push_q hgd s x ho base v zs hs hv1 z hz w.heap.size hx ?_ hlen (by simp; omega) ?_
  · have := cell_of_row (w.alloc (.cells #[.int .i64 z] 3)) w.heap.size 0 _ 3 (0, 0) (heap_alloc_new w _)
    rw [this]; rfl
  · intro v' w' hq hg hb
    have low := ((Below.refl base w).alloc hbase (.cells #[.int .i64 z] 3)).grown hg (by simp; omega) (fun k hk => (hv.lt hk).1)
    refine h v' w' hq (hu.same fun k hk => ?_) ?_ low low.size
    · have hk2 := (hu.lt hk).2
      refine (hg.block k (by simp; omega) ?_).trans (heap_alloc_old w _ hk2)
      intro e
      exact hd k ⟨e.symm, hk⟩
    · intro k ⟨k1, k2⟩
      rcases hb with e | e
      · exact hd k ⟨by rw [← e]; exact k1, k2⟩
      · have h3 := e k k1
        have h4 := (hu.lt k2).2
        rw [World.size_alloc] at h3
        omega

theorem sm_ext (a d : List Bool) : ∀ (xs : List Nat) (ls : List Int), (∀ y ∈ ls, Lit a.length y) → ∀ b, b = a ++ d → sm b xs ls = sm a xs ls
  | [], ls, _, b, _ => by cases ls <;> rfl
  | x :: xs, [], _, b, _ => rfl
  | x :: xs, l :: ls, h, b, hb => by
    have ih := sm_ext a d xs ls (fun y hy => h y (List.mem_cons_of_mem _ hy)) b hb
    simp only [sm, ih]
    rw [hb, tv_ext d (h l (by simp))]
theorem ord_out (A1 A2 : Option Addr) (n1 n2 c1 c2 : Nat) (next pick : Int) (w : World) (h : ¬ (n1 ≤ 8 ∧ n2 ≤ 8 ∧ next ≤ 40) ∨ n1 ≠ n2) :
    Calls Try.prog 8 #[.slice A1 n1 c1, .slice A2 n2 c2, .int .i64 next, .int .i64 pick] w fun e w' => e = .returned (.bool true) ∧ Below w.heap.size w w' := by
  have hs := fun W => small_any n1 n2 c1 c2 A1 A2 next W
  by_cases h1 : n1 ≤ 8 ∧ n2 ≤ 8 ∧ next ≤ 40
  · rw [decide_eq_true h1] at hs
    have hs := Lib.hid hs
    have h2 : n1 ≠ n2 := by omega
    have f1 : ((n1 : Int) != (n2 : Int)) = true := by simp; omega
    have f2 : (n1 != n2) = true := by simp; omega
    clear h h1 h2
    go_enter Try.func8, Try.ntmps8
    go_wp2_with fail
    refine (live_any w).mono ?_
    rintro e w1 ⟨rfl, hb1⟩
    go_wp2_with fail
    refine (hs.out w1).mono ?_
    rintro e w2 ⟨rfl, rfl⟩
    go_wp2_with fail
    go_ret
    exact ⟨rfl, hb1⟩
  · rw [decide_eq_false h1] at hs
    have hs := Lib.hid hs
    clear h h1
    go_enter Try.func8, Try.ntmps8
    go_wp2_with fail
    refine (live_any w).mono ?_
    rintro e w1 ⟨rfl, hb1⟩
    go_wp2_with fail
    refine (hs.out w1).mono ?_
    rintro e w2 ⟨rfl, rfl⟩
    go_wp2_with fail
    go_ret
    exact ⟨rfl, hb1⟩
set_option maxHeartbeats 4000000 in
theorem ord_err (A1 A2 : Option Addr) (n c1 c2 : Nat) (next pick E : Int) (xs ls : List Int) (w : World) (r1 : RdI w.heap.size w A1 xs) (r2 : RdI w.heap.size w A2 ls) (hl1 : xs.length = n) (hl2 : ls.length = n) (h : n ≤ 8 ∧ n ≤ 8 ∧ next ≤ 40) (hE : E ≠ 0)
    (hS1 : ∀ W : World, RdI W.heap.size W A1 xs → RdI W.heap.size W A2 ls → Calls Try.prog 13 #[.slice A1 n c1, .slice A2 n c2, .int .i64 next] W (SumRes W [] [] 0 E))
    (hS2 : ∀ (W : World) B1 B2 d1 d2, RdI W.heap.size W B1 xs.reverse → RdI W.heap.size W B2 ls.reverse → Calls Try.prog 13 #[.slice B1 n d1, .slice B2 n d2, .int .i64 next] W (SumRes W [] [] 0 E)) :
    Calls Try.prog 8 #[.slice A1 n c1, .slice A2 n c2, .int .i64 next, .int .i64 pick] w fun e w' => e = .returned (.bool true) ∧ Below w.heap.size w w' := by
  have d0 : (E != 0) = true := by simpa using hE
  have hs := fun W => small_any n n c1 c2 A1 A2 next W
  rw [decide_eq_true h] at hs
  have hs := Lib.hid hs
  have h8 : n ≤ 8 := h.1
  have L := Lib.hid (And.intro hl1 hl2)
  clear h hl1 hl2
  go_enter Try.func8, Try.ntmps8
  go_wp2_with fail
  refine (live_any w).mono ?_
  rintro e w1 ⟨rfl, hb1⟩
  have hr1 := RdI.more (r1.below hb1 (Nat.le_refl _)) hb1.size
  have hr2 := RdI.more (r2.below hb1 (Nat.le_refl _)) hb1.size
  go_wp2_with fail
  refine (hs.out w1).mono ?_
  rintro e w2 ⟨rfl, rfl⟩
  clear hs r1 r2
  have hR1 := Lib.hid hr1
  have hR2 := Lib.hid hr2
  clear hr1 hr2
  go_wp2_with fail
  go_loopw [9, 10, 11] (fun v9 v10 v11 wr => ∃ i j : Nat, i + j = n ∧ v11 = .int .i64 ((i : Int) - 1) ∧ QI wr w1.heap.size v9 (xs.reverse.take j) ∧ QI wr w1.heap.size v10 (ls.reverse.take j) ∧ Dis v9 v10 ∧ Below w1.heap.size w1 wr) (fun _ _ v _ => (intOf v + 1).toNat)
  case atStart => exact ⟨n, 0, by omega, rfl, QI.nil _ _, QI.nil _ _, Dis.nil _, Below.refl _ _⟩
  case round =>
    obtain ⟨i, j, hij, rfl, q9, q10, dis, low⟩ := hrel
    cases i with
    | succ i =>
      have e1 : ((i + 1 : Nat) : Int) - 1 = (i : Int) := by omega
      rw [e1]
      have hjl1 : j < xs.reverse.length := by rw [List.length_reverse, L.out.1]; omega
      have hjl2 : j < ls.reverse.length := by rw [List.length_reverse, L.out.2]; omega
      obtain ⟨b1, o1, hA1, _, k1⟩ := (hR1.out.below low (Nat.le_refl _)).2 (by rw [L.out.1]; omega)
      obtain ⟨b2, o2, hA2, hb2, k2⟩ := (hR2.out.below low (Nat.le_refl _)).2 (by rw [L.out.2]; omega)
      have hc1 := k1 i (by rw [L.out.1]; omega)
      have hc2 := k2 i (by rw [L.out.2]; omega)
      have wf1 := hR1.out.wf (j := i) (by rw [L.out.1]; omega)
      have wf2 := hR2.out.wf (j := i) (by rw [L.out.2]; omega)
      have t1 : xs.reverse.take (j + 1) = xs.reverse.take j ++ [xs[i]?.getD 0] := by
        rw [List.take_add_one, List.getElem?_reverse (by rw [L.out.1]; omega), L.out.1, show n - 1 - j = i by omega]
        rw [List.getElem?_eq_getElem (by rw [L.out.1]; omega)]; rfl
      have t2 : ls.reverse.take (j + 1) = ls.reverse.take j ++ [ls[i]?.getD 0] := by
        rw [List.take_add_one, List.getElem?_reverse (by rw [L.out.2]; omega), L.out.2, show n - 1 - j = i by omega]
        rw [List.getElem?_eq_getElem (by rw [L.out.2]; omega)]; rfl
      have l1 : (xs.reverse.take j).length ≤ 1000000 := by rw [List.length_take]; omega
      have l2 : (ls.reverse.take j).length ≤ 1000000 := by rw [List.length_take]; omega
      have T1 := Lib.hid t1
      have T2 := Lib.hid t2
      have HL := Lib.hid (And.intro l1 l2)
      obtain ⟨A9, c9, hv9, _, _⟩ := q9.shape
      obtain ⟨A10, c10, hv10, _, _⟩ := q10.shape
      obtain ⟨L9, hL9⟩ : ∃ L9, (xs.reverse.take j).length = L9 := ⟨_, rfl⟩
      obtain ⟨L10, hL10⟩ : ∃ L10, (ls.reverse.take j).length = L10 := ⟨_, rfl⟩
      rw [hL9] at hv9
      rw [hL10] at hv10
      subst hv9
      subst hv10
      have Dd := Lib.hid dis
      have Q9 := Lib.hid q9
      have Q10 := Lib.hid q10
      clear hL9 hL10
      clear k1 k2 t1 t2 l1 l2 hjl1 hjl2 e1 dis q9 q10
      cases hA1
      cases hA2
      generalize xs[i]?.getD 0 = x at *
      generalize ls[i]?.getD 0 = y at *
      have hsz := low.size
      go_wp2_with (at_builtin; refine push_q2 rfl _ _ rfl w1.heap.size (.slice A9 L9 c9) (.slice A10 L10 c10) (xs.reverse.take j) _ rfl Q9.out Q10.out Dd.out x wf1 rfl HL.out.1 hsz ?_)
      intro v9 w3 q9 q10 dis low3 hs3
      obtain ⟨A9', c9', hv9, _, _⟩ := q9.shape
      obtain ⟨L9', hL9⟩ : ∃ L9', (xs.reverse.take j ++ [x]).length = L9' := ⟨_, rfl⟩
      rw [hL9] at hv9
      subst hv9
      clear hL9
      have q9 := Lib.hid q9
      have q10 := Lib.hid q10
      have Dd2 := Lib.hid dis
      have hc3 := (low3.cell (p := ⟨b2, o2 + i, none⟩) hb2).trans hc2
      clear Q9 Q10 Dd dis hc1 hc2 wf1
      go_wp2_with (at_builtin; refine push_q2 rfl _ _ rfl w1.heap.size (.slice A10 L10 c10) (.slice A9' L9' c9') (ls.reverse.take j) _ rfl q10.out q9.out Dd2.out.symm y wf2 rfl HL.out.2 (by omega) ?_)
      intro v10 w4 q10' q9' dis low4 hs4
      have low5 := (low.trans low3).trans low4
      rw [← T2.out] at q10'
      rw [← T1.out] at q9'
      have q10' := Lib.hid q10'
      have q9' := Lib.hid q9'
      have Dd := Lib.hid dis.symm
      clear q9 q10 Dd2 dis T1 T2 low3 low4 hc3 wf2 HL
      go_wp2_with fail
      go_roundw
      case rel => exact ⟨i, j + 1, by omega, rfl, q9'.out, q10'.out, Dd.out, low5⟩
      case measure => simp [intOf]
    | zero =>
      obtain rfl : j = n := by omega
      rw [List.take_of_length_le (Nat.le_of_eq (by rw [List.length_reverse, L.out.1]))] at q9
      rw [List.take_of_length_le (Nat.le_of_eq (by rw [List.length_reverse, L.out.2]))] at q10
      obtain ⟨A9, c9, hv9, _, rd9⟩ := q9.shape
      obtain ⟨A10, c10, hv10, _, rd10⟩ := q10.shape
      rw [List.length_reverse, L.out.1] at hv9
      rw [List.length_reverse, L.out.2] at hv10
      subst hv9
      subst hv10
      have hr1 := RdI.more (hR1.out.below low (Nat.le_refl _)) low.size
      have hr2 := RdI.more (hR2.out.below low (Nat.le_refl _)) low.size
      have hb2 := hb1.trans (low.mono hb1.size)
      have e0 : ((0 : Nat) : Int) - 1 = -1 := rfl
      rw [e0]
      clear q9 q10 dis hR1 hR2 hij
      go_wp2_with fail
      refine (hS1 wr hr1 hr2).mono ?_
      rintro e w3 ⟨A3, c3, B3, d3, rfl, _, r3, r4, hb3, hl4⟩
      have hb13 := hb2.trans (hb3.mono hb2.size)
      have rd9' := RdI.more (rd9.below hb3 (Nat.le_refl _)) hb3.size
      have rd10' := RdI.more (rd10.below hb3 (Nat.le_refl _)) hb3.size
      clear hr1 hr2 hS1 rd9 rd10 r3 r4 hl4 hb3 hb2 low
      go_wp2_with fail
      refine (hS2 w3 A9 A10 c9 c10 rd9' rd10').mono ?_
      rintro e w4 ⟨A4, c4, B4, d4, rfl, _, r5, r6, hb4, hl6⟩
      have hb14 := hb13.trans (hb4.mono hb13.size)
      clear hS2 rd9' rd10' r5 r6 hl6 hb4 hb13
      go_wp2_with fail
      go_ret
      exact ⟨by simp, hb14⟩

set_option maxHeartbeats 8000000 in
theorem ord_main (A1 A2 : Option Addr) (n c1 c2 N P M K nb1 K2 nb2 : Nat) (pick : Int) (xs ls bits bits2 : List Int) (cl cl2 : List (List Int)) (w : World) (r1 : RdI w.heap.size w A1 xs) (r2 : RdI w.heap.size w A2 ls) (hl1 : xs.length = n) (hl2 : ls.length = n) (h : n ≤ 8 ∧ n ≤ 8 ∧ (N : Int) ≤ 40) (hP : (N : Int) - 1 = (P : Int)) (hPN : N = P + 1) (hp : Wf pick)
    (ys ys2 : List Nat) (F : FewT N M ys ls bits cl) (F2 : FewT N M ys2 ls.reverse bits2 cl2) (hsame : ∀ b, sm b ys2 ls.reverse = sm b ys ls) (_hys : ys.length = ls.length) (hlit : ∀ y ∈ ls, Lit N y) (hK : cl.length = K) (hnb : bits.length = nb1) (hK2 : cl2.length = K2) (hnb2 : bits2.length = nb2)
    (hS1 : ∀ W : World, RdI W.heap.size W A1 xs → RdI W.heap.size W A2 ls → Calls Try.prog 13 #[.slice A1 n c1, .slice A2 n c2, .int .i64 (N : Int)] W (SumRes W bits cl M 0))
    (hS2 : ∀ (W : World) B1 B2 d1 d2, RdI W.heap.size W B1 xs.reverse → RdI W.heap.size W B2 ls.reverse → Calls Try.prog 13 #[.slice B1 n d1, .slice B2 n d2, .int .i64 (N : Int)] W (SumRes W bits2 cl2 M 0)) :
    Calls Try.prog 8 #[.slice A1 n c1, .slice A2 n c2, .int .i64 (N : Int), .int .i64 pick] w fun e w' => e = .returned (.bool true) ∧ Below w.heap.size w w' := by
  have hs := fun W => small_any n n c1 c2 A1 A2 N W
  rw [decide_eq_true h] at hs
  have hs := Lib.hid hs
  have h8 : n ≤ 8 := h.1
  obtain ⟨b, f1, f2, f3, f4, d, f5⟩ := F.told (tru pick P) (by rw [tru_len, hPN])
  obtain ⟨b', f1', f2', f3', f4', d', f5'⟩ := F2.told (tru pick P) (by rw [tru_len, hPN])
  have hnn : nb b' bits2 = nb b bits := by
    rw [f4, f4', hsame]
    exact (sm_ext (tru pick P) d' ys ls (by rw [tru_len, ← hPN]; exact hlit) b' f5').trans (sm_ext (tru pick P) d ys ls (by rw [tru_len, ← hPN]; exact hlit) b f5).symm
  have FF := Lib.hid F
  have FF2 := Lib.hid F2
  have HB := Lib.hid (And.intro f1 (And.intro f2 f1'))
  have HB2 := Lib.hid (And.intro f2' hnn)
  have L := Lib.hid (And.intro hl1 hl2)
  have HK := Lib.hid (And.intro hK hnb)
  have HK2 := Lib.hid (And.intro hK2 hnb2)
  have HN := Lib.hid (And.intro hPN h)
  have g1 : N ≤ M := F.le
  have g2 : M ≤ N + 2000 := F.up
  have g3 : M ≤ 65537 := F.top
  have g4 : N ≤ 40 := by omega
  have g5 : 1 ≤ N := by omega
  clear f1 f2 f3 f4 f5 f1' f2' f3' f4' f5' hl1 hl2 hK hnb hK2 hnb2 hPN h F F2 hnn hsame hlit
  go_enter Try.func8, Try.ntmps8
  go_wp2_with fail
  refine (live_any w).mono ?_
  rintro e w1 ⟨rfl, hb1⟩
  have hr1 := RdI.more (r1.below hb1 (Nat.le_refl _)) hb1.size
  have hr2 := RdI.more (r2.below hb1 (Nat.le_refl _)) hb1.size
  go_wp2_with fail
  refine (hs.out w1).mono ?_
  rintro e w2 ⟨rfl, rfl⟩
  clear hs r1 r2
  have hR1 := Lib.hid hr1
  have hR2 := Lib.hid hr2
  clear hr1 hr2
  go_wp2_with fail
  go_loopw [9, 10, 11] (fun v9 v10 v11 wr => ∃ i j : Nat, i + j = n ∧ v11 = .int .i64 ((i : Int) - 1) ∧ QI wr w1.heap.size v9 (xs.reverse.take j) ∧ QI wr w1.heap.size v10 (ls.reverse.take j) ∧ Dis v9 v10 ∧ Below w1.heap.size w1 wr) (fun _ _ v _ => (intOf v + 1).toNat)
  case atStart => exact ⟨n, 0, by omega, rfl, QI.nil _ _, QI.nil _ _, Dis.nil _, Below.refl _ _⟩
  case round =>
    obtain ⟨i, j, hij, rfl, q9, q10, dis, low⟩ := hrel
    cases i with
    | succ i =>
      have e1 : ((i + 1 : Nat) : Int) - 1 = (i : Int) := by omega
      rw [e1]
      have hjl1 : j < xs.reverse.length := by rw [List.length_reverse, L.out.1]; omega
      have hjl2 : j < ls.reverse.length := by rw [List.length_reverse, L.out.2]; omega
      obtain ⟨b1, o1, hA1, _, k1⟩ := (hR1.out.below low (Nat.le_refl _)).2 (by rw [L.out.1]; omega)
      obtain ⟨b2, o2, hA2, hb2, k2⟩ := (hR2.out.below low (Nat.le_refl _)).2 (by rw [L.out.2]; omega)
      have hc1 := k1 i (by rw [L.out.1]; omega)
      have hc2 := k2 i (by rw [L.out.2]; omega)
      have wf1 := hR1.out.wf (j := i) (by rw [L.out.1]; omega)
      have wf2 := hR2.out.wf (j := i) (by rw [L.out.2]; omega)
      have t1 : xs.reverse.take (j + 1) = xs.reverse.take j ++ [xs[i]?.getD 0] := by
        rw [List.take_add_one, List.getElem?_reverse (by rw [L.out.1]; omega), L.out.1, show n - 1 - j = i by omega]
        rw [List.getElem?_eq_getElem (by rw [L.out.1]; omega)]; rfl
      have t2 : ls.reverse.take (j + 1) = ls.reverse.take j ++ [ls[i]?.getD 0] := by
        rw [List.take_add_one, List.getElem?_reverse (by rw [L.out.2]; omega), L.out.2, show n - 1 - j = i by omega]
        rw [List.getElem?_eq_getElem (by rw [L.out.2]; omega)]; rfl
      have l1 : (xs.reverse.take j).length ≤ 1000000 := by rw [List.length_take]; omega
      have l2 : (ls.reverse.take j).length ≤ 1000000 := by rw [List.length_take]; omega
      have T1 := Lib.hid t1
      have T2 := Lib.hid t2
      have HL := Lib.hid (And.intro l1 l2)
      obtain ⟨A9, c9, hv9, _, _⟩ := q9.shape
      obtain ⟨A10, c10, hv10, _, _⟩ := q10.shape
      obtain ⟨L9, hL9⟩ : ∃ L9, (xs.reverse.take j).length = L9 := ⟨_, rfl⟩
      obtain ⟨L10, hL10⟩ : ∃ L10, (ls.reverse.take j).length = L10 := ⟨_, rfl⟩
      rw [hL9] at hv9
      rw [hL10] at hv10
      subst hv9
      subst hv10
      have Dd := Lib.hid dis
      have Q9 := Lib.hid q9
      have Q10 := Lib.hid q10
      clear hL9 hL10
      clear k1 k2 t1 t2 l1 l2 hjl1 hjl2 e1 dis q9 q10
      cases hA1
      cases hA2
      generalize xs[i]?.getD 0 = x at *
      generalize ls[i]?.getD 0 = y at *
      have hsz := low.size
      go_wp2_with (at_builtin; refine push_q2 rfl _ _ rfl w1.heap.size (.slice A9 L9 c9) (.slice A10 L10 c10) (xs.reverse.take j) _ rfl Q9.out Q10.out Dd.out x wf1 rfl HL.out.1 hsz ?_)
      intro v9 w3 q9 q10 dis low3 hs3
      obtain ⟨A9', c9', hv9, _, _⟩ := q9.shape
      obtain ⟨L9', hL9⟩ : ∃ L9', (xs.reverse.take j ++ [x]).length = L9' := ⟨_, rfl⟩
      rw [hL9] at hv9
      subst hv9
      clear hL9
      have q9 := Lib.hid q9
      have q10 := Lib.hid q10
      have Dd2 := Lib.hid dis
      have hc3 := (low3.cell (p := ⟨b2, o2 + i, none⟩) hb2).trans hc2
      clear Q9 Q10 Dd dis hc1 hc2 wf1
      go_wp2_with (at_builtin; refine push_q2 rfl _ _ rfl w1.heap.size (.slice A10 L10 c10) (.slice A9' L9' c9') (ls.reverse.take j) _ rfl q10.out q9.out Dd2.out.symm y wf2 rfl HL.out.2 (by omega) ?_)
      intro v10 w4 q10' q9' dis low4 hs4
      have low5 := (low.trans low3).trans low4
      rw [← T2.out] at q10'
      rw [← T1.out] at q9'
      have q10' := Lib.hid q10'
      have q9' := Lib.hid q9'
      have Dd := Lib.hid dis.symm
      clear q9 q10 Dd2 dis T1 T2 low3 low4 hc3 wf2 HL
      go_wp2_with fail
      go_roundw
      case rel => exact ⟨i, j + 1, by omega, rfl, q9'.out, q10'.out, Dd.out, low5⟩
      case measure => simp [intOf]
    | zero =>
      obtain rfl : j = n := by omega
      rw [List.take_of_length_le (Nat.le_of_eq (by rw [List.length_reverse, L.out.1]))] at q9
      rw [List.take_of_length_le (Nat.le_of_eq (by rw [List.length_reverse, L.out.2]))] at q10
      obtain ⟨A9, c9, hv9, _, rd9⟩ := q9.shape
      obtain ⟨A10, c10, hv10, _, rd10⟩ := q10.shape
      rw [List.length_reverse, L.out.1] at hv9
      rw [List.length_reverse, L.out.2] at hv10
      subst hv9
      subst hv10
      have hr1 := RdI.more (hR1.out.below low (Nat.le_refl _)) low.size
      have hr2 := RdI.more (hR2.out.below low (Nat.le_refl _)) low.size
      have hb2 := hb1.trans (low.mono hb1.size)
      have e0 : ((0 : Nat) : Int) - 1 = -1 := rfl
      rw [e0]
      clear q9 q10 dis hR1 hR2 hij
      go_wp2_with fail
      refine (hS1 wr hr1 hr2).mono ?_
      rintro e w3 ⟨A3, c3, B3, d3, rfl, _, r3, r4, hb3, hl4⟩
      have hb13 := hb2.trans (hb3.mono hb2.size)
      have rd9' := RdI.more (rd9.below hb3 (Nat.le_refl _)) hb3.size
      have rd10' := RdI.more (rd10.below hb3 (Nat.le_refl _)) hb3.size
      rw [HK.out.1, HK.out.2]
      have r3 := Lib.hid r3
      have r4 := Lib.hid r4
      have hl4 := Lib.hid hl4
      clear hr1 hr2 hS1 rd9 rd10 hb3 hb2 low
      go_wp2_with fail
      refine (hS2 w3 A9 A10 c9 c10 rd9' rd10').mono ?_
      rintro e w4 ⟨A4, c4, B4, d4, rfl, _, r5, r6, hb4, hl6⟩
      rw [HK2.out.1, HK2.out.2]
      have hb14 := hb13.trans (hb4.mono hb13.size)
      have r3' := RdI.more (r3.out.below hb4 (Nat.le_refl _)) hb4.size
      have r4' := RdR.more (r4.out.below hb4 (Nat.le_refl _)) hb4.size
      have hl6 := Lib.hid hl6
      clear hS2 rd9' rd10' hb4 hb13 r3 r4
      go_wp2_with fail
      refine (truths_any P pick w4 (by omega) hp).mono ?_
      rintro e w5 ⟨A5, c5, rfl, rb, hb5⟩
      have hb15 := hb14.trans (hb5.mono hb14.size)
      have r3 := RdI.more (r3'.below hb5 (Nat.le_refl _)) hb5.size
      have r4 := RdR.more (r4'.below hb5 (Nat.le_refl _)) hb5.size
      have r5' := RdI.more (r5.below hb5 (Nat.le_refl _)) hb5.size
      have r6' := RdR.more (r6.below hb5 (Nat.le_refl _)) hb5.size
      have hT := told_any w5.heap.size w5.heap.size K d3 (P + 1) c5 (M - N) M B3 A5 cl (tru pick P) b w5 r4 (Nat.le_refl _) HK.out.1 (by have := FF.out.ncl; rw [HK.out.1] at this; omega) rb (Nat.le_refl _) (tru_len _ _) (by omega) (by have := HN.out.1; omega) (by omega) hl4.out FF.out.old HB.out.2.1
      rw [show P + 1 + (M - N) = M by have := HN.out.1; omega, show ((P + 1 : Nat) : Int) = (N : Int) by have := HN.out.1; omega] at hT
      have HT := Lib.hid hT
      clear r3' r4' r5 r6 hb14 hb5 hT rb
      go_wp2_with fail
      refine HT.out.mono ?_
      rintro e w6 ⟨A6, c6, rfl, rb, hb6⟩
      have hb16 := hb15.trans (hb6.mono hb15.size)
      have r3' := RdI.more (r3.below hb6 (Nat.le_refl _)) hb6.size
      have r5 := RdI.more (r5'.below hb6 (Nat.le_refl _)) hb6.size
      have r6 := RdR.more (r6'.below hb6 (Nat.le_refl _)) hb6.size
      clear r3 r4 r5' r6' hb15 hb6 HT
      go_wp2_with fail
      refine (truths_any P pick w6 (by omega) hp).mono ?_
      rintro e w7 ⟨A7, c7, rfl, rb7, hb7⟩
      have hb17 := hb16.trans (hb7.mono hb16.size)
      have r3 := RdI.more (r3'.below hb7 (Nat.le_refl _)) hb7.size
      have r5' := RdI.more (r5.below hb7 (Nat.le_refl _)) hb7.size
      have r6' := RdR.more (r6.below hb7 (Nat.le_refl _)) hb7.size
      have rb' := rb.below hb7 (Nat.le_refl _) |>.more hb7.size
      have hT := told_any w7.heap.size w7.heap.size K2 d4 (P + 1) c7 (M - N) M B4 A7 cl2 (tru pick P) b' w7 r6' (Nat.le_refl _) HK2.out.1 (by have := FF2.out.ncl; rw [HK2.out.1] at this; omega) rb7 (Nat.le_refl _) (tru_len _ _) (by omega) (by have := HN.out.1; omega) (by omega) hl6.out FF2.out.old HB2.out.1
      rw [show P + 1 + (M - N) = M by have := HN.out.1; omega, show ((P + 1 : Nat) : Int) = (N : Int) by have := HN.out.1; omega] at hT
      have HT := Lib.hid hT
      clear r3' r5 r6 hb16 hb7 hT rb rb7
      go_wp2_with fail
      refine HT.out.mono ?_
      rintro e w8 ⟨A8, c8, rfl, rb8, hb8⟩
      have hb18 := hb17.trans (hb8.mono hb17.size)
      have r3' := RdI.more (r3.below hb8 (Nat.le_refl _)) hb8.size
      have r5 := RdI.more (r5'.below hb8 (Nat.le_refl _)) hb8.size
      have rb := rb'.below hb8 (Nat.le_refl _) |>.more hb8.size
      have hNm := number_any w8.heap.size w8.heap.size nb1 c3 M c6 M A3 A6 bits b w8 r3' (Nat.le_refl _) HK.out.2 (by rw [← HK.out.2]; exact FF.out.nbits) rb (Nat.le_refl _) HB.out.1 (by omega) (Nat.le_refl _) g3 FF.out.lits
      have HNm := Lib.hid hNm
      clear r3 r5' r6' hb17 hb8 HT rb' hNm
      go_wp2_with fail
      refine HNm.out.mono ?_
      rintro e w9 ⟨rfl, hb9⟩
      have hb19 := hb18.trans (hb9.mono hb18.size)
      have hNm := number_any w8.heap.size w8.heap.size nb2 c4 M c8 M A4 A8 bits2 b' w9 (r5.below hb9 (Nat.le_refl _)) hb9.size HK2.out.2 (by rw [← HK2.out.2]; exact FF2.out.nbits) (rb8.below hb9 (Nat.le_refl _)) hb9.size HB.out.2.2 (by omega) (Nat.le_refl _) g3 FF2.out.lits
      rw [HB2.out.2] at hNm
      have HNm2 := Lib.hid hNm
      clear r3' r5 rb hb18 hb9 HNm rb8 hNm
      generalize nb b bits = T at *
      go_wp2_with fail
      refine HNm2.out.mono ?_
      rintro e w10 ⟨rfl, hb10⟩
      have hb20 := hb19.trans (hb10.mono hb19.size)
      clear hb19 hb10 HNm2
      go_wp2_with fail
      go_ret
      exact ⟨rfl, hb20⟩

theorem OkS.rev {xs ls : List Int} {next : Int} (h : OkS xs ls next) : OkS xs.reverse ls.reverse next := by
  obtain ⟨h1, h2, h3, h4⟩ := h
  refine ⟨h1, h2, by simpa using h3, fun j hj => ?_⟩
  rw [List.length_reverse] at hj
  have := h4 (ls.length - 1 - j) (by omega)
  rw [List.getElem?_reverse (by omega), List.getElem?_reverse hj, h3]
  exact this
theorem ord_any (A1 A2 : Option Addr) (n1 n2 c1 c2 : Nat) (next pick : Int) (xs ls : List Int) (w : World) (r1 : RdI w.heap.size w A1 xs) (r2 : RdI w.heap.size w A2 ls) (hl1 : xs.length = n1) (hl2 : ls.length = n2) (hp : Wf pick) :
    Calls Try.prog 8 #[.slice A1 n1 c1, .slice A2 n2 c2, .int .i64 next, .int .i64 pick] w fun e w' => e = .returned (.bool true) ∧ Below w.heap.size w w' := by
  by_cases h : ¬ (n1 ≤ 8 ∧ n2 ≤ 8 ∧ next ≤ 40) ∨ n1 ≠ n2
  · exact ord_out A1 A2 n1 n2 c1 c2 next pick w h
  · obtain rfl : n1 = n2 := by omega
    have h : n1 ≤ 8 ∧ n1 ≤ 8 ∧ next ≤ 40 := by omega
    have hr1 : xs.reverse.length = n1 := by rw [List.length_reverse, hl1]
    have hr2 : ls.reverse.length = n1 := by rw [List.length_reverse, hl2]
    by_cases ho : OkS xs ls next
    · obtain ⟨h1, h2, h3, h4⟩ := id ho
      obtain ⟨N, rfl⟩ := Int.eq_ofNat_of_zero_le (show 0 ≤ next by omega)
      obtain ⟨hx, hlit⟩ := ho.few
      obtain ⟨hx', hlit'⟩ := ho.rev.few
      rw [Int.toNat_natCast] at hlit hlit'
      have hsame := addUp_same (rowsOf (xs.map Int.toNat) ls) (rowsOf (xs.reverse.map Int.toNat) ls.reverse) [] [] N (by rw [List.map_reverse, rowsOf_rev _ _ (by rw [List.length_map]; omega)]) rfl
      rcases ht : addUp (rowsOf (xs.map Int.toNat) ls) [] N with _ | t
      · rcases ht' : addUp (rowsOf (xs.reverse.map Int.toNat) ls.reverse) [] N with _ | t'
        · exact ord_err A1 A2 n1 c1 c2 N pick 2 xs ls w r1 r2 hl1 hl2 h (by omega) (Sum_none ho ht hl1 hl2 (by omega)) (fun W B1 B2 d1 d2 q1 q2 => Sum_none ho.rev ht' hr1 hr2 (by omega) W q1 q2)
        · rw [ht, ht'] at hsame; cases hsame
      · rcases ht' : addUp (rowsOf (xs.reverse.map Int.toNat) ls.reverse) [] N with _ | t'
        · rw [ht, ht'] at hsame; cases hsame
        · rw [ht, ht'] at hsame
          injection hsame with hsame
          have F := few_terms ht (by omega) (by omega) (by rw [List.length_map]; omega) (by omega) hx hlit
          have F' := few_terms ht' (by omega) (by omega) (by rw [List.length_map]; omega) (by omega) hx' hlit'
          rw [show t'.2.2 = t.2.2 from hsame.symm] at F'
          exact ord_main A1 A2 n1 c1 c2 N (N - 1) t.2.2 _ _ _ _ pick xs ls t.1 t'.1 t.2.1 t'.2.1 w r1 r2 hl1 hl2 h (by omega) (by omega) hp (xs.map Int.toNat) (xs.reverse.map Int.toNat) F F' (fun b => by rw [List.map_reverse, sm_rev _ _ _ (by rw [List.length_map]; omega)]) (by rw [List.length_map]; omega) hlit rfl rfl rfl rfl
            (Sum_some ho ht hl1 hl2 (by omega)) (fun W B1 B2 d1 d2 q1 q2 => by have h0 := Sum_some (c1 := d1) (c2 := d2) (A1 := B1) (A2 := B2) ho.rev ht' hr1 hr2 (by omega) W q1 q2; rw [show t'.2.2 = t.2.2 from hsame.symm] at h0; exact h0)
    · have ho' : ¬ OkS xs.reverse ls.reverse next := fun g => ho (by have := g.rev; rwa [List.reverse_reverse, List.reverse_reverse] at this)
      exact ord_err A1 A2 n1 c1 c2 next pick 1 xs ls w r1 r2 hl1 hl2 h (by omega) (fun W q1 q2 => Sum_arg _ n1 n1 c1 c2 next A1 A2 xs ls W q1 q2 hl1 hl2 (by omega) ho)
        (fun W B1 B2 d1 d2 q1 q2 => Sum_arg _ n1 n1 d1 d2 next B1 B2 _ _ W q1 q2 hr1 hr2 (by omega) ho')

set_option maxRecDepth 100000 in
theorem adderOrder_lifted (os : Os) (started : os.Started) (H : Type) (enc : TypeId × Value → H) :
    ReturnsInHanded {} Try.checked os 8 .any (Rows.adderOrderSpec.pre6 enc Try.prog Try.f8 Rows.adderOrderRow.domain false) (Rows.adderOrderSpec.post enc Try.prog Try.f8 false true false false) := by
  refine returnsInHanded_of_change (C := Try.checked) Try_own started (by kernel_rfl) Try.func8
    (ChangeSpec.witness6 (enc := enc) (C := Try.checked) false ⟨#[], #[.slice Option.none 0 0, .slice Option.none 0 0, .int .i64 0, .int .i64 0], []⟩ 8 (by kernel_rfl) (by kernel_rfl) (by kernel_rfl) (by kernel_rfl)) ?_
  intro W base args ds gs before hval0 hW _ _
  have hval : ∀ (j : Nat) t v, Try.f8.params[j]? = some t → args[j]? = some v → Value.okWide Try.prog W .any base t v := hval0
  have hW' := hW
  obtain ⟨p, q, hA0, hV, rfl, _, _⟩ := hW
  have hA : DataW.TrodAll enc Try.prog W 0 (fun _ => true) true Try.f8.params.toList args.toList ds p := hA0
  have hpar : Try.f8.params = #[22, 22, 3, 3] := rfl
  rw [hpar] at hA hval
  have hlt : ∀ x ∈ p, x.block < W.heap.size := fun x hx => hW'.lt x (List.mem_append_left _ hx)
  obtain ⟨rfl, rfl⟩ := trodVars_none hV
  clear hA0 hval0
  obtain ⟨v0, vs0, d0, ds0, p0, q0, hargs0, rfl, rfl, h0, r0⟩ := trodAll_cons hA
  obtain ⟨v1, vs1, d1, ds1, p1, q1, hargs1, rfl, rfl, h1, r1⟩ := trodAll_cons r0
  obtain ⟨v2, vs2, d2, ds2, p2, q2, hargs2, rfl, rfl, h2, r2⟩ := trodAll_cons r1
  obtain ⟨v3, vs3, d3, ds3, p3, q3, hargs3, rfl, rfl, h3, r3⟩ := trodAll_cons r2
  obtain ⟨hlast, rfl, rfl⟩ := trodAll_nil r3
  obtain rfl : args = #[v0, v1, v2, v3] := by
    apply Array.toList_inj.1
    rw [hargs0, hargs1, hargs2, hargs3, hlast]
  obtain ⟨A0, n0, cap0, zs0, rfl, hr0, hl0, hlc0, hm0, hn0⟩ := open_intlist (hval 0 22 v0 rfl rfl) h0 (fun x hx => hlt x (List.mem_append_left _ hx))
  obtain ⟨A1, n1, cap1, zs1, rfl, hr1, hl1, hlc1, hm1, hn1⟩ := open_intlist (hval 1 22 v1 rfl rfl) h1 (fun x hx => hlt x (List.mem_append_right _ (List.mem_append_left _ hx)))
  obtain ⟨n2, rfl, rfl, rfl, wf2⟩ := open_int underlying3' (hval 2 3 v2 rfl rfl) h2
  obtain ⟨n3, rfl, rfl, rfl, wf3⟩ := open_int underlying3' (hval 3 3 v3 rfl rfl) h3
  refine (ord_any A0 A1 n0 n1 cap0 cap1 n2 n3 zs0 zs1 W hr0 hr1 hl0 hl1 (bounds_i64 wf3)).mono fun e W' ⟨he, hb⟩ => ?_
  subst he
  exact ⟨_, rfl, law_post Try_laidOut hW' rfl (by rw [hpar]; decide +kernel) 4 rfl Try.underlying4 rfl hb⟩

theorem adderOrder_holds : Rows.AdderOrderSaid :=
  OpenClaim.holds_of_wide 8 Try.f8 rfl rfl rfl rfl rfl rfl rfl ⟨rfl, rfl, rfl, rfl, rfl⟩ rfl rfl rfl rfl rfl (by kernel_rfl) Try.func8 (by kernel_rfl)
    (of_decide_eq_true (by kernel_rfl)) (by unfold Func.isWrapper; first | (rw [if_pos (by decide +kernel)]; kernel_rfl) | (rw [if_neg (by decide +kernel)]; exact ⟨rfl, rfl⟩))
    (fun os started H enc _ => adderOrder_lifted os started H enc)
end Go.Proofs.Ytpeklcbjhkchlaa
