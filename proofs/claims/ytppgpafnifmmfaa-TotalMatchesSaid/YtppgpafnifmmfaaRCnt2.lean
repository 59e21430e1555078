/- The reference's count: two literals or more. -/
import Derived.Test.YtppgpafnifmmfaaRCnt1
import Derived.Deep.CutRange
namespace Go.Proofs.Ytppgpafnifmmfaa
open Go.ChangeShapes Go.WideShapes Go.ChangeAt Go.RowKit

/-- All below B but one block is as it was. -/
structure Ex (g B : Nat) (w w' : World) : Prop where
  os : w'.os = w.os
  tape : w'.tape = w.tape
  output : w'.output = w.output
  size : w.heap.size ≤ w'.heap.size
  block : ∀ k, k < B → k ≠ g → w'.heap[k]? = w.heap[k]?
theorem Ex.refl (g B : Nat) (w : World) : Ex g B w w := ⟨rfl, rfl, rfl, Nat.le_refl _, fun _ _ _ => rfl⟩
theorem Ex.push {g B : Nat} {w w' w'' : World} (h : Ex g B w w') (k : Below B w' w'') : Ex g B w w'' :=
  ⟨k.os.trans h.os, k.tape.trans h.tape, k.output.trans h.output, Nat.le_trans h.size k.size, fun i hi hg => (k.block i hi).trans (h.block i hi hg)⟩
theorem Ex.store {g B j : Nat} {w w' : World} (h : Ex g B w w') (u : Value) : Ex g B w (w'.setCell ⟨g, j, none⟩ u) :=
  ⟨h.os, h.tape, h.output, by simpa [World.setCell] using h.size, fun i hi hg => (heap_setCell_other w' ⟨g, j, none⟩ i u hg).trans (h.block i hi hg)⟩
theorem Ex.grown {g : Nat} {w w' : World} (h : Ex g w.heap.size w w') : w.grownBy w' (some g) := ⟨h.os, h.tape, h.output, h.size, fun k hk hg => h.block k hk (fun e => hg (by rw [e]))⟩
theorem Ex.row {g base : Nat} {w w' : World} {v q : Value} {m : Int} {zs : List Int} (h : Ex g w.heap.size w w') (hT : Two w g v m) (hr : RowI w base q zs) : RowI w' base q zs := hr.apart h.grown (hT.off (by decide))
theorem Ex.cls {g base : Nat} {w w' : World} {v q : Value} {m : Int} {cl : List (List Int)} (h : Ex g w.heap.size w w') (hT : Two w g v m) (hc : Cls w base q cl) : Cls w' base q cl := by
  obtain ⟨vs, h1, h2⟩ := hc
  exact ⟨vs, h1.kept h.grown (.inr fun e => hT.not_own h1 (by decide) e.symm), h2.apart h.grown (hT.off (by decide))⟩
theorem Ex.two {g g' : Nat} {w w' : World} {q : Value} {m' : Int} (h : Ex g w.heap.size w w') (hq : Two w g' q m') (hne : g' ≠ g) : Two w' g' q m' := (h.block g' hq.lt hne).trans hq
theorem Ex.kr {g s : Nat} {w0 w w' : World} {v : Value} {m : Int} (h : Ex g w.heap.size w w') (hT : Two w g v m) (hk : Kr s w0 w) (hg : w0.heap.size ≤ g) (hs : s ≤ g) : Kr s w0 w' :=
  ⟨hk.low.trans ⟨h.os, h.tape, h.output, h.size, fun k hk => h.block k (by have := hT.lt; omega) (by omega)⟩, fun q zs hq => h.row hT (hk.row q zs hq), fun g' q m' hq => h.two (hk.two g' q m' hq) (by have := hq.lt; omega)⟩

theorem RowI.st {w : World} {g base j : Nat} {v u q : Value} {m : Int} {zs : List Int} (h : RowI w base q zs) (hT : Two w g v m) : RowI (w.setCell ⟨g, j, none⟩ u) base q zs := ((Ex.refl g w.heap.size w).store u).row hT h
theorem rcnt_len {a b outs : List Int} {cl : List (List Int)} (na : a.length ≤ 20) (nb : b.length ≤ 20) (hc : cl.length ≤ 800000) {i k : Nat} (hi : i ≤ a.length + 1) (hk : k ≤ b.length + 1) : ((cl ++ Tot.outer a b outs i) ++ Tot.inner a b outs (i : Int) k).length ≤ 900000 := by
  have h1 := outer_length a b outs i
  have h2 := inner_length a b outs (i : Int) k
  have h3 := Nat.mul_le_mul (show i ≤ 21 by omega) (show b.length + 1 ≤ 21 by omega)
  rw [List.length_append, List.length_append]
  omega

set_option maxRecDepth 30000 in
set_option maxHeartbeats 16000000 in
theorem rcount_more (base B : Nat) (w : World) (v : Value) (cl : List (List Int)) (A : Option Addr) (n c M m h s1 s2 : Nat) (zs a b : List Int) (ca cb : List (List Int)) (hst : Cls w base v cl) (hbase : base ≤ w.heap.size) (hr : RdI B w A zs) (hB : B ≤ base) (hl : zs.length = n) (hn : 2 ≤ n) (hn2 : n ≤ 40) (hnc : n ≤ c) (hM : 1 ≤ M) (hM2 : M ≤ 1099511627776)
    (hh : n / 2 = h) (hs1 : Tot.size M h = s1) (hs2 : Tot.size M (n - h) = s2) (hca : Tot.cnt M (zs.take h) m = (a, ca)) (hcb : Tot.cnt M (zs.drop h) (m + s1) = (b, cb))
    (hbound : m + s1 + s2 + min n M ≤ 65537) (hlen : cl.length + ca.length + cb.length ≤ 800000) (la : ∀ x ∈ a, -65537 ≤ x ∧ x ≤ 65537) (lb : ∀ x ∈ b, -65537 ≤ x ∧ x ≤ 65537) (na : a.length ≤ 20) (nb : b.length ≤ 20)
    (H1 : ∀ (W : World) (v : Value), Cls W base v cl → base ≤ W.heap.size → RdI B W A (zs.take h) → Calls Try.prog 27 #[.agg #[v, .int .i64 (m : Int)], .slice A h c, .int .i64 (M : Int)] W (RCnt base W M (zs.take h) m cl))
    (H2 : ∀ (W : World) (v : Value), Cls W base v (cl ++ ca) → base ≤ W.heap.size → RdI B W (cutA c h A) (zs.drop h) → Calls Try.prog 27 #[.agg #[v, .int .i64 ((m + s1 : Nat) : Int)], .slice (cutA c h A) (n - h) (c - h), .int .i64 (M : Int)] W (RCnt base W M (zs.drop h) (m + s1) (cl ++ ca))) :
    Calls Try.prog 27 #[.agg #[v, .int .i64 (m : Int)], .slice A n c, .int .i64 (M : Int)] w (RCnt base w M zs m cl) := by
  obtain ⟨A0, L0, c0, rfl⟩ := hst.sl
  obtain ⟨W, hW⟩ : ∃ W, W = Wb w (.slice A0 L0 c0) (m : Int) := ⟨_, rfl⟩
  have T0 : Two W w.heap.size (.slice A0 L0 c0) (m : Int) := by rw [hW]; exact Wb_0 w _ _
  have T1 : Two W (w.heap.size + 1) (.slice Option.none 0 0) 0 := by rw [hW]; exact Wb_1 w _ _
  have hlow : Below w.heap.size w W := by rw [hW]; exact Wb_low w _ _
  have K0 : Kr base w W := Kr.below hlow hbase
  have S0 : Cls W base (.slice A0 L0 c0) cl := hst.below hlow
  have hWb : base ≤ W.heap.size := Nat.le_trans hbase hlow.size
  have HW := Lib.hid hW
  have hrd := fun (wx : World) (k : Kr base w wx) => Lib.hid (hr.below k.low hB)
  have e1 : (zs.take h).length = h := by rw [List.length_take]; omega
  have e2 : (zs.drop h).length = n - h := by rw [List.length_drop]; omega
  obtain ⟨n1, hn1⟩ : ∃ x, a.length = x := ⟨_, rfl⟩
  obtain ⟨n2, hn2'⟩ : ∃ x, b.length = x := ⟨_, rfl⟩
  obtain ⟨m1, hm1⟩ : ∃ x, m + s1 = x := ⟨_, rfl⟩
  obtain ⟨m2, hm2⟩ : ∃ x, m1 + s2 = x := ⟨_, rfl⟩
  obtain ⟨N, hN⟩ : ∃ x, min n M = x := ⟨_, rfl⟩
  obtain ⟨outs, ho⟩ : ∃ x, Tot.from_ m2 N = x := ⟨_, rfl⟩
  have hol : outs.length = N := by rw [← ho, Tot.from_length]
  have hsize : m + Tot.size M zs.length = m2 + N := by rw [hl, Tot.size_big (by omega), hh, hs1, hs2]; omega
  have hcnt : Tot.cnt M zs m = (outs, (ca ++ cb) ++ Tot.outer a b outs (a.length + 1)) := by
    rw [Tot.cnt_more (by omega) (by omega), hl, hh, hs1, hs2, hca, hcb, hm1, hm2, hN, ho]; rfl
  have lo : ∀ x ∈ outs, -65537 ≤ x ∧ x ≤ 65537 := fun x hx => by
    rw [← ho] at hx
    have := from_mem _ _ x hx
    omega
  have P1 : ∀ (W : World) (v : Value), Cls W base v cl → base ≤ W.heap.size → Kr base w W → Calls Try.prog 27 #[.agg #[v, .int .i64 (m : Int)], .slice A h c, .int .i64 (M : Int)] W fun e w' => ∃ A1 L1 c1 A2 c2, e = .returned (.tuple #[.agg #[.slice A1 L1 c1, .int .i64 (m1 : Int)], .slice A2 n1 c2]) ∧ Cls w' base (.slice A1 L1 c1) (cl ++ ca) ∧ RowI w' base (.slice A2 n1 c2) a ∧ Kr base W w' := by
    intro W v q1 q2 q3
    refine (H1 W v q1 q2 ((hrd W q3).out.take h)).mono ?_
    rintro e w' ⟨v', vo, rfl, r1, r2, r3⟩
    rw [hca] at r1 r2
    rw [e1, hs1, hm1]
    obtain ⟨A1, L1, c1, rfl⟩ := r1.sl
    obtain ⟨A2, c2, rfl, _⟩ := r2.shape
    rw [hn1] at r2 ⊢
    exact ⟨_, _, _, _, _, rfl, r1, r2, r3⟩
  have P2 : ∀ (W : World) (v : Value), Cls W base v (cl ++ ca) → base ≤ W.heap.size → Kr base w W → Calls Try.prog 27 #[.agg #[v, .int .i64 (m1 : Int)], .slice (cutA c h A) (n - h) (c - h), .int .i64 (M : Int)] W fun e w' => ∃ A1 L1 c1 A2 c2, e = .returned (.tuple #[.agg #[.slice A1 L1 c1, .int .i64 (m2 : Int)], .slice A2 n2 c2]) ∧ Cls w' base (.slice A1 L1 c1) (cl ++ ca ++ cb) ∧ RowI w' base (.slice A2 n2 c2) b ∧ Kr base W w' := by
    intro W v q1 q2 q3
    rw [← hm1]
    refine (H2 W v q1 q2 ((hrd W q3).out.cut (by omega))).mono ?_
    rintro e w' ⟨v', vo, rfl, r1, r2, r3⟩
    rw [hcb] at r1 r2
    rw [e2, hs2, hm1, hm2]
    obtain ⟨A1, L1, c1, rfl⟩ := r1.sl
    obtain ⟨A2, c2, rfl, _⟩ := r2.shape
    rw [hn2'] at r2 ⊢
    exact ⟨_, _, _, _, _, rfl, r1, r2, r3⟩
  have HP1 := Lib.hid P1
  have HP2 := Lib.hid P2
  have hr1 := run_head (A := A) (len := n) (cap := c) (k := h) (hk := by omega)
  have hr2 := run_cut (A := A) (len := n) (cap := c) (k := h) (hk := by omega)
  have d0 : ((n : Int) == 1) = false := beq_eq_false_iff_ne.mpr (by omega)
  have hhi : (n : Int) / 2 = (h : Int) := by omega
  have hmm : m2 + N ≤ 65537 := by omega
  have hN2 : N ≤ 40 := by omega
  have hn1l : n1 ≤ 20 := by omega
  have hn2l : n2 ≤ 20 := by omega
  have hl2 : (cl ++ ca ++ cb).length ≤ 800000 := by rw [List.length_append, List.length_append]; omega
  have hPB := fun (wx : World) (v : Value) (cl' : List (List Int)) (q : Int) (A1 A2 A3 : Option Addr) (c1 c2 c3 i k : Nat) => Lib.hid (fun (q1 : Cls wx base v cl') q2 q3 q4 q5 q6 (q7 : i ≤ n1) (q8 : k ≤ n2) => both_any base wx v cl' q A1 A2 A3 n1 n2 N c1 c2 c3 a b outs i k q1 q2 q3 q4 q5 q6 hn1 hn2' hol q7 q8 (by omega) (by omega) (by omega) la lb lo)
  have hLB := fun (i k : Nat) (q1 : i ≤ n1 + 1) (q2 : k ≤ n2 + 1) => Lib.hid (rcnt_len (a := a) (b := b) (outs := outs) na nb hl2 (i := i) (k := k) (by omega) (by omega))
  have Hl := Lib.hid (And.intro hsize hcnt)
  have Ho := Lib.hid ho
  have HN := Lib.hid hN
  have Hn1 := Lib.hid hn1
  have Hn2 := Lib.hid hn2'
  clear hW P1 P2 H1 H2 e1 e2 hl hh hs1 hs2 hca hcb hrd hr la lb lo hn1 hn2' hm1 hm2 hN ho hol hsize hcnt na nb hlen hbound
  have b0 := T0.c0
  have b1 := T0.c1
  go_enter Try.func27, Try.ntmps27
  go_upto_region 4 with fail
  rw [show (w.alloc (.cells #[.slice A0 L0 c0, .int .i64 (m : Int)] 51)).alloc (.cells #[.slice Option.none 0 0, .int .i64 0] 51) = W from HW.out.symm]
  go_cut [9] from 15 (fun u wx => ∃ A1 L1 c1 A2 c2, u = .slice A2 n1 c2 ∧ Two wx w.heap.size (.slice A1 L1 c1) (m1 : Int) ∧ Two wx (w.heap.size + 1) (.slice Option.none 0 0) 0 ∧ Cls wx base (.slice A1 L1 c1) (cl ++ ca) ∧ RowI wx base (.slice A2 n1 c2) a ∧ Kr base w wx)
  case first =>
    clear hr2 hPB hLB
    have S0d : Cls W.drew base (.slice A0 L0 c0) cl := S0
    have K0d : Kr base w W.drew := K0.drewN 1
    have T0d : Two W.drew w.heap.size (.slice A0 L0 c0) (m : Int) := T0
    have T1d : Two W.drew (w.heap.size + 1) (.slice Option.none 0 0) 0 := T1
    have hWd : base ≤ W.drew.heap.size := hWb
    go_region_with (go_at_call 27; refine (HP1.out _ _ S0d hWd K0d).mono ?_; rintro e w' ⟨A1, L1, c1, A2, c2, rfl, r1, r2, r4⟩; have t0 := r4.two _ _ _ T0d; have f0 := t0.c0; have f1 := t0.c1; have f2 := t0.fr 0; have f3 := t0.fr 1; clear b0 b1)
    all_goals
      go_wp2_with fail
      go_meet
    all_goals
      exact ⟨_, _, _, _, _, rfl, (t0.set0 _).set1 _, ((r4.two _ _ _ T1d).other (by omega)).other (by omega), (r1.store t0).store (t0.set0 _), (r2.st t0).st (t0.set0 _), ((K0d.trans r4).store t0 (Nat.le_refl _) hbase).store (t0.set0 _) (Nat.le_refl _) hbase⟩
  case rest =>
    clear b0 b1 T0 T1 S0 K0 hWb HW hr1
    obtain ⟨A1, L1, c1, A2, c2, rfl, T0, T1, S0, ra, K0⟩ := hcut
    rename World => w1
    have hWb : base ≤ w1.heap.size := Nat.le_trans hbase K0.low.size
    have b0 := T0.c0
    have b1 := T0.c1
    go_upto_region 5 with fail
    go_cut [10] from 15 (fun u wx => ∃ A1 L1 c1 A3 c3, u = .slice A3 n2 c3 ∧ Two wx w.heap.size (.slice A1 L1 c1) (m2 : Int) ∧ Two wx (w.heap.size + 1) (.slice Option.none 0 0) 0 ∧ Cls wx base (.slice A1 L1 c1) (cl ++ ca ++ cb) ∧ RowI wx base (.slice A2 n1 c2) a ∧ RowI wx base (.slice A3 n2 c3) b ∧ Kr base w wx)
    case first =>
      clear hPB hLB
      have S0d : Cls w1.drew base (.slice A1 L1 c1) (cl ++ ca) := S0
      have K0d : Kr base w w1.drew := K0.drewN 1
      have T0d : Two w1.drew w.heap.size (.slice A1 L1 c1) (m1 : Int) := T0
      have T1d : Two w1.drew (w.heap.size + 1) (.slice Option.none 0 0) 0 := T1
      have rad : RowI w1.drew base (.slice A2 n1 c2) a := ra
      have hWd : base ≤ w1.drew.heap.size := hWb
      go_region_with (go_at_call 27; refine (HP2.out _ _ S0d hWd K0d).mono ?_; rintro e w' ⟨A5, L5, c5, A3, c3, rfl, r1, r2, r4⟩; have t0 := r4.two _ _ _ T0d; have f0 := t0.c0; have f1 := t0.c1; have f2 := t0.fr 0; have f3 := t0.fr 1; clear b0 b1)
      all_goals
        go_wp2_with fail
        go_meet
      all_goals
        exact ⟨_, _, _, _, _, rfl, (t0.set0 _).set1 _, ((r4.two _ _ _ T1d).other (by omega)).other (by omega), (r1.store t0).store (t0.set0 _), ((r4.row _ _ rad).st t0).st (t0.set0 _), (r2.st t0).st (t0.set0 _), ((K0d.trans r4).store t0 (Nat.le_refl _) hbase).store (t0.set0 _) (Nat.le_refl _) hbase⟩
    case rest =>
      clear b0 b1 T0 T1 S0 ra K0 hWb hr2
      obtain ⟨A5, L5, c5, A3, c3, rfl, T0, T1, S0, ra, rb, K0⟩ := hcut
      rename World => w2
      have hWb : base ≤ w2.heap.size := Nat.le_trans hbase K0.low.size
      have hz := RowI.fresh w2.heap.size w2 (Nat.le_refl _)
      have hx0 := (Ex.refl w.heap.size w2.heap.size w2).push ((Below.refl w2.heap.size w2).alloc (Nat.le_refl _) (.cells #[] 3))
      have T0z := T0.alloc (.cells #[] 3)
      clear HP1 HP2
      go_wp2_with fail
      go_loopw [11, 12] (fun o i wr => ∃ j q : Nat, j ≤ N ∧ i = .int .i64 j ∧ q = m2 + j ∧ RowI wr w2.heap.size o (Tot.from_ m2 j) ∧ Ex w.heap.size w2.heap.size w2 wr ∧ Two wr w.heap.size (.slice A5 L5 c5) (q : Int)) (fun _ i _ => N - (intOf i).toNat)
      case atStart => exact ⟨0, m2, by omega, rfl, rfl, hz, hx0, T0z⟩
      case round =>
        obtain ⟨j, q, hj, rfl, hq, ho, hx, hT⟩ := hrel
        clear T0z hz hx0
        have Hq := Lib.hid hq
        have hq2 : q ≤ 65537 := by omega
        clear hq
        go_upto_region 8 with fail
        go_cut [53] from 45 to 64 (fun u wx => u = .bool (decide (j < N)) ∧ wx = wr)
        case first =>
          clear hPB hLB
          have hN := HN.out
          by_cases q1 : j < n
          · have d1 : decide ((j : Int) < (n : Int)) = true := decide_eq_true (by omega)
            have d1' : decide (j < n) = true := decide_eq_true q1
            by_cases q2 : j < M
            · have d2 : decide ((j : Int) < (M : Int)) = true := decide_eq_true (by omega)
              have d2' : decide (j < M) = true := decide_eq_true q2
              have Hd := Lib.hid (decide_eq_true (show j < N by omega))
              clear hN
              go_wp2_with fail
              go_meet
              case rel => (repeat apply Exists.intro); exact ⟨by rw [Hd.out], rfl⟩
            · have d2 : decide ((j : Int) < (M : Int)) = false := decide_eq_false (by omega)
              have d2' : decide (j < M) = false := decide_eq_false q2
              have Hd := Lib.hid (decide_eq_false (show ¬ j < N by omega))
              clear hN
              go_wp2_with fail
              go_meet
              case rel => (repeat apply Exists.intro); exact ⟨by rw [Hd.out], rfl⟩
          · have d1 : decide ((j : Int) < (n : Int)) = false := decide_eq_false (by omega)
            have d1' : decide (j < n) = false := decide_eq_false q1
            have Hd := Lib.hid (decide_eq_false (show ¬ j < N by omega))
            clear hN
            go_wp2_with fail
            go_meet
            case rel => (repeat apply Exists.intro); exact ⟨by rw [Hd.out], rfl⟩
        case rest =>
          obtain ⟨rfl, rfl⟩ := hcut
          rename World => wr
          by_cases hlt : j < N
          · have d1 : decide (j < N) = true := decide_eq_true hlt
            have b1 := hT.c1
            have hfl : (Tot.from_ m2 j).length ≤ 1000000 := by rw [Tot.from_length]; omega
            have hszr := hx.size
            have hyw : Wf (q : Int) := ⟨by omega, by omega⟩
            clear hPB hLB
            go_wp2_with (at_builtin; refine wpList_push rfl _ _ rfl w2.heap.size _ _ rfl ho (q : Int) hyw rfl hfl hszr ?_)
            intro o' w' ho' hb'
            have hx' := hx.push hb'
            have hT' := hT.below hb' T0.lt
            have b2 := hT'.c1
            have e2 := hT'.fr 1
            clear b1 hb' ho hx hT
            go_wp2_with fail
            go_roundw
            case rel => exact ⟨j + 1, q + 1, by omega, by go_num, by have := Hq.out; omega, by rw [Tot.from_, ← Hq.out]; exact ho'.st hT', hx'.store _, hT'.set1 _⟩
            case measure => simp [intOf]; omega
          · have d1 : decide (j < N) = false := decide_eq_false hlt
            rw [d1]
            clear d1
            obtain rfl : j = N := by omega
            rw [Ho.out] at ho
            have T1' := hx.two T1 (by omega)
            have S1 := hx.cls T0 S0
            have ra1 := hx.row T0 ra
            have rb1 := hx.row T0 rb
            have K1 := hx.kr T0 K0 (Nat.le_refl _) hbase
            obtain ⟨Ao, co, rfl, _⟩ := ho.shape
            have hol : outs.length = j := by rw [← Ho.out, Tot.from_length]
            rw [hol] at ho ⊢
            have ro1 := ho.base hWb
            clear hol hx ho T0 T1 S0 ra rb K0 HN
            go_wp2_with fail
            go_loopw [13] (fun p wr' => ∃ i : Nat, ∃ A6 L6 c6, i ≤ n1 + 1 ∧ p = .int .i64 i ∧ Two wr' w.heap.size (.slice A6 L6 c6) (q : Int) ∧ Two wr' (w.heap.size + 1) (.slice Option.none 0 0) 0 ∧ Cls wr' base (.slice A6 L6 c6) ((cl ++ ca ++ cb) ++ Tot.outer a b outs i) ∧ RowI wr' base (.slice A2 n1 c2) a ∧ RowI wr' base (.slice A3 n2 c3) b ∧ RowI wr' base (.slice Ao j co) outs ∧ Kr base w wr') (fun p _ => n1 + 2 - (intOf p).toNat)
            case atStart => exact ⟨0, _, _, _, by omega, rfl, hT, T1', by simpa [Tot.outer] using S1, ra1, rb1, ro1, K1⟩
            case round =>
              clear T1' S1 ra1 rb1 K1 ro1 hT
              obtain ⟨i, A6, L6, c6, hi, rfl, T0, T1, S0, ra, rb, ro, K0⟩ := hrel
              by_cases hit : i ≤ n1
              · have d2 : decide ((i : Int) ≤ (n1 : Int)) = true := decide_eq_true (by omega)
                have d2' : decide (i ≤ n1) = true := decide_eq_true hit
                go_wp2_with fail
                go_loopw [14] (fun p wr' => ∃ k : Nat, ∃ A7 L7 c7, k ≤ n2 + 1 ∧ p = .int .i64 k ∧ Two wr' w.heap.size (.slice A7 L7 c7) (q : Int) ∧ Two wr' (w.heap.size + 1) (.slice Option.none 0 0) 0 ∧ Cls wr' base (.slice A7 L7 c7) (((cl ++ ca ++ cb) ++ Tot.outer a b outs i) ++ Tot.inner a b outs (i : Int) k) ∧ RowI wr' base (.slice A2 n1 c2) a ∧ RowI wr' base (.slice A3 n2 c3) b ∧ RowI wr' base (.slice Ao j co) outs ∧ Kr base w wr') (fun p _ => n2 + 2 - (intOf p).toNat)
                case atStart => exact ⟨0, _, _, _, by omega, rfl, T0, T1, by simpa [Tot.inner] using S0, ra, rb, ro, K0⟩
                case round =>
                  clear T0 T1 S0 ra rb ro K0
                  obtain ⟨k, A7, L7, c7, hk, rfl, T0, T1, S0, ra, rb, ro, K0⟩ := hrel
                  by_cases hkt : k ≤ n2
                  · have d3 : decide ((k : Int) ≤ (n2 : Int)) = true := decide_eq_true (by omega)
                    have d3' : decide (k ≤ n2) = true := decide_eq_true hkt
                    have hL := Lib.hid ((hPB _ _ _ (q : Int) A2 A3 Ao c2 c3 co i k).out S0 (Nat.le_trans hbase K0.low.size) (hLB i k hi hk).out ra rb ro hit hkt)
                    have b1 := T0.c0
                    have b2 := T0.c1
                    clear hPB hLB
                    go_wp2_with fail
                    refine hL.out.mono ?_
                    rintro e w' ⟨v', rfl, S1, K1⟩
                    obtain ⟨A8, L8, c8, rfl⟩ := S1.sl
                    have t0 := K1.two _ _ _ T0
                    have t1 := K1.two _ _ _ T1
                    have f0 := t0.c0
                    have f1 := t0.c1
                    have f2 := t0.fr 0
                    have f3 := t0.fr 1
                    have Hr := Lib.hid (And.intro (K1.row _ _ ra) (And.intro (K1.row _ _ rb) (And.intro (K1.row _ _ ro) (K0.trans K1))))
                    clear b1 b2 hL ra rb ro K0 K1 T0 T1 S0
                    go_wp2_with fail
                    go_roundw
                    case rel => exact ⟨k + 1, A8, L8, c8, by omega, by go_num, (t0.set0 _).set1 _, (t1.other (by omega)).other (by omega), by rw [Tot.inner, ← List.append_assoc]; exact (S1.store t0).store (t0.set0 _), (Hr.out.1.st t0).st (t0.set0 _), (Hr.out.2.1.st t0).st (t0.set0 _), (Hr.out.2.2.1.st t0).st (t0.set0 _), (Hr.out.2.2.2.store t0 (Nat.le_refl _) hbase).store (t0.set0 _) (Nat.le_refl _) hbase⟩
                    case measure => simp [intOf]; omega
                  · obtain rfl : k = n2 + 1 := by omega
                    have d3 : decide (((n2 + 1 : Nat) : Int) ≤ (n2 : Int)) = false := decide_eq_false (by omega)
                    have d3' : decide (n2 + 1 ≤ n2) = false := decide_eq_false (by omega)
                    clear hPB hLB
                    go_wp2_with fail
                    go_roundw
                    case rel => exact ⟨i + 1, A7, L7, c7, by omega, by go_num, T0, T1, by rw [Tot.outer, ← List.append_assoc, Hn2.out]; exact S0, ra, rb, ro, K0⟩
                    case measure => simp [intOf]; omega
              · obtain rfl : i = n1 + 1 := by omega
                have d2 : decide (((n1 + 1 : Nat) : Int) ≤ (n1 : Int)) = false := decide_eq_false (by omega)
                have b1 := T0.c0
                have b2 := T0.c1
                have b3 := T1.c0
                have e3 := T1.fr 0
                have b4 := (T1.set0 (.slice A6 L6 c6)).c1
                have e4 := (T1.set0 (.slice A6 L6 c6)).fr 1
                have t2 := (T1.set0 (.slice A6 L6 c6)).set1 (q : Int)
                have Hfin := Lib.hid (And.intro ((S0.store T1 (j := 0) (u := .slice A6 L6 c6)).store (T1.set0 (.slice A6 L6 c6)) (j := 1) (u := .int .i64 (q : Int))) (And.intro ((ro.st T1 (j := 0) (u := .slice A6 L6 c6)).st (T1.set0 (.slice A6 L6 c6)) (j := 1) (u := .int .i64 (q : Int))) ((K0.store T1 (by omega) (by omega) (j := 0) (u := .slice A6 L6 c6)).store (T1.set0 (.slice A6 L6 c6)) (by omega) (by omega) (j := 1) (u := .int .i64 (q : Int)))))
                clear hPB hLB
                go_wp2_with fail
                refine bodyPost_ret (v := .tuple #[.agg #[.slice A6 L6 c6, .int .i64 (q : Int)], .slice Ao j co]) (results27 _ _ (w.heap.size + 1) (.slice A6 L6 c6) (q : Int) ?h1 t2) ?h2 ?h3
                case h1 => rfl
                case h2 => rfl
                case h3 =>
                  obtain ⟨g1, g2⟩ := Hl.out
                  refine ⟨.slice A6 L6 c6, .slice Ao j co, ?_, ?_, ?_, Hfin.out.2.2⟩
                  · rw [g1, Hq.out]
                  · rw [g2, ← List.append_assoc, ← List.append_assoc, Hn1.out]; exact Hfin.out.1
                  · rw [g2]; exact Hfin.out.2.1
end Go.Proofs.Ytppgpafnifmmfaa
