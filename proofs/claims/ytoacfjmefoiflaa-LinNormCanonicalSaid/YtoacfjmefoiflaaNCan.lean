/- The walk of the law LinNormCanonical. -/
import Derived.Test.YtoacfjmefoiflaaOpen
import Derived.Deep.RegionHeld
namespace Go.Proofs.Ytoacfjmefoiflaa
open Go.ChangeShapes Go.WideShapes Go.ChangeAt Go.RowKit
set_option maxRecDepth 100000

set_option maxHeartbeats 4000000 in
theorem ncan_out (AC AL : Option Addr) (n1 n2 cc lc : Nat) (k : Int) (w : World) (h : ¬ (n1 ≤ 60 ∧ n2 ≤ 60)) :
    Calls Try.prog 7 #[.agg #[.slice AC n1 cc, .slice AL n2 lc, .int .i64 k]] w fun e w' => e = .returned (.bool true) ∧ Below w.heap.size w w' := by
  obtain ⟨W1, hW1⟩ : ∃ W, W = w.alloc (.cells #[.slice AC n1 cc, .slice AL n2 lc, .int .i64 k] 24) := ⟨_, rfl⟩
  have hb1 : Below w.heap.size w W1 := by rw [hW1]; exact (Below.refl _ _).alloc (Nat.le_refl _) _
  have hat : LinAt W1 w.heap.size (.slice AC n1 cc) (.slice AL n2 lc) k 24 := by rw [hW1]; exact heap_alloc_new _ _
  have hF := fun W => few_any AC AL n1 n2 cc lc k W
  rw [decide_eq_false h] at hF
  have HF := Lib.hid hF
  have HW := Lib.hid hW1
  have HA := Lib.hid hat
  have hs1 := hb1.size
  clear hW1 hat hF h
  go_enter Try.func7, Try.ntmps7
  go_wp2_with fail
  rw [← HW.out]
  clear HW
  refine (live_any W1).mono ?_
  rintro e w2 ⟨rfl, hb2⟩
  obtain ⟨cC, cL, cK⟩ := (HA.out.below hb2).cells
  have hb12 := hb1.trans (hb2.mono hs1)
  have hs2 := hb2.size
  clear hb2 HA
  go_wp2_with fail
  refine (HF.out w2).mono ?_
  rintro e w3 ⟨rfl, hb3⟩
  have fin := Lib.hid (hb12.trans (hb3.mono hb12.size))
  clear HF cC cL cK hb3 hb12
  go_wp2_with fail
  go_ret
  exact ⟨rfl, fin.out⟩

theorem su_take (cs : List Int) (j : Nat) (h : j < cs.length) : su (cs.take (j + 1)) = su (cs.take j) + cs[j]?.getD 0 := by
  rw [List.take_add_one, List.getElem?_eq_getElem h]
  exact su_snoc _ _
theorem su_take_bound (M : Int) (hM : 0 ≤ M) (cs : List Int) (j : Nat) (h : ∀ c ∈ cs, -M ≤ c ∧ c ≤ M) : -(M * cs.length) ≤ su (cs.take j) ∧ su (cs.take j) ≤ M * cs.length := by
  have h1 := su_bound M hM (cs.take j) fun c hc => h c (List.mem_of_mem_take hc)
  rw [List.length_take] at h1
  have h2 : M * ((min j cs.length : Nat) : Int) ≤ M * cs.length := Int.mul_le_mul_of_nonneg_left (by omega) hM
  omega

set_option maxHeartbeats 8000000 in
theorem ncan_main (AC AL : Option Addr) (n1 n2 cc lc : Nat) (k : Int) (cs ls : List Int) (w : World) (hc : RdI w.heap.size w AC cs) (hr : RdI w.heap.size w AL ls) (hl1 : cs.length = n1) (hl2 : ls.length = n2) (h : n1 ≤ 60 ∧ n2 ≤ 60) :
    Calls Try.prog 7 #[.agg #[.slice AC n1 cc, .slice AL n2 lc, .int .i64 k]] w fun e w' => e = .returned (.bool true) ∧ Below w.heap.size w w' := by
  obtain ⟨W1, hW1⟩ : ∃ W, W = w.alloc (.cells #[.slice AC n1 cc, .slice AL n2 lc, .int .i64 k] 24) := ⟨_, rfl⟩
  have hb1 : Below w.heap.size w W1 := by rw [hW1]; exact (Below.refl _ _).alloc (Nat.le_refl _) _
  have hat : LinAt W1 w.heap.size (.slice AC n1 cc) (.slice AL n2 lc) k 24 := by rw [hW1]; exact heap_alloc_new _ _
  have hF := fun W => few_any AC AL n1 n2 cc lc k W
  rw [decide_eq_true h] at hF
  obtain ⟨hn1, hn2⟩ := h
  have HNm := Lib.hid (fun W (h : Below w.heap.size w W) => norm_all w.heap.size n1 n2 cc lc AC AL k cs ls W (hc.below h (Nat.le_refl _)) (hr.below h (Nat.le_refl _)) h.size hl1 hl2 (by omega))
  have hCan := canon_m cs ls k (by omega)
  have hCl : (mC cs ls k).length ≤ 60 := by have := mC_len cs ls k; omega
  have HF := Lib.hid hF
  have HW := Lib.hid hW1
  have HA := Lib.hid hat
  have HC := Lib.hid (And.intro hCan hCl)
  have hs1 := hb1.size
  clear hW1 hat hF hCan hCl hc hr hl1 hl2
  go_enter Try.func7, Try.ntmps7
  go_wp2_with fail
  rw [← HW.out]
  clear HW
  refine (live_any W1).mono ?_
  rintro e w2 ⟨rfl, hb2⟩
  have hat2 := HA.out.below hb2
  obtain ⟨cC, cL, cK⟩ := hat2.cells
  have hb12 := hb1.trans (hb2.mono hs1)
  have hs2 := hb2.size
  have H2 := Lib.hid hat2
  clear hb2 HA hat2
  go_wp2_with fail
  refine (HF.out w2).mono ?_
  rintro e w3 ⟨rfl, hb3⟩
  obtain ⟨cC, cL, cK⟩ := (H2.out.below hb3).cells
  have hb13 := hb12.trans (hb3.mono hb12.size)
  clear HF hb3 hb12 H2
  have hN := Lib.hid (HNm.out w3 hb13)
  clear HNm
  go_wp2_with fail
  refine hN.out.mono ?_
  rintro e w4 ⟨A1, c1, A2, c2, rfl, rd1, rd2, z1, z2, hb4⟩
  have hb14 := hb13.trans (hb4.mono hb13.size)
  clear hN cC cL cK hb4 hb13
  obtain ⟨C, hC⟩ : ∃ C, mC cs ls k = C := ⟨_, rfl⟩
  obtain ⟨L, hL⟩ : ∃ L, mL cs ls k = L := ⟨_, rfl⟩
  obtain ⟨K, hK⟩ : ∃ K, mK cs ls k = K := ⟨_, rfl⟩
  rw [hC, hL, hK] at HC
  rw [hC] at rd1
  rw [hL] at rd2
  rw [hC, hL, hK]
  obtain ⟨M, hM⟩ : ∃ M, C.length = M := ⟨_, rfl⟩
  have hM' : L.length = M := by rw [← HC.out.1.len]; exact hM
  rw [hM, hM']
  have hMn : M ≤ 60 := by rw [← hM]; exact HC.out.2
  obtain ⟨W5, hW5, kx, hb5⟩ := KL.new (n := M) (c := c1) (m := M) (d := c2) (k := K) rd1 rd2
  have hb15 := hb14.trans (hb5.mono hb14.size)
  have HW := Lib.hid hW5
  have HM := Lib.hid (And.intro hM hM')
  have HX := Lib.hid (And.intro kx (And.intro hb15 (And.intro z1 z2)))
  obtain ⟨cC, cL, cK⟩ := kx.1.cells
  rw [hW5] at cC cL cK
  clear hC hL hK rd1 rd2 hW5 kx hb5 hb14 hb15 z1 z2 hM hM'
  go_wp2_with fail
  rw [← HW.out]
  rw [← HW.out] at cC cL cK
  clear HW
  go_loopw [4, 5] (fun a i wr => ∃ j q : Nat, j ≤ M ∧ a = .int .i64 (su (C.take j)) ∧ i = .int .i64 j ∧ wr = W5.drewN q) (fun _ i _ => M - (intOf i).toNat)
  case atStart => exact ⟨0, 0, by omega, rfl, rfl, rfl⟩
  case round =>
    obtain ⟨j, q, hj, rfl, rfl, rfl⟩ := hrel
    by_cases hlt : j < M
    · have hjc : j < C.length := by rw [HM.out.1]; exact hlt
      have hjl : j < L.length := by rw [HM.out.2]; exact hlt
      obtain ⟨b1, o1, hA1, _, q1⟩ := HX.out.1.2.1.2 (by omega)
      obtain ⟨b2, o2, hA2, _, q2⟩ := HX.out.1.2.2.2 (by omega)
      have hc1 := q1 j hjc
      have hz1 := q2 j hjl
      have hcp := HC.out.1.pos (C[j]?.getD 0) (by rw [List.getElem?_eq_getElem hjc]; exact List.getElem_mem _)
      have hcb := HC.out.1.big (C[j]?.getD 0) (by rw [List.getElem?_eq_getElem hjc]; exact List.getElem_mem _)
      have hzp := HC.out.1.lit (L[j]?.getD 0) (by rw [List.getElem?_eq_getElem hjl]; exact List.getElem_mem _)
      have hst := su_take C j hjc
      have hsb := su_take_bound 140737488355328 (by omega) C j (fun c hc => by have := HC.out.1.pos c hc; have := HC.out.1.big c hc; omega)
      rw [HM.out.1] at hsb
      have HS := Lib.hid hst
      have hvs := HC.out.1.vs
      have hprev : 0 < j → max (L[j - 1]?.getD 0) (-(L[j - 1]?.getD 0)) < max (L[j]?.getD 0) (-(L[j]?.getD 0)) ∧ (L[j - 1]?.getD 0 ≠ 0 ∧ -65536 ≤ L[j - 1]?.getD 0 ∧ L[j - 1]?.getD 0 ≤ 65536) := fun h0 => by
        have hj1 : j - 1 < L.length := by omega
        have h1 := List.pairwise_iff_getElem.1 hvs (j - 1) j (by rw [List.length_map]; omega) (by rw [List.length_map]; omega) (by omega)
        rw [List.getElem_map, List.getElem_map] at h1
        rw [List.getElem?_eq_getElem hj1, List.getElem?_eq_getElem hjl]
        exact ⟨h1, HC.out.1.lit _ (List.getElem_mem _)⟩
      have hz0 := fun h0 : 0 < j => q2 (j - 1) (by omega)
      clear q1 q2 hjc hjl hst hvs
      generalize C[j]?.getD 0 = c at *
      generalize L[j]?.getD 0 = z at *
      generalize L[j - 1]?.getD 0 = z' at *
      generalize su (C.take j) = S at *
      obtain ⟨Z, hZ⟩ : ∃ Z, max z (-z) = Z := ⟨_, rfl⟩
      have hZb : 0 < Z ∧ Z ≤ 65536 := by omega
      have eZ1 : (if z < -z then -z else z) = Z := by split <;> omega
      have eZ2 : (if -z < z then z else -z) = Z := by split <;> omega
      have eZ3 : max z (0 - z) = Z := by omega
      have hneg : wrap64 (-z) = -z := IntWalk.wrap64_in _ (by omega)
      have g1 : decide (c < 1) = false := decide_eq_false (by omega)
      have g2 : decide (K < c) = false := decide_eq_false (by omega)
      have g2' : decide (c > K) = false := decide_eq_false (by omega)
      cases hA1
      cases hA2
      by_cases h0 : 0 < j
      · have hp := hprev h0
        have hz0 := hz0 h0
        obtain ⟨i, hi⟩ : ∃ i, j = i + 1 := ⟨j - 1, by omega⟩
        rw [show j - 1 = i by omega] at hz0
        have hi1 : wrap64 ((j : Int) - 1) = (i : Int) := by rw [IntWalk.wrap64_in _ (by omega)]; omega
        have hi2 : (j : Int) - 1 = (i : Int) := by omega
        have hiM : i < M := by omega
        obtain ⟨Z', hZ'⟩ : ∃ Z', max z' (-z') = Z' := ⟨_, rfl⟩
        rw [hZ', hZ] at hp
        have eY1 : (if z' < -z' then -z' else z') = Z' := by split <;> omega
        have eY2 : (if -z' < z' then z' else -z') = Z' := by split <;> omega
        have eY3 : max z' (0 - z') = Z' := by omega
        have hneg' : wrap64 (-z') = -z' := IntWalk.wrap64_in _ (by omega)
        have g3 : decide ((0 : Int) < (j : Int)) = true := decide_eq_true (by omega)
        have g3' : decide (0 < j) = true := decide_eq_true (by omega)
        have g3'' : decide ((j : Int) > 0) = true := decide_eq_true (by omega)
        have g4 : decide (Z ≤ Z') = false := decide_eq_false (by omega)
        have g5 : decide (max z (-z) ≤ max z' (-z')) = false := decide_eq_false (by omega)
        have g5' : decide (max z' (-z') ≥ max z (-z)) = false := decide_eq_false (by omega)
        have g4' : decide (Z' ≥ Z) = false := decide_eq_false (by omega)
        clear hprev hZ hZ' hi
        obtain ⟨hcp1, hcp2⟩ := hcp
        obtain ⟨hz1', hz2', hz3'⟩ := hzp
        obtain ⟨hp1, hp2, hp3, hp4⟩ := hp
        go_wp2
        go_quiet (fail)
        go_wp2
        go_quiet (fail)
        go_wp2
        clear g1 g2 g2' g3 g3' g3'' g4 g4' g5 g5' hi1 hi2 eY1 eY2 eY3 eZ1 eZ2 eZ3 hneg hneg'
        go_roundw
        case rel => exact ⟨j + 1, _, by omega, by rw [HS.out], by go_num, rfl⟩
        case measure => simp [intOf]; omega
      · have g3 : decide ((0 : Int) < (j : Int)) = false := decide_eq_false (by omega)
        have g3' : decide (0 < j) = false := decide_eq_false h0
        have g3'' : decide ((j : Int) > 0) = false := decide_eq_false (by omega)
        clear hprev hz0 hZ
        obtain ⟨hcp1, hcp2⟩ := hcp
        obtain ⟨hz1', hz2', hz3'⟩ := hzp
        go_wp2
        go_quiet (fail)
        go_wp2
        go_quiet (fail)
        go_wp2
        clear g1 g2 g2' g3 g3' g3'' eZ1 eZ2 eZ3 hneg
        go_roundw
        case rel => exact ⟨j + 1, _, by omega, by rw [HS.out], by go_num, rfl⟩
        case measure => simp [intOf]; omega
    · obtain rfl : j = M := by omega
      have htk : C.take j = C := List.take_of_length_le (by have := HM.out.1; omega)
      rw [htk]
      obtain ⟨S, hS⟩ : ∃ S, su C = S := ⟨_, rfl⟩
      rw [hS]
      have hKf := HC.out.1
      have HSu := Lib.hid hS
      have hb5 : Below W5.heap.size W5 (World.drew (W5.drewN q)) := (below_drewN (Below.refl _ _) q).drew
      have hCk := fun W (h : Below W5.heap.size W5 W) => LinCheck_any W5.heap.size A1 A2 j j c1 c2 K 65536 C L W (HX.out.1.2.1.below h (Nat.le_refl _)) (HX.out.1.2.2.below h (Nat.le_refl _)) h.size HM.out.1 HM.out.2 (by omega) (by omega) (by omega)
      have hkeep : ∀ W W', (Below W5.heap.size W5 W ∧ W.cell? ⟨w4.heap.size, 0, none⟩ = some (.slice A1 j c1) ∧ W.cell? ⟨w4.heap.size, 1, none⟩ = some (.slice A2 j c2) ∧ W.cell? ⟨w4.heap.size, 2, none⟩ = some (.int .i64 K)) → Below W.heap.size W W' →
          (Below W5.heap.size W5 W' ∧ W'.cell? ⟨w4.heap.size, 0, none⟩ = some (.slice A1 j c1) ∧ W'.cell? ⟨w4.heap.size, 1, none⟩ = some (.slice A2 j c2) ∧ W'.cell? ⟨w4.heap.size, 2, none⟩ = some (.int .i64 K)) := fun W W' ⟨i1, i2, i3, i4⟩ hb => by
        have hsw := i1.size
        have hl := HX.out.1.1.lt
        exact ⟨i1.trans (hb.mono hsw), (hb.cell (p := ⟨w4.heap.size, 0, none⟩) (by show w4.heap.size < W.heap.size; omega)).trans i2, (hb.cell (p := ⟨w4.heap.size, 1, none⟩) (by show w4.heap.size < W.heap.size; omega)).trans i3, (hb.cell (p := ⟨w4.heap.size, 2, none⟩) (by show w4.heap.size < W.heap.size; omega)).trans i4⟩
      have hfin : ∀ W, Below W5.heap.size W5 W → Below w.heap.size w W := fun W hW => HX.out.2.1.trans (hW.mono HX.out.2.1.size)
      have hstart : Below W5.heap.size W5 (World.drew (W5.drewN q)) ∧ (World.drew (W5.drewN q)).cell? ⟨w4.heap.size, 0, none⟩ = some (.slice A1 j c1) ∧ (World.drew (W5.drewN q)).cell? ⟨w4.heap.size, 1, none⟩ = some (.slice A2 j c2) ∧ (World.drew (W5.drewN q)).cell? ⟨w4.heap.size, 2, none⟩ = some (.int .i64 K) := ⟨hb5, cC, cL, cK⟩
      have HK := Lib.hid hkeep
      have HF := Lib.hid hfin
      have Hst := Lib.hid hstart
      have e1 : ((j : Int) != (j : Int)) = false := by simp
      have key : (decide ((0 : Int) < (j : Int)) = false ∧ ((j : Int) == 0) = true ∧ decide (0 < j) = false ∧ (j == 0) = true ∧ (K = 0 ∨ K = 1)) ∨ (decide ((0 : Int) < (j : Int)) = true ∧ ((j : Int) == 0) = false ∧ decide (0 < j) = true ∧ (j == 0) = false ∧ decide (K < 1) = false ∧ decide (S < K) = false) := by
        by_cases hC0 : C = []
        · have hj0 : j = 0 := by rw [← HM.out.1, hC0]; rfl
          left
          exact ⟨decide_eq_false (by omega), by simp; omega, decide_eq_false (by omega), by simp; omega, hKf.none hC0⟩
        · have hj0 : j ≠ 0 := fun e => hC0 (List.eq_nil_of_length_eq_zero (by rw [HM.out.1]; exact e))
          have := hKf.some hC0
          right
          exact ⟨decide_eq_true (by omega), by simp; omega, decide_eq_true (by omega), by simp; omega, decide_eq_false (by omega), decide_eq_false (by omega)⟩
      clear hkeep hfin hstart hb5 htk hS hKf
      by_cases hok : OkL C L K 65536
      · have hself := norm_self HC.out.1
        have hCk' := Lib.hid (fun W h => (hCk W h).1 hok)
        have hNo : ∀ W, Below W5.heap.size W5 W → Calls Try.prog 15 #[.agg #[.slice A1 j c1, .slice A2 j c2, .int .i64 K]] W fun e w' => ∃ B1 e1 B2 e2, e = .returned (.agg #[.slice B1 j e1, .slice B2 j e2, .int .i64 K]) ∧ RdI w'.heap.size w' B1 C ∧ RdI w'.heap.size w' B2 L ∧ Below W.heap.size W w' := fun W h => by
          refine (norm_fn W5.heap.size j c1 c2 A1 A2 K C L W (HX.out.1.2.1.below h (Nat.le_refl _)) (HX.out.1.2.2.below h (Nat.le_refl _)) h.size HM.out.1 HM.out.2 (by omega) hok).mono ?_
          rintro e w' ⟨B1, e1, B2, e2, rfl, q1, q2, _, hb⟩
          rw [hself.1] at q1
          rw [hself.2.1] at q2
          obtain ⟨_, _, x1, _, rd1⟩ := q1.shape
          obtain ⟨_, _, x2, _, rd2⟩ := q2.shape
          injection x1 with x1
          injection x2 with x2
          subst x1
          subst x2
          exact ⟨_, e1, _, e2, by rw [hself.1, hself.2.1, hself.2.2, HM.out.1, HM.out.2], rd1, rd2, hb⟩
        have hSa : ∀ W B1 e1 B2 e2, Below W5.heap.size W5 W → RdI W.heap.size W B1 C → RdI W.heap.size W B2 L → Calls Try.prog 19 #[.agg #[.slice B1 j e1, .slice B2 j e2, .int .i64 K], .agg #[.slice A1 j c1, .slice A2 j c2, .int .i64 K]] W fun e w' => e = .returned (.bool true) ∧ Below W.heap.size W w' := fun W B1 e1 B2 e2 h r1 r2 => by
          have h1 := Same_any W.heap.size B1 B2 A1 A2 j j j j e1 e2 c1 c2 K K C L C L W r1 r2 ((HX.out.1.2.1.below h (Nat.le_refl _)).more h.size) ((HX.out.1.2.2.below h (Nat.le_refl _)).more h.size) (Nat.le_refl _) HM.out.1 HM.out.2 HM.out.1 HM.out.2 (by unfold maxLen; omega) (by unfold maxLen; omega)
          rwa [sameB_iff.2 ⟨rfl, rfl, rfl⟩] at h1
        have HNo := Lib.hid hNo
        have HSa := Lib.hid hSa
        clear hCk hNo hSa hself hok HX HC HM HSu
        rcases key with ⟨k1, k2, k5, k6, rfl | rfl⟩ | ⟨k1, k2, k5, k6, k3, k4⟩
        · go_wp2
          refine wp_region_held_drew (S := fun W => Below W5.heap.size W5 W ∧ W.cell? ⟨w4.heap.size, 0, none⟩ = some (.slice A1 j c1) ∧ W.cell? ⟨w4.heap.size, 1, none⟩ = some (.slice A2 j c2) ∧ W.cell? ⟨w4.heap.size, 2, none⟩ = some (.int .i64 0)) (by kernel_rfl) Hst.out (fun hHeld => ?_)
          clear Hst
          refine takeH_now (i := 0) (some 125) (v := ?_) rfl (by kernel_rfl) (by kernel_rfl) (by kernel_rfl) (fun _ _ _ h => h) (Or.inl ⟨by rfl, ?_⟩) rfl (by assumption) ?_
          rotate_left
          focus (intro w9 hS9; have cC := hS9.2.1; have cL := hS9.2.2.1; have cK := hS9.2.2.2; clear hS9; go_simp; try with_reducible rfl)
          try simp only [Act.put, List.setIfInBounds_toArray, List.set_cons_zero, List.set_cons_succ]
          refine wpAnyH_ready (rs := [1]) (by kernel_rfl) (by simp) ?_
          refine AllReadyH.cons (o := { dst := some 126, op := Op.call { callee := Callee.value (Operand.func 17), args := #[Operand.tmp 125, Operand.const (Value.int IntKind.i64 65536)], argTypes := #[24, 3] }, type := 29, pos := "law.go:133", after := #[{ on := 0, ground := Ground.data }], guard := none }) rfl (fun K' hK' => ?_) AllReadyH.nil
          rw [if_pos (by kernel_rfl)]
          go_simp
          refine (hCk'.out _ hHeld.1).mono ?_
          rintro e wa ⟨rfl, hba⟩
          have hHa := HK.out _ _ hHeld hba
          clear hHeld hba
          refine hK'.out _ _ hHa (fun hHeld => ?_)
          clear hK' hHa
          try simp only [Act.put, List.setIfInBounds_toArray, List.set_cons_zero, List.set_cons_succ]
          refine takeH_now (i := 2) (some 127) (v := ?_) rfl (by kernel_rfl) (by kernel_rfl) (by kernel_rfl) (fun _ _ _ h => h) (Or.inl ⟨by rfl, ?_⟩) rfl (by assumption) ?_
          rotate_left
          focus (intro w9 hS9; go_simp; try with_reducible rfl)
          try simp only [Act.put, List.setIfInBounds_toArray, List.set_cons_zero, List.set_cons_succ]
          refine takeH_now (i := 3) (some 128) (v := ?_) rfl (by kernel_rfl) (by kernel_rfl) (by kernel_rfl) (fun _ _ _ h => h) (Or.inl ⟨by rfl, ?_⟩) rfl (by assumption) ?_
          rotate_left
          focus (intro w9 hS9; go_simp; try with_reducible rfl)
          try simp only [Act.put, List.setIfInBounds_toArray, List.set_cons_zero, List.set_cons_succ]
          refine takeH_now (i := 4) (some 129) (v := ?_) rfl (by kernel_rfl) (by kernel_rfl) (by kernel_rfl) (fun _ _ _ h => h) (Or.inl ⟨by rfl, ?_⟩) rfl (by assumption) ?_
          rotate_left
          focus (intro w9 hS9; have cC := hS9.2.1; have cL := hS9.2.2.1; have cK := hS9.2.2.2; clear hS9; go_simp; try with_reducible rfl)
          try simp only [Act.put, List.setIfInBounds_toArray, List.set_cons_zero, List.set_cons_succ]
          refine takeH_now (i := 6) (some 131) (v := ?_) rfl (by kernel_rfl) (by kernel_rfl) (by kernel_rfl) (fun _ _ _ h => h) (Or.inl ⟨by rfl, ?_⟩) rfl (by assumption) ?_
          rotate_left
          focus (intro w9 hS9; have cC := hS9.2.1; have cL := hS9.2.2.1; have cK := hS9.2.2.2; clear hS9; go_simp; try with_reducible rfl)
          try simp only [Act.put, List.setIfInBounds_toArray, List.set_cons_zero, List.set_cons_succ]
          refine wpAnyH_ready (rs := [5]) (by kernel_rfl) (by simp) ?_
          refine AllReadyH.cons (o := { dst := some 130, op := Op.call { callee := Callee.value (Operand.func 15), args := #[Operand.tmp 129], argTypes := #[24] }, type := 24, pos := "law.go:133", after := #[{ on := 4, ground := Ground.data }, { on := 3, ground := Ground.chain }, { on := 3, ground := Ground.guard }], guard := some (3, false) }) rfl (fun K' hK' => ?_) AllReadyH.nil
          rw [if_pos (by kernel_rfl)]
          go_simp
          refine (HNo.out _ hHeld.1).mono ?_
          rintro e wb ⟨B1, e1, B2, e2, rfl, rb1, rb2, hba⟩
          have Hrb := Lib.hid (And.intro rb1 rb2)
          have hHa := HK.out _ _ hHeld hba
          clear hHeld hba rb1 rb2
          refine hK'.out _ _ hHa (fun hHeld => ?_)
          clear hK' hHa
          try simp only [Act.put, List.setIfInBounds_toArray, List.set_cons_zero, List.set_cons_succ]
          refine wpAnyH_ready (rs := [7]) (by kernel_rfl) (by simp) ?_
          refine AllReadyH.cons (o := { dst := some 132, op := Op.call { callee := Callee.value (Operand.func 19), args := #[Operand.tmp 130, Operand.tmp 131], argTypes := #[24, 24] }, type := 4, pos := "law.go:133", after := #[{ on := 5, ground := Ground.data }, { on := 6, ground := Ground.data }, { on := 5, ground := Ground.chain }, { on := 3, ground := Ground.guard }], guard := some (3, false) }) rfl (fun K' hK' => ?_) AllReadyH.nil
          rw [if_pos (by kernel_rfl)]
          go_simp
          refine (HSa.out _ _ _ _ _ hHeld.1 Hrb.out.1 Hrb.out.2).mono ?_
          rintro e wc ⟨rfl, hba⟩
          have hHa := HK.out _ _ hHeld hba
          clear hHeld hba
          refine hK'.out _ _ hHa (fun hHeld => ?_)
          clear hK' hHa
          try simp only [Act.put, List.setIfInBounds_toArray, List.set_cons_zero, List.set_cons_succ]
          refine takeH_now (i := 8) (some 133) (v := ?_) rfl (by kernel_rfl) (by kernel_rfl) (by kernel_rfl) (fun _ _ _ h => h) (Or.inl ⟨by rfl, ?_⟩) rfl (by assumption) ?_
          rotate_left
          focus (intro w9 hS9; go_simp; try with_reducible rfl)
          try simp only [Act.put, List.setIfInBounds_toArray, List.set_cons_zero, List.set_cons_succ]
          refine takeH_now (i := 9) (some 2) (v := ?_) rfl (by kernel_rfl) (by kernel_rfl) (by kernel_rfl) (fun _ _ _ h => h) (Or.inl ⟨by rfl, ?_⟩) rfl (by assumption) ?_
          rotate_left
          focus (intro w9 hS9; go_simp; try with_reducible rfl)
          try simp only [Act.put, List.setIfInBounds_toArray, List.set_cons_zero, List.set_cons_succ]
          refine wpAnyH_done (by kernel_rfl) ?_ _
          have hend := HF.out _ hHeld.1
          clear hHeld
          go_wp2_with fail
          go_ret
          exact ⟨rfl, hend⟩
        · go_wp2
          refine wp_region_held_drew (S := fun W => Below W5.heap.size W5 W ∧ W.cell? ⟨w4.heap.size, 0, none⟩ = some (.slice A1 j c1) ∧ W.cell? ⟨w4.heap.size, 1, none⟩ = some (.slice A2 j c2) ∧ W.cell? ⟨w4.heap.size, 2, none⟩ = some (.int .i64 1)) (by kernel_rfl) Hst.out (fun hHeld => ?_)
          clear Hst
          refine takeH_now (i := 0) (some 125) (v := ?_) rfl (by kernel_rfl) (by kernel_rfl) (by kernel_rfl) (fun _ _ _ h => h) (Or.inl ⟨by rfl, ?_⟩) rfl (by assumption) ?_
          rotate_left
          focus (intro w9 hS9; have cC := hS9.2.1; have cL := hS9.2.2.1; have cK := hS9.2.2.2; clear hS9; go_simp; try with_reducible rfl)
          try simp only [Act.put, List.setIfInBounds_toArray, List.set_cons_zero, List.set_cons_succ]
          refine wpAnyH_ready (rs := [1]) (by kernel_rfl) (by simp) ?_
          refine AllReadyH.cons (o := { dst := some 126, op := Op.call { callee := Callee.value (Operand.func 17), args := #[Operand.tmp 125, Operand.const (Value.int IntKind.i64 65536)], argTypes := #[24, 3] }, type := 29, pos := "law.go:133", after := #[{ on := 0, ground := Ground.data }], guard := none }) rfl (fun K' hK' => ?_) AllReadyH.nil
          rw [if_pos (by kernel_rfl)]
          go_simp
          refine (hCk'.out _ hHeld.1).mono ?_
          rintro e wa ⟨rfl, hba⟩
          have hHa := HK.out _ _ hHeld hba
          clear hHeld hba
          refine hK'.out _ _ hHa (fun hHeld => ?_)
          clear hK' hHa
          try simp only [Act.put, List.setIfInBounds_toArray, List.set_cons_zero, List.set_cons_succ]
          refine takeH_now (i := 2) (some 127) (v := ?_) rfl (by kernel_rfl) (by kernel_rfl) (by kernel_rfl) (fun _ _ _ h => h) (Or.inl ⟨by rfl, ?_⟩) rfl (by assumption) ?_
          rotate_left
          focus (intro w9 hS9; go_simp; try with_reducible rfl)
          try simp only [Act.put, List.setIfInBounds_toArray, List.set_cons_zero, List.set_cons_succ]
          refine takeH_now (i := 3) (some 128) (v := ?_) rfl (by kernel_rfl) (by kernel_rfl) (by kernel_rfl) (fun _ _ _ h => h) (Or.inl ⟨by rfl, ?_⟩) rfl (by assumption) ?_
          rotate_left
          focus (intro w9 hS9; go_simp; try with_reducible rfl)
          try simp only [Act.put, List.setIfInBounds_toArray, List.set_cons_zero, List.set_cons_succ]
          refine takeH_now (i := 4) (some 129) (v := ?_) rfl (by kernel_rfl) (by kernel_rfl) (by kernel_rfl) (fun _ _ _ h => h) (Or.inl ⟨by rfl, ?_⟩) rfl (by assumption) ?_
          rotate_left
          focus (intro w9 hS9; have cC := hS9.2.1; have cL := hS9.2.2.1; have cK := hS9.2.2.2; clear hS9; go_simp; try with_reducible rfl)
          try simp only [Act.put, List.setIfInBounds_toArray, List.set_cons_zero, List.set_cons_succ]
          refine takeH_now (i := 6) (some 131) (v := ?_) rfl (by kernel_rfl) (by kernel_rfl) (by kernel_rfl) (fun _ _ _ h => h) (Or.inl ⟨by rfl, ?_⟩) rfl (by assumption) ?_
          rotate_left
          focus (intro w9 hS9; have cC := hS9.2.1; have cL := hS9.2.2.1; have cK := hS9.2.2.2; clear hS9; go_simp; try with_reducible rfl)
          try simp only [Act.put, List.setIfInBounds_toArray, List.set_cons_zero, List.set_cons_succ]
          refine wpAnyH_ready (rs := [5]) (by kernel_rfl) (by simp) ?_
          refine AllReadyH.cons (o := { dst := some 130, op := Op.call { callee := Callee.value (Operand.func 15), args := #[Operand.tmp 129], argTypes := #[24] }, type := 24, pos := "law.go:133", after := #[{ on := 4, ground := Ground.data }, { on := 3, ground := Ground.chain }, { on := 3, ground := Ground.guard }], guard := some (3, false) }) rfl (fun K' hK' => ?_) AllReadyH.nil
          rw [if_pos (by kernel_rfl)]
          go_simp
          refine (HNo.out _ hHeld.1).mono ?_
          rintro e wb ⟨B1, e1, B2, e2, rfl, rb1, rb2, hba⟩
          have Hrb := Lib.hid (And.intro rb1 rb2)
          have hHa := HK.out _ _ hHeld hba
          clear hHeld hba rb1 rb2
          refine hK'.out _ _ hHa (fun hHeld => ?_)
          clear hK' hHa
          try simp only [Act.put, List.setIfInBounds_toArray, List.set_cons_zero, List.set_cons_succ]
          refine wpAnyH_ready (rs := [7]) (by kernel_rfl) (by simp) ?_
          refine AllReadyH.cons (o := { dst := some 132, op := Op.call { callee := Callee.value (Operand.func 19), args := #[Operand.tmp 130, Operand.tmp 131], argTypes := #[24, 24] }, type := 4, pos := "law.go:133", after := #[{ on := 5, ground := Ground.data }, { on := 6, ground := Ground.data }, { on := 5, ground := Ground.chain }, { on := 3, ground := Ground.guard }], guard := some (3, false) }) rfl (fun K' hK' => ?_) AllReadyH.nil
          rw [if_pos (by kernel_rfl)]
          go_simp
          refine (HSa.out _ _ _ _ _ hHeld.1 Hrb.out.1 Hrb.out.2).mono ?_
          rintro e wc ⟨rfl, hba⟩
          have hHa := HK.out _ _ hHeld hba
          clear hHeld hba
          refine hK'.out _ _ hHa (fun hHeld => ?_)
          clear hK' hHa
          try simp only [Act.put, List.setIfInBounds_toArray, List.set_cons_zero, List.set_cons_succ]
          refine takeH_now (i := 8) (some 133) (v := ?_) rfl (by kernel_rfl) (by kernel_rfl) (by kernel_rfl) (fun _ _ _ h => h) (Or.inl ⟨by rfl, ?_⟩) rfl (by assumption) ?_
          rotate_left
          focus (intro w9 hS9; go_simp; try with_reducible rfl)
          try simp only [Act.put, List.setIfInBounds_toArray, List.set_cons_zero, List.set_cons_succ]
          refine takeH_now (i := 9) (some 2) (v := ?_) rfl (by kernel_rfl) (by kernel_rfl) (by kernel_rfl) (fun _ _ _ h => h) (Or.inl ⟨by rfl, ?_⟩) rfl (by assumption) ?_
          rotate_left
          focus (intro w9 hS9; go_simp; try with_reducible rfl)
          try simp only [Act.put, List.setIfInBounds_toArray, List.set_cons_zero, List.set_cons_succ]
          refine wpAnyH_done (by kernel_rfl) ?_ _
          have hend := HF.out _ hHeld.1
          clear hHeld
          go_wp2_with fail
          go_ret
          exact ⟨rfl, hend⟩
        · go_wp2
          refine wp_region_held_drew (S := fun W => Below W5.heap.size W5 W ∧ W.cell? ⟨w4.heap.size, 0, none⟩ = some (.slice A1 j c1) ∧ W.cell? ⟨w4.heap.size, 1, none⟩ = some (.slice A2 j c2) ∧ W.cell? ⟨w4.heap.size, 2, none⟩ = some (.int .i64 K)) (by kernel_rfl) Hst.out (fun hHeld => ?_)
          clear Hst
          refine takeH_now (i := 0) (some 125) (v := ?_) rfl (by kernel_rfl) (by kernel_rfl) (by kernel_rfl) (fun _ _ _ h => h) (Or.inl ⟨by rfl, ?_⟩) rfl (by assumption) ?_
          rotate_left
          focus (intro w9 hS9; have cC := hS9.2.1; have cL := hS9.2.2.1; have cK := hS9.2.2.2; clear hS9; go_simp; try with_reducible rfl)
          try simp only [Act.put, List.setIfInBounds_toArray, List.set_cons_zero, List.set_cons_succ]
          refine wpAnyH_ready (rs := [1]) (by kernel_rfl) (by simp) ?_
          refine AllReadyH.cons (o := { dst := some 126, op := Op.call { callee := Callee.value (Operand.func 17), args := #[Operand.tmp 125, Operand.const (Value.int IntKind.i64 65536)], argTypes := #[24, 3] }, type := 29, pos := "law.go:133", after := #[{ on := 0, ground := Ground.data }], guard := none }) rfl (fun K' hK' => ?_) AllReadyH.nil
          rw [if_pos (by kernel_rfl)]
          go_simp
          refine (hCk'.out _ hHeld.1).mono ?_
          rintro e wa ⟨rfl, hba⟩
          have hHa := HK.out _ _ hHeld hba
          clear hHeld hba
          refine hK'.out _ _ hHa (fun hHeld => ?_)
          clear hK' hHa
          try simp only [Act.put, List.setIfInBounds_toArray, List.set_cons_zero, List.set_cons_succ]
          refine takeH_now (i := 2) (some 127) (v := ?_) rfl (by kernel_rfl) (by kernel_rfl) (by kernel_rfl) (fun _ _ _ h => h) (Or.inl ⟨by rfl, ?_⟩) rfl (by assumption) ?_
          rotate_left
          focus (intro w9 hS9; go_simp; try with_reducible rfl)
          try simp only [Act.put, List.setIfInBounds_toArray, List.set_cons_zero, List.set_cons_succ]
          refine takeH_now (i := 3) (some 128) (v := ?_) rfl (by kernel_rfl) (by kernel_rfl) (by kernel_rfl) (fun _ _ _ h => h) (Or.inl ⟨by rfl, ?_⟩) rfl (by assumption) ?_
          rotate_left
          focus (intro w9 hS9; go_simp; try with_reducible rfl)
          try simp only [Act.put, List.setIfInBounds_toArray, List.set_cons_zero, List.set_cons_succ]
          refine takeH_now (i := 4) (some 129) (v := ?_) rfl (by kernel_rfl) (by kernel_rfl) (by kernel_rfl) (fun _ _ _ h => h) (Or.inl ⟨by rfl, ?_⟩) rfl (by assumption) ?_
          rotate_left
          focus (intro w9 hS9; have cC := hS9.2.1; have cL := hS9.2.2.1; have cK := hS9.2.2.2; clear hS9; go_simp; try with_reducible rfl)
          try simp only [Act.put, List.setIfInBounds_toArray, List.set_cons_zero, List.set_cons_succ]
          refine takeH_now (i := 6) (some 131) (v := ?_) rfl (by kernel_rfl) (by kernel_rfl) (by kernel_rfl) (fun _ _ _ h => h) (Or.inl ⟨by rfl, ?_⟩) rfl (by assumption) ?_
          rotate_left
          focus (intro w9 hS9; have cC := hS9.2.1; have cL := hS9.2.2.1; have cK := hS9.2.2.2; clear hS9; go_simp; try with_reducible rfl)
          try simp only [Act.put, List.setIfInBounds_toArray, List.set_cons_zero, List.set_cons_succ]
          refine wpAnyH_ready (rs := [5]) (by kernel_rfl) (by simp) ?_
          refine AllReadyH.cons (o := { dst := some 130, op := Op.call { callee := Callee.value (Operand.func 15), args := #[Operand.tmp 129], argTypes := #[24] }, type := 24, pos := "law.go:133", after := #[{ on := 4, ground := Ground.data }, { on := 3, ground := Ground.chain }, { on := 3, ground := Ground.guard }], guard := some (3, false) }) rfl (fun K' hK' => ?_) AllReadyH.nil
          rw [if_pos (by kernel_rfl)]
          go_simp
          refine (HNo.out _ hHeld.1).mono ?_
          rintro e wb ⟨B1, e1, B2, e2, rfl, rb1, rb2, hba⟩
          have Hrb := Lib.hid (And.intro rb1 rb2)
          have hHa := HK.out _ _ hHeld hba
          clear hHeld hba rb1 rb2
          refine hK'.out _ _ hHa (fun hHeld => ?_)
          clear hK' hHa
          try simp only [Act.put, List.setIfInBounds_toArray, List.set_cons_zero, List.set_cons_succ]
          refine wpAnyH_ready (rs := [7]) (by kernel_rfl) (by simp) ?_
          refine AllReadyH.cons (o := { dst := some 132, op := Op.call { callee := Callee.value (Operand.func 19), args := #[Operand.tmp 130, Operand.tmp 131], argTypes := #[24, 24] }, type := 4, pos := "law.go:133", after := #[{ on := 5, ground := Ground.data }, { on := 6, ground := Ground.data }, { on := 5, ground := Ground.chain }, { on := 3, ground := Ground.guard }], guard := some (3, false) }) rfl (fun K' hK' => ?_) AllReadyH.nil
          rw [if_pos (by kernel_rfl)]
          go_simp
          refine (HSa.out _ _ _ _ _ hHeld.1 Hrb.out.1 Hrb.out.2).mono ?_
          rintro e wc ⟨rfl, hba⟩
          have hHa := HK.out _ _ hHeld hba
          clear hHeld hba
          refine hK'.out _ _ hHa (fun hHeld => ?_)
          clear hK' hHa
          try simp only [Act.put, List.setIfInBounds_toArray, List.set_cons_zero, List.set_cons_succ]
          refine takeH_now (i := 8) (some 133) (v := ?_) rfl (by kernel_rfl) (by kernel_rfl) (by kernel_rfl) (fun _ _ _ h => h) (Or.inl ⟨by rfl, ?_⟩) rfl (by assumption) ?_
          rotate_left
          focus (intro w9 hS9; go_simp; try with_reducible rfl)
          try simp only [Act.put, List.setIfInBounds_toArray, List.set_cons_zero, List.set_cons_succ]
          refine takeH_now (i := 9) (some 2) (v := ?_) rfl (by kernel_rfl) (by kernel_rfl) (by kernel_rfl) (fun _ _ _ h => h) (Or.inl ⟨by rfl, ?_⟩) rfl (by assumption) ?_
          rotate_left
          focus (intro w9 hS9; go_simp; try with_reducible rfl)
          try simp only [Act.put, List.setIfInBounds_toArray, List.set_cons_zero, List.set_cons_succ]
          refine wpAnyH_done (by kernel_rfl) ?_ _
          have hend := HF.out _ hHeld.1
          clear hHeld
          go_wp2_with fail
          go_ret
          exact ⟨rfl, hend⟩
      · have hCk' := Lib.hid (fun W h => (hCk W h).2 hok)
        clear hCk hok HX HC HM HSu
        rcases key with ⟨k1, k2, k5, k6, rfl | rfl⟩ | ⟨k1, k2, k5, k6, k3, k4⟩
        · go_wp2
          refine wp_region_held_drew (S := fun W => Below W5.heap.size W5 W ∧ W.cell? ⟨w4.heap.size, 0, none⟩ = some (.slice A1 j c1) ∧ W.cell? ⟨w4.heap.size, 1, none⟩ = some (.slice A2 j c2) ∧ W.cell? ⟨w4.heap.size, 2, none⟩ = some (.int .i64 0)) (by kernel_rfl) Hst.out (fun hHeld => ?_)
          clear Hst
          refine takeH_now (i := 0) (some 125) (v := ?_) rfl (by kernel_rfl) (by kernel_rfl) (by kernel_rfl) (fun _ _ _ h => h) (Or.inl ⟨by rfl, ?_⟩) rfl (by assumption) ?_
          rotate_left
          focus (intro w9 hS9; have cC := hS9.2.1; have cL := hS9.2.2.1; have cK := hS9.2.2.2; clear hS9; go_simp; try with_reducible rfl)
          try simp only [Act.put, List.setIfInBounds_toArray, List.set_cons_zero, List.set_cons_succ]
          refine wpAnyH_ready (rs := [1]) (by kernel_rfl) (by simp) ?_
          refine AllReadyH.cons (o := { dst := some 126, op := Op.call { callee := Callee.value (Operand.func 17), args := #[Operand.tmp 125, Operand.const (Value.int IntKind.i64 65536)], argTypes := #[24, 3] }, type := 29, pos := "law.go:133", after := #[{ on := 0, ground := Ground.data }], guard := none }) rfl (fun K' hK' => ?_) AllReadyH.nil
          rw [if_pos (by kernel_rfl)]
          go_simp
          refine (hCk'.out _ hHeld.1).mono ?_
          rintro e wa ⟨rfl, hba⟩
          have hHa := HK.out _ _ hHeld hba
          clear hHeld hba
          refine hK'.out _ _ hHa (fun hHeld => ?_)
          clear hK' hHa
          try simp only [Act.put, List.setIfInBounds_toArray, List.set_cons_zero, List.set_cons_succ]
          refine takeH_now (i := 2) (some 127) (v := ?_) rfl (by kernel_rfl) (by kernel_rfl) (by kernel_rfl) (fun _ _ _ h => h) (Or.inl ⟨by rfl, ?_⟩) rfl (by assumption) ?_
          rotate_left
          focus (intro w9 hS9; go_simp; try with_reducible rfl)
          try simp only [Act.put, List.setIfInBounds_toArray, List.set_cons_zero, List.set_cons_succ]
          refine takeH_now (i := 3) (some 128) (v := ?_) rfl (by kernel_rfl) (by kernel_rfl) (by kernel_rfl) (fun _ _ _ h => h) (Or.inl ⟨by rfl, ?_⟩) rfl (by assumption) ?_
          rotate_left
          focus (intro w9 hS9; go_simp; try with_reducible rfl)
          try simp only [Act.put, List.setIfInBounds_toArray, List.set_cons_zero, List.set_cons_succ]
          refine takeH_now (i := 4) (some 129) (v := undef) rfl (by kernel_rfl) (by kernel_rfl) (by kernel_rfl) (fun _ _ _ h => h) (Or.inr ⟨by rfl, rfl⟩) rfl (by assumption) ?_
          try simp only [Act.put, List.setIfInBounds_toArray, List.set_cons_zero, List.set_cons_succ]
          refine takeH_now (i := 5) (some 130) (v := undef) rfl (by kernel_rfl) (by kernel_rfl) (by kernel_rfl) (fun _ _ _ h => h) (Or.inr ⟨by rfl, rfl⟩) rfl (by assumption) ?_
          try simp only [Act.put, List.setIfInBounds_toArray, List.set_cons_zero, List.set_cons_succ]
          refine takeH_now (i := 6) (some 131) (v := undef) rfl (by kernel_rfl) (by kernel_rfl) (by kernel_rfl) (fun _ _ _ h => h) (Or.inr ⟨by rfl, rfl⟩) rfl (by assumption) ?_
          try simp only [Act.put, List.setIfInBounds_toArray, List.set_cons_zero, List.set_cons_succ]
          refine takeH_now (i := 7) (some 132) (v := undef) rfl (by kernel_rfl) (by kernel_rfl) (by kernel_rfl) (fun _ _ _ h => h) (Or.inr ⟨by rfl, rfl⟩) rfl (by assumption) ?_
          try simp only [Act.put, List.setIfInBounds_toArray, List.set_cons_zero, List.set_cons_succ]
          refine takeH_now (i := 8) (some 133) (v := ?_) rfl (by kernel_rfl) (by kernel_rfl) (by kernel_rfl) (fun _ _ _ h => h) (Or.inl ⟨by rfl, ?_⟩) rfl (by assumption) ?_
          rotate_left
          focus (intro w9 hS9; go_simp; try with_reducible rfl)
          try simp only [Act.put, List.setIfInBounds_toArray, List.set_cons_zero, List.set_cons_succ]
          refine takeH_now (i := 9) (some 2) (v := ?_) rfl (by kernel_rfl) (by kernel_rfl) (by kernel_rfl) (fun _ _ _ h => h) (Or.inl ⟨by rfl, ?_⟩) rfl (by assumption) ?_
          rotate_left
          focus (intro w9 hS9; go_simp; try with_reducible rfl)
          try simp only [Act.put, List.setIfInBounds_toArray, List.set_cons_zero, List.set_cons_succ]
          refine wpAnyH_done (by kernel_rfl) ?_ _
          have hend := HF.out _ hHeld.1
          clear hHeld
          go_wp2_with fail
          go_ret
          exact ⟨rfl, hend⟩
        · go_wp2
          refine wp_region_held_drew (S := fun W => Below W5.heap.size W5 W ∧ W.cell? ⟨w4.heap.size, 0, none⟩ = some (.slice A1 j c1) ∧ W.cell? ⟨w4.heap.size, 1, none⟩ = some (.slice A2 j c2) ∧ W.cell? ⟨w4.heap.size, 2, none⟩ = some (.int .i64 1)) (by kernel_rfl) Hst.out (fun hHeld => ?_)
          clear Hst
          refine takeH_now (i := 0) (some 125) (v := ?_) rfl (by kernel_rfl) (by kernel_rfl) (by kernel_rfl) (fun _ _ _ h => h) (Or.inl ⟨by rfl, ?_⟩) rfl (by assumption) ?_
          rotate_left
          focus (intro w9 hS9; have cC := hS9.2.1; have cL := hS9.2.2.1; have cK := hS9.2.2.2; clear hS9; go_simp; try with_reducible rfl)
          try simp only [Act.put, List.setIfInBounds_toArray, List.set_cons_zero, List.set_cons_succ]
          refine wpAnyH_ready (rs := [1]) (by kernel_rfl) (by simp) ?_
          refine AllReadyH.cons (o := { dst := some 126, op := Op.call { callee := Callee.value (Operand.func 17), args := #[Operand.tmp 125, Operand.const (Value.int IntKind.i64 65536)], argTypes := #[24, 3] }, type := 29, pos := "law.go:133", after := #[{ on := 0, ground := Ground.data }], guard := none }) rfl (fun K' hK' => ?_) AllReadyH.nil
          rw [if_pos (by kernel_rfl)]
          go_simp
          refine (hCk'.out _ hHeld.1).mono ?_
          rintro e wa ⟨rfl, hba⟩
          have hHa := HK.out _ _ hHeld hba
          clear hHeld hba
          refine hK'.out _ _ hHa (fun hHeld => ?_)
          clear hK' hHa
          try simp only [Act.put, List.setIfInBounds_toArray, List.set_cons_zero, List.set_cons_succ]
          refine takeH_now (i := 2) (some 127) (v := ?_) rfl (by kernel_rfl) (by kernel_rfl) (by kernel_rfl) (fun _ _ _ h => h) (Or.inl ⟨by rfl, ?_⟩) rfl (by assumption) ?_
          rotate_left
          focus (intro w9 hS9; go_simp; try with_reducible rfl)
          try simp only [Act.put, List.setIfInBounds_toArray, List.set_cons_zero, List.set_cons_succ]
          refine takeH_now (i := 3) (some 128) (v := ?_) rfl (by kernel_rfl) (by kernel_rfl) (by kernel_rfl) (fun _ _ _ h => h) (Or.inl ⟨by rfl, ?_⟩) rfl (by assumption) ?_
          rotate_left
          focus (intro w9 hS9; go_simp; try with_reducible rfl)
          try simp only [Act.put, List.setIfInBounds_toArray, List.set_cons_zero, List.set_cons_succ]
          refine takeH_now (i := 4) (some 129) (v := undef) rfl (by kernel_rfl) (by kernel_rfl) (by kernel_rfl) (fun _ _ _ h => h) (Or.inr ⟨by rfl, rfl⟩) rfl (by assumption) ?_
          try simp only [Act.put, List.setIfInBounds_toArray, List.set_cons_zero, List.set_cons_succ]
          refine takeH_now (i := 5) (some 130) (v := undef) rfl (by kernel_rfl) (by kernel_rfl) (by kernel_rfl) (fun _ _ _ h => h) (Or.inr ⟨by rfl, rfl⟩) rfl (by assumption) ?_
          try simp only [Act.put, List.setIfInBounds_toArray, List.set_cons_zero, List.set_cons_succ]
          refine takeH_now (i := 6) (some 131) (v := undef) rfl (by kernel_rfl) (by kernel_rfl) (by kernel_rfl) (fun _ _ _ h => h) (Or.inr ⟨by rfl, rfl⟩) rfl (by assumption) ?_
          try simp only [Act.put, List.setIfInBounds_toArray, List.set_cons_zero, List.set_cons_succ]
          refine takeH_now (i := 7) (some 132) (v := undef) rfl (by kernel_rfl) (by kernel_rfl) (by kernel_rfl) (fun _ _ _ h => h) (Or.inr ⟨by rfl, rfl⟩) rfl (by assumption) ?_
          try simp only [Act.put, List.setIfInBounds_toArray, List.set_cons_zero, List.set_cons_succ]
          refine takeH_now (i := 8) (some 133) (v := ?_) rfl (by kernel_rfl) (by kernel_rfl) (by kernel_rfl) (fun _ _ _ h => h) (Or.inl ⟨by rfl, ?_⟩) rfl (by assumption) ?_
          rotate_left
          focus (intro w9 hS9; go_simp; try with_reducible rfl)
          try simp only [Act.put, List.setIfInBounds_toArray, List.set_cons_zero, List.set_cons_succ]
          refine takeH_now (i := 9) (some 2) (v := ?_) rfl (by kernel_rfl) (by kernel_rfl) (by kernel_rfl) (fun _ _ _ h => h) (Or.inl ⟨by rfl, ?_⟩) rfl (by assumption) ?_
          rotate_left
          focus (intro w9 hS9; go_simp; try with_reducible rfl)
          try simp only [Act.put, List.setIfInBounds_toArray, List.set_cons_zero, List.set_cons_succ]
          refine wpAnyH_done (by kernel_rfl) ?_ _
          have hend := HF.out _ hHeld.1
          clear hHeld
          go_wp2_with fail
          go_ret
          exact ⟨rfl, hend⟩
        · go_wp2
          refine wp_region_held_drew (S := fun W => Below W5.heap.size W5 W ∧ W.cell? ⟨w4.heap.size, 0, none⟩ = some (.slice A1 j c1) ∧ W.cell? ⟨w4.heap.size, 1, none⟩ = some (.slice A2 j c2) ∧ W.cell? ⟨w4.heap.size, 2, none⟩ = some (.int .i64 K)) (by kernel_rfl) Hst.out (fun hHeld => ?_)
          clear Hst
          refine takeH_now (i := 0) (some 125) (v := ?_) rfl (by kernel_rfl) (by kernel_rfl) (by kernel_rfl) (fun _ _ _ h => h) (Or.inl ⟨by rfl, ?_⟩) rfl (by assumption) ?_
          rotate_left
          focus (intro w9 hS9; have cC := hS9.2.1; have cL := hS9.2.2.1; have cK := hS9.2.2.2; clear hS9; go_simp; try with_reducible rfl)
          try simp only [Act.put, List.setIfInBounds_toArray, List.set_cons_zero, List.set_cons_succ]
          refine wpAnyH_ready (rs := [1]) (by kernel_rfl) (by simp) ?_
          refine AllReadyH.cons (o := { dst := some 126, op := Op.call { callee := Callee.value (Operand.func 17), args := #[Operand.tmp 125, Operand.const (Value.int IntKind.i64 65536)], argTypes := #[24, 3] }, type := 29, pos := "law.go:133", after := #[{ on := 0, ground := Ground.data }], guard := none }) rfl (fun K' hK' => ?_) AllReadyH.nil
          rw [if_pos (by kernel_rfl)]
          go_simp
          refine (hCk'.out _ hHeld.1).mono ?_
          rintro e wa ⟨rfl, hba⟩
          have hHa := HK.out _ _ hHeld hba
          clear hHeld hba
          refine hK'.out _ _ hHa (fun hHeld => ?_)
          clear hK' hHa
          try simp only [Act.put, List.setIfInBounds_toArray, List.set_cons_zero, List.set_cons_succ]
          refine takeH_now (i := 2) (some 127) (v := ?_) rfl (by kernel_rfl) (by kernel_rfl) (by kernel_rfl) (fun _ _ _ h => h) (Or.inl ⟨by rfl, ?_⟩) rfl (by assumption) ?_
          rotate_left
          focus (intro w9 hS9; go_simp; try with_reducible rfl)
          try simp only [Act.put, List.setIfInBounds_toArray, List.set_cons_zero, List.set_cons_succ]
          refine takeH_now (i := 3) (some 128) (v := ?_) rfl (by kernel_rfl) (by kernel_rfl) (by kernel_rfl) (fun _ _ _ h => h) (Or.inl ⟨by rfl, ?_⟩) rfl (by assumption) ?_
          rotate_left
          focus (intro w9 hS9; go_simp; try with_reducible rfl)
          try simp only [Act.put, List.setIfInBounds_toArray, List.set_cons_zero, List.set_cons_succ]
          refine takeH_now (i := 4) (some 129) (v := undef) rfl (by kernel_rfl) (by kernel_rfl) (by kernel_rfl) (fun _ _ _ h => h) (Or.inr ⟨by rfl, rfl⟩) rfl (by assumption) ?_
          try simp only [Act.put, List.setIfInBounds_toArray, List.set_cons_zero, List.set_cons_succ]
          refine takeH_now (i := 5) (some 130) (v := undef) rfl (by kernel_rfl) (by kernel_rfl) (by kernel_rfl) (fun _ _ _ h => h) (Or.inr ⟨by rfl, rfl⟩) rfl (by assumption) ?_
          try simp only [Act.put, List.setIfInBounds_toArray, List.set_cons_zero, List.set_cons_succ]
          refine takeH_now (i := 6) (some 131) (v := undef) rfl (by kernel_rfl) (by kernel_rfl) (by kernel_rfl) (fun _ _ _ h => h) (Or.inr ⟨by rfl, rfl⟩) rfl (by assumption) ?_
          try simp only [Act.put, List.setIfInBounds_toArray, List.set_cons_zero, List.set_cons_succ]
          refine takeH_now (i := 7) (some 132) (v := undef) rfl (by kernel_rfl) (by kernel_rfl) (by kernel_rfl) (fun _ _ _ h => h) (Or.inr ⟨by rfl, rfl⟩) rfl (by assumption) ?_
          try simp only [Act.put, List.setIfInBounds_toArray, List.set_cons_zero, List.set_cons_succ]
          refine takeH_now (i := 8) (some 133) (v := ?_) rfl (by kernel_rfl) (by kernel_rfl) (by kernel_rfl) (fun _ _ _ h => h) (Or.inl ⟨by rfl, ?_⟩) rfl (by assumption) ?_
          rotate_left
          focus (intro w9 hS9; go_simp; try with_reducible rfl)
          try simp only [Act.put, List.setIfInBounds_toArray, List.set_cons_zero, List.set_cons_succ]
          refine takeH_now (i := 9) (some 2) (v := ?_) rfl (by kernel_rfl) (by kernel_rfl) (by kernel_rfl) (fun _ _ _ h => h) (Or.inl ⟨by rfl, ?_⟩) rfl (by assumption) ?_
          rotate_left
          focus (intro w9 hS9; go_simp; try with_reducible rfl)
          try simp only [Act.put, List.setIfInBounds_toArray, List.set_cons_zero, List.set_cons_succ]
          refine wpAnyH_done (by kernel_rfl) ?_ _
          have hend := HF.out _ hHeld.1
          clear hHeld
          go_wp2_with fail
          go_ret
          exact ⟨rfl, hend⟩
theorem ncan_any (AC AL : Option Addr) (n1 n2 cc lc : Nat) (k : Int) (cs ls : List Int) (w : World) (hc : RdI w.heap.size w AC cs) (hr : RdI w.heap.size w AL ls) (hl1 : cs.length = n1) (hl2 : ls.length = n2) :
    Calls Try.prog 7 #[.agg #[.slice AC n1 cc, .slice AL n2 lc, .int .i64 k]] w fun e w' => e = .returned (.bool true) ∧ Below w.heap.size w w' := by
  by_cases h : n1 ≤ 60 ∧ n2 ≤ 60
  · exact ncan_main AC AL n1 n2 cc lc k cs ls w hc hr hl1 hl2 h
  · exact ncan_out AC AL n1 n2 cc lc k w h
end Go.Proofs.Ytoacfjmefoiflaa
