/- The walk of the law LinNormEquivalent. -/
import Derived.Test.YtoacfjmefoiflaaTruths
import Derived.Deep.RegionHeld
namespace Go.Proofs.Ytoacfjmefoiflaa
open Go.ChangeShapes Go.WideShapes Go.ChangeAt Go.RowKit
set_option maxRecDepth 100000

set_option maxHeartbeats 4000000 in
theorem neq_few (AC AL : Option Addr) (n1 n2 cc lc : Nat) (k : Int) (w : World) (h : ¬ (n1 ≤ 60 ∧ n2 ≤ 60)) :
    Calls Try.prog 6 #[.agg #[.slice AC n1 cc, .slice AL n2 lc, .int .i64 k]] w fun e w' => e = .returned (.bool true) ∧ Below w.heap.size w w' := by
  obtain ⟨W1, hW1⟩ : ∃ W, W = w.alloc (.cells #[.slice AC n1 cc, .slice AL n2 lc, .int .i64 k] 24) := ⟨_, rfl⟩
  have hb1 : Below w.heap.size w W1 := by rw [hW1]; exact (Below.refl _ _).alloc (Nat.le_refl _) _
  have hat : LinAt W1 w.heap.size (.slice AC n1 cc) (.slice AL n2 lc) k 24 := by rw [hW1]; exact heap_alloc_new _ _
  have hF := fun W => few_any AC AL n1 n2 cc lc k W
  rw [decide_eq_false h] at hF
  have HF := Lib.hid hF
  have HW := Lib.hid hW1
  have HA := Lib.hid hat
  have hs1 := hb1.size
  clear hW1 hat hF h
  go_enter Try.func6, Try.ntmps6
  go_wp2_with fail
  rw [← HW.out]
  clear HW
  refine (live_any W1).mono ?_
  rintro e w2 ⟨rfl, hb2⟩
  obtain ⟨cC, cL, cK⟩ := (HA.out.below hb2).cells
  have hb12 := hb1.trans (hb2.mono hs1)
  have hs2 := hb2.size
  clear hb2 HA
  go_wp2_with fail
  refine (HF.out w2).mono ?_
  rintro e w3 ⟨rfl, hb3⟩
  have fin := Lib.hid (hb12.trans (hb3.mono hb12.size))
  clear HF cC cL cK hb3 hb12
  go_wp2_with fail
  go_ret
  exact ⟨rfl, fin.out⟩
set_option maxHeartbeats 4000000 in
theorem neq_no (AC AL : Option Addr) (n1 n2 cc lc : Nat) (k : Int) (cs ls : List Int) (w : World) (hc : RdI w.heap.size w AC cs) (hr : RdI w.heap.size w AL ls) (hl1 : cs.length = n1) (hl2 : ls.length = n2) (h : n1 ≤ 60 ∧ n2 ≤ 60) (hok : ¬ OkL cs ls k 8) :
    Calls Try.prog 6 #[.agg #[.slice AC n1 cc, .slice AL n2 lc, .int .i64 k]] w fun e w' => e = .returned (.bool true) ∧ Below w.heap.size w w' := by
  obtain ⟨W1, hW1⟩ : ∃ W, W = w.alloc (.cells #[.slice AC n1 cc, .slice AL n2 lc, .int .i64 k] 24) := ⟨_, rfl⟩
  have hb1 : Below w.heap.size w W1 := by rw [hW1]; exact (Below.refl _ _).alloc (Nat.le_refl _) _
  have hat : LinAt W1 w.heap.size (.slice AC n1 cc) (.slice AL n2 lc) k 24 := by rw [hW1]; exact heap_alloc_new _ _
  have hF := fun W => few_any AC AL n1 n2 cc lc k W
  rw [decide_eq_true h] at hF
  have HF := Lib.hid hF
  have HCk := Lib.hid (fun W (h : Below w.heap.size w W) => (LinCheck_any w.heap.size AC AL n1 n2 cc lc k 8 cs ls W (hc.below h (Nat.le_refl _)) (hr.below h (Nat.le_refl _)) h.size hl1 hl2 (by omega) (by omega) (by omega)).2 hok)
  have HW := Lib.hid hW1
  have HA := Lib.hid hat
  have hs1 := hb1.size
  clear hW1 hat hF h hc hr hl1 hl2 hok
  go_enter Try.func6, Try.ntmps6
  go_wp2_with fail
  rw [← HW.out]
  clear HW
  refine (live_any W1).mono ?_
  rintro e w2 ⟨rfl, hb2⟩
  have H2 := Lib.hid (HA.out.below hb2)
  obtain ⟨cC, cL, cK⟩ := H2.out.cells
  have hb12 := hb1.trans (hb2.mono hs1)
  have hs2 := hb2.size
  clear hb2 HA
  go_wp2_with fail
  refine (HF.out w2).mono ?_
  rintro e w3 ⟨rfl, hb3⟩
  obtain ⟨cC, cL, cK⟩ := (H2.out.below hb3).cells
  have hb13 := hb12.trans (hb3.mono hb12.size)
  clear HF H2 hb3 hb12
  go_wp2_with fail
  refine (HCk.out w3 hb13).mono ?_
  rintro e w4 ⟨rfl, hb4⟩
  have fin := Lib.hid (hb13.trans (hb4.mono hb13.size))
  clear HCk cC cL cK hb4 hb13
  go_wp2_with fail
  go_ret
  exact ⟨rfl, fin.out⟩

theorem Lit_of8 {z : Int} (h : z ≠ 0 ∧ -8 ≤ z ∧ z ≤ 8) : Lit 9 z := ⟨h.1, by omega, by omega⟩
set_option maxHeartbeats 16000000 in
theorem neq_main (AC AL : Option Addr) (n cc lc : Nat) (k : Int) (cs ls : List Int) (w : World) (hc : RdI w.heap.size w AC cs) (hr : RdI w.heap.size w AL ls) (hl1 : cs.length = n) (hl2 : ls.length = n) (hn : n ≤ 60) (hok : OkL cs ls k 8) :
    Calls Try.prog 6 #[.agg #[.slice AC n cc, .slice AL n lc, .int .i64 k]] w fun e w' => e = .returned (.bool true) ∧ Below w.heap.size w w' := by
  obtain ⟨W1, hW1⟩ : ∃ W, W = w.alloc (.cells #[.slice AC n cc, .slice AL n lc, .int .i64 k] 24) := ⟨_, rfl⟩
  have hb1 : Below w.heap.size w W1 := by rw [hW1]; exact (Below.refl _ _).alloc (Nat.le_refl _) _
  have hat : LinAt W1 w.heap.size (.slice AC n cc) (.slice AL n lc) k 24 := by rw [hW1]; exact heap_alloc_new _ _
  have hF := fun W => few_any AC AL n n cc lc k W
  rw [decide_eq_true ⟨hn, hn⟩] at hF
  have HF := Lib.hid hF
  have HCk := Lib.hid (fun W (h : Below w.heap.size w W) => (LinCheck_any w.heap.size AC AL n n cc lc k 8 cs ls W (hc.below h (Nat.le_refl _)) (hr.below h (Nat.le_refl _)) h.size hl1 hl2 (by omega) (by omega) (by omega)).1 hok)
  have HNm := Lib.hid (fun W (h : Below w.heap.size w W) => norm_fn w.heap.size n cc lc AC AL k cs ls W (hc.below h (Nat.le_refl _)) (hr.below h (Nat.le_refl _)) h.size hl1 hl2 (by omega) hok.up)
  have hCan := canon cs ls k 8 (by omega) (by omega) hok.cs hok.ls
  have hCl : (nC cs ls k).length ≤ 60 := by have := norm_len cs ls k; omega
  have hmean : ∀ a : List Bool, (nK cs ls k ≤ wsum a (nC cs ls k) (nL cs ls k)) ↔ k ≤ wsum a cs ls := fun a => norm_means a cs ls (vsOf ls) k 70368744177664 (by omega) (vsOf_pw ls) (fun x => vsOf_mem x ls) (fun z hz => (hok.ls z hz).1) (fun z => by
    have := tot_bound 1099511627776 (by omega) cs ls z hok.cs
    omega)
  have HW := Lib.hid hW1
  have HA := Lib.hid hat
  have HC := Lib.hid (And.intro hCan (And.intro hCl hmean))
  have HL := Lib.hid (And.intro (And.intro hc hr) (And.intro hl1 (And.intro hl2 hok)))
  have hs1 := hb1.size
  clear hW1 hat hF hCan hCl hmean hc hr hl1 hl2 hok
  go_enter Try.func6, Try.ntmps6
  go_wp2_with fail
  rw [← HW.out]
  clear HW
  refine (live_any W1).mono ?_
  rintro e w2 ⟨rfl, hb2⟩
  have H2 := Lib.hid (HA.out.below hb2)
  obtain ⟨cC, cL, cK⟩ := H2.out.cells
  have hb12 := hb1.trans (hb2.mono hs1)
  have hs2 := hb2.size
  clear hb2 HA
  go_wp2_with fail
  refine (HF.out w2).mono ?_
  rintro e w3 ⟨rfl, hb3⟩
  have H3 := Lib.hid (H2.out.below hb3)
  obtain ⟨cC, cL, cK⟩ := H3.out.cells
  have hb13 := hb12.trans (hb3.mono hb12.size)
  clear HF H2 hb3 hb12
  go_wp2_with fail
  refine (HCk.out w3 hb13).mono ?_
  rintro e w4 ⟨rfl, hb4⟩
  have H4 := Lib.hid (H3.out.below hb4)
  obtain ⟨cC, cL, cK⟩ := H4.out.cells
  have hb14 := hb13.trans (hb4.mono hb13.size)
  clear HCk H3 hb4 hb13
  have hN := Lib.hid (HNm.out w4 hb14)
  clear HNm
  go_wp2_with fail
  refine hN.out.mono ?_
  rintro e w5 ⟨A1, c1, A2, c2, rfl, q1, q2, _, hb5⟩
  have H5 := Lib.hid (And.intro (H4.out.below hb5) (hb14.trans (hb5.mono hb14.size)))
  clear hN cC cL cK hb5 hb14 H4
  obtain ⟨C, hC⟩ : ∃ C, nC cs ls k = C := ⟨_, rfl⟩
  obtain ⟨L, hL⟩ : ∃ L, nL cs ls k = L := ⟨_, rfl⟩
  obtain ⟨K, hK⟩ : ∃ K, nK cs ls k = K := ⟨_, rfl⟩
  rw [hC, hL, hK] at HC
  rw [hC] at q1
  rw [hL] at q2
  rw [hC, hL, hK]
  obtain ⟨M, hM⟩ : ∃ M, C.length = M := ⟨_, rfl⟩
  have hM' : L.length = M := by rw [← HC.out.1.len]; exact hM
  rw [hM] at q1 ⊢
  rw [hM'] at q2 ⊢
  have hMn : M ≤ 60 := by rw [← hM]; exact HC.out.2.1
  obtain ⟨_, _, x1, _, rd1⟩ := q1.shape
  obtain ⟨_, _, x2, _, rd2⟩ := q2.shape
  injection x1 with x1 x1n x1c
  injection x2 with x2 x2n x2c
  clear x1n x1c x2n x2c
  subst x1
  subst x2
  obtain ⟨W6, hW6, kx, hb6⟩ := KL.new (n := M) (c := c1) (m := M) (d := c2) (k := K) rd1 rd2
  have HW := Lib.hid hW6
  have HM := Lib.hid (And.intro hM hM')
  have hlt5 : w.heap.size < w5.heap.size := H5.out.1.lt
  have hs6 : W6.heap.size = w5.heap.size + 1 := by rw [hW6]; simp
  have HX := Lib.hid (And.intro kx (And.intro (H5.out.1.below hb6) (H5.out.2.trans (hb6.mono H5.out.2.size))))
  obtain ⟨cC, cL, cK⟩ := HX.out.2.1.cells
  obtain ⟨xC, xL, xK⟩ := kx.1.cells
  have e1 : ((M : Int) != (M : Int)) = false := by simp
  rw [hW6] at cC cL cK xC xL xK
  clear hC hL hK rd1 rd2 hW6 kx hb6 hM hM' q1 q2 H5
  go_wp2_with fail
  rw [← HW.out]
  rw [← HW.out] at cC cL cK xC xL xK
  clear HW
  go_loopw [4] (fun i wr => ∃ j : Nat, j ≤ M ∧ i = .int .i64 j ∧ W6 = wr) (fun i _ => M - (intOf i).toNat)
  case atStart => exact ⟨0, by omega, rfl, rfl⟩
  case round =>
    obtain ⟨j, hj, rfl, rfl⟩ := hrel
    by_cases hlt : j < M
    · have hjl : j < L.length := by rw [HM.out.2]; exact hlt
      obtain ⟨b2, o2, hA2, _, q2⟩ := HX.out.1.2.2.2 (by omega)
      have hz1 := q2 j hjl
      have hzp := HC.out.1.lit (L[j]?.getD 0) (by rw [List.getElem?_eq_getElem hjl]; exact List.getElem_mem _)
      clear q2 hjl
      generalize L[j]?.getD 0 = z at *
      obtain ⟨z1, z2, z3⟩ := hzp
      have f1 : (z == 0) = false := by simpa using z1
      have f2 : decide (z > 8) = false := decide_eq_false (by omega)
      have f2' : decide (8 < z) = false := decide_eq_false (by omega)
      have f3 : decide (z < -8) = false := decide_eq_false (by omega)
      cases hA2
      go_wp2_with fail
      clear f1 f2 f2' f3
      go_roundw
      case rel => exact ⟨j + 1, by omega, by go_num, trivial⟩
      case measure => simp [intOf]; omega
    · obtain rfl : j = M := by omega
      go_wp2_with fail
      go_loopw [5] (fun i wr => ∃ p : Nat, p ≤ 256 ∧ i = .int .i64 p ∧ Hid (Below W6.heap.size W6 wr)) (fun i _ => 256 - (intOf i).toNat)
      case atStart => exact ⟨0, by omega, rfl, Lib.hid (Below.refl _ _)⟩
      case round =>
        obtain ⟨p, hp, rfl, low⟩ := hrel
        by_cases hpt : p < 256
        · have hTr := Lib.hid (Truths_any 8 (p : Int) wr (by omega) ⟨by omega, by omega⟩)
          go_wp2_with fail
          refine hTr.out.mono ?_
          rintro e w7 ⟨rfl, rowb, hb7⟩
          have hlow7 := low.out.trans (hb7.mono low.out.size)
          obtain ⟨rr, hrr⟩ : ∃ rr, decide (k ≤ wsum (tru p 8) cs ls) = rr := ⟨_, rfl⟩
          have hrr2 : decide (K ≤ wsum (tru p 8) C L) = rr := by rw [← hrr]; exact decide_eq_decide.2 (HC.out.2.2 (tru p 8))
          have hVl : ∀ W, Below w7.heap.size w7 W → Calls Try.prog 23 #[.agg #[.slice AC n cc, .slice AL n lc, .int .i64 k], .slice (some ⟨wr.heap.size, 0, none⟩) 9 9] W fun e w' => e = .returned (.bool rr) ∧ Below W.heap.size W w' := fun W h => by
            have hbw := HX.out.2.2.trans ((hlow7.trans (h.mono hlow7.size)).mono HX.out.2.2.size)
            have := linValue2_any w.heap.size w7.heap.size AC AL (some ⟨wr.heap.size, 0, none⟩) n cc lc 9 9 _ k cs ls (tru p 8) W (HL.out.1.1.below hbw (Nat.le_refl _)) (HL.out.1.2.below hbw (Nat.le_refl _)) hbw.size h.size HL.out.2.1 HL.out.2.2.1 (by omega) HL.out.2.2.2.up (rowb.rd.below h (Nat.le_refl _)) (tru_len _ _) (by omega) (fun x hx => (Lit_of8 (HL.out.2.2.2.ls x hx)).mono (by omega)) HL.out.2.2.2.cs rfl
            rwa [hrr] at this
          have hHl : ∀ W, Below w7.heap.size w7 W → Calls Try.prog 30 #[.agg #[.slice AC n cc, .slice AL n lc, .int .i64 k], .int .i64 (p : Int)] W fun e w' => e = .returned (.bool rr) ∧ Below W.heap.size W w' := fun W h => by
            have hbw := HX.out.2.2.trans ((hlow7.trans (h.mono hlow7.size)).mono HX.out.2.2.size)
            have := holds_any w.heap.size n cc lc AC AL k p _ cs ls W (HL.out.1.1.below hbw (Nat.le_refl _)) (HL.out.1.2.below hbw (Nat.le_refl _)) hbw.size HL.out.2.1 HL.out.2.2.1 (by omega) (fun c hc => by have := HL.out.2.2.2.cs c hc; omega) (fun x hx => Lit_of8 (HL.out.2.2.2.ls x hx)) ⟨by omega, by omega⟩ rfl
            rwa [hrr] at this
          have hHx : ∀ W, Below w7.heap.size w7 W → Calls Try.prog 30 #[.agg #[.slice A1 j c1, .slice A2 j c2, .int .i64 K], .int .i64 (p : Int)] W fun e w' => e = .returned (.bool rr) ∧ Below W.heap.size W w' := fun W h => by
            have hbw := hlow7.trans (h.mono hlow7.size)
            have := holds_any W6.heap.size j c1 c2 A1 A2 K p _ C L W (HX.out.1.2.1.below hbw (Nat.le_refl _)) (HX.out.1.2.2.below hbw (Nat.le_refl _)) hbw.size HM.out.1 HM.out.2 (by omega) (fun c hc => by have := HC.out.1.pos c hc; have := HC.out.1.big c hc; omega) (fun x hx => Lit_of8 (HC.out.1.lit x hx)) ⟨by omega, by omega⟩ rfl
            rwa [hrr2] at this
          have hat7 := HX.out.2.1.below hlow7
          have hx7 := HX.out.1.1.below hlow7
          have hkeep : ∀ W W', (Below w7.heap.size w7 W ∧ W.cell? ⟨w.heap.size, 0, none⟩ = some (.slice AC n cc) ∧ W.cell? ⟨w.heap.size, 1, none⟩ = some (.slice AL n lc) ∧ W.cell? ⟨w.heap.size, 2, none⟩ = some (.int .i64 k) ∧ W.cell? ⟨w5.heap.size, 0, none⟩ = some (.slice A1 j c1) ∧ W.cell? ⟨w5.heap.size, 1, none⟩ = some (.slice A2 j c2) ∧ W.cell? ⟨w5.heap.size, 2, none⟩ = some (.int .i64 K)) → Below W.heap.size W W' →
              (Below w7.heap.size w7 W' ∧ W'.cell? ⟨w.heap.size, 0, none⟩ = some (.slice AC n cc) ∧ W'.cell? ⟨w.heap.size, 1, none⟩ = some (.slice AL n lc) ∧ W'.cell? ⟨w.heap.size, 2, none⟩ = some (.int .i64 k) ∧ W'.cell? ⟨w5.heap.size, 0, none⟩ = some (.slice A1 j c1) ∧ W'.cell? ⟨w5.heap.size, 1, none⟩ = some (.slice A2 j c2) ∧ W'.cell? ⟨w5.heap.size, 2, none⟩ = some (.int .i64 K)) := fun W W' ⟨i1, i2, i3, i4, i5, i6, i7⟩ hb => by
            have hsw := i1.size
            have l1 := hat7.lt
            have l2 := hx7.lt
            have g := fun (b o : Nat) (hbl : b < w7.heap.size) => hb.cell (p := ⟨b, o, none⟩) (by show b < W.heap.size; omega)
            exact ⟨i1.trans (hb.mono hsw), (g _ _ l1).trans i2, (g _ _ l1).trans i3, (g _ _ l1).trans i4, (g _ _ l2).trans i5, (g _ _ l2).trans i6, (g _ _ l2).trans i7⟩
          have hfin : ∀ W, Below w7.heap.size w7 W → Below W6.heap.size W6 W := fun W h => hlow7.trans (h.mono hlow7.size)
          obtain ⟨cC, cL, cK⟩ := hat7.cells
          obtain ⟨xC, xL, xK⟩ := hx7.cells
          have hstart : Below w7.heap.size w7 w7.drew ∧ w7.drew.cell? ⟨w.heap.size, 0, none⟩ = some (.slice AC n cc) ∧ w7.drew.cell? ⟨w.heap.size, 1, none⟩ = some (.slice AL n lc) ∧ w7.drew.cell? ⟨w.heap.size, 2, none⟩ = some (.int .i64 k) ∧ w7.drew.cell? ⟨w5.heap.size, 0, none⟩ = some (.slice A1 j c1) ∧ w7.drew.cell? ⟨w5.heap.size, 1, none⟩ = some (.slice A2 j c2) ∧ w7.drew.cell? ⟨w5.heap.size, 2, none⟩ = some (.int .i64 K) := ⟨(Below.refl _ _).drew, cC, cL, cK, xC, xL, xK⟩
          have HVl := Lib.hid hVl
          have HHl := Lib.hid hHl
          have HHx := Lib.hid hHx
          have HK := Lib.hid hkeep
          have HF := Lib.hid hfin
          clear hVl hHl hHx hkeep hfin hat7 hx7 hrr hrr2 rowb hb7 hlow7 hTr cC cL cK xC xL xK
          go_wp2_with fail
          refine wp_region_held_drew (S := fun W => Below w7.heap.size w7 W ∧ W.cell? ⟨w.heap.size, 0, none⟩ = some (.slice AC n cc) ∧ W.cell? ⟨w.heap.size, 1, none⟩ = some (.slice AL n lc) ∧ W.cell? ⟨w.heap.size, 2, none⟩ = some (.int .i64 k) ∧ W.cell? ⟨w5.heap.size, 0, none⟩ = some (.slice A1 j c1) ∧ W.cell? ⟨w5.heap.size, 1, none⟩ = some (.slice A2 j c2) ∧ W.cell? ⟨w5.heap.size, 2, none⟩ = some (.int .i64 K)) (by kernel_rfl) hstart (fun hHeld => ?_)
          clear hstart
          refine takeH_now (i := 0) (some 61) (v := ?_) rfl (by kernel_rfl) (by kernel_rfl) (by kernel_rfl) (fun _ _ _ h => h) (Or.inl ⟨by rfl, ?_⟩) rfl (by assumption) ?_
          rotate_left
          focus (intro w9 hS9; have cC := hS9.2.1; have cL := hS9.2.2.1; have cK := hS9.2.2.2.1; have xC := hS9.2.2.2.2.1; have xL := hS9.2.2.2.2.2.1; have xK := hS9.2.2.2.2.2.2; clear hS9; go_simp; try with_reducible rfl)
          try simp only [Act.put, List.setIfInBounds_toArray, List.set_cons_zero, List.set_cons_succ]
          refine takeH_now (i := 1) (some 62) (v := ?_) rfl (by kernel_rfl) (by kernel_rfl) (by kernel_rfl) (fun _ _ _ h => h) (Or.inl ⟨by rfl, ?_⟩) rfl (by assumption) ?_
          rotate_left
          focus (intro w9 hS9; go_simp; try with_reducible rfl)
          try simp only [Act.put, List.setIfInBounds_toArray, List.set_cons_zero, List.set_cons_succ]
          refine takeH_now (i := 3) (some 64) (v := ?_) rfl (by kernel_rfl) (by kernel_rfl) (by kernel_rfl) (fun _ _ _ h => h) (Or.inl ⟨by rfl, ?_⟩) rfl (by assumption) ?_
          rotate_left
          focus (intro w9 hS9; have cC := hS9.2.1; have cL := hS9.2.2.1; have cK := hS9.2.2.2.1; have xC := hS9.2.2.2.2.1; have xL := hS9.2.2.2.2.2.1; have xK := hS9.2.2.2.2.2.2; clear hS9; go_simp; try with_reducible rfl)
          try simp only [Act.put, List.setIfInBounds_toArray, List.set_cons_zero, List.set_cons_succ]
          refine takeH_now (i := 4) (some 65) (v := ?_) rfl (by kernel_rfl) (by kernel_rfl) (by kernel_rfl) (fun _ _ _ h => h) (Or.inl ⟨by rfl, ?_⟩) rfl (by assumption) ?_
          rotate_left
          focus (intro w9 hS9; go_simp; try with_reducible rfl)
          try simp only [Act.put, List.setIfInBounds_toArray, List.set_cons_zero, List.set_cons_succ]
          refine wpAnyH_ready (rs := [2]) (by kernel_rfl) (by simp) ?_
          refine AllReadyH.cons (o := { dst := some 63, op := Op.call { callee := Callee.value (Operand.func 23), args := #[Operand.tmp 61, Operand.tmp 62], argTypes := #[24, 32] }, type := 4, pos := "law.go:106", after := #[{ on := 0, ground := Ground.data }, { on := 1, ground := Ground.data }], guard := none }) rfl (fun K' hK' => ?_) AllReadyH.nil
          rw [if_pos (by kernel_rfl)]
          go_simp
          refine (HVl.out _ hHeld.1).mono ?_
          rintro e wa ⟨rfl, hba⟩
          have hHa := HK.out _ _ hHeld hba
          clear hHeld hba
          refine hK'.out _ _ hHa (fun hHeld => ?_)
          clear hK' hHa
          try simp only [Act.put, List.setIfInBounds_toArray, List.set_cons_zero, List.set_cons_succ]
          refine wpAnyH_ready (rs := [5]) (by kernel_rfl) (by simp) ?_
          refine AllReadyH.cons (o := { dst := some 66, op := Op.call { callee := Callee.value (Operand.func 30), args := #[Operand.tmp 64, Operand.tmp 65], argTypes := #[24, 3] }, type := 4, pos := "law.go:106", after := #[{ on := 3, ground := Ground.data }, { on := 4, ground := Ground.data }, { on := 2, ground := Ground.chain }], guard := none }) rfl (fun K' hK' => ?_) AllReadyH.nil
          rw [if_pos (by kernel_rfl)]
          go_simp
          refine (HHx.out _ hHeld.1).mono ?_
          rintro e wa ⟨rfl, hba⟩
          have hHa := HK.out _ _ hHeld hba
          clear hHeld hba
          refine hK'.out _ _ hHa (fun hHeld => ?_)
          clear hK' hHa
          try simp only [Act.put, List.setIfInBounds_toArray, List.set_cons_zero, List.set_cons_succ]
          refine takeH_now (i := 6) (some 67) (v := ?_) rfl (by kernel_rfl) (by kernel_rfl) (by kernel_rfl) (fun _ _ _ h => h) (Or.inl ⟨by rfl, ?_⟩) rfl (by assumption) ?_
          rotate_left
          focus (intro w9 hS9; go_simp; try with_reducible rfl)
          try simp only [Act.put, List.setIfInBounds_toArray, List.set_cons_zero, List.set_cons_succ]
          refine takeH_now (i := 7) (some 68) (v := ?_) rfl (by kernel_rfl) (by kernel_rfl) (by kernel_rfl) (fun _ _ _ h => h) (Or.inl ⟨by rfl, ?_⟩) rfl (by assumption) ?_
          rotate_left
          focus (intro w9 hS9; go_simp; try with_reducible rfl)
          try simp only [Act.put, List.setIfInBounds_toArray, List.set_cons_zero, List.set_cons_succ]
          refine takeH_now (i := 8) (some 69) (v := ?_) rfl (by kernel_rfl) (by kernel_rfl) (by kernel_rfl) (fun _ _ _ h => h) (Or.inl ⟨by rfl, ?_⟩) rfl (by assumption) ?_
          rotate_left
          focus (intro w9 hS9; have cC := hS9.2.1; have cL := hS9.2.2.1; have cK := hS9.2.2.2.1; have xC := hS9.2.2.2.2.1; have xL := hS9.2.2.2.2.2.1; have xK := hS9.2.2.2.2.2.2; clear hS9; go_simp; try with_reducible rfl)
          try simp only [Act.put, List.setIfInBounds_toArray, List.set_cons_zero, List.set_cons_succ]
          refine takeH_now (i := 9) (some 70) (v := ?_) rfl (by kernel_rfl) (by kernel_rfl) (by kernel_rfl) (fun _ _ _ h => h) (Or.inl ⟨by rfl, ?_⟩) rfl (by assumption) ?_
          rotate_left
          focus (intro w9 hS9; go_simp; try with_reducible rfl)
          try simp only [Act.put, List.setIfInBounds_toArray, List.set_cons_zero, List.set_cons_succ]
          refine takeH_now (i := 11) (some 72) (v := ?_) rfl (by kernel_rfl) (by kernel_rfl) (by kernel_rfl) (fun _ _ _ h => h) (Or.inl ⟨by rfl, ?_⟩) rfl (by assumption) ?_
          rotate_left
          focus (intro w9 hS9; have cC := hS9.2.1; have cL := hS9.2.2.1; have cK := hS9.2.2.2.1; have xC := hS9.2.2.2.2.1; have xL := hS9.2.2.2.2.2.1; have xK := hS9.2.2.2.2.2.2; clear hS9; go_simp; try with_reducible rfl)
          try simp only [Act.put, List.setIfInBounds_toArray, List.set_cons_zero, List.set_cons_succ]
          refine takeH_now (i := 12) (some 73) (v := ?_) rfl (by kernel_rfl) (by kernel_rfl) (by kernel_rfl) (fun _ _ _ h => h) (Or.inl ⟨by rfl, ?_⟩) rfl (by assumption) ?_
          rotate_left
          focus (intro w9 hS9; go_simp; try with_reducible rfl)
          try simp only [Act.put, List.setIfInBounds_toArray, List.set_cons_zero, List.set_cons_succ]
          refine wpAnyH_ready (rs := [10]) (by kernel_rfl) (by simp) ?_
          refine AllReadyH.cons (o := { dst := some 71, op := Op.call { callee := Callee.value (Operand.func 30), args := #[Operand.tmp 69, Operand.tmp 70], argTypes := #[24, 3] }, type := 4, pos := "law.go:106", after := #[{ on := 8, ground := Ground.data }, { on := 9, ground := Ground.data }, { on := 7, ground := Ground.chain }, { on := 7, ground := Ground.guard }], guard := some (7, false) }) rfl (fun K' hK' => ?_) AllReadyH.nil
          rw [if_pos (by kernel_rfl)]
          go_simp
          refine (HHl.out _ hHeld.1).mono ?_
          rintro e wa ⟨rfl, hba⟩
          have hHa := HK.out _ _ hHeld hba
          clear hHeld hba
          refine hK'.out _ _ hHa (fun hHeld => ?_)
          clear hK' hHa
          try simp only [Act.put, List.setIfInBounds_toArray, List.set_cons_zero, List.set_cons_succ]
          refine wpAnyH_ready (rs := [13]) (by kernel_rfl) (by simp) ?_
          refine AllReadyH.cons (o := { dst := some 74, op := Op.call { callee := Callee.value (Operand.func 30), args := #[Operand.tmp 72, Operand.tmp 73], argTypes := #[24, 3] }, type := 4, pos := "law.go:106", after := #[{ on := 11, ground := Ground.data }, { on := 12, ground := Ground.data }, { on := 10, ground := Ground.chain }, { on := 7, ground := Ground.guard }], guard := some (7, false) }) rfl (fun K' hK' => ?_) AllReadyH.nil
          rw [if_pos (by kernel_rfl)]
          go_simp
          refine (HHx.out _ hHeld.1).mono ?_
          rintro e wa ⟨rfl, hba⟩
          have hHa := HK.out _ _ hHeld hba
          clear hHeld hba
          refine hK'.out _ _ hHa (fun hHeld => ?_)
          clear hK' hHa
          try simp only [Act.put, List.setIfInBounds_toArray, List.set_cons_zero, List.set_cons_succ]
          refine takeH_now (i := 14) (some 75) (v := ?_) rfl (by kernel_rfl) (by kernel_rfl) (by kernel_rfl) (fun _ _ _ h => h) (Or.inl ⟨by rfl, ?_⟩) rfl (by assumption) ?_
          rotate_left
          focus (intro w9 hS9; go_simp; try with_reducible rfl)
          try simp only [Act.put, List.setIfInBounds_toArray, List.set_cons_zero, List.set_cons_succ]
          refine takeH_now (i := 15) (some 76) (v := ?_) rfl (by kernel_rfl) (by kernel_rfl) (by kernel_rfl) (fun _ _ _ h => h) (Or.inl ⟨by rfl, ?_⟩) rfl (by assumption) ?_
          rotate_left
          focus (intro w9 hS9; go_simp; try with_reducible rfl)
          try simp only [Act.put, List.setIfInBounds_toArray, List.set_cons_zero, List.set_cons_succ]
          refine wpAnyH_done (by kernel_rfl) ?_ _
          have hend := Lib.hid (HF.out _ hHeld.1)
          clear hHeld HVl HHx HHl HK HF
          cases rr <;> (
            go_wp2_with fail
            go_roundw
            case rel => exact ⟨p + 1, by omega, by go_num, hend⟩
            case measure => simp [intOf]; omega)
        · obtain rfl : p = 256 := by omega
          have fin : Hid (Below w.heap.size w wr) := Lib.hid (HX.out.2.2.trans (low.out.mono HX.out.2.2.size))
          clear low
          go_wp2_with fail
          go_ret
          exact ⟨rfl, fin.out⟩
theorem neq_any (AC AL : Option Addr) (n1 n2 cc lc : Nat) (k : Int) (cs ls : List Int) (w : World) (hc : RdI w.heap.size w AC cs) (hr : RdI w.heap.size w AL ls) (hl1 : cs.length = n1) (hl2 : ls.length = n2) :
    Calls Try.prog 6 #[.agg #[.slice AC n1 cc, .slice AL n2 lc, .int .i64 k]] w fun e w' => e = .returned (.bool true) ∧ Below w.heap.size w w' := by
  by_cases h : n1 ≤ 60 ∧ n2 ≤ 60
  · by_cases hok : OkL cs ls k 8
    · obtain rfl : n1 = n2 := by have := hok.2.2.1; omega
      exact neq_main AC AL n1 cc lc k cs ls w hc hr hl1 hl2 h.1 hok
    · exact neq_no AC AL n1 n2 cc lc k cs ls w hc hr hl1 hl2 h hok
  · exact neq_few AC AL n1 n2 cc lc k w h
end Go.Proofs.Ytoacfjmefoiflaa
