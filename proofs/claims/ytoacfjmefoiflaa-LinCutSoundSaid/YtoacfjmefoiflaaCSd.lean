/- The walk of the law LinCutSound. -/
import Derived.Test.YtoacfjmefoiflaaNEq
namespace Go.Proofs.Ytoacfjmefoiflaa
open Go.ChangeShapes Go.WideShapes Go.ChangeAt Go.RowKit
set_option maxRecDepth 100000

set_option maxHeartbeats 4000000 in
theorem csd_out0 (A1 L1 : Option Addr) (n1 m1 c1 d1 : Nat) (k y : Int) (cs ls : List Int) (w : World) (r1 : RdI w.heap.size w A1 cs) (r2 : RdI w.heap.size w L1 ls) (h1 : cs.length = n1) (h2 : ls.length = m1) (hyp : ¬ (n1 ≤ 60 ∧ m1 ≤ 60)) :
    Calls Try.prog 10 #[.agg #[.slice A1 n1 c1, .slice L1 m1 d1, .int .i64 k], .int .i64 y] w fun e w' => e = .returned (.bool true) ∧ Below w.heap.size w w' := by
  obtain ⟨W1, hW1⟩ : ∃ W, W = w.alloc (.cells #[.slice A1 n1 c1, .slice L1 m1 d1, .int .i64 k] 24) := ⟨_, rfl⟩
  have low : Below w.heap.size w W1 := by rw [hW1]; exact (Below.refl _ _).alloc (Nat.le_refl _) _
  have hat1 : LinAt W1 w.heap.size (.slice A1 n1 c1) (.slice L1 m1 d1) k 24 := by rw [hW1]; exact heap_alloc_new _ _
  have hF1 := fun W => few_any A1 L1 n1 m1 c1 d1 k W
  have hK1 := fun W (h : Below w.heap.size w W) => fun (hm : m1 ≤ 60) => LinCheck_any w.heap.size A1 L1 n1 m1 c1 d1 k 8 cs ls W (r1.below h (Nat.le_refl _)) (r2.below h (Nat.le_refl _)) h.size h1 h2 (by omega) (by omega) (by omega)
  have HW := Lib.hid hW1
  have HA := Lib.hid hat1
  clear hW1 hat1
  rw [decide_eq_false hyp] at hF1
  have HF1 := Lib.hid hF1
  clear hF1 hK1 r1 r2 h1 h2 hyp
  go_enter Try.func10, Try.ntmps10
  go_wp2_with fail
  rw [← HW.out]
  clear HW
  refine (live_any W1).mono ?_
  rintro e y1 ⟨rfl, hb⟩
  have low := low.trans (hb.mono low.size)
  have HA := Lib.hid (HA.out.below hb)
  clear hb 
  obtain ⟨aC, aL, aK⟩ := (HA.out).cells
  go_wp2_with fail
  refine (HF1.out _).mono ?_
  rintro e y2 ⟨rfl, hb⟩
  clear aC aL aK
  have low := low.trans (hb.mono low.size)
  have HA := Lib.hid (HA.out.below hb)
  clear hb 
  obtain ⟨aC, aL, aK⟩ := (HA.out).cells
  have fin := Lib.hid low
  clear aC aL aK
  clear low HA
  go_wp2_with fail
  go_ret
  exact ⟨rfl, fin.out⟩
set_option maxHeartbeats 4000000 in
theorem csd_out1 (A1 L1 : Option Addr) (n1 m1 c1 d1 : Nat) (k y : Int) (cs ls : List Int) (w : World) (r1 : RdI w.heap.size w A1 cs) (r2 : RdI w.heap.size w L1 ls) (h1 : cs.length = n1) (h2 : ls.length = m1) (hyp : (n1 ≤ 60 ∧ m1 ≤ 60) ∧ ¬ OkL cs ls k 8) :
    Calls Try.prog 10 #[.agg #[.slice A1 n1 c1, .slice L1 m1 d1, .int .i64 k], .int .i64 y] w fun e w' => e = .returned (.bool true) ∧ Below w.heap.size w w' := by
  obtain ⟨W1, hW1⟩ : ∃ W, W = w.alloc (.cells #[.slice A1 n1 c1, .slice L1 m1 d1, .int .i64 k] 24) := ⟨_, rfl⟩
  have low : Below w.heap.size w W1 := by rw [hW1]; exact (Below.refl _ _).alloc (Nat.le_refl _) _
  have hat1 : LinAt W1 w.heap.size (.slice A1 n1 c1) (.slice L1 m1 d1) k 24 := by rw [hW1]; exact heap_alloc_new _ _
  have hF1 := fun W => few_any A1 L1 n1 m1 c1 d1 k W
  have hK1 := fun W (h : Below w.heap.size w W) => fun (hm : m1 ≤ 60) => LinCheck_any w.heap.size A1 L1 n1 m1 c1 d1 k 8 cs ls W (r1.below h (Nat.le_refl _)) (r2.below h (Nat.le_refl _)) h.size h1 h2 (by omega) (by omega) (by omega)
  have HW := Lib.hid hW1
  have HA := Lib.hid hat1
  clear hW1 hat1
  rw [decide_eq_true hyp.1] at hF1
  have HK1 := Lib.hid (fun W h => (hK1 W h hyp.1.2).2 hyp.2)
  have HF1 := Lib.hid hF1
  clear hF1 hK1 r1 r2 h1 h2 hyp
  go_enter Try.func10, Try.ntmps10
  go_wp2_with fail
  rw [← HW.out]
  clear HW
  refine (live_any W1).mono ?_
  rintro e y1 ⟨rfl, hb⟩
  have low := low.trans (hb.mono low.size)
  have HA := Lib.hid (HA.out.below hb)
  clear hb 
  obtain ⟨aC, aL, aK⟩ := (HA.out).cells
  go_wp2_with fail
  refine (HF1.out _).mono ?_
  rintro e y2 ⟨rfl, hb⟩
  clear aC aL aK
  have low := low.trans (hb.mono low.size)
  have HA := Lib.hid (HA.out.below hb)
  clear hb 
  obtain ⟨aC, aL, aK⟩ := (HA.out).cells
  go_wp2_with fail
  refine (HK1.out _ low).mono ?_
  rintro e y3 ⟨rfl, hb⟩
  clear aC aL aK
  have low := low.trans (hb.mono low.size)
  have HA := Lib.hid (HA.out.below hb)
  clear hb 
  obtain ⟨aC, aL, aK⟩ := (HA.out).cells
  have fin := Lib.hid low
  clear aC aL aK
  clear low HA
  go_wp2_with fail
  go_ret
  exact ⟨rfl, fin.out⟩
set_option maxHeartbeats 4000000 in
theorem csd_out2 (A1 L1 : Option Addr) (n1 m1 c1 d1 : Nat) (k y : Int) (cs ls : List Int) (w : World) (r1 : RdI w.heap.size w A1 cs) (r2 : RdI w.heap.size w L1 ls) (h1 : cs.length = n1) (h2 : ls.length = m1) (hyp : (n1 ≤ 60 ∧ m1 ≤ 60) ∧ OkL cs ls k 8 ∧ y < 1) :
    Calls Try.prog 10 #[.agg #[.slice A1 n1 c1, .slice L1 m1 d1, .int .i64 k], .int .i64 y] w fun e w' => e = .returned (.bool true) ∧ Below w.heap.size w w' := by
  obtain ⟨W1, hW1⟩ : ∃ W, W = w.alloc (.cells #[.slice A1 n1 c1, .slice L1 m1 d1, .int .i64 k] 24) := ⟨_, rfl⟩
  have low : Below w.heap.size w W1 := by rw [hW1]; exact (Below.refl _ _).alloc (Nat.le_refl _) _
  have hat1 : LinAt W1 w.heap.size (.slice A1 n1 c1) (.slice L1 m1 d1) k 24 := by rw [hW1]; exact heap_alloc_new _ _
  have hF1 := fun W => few_any A1 L1 n1 m1 c1 d1 k W
  have hK1 := fun W (h : Below w.heap.size w W) => fun (hm : m1 ≤ 60) => LinCheck_any w.heap.size A1 L1 n1 m1 c1 d1 k 8 cs ls W (r1.below h (Nat.le_refl _)) (r2.below h (Nat.le_refl _)) h.size h1 h2 (by omega) (by omega) (by omega)
  have HW := Lib.hid hW1
  have HA := Lib.hid hat1
  clear hW1 hat1
  rw [decide_eq_true hyp.1] at hF1
  have HK1 := Lib.hid (fun W h => (hK1 W h hyp.1.2).1 hyp.2.1)
  have g1 : decide (y < 1) = true := decide_eq_true hyp.2.2
  have HF1 := Lib.hid hF1
  clear hF1 hK1 r1 r2 h1 h2 hyp
  go_enter Try.func10, Try.ntmps10
  go_wp2_with fail
  rw [← HW.out]
  clear HW
  refine (live_any W1).mono ?_
  rintro e y1 ⟨rfl, hb⟩
  have low := low.trans (hb.mono low.size)
  have HA := Lib.hid (HA.out.below hb)
  clear hb 
  obtain ⟨aC, aL, aK⟩ := (HA.out).cells
  go_wp2_with fail
  refine (HF1.out _).mono ?_
  rintro e y2 ⟨rfl, hb⟩
  clear aC aL aK
  have low := low.trans (hb.mono low.size)
  have HA := Lib.hid (HA.out.below hb)
  clear hb 
  obtain ⟨aC, aL, aK⟩ := (HA.out).cells
  go_wp2_with fail
  refine (HK1.out _ low).mono ?_
  rintro e y3 ⟨rfl, hb⟩
  clear aC aL aK
  have low := low.trans (hb.mono low.size)
  have HA := Lib.hid (HA.out.below hb)
  clear hb 
  obtain ⟨aC, aL, aK⟩ := (HA.out).cells
  have fin := Lib.hid low
  clear aC aL aK
  clear low HA
  go_wp2_with fail
  go_ret
  exact ⟨rfl, fin.out⟩
set_option maxHeartbeats 4000000 in
theorem csd_out3 (A1 L1 : Option Addr) (n1 m1 c1 d1 : Nat) (k y : Int) (cs ls : List Int) (w : World) (r1 : RdI w.heap.size w A1 cs) (r2 : RdI w.heap.size w L1 ls) (h1 : cs.length = n1) (h2 : ls.length = m1) (hyp : (n1 ≤ 60 ∧ m1 ≤ 60) ∧ OkL cs ls k 8 ∧ ¬ y < 1 ∧ 1099511627776 < y) :
    Calls Try.prog 10 #[.agg #[.slice A1 n1 c1, .slice L1 m1 d1, .int .i64 k], .int .i64 y] w fun e w' => e = .returned (.bool true) ∧ Below w.heap.size w w' := by
  obtain ⟨W1, hW1⟩ : ∃ W, W = w.alloc (.cells #[.slice A1 n1 c1, .slice L1 m1 d1, .int .i64 k] 24) := ⟨_, rfl⟩
  have low : Below w.heap.size w W1 := by rw [hW1]; exact (Below.refl _ _).alloc (Nat.le_refl _) _
  have hat1 : LinAt W1 w.heap.size (.slice A1 n1 c1) (.slice L1 m1 d1) k 24 := by rw [hW1]; exact heap_alloc_new _ _
  have hF1 := fun W => few_any A1 L1 n1 m1 c1 d1 k W
  have hK1 := fun W (h : Below w.heap.size w W) => fun (hm : m1 ≤ 60) => LinCheck_any w.heap.size A1 L1 n1 m1 c1 d1 k 8 cs ls W (r1.below h (Nat.le_refl _)) (r2.below h (Nat.le_refl _)) h.size h1 h2 (by omega) (by omega) (by omega)
  have HW := Lib.hid hW1
  have HA := Lib.hid hat1
  clear hW1 hat1
  rw [decide_eq_true hyp.1] at hF1
  have HK1 := Lib.hid (fun W h => (hK1 W h hyp.1.2).1 hyp.2.1)
  have g1 : decide (y < 1) = false := decide_eq_false hyp.2.2.1
  have g2 : decide (1099511627776 < y) = true := decide_eq_true hyp.2.2.2
  have g2' : decide (y > 1099511627776) = true := decide_eq_true hyp.2.2.2
  have HF1 := Lib.hid hF1
  clear hF1 hK1 r1 r2 h1 h2 hyp
  go_enter Try.func10, Try.ntmps10
  go_wp2_with fail
  rw [← HW.out]
  clear HW
  refine (live_any W1).mono ?_
  rintro e y1 ⟨rfl, hb⟩
  have low := low.trans (hb.mono low.size)
  have HA := Lib.hid (HA.out.below hb)
  clear hb 
  obtain ⟨aC, aL, aK⟩ := (HA.out).cells
  go_wp2_with fail
  refine (HF1.out _).mono ?_
  rintro e y2 ⟨rfl, hb⟩
  clear aC aL aK
  have low := low.trans (hb.mono low.size)
  have HA := Lib.hid (HA.out.below hb)
  clear hb 
  obtain ⟨aC, aL, aK⟩ := (HA.out).cells
  go_wp2_with fail
  refine (HK1.out _ low).mono ?_
  rintro e y3 ⟨rfl, hb⟩
  clear aC aL aK
  have low := low.trans (hb.mono low.size)
  have HA := Lib.hid (HA.out.below hb)
  clear hb 
  obtain ⟨aC, aL, aK⟩ := (HA.out).cells
  have fin := Lib.hid low
  clear aC aL aK
  clear low HA
  go_wp2_with fail
  go_ret
  exact ⟨rfl, fin.out⟩

theorem dv_mono {y a b : Int} (hy : 1 ≤ y) (h : a ≤ b) : dv y a ≤ dv y b := Int.ediv_le_ediv (by omega) (by omega)
theorem dv_one {y a : Int} (hy : 1 ≤ y) (h : 1 ≤ a) : 1 ≤ dv y a := Int.le_ediv_of_mul_le (by omega) (by omega)
theorem dv_le {y a : Int} (hy : 1 ≤ y) (h : 0 ≤ a) : dv y a ≤ a := by
  have h1 : a * 1 ≤ a * y := Int.mul_le_mul_of_nonneg_left hy h
  have h2 : (a + 1) * y = a * y + y := by rw [Int.add_mul, Int.one_mul]
  have h3 : (a + y - 1) / y < a + 1 := Int.ediv_lt_of_lt_mul (by omega) (by omega)
  unfold dv; omega
theorem dv_self (a : Int) : dv 1 a = a := by unfold dv; rw [Int.ediv_one]; omega
theorem dn_self (cs : List Int) : dn 1 cs = cs := by
  unfold dn
  rw [show dv 1 = id from funext dv_self, List.map_id]
theorem dv_mul {y a : Int} (hy : 1 ≤ y) : a ≤ dv y a * y := by
  have h1 := Int.emod_add_mul_ediv (a + y - 1) y
  have h2 := Int.emod_lt_of_pos (a + y - 1) (show 0 < y by omega)
  rw [Int.mul_comm] at h1
  show a ≤ (a + y - 1) / y * y
  omega
theorem wsum_dn (b : List Bool) {y : Int} (hy : 1 ≤ y) : ∀ cs ls : List Int, wsum b cs ls ≤ wsum b (dn y cs) ls * y
  | [], ls => by cases ls <;> simp [dn, wsum]
  | c :: cs, [] => by simp [dn, wsum]
  | c :: cs, l :: ls => by
    have ih := wsum_dn b hy cs ls
    have h := dv_mul (y := y) (a := c) hy
    show (if tv b l = true then c else 0) + wsum b cs ls ≤ ((if tv b l = true then dv y c else 0) + wsum b (dn y cs) ls) * y
    rw [Int.add_mul]
    split
    · omega
    · rw [Int.zero_mul]; omega
theorem cut_means (b : List Bool) {y K : Int} (hy : 1 ≤ y) (cs ls : List Int) (h : K ≤ wsum b cs ls) : dv y K ≤ wsum b (dn y cs) ls := by
  have h1 := wsum_dn b hy cs ls
  have h2 : (wsum b (dn y cs) ls + 1) * y = wsum b (dn y cs) ls * y + y := by rw [Int.add_mul, Int.one_mul]
  have h3 : (K + y - 1) / y < wsum b (dn y cs) ls + 1 := Int.ediv_lt_of_lt_mul (by omega) (by omega)
  unfold dv; omega
set_option maxHeartbeats 16000000 in
theorem csd_main (A1 L1 : Option Addr) (n1 c1 d1 : Nat) (k y : Int) (cs ls : List Int) (w : World) (r1 : RdI w.heap.size w A1 cs) (r2 : RdI w.heap.size w L1 ls) (h1 : cs.length = n1) (h2 : ls.length = n1) (hn1 : n1 ≤ 60) (ok1 : OkL cs ls k 8) (hy : 1 ≤ y ∧ y ≤ 1099511627776) :
    Calls Try.prog 10 #[.agg #[.slice A1 n1 c1, .slice L1 n1 d1, .int .i64 k], .int .i64 y] w fun e w' => e = .returned (.bool true) ∧ Below w.heap.size w w' := by
  obtain ⟨W1, hW1⟩ : ∃ W, W = w.alloc (.cells #[.slice A1 n1 c1, .slice L1 n1 d1, .int .i64 k] 24) := ⟨_, rfl⟩
  have low : Below w.heap.size w W1 := by rw [hW1]; exact (Below.refl _ _).alloc (Nat.le_refl _) _
  have hat1 : LinAt W1 w.heap.size (.slice A1 n1 c1) (.slice L1 n1 d1) k 24 := by rw [hW1]; exact heap_alloc_new _ _
  have hF1 := fun W => few_any A1 L1 n1 n1 c1 d1 k W
  have hK1 := fun W (h : Below w.heap.size w W) => fun (hm : n1 ≤ 60) => LinCheck_any w.heap.size A1 L1 n1 n1 c1 d1 k 8 cs ls W (r1.below h (Nat.le_refl _)) (r2.below h (Nat.le_refl _)) h.size h1 h2 (by omega) (by omega) (by omega)
  have HW := Lib.hid hW1
  have HA := Lib.hid hat1
  clear hW1 hat1
  rw [decide_eq_true (And.intro hn1 hn1)] at hF1
  have HK1 := Lib.hid (fun W h => (hK1 W h hn1).1 ok1)
  have HF1 := Lib.hid hF1
  have HCt := Lib.hid (fun (z : Int) (hz : 1 ≤ z ∧ z ≤ 1099511627776) W (h : Below w.heap.size w W) => Cut_ok w.heap.size A1 L1 n1 c1 d1 k z cs ls W (r1.below h (Nat.le_refl _)) (r2.below h (Nat.le_refl _)) h.size h1 h2 (by omega) ok1.up hz)
  have HNm := Lib.hid (fun W (h : Below w.heap.size w W) => norm_fn w.heap.size n1 c1 d1 A1 L1 k cs ls W (r1.below h (Nat.le_refl _)) (r2.below h (Nat.le_refl _)) h.size h1 h2 (by omega) ok1.up)
  have hCan := canon cs ls k 8 (by omega) (by omega) ok1.cs ok1.ls
  have hCl : (nC cs ls k).length ≤ 60 := by have := norm_len cs ls k; omega
  have hmean : ∀ a : List Bool, (nK cs ls k ≤ wsum a (nC cs ls k) (nL cs ls k)) ↔ k ≤ wsum a cs ls := fun a => norm_means a cs ls (vsOf ls) k 70368744177664 (by omega) (vsOf_pw ls) (fun x => vsOf_mem x ls) (fun z hz => (ok1.ls z hz).1) (fun z => by
    have := tot_bound 1099511627776 (by omega) cs ls z ok1.cs
    omega)
  have HC := Lib.hid (And.intro hCan (And.intro hCl hmean))
  have HL := Lib.hid (And.intro (And.intro r1 r2) (And.intro h1 (And.intro h2 ok1)))
  obtain ⟨hy1, hy2⟩ := hy
  have g1 : decide (y < 1) = false := decide_eq_false (by omega)
  have g2 : decide (1099511627776 < y) = false := decide_eq_false (by omega)
  have g2' : decide (y > 1099511627776) = false := decide_eq_false (by omega)
  clear hF1 hK1 r1 r2 h1 h2 ok1 hCan hCl hmean
  go_enter Try.func10, Try.ntmps10
  go_wp2_with fail
  rw [← HW.out]
  clear HW
  refine (live_any W1).mono ?_
  rintro e y1 ⟨rfl, hb⟩
  have low := low.trans (hb.mono low.size)
  have HA := Lib.hid (HA.out.below hb)
  clear hb 
  obtain ⟨aC, aL, aK⟩ := (HA.out).cells
  go_wp2_with fail
  refine (HF1.out _).mono ?_
  rintro e y2 ⟨rfl, hb⟩
  clear aC aL aK
  have low := low.trans (hb.mono low.size)
  have HA := Lib.hid (HA.out.below hb)
  clear hb 
  obtain ⟨aC, aL, aK⟩ := (HA.out).cells
  go_wp2_with fail
  refine (HK1.out _ low).mono ?_
  rintro e y3 ⟨rfl, hb⟩
  clear aC aL aK
  have low := low.trans (hb.mono low.size)
  have HA := Lib.hid (HA.out.below hb)
  clear hb 
  obtain ⟨aC, aL, aK⟩ := (HA.out).cells
  clear HF1 HK1
  go_wp2_with fail
  refine (HCt.out y ⟨hy1, hy2⟩ _ low).mono ?_
  rintro e y4 ⟨A3, c3, L3, d3, rfl, rd1, rd2, _, _, hb⟩
  clear aC aL aK g1 g2 g2'
  have low := low.trans (hb.mono low.size)
  have HA := Lib.hid (HA.out.below hb)
  clear hb 
  obtain ⟨aC, aL, aK⟩ := (HA.out).cells
  clear aC aL aK
  obtain ⟨C, hC⟩ : ∃ C, nC cs ls k = C := ⟨_, rfl⟩
  obtain ⟨L, hL⟩ : ∃ L, nL cs ls k = L := ⟨_, rfl⟩
  obtain ⟨K, hK⟩ : ∃ K, nK cs ls k = K := ⟨_, rfl⟩
  unfold GivesL at HCt
  rw [hC, hL, hK] at HC HCt HNm
  rw [hC] at rd1
  rw [hL] at rd2
  rw [hC, hL, hK]
  obtain ⟨M, hM⟩ : ∃ M, C.length = M := ⟨_, rfl⟩
  have hM' : L.length = M := by rw [← HC.out.1.len]; exact hM
  have hMn : M ≤ 60 := by rw [← hM]; exact HC.out.2.1
  have hDl : (dn y C).length = M := by rw [dn_len']; exact hM
  rw [hDl, hM']
  obtain ⟨D, hD⟩ : ∃ D, dv y K = D := ⟨_, rfl⟩
  rw [hD]
  obtain ⟨W5, hW5, kx, hb⟩ := KL.new (n := M) (c := c3) (m := M) (d := d3) (k := D) rd1 rd2
  have HW := Lib.hid hW5
  have low := low.trans (hb.mono low.size)
  have HA := Lib.hid (And.intro (HA.out.below hb) kx.1)
  have HX := Lib.hid kx
  have HM := Lib.hid (And.intro hM (And.intro hM' (And.intro hDl hD)))
  clear hb rd1 rd2 hC hL hK hM hM' hDl hD kx
  obtain ⟨aC, aL, aK⟩ := HA.out.1.cells
  rw [hW5] at aC aL aK
  clear hW5
  go_wp2_with fail
  rw [← HW.out]
  clear HW aC aL aK
  refine (HCt.out 1 (by omega) _ low).mono ?_
  rintro e y5 ⟨A4, c4, L4, d4, rfl, rd1, rd2, _, _, hb⟩
  rw [dn_self, dv_self] at *
  rw [HM.out.1, HM.out.2.1]
  have low := low.trans (hb.mono low.size)
  have HA := Lib.hid (And.intro (HA.out.1.below hb) (HA.out.2.below hb))
  have HX := Lib.hid (HX.out.step hb)
  clear hb HCt
  obtain ⟨W6, hW6, ko, hb⟩ := KL.new (n := M) (c := c4) (m := M) (d := d4) (k := K) rd1 rd2
  have HW := Lib.hid hW6
  have low := low.trans (hb.mono low.size)
  have HA := Lib.hid (And.intro (HA.out.1.below hb) (And.intro (HA.out.2.below hb) ko.1))
  have HX := Lib.hid (And.intro (HX.out.step hb) (And.intro ko low))
  clear hb rd1 rd2 ko
  obtain ⟨aC, aL, aK⟩ := HA.out.1.cells
  obtain ⟨xC, xL, xK⟩ := HA.out.2.1.cells
  obtain ⟨oC, oL, oK⟩ := HA.out.2.2.cells
  have hcell : ∀ W, Below W6.heap.size W6 W → W.cell? ⟨w.heap.size, 0, none⟩ = some (.slice A1 n1 c1) ∧ W.cell? ⟨w.heap.size, 1, none⟩ = some (.slice L1 n1 d1) ∧ W.cell? ⟨w.heap.size, 2, none⟩ = some (.int .i64 k) ∧ W.cell? ⟨y4.heap.size, 1, none⟩ = some (.slice L3 M d3) ∧ W.cell? ⟨y5.heap.size, 0, none⟩ = some (.slice A4 M c4) ∧ W.cell? ⟨y5.heap.size, 1, none⟩ = some (.slice L4 M d4) ∧ W.cell? ⟨y5.heap.size, 2, none⟩ = some (.int .i64 K) := fun W hb => by
    obtain ⟨u1, u2, u3⟩ := (HA.out.1.below hb).cells
    obtain ⟨v1, v2, v3⟩ := (HA.out.2.1.below hb).cells
    obtain ⟨x1, x2, x3⟩ := (HA.out.2.2.below hb).cells
    exact ⟨u1, u2, u3, v2, x1, x2, x3⟩
  have hNo : ∀ W, Below W6.heap.size W6 W → Calls Try.prog 15 #[.agg #[.slice A1 n1 c1, .slice L1 n1 d1, .int .i64 k]] W fun e w' => ∃ B1 e1 B2 e2, e = .returned (.agg #[.slice B1 M e1, .slice B2 M e2, .int .i64 K]) ∧ RdI w'.heap.size w' B1 C ∧ RdI w'.heap.size w' B2 L ∧ Below W.heap.size W w' := fun W h => by
    refine (HNm.out W (HX.out.2.2.trans (h.mono HX.out.2.2.size))).mono ?_
    rintro e w' ⟨B1, e1, B2, e2, rfl, q1, q2, _, hb⟩
    obtain ⟨_, _, x1, _, rd1⟩ := q1.shape
    obtain ⟨_, _, x2, _, rd2⟩ := q2.shape
    injection x1 with x1
    injection x2 with x2
    subst x1
    subst x2
    exact ⟨_, e1, _, e2, by rw [HM.out.1, HM.out.2.1], rd1, rd2, hb⟩
  have hSa : ∀ W B1 e1 B2 e2, Below W6.heap.size W6 W → RdI W.heap.size W B1 C → RdI W.heap.size W B2 L → Calls Try.prog 19 #[.agg #[.slice A4 M c4, .slice L4 M d4, .int .i64 K], .agg #[.slice B1 M e1, .slice B2 M e2, .int .i64 K]] W fun e w' => e = .returned (.bool true) ∧ Below W.heap.size W w' := fun W B1 e1 B2 e2 h q1 q2 => by
    have h1 := Same_any W.heap.size A4 L4 B1 B2 M M M M c4 d4 e1 e2 K K C L C L W (((HX.out.2.1).step h).2.1) (((HX.out.2.1).step h).2.2) q1 q2 (Nat.le_refl _) HM.out.1 HM.out.2.1 HM.out.1 HM.out.2.1 (by unfold maxLen; omega) (by unfold maxLen; omega)
    rwa [sameB_iff.2 ⟨rfl, rfl, rfl⟩] at h1
  have hkeep : ∀ W W', Below W6.heap.size W6 W → Below W.heap.size W W' → Below W6.heap.size W6 W' := fun W W' h hb => h.trans (hb.mono h.size)
  have HNo := Lib.hid hNo
  have HSa := Lib.hid hSa
  have HK := Lib.hid hkeep
  have hstart : Below W6.heap.size W6 W6.drew := (Below.refl _ _).drew
  have HCell := Lib.hid hcell
  have e1 : ((M : Int) != (M : Int)) = false := by simp
  rw [hW6] at aC aL aK xC xL xK oC oL oK
  clear hNo hSa hkeep hcell hW6 HNm
  go_wp2_with fail
  rw [← HW.out]
  rw [← HW.out] at aC aL aK xC xL xK oC oL oK
  clear HW
  refine wp_region_held_drew (S := fun W => Below W6.heap.size W6 W) (by kernel_rfl) hstart (fun hHeld => ?_)
  clear hstart
  refine takeH_now (i := 0) (some 40) (v := ?_) rfl (by kernel_rfl) (by kernel_rfl) (by kernel_rfl) (fun _ _ _ h => h) (Or.inl ⟨by rfl, ?_⟩) rfl (by assumption) ?_
  rotate_left
  focus (intro w9 hS9; go_simp; try with_reducible rfl)
  try simp only [Act.put, List.setIfInBounds_toArray, List.set_cons_zero, List.set_cons_succ]
  refine takeH_now (i := 1) (some 41) (v := ?_) rfl (by kernel_rfl) (by kernel_rfl) (by kernel_rfl) (fun _ _ _ h => h) (Or.inl ⟨by rfl, ?_⟩) rfl (by assumption) ?_
  rotate_left
  focus (intro w9 hS9; go_simp; try with_reducible rfl)
  try simp only [Act.put, List.setIfInBounds_toArray, List.set_cons_zero, List.set_cons_succ]
  refine takeH_now (i := 2) (some 42) (v := ?_) rfl (by kernel_rfl) (by kernel_rfl) (by kernel_rfl) (fun _ _ _ h => h) (Or.inl ⟨by rfl, ?_⟩) rfl (by assumption) ?_
  rotate_left
  focus (intro w9 hS9; go_simp; try with_reducible rfl)
  try simp only [Act.put, List.setIfInBounds_toArray, List.set_cons_zero, List.set_cons_succ]
  refine takeH_now (i := 3) (some 43) (v := ?_) rfl (by kernel_rfl) (by kernel_rfl) (by kernel_rfl) (fun _ _ _ h => h) (Or.inl ⟨by rfl, ?_⟩) rfl (by assumption) ?_
  rotate_left
  focus (intro w9 hS9; go_simp; try with_reducible rfl)
  try simp only [Act.put, List.setIfInBounds_toArray, List.set_cons_zero, List.set_cons_succ]
  refine takeH_now (i := 4) (some 44) (v := ?_) rfl (by kernel_rfl) (by kernel_rfl) (by kernel_rfl) (fun _ _ _ h => h) (Or.inl ⟨by rfl, ?_⟩) rfl (by assumption) ?_
  rotate_left
  focus (intro w9 hS9; go_simp; try with_reducible rfl)
  try simp only [Act.put, List.setIfInBounds_toArray, List.set_cons_zero, List.set_cons_succ]
  refine takeH_now (i := 5) (some 45) (v := ?_) rfl (by kernel_rfl) (by kernel_rfl) (by kernel_rfl) (fun _ _ _ h => h) (Or.inl ⟨by rfl, ?_⟩) rfl (by assumption) ?_
  rotate_left
  focus (intro w9 hS9; go_simp; try with_reducible rfl)
  try simp only [Act.put, List.setIfInBounds_toArray, List.set_cons_zero, List.set_cons_succ]
  refine takeH_now (i := 6) (some 46) (v := ?_) rfl (by kernel_rfl) (by kernel_rfl) (by kernel_rfl) (fun _ _ _ h => h) (Or.inl ⟨by rfl, ?_⟩) rfl (by assumption) ?_
  rotate_left
  focus (intro w9 hS9; go_simp; try with_reducible rfl)
  try simp only [Act.put, List.setIfInBounds_toArray, List.set_cons_zero, List.set_cons_succ]
  refine takeH_now (i := 7) (some 47) (v := ?_) rfl (by kernel_rfl) (by kernel_rfl) (by kernel_rfl) (fun _ _ _ h => h) (Or.inl ⟨by rfl, ?_⟩) rfl (by assumption) ?_
  rotate_left
  focus (intro w9 hS9; obtain ⟨aC, aL, aK, xL, oC, oL, oK⟩ := HCell.out w9 hS9; clear hS9; go_simp; try with_reducible rfl)
  try simp only [Act.put, List.setIfInBounds_toArray, List.set_cons_zero, List.set_cons_succ]
  refine takeH_now (i := 8) (some 48) (v := ?_) rfl (by kernel_rfl) (by kernel_rfl) (by kernel_rfl) (fun _ _ _ h => h) (Or.inl ⟨by rfl, ?_⟩) rfl (by assumption) ?_
  rotate_left
  focus (intro w9 hS9; obtain ⟨aC, aL, aK, xL, oC, oL, oK⟩ := HCell.out w9 hS9; clear hS9; go_simp; try with_reducible rfl)
  try simp only [Act.put, List.setIfInBounds_toArray, List.set_cons_zero, List.set_cons_succ]
  refine wpAnyH_ready (rs := [9]) (by kernel_rfl) (by simp) ?_
  refine AllReadyH.cons (o := { dst := some 49, op := Op.call { callee := Callee.value (Operand.func 15), args := #[Operand.tmp 48], argTypes := #[24] }, type := 24, pos := "law.go:218", after := #[{ on := 8, ground := Ground.data }, { on := 6, ground := Ground.chain }, { on := 6, ground := Ground.guard }], guard := some (6, false) }) rfl (fun K' hK' => ?_) AllReadyH.nil
  rw [if_pos (by kernel_rfl)]
  go_simp
  refine (HNo.out _ hHeld).mono ?_
  rintro e wb ⟨B1, e1, B2, e2, rfl, rb1, rb2, hba⟩
  have Hrb := Lib.hid (And.intro rb1 rb2)
  have hHa := HK.out _ _ hHeld hba
  clear hHeld hba rb1 rb2
  refine hK'.out _ _ hHa (fun hHeld => ?_)
  clear hK' hHa
  try simp only [Act.put, List.setIfInBounds_toArray, List.set_cons_zero, List.set_cons_succ]
  refine wpAnyH_ready (rs := [10]) (by kernel_rfl) (by simp) ?_
  refine AllReadyH.cons (o := { dst := some 50, op := Op.call { callee := Callee.value (Operand.func 19), args := #[Operand.tmp 47, Operand.tmp 49], argTypes := #[24, 24] }, type := 4, pos := "law.go:218", after := #[{ on := 7, ground := Ground.data }, { on := 9, ground := Ground.data }, { on := 9, ground := Ground.chain }, { on := 6, ground := Ground.guard }], guard := some (6, false) }) rfl (fun K' hK' => ?_) AllReadyH.nil
  rw [if_pos (by kernel_rfl)]
  go_simp
  refine (HSa.out _ _ _ _ _ hHeld Hrb.out.1 Hrb.out.2).mono ?_
  rintro e wc ⟨rfl, hba⟩
  have hHa := HK.out _ _ hHeld hba
  clear hHeld hba Hrb
  refine hK'.out _ _ hHa (fun hHeld => ?_)
  clear hK' hHa
  try simp only [Act.put, List.setIfInBounds_toArray, List.set_cons_zero, List.set_cons_succ]
  refine takeH_now (i := 11) (some 51) (v := ?_) rfl (by kernel_rfl) (by kernel_rfl) (by kernel_rfl) (fun _ _ _ h => h) (Or.inl ⟨by rfl, ?_⟩) rfl (by assumption) ?_
  rotate_left
  focus (intro w9 hS9; go_simp; try with_reducible rfl)
  try simp only [Act.put, List.setIfInBounds_toArray, List.set_cons_zero, List.set_cons_succ]
  refine takeH_now (i := 12) (some 52) (v := ?_) rfl (by kernel_rfl) (by kernel_rfl) (by kernel_rfl) (fun _ _ _ h => h) (Or.inl ⟨by rfl, ?_⟩) rfl (by assumption) ?_
  rotate_left
  focus (intro w9 hS9; go_simp; try with_reducible rfl)
  try simp only [Act.put, List.setIfInBounds_toArray, List.set_cons_zero, List.set_cons_succ]
  refine takeH_now (i := 13) (some 53) (v := ?_) rfl (by kernel_rfl) (by kernel_rfl) (by kernel_rfl) (fun _ _ _ h => h) (Or.inl ⟨by rfl, ?_⟩) rfl (by assumption) ?_
  rotate_left
  focus (intro w9 hS9; go_simp; try with_reducible rfl)
  try simp only [Act.put, List.setIfInBounds_toArray, List.set_cons_zero, List.set_cons_succ]
  refine takeH_now (i := 14) (some 54) (v := ?_) rfl (by kernel_rfl) (by kernel_rfl) (by kernel_rfl) (fun _ _ _ h => h) (Or.inl ⟨by rfl, ?_⟩) rfl (by assumption) ?_
  rotate_left
  focus (intro w9 hS9; go_simp; try with_reducible rfl)
  try simp only [Act.put, List.setIfInBounds_toArray, List.set_cons_zero, List.set_cons_succ]
  refine takeH_now (i := 15) (some 55) (v := ?_) rfl (by kernel_rfl) (by kernel_rfl) (by kernel_rfl) (fun _ _ _ h => h) (Or.inl ⟨by rfl, ?_⟩) rfl (by assumption) ?_
  rotate_left
  focus (intro w9 hS9; obtain ⟨aC, aL, aK, xL, oC, oL, oK⟩ := HCell.out w9 hS9; clear hS9; go_simp; try with_reducible rfl)
  try simp only [Act.put, List.setIfInBounds_toArray, List.set_cons_zero, List.set_cons_succ]
  refine takeH_now (i := 16) (some 56) (v := ?_) rfl (by kernel_rfl) (by kernel_rfl) (by kernel_rfl) (fun _ _ _ h => h) (Or.inl ⟨by rfl, ?_⟩) rfl (by assumption) ?_
  rotate_left
  focus (intro w9 hS9; go_simp; try with_reducible rfl)
  try simp only [Act.put, List.setIfInBounds_toArray, List.set_cons_zero, List.set_cons_succ]
  refine takeH_now (i := 17) (some 57) (v := ?_) rfl (by kernel_rfl) (by kernel_rfl) (by kernel_rfl) (fun _ _ _ h => h) (Or.inl ⟨by rfl, ?_⟩) rfl (by assumption) ?_
  rotate_left
  focus (intro w9 hS9; go_simp; try with_reducible rfl)
  try simp only [Act.put, List.setIfInBounds_toArray, List.set_cons_zero, List.set_cons_succ]
  refine takeH_now (i := 18) (some 58) (v := ?_) rfl (by kernel_rfl) (by kernel_rfl) (by kernel_rfl) (fun _ _ _ h => h) (Or.inl ⟨by rfl, ?_⟩) rfl (by assumption) ?_
  rotate_left
  focus (intro w9 hS9; obtain ⟨aC, aL, aK, xL, oC, oL, oK⟩ := HCell.out w9 hS9; clear hS9; go_simp; try with_reducible rfl)
  try simp only [Act.put, List.setIfInBounds_toArray, List.set_cons_zero, List.set_cons_succ]
  refine takeH_now (i := 19) (some 59) (v := ?_) rfl (by kernel_rfl) (by kernel_rfl) (by kernel_rfl) (fun _ _ _ h => h) (Or.inl ⟨by rfl, ?_⟩) rfl (by assumption) ?_
  rotate_left
  focus (intro w9 hS9; go_simp; try with_reducible rfl)
  try simp only [Act.put, List.setIfInBounds_toArray, List.set_cons_zero, List.set_cons_succ]
  refine takeH_now (i := 20) (some 60) (v := ?_) rfl (by kernel_rfl) (by kernel_rfl) (by kernel_rfl) (fun _ _ _ h => h) (Or.inl ⟨by rfl, ?_⟩) rfl (by assumption) ?_
  rotate_left
  focus (intro w9 hS9; go_simp; try with_reducible rfl)
  try simp only [Act.put, List.setIfInBounds_toArray, List.set_cons_zero, List.set_cons_succ]
  refine takeH_now (i := 21) (some 61) (v := ?_) rfl (by kernel_rfl) (by kernel_rfl) (by kernel_rfl) (fun _ _ _ h => h) (Or.inl ⟨by rfl, ?_⟩) rfl (by assumption) ?_
  rotate_left
  focus (intro w9 hS9; go_simp; try with_reducible rfl)
  try simp only [Act.put, List.setIfInBounds_toArray, List.set_cons_zero, List.set_cons_succ]
  refine wpAnyH_done (by kernel_rfl) ?_ _
  obtain ⟨W8, hW8⟩ : ∃ W8, wc = W8 := ⟨_, rfl⟩
  rw [hW8] at hHeld ⊢
  clear hW8
  have hlow8 := HX.out.2.2.trans (hHeld.mono HX.out.2.2.size)
  have HA8 := Lib.hid (And.intro (HA.out.1.below hHeld) (And.intro (HA.out.2.1.below hHeld) (HA.out.2.2.below hHeld)))
  have HX8 := Lib.hid (And.intro (HX.out.1.step hHeld) (And.intro (HX.out.2.1.step hHeld) hlow8))
  clear HNo HSa HK HCell hHeld aC aL aK xC xL xK oC oL oK HA HX low hlow8
  obtain ⟨aC, aL, aK⟩ := HA8.out.1.cells
  obtain ⟨xC, xL, xK⟩ := HA8.out.2.1.cells
  obtain ⟨oC, oL, oK⟩ := HA8.out.2.2.cells
  go_wp2_with fail
  go_loopw [9] (fun i wr => ∃ j q : Nat, j ≤ M ∧ i = .int .i64 j ∧ wr = W8.drewN q) (fun i _ => M - (intOf i).toNat)
  case atStart => exact ⟨0, 0, by omega, rfl, rfl⟩
  case round =>
    obtain ⟨j, q, hj, rfl, rfl⟩ := hrel
    by_cases hlt : j < M
    · have hjl : j < L.length := by rw [HM.out.2.1]; exact hlt
      have hjc : j < C.length := by rw [HM.out.1]; exact hlt
      have hjd : j < (dn y C).length := by rw [HM.out.2.2.1]; exact hlt
      obtain ⟨b1, o1, hB1, _, q1⟩ := HX8.out.1.2.1.2 (by omega)
      obtain ⟨b2, o2, hB2, _, q2⟩ := HX8.out.1.2.2.2 (by omega)
      obtain ⟨b3, o3, hB3, _, q3⟩ := HX8.out.2.1.2.2.2 (by omega)
      have hc1 := q1 j hjd
      have hz1 := q2 j hjl
      have hz2 := q3 j hjl
      have hdc : (dn y C)[j]?.getD 0 = dv y (C[j]?.getD 0) := by unfold dn; rw [List.getElem?_map, List.getElem?_eq_getElem hjc]; rfl
      have hcp := HC.out.1.pos (C[j]?.getD 0) (by rw [List.getElem?_eq_getElem hjc]; exact List.getElem_mem _)
      have hzp := HC.out.1.lit (L[j]?.getD 0) (by rw [List.getElem?_eq_getElem hjl]; exact List.getElem_mem _)
      rw [hdc] at hc1
      have hd1 := dv_one hy1 hcp.1
      have hd2 := dv_mono hy1 hcp.2
      rw [HM.out.2.2.2] at hd2
      clear q1 q2 q3 hjl hjc hjd hdc hcp
      generalize dv y (C[j]?.getD 0) = c at *
      generalize L[j]?.getD 0 = z at *
      obtain ⟨zp1, zp2, zp3⟩ := hzp
      have f0 : decide ((M : Int) ≤ (j : Int)) = false := decide_eq_false (by omega)
      have f0' : decide (M ≤ j) = false := decide_eq_false (by omega)
      have f0'' : decide ((j : Int) ≥ (M : Int)) = false := decide_eq_false (by omega)
      have f1 : (z == 0) = false := by simpa using zp1
      have f2 : decide (z > 8) = false := decide_eq_false (by omega)
      have f2' : decide (8 < z) = false := decide_eq_false (by omega)
      have f3 : decide (z < -8) = false := decide_eq_false (by omega)
      have f4 : decide (c < 1) = false := decide_eq_false (by omega)
      have f5 : decide (D < c) = false := decide_eq_false (by omega)
      have f5' : decide (c > D) = false := decide_eq_false (by omega)
      have f6 : (z != z) = false := by simp
      cases hB1
      cases hB2
      cases hB3
      go_wp2
      go_quiet (fail)
      go_wp2
      clear f0 f0' f0'' f1 f2 f2' f3 f4 f5 f5' f6
      go_roundw
      case rel => exact ⟨j + 1, _, by omega, by go_num, rfl⟩
      case measure => simp [intOf]; omega
    · obtain rfl : j = M := by omega
      obtain ⟨W9, hW9⟩ : ∃ W9, W8.drewN q = W9 := ⟨_, rfl⟩
      have h89 : Below W8.heap.size W8 W9 := by rw [← hW9]; exact below_drewN (Below.refl _ _) q
      rw [hW9]
      clear hW9 aC aL aK xC xL xK oC oL oK
      obtain ⟨aC, aL, aK⟩ := (HA8.out.1.below h89).cells
      obtain ⟨xC, xL, xK⟩ := (HA8.out.2.1.below h89).cells
      go_wp2_with fail
      clear aC aL aK xC xL xK
      go_loopw [10] (fun i wr => ∃ p : Nat, p ≤ 256 ∧ i = .int .i64 p ∧ Hid (Below W8.heap.size W8 wr)) (fun i _ => 256 - (intOf i).toNat)
      case atStart => exact ⟨0, by omega, rfl, Lib.hid h89⟩
      case round =>
        obtain ⟨p, hp, rfl, lowp⟩ := hrel
        by_cases hpt : p < 256
        · obtain ⟨ra, hra⟩ : ∃ rr, decide (k ≤ wsum (tru p 8) cs ls) = rr := ⟨_, rfl⟩
          obtain ⟨rx, hrx⟩ : ∃ rr, decide (D ≤ wsum (tru p 8) (dn y C) L) = rr := ⟨_, rfl⟩
          have hall : ra = true → rx = true := fun q1 => by
            rw [← hra] at q1
            rw [← hrx, ← HM.out.2.2.2]
            exact decide_eq_true (cut_means _ hy1 C L ((HC.out.2.2 _).2 (of_decide_eq_true q1)))
          have hHa : ∀ W, Below W8.heap.size W8 W → Calls Try.prog 30 #[.agg #[.slice A1 n1 c1, .slice L1 n1 d1, .int .i64 k], .int .i64 (p : Int)] W fun e w' => e = .returned (.bool ra) ∧ Below W.heap.size W w' := fun W h => by
            have hbw := HX8.out.2.2.trans (h.mono HX8.out.2.2.size)
            have := holds_any w.heap.size n1 c1 d1 A1 L1 k p _ cs ls W (HL.out.1.1.below hbw (Nat.le_refl _)) (HL.out.1.2.below hbw (Nat.le_refl _)) hbw.size HL.out.2.1 HL.out.2.2.1 (by omega) (fun c hc => by have := HL.out.2.2.2.cs c hc; omega) (fun x hx => Lit_of8 (HL.out.2.2.2.ls x hx)) ⟨by omega, by omega⟩ rfl
            rwa [hra] at this
          have hHx : ∀ W, Below W8.heap.size W8 W → Calls Try.prog 30 #[.agg #[.slice A3 j c3, .slice L3 j d3, .int .i64 D], .int .i64 (p : Int)] W fun e w' => e = .returned (.bool rx) ∧ Below W.heap.size W w' := fun W h => by
            have := holds_any W8.heap.size j c3 d3 A3 L3 D p _ (dn y C) L W (HX8.out.1.2.1.below h (Nat.le_refl _)) (HX8.out.1.2.2.below h (Nat.le_refl _)) h.size HM.out.2.2.1 HM.out.2.1 (by omega) (fun c hc => by
              unfold dn at hc
              obtain ⟨u, hu, rfl⟩ := List.mem_map.1 hc
              have a1 := HC.out.1.pos u hu
              have a2 := HC.out.1.big u hu
              have a3 := dv_one hy1 a1.1
              have a4 := dv_le hy1 (show 0 ≤ u by omega)
              omega) (fun x hx => Lit_of8 (HC.out.1.lit x hx)) ⟨by omega, by omega⟩ rfl
            rwa [hrx] at this
          have HHa := Lib.hid hHa
          have HHx := Lib.hid hHx
          have LW := Lib.hid lowp.out
          have HAr := Lib.hid (And.intro (HA8.out.1.below lowp.out) (HA8.out.2.1.below lowp.out))
          obtain ⟨aC, aL, aK⟩ := HAr.out.1.cells
          obtain ⟨xC, xL, xK⟩ := HAr.out.2.cells
          clear hHa hHx hra hrx
          cases ra with
          | true =>
            obtain rfl : rx = true := hall rfl
            clear hall
            go_wp2_with fail
            refine (HHa.out _ LW.out).mono ?_
            rintro e z1 ⟨rfl, hb⟩
            clear aC aL aK xC xL xK
            have LW1 := Lib.hid (LW.out.trans (hb.mono LW.out.size))
            obtain ⟨aC, aL, aK⟩ := (HAr.out.1.below hb).cells
            obtain ⟨xC, xL, xK⟩ := (HAr.out.2.below hb).cells
            clear hb
            go_wp2_with fail
            refine (HHx.out _ LW1.out).mono ?_
            rintro e z2 ⟨rfl, hb⟩
            clear aC aL aK xC xL xK
            have LW2 := Lib.hid (LW1.out.trans (hb.mono LW1.out.size))
            clear hb HHa HHx HAr
            go_wp2_with fail
            go_roundw
            case rel => exact ⟨p + 1, by omega, by go_num, LW2⟩
            case measure => simp [intOf]; omega
          | false =>
            clear hall
            go_wp2_with fail
            refine (HHa.out _ LW.out).mono ?_
            rintro e z1 ⟨rfl, hb⟩
            clear aC aL aK xC xL xK
            have LW1 := Lib.hid (LW.out.trans (hb.mono LW.out.size))
            clear hb HHa HHx HAr
            go_wp2_with fail
            go_roundw
            case rel => exact ⟨p + 1, by omega, by go_num, LW1⟩
            case measure => simp [intOf]; omega
        · obtain rfl : p = 256 := by omega
          have fin : Hid (Below w.heap.size w wr) := Lib.hid (HX8.out.2.2.trans (lowp.out.mono HX8.out.2.2.size))
          clear lowp
          go_wp2_with fail
          go_ret
          exact ⟨rfl, fin.out⟩
theorem csd_any (A1 L1 : Option Addr) (n1 m1 c1 d1 : Nat) (k y : Int) (cs ls : List Int) (w : World) (r1 : RdI w.heap.size w A1 cs) (r2 : RdI w.heap.size w L1 ls) (h1 : cs.length = n1) (h2 : ls.length = m1) :
    Calls Try.prog 10 #[.agg #[.slice A1 n1 c1, .slice L1 m1 d1, .int .i64 k], .int .i64 y] w fun e w' => e = .returned (.bool true) ∧ Below w.heap.size w w' := by
  by_cases f1 : n1 ≤ 60 ∧ m1 ≤ 60
  · by_cases o1 : OkL cs ls k 8
    · by_cases y1 : y < 1
      · exact csd_out2 A1 L1 n1 m1 c1 d1 k y cs ls w r1 r2 h1 h2 ⟨f1, o1, y1⟩
      · by_cases y2 : 1099511627776 < y
        · exact csd_out3 A1 L1 n1 m1 c1 d1 k y cs ls w r1 r2 h1 h2 ⟨f1, o1, y1, y2⟩
        · obtain rfl : n1 = m1 := by have := o1.2.2.1; omega
          exact csd_main A1 L1 n1 c1 d1 k y cs ls w r1 r2 h1 h2 f1.1 o1 (by omega)
    · exact csd_out1 A1 L1 n1 m1 c1 d1 k y cs ls w r1 r2 h1 h2 ⟨f1, o1⟩
  · exact csd_out0 A1 L1 n1 m1 c1 d1 k y cs ls w r1 r2 h1 h2 f1
end Go.Proofs.Ytoacfjmefoiflaa
