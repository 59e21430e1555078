/- What lin.Check and lin.Value answer for coefficients 1. -/
import Derived.Test.YtpiomdnkemoanaaCap
namespace Go.Proofs.Ytpiomdnkemoanaa
open Go.ChangeShapes Go.WideShapes Go.ChangeAt Go.RowKit

theorem number_any (x : Int) (w : World) (h1 : -1099511627776 ≤ x) (h2 : x ≤ 1099511627776) : Calls Try.prog 47 #[.int .i64 x] w fun e w' => e = .returned (.bool true) ∧ w = w' := by
  go_enter Try.func47, Try.ntmps47
  go_wp2
  go_ret
  exact ⟨rfl, rfl⟩
theorem literal48_any (x : Int) (w : World) (h : Lit 65537 x) : Calls Try.prog 48 #[.int .i64 x, .int .i64 65536] w fun e w' => e = .returned (.bool true) ∧ w = w' := by
  obtain ⟨a, b, c⟩ := h
  have e1 : (x != 0) = true := by simp [a]
  have e2 : decide (-65536 ≤ x) = true := decide_eq_true (by omega)
  have e3 : decide (x ≤ 65536) = true := decide_eq_true (by omega)
  go_enter Try.func48, Try.ntmps48
  go_wp2
  go_ret
  exact ⟨rfl, rfl⟩

set_option maxRecDepth 30000 in
set_option maxHeartbeats 4000000 in
theorem LinCheck_ok (B : Nat) (AC AL : Option Addr) (n cc lc : Nat) (k : Int) (cs zs : List Int) (w : World) (hc : RdI B w AC cs) (hr : RdI B w AL zs) (hB : B ≤ w.heap.size) (hcl : cs.length = n) (hl : zs.length = n) (hn : n ≤ 4096) (h1 : -100 ≤ k) (h2 : k ≤ 100) (hone : ∀ x ∈ cs, x = 1) (hz : ∀ x ∈ zs, Lit 65537 x) :
    Calls Try.prog 38 #[.agg #[.slice AC n cc, .slice AL n lc, .int .i64 k], .int .i64 65536] w fun e w' => e = .returned (.int .i64 0) ∧ Below w.heap.size w w' := by
  have hb1 := (Below.refl w.heap.size w).alloc (Nat.le_refl _) (.cells #[.slice AC n cc, .slice AL n lc, .int .i64 k] 45)
  have Hb := Lib.hid hb1
  have Hl := Lib.hid (And.intro hcl hl)
  have Hone := Lib.hid hone
  have Hz := Lib.hid hz
  have hnk := number_any k
  clear hb1 hcl hl hone hz
  go_enter Try.func38, Try.ntmps38
  go_wp2_with fail
  obtain ⟨W1, hW1⟩ : ∃ W, W = w.alloc (.cells #[.slice AC n cc, .slice AL n lc, .int .i64 k] 45) := ⟨_, rfl⟩
  rw [← hW1]
  have cC : W1.cell? ⟨w.heap.size, 0, none⟩ = some (.slice AC n cc) := by
    have := cell_of_row W1 w.heap.size 0 #[.slice AC n cc, .slice AL n lc, .int .i64 k] 45 (0, 0) (by rw [hW1]; exact heap_alloc_new _ _)
    rw [this]; rfl
  have cL : W1.cell? ⟨w.heap.size, 1, none⟩ = some (.slice AL n lc) := by
    have := cell_of_row W1 w.heap.size 1 #[.slice AC n cc, .slice AL n lc, .int .i64 k] 45 (0, 0) (by rw [hW1]; exact heap_alloc_new _ _)
    rw [this]; rfl
  have cK : W1.cell? ⟨w.heap.size, 2, none⟩ = some (.int .i64 k) := by
    have := cell_of_row W1 w.heap.size 2 #[.slice AC n cc, .slice AL n lc, .int .i64 k] 45 (0, 0) (by rw [hW1]; exact heap_alloc_new _ _)
    rw [this]; rfl
  have hb := Hb.out
  rw [← hW1] at hb
  clear Hb hW1
  have hr := hr.below hb hB
  have hc := hc.below hb hB
  go_wp2_with fail
  refine (hnk _ (by omega) (by omega)).mono ?_
  rintro e w' ⟨rfl, rfl⟩
  go_wp2_with fail
  go_loopw [31] (fun i wr => ∃ j : Nat, j ≤ n ∧ i = .int .i64 j ∧ W1 = wr) (fun i _ => n - (intOf i).toNat)
  case atStart => exact ⟨0, by omega, rfl, rfl⟩
  case round =>
    obtain ⟨j, hj, rfl, rfl⟩ := hrel
    by_cases hlt : j < n
    · have hjz : j < zs.length := by rw [Hl.out.2]; exact hlt
      have hjc : j < cs.length := by rw [Hl.out.1]; exact hlt
      obtain ⟨b, off, rfl, _, hcz⟩ := hr.2 (by omega)
      obtain ⟨b2, off2, rfl, _, hcc⟩ := hc.2 (by omega)
      have hz1 := hcz j hjz
      have hc1 := hcc j hjc
      have hlit := Hz.out (zs[j]?.getD 0) (by rw [List.getElem?_eq_getElem hjz]; exact List.getElem_mem _)
      have ho := Hone.out (cs[j]?.getD 0) (by rw [List.getElem?_eq_getElem hjc]; exact List.getElem_mem _)
      rw [ho] at hc1
      have hM := Lib.hid (fun W => literal48_any (zs[j]?.getD 0) W hlit)
      clear hcz hcc hlit ho hr hc hjz hjc
      generalize zs[j]?.getD 0 = x at *
      go_wp2_with fail
      refine (number_any 1 _ (by omega) (by omega)).mono ?_
      rintro e w' ⟨rfl, rfl⟩
      go_wp2_with fail
      refine (hM.out _).mono ?_
      rintro e w' ⟨rfl, rfl⟩
      go_wp2_with fail
      go_roundw
      case rel => exact ⟨j + 1, by omega, by go_num, trivial⟩
      case measure => simp [intOf]; omega
    · obtain rfl : j = n := by omega
      go_wp2_with fail
      go_ret
      exact ⟨rfl, hb⟩

/-- What a literal adds. -/
def one (bs : List Bool) (x : Int) : Nat := if tv bs x then 1 else 0
theorem term_any (B g : Nat) (A : Option Addr) (v n c : Nat) (bs : List Bool) (x : Int) (s : Nat) (w : World) (hg : w.cell? ⟨g, 0, none⟩ = some (.slice A n c)) (hr : RdB B w A bs) (hl : bs.length = n) (hx : Lit v x) (hv : v ≤ n) (hn : n ≤ 65538) (hs : s ≤ 100000) :
    Calls Try.prog 40 #[.int .i64 (s : Int), .int .i64 1, .int .i64 x, .pointer (some ⟨g, 0, none⟩)] w fun e w' => e = .returned (.int .i64 ((s + one bs x : Nat) : Int)) ∧ w = w' := by
  obtain ⟨k, h1, h2, hk⟩ := hx.two
  obtain ⟨b, off, rfl, _, hc⟩ := hr (by omega)
  have hc1 := hc k (by omega)
  clear hc hr hx
  rcases hk with rfl | rfl
  · have e0 : one bs (k : Int) = if bs[k]?.getD false then 1 else 0 := by unfold one; rw [tv_pos]
    rw [e0]
    clear e0
    generalize bs[k]?.getD false = z at *
    have e1 : max (k : Int) (-(k : Int)) = (k : Int) := by omega
    have e1' : (if (k : Int) < -(k : Int) then -(k : Int) else (k : Int)) = (k : Int) := by split <;> omega
    have e1'' : (if -(k : Int) < (k : Int) then (k : Int) else -(k : Int)) = (k : Int) := by split <;> omega
    have e2 : decide ((0 : Int) < (k : Int)) = true := decide_eq_true (by omega)
    have e2' : decide (0 < k) = true := decide_eq_true (by omega)
    have e3 : decide ((k : Int) < (n : Int)) = true := decide_eq_true (by omega)
    cases z
    · go_enter Try.func40, Try.ntmps40
      go_wp2
      go_ret
      exact ⟨rfl, rfl⟩
    · go_enter Try.func40, Try.ntmps40
      go_wp2
      go_ret
      exact ⟨by first | rfl | go_num, rfl⟩
  · have e0 : one bs (-(k : Int)) = if bs[k]?.getD false then 0 else 1 := by unfold one; rw [tv_neg _ _ h1]; cases bs[k]?.getD false <;> rfl
    rw [e0]
    clear e0
    generalize bs[k]?.getD false = z at *
    have e1 : max (-(k : Int)) (k : Int) = (k : Int) := by omega
    have e2 : decide ((0 : Int) < -(k : Int)) = false := decide_eq_false (by omega)
    have e2' : decide ((k : Int) < 0) = false := decide_eq_false (by omega)
    have e3 : decide ((k : Int) < (n : Int)) = true := decide_eq_true (by omega)
    cases z
    · go_enter Try.func40, Try.ntmps40
      go_wp2
      go_ret
      exact ⟨by first | rfl | go_num, rfl⟩
    · go_enter Try.func40, Try.ntmps40
      go_wp2
      go_ret
      exact ⟨rfl, rfl⟩

set_option maxRecDepth 30000 in
set_option maxHeartbeats 4000000 in
theorem fold_any (B C g : Nat) (AC AL A : Option Addr) (n cc lc N c : Nat) (k : Int) (cs zs : List Int) (bs : List Bool) (w : World) (hg : w.cell? ⟨g, 0, none⟩ = some (.slice A N c)) (hgb : g < w.heap.size) (hc : RdI B w AC cs) (hr : RdI B w AL zs) (hB : B ≤ w.heap.size) (hC : C ≤ w.heap.size) (hcl : cs.length = n) (hl : zs.length = n) (hn : n ≤ 4096) (hone : ∀ x ∈ cs, x = 1)
    (hbr : RdB C w A bs) (hbl : bs.length = N) (hN : N ≤ 65538) (hz : ∀ x ∈ zs, Lit N x) :
    Calls Try.prog 39 #[.agg #[.slice AC n cc, .slice AL n lc, .int .i64 k], .int .i64 0, .func (.func 40) #[] #[.pointer (some ⟨g, 0, none⟩)]] w fun e w' => e = .returned (.int .i64 (ct bs zs : Int)) ∧ Below w.heap.size w w' := by
  have hb1 := (Below.refl w.heap.size w).alloc (Nat.le_refl _) (.cells #[.slice AC n cc, .slice AL n lc, .int .i64 k] 45)
  have Hb := Lib.hid hb1
  have Hl := Lib.hid (And.intro hcl hl)
  have Hone := Lib.hid hone
  have Hz := Lib.hid hz
  have hct : ct bs (zs.take n) = ct bs zs := by rw [← hl, List.take_length]
  have Hct := Lib.hid hct
  have Hgen := fun s x => Lib.hid (fun (h : Lit N x) (hs : s ≤ 100000) (W : World) (h1 : Below w.heap.size w W) => term_any C g A N N c bs x s W ((h1.cell (p := ⟨g, 0, none⟩) hgb).trans hg) (hbr.below h1 hC) hbl h (Nat.le_refl _) hN hs)
  clear hb1 hcl hl hone hz hct
  go_enter Try.func39, Try.ntmps39
  go_wp2_with fail
  obtain ⟨W1, hW1⟩ : ∃ W, W = w.alloc (.cells #[.slice AC n cc, .slice AL n lc, .int .i64 k] 45) := ⟨_, rfl⟩
  rw [← hW1]
  have cC : W1.cell? ⟨w.heap.size, 0, none⟩ = some (.slice AC n cc) := by
    have := cell_of_row W1 w.heap.size 0 #[.slice AC n cc, .slice AL n lc, .int .i64 k] 45 (0, 0) (by rw [hW1]; exact heap_alloc_new _ _)
    rw [this]; rfl
  have cL : W1.cell? ⟨w.heap.size, 1, none⟩ = some (.slice AL n lc) := by
    have := cell_of_row W1 w.heap.size 1 #[.slice AC n cc, .slice AL n lc, .int .i64 k] 45 (0, 0) (by rw [hW1]; exact heap_alloc_new _ _)
    rw [this]; rfl
  have hb := Hb.out
  rw [← hW1] at hb
  clear Hb hW1 hg hbr
  have hr := hr.below hb hB
  have hc := hc.below hb hB
  go_wp2_with fail
  go_loopw [1, 12] (fun a i wr => ∃ j : Nat, j ≤ n ∧ a = .int .i64 (ct bs (zs.take j) : Int) ∧ i = .int .i64 j ∧ W1 = wr) (fun _ i _ => n - (intOf i).toNat)
  case atStart => exact ⟨0, by omega, rfl, rfl, rfl⟩
  case round =>
    obtain ⟨j, hj, rfl, rfl, rfl⟩ := hrel
    by_cases hlt : j < n
    · have hjz : j < zs.length := by rw [Hl.out.2]; exact hlt
      have hjc : j < cs.length := by rw [Hl.out.1]; exact hlt
      have hnext := ct_take bs zs j hjz
      have hle := ct_take_le bs zs j
      obtain ⟨b, off, rfl, _, hcz⟩ := hr.2 (by omega)
      obtain ⟨b2, off2, rfl, _, hcc⟩ := hc.2 (by omega)
      have hz1 := hcz j hjz
      have hc1 := hcc j hjc
      have hlit := Hz.out (zs[j]?.getD 0) (by rw [List.getElem?_eq_getElem hjz]; exact List.getElem_mem _)
      have ho := Hone.out (cs[j]?.getD 0) (by rw [List.getElem?_eq_getElem hjc]; exact List.getElem_mem _)
      rw [ho] at hc1
      have hM := Lib.hid ((Hgen (ct bs (zs.take j)) (zs[j]?.getD 0)).out hlit (by omega) W1 hb)
      clear hcz hcc hlit ho hr hc hjz hjc
      generalize zs[j]?.getD 0 = x at *
      have Hn := Lib.hid hnext
      clear hnext
      generalize ct bs (zs.take j) = y at *
      go_wp2_with fail
      refine hM.out.mono ?_
      rintro e w' ⟨rfl, rfl⟩
      go_wp2_with fail
      go_roundw
      case rel => exact ⟨j + 1, by omega, by rw [Hn.out]; rfl, by go_num, trivial⟩
      case measure => simp [intOf]; omega
    · obtain rfl : j = n := by omega
      rw [Hct.out]
      go_wp2_with fail
      go_ret
      exact ⟨rfl, hb⟩

set_option maxRecDepth 30000 in
set_option maxHeartbeats 4000000 in
theorem Value_any (B C : Nat) (AC AL A : Option Addr) (n cc lc N c T : Nat) (k : Int) (cs zs : List Int) (bs : List Bool) (w : World) (hc : RdI B w AC cs) (hr : RdI B w AL zs) (hB : B ≤ w.heap.size) (hC : C ≤ w.heap.size) (hcl : cs.length = n) (hl : zs.length = n) (hn : n ≤ 4096) (hone : ∀ x ∈ cs, x = 1) (h1 : -100 ≤ k) (h2 : k ≤ 100)
    (hbr : RdB C w A bs) (hbl : bs.length = N) (hN : N ≤ 65537) (hz : ∀ x ∈ zs, Lit N x) (hT : ct bs zs = T) :
    Calls Try.prog 26 #[.agg #[.slice AC n cc, .slice AL n lc, .int .i64 k], .slice A N c] w fun e w' => e = .returned (.bool (decide (k ≤ (T : Int)))) ∧ Below w.heap.size w w' := by
  have hb1 := (Below.refl w.heap.size w).alloc (Nat.le_refl _) (.cells #[.slice AC n cc, .slice AL n lc, .int .i64 k] 45)
  have hb2 := hb1.alloc (by simp) (.cells #[.slice A N c] 30)
  have Hb := Lib.hid hb2
  have Hc := Lib.hid hc
  have Hr := Lib.hid hr
  have Hbr := Lib.hid hbr
  have HL := fun (W : World) (h : Below w.heap.size w W) => Lib.hid (LinCheck_ok B AC AL n cc lc k cs zs W (hc.below h hB) (hr.below h hB) (by have := h.size; omega) hcl hl hn h1 h2 hone (fun x hx => (hz x hx).mono (by omega)))
  have HF := fun (W : World) (g : Nat) => Lib.hid (fun (h : Below w.heap.size w W) (hg : W.cell? ⟨g, 0, none⟩ = some (.slice A N c)) (hgb : g < W.heap.size) => fold_any B C g AC AL A n cc lc N c k cs zs bs W hg hgb (hc.below h hB) (hr.below h hB) (by have := h.size; omega) (by have := h.size; omega) hcl hl hn hone (hbr.below h hC) hbl (by omega) hz)
  rw [hT] at HF
  clear hb1 hb2 hc hr hbr hcl hl hone hz hbl hT
  go_enter Try.func26, Try.ntmps26
  go_wp2_with fail
  obtain ⟨W1, hW1⟩ : ∃ W, W = (w.alloc (.cells #[.slice AC n cc, .slice AL n lc, .int .i64 k] 45)).alloc (.cells #[.slice A N c] 30) := ⟨_, rfl⟩
  rw [← hW1]
  have cC : W1.cell? ⟨w.heap.size, 0, none⟩ = some (.slice AC n cc) := by
    have := cell_of_row W1 w.heap.size 0 #[.slice AC n cc, .slice AL n lc, .int .i64 k] 45 (0, 0) (by rw [hW1]; exact (heap_alloc_old _ _ (by simp)).trans (heap_alloc_new _ _))
    rw [this]; rfl
  have hb := Hb.out
  rw [← hW1] at hb
  have hg0 : W1.heap[w.heap.size]? = some (.cells #[.slice AC n cc, .slice AL n lc, .int .i64 k] 45 (0, 0)) := by rw [hW1]; exact (heap_alloc_old _ _ (by simp)).trans (heap_alloc_new _ _)
  have cA : W1.cell? ⟨w.heap.size + 1, 0, none⟩ = some (.slice A N c) := by
    have := cell_of_row W1 (w.heap.size + 1) 0 #[.slice A N c] 30 (0, 0) (by rw [hW1]; have := heap_alloc_new (w.alloc (.cells #[.slice AC n cc, .slice AL n lc, .int .i64 k] 45)) (.cells #[.slice A N c] 30); rw [World.size_alloc] at this; exact this)
    rw [this]; rfl
  have hsW : W1.heap.size = w.heap.size + 2 := by rw [hW1]; simp
  have hI := HL W1 hb
  clear hW1 Hb HL cC
  go_wp2_with fail
  refine hI.out.mono ?_
  rintro e w2 ⟨rfl, hb2⟩
  have hg2 := (hb2.block w.heap.size (by omega)).trans hg0
  have q0 : w2.cell? ⟨w.heap.size, 0, none⟩ = some (.slice AC n cc) := by rw [cell_of_row w2 w.heap.size 0 _ 45 (0, 0) hg2]; rfl
  have q1 : w2.cell? ⟨w.heap.size, 1, none⟩ = some (.slice AL n lc) := by rw [cell_of_row w2 w.heap.size 1 _ 45 (0, 0) hg2]; rfl
  have q2 : w2.cell? ⟨w.heap.size, 2, none⟩ = some (.int .i64 k) := by rw [cell_of_row w2 w.heap.size 2 _ 45 (0, 0) hg2]; rfl
  have cA2 := (hb2.cell (p := ⟨w.heap.size + 1, 0, none⟩) (by show w.heap.size + 1 < W1.heap.size; omega)).trans cA
  have hb02 := hb.trans (hb2.mono hb.size)
  have hsz2 := hb2.size
  have hJ := Lib.hid ((HF w2 (w.heap.size + 1)).out hb02 cA2 (by omega))
  clear hI HF cA hg0
  go_wp2_with fail
  refine hJ.out.mono ?_
  rintro e w3 ⟨rfl, hb3⟩
  have cK3 : w3.cell? ⟨w.heap.size, 2, none⟩ = some (.int .i64 k) := by
    have := cell_of_row w3 w.heap.size 2 #[.slice AC n cc, .slice AL n lc, .int .i64 k] 45 (0, 0) ((hb3.block w.heap.size (by omega)).trans hg2)
    rw [this]; rfl
  have hb03 := hb02.trans (hb3.mono hb02.size)
  clear hJ hb3 hg2 cA2
  go_wp2_with fail
  go_ret
  exact ⟨rfl, hb03⟩
end Go.Proofs.Ytpiomdnkemoanaa
