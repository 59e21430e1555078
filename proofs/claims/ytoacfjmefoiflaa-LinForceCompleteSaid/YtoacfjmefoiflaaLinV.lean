/- What lin.Value answers for any coefficients. -/
import Derived.Test.YtoacfjmefoiflaaNorm
namespace Go.Proofs.Ytoacfjmefoiflaa
open Go.ChangeShapes Go.WideShapes Go.ChangeAt Go.RowKit
set_option maxRecDepth 100000

/-- The weighted sum of the true literals. -/
def wsum (bs : List Bool) : List Int → List Int → Int
  | c :: cs, l :: ls => (if tv bs l = true then c else 0) + wsum bs cs ls
  | _, _ => 0
theorem wsum_snoc (bs : List Bool) (c l : Int) : ∀ cs ls : List Int, cs.length = ls.length → wsum bs (cs ++ [c]) (ls ++ [l]) = wsum bs cs ls + (if tv bs l = true then c else 0)
  | [], [], _ => by simp [wsum]
  | a :: cs, b :: ls, h => by
    have ih := wsum_snoc bs c l cs ls (by simpa using h)
    show _ + wsum bs (cs ++ [c]) (ls ++ [l]) = _ + wsum bs cs ls + _
    rw [ih]; omega
  | [], b :: ls, h => by simp at h
  | a :: cs, [], h => by simp at h
theorem wsum_take (bs : List Bool) (cs ls : List Int) (j : Nat) (h : cs.length = ls.length) (h1 : j < cs.length) (h2 : j < ls.length) : wsum bs (cs.take (j + 1)) (ls.take (j + 1)) = wsum bs (cs.take j) (ls.take j) + (if tv bs (ls[j]?.getD 0) = true then cs[j]?.getD 0 else 0) := by
  rw [List.take_add_one, List.take_add_one, List.getElem?_eq_getElem h1, List.getElem?_eq_getElem h2]
  exact wsum_snoc bs _ _ _ _ (by rw [List.length_take, List.length_take, h])
theorem wsum_bound (M : Int) (hM : 0 ≤ M) (bs : List Bool) : ∀ cs ls : List Int, (∀ c ∈ cs, -M ≤ c ∧ c ≤ M) → -(M * cs.length) ≤ wsum bs cs ls ∧ wsum bs cs ls ≤ M * cs.length
  | [], ls, _ => by cases ls <;> simp [wsum]
  | c :: cs, [], _ => by
    have : 0 ≤ M * ((c :: cs).length : Int) := Int.mul_nonneg hM (by omega)
    simp only [wsum]; omega
  | c :: cs, l :: ls, h => by
    have ih := wsum_bound M hM bs cs ls fun x hx => h x (List.mem_cons_of_mem _ hx)
    have h1 := h c (by simp)
    have e : M * ((c :: cs).length : Int) = M * (cs.length : Int) + M := by
      rw [List.length_cons, Int.natCast_add, Int.mul_add]; simp
    rw [e]
    simp only [wsum]
    split <;> omega

theorem vterm_any (B g : Nat) (A : Option Addr) (v n c : Nat) (bs : List Bool) (x s t : Int) (w : World) (hg : w.cell? ⟨g, 0, none⟩ = some (.slice A n c)) (hr : RdB B w A bs) (hl : bs.length = n) (hx : Lit v x) (hv : v ≤ n) (hn : n ≤ 65538) (hs1 : -9007199254740992 ≤ s) (hs2 : s ≤ 9007199254740992) (ht1 : -1099511627776 ≤ t) (ht2 : t ≤ 1099511627776) :
    Calls Try.prog 49 #[.int .i64 s, .int .i64 t, .int .i64 x, .pointer (some ⟨g, 0, none⟩)] w fun e w' => e = .returned (.int .i64 (s + if tv bs x = true then t else 0)) ∧ w = w' := by
  obtain ⟨k, h1, h2, hk⟩ := hx.two
  obtain ⟨b, off, rfl, _, hc⟩ := hr (by omega)
  have hc1 := hc k (by omega)
  clear hc hr hx
  rcases hk with rfl | rfl
  · rw [tv_pos]
    generalize bs[k]?.getD false = z at *
    have e1 : max (k : Int) (-(k : Int)) = (k : Int) := by omega
    have e1' : (if (k : Int) < -(k : Int) then -(k : Int) else (k : Int)) = (k : Int) := by split <;> omega
    have e1'' : (if -(k : Int) < (k : Int) then (k : Int) else -(k : Int)) = (k : Int) := by split <;> omega
    have e2 : decide ((0 : Int) < (k : Int)) = true := decide_eq_true (by omega)
    have e2' : decide (0 < k) = true := decide_eq_true (by omega)
    have e3 : decide ((k : Int) < (n : Int)) = true := decide_eq_true (by omega)
    cases z
    · go_enter Try.func49, Try.ntmps49
      go_wp2
      go_ret
      exact ⟨by simp, rfl⟩
    · go_enter Try.func49, Try.ntmps49
      go_wp2
      go_ret
      exact ⟨by simp, rfl⟩
  · rw [tv_neg _ _ h1]
    generalize bs[k]?.getD false = z at *
    have e1 : max (-(k : Int)) (k : Int) = (k : Int) := by omega
    have e2 : decide ((0 : Int) < -(k : Int)) = false := decide_eq_false (by omega)
    have e2' : decide ((k : Int) < 0) = false := decide_eq_false (by omega)
    have e3 : decide ((k : Int) < (n : Int)) = true := decide_eq_true (by omega)
    cases z
    · go_enter Try.func49, Try.ntmps49
      go_wp2
      go_ret
      exact ⟨by simp, rfl⟩
    · go_enter Try.func49, Try.ntmps49
      go_wp2
      go_ret
      exact ⟨by simp, rfl⟩

set_option maxHeartbeats 4000000 in
theorem vfold_any (B C g : Nat) (AC AL A : Option Addr) (n cc lc N c : Nat) (k : Int) (cs zs : List Int) (bs : List Bool) (w : World) (hg : w.cell? ⟨g, 0, none⟩ = some (.slice A N c)) (hgb : g < w.heap.size) (hc : RdI B w AC cs) (hr : RdI B w AL zs) (hB : B ≤ w.heap.size) (hC : C ≤ w.heap.size) (hcl : cs.length = n) (hl : zs.length = n) (hn : n ≤ 4096) (hcs : ∀ x ∈ cs, -1099511627776 ≤ x ∧ x ≤ 1099511627776)
    (hbr : RdB C w A bs) (hbl : bs.length = N) (hN : N ≤ 65538) (hz : ∀ x ∈ zs, Lit N x) :
    Calls Try.prog 45 #[.agg #[.slice AC n cc, .slice AL n lc, .int .i64 k], .int .i64 0, .func (.func 49) #[] #[.pointer (some ⟨g, 0, none⟩)]] w fun e w' => e = .returned (.int .i64 (wsum bs cs zs)) ∧ Below w.heap.size w w' := by
  have hb1 := (Below.refl w.heap.size w).alloc (Nat.le_refl _) (.cells #[.slice AC n cc, .slice AL n lc, .int .i64 k] 24)
  have Hb := Lib.hid hb1
  have Hl := Lib.hid (And.intro hcl hl)
  have Hcs := Lib.hid hcs
  have Hz := Lib.hid hz
  have hct : wsum bs (cs.take n) (zs.take n) = wsum bs cs zs := by rw [List.take_of_length_le (by omega), List.take_of_length_le (by omega)]
  have Hct := Lib.hid hct
  have Hgen := fun s t x => Lib.hid (fun (h : Lit N x) (hs1 : -9007199254740992 ≤ s) (hs2 : s ≤ 9007199254740992) (ht1 : -1099511627776 ≤ t) (ht2 : t ≤ 1099511627776) (W : World) (h1 : Below w.heap.size w W) => vterm_any C g A N N c bs x s t W ((h1.cell (p := ⟨g, 0, none⟩) hgb).trans hg) (hbr.below h1 hC) hbl h (Nat.le_refl _) hN hs1 hs2 ht1 ht2)
  clear hb1 hcl hl hcs hz hct
  go_enter Try.func45, Try.ntmps45
  go_wp2_with fail
  obtain ⟨W1, hW1⟩ : ∃ W, W = w.alloc (.cells #[.slice AC n cc, .slice AL n lc, .int .i64 k] 24) := ⟨_, rfl⟩
  rw [← hW1]
  have hat : LinAt W1 w.heap.size (.slice AC n cc) (.slice AL n lc) k 24 := by rw [hW1]; exact heap_alloc_new _ _
  obtain ⟨cC, cL, cK⟩ := hat.cells
  have hb := Hb.out
  rw [← hW1] at hb
  clear Hb hW1 hg hbr hat
  have hr := hr.below hb hB
  have hc := hc.below hb hB
  go_wp2_with fail
  go_loopw [1, 12] (fun a i wr => ∃ j : Nat, j ≤ n ∧ a = .int .i64 (wsum bs (cs.take j) (zs.take j)) ∧ i = .int .i64 j ∧ W1 = wr) (fun _ i _ => n - (intOf i).toNat)
  case atStart => exact ⟨0, by omega, rfl, rfl, rfl⟩
  case round =>
    obtain ⟨j, hj, rfl, rfl, rfl⟩ := hrel
    by_cases hlt : j < n
    · have hjz : j < zs.length := by rw [Hl.out.2]; exact hlt
      have hjc : j < cs.length := by rw [Hl.out.1]; exact hlt
      have hnext := wsum_take bs cs zs j (Hl.out.1.trans Hl.out.2.symm) hjc hjz
      have hle := wsum_bound 1099511627776 (by omega) bs (cs.take j) (zs.take j) (fun c hc => Hcs.out c (List.mem_of_mem_take hc))
      rw [List.length_take, Nat.min_eq_left (by omega)] at hle
      obtain ⟨b, off, rfl, _, hcz⟩ := hr.2 (by omega)
      obtain ⟨b2, off2, rfl, _, hcc⟩ := hc.2 (by omega)
      have hz1 := hcz j hjz
      have hc1 := hcc j hjc
      have hlit := Hz.out (zs[j]?.getD 0) (by rw [List.getElem?_eq_getElem hjz]; exact List.getElem_mem _)
      have ho := Hcs.out (cs[j]?.getD 0) (by rw [List.getElem?_eq_getElem hjc]; exact List.getElem_mem _)
      have hM := Lib.hid ((Hgen (wsum bs (cs.take j) (zs.take j)) (cs[j]?.getD 0) (zs[j]?.getD 0)).out hlit (by omega) (by omega) ho.1 ho.2 W1 hb)
      clear hcz hcc hlit ho hr hc hjz hjc
      rw [← hnext] at hM
      obtain ⟨y', hy'⟩ : ∃ y', wsum bs (cs.take (j + 1)) (zs.take (j + 1)) = y' := ⟨_, rfl⟩
      rw [hy'] at hM
      have HY' := Lib.hid hy'
      clear hnext hle Hgen hy'
      generalize zs[j]?.getD 0 = x at *
      generalize cs[j]?.getD 0 = t at *
      generalize wsum bs (cs.take j) (zs.take j) = y at *
      go_wp2_with fail
      refine hM.out.mono ?_
      rintro e w' ⟨rfl, rfl⟩
      go_wp2_with fail
      go_roundw
      case rel => exact ⟨j + 1, by omega, by rw [HY'.out], by go_num, trivial⟩
      case measure => simp [intOf]; omega
    · obtain rfl : j = n := by omega
      rw [Hct.out]
      go_wp2_with fail
      go_ret
      exact ⟨rfl, hb⟩

set_option maxHeartbeats 4000000 in
theorem linValue_any (B C : Nat) (AC AL A : Option Addr) (n cc lc N c : Nat) (T : Int) (k : Int) (cs zs : List Int) (bs : List Bool) (w : World) (hc : RdI B w AC cs) (hr : RdI B w AL zs) (hB : B ≤ w.heap.size) (hC : C ≤ w.heap.size) (hcl : cs.length = n) (hl : zs.length = n) (hn : n ≤ 4096) (hok : OkL cs zs k 65536)
    (hbr : RdB C w A bs) (hbl : bs.length = N) (hN : N ≤ 65537) (hz : ∀ x ∈ zs, Lit N x) (hcs : ∀ x ∈ cs, -1099511627776 ≤ x ∧ x ≤ 1099511627776) (hT : wsum bs cs zs = T) :
    Calls Try.prog 23 #[.agg #[.slice AC n cc, .slice AL n lc, .int .i64 k], .slice A N c] w fun e w' => e = .returned (.bool (decide (k ≤ T))) ∧ Below w.heap.size w w' := by
  have hb1 := (Below.refl w.heap.size w).alloc (Nat.le_refl _) (.cells #[.slice AC n cc, .slice AL n lc, .int .i64 k] 24)
  have hb2 := hb1.alloc (by simp) (.cells #[.slice A N c] 32)
  have Hb := Lib.hid hb2
  have HL := fun (W : World) (h : Below w.heap.size w W) => Lib.hid ((LinCheck_any B AC AL n n cc lc k 65536 cs zs W (hc.below h hB) (hr.below h hB) (by have := h.size; omega) hcl hl hn (by omega) (by omega)).1 hok)
  have HF := fun (W : World) (g : Nat) => Lib.hid (fun (h : Below w.heap.size w W) (hg : W.cell? ⟨g, 0, none⟩ = some (.slice A N c)) (hgb : g < W.heap.size) => vfold_any B C g AC AL A n cc lc N c k cs zs bs W hg hgb (hc.below h hB) (hr.below h hB) (by have := h.size; omega) (by have := h.size; omega) hcl hl hn hcs (hbr.below h hC) hbl (by omega) hz)
  rw [hT] at HF
  clear hb1 hb2 hc hr hbr hcl hl hcs hz hbl hT hok
  go_enter Try.func23, Try.ntmps23
  go_wp2_with fail
  obtain ⟨W1, hW1⟩ : ∃ W, W = (w.alloc (.cells #[.slice AC n cc, .slice AL n lc, .int .i64 k] 24)).alloc (.cells #[.slice A N c] 32) := ⟨_, rfl⟩
  rw [← hW1]
  have hb := Hb.out
  rw [← hW1] at hb
  have hg0 : LinAt W1 w.heap.size (.slice AC n cc) (.slice AL n lc) k 24 := by rw [hW1]; exact (heap_alloc_old _ _ (by simp)).trans (heap_alloc_new _ _)
  obtain ⟨cC, cL, cK⟩ := hg0.cells
  have cA : W1.cell? ⟨w.heap.size + 1, 0, none⟩ = some (.slice A N c) := by
    have := cell_of_row W1 (w.heap.size + 1) 0 #[.slice A N c] 32 (0, 0) (by rw [hW1]; have := heap_alloc_new (w.alloc (.cells #[.slice AC n cc, .slice AL n lc, .int .i64 k] 24)) (.cells #[.slice A N c] 32); rw [World.size_alloc] at this; exact this)
    rw [this]; rfl
  have hsW : W1.heap.size = w.heap.size + 2 := by rw [hW1]; simp
  have hI := HL W1 hb
  clear hW1 Hb HL
  go_wp2_with fail
  refine hI.out.mono ?_
  rintro e w2 ⟨rfl, hb2⟩
  clear cC cL cK
  have hg2 : LinAt w2 w.heap.size (.slice AC n cc) (.slice AL n lc) k 24 := (hb2.block w.heap.size (by omega)).trans hg0
  obtain ⟨cC, cL, cK⟩ := hg2.cells
  have cA2 := (hb2.cell (p := ⟨w.heap.size + 1, 0, none⟩) (by show w.heap.size + 1 < W1.heap.size; omega)).trans cA
  have hb02 := hb.trans (hb2.mono hb.size)
  have hsz2 := hb2.size
  have hJ := Lib.hid ((HF w2 (w.heap.size + 1)).out hb02 cA2 (by omega))
  have HG := Lib.hid hg2
  clear hI HF cA hg0 hg2
  go_wp2_with fail
  refine hJ.out.mono ?_
  rintro e w3 ⟨rfl, hb3⟩
  have hg3 : LinAt w3 w.heap.size (.slice AC n cc) (.slice AL n lc) k 24 := (hb3.block w.heap.size (by omega)).trans HG.out
  clear cC cL cK
  obtain ⟨cC, cL, cK⟩ := hg3.cells
  have hb03 := hb02.trans (hb3.mono hb02.size)
  clear hJ hb3 HG cA2 hg3
  go_wp2_with fail
  go_ret
  exact ⟨rfl, hb03⟩
end Go.Proofs.Ytoacfjmefoiflaa
