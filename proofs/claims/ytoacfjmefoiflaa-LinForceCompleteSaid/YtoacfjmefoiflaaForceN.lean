/- The fold that gathers what is forced. -/
import Derived.Test.YtoacfjmefoiflaaForceM
namespace Go.Proofs.Ytoacfjmefoiflaa
open Go.RowKit Go.Maps
set_option maxRecDepth 100000

set_option maxHeartbeats 4000000 in
theorem gterm_any (g b m g2 base : Nat) (lits fs : List Int) (v : Value) (x s t : Int) (w : World) (hg : w.cell? ⟨g, 0, none⟩ = some (.map (some b))) (hg2 : w.cell? ⟨g2, 0, none⟩ = some (.int .i64 s)) (hM : MB w b m lits) (hx : -65536 ≤ x ∧ x ≤ 65536)
    (hrow : RowI w base v fs) (hlen : fs.length ≤ 1000000) (hbase : base ≤ w.heap.size) :
    Calls Try.prog 48 #[v, .int .i64 t, .int .i64 x, .pointer (some ⟨g, 0, none⟩), .pointer (some ⟨g2, 0, none⟩)] w fun e w' => ∃ v', e = .returned v' ∧ RowI w' base v' (fs ++ if x ∈ lits ∨ -x ∈ lits ∨ t ≤ s then [] else [x]) ∧ Below base w w' := by
  obtain ⟨hx1, hx2⟩ := hx
  have hl := hM.look (z := x) ⟨by omega, by omega⟩
  have hl2 := hM.look (z := -x) ⟨by omega, by omega⟩
  have hneg : wrap64 (-x) = -x := IntWalk.wrap64_in _ (by omega)
  obtain ⟨A, c, hv, _⟩ := hrow.shape
  obtain ⟨n, hn⟩ : ∃ n, fs.length = n := ⟨_, rfl⟩
  rw [hn] at hv
  have HN := Lib.hid hn
  subst hv
  clear hM hn
  by_cases h1 : x ∈ lits
  · rw [decide_eq_true h1] at hl
    rw [if_pos (.inl h1), List.append_nil]
    have hrow := Lib.hid hrow
    clear h1
    go_enter Try.func48, Try.ntmps48
    go_wp2_with fail
    go_ret
    exact ⟨_, rfl, hrow.out, Below.refl _ _⟩
  · rw [decide_eq_false h1] at hl
    by_cases h2 : -x ∈ lits
    · rw [decide_eq_true h2] at hl2
      rw [if_pos (.inr (.inl h2)), List.append_nil]
      have hrow := Lib.hid hrow
      clear h1 h2
      go_enter Try.func48, Try.ntmps48
      go_wp2_with fail
      go_ret
      exact ⟨_, rfl, hrow.out, Below.refl _ _⟩
    · rw [decide_eq_false h2] at hl2
      by_cases h3 : t ≤ s
      · rw [if_pos (.inr (.inr h3)), List.append_nil]
        have hrow := Lib.hid hrow
        have f1 : decide (s < t) = false := decide_eq_false (by omega)
        have f2 : decide (t > s) = false := decide_eq_false (by omega)
        clear h1 h2 h3
        go_enter Try.func48, Try.ntmps48
        go_wp2_with fail
        go_ret
        exact ⟨_, rfl, hrow.out, Below.refl _ _⟩
      · rw [if_neg (by rintro (h | h | h); exact h1 h; exact h2 h; exact h3 h)]
        have hrow := Lib.hid hrow
        have f1 : decide (s < t) = true := decide_eq_true (by omega)
        clear h1 h2 h3
        go_enter Try.func48, Try.ntmps48
        go_wp2_with (at_builtin; refine push_own rfl _ _ rfl base (.slice A n c) fs rfl hrow.out x ⟨by omega, by omega⟩ rfl hlen hbase ?_)
        intro v' w' hr' hlow' _
        have H := Lib.hid (And.intro hr' hlow')
        clear hr' hlow'
        go_wp2_with fail
        go_ret
        exact ⟨_, rfl, H.out⟩

set_option maxHeartbeats 4000000 in
theorem gfold_any (B g g2 b m : Nat) (AC AL : Option Addr) (n cc lc : Nat) (k s : Int) (cs zs lits : List Int) (w : World) (hg : w.cell? ⟨g, 0, none⟩ = some (.map (some b))) (hgb : g < w.heap.size) (hg2 : w.cell? ⟨g2, 0, none⟩ = some (.int .i64 s)) (hgb2 : g2 < w.heap.size) (hM : MB w b m lits) (hc : RdI B w AC cs) (hr : RdI B w AL zs) (hB : B ≤ w.heap.size) (hcl : cs.length = n) (hl : zs.length = n) (hn : n ≤ 64) (hz : ∀ x ∈ zs, -65536 ≤ x ∧ x ≤ 65536) :
    Calls Try.prog 47 #[.agg #[.slice AC n cc, .slice AL n lc, .int .i64 k], .slice Option.none 0 0, .func (.func 48) #[] #[.pointer (some ⟨g, 0, none⟩), .pointer (some ⟨g2, 0, none⟩)]] w fun e w' => ∃ v, e = .returned v ∧ RowI w' w.heap.size v (frc lits s cs zs) ∧ Below w.heap.size w w' := by
  have hb1 := (Below.refl w.heap.size w).alloc (Nat.le_refl _) (.cells #[.slice AC n cc, .slice AL n lc, .int .i64 k] 24)
  have hbl := hM.lt
  have Hb := Lib.hid hb1
  have Hl := Lib.hid (And.intro hcl hl)
  have Hz := Lib.hid hz
  have hct : frc lits s (cs.take n) (zs.take n) = frc lits s cs zs := by rw [List.take_of_length_le (by omega), List.take_of_length_le (by omega)]
  have Hct := Lib.hid hct
  have Hgen := fun t x v fs => Lib.hid (fun (h : -65536 ≤ x ∧ x ≤ 65536) (W : World) (h1 : Below w.heap.size w W) (hrow : RowI W (w.heap.size + 1) v fs) (hlen : fs.length ≤ 1000000) (hsz : w.heap.size + 1 ≤ W.heap.size) => gterm_any g b m g2 (w.heap.size + 1) lits fs v x s t W ((h1.cell (p := ⟨g, 0, none⟩) hgb).trans hg) ((h1.cell (p := ⟨g2, 0, none⟩) hgb2).trans hg2) (hM.same (h1.block b hbl)) h hrow hlen hsz)
  clear hb1 hcl hl hz hct hM
  go_enter Try.func47, Try.ntmps47
  go_wp2_with fail
  obtain ⟨W1, hW1⟩ : ∃ W, W = w.alloc (.cells #[.slice AC n cc, .slice AL n lc, .int .i64 k] 24) := ⟨_, rfl⟩
  rw [← hW1]
  have hat : LinAt W1 w.heap.size (.slice AC n cc) (.slice AL n lc) k 24 := by rw [hW1]; exact heap_alloc_new _ _
  have hs1 : W1.heap.size = w.heap.size + 1 := by rw [hW1]; simp
  obtain ⟨cC, cL, cK⟩ := hat.cells
  have hb := Hb.out
  rw [← hW1] at hb
  clear Hb hW1 hg hg2
  have hr := Lib.hid (hr.below hb hB)
  have hc := Lib.hid (hc.below hb hB)
  have Hat := Lib.hid hat
  clear hat
  go_wp2_with fail
  go_loopw [1, 12] (fun a i wr => ∃ j : Nat, j ≤ n ∧ i = .int .i64 j ∧ Hid (RowI wr (w.heap.size + 1) a (frc lits s (cs.take j) (zs.take j)) ∧ Below (w.heap.size + 1) W1 wr)) (fun _ i _ => n - (intOf i).toNat)
  case atStart => exact ⟨0, by omega, rfl, Lib.hid ⟨by simpa [frc] using RowI.empty W1 (w.heap.size + 1), Below.refl _ _⟩⟩
  case round =>
    obtain ⟨j, hj, rfl, HR⟩ := hrel
    have hatr : LinAt wr w.heap.size (.slice AC n cc) (.slice AL n lc) k 24 := (HR.out.2.block _ (by omega)).trans Hat.out
    obtain ⟨cC, cL, cK⟩ := hatr.cells
    obtain ⟨A3, c3, hA3, _, _⟩ := HR.out.1.shape
    obtain ⟨L3, hL3⟩ : ∃ L3, (frc lits s (cs.take j) (zs.take j)).length = L3 := ⟨_, rfl⟩
    rw [hL3] at hA3
    have HL3 := Lib.hid hL3
    subst hA3
    clear hL3 hatr
    by_cases hlt : j < n
    · have hjz : j < zs.length := by rw [Hl.out.2]; exact hlt
      have hjc : j < cs.length := by rw [Hl.out.1]; exact hlt
      have hnext := frc_take lits cs zs s j (Hl.out.1.trans Hl.out.2.symm) hjc hjz
      have hle := frc_len lits s (cs.take j) (zs.take j)
      rw [List.length_take] at hle
      obtain ⟨b1, off, rfl, hb1', hcz⟩ := (hr.out.below HR.out.2 (by omega)).2 (by omega)
      obtain ⟨b2, off2, rfl, hb2', hcc⟩ := (hc.out.below HR.out.2 (by omega)).2 (by omega)
      have hz1 := hcz j hjz
      have hc1 := hcc j hjc
      have hlit := Hz.out (zs[j]?.getD 0) (by rw [List.getElem?_eq_getElem hjz]; exact List.getElem_mem _)
      have hbw : Below w.heap.size w wr := hb.trans (HR.out.2.mono (by omega))
      have hM := (Hgen (cs[j]?.getD 0) (zs[j]?.getD 0) (.slice A3 L3 c3) (frc lits s (cs.take j) (zs.take j))).out hlit wr hbw HR.out.1 (by omega) (by have := HR.out.2.size; omega)
      rw [← hnext] at hM
      have HM := Lib.hid hM
      clear hcz hcc hlit hjz hjc hnext hle hbw hM Hgen hr hc
      generalize zs[j]?.getD 0 = x at *
      generalize cs[j]?.getD 0 = t at *
      go_wp2_with fail
      refine HM.out.mono ?_
      rintro e w' ⟨v', rfl, hr', hlow'⟩
      have HR2 : Hid (RowI w' (w.heap.size + 1) v' (frc lits s (cs.take (j + 1)) (zs.take (j + 1))) ∧ Below (w.heap.size + 1) W1 w') := Lib.hid ⟨hr', HR.out.2.trans hlow'⟩
      clear HM hr' hlow' HR
      go_wp2_with fail
      go_roundw
      case rel => exact ⟨j + 1, by omega, by go_num, HR2⟩
      case measure => simp [intOf]; omega
    · obtain rfl : j = n := by omega
      rw [Hct.out] at HR
      have fin : Hid (RowI wr w.heap.size (.slice A3 L3 c3) (frc lits s cs zs) ∧ Below w.heap.size w wr) := Lib.hid ⟨HR.out.1.base (by omega), hb.trans (HR.out.2.mono (by omega))⟩
      clear HR
      go_wp2_with fail
      go_ret
      exact ⟨_, rfl, fin.out⟩
end Go.Proofs.Ytoacfjmefoiflaa
