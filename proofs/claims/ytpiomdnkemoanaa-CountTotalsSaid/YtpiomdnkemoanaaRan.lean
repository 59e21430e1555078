/- The walk of ran: it answers the registers that say the counts. -/
import Derived.Test.YtpiomdnkemoanaaRunM
namespace Go.Proofs.Ytpiomdnkemoanaa
open Go.RowKit

theorem runRow_next (bs : List Bool) (zs : List Int) (r W : Nat) : runRow bs zs r (W + 1) = runRow bs zs r W ++ [decide (W + 1 ≤ ct bs (zs.take (r + 1)))] := by
  unfold runRow; rw [List.range_succ, List.map_append]; rfl
theorem runR_bound (bs : List Bool) (zs : List Int) (K r : Nat) (hb : bs.length ≤ 100) (hr : r ≤ 60) : (runR bs zs K r).length ≤ 300000 := by
  have h1 := regs_bound K r (by omega)
  rw [runR_len, cst_regs]; omega

set_option maxRecDepth 30000 in
set_option maxHeartbeats 4000000 in
theorem ran_any (B C : Nat) (A D : Option Addr) (m d n c K : Nat) (zs : List Int) (bs : List Bool) (w : World) (hz : RdI C w D zs) (hC : C ≤ w.heap.size) (hm : zs.length = m) (hm2 : m ≤ 60) (hr : RdB B w A bs) (hB : B ≤ w.heap.size) (hl : bs.length = n) (hn : n ≤ 100) (hA : A = none → c = 0) (hx : ∀ x ∈ zs, Lit n x) (hK : K ≤ 60) :
    Calls Try.prog 20 #[.slice D m d, .int .i64 (K : Int), .slice A n c] w fun e w' => ∃ v, e = .returned v ∧ RowV w' w.heap.size v (runR bs zs K m) ∧ Below w.heap.size w w' := by
  have Hl := Lib.hid hm
  have Hbl := Lib.hid hl
  have Hx := Lib.hid hx
  have Hall := fun x => Lib.hid (fun h w (hr : RdB B w A bs) => Truth_any B A n n c bs x w hr hl h (Nat.le_refl _) (by omega))
  have Hbound := fun r => Lib.hid (runR_bound bs zs K r (by omega))
  clear hm hx hl
  go_enter Try.func20, Try.ntmps20
  go_wp2_with (at_builtin; refine push_bools rfl _ _ rfl w.heap.size _ [] rfl (RowV.empty _ _) B A n c bs rfl hr Hbl.out hA (by simp; omega) (Nat.le_refl _) ?_)
  intro v1 w1 own1 low1
  obtain ⟨A1, c1, rfl, _, _, _⟩ := own1.shape
  go_wp2_with fail
  go_loopw [7, 8, 16] (fun v a i wr => ∃ j : Nat, j ≤ m ∧ RowV wr w.heap.size v (runR bs zs K j) ∧ a = .int .i64 (ct bs (zs.take j) : Int) ∧ i = .int .i64 j ∧ Below w.heap.size w wr) (fun _ _ i _ => m - (intOf i).toNat)
  case atStart => exact ⟨0, by omega, own1, rfl, rfl, low1⟩
  case round =>
    obtain ⟨j, hj, own2, rfl, rfl, low2⟩ := hrel
    clear own1 low1
    by_cases hlt : j < m
    · have hjo : j < zs.length := by rw [Hl.out]; exact hlt
      have hnext := ct_take bs zs j hjo
      have hle := ct_le bs (zs.take j)
      rw [List.length_take] at hle
      have hle : ct bs (zs.take j) ≤ 4096 := by omega
      have hz2 := hz.below low2 hC
      have hr2 := hr.below low2 hB
      obtain ⟨b, off, rfl, _, hc⟩ := hz2.2 (by omega)
      have hc1 := hc j hjo
      have hL := (Hall (zs[j]?.getD 0)).out (Hx.out _ (by rw [List.getElem?_eq_getElem hjo]; exact List.getElem_mem _)) wr hr2
      have HL := Lib.hid hL
      have Hrow := fun W => Lib.hid (runRow_next bs zs j W)
      have hfin : runR bs zs K (j + 1) = runR bs zs K j ++ runRow bs zs j (min (j + 1) K) := rfl
      have Hfin := Lib.hid hfin
      have hLb := (Hbound j).out (by omega)
      clear hc hjo hz2 hr2 hL hfin
      generalize zs[j]?.getD 0 = x at *
      obtain ⟨L, hLe⟩ : ∃ L, runR bs zs K j = L := ⟨_, rfl⟩
      rw [hLe] at own2 hLb Hfin
      obtain ⟨A2, c2, hv2, _, _, _⟩ := own2.shape
      subst hv2
      obtain ⟨q, hq⟩ : ∃ q, j + 1 = q := ⟨_, rfl⟩
      obtain ⟨u, hu⟩ : ∃ u, min q K = u := ⟨_, rfl⟩
      have m1 : (if K < q then (K : Int) else (q : Int)) = (u : Int) := by split <;> omega
      have m2 : (if (K : Int) < (j : Int) + 1 then (K : Int) else (j : Int) + 1) = (u : Int) := by split <;> omega
      have hu2 : u ≤ 60 := by omega
      rw [hq] at hnext Hrow Hfin
      obtain ⟨y', hy'⟩ : ∃ y', ct bs (zs.take q) = y' := ⟨_, rfl⟩
      rw [hy'] at hnext Hrow
      have Hct := Lib.hid hy'
      have Hq := Lib.hid hq
      have Hu := Lib.hid hu
      clear hy' hq hu hLe
      generalize ct bs (zs.take j) = y at *
      cases ht : tv bs x with
      | true =>
        rw [ht] at HL hnext
        rw [if_pos rfl] at hnext
        clear ht
        go_wp2_with fail
        refine HL.out.mono ?_
        rintro e w' ⟨rfl, rfl⟩
        go_wp2_with fail
        go_loopw [7, 11] (fun v jj wr2 => ∃ i' : Nat, i' ≤ u ∧ RowV wr2 w.heap.size v (L ++ runRow bs zs j i') ∧ jj = .int .i64 ((i' + 1 : Nat) : Int) ∧ Below w.heap.size w wr2) (fun _ jj _ => u + 1 - (intOf jj).toNat)
        case atStart => exact ⟨0, by omega, by simpa [runRow] using own2, rfl, low2⟩
        case round =>
          obtain ⟨i', hi', own3, rfl, low3⟩ := hrel
          clear own2 low2
          obtain ⟨A3, c3, hv3, _, _, _⟩ := own3.shape
          have hlen3 : (L ++ runRow bs zs j i').length ≤ 300060 := by rw [List.length_append, runRow_len]; omega
          obtain ⟨n3, hn3⟩ : ∃ n3, (L ++ runRow bs zs j i').length = n3 := ⟨_, rfl⟩
          rw [hn3] at hv3 hlen3
          have Hn3 := Lib.hid hn3
          clear hn3
          subst hv3
          obtain ⟨p, hp⟩ : ∃ p, i' + 1 = p := ⟨_, rfl⟩
          rw [hp]
          by_cases hlt2 : i' < u
          · have d0 : decide ((p : Int) ≤ (u : Int)) = true := decide_eq_true (by omega)
            have d0' : decide (p ≤ u) = true := decide_eq_true (by omega)
            have hnx := (Hrow i').out
            rw [hp] at hnx
            obtain ⟨z, hz0⟩ : ∃ z, decide (p ≤ y') = z := ⟨_, rfl⟩
            have hz1 : decide ((p : Int) ≤ (y' : Int)) = z := by rw [← hz0]; exact decide_eq_decide.2 (by omega)
            have hz2 : decide ((p : Int) ≤ (y : Int) + 1) = z := by rw [← hz0]; exact decide_eq_decide.2 (by omega)
            rw [hz0] at hnx
            have Hnx := Lib.hid hnx
            have hp60 : p ≤ 60 := by omega
            have Hp := Lib.hid hp
            clear hnx hp
            have hsz := low3.size
            go_wp2_with (at_builtin; refine push_bool rfl _ _ rfl w.heap.size _ _ rfl own3 z rfl ?hb hsz ?_)
            case hb => rw [Hn3.out]; omega
            intro v4 w4 own4 low4
            rw [← Hnx.out, ← Hp.out] at own4
            go_wp2_with fail
            go_roundw
            case rel => exact ⟨i' + 1, by omega, own4, by rw [Hp.out]; go_num, low3.trans low4⟩
            case measure => have := Hp.out; simp [intOf]; omega
          · have d0 : decide ((p : Int) ≤ (u : Int)) = false := decide_eq_false (by omega)
            have d0' : decide (p ≤ u) = false := decide_eq_false (by omega)
            obtain rfl : i' = u := by omega
            have hfin : L ++ runRow bs zs j i' = runR bs zs K q := by rw [Hfin.out, Hu.out]
            rw [hfin] at own3
            go_wp2_with fail
            go_roundw
            case rel => exact ⟨q, by have := Hq.out; omega, own3, by rw [Hct.out]; first | go_num | (rw [hnext]; go_num), by have := Hq.out; subst this; go_num, low3⟩
            case measure => have := Hq.out; simp [intOf]; omega
      | false =>
        rw [ht] at HL hnext
        rw [if_neg (by simp)] at hnext
        clear ht
        go_wp2_with fail
        refine HL.out.mono ?_
        rintro e w' ⟨rfl, rfl⟩
        go_wp2_with fail
        go_loopw [7, 11] (fun v jj wr2 => ∃ i' : Nat, i' ≤ u ∧ RowV wr2 w.heap.size v (L ++ runRow bs zs j i') ∧ jj = .int .i64 ((i' + 1 : Nat) : Int) ∧ Below w.heap.size w wr2) (fun _ jj _ => u + 1 - (intOf jj).toNat)
        case atStart => exact ⟨0, by omega, by simpa [runRow] using own2, rfl, low2⟩
        case round =>
          obtain ⟨i', hi', own3, rfl, low3⟩ := hrel
          clear own2 low2
          obtain ⟨A3, c3, hv3, _, _, _⟩ := own3.shape
          have hlen3 : (L ++ runRow bs zs j i').length ≤ 300060 := by rw [List.length_append, runRow_len]; omega
          obtain ⟨n3, hn3⟩ : ∃ n3, (L ++ runRow bs zs j i').length = n3 := ⟨_, rfl⟩
          rw [hn3] at hv3 hlen3
          have Hn3 := Lib.hid hn3
          clear hn3
          subst hv3
          obtain ⟨p, hp⟩ : ∃ p, i' + 1 = p := ⟨_, rfl⟩
          rw [hp]
          by_cases hlt2 : i' < u
          · have d0 : decide ((p : Int) ≤ (u : Int)) = true := decide_eq_true (by omega)
            have d0' : decide (p ≤ u) = true := decide_eq_true (by omega)
            have hnx := (Hrow i').out
            rw [hp] at hnx
            obtain ⟨z, hz0⟩ : ∃ z, decide (p ≤ y') = z := ⟨_, rfl⟩
            have hz1 : decide ((p : Int) ≤ (y' : Int)) = z := by rw [← hz0]; exact decide_eq_decide.2 (by omega)
            have hz2 : decide ((p : Int) ≤ (y : Int)) = z := by rw [← hz0]; exact decide_eq_decide.2 (by omega)
            have hz3 : decide (p ≤ y) = z := by rw [← hz0]; exact decide_eq_decide.2 (by omega)
            rw [hz0] at hnx
            have Hnx := Lib.hid hnx
            have hp60 : p ≤ 60 := by omega
            have Hp := Lib.hid hp
            clear hnx hp
            have hsz := low3.size
            go_wp2_with (at_builtin; refine push_bool rfl _ _ rfl w.heap.size _ _ rfl own3 z rfl ?hb hsz ?_)
            case hb => rw [Hn3.out]; omega
            intro v4 w4 own4 low4
            rw [← Hnx.out, ← Hp.out] at own4
            go_wp2_with fail
            go_roundw
            case rel => exact ⟨i' + 1, by omega, own4, by rw [Hp.out]; go_num, low3.trans low4⟩
            case measure => have := Hp.out; simp [intOf]; omega
          · have d0 : decide ((p : Int) ≤ (u : Int)) = false := decide_eq_false (by omega)
            have d0' : decide (p ≤ u) = false := decide_eq_false (by omega)
            obtain rfl : i' = u := by omega
            have hfin : L ++ runRow bs zs j i' = runR bs zs K q := by rw [Hfin.out, Hu.out]
            rw [hfin] at own3
            go_wp2_with fail
            go_roundw
            case rel => exact ⟨q, by have := Hq.out; omega, own3, by rw [Hct.out]; first | go_num | (rw [hnext]; go_num), by have := Hq.out; subst this; go_num, low3⟩
            case measure => have := Hq.out; simp [intOf]; omega
    · obtain rfl : j = m := by omega
      obtain ⟨A2, c2, hv2, _, _, _⟩ := own2.shape
      subst hv2
      go_wp2_with fail
      go_ret
      exact ⟨_, rfl, own2, low2⟩
end Go.Proofs.Ytpiomdnkemoanaa
