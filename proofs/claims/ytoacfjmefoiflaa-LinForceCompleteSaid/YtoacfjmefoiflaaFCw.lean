/- The walk of the law LinForceComplete. -/
import Derived.Test.YtoacfjmefoiflaaFCA
namespace Go.Proofs.Ytoacfjmefoiflaa
open Go.ChangeShapes Go.WideShapes Go.ChangeAt Go.RowKit
set_option maxRecDepth 100000

set_option maxHeartbeats 16000000 in
theorem fcw_main (A1 L1 A2 : Option Addr) (n1 m1 n2 c1 d1 c2 : Nat) (k : Int) (w : World) (lits rs : List Int) (ok : Bool) (E ag ho : Nat → Bool) (r3 : RdI w.heap.size w A2 lits) (h3 : lits.length = n2) (hU : ∀ W, Below w.heap.size w W → Calls Try.prog 31 #[.slice A2 n2 c2, .int .i64 8] W fun e w' => e = .returned (.bool true) ∧ Below W.heap.size W w') (hyp : (n1 ≤ 60 ∧ m1 ≤ 60) ∧ n2 ≤ 8) (hCk : ∀ W, Below w.heap.size w W → Calls Try.prog 17 #[.agg #[.slice A1 n1 c1, .slice L1 m1 d1, .int .i64 k], .int .i64 8] W fun e w' => e = .returned (.int .i64 0) ∧ Below W.heap.size W w') (hFo : ∀ W, Below w.heap.size w W → Calls Try.prog 20 #[.agg #[.slice A1 n1 c1, .slice L1 m1 d1, .int .i64 k], .slice A2 n2 c2] W (Forced rs ok W))
    (hAg : ∀ W (b : Nat), Below w.heap.size w W → b < 256 → Calls Try.prog 32 #[.slice A2 n2 c2, .int .i64 b] W fun e w' => e = .returned (.bool (ag b)) ∧ Below W.heap.size W w') (hHo : ∀ W (b : Nat), Below w.heap.size w W → b < 256 → Calls Try.prog 30 #[.agg #[.slice A1 n1 c1, .slice L1 m1 d1, .int .i64 k], .int .i64 b] W fun e w' => e = .returned (.bool (ho b)) ∧ Below W.heap.size W w')
    (hE : ∀ b, E b = (ag b && ho b)) (hok : ok = anyE E 256) (hno : ok = false → rs.length = 0) (hlen : rs.length ≤ 8)
    (hin : ok = true → ∀ v, v < 8 → decide (((v + 1 : Nat) : Int) ∈ rs) = ((!decide (((v + 1 : Nat) : Int) ∈ lits) && !decide (-((v + 1 : Nat) : Int) ∈ lits)) && (stA E 256)[8 + (v + 1)]?.getD false))
    (hin' : ok = true → ∀ v, v < 8 → decide (-((v + 1 : Nat) : Int) ∈ rs) = ((!decide (((v + 1 : Nat) : Int) ∈ lits) && !decide (-((v + 1 : Nat) : Int) ∈ lits)) && (stA E 256)[8 - (v + 1)]?.getD false)) :
    Calls Try.prog 8 #[.agg #[.slice A1 n1 c1, .slice L1 m1 d1, .int .i64 k], .slice A2 n2 c2] w fun e w' => e = .returned (.bool true) ∧ Below w.heap.size w w' := by
  obtain ⟨W1, hW1⟩ : ∃ W, W = w.alloc (.cells #[.slice A1 n1 c1, .slice L1 m1 d1, .int .i64 k] 24) := ⟨_, rfl⟩
  have low : Below w.heap.size w W1 := by rw [hW1]; exact (Below.refl _ _).alloc (Nat.le_refl _) _
  have hat1 : LinAt W1 w.heap.size (.slice A1 n1 c1) (.slice L1 m1 d1) k 24 := by rw [hW1]; exact heap_alloc_new _ _
  have hF1 := fun W => few_any A1 L1 n1 m1 c1 d1 k W
  have HU := Lib.hid hU
  have HW := Lib.hid hW1
  have HA := Lib.hid hat1
  clear hW1 hat1 hU
  obtain ⟨⟨hn1, hm1⟩, hq⟩ := hyp
  rw [decide_eq_true ⟨hn1, hm1⟩] at hF1
  have fn21 : decide ((n2 : Int) > 8) = false := decide_eq_false (by omega)
  have fn22 : decide ((8 : Int) < (n2 : Int)) = false := decide_eq_false (by omega)
  have fn23 : decide (8 < n2) = false := decide_eq_false (by omega)
  have HCk := Lib.hid hCk
  have HFo := Lib.hid hFo
  have HF1 := Lib.hid hF1
  clear hCk hFo hF1
  go_enter Try.func8, Try.ntmps8
  go_wp2_with fail
  rw [← HW.out]
  clear HW
  refine (live_any W1).mono ?_
  rintro e y1 ⟨rfl, hb⟩
  have low := low.trans (hb.mono low.size)
  have HA := Lib.hid (HA.out.below hb)
  clear hb 
  obtain ⟨aC, aL, aK⟩ := (HA.out).cells
  have hUx := Lib.hid (HU.out _ low)
  go_wp2_with fail
  refine (hUx.out).mono ?_
  rintro e y2 ⟨rfl, hb⟩
  clear aC aL aK
  have low := low.trans (hb.mono low.size)
  have HA := Lib.hid (HA.out.below hb)
  clear hb 
  obtain ⟨aC, aL, aK⟩ := (HA.out).cells
  clear hUx HU
  go_wp2_with fail
  refine (HF1.out _).mono ?_
  rintro e y3 ⟨rfl, hb⟩
  clear aC aL aK
  have low := low.trans (hb.mono low.size)
  have HA := Lib.hid (HA.out.below hb)
  clear hb 
  obtain ⟨aC, aL, aK⟩ := (HA.out).cells
  clear HF1
  have hC := Lib.hid (HCk.out _ low)
  go_wp2_with fail
  refine (hC.out).mono ?_
  rintro e y4 ⟨rfl, hb⟩
  clear aC aL aK
  have low := low.trans (hb.mono low.size)
  have HA := Lib.hid (HA.out.below hb)
  clear hb 
  obtain ⟨aC, aL, aK⟩ := (HA.out).cells
  clear hC HCk
  have hFx := Lib.hid (HFo.out _ low)
  go_wp2_with fail
  refine (hFx.out).mono ?_
  rintro e y5 ⟨v, rfl, hq, hb⟩
  clear aC aL aK
  have low := low.trans (hb.mono low.size)
  have HA := Lib.hid (HA.out.below hb)
  clear hb 
  obtain ⟨aC, aL, aK⟩ := (HA.out).cells
  obtain ⟨P1, p1, hv, _, _, rd⟩ := hq.shape
  obtain ⟨M, hM⟩ : ∃ M, rs.length = M := ⟨_, rfl⟩
  rw [hM] at hv
  subst hv
  have KK := Lib.hid (And.intro rd hM)
  clear hq rd hFx HFo hM fn21 fn22 fn23
  have hwg : w.heap.size < y5.heap.size := HA.out.lt
  obtain ⟨g, hg⟩ : ∃ g, y5.heap.size = g := ⟨_, rfl⟩
  obtain ⟨W6, hW6⟩ : ∃ W6, W6 = y5.alloc (.cells #[.bool false, .bool false, .bool false, .bool false, .bool false, .bool false, .bool false, .bool false, .bool false, .bool false, .bool false, .bool false, .bool false, .bool false, .bool false, .bool false, .bool false] 44) := ⟨_, rfl⟩
  have hs6 : W6.heap.size = g + 1 := by rw [hW6]; simp [hg]
  have hb6 : Below y5.heap.size y5 W6 := by rw [hW6]; exact (Below.refl _ _).alloc (Nat.le_refl _) _
  have hA6 : Arr W6 g (List.replicate 0 true ++ List.replicate 17 false) := ⟨rfl, by rw [hW6, ← hg]; exact heap_alloc_new _ _⟩
  have low6 : Below w.heap.size w W6 := low.trans (hb6.mono low.size)
  have L6 : LinAt W6 w.heap.size (.slice A1 n1 c1) (.slice L1 m1 d1) k 24 := HA.out.below hb6
  have K6 := KK.out.1.below hb6 (Nat.le_refl _)
  rw [hg] at hwg K6
  have HM := Lib.hid KK.out.2
  have HG := Lib.hid (fun X (h : Below g W6 X) => And.intro (low6.trans (h.mono (by omega))) (And.intro (show LinAt X w.heap.size (.slice A1 n1 c1) (.slice L1 m1 d1) k 24 from (h.block _ hwg).trans L6) (K6.below h (Nat.le_refl _))))
  have HA6 := Lib.hid hA6
  have HW := Lib.hid hW6
  have HAg := Lib.hid hAg
  have HHo := Lib.hid hHo
  have HI := Lib.hid (And.intro hE (And.intro hok (And.intro hno (And.intro hlen (And.intro hin hin')))))
  have HR3 := Lib.hid (And.intro r3 h3)
  clear hW6 hb6 hA6 low6 L6 K6 KK HA low hAg hHo hE hok hno hlen hin hin' r3 h3
  go_wp2_with fail
  rw [← HW.out]
  clear HW hg aC aL aK
  go_loopw [10] (fun i wr => ∃ j : Nat, j ≤ 17 ∧ i = .int .i64 j ∧ Hid (Arr wr g (List.replicate j true ++ List.replicate (17 - j) false) ∧ Below g W6 wr)) (fun i _ => 17 - (intOf i).toNat)
  case atStart => exact ⟨0, by omega, rfl, Lib.hid ⟨HA6.out, Below.refl _ _⟩⟩
  case round =>
    obtain ⟨j, hj, rfl, HR⟩ := hrel
    by_cases hlt : j < 17
    · have hc := HR.out.1.cell hlt
      have hf := HR.out.1.frozen j
      have hnew := HR.out.1.set j true
      rw [fill_set j hlt] at hnew
      have hbn := HR.out.2.setCell (p := ⟨g, j, none⟩) (Nat.le_refl _) (.bool true)
      have HN := Lib.hid (And.intro hnew hbn)
      clear hnew hbn HR HI
      go_wp2_with fail
      go_roundw
      case rel => exact ⟨j + 1, by omega, by go_num, HN⟩
      case measure => simp [intOf]; omega
    · have hj17 : j = 17 := by omega
      have HR := Lib.hid (show Arr wr g (stA E 0) ∧ Below g W6 wr from ⟨by have := HR.out.1; rw [hj17] at this; exact this, HR.out.2⟩)
      clear HA6 hj17
      go_wp2_with fail
      clear hlt hj
      go_loopw [8, 11] (fun a i wr => ∃ b : Nat, b ≤ 256 ∧ a = .bool (anyE E b) ∧ i = .int .i64 b ∧ Hid (Arr wr g (stA E b) ∧ Below g W6 wr)) (fun _ i _ => 256 - (intOf i).toNat)
      case atStart => exact ⟨0, by omega, rfl, rfl, HR⟩
      case round =>
        clear HR
        obtain ⟨b, hb0, rfl, rfl, HR⟩ := hrel
        by_cases hlt : b < 256
        · have hag := HAg.out wr b (HG.out wr HR.out.2).1 hlt
          obtain ⟨aC, aL, aK⟩ := (HG.out wr HR.out.2).2.1.cells
          have hEb := HI.out.1 b
          have hsz := HR.out.2.size
          clear HAg HI
          cases ea : ag b with
          | false =>
            rw [ea] at hag hEb
            have hE0 : E b = false := hEb
            have hst : stA E (b + 1) = stA E b := by rw [stA, hE0]; rfl
            have han : anyE E (b + 1) = anyE E b := by rw [anyE, hE0]; rfl
            have hag := Lib.hid hag
            have HS := Lib.hid (And.intro hst han)
            clear hEb hE0 hst han ea
            go_wp2_with fail
            refine hag.out.mono ?_
            rintro e x1 ⟨rfl, hb⟩
            have HR2 := Lib.hid (show Arr x1 g (stA E (b + 1)) ∧ Below g W6 x1 from ⟨by rw [HS.out.1]; exact HR.out.1.below hb, HR.out.2.trans (hb.mono (by omega))⟩)
            clear aC aL aK hb hag HR
            go_wp2_with fail
            go_roundw
            case rel => exact ⟨b + 1, by omega, by rw [HS.out.2], by go_num, HR2⟩
            case measure => simp [intOf]; omega
          | true =>
            rw [ea] at hag hEb
            have hag := Lib.hid hag
            go_wp2_with fail
            refine hag.out.mono ?_
            rintro e x1 ⟨rfl, hb⟩
            have hsz1 := hb.size
            have HR := Lib.hid (show Arr x1 g (stA E b) ∧ Below g W6 x1 from ⟨HR.out.1.below hb, HR.out.2.trans (hb.mono (by omega))⟩)
            have hho := HHo.out x1 b (HG.out x1 HR.out.2).1 hlt
            clear aC aL aK hb hag HHo ea
            obtain ⟨aC, aL, aK⟩ := (HG.out x1 HR.out.2).2.1.cells
            cases eh : ho b with
            | false =>
              rw [eh] at hho hEb
              have hE0 : E b = false := hEb
              have hst : stA E (b + 1) = stA E b := by rw [stA, hE0]; rfl
              have han : anyE E (b + 1) = anyE E b := by rw [anyE, hE0]; rfl
              have hho := Lib.hid hho
              have HS := Lib.hid (And.intro hst han)
              clear hEb hE0 hst han eh
              go_wp2_with fail
              refine hho.out.mono ?_
              rintro e x2 ⟨rfl, hb⟩
              have HR2 := Lib.hid (show Arr x2 g (stA E (b + 1)) ∧ Below g W6 x2 from ⟨by rw [HS.out.1]; exact HR.out.1.below hb, HR.out.2.trans (hb.mono (by omega))⟩)
              clear aC aL aK hb hho HR
              go_wp2_with fail
              go_roundw
              case rel => exact ⟨b + 1, by omega, by rw [HS.out.2], by go_num, HR2⟩
              case measure => simp [intOf]; omega
            | true =>
              rw [eh] at hho hEb
              have hE0 : E b = true := hEb
              have hst : stA E (b + 1) = upd b 8 (stA E b) := by rw [stA, hE0]; rfl
              have han : anyE E (b + 1) = true := by rw [anyE, hE0]; rfl
              have hho := Lib.hid hho
              have HS := Lib.hid (And.intro hst han)
              clear hEb hE0 hst han eh
              go_wp2_with fail
              refine hho.out.mono ?_
              rintro e x2 ⟨rfl, hb⟩
              have HR2 := Lib.hid (show Arr x2 g (upd b 0 (stA E b)) ∧ Below g W6 x2 from ⟨HR.out.1.below hb, HR.out.2.trans (hb.mono (by omega))⟩)
              have hlb := stA_len E b
              clear aC aL aK hb hho HR hsz1 hsz
              go_wp2_with fail
              go_loopw [12] (fun i wr => ∃ v u : Nat, v ≤ 8 ∧ Hid (u = v + 1) ∧ 1 ≤ u ∧ u ≤ 9 ∧ i = .int .i64 u ∧ Hid (Arr wr g (upd b v (stA E b)) ∧ Below g W6 wr)) (fun i _ => 9 - (intOf i).toNat)
              case atStart => exact ⟨0, 1, by omega, Lib.hid rfl, by omega, by omega, rfl, HR2⟩
              case round =>
                clear HR2
                obtain ⟨v, u, hv, Hu, hu1, hu9, rfl, HQ⟩ := hrel
                by_cases hlt2 : u ≤ 8
                · have hv8 : v < 8 := by have := Hu.out; omega
                  have hm1 : (u : Int) - 1 = (v : Int) := by have := Hu.out; omega
                  have hmin : min v 64 = v := by omega
                  have f1 : decide ((u : Int) ≤ 8) = true := decide_eq_true (by omega)
                  have hnx : upd b (v + 1) (stA E b) = (upd b v (stA E b)).set (if tb (b : Int) v = true then 8 - u else 8 + u) false := by rw [upd, Hu.out]
                  cases et : tb (b : Int) v with
                  | true =>
                    rw [et, if_pos rfl] at hnx
                    obtain ⟨q, hq⟩ : ∃ q : Nat, 8 - u = q := ⟨_, rfl⟩
                    have hq2 : (8 : Int) - (u : Int) = (q : Int) := by omega
                    have hq3 : q < 17 := by omega
                    rw [hq] at hnx
                    have hc := HQ.out.1.cell hq3
                    have hf := HQ.out.1.frozen q
                    have hnew := HQ.out.1.set q false
                    rw [← hnx] at hnew
                    have hbn := HQ.out.2.setCell (p := ⟨g, q, none⟩) (Nat.le_refl _) (.bool false)
                    have HN := Lib.hid (And.intro hnew hbn)
                    have htb : (bits BinOp.and IntKind.i64 ((b : Int) / 2 ^ v) 1 == 1) = true := et
                    clear hnew hbn HQ hnx et hq
                    go_wp2_with fail
                    clear htb
                    go_roundw
                    case rel => exact ⟨v + 1, u + 1, by omega, Lib.hid (by have := Hu.out; omega), by omega, by omega, by go_num, HN⟩
                    case measure => simp [intOf]; omega
                  | false =>
                    rw [et, if_neg (by simp)] at hnx
                    obtain ⟨q, hq⟩ : ∃ q : Nat, 8 + u = q := ⟨_, rfl⟩
                    have hq2 : (8 : Int) + (u : Int) = (q : Int) := by omega
                    have hq3 : q < 17 := by omega
                    rw [hq] at hnx
                    have hc := HQ.out.1.cell hq3
                    have hf := HQ.out.1.frozen q
                    have hnew := HQ.out.1.set q false
                    rw [← hnx] at hnew
                    have hbn := HQ.out.2.setCell (p := ⟨g, q, none⟩) (Nat.le_refl _) (.bool false)
                    have HN := Lib.hid (And.intro hnew hbn)
                    have htb : (bits BinOp.and IntKind.i64 ((b : Int) / 2 ^ v) 1 == 1) = false := et
                    clear hnew hbn HQ hnx et hq
                    go_wp2_with fail
                    clear htb
                    go_roundw
                    case rel => exact ⟨v + 1, u + 1, by omega, Lib.hid (by have := Hu.out; omega), by omega, by omega, by go_num, HN⟩
                    case measure => simp [intOf]; omega
                · have f1 : decide ((u : Int) ≤ 8) = false := decide_eq_false (by omega)
                  have hv8 : v = 8 := by have := Hu.out; omega
                  have HR3' := Lib.hid (show Arr wr g (stA E (b + 1)) ∧ Below g W6 wr from ⟨by rw [HS.out.1]; have := HQ.out.1; rw [hv8] at this; exact this, HQ.out.2⟩)
                  clear HQ Hu hv8
                  go_wp2_with fail
                  go_roundw
                  case rel => exact ⟨b + 1, by omega, by rw [HS.out.2], by go_num, HR3'⟩
                  case measure => simp [intOf]; omega
        · have hb256 : b = 256 := by omega
          obtain ⟨_, hok, hno, hlen, hin, hin'⟩ := HI.out
          have hab : anyE E b = ok := by rw [hb256]; exact hok.symm
          rw [hab]
          have HR := Lib.hid (show Arr wr g (stA E 256) ∧ Below g W6 wr from by have := HR.out; rw [hb256] at this; exact this)
          have hml : M ≤ 8 := by have := HM.out; omega
          have fin := Lib.hid (HG.out wr HR.out.2).1
          clear HI HAg HHo hok hab hb256
          cases ok with
          | false =>
            obtain rfl : M = 0 := by rw [← HM.out]; exact hno rfl
            clear hno hlen hin hin' HR HM HG HR3
            go_wp2_with fail
            go_ret
            exact ⟨rfl, fin.out⟩
          | true =>
            have HI := Lib.hid (And.intro (hin rfl) (hin' rfl))
            clear hno hlen hin hin'
            go_wp2_with fail
            obtain ⟨W8, hW8⟩ : ∃ W8, wr = W8 := ⟨_, rfl⟩
            rw [hW8] at HR fin ⊢
            clear hW8
            go_loopw [13] (fun i wr => ∃ v u : Nat, v ≤ 8 ∧ Hid (u = v + 1) ∧ 1 ≤ u ∧ u ≤ 9 ∧ i = .int .i64 u ∧ W8 = wr) (fun i _ => 9 - (intOf i).toNat)
            case atStart => exact ⟨0, 1, by omega, Lib.hid rfl, by omega, by omega, rfl, rfl⟩
            case round =>
              obtain ⟨v, u, hv, Hu, hu1, hu9, rfl, rfl⟩ := hrel
              by_cases hlt2 : u ≤ 8
              · have hv8 : v < 8 := by have := Hu.out; omega
                have f1 : decide ((u : Int) ≤ 8) = true := decide_eq_true (by omega)
                have hb1 := HI.out.1 v hv8
                have hb2 := HI.out.2 v hv8
                rw [← Hu.out] at hb1 hb2
                have hc1 := HR.out.1.cell (show 8 + u < 17 by omega)
                have hc2 := HR.out.1.cell (show 8 - u < 17 by omega)
                have hG := HG.out W8 HR.out.2
                have hl := HR3.out.1.below hG.1 (Nat.le_refl _)
                have hH1 := Has_any w.heap.size n2 c2 A2 (u : Int) lits W8 hl HR3.out.2 (by omega)
                have hH2 := Has_any w.heap.size n2 c2 A2 (-(u : Int)) lits W8 hl HR3.out.2 (by omega)
                have hH3 := Has_any g M p1 P1 (u : Int) rs W8 hG.2.2 HM.out (by omega)
                have hH4 := Has_any g M p1 P1 (-(u : Int)) rs W8 hG.2.2 HM.out (by omega)
                generalize (stA E 256)[8 + u]?.getD false = t1 at *
                generalize (stA E 256)[8 - u]?.getD false = t2 at *
                generalize decide ((u : Int) ∈ lits) = a1 at *
                generalize decide (-(u : Int) ∈ lits) = a2 at *
                generalize decide ((u : Int) ∈ rs) = b1 at *
                generalize decide (-(u : Int) ∈ rs) = b2 at *
                obtain ⟨q1, hq1⟩ : ∃ q : Nat, 8 + u = q := ⟨_, rfl⟩
                obtain ⟨q2, hq2⟩ : ∃ q : Nat, 8 - u = q := ⟨_, rfl⟩
                rw [hq1] at hc1
                rw [hq2] at hc2
                have hq3 : (8 : Int) + (u : Int) = (q1 : Int) := by omega
                have hq4 : (8 : Int) - (u : Int) = (q2 : Int) := by omega
                have hq5 : q1 < 17 := by omega
                have hq6 : q2 < 17 := by omega
                have hneg : wrap64 (-(u : Int)) = -(u : Int) := IntWalk.wrap64_in _ (by omega)
                have hneg' : wrap64 (0 - (u : Int)) = -(u : Int) := by rw [IntWalk.wrap64_in _ (by omega)]; omega
                have H1 := Lib.hid hH1
                have H2 := Lib.hid hH2
                have H3 := Lib.hid hH3
                have H4 := Lib.hid hH4
                clear hH1 hH2 hH3 hH4 hl hG HR HI HG HR3 hq1 hq2
                cases a1 with
                | true =>
                  obtain rfl : b1 = false := by simpa using hb1
                  obtain rfl : b2 = false := by simpa using hb2
                  clear hb1 hb2
                  go_wp2_with fail
                  refine H1.out.mono ?_
                  rintro e x1 ⟨rfl, rfl⟩
                  go_wp2_with fail
                  refine H3.out.mono ?_
                  rintro e x3 ⟨rfl, rfl⟩
                  go_wp2_with fail
                  refine H4.out.mono ?_
                  rintro e x4 ⟨rfl, rfl⟩
                  go_wp2_with fail
                  go_roundw
                  case rel => exact ⟨v + 1, u + 1, by omega, Lib.hid (by have := Hu.out; omega), by omega, by omega, by go_num, trivial⟩
                  case measure => simp [intOf]; omega
                | false =>
                  cases a2 with
                  | true =>
                    obtain rfl : b1 = false := by simpa using hb1
                    obtain rfl : b2 = false := by simpa using hb2
                    clear hb1 hb2
                    go_wp2_with fail
                    refine H1.out.mono ?_
                    rintro e x1 ⟨rfl, rfl⟩
                    go_wp2_with fail
                    refine H2.out.mono ?_
                    rintro e x2 ⟨rfl, rfl⟩
                    go_wp2_with fail
                    refine H3.out.mono ?_
                    rintro e x3 ⟨rfl, rfl⟩
                    go_wp2_with fail
                    refine H4.out.mono ?_
                    rintro e x4 ⟨rfl, rfl⟩
                    go_wp2_with fail
                    go_roundw
                    case rel => exact ⟨v + 1, u + 1, by omega, Lib.hid (by have := Hu.out; omega), by omega, by omega, by go_num, trivial⟩
                    case measure => simp [intOf]; omega
                  | false =>
                    cases t1 with
                    | true =>
                      cases t2 with
                      | true =>
                        obtain rfl : b1 = true := by simpa using hb1
                        obtain rfl : b2 = true := by simpa using hb2
                        clear hb1 hb2
                        go_wp2_with fail
                        refine H1.out.mono ?_
                        rintro e x1 ⟨rfl, rfl⟩
                        go_wp2_with fail
                        refine H2.out.mono ?_
                        rintro e x2 ⟨rfl, rfl⟩
                        go_wp2_with fail
                        refine H3.out.mono ?_
                        rintro e x3 ⟨rfl, rfl⟩
                        go_wp2_with fail
                        refine H4.out.mono ?_
                        rintro e x4 ⟨rfl, rfl⟩
                        go_wp2_with fail
                        go_roundw
                        case rel => exact ⟨v + 1, u + 1, by omega, Lib.hid (by have := Hu.out; omega), by omega, by omega, by go_num, trivial⟩
                        case measure => simp [intOf]; omega
                      | false =>
                        obtain rfl : b1 = true := by simpa using hb1
                        obtain rfl : b2 = false := by simpa using hb2
                        clear hb1 hb2
                        go_wp2_with fail
                        refine H1.out.mono ?_
                        rintro e x1 ⟨rfl, rfl⟩
                        go_wp2_with fail
                        refine H2.out.mono ?_
                        rintro e x2 ⟨rfl, rfl⟩
                        go_wp2_with fail
                        refine H3.out.mono ?_
                        rintro e x3 ⟨rfl, rfl⟩
                        go_wp2_with fail
                        refine H4.out.mono ?_
                        rintro e x4 ⟨rfl, rfl⟩
                        go_wp2_with fail
                        go_roundw
                        case rel => exact ⟨v + 1, u + 1, by omega, Lib.hid (by have := Hu.out; omega), by omega, by omega, by go_num, trivial⟩
                        case measure => simp [intOf]; omega
                    | false =>
                      cases t2 with
                      | true =>
                        obtain rfl : b1 = false := by simpa using hb1
                        obtain rfl : b2 = true := by simpa using hb2
                        clear hb1 hb2
                        go_wp2_with fail
                        refine H1.out.mono ?_
                        rintro e x1 ⟨rfl, rfl⟩
                        go_wp2_with fail
                        refine H2.out.mono ?_
                        rintro e x2 ⟨rfl, rfl⟩
                        go_wp2_with fail
                        refine H3.out.mono ?_
                        rintro e x3 ⟨rfl, rfl⟩
                        go_wp2_with fail
                        refine H4.out.mono ?_
                        rintro e x4 ⟨rfl, rfl⟩
                        go_wp2_with fail
                        go_roundw
                        case rel => exact ⟨v + 1, u + 1, by omega, Lib.hid (by have := Hu.out; omega), by omega, by omega, by go_num, trivial⟩
                        case measure => simp [intOf]; omega
                      | false =>
                        obtain rfl : b1 = false := by simpa using hb1
                        obtain rfl : b2 = false := by simpa using hb2
                        clear hb1 hb2
                        go_wp2_with fail
                        refine H1.out.mono ?_
                        rintro e x1 ⟨rfl, rfl⟩
                        go_wp2_with fail
                        refine H2.out.mono ?_
                        rintro e x2 ⟨rfl, rfl⟩
                        go_wp2_with fail
                        refine H3.out.mono ?_
                        rintro e x3 ⟨rfl, rfl⟩
                        go_wp2_with fail
                        refine H4.out.mono ?_
                        rintro e x4 ⟨rfl, rfl⟩
                        go_wp2_with fail
                        go_roundw
                        case rel => exact ⟨v + 1, u + 1, by omega, Lib.hid (by have := Hu.out; omega), by omega, by omega, by go_num, trivial⟩
                        case measure => simp [intOf]; omega
              · have f1 : decide ((u : Int) ≤ 8) = false := decide_eq_false (by omega)
                have f2 : decide ((M : Int) ≤ 8) = true := decide_eq_true (by omega)
                have f3 : decide (M ≤ 8) = true := decide_eq_true (by omega)
                clear HR HI HG HR3 HM
                go_wp2_with fail
                go_ret
                exact ⟨rfl, fin.out⟩
end Go.Proofs.Ytoacfjmefoiflaa
