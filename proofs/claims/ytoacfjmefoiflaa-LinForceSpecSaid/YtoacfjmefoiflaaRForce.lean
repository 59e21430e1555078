/- What the reference's Force answers. -/
import Derived.Test.YtoacfjmefoiflaaRUnl
import Derived.Test.YtoacfjmefoiflaaRNorm
namespace Go.Proofs.Ytoacfjmefoiflaa
open Go.RowKit Go.Maps
set_option maxRecDepth 100000

set_option maxHeartbeats 4000000 in
theorem RForce_no1 (B : Nat) (AC AL A : Option Addr) (n1 n2 cc lc m c : Nat) (k : Int) (cs ls lits : List Int) (w : World) (hc : RdI B w AC cs) (hr : RdI B w AL ls) (_hrl : RdI B w A lits) (hB : B ≤ w.heap.size) (hcl : cs.length = n1) (hl : ls.length = n2) (hn : n2 ≤ 64) (_hml : lits.length = m) (_hm : m ≤ 100000) (hok : ¬ OkL cs ls k 65536) :
    Calls Try.prog 21 #[.agg #[.slice AC n1 cc, .slice AL n2 lc, .int .i64 k], .slice A m c] w (Forced [] false w) := by
  obtain ⟨W1, hW1⟩ : ∃ W, W = w.alloc (.cells #[.slice AC n1 cc, .slice AL n2 lc, .int .i64 k] 24) := ⟨_, rfl⟩
  have hb1 : Below w.heap.size w W1 := by rw [hW1]; exact (Below.refl _ _).alloc (Nat.le_refl _) _
  have hs1 : W1.heap.size = w.heap.size + 1 := by rw [hW1]; simp
  have hat : LinAt W1 w.heap.size (.slice AC n1 cc) (.slice AL n2 lc) k 24 := by rw [hW1]; exact heap_alloc_new _ _
  have hCk := (RCheck_any B AC AL n1 n2 cc lc k 65536 cs ls W1 (hc.below hb1 hB) (hr.below hb1 hB) (by omega) hcl hl (by omega)).2 hok
  have HCk := Lib.hid hCk
  have HW := Lib.hid hW1
  have HA := Lib.hid (And.intro hat hb1)
  obtain ⟨cC, cL, cK⟩ := hat.cells
  rw [hW1] at cC cL cK
  clear hW1 hat hc hr hCk hcl hl hok
  go_enter Try.func21, Try.ntmps21
  go_wp2_with fail
  rw [← HW.out]
  clear HW
  refine HCk.out.mono ?_
  rintro e w2 ⟨rfl, hb2⟩
  have fin := Lib.hid (HA.out.2.trans (hb2.mono HA.out.2.size))
  clear HCk HA hb2 cC cL cK
  go_wp2_with fail
  go_ret2
  exact Forced.nil fin.out
set_option maxHeartbeats 4000000 in
theorem RForce_no2 (B : Nat) (AC AL A : Option Addr) (n1 n2 cc lc m c : Nat) (k : Int) (cs ls lits : List Int) (w : World) (hc : RdI B w AC cs) (hr : RdI B w AL ls) (_hrl : RdI B w A lits) (hB : B ≤ w.heap.size) (hcl : cs.length = n1) (hl : ls.length = n2) (hn : n2 ≤ 64) (_hml : lits.length = m) (_hm : m ≤ 100000) (hok : OkL cs ls k 65536) (hU : ∀ W, Below w.heap.size w W → Calls Try.prog 31 #[.slice A m c, .int .i64 65536] W fun e w' => e = .returned (.bool false) ∧ Below W.heap.size W w') :
    Calls Try.prog 21 #[.agg #[.slice AC n1 cc, .slice AL n2 lc, .int .i64 k], .slice A m c] w (Forced [] false w) := by
  obtain ⟨W1, hW1⟩ : ∃ W, W = w.alloc (.cells #[.slice AC n1 cc, .slice AL n2 lc, .int .i64 k] 24) := ⟨_, rfl⟩
  have hb1 : Below w.heap.size w W1 := by rw [hW1]; exact (Below.refl _ _).alloc (Nat.le_refl _) _
  have hs1 : W1.heap.size = w.heap.size + 1 := by rw [hW1]; simp
  have hat : LinAt W1 w.heap.size (.slice AC n1 cc) (.slice AL n2 lc) k 24 := by rw [hW1]; exact heap_alloc_new _ _
  have hCk := (RCheck_any B AC AL n1 n2 cc lc k 65536 cs ls W1 (hc.below hb1 hB) (hr.below hb1 hB) (by omega) hcl hl (by omega)).1 hok
  have HCk := Lib.hid hCk
  have HW := Lib.hid hW1
  have HA := Lib.hid (And.intro hat hb1)
  obtain ⟨cC, cL, cK⟩ := hat.cells
  rw [hW1] at cC cL cK
  have HU := Lib.hid hU
  clear hW1 hat hc hr hCk hcl hl hok hU
  go_enter Try.func21, Try.ntmps21
  go_wp2_with fail
  rw [← HW.out]
  clear HW
  refine HCk.out.mono ?_
  rintro e w2 ⟨rfl, hb2⟩
  have hb02 := HA.out.2.trans (hb2.mono HA.out.2.size)
  have hU2 := Lib.hid (HU.out w2 hb02)
  have F2 := Lib.hid hb02
  clear HCk HA hb2 cC cL cK HU hb02
  go_wp2_with fail
  refine hU2.out.mono ?_
  rintro e w3 ⟨rfl, hb3⟩
  have fin := Lib.hid (F2.out.trans (hb3.mono F2.out.size))
  clear hU2 F2 hb3
  go_wp2_with fail
  go_ret2
  exact Forced.nil fin.out
theorem quiet_still0 {P : Program} {f : FuncId} {args : Array Value} {w : World} {n : Nat} {v : Value} (h : Calls P f args (w.drewN n) fun e w' => e = .returned v ∧ w.drewN n = w') :
    Calls P f args (w.drewN n) fun e w'' => e = .returned v ∧ ∃ m, w'' = w.drewN m :=
  h.mono fun _ _ ⟨he, hm⟩ => ⟨he, n, hm.symm⟩
set_option maxHeartbeats 16000000 in
theorem RForce_ok (B : Nat) (AC AL A : Option Addr) (n1 n2 cc lc m c : Nat) (k : Int) (cs ls lits : List Int) (w : World) (hc : RdI B w AC cs) (hr : RdI B w AL ls) (hrl : RdI B w A lits) (hB : B ≤ w.heap.size) (hcl : cs.length = n1) (hl : ls.length = n2) (hn : n2 ≤ 64) (hml : lits.length = m) (hm : m ≤ 100000) (hok : OkL cs ls k 65536) (hU : ∀ W, Below w.heap.size w W → Calls Try.prog 31 #[.slice A m c, .int .i64 65536] W fun e w' => e = .returned (.bool true) ∧ Below W.heap.size W w') :
    Calls Try.prog 21 #[.agg #[.slice AC n1 cc, .slice AL n2 lc, .int .i64 k], .slice A m c] w (Forced (fRes lits cs ls k) (fOk lits cs ls k) w) := by
  obtain rfl : n1 = n2 := by have := hok.2.2.1; omega
  obtain ⟨W1, hW1⟩ : ∃ W, W = w.alloc (.cells #[.slice AC n1 cc, .slice AL n1 lc, .int .i64 k] 24) := ⟨_, rfl⟩
  have hb1 : Below w.heap.size w W1 := by rw [hW1]; exact (Below.refl _ _).alloc (Nat.le_refl _) _
  have hs1 : W1.heap.size = w.heap.size + 1 := by rw [hW1]; simp
  have hat : LinAt W1 w.heap.size (.slice AC n1 cc) (.slice AL n1 lc) k 24 := by rw [hW1]; exact heap_alloc_new _ _
  have hCk := (RCheck_any B AC AL n1 n1 cc lc k 65536 cs ls W1 (hc.below hb1 hB) (hr.below hb1 hB) (by omega) hcl hl (by omega)).1 hok
  have HCk := Lib.hid hCk
  have HW := Lib.hid hW1
  have HA := Lib.hid (And.intro hat hb1)
  obtain ⟨cC, cL, cK⟩ := hat.cells
  rw [hW1] at cC cL cK
  have HU := Lib.hid hU
  have HNm := Lib.hid (fun W (h : Below w.heap.size w W) => RNorm_ok B n1 cc lc AC AL k cs ls W (hc.below h hB) (hr.below h hB) (by have := h.size; omega) hcl hl (by omega) hok)
  have HRl := Lib.hid (fun W (h : Below w.heap.size w W) => (hrl.below h hB))
  have hCan := canon cs ls k 65536 (by omega) (by omega) hok.cs hok.ls
  have hCl : (nC cs ls k).length ≤ n1 := by have := norm_len cs ls k; omega
  have HC := Lib.hid (And.intro hCan hCl)
  have Hml := Lib.hid hml
  have HB := Lib.hid hB
  obtain ⟨rs, hrs⟩ : ∃ rs, fRes lits cs ls k = rs := ⟨_, rfl⟩
  obtain ⟨ob, hob⟩ : ∃ ob, fOk lits cs ls k = ob := ⟨_, rfl⟩
  have hfo := hob
  have hfr := hrs
  unfold fRes at hfr
  rw [hob] at hfr
  unfold fOk at hfo
  have HRO := Lib.hid (And.intro hfo hfr)
  rw [hrs, hob]
  clear hW1 hat hc hr hrl hCk hcl hl hok hml hU hCan hCl hB hrs hob hfo hfr
  go_enter Try.func21, Try.ntmps21
  go_wp2_with fail
  rw [← HW.out]
  clear HW
  refine HCk.out.mono ?_
  rintro e w2 ⟨rfl, hb2⟩
  have hb02 := HA.out.2.trans (hb2.mono HA.out.2.size)
  have hU2 := Lib.hid (HU.out w2 hb02)
  have HA := Lib.hid (And.intro (HA.out.1.below hb2) hb02)
  clear HCk hb2 cC cL cK HU hb02
  obtain ⟨cC, cL, cK⟩ := HA.out.1.cells
  go_wp2_with fail
  refine hU2.out.mono ?_
  rintro e w3 ⟨rfl, hb3⟩
  have hb03 := HA.out.2.trans (hb3.mono HA.out.2.size)
  have hN3 := Lib.hid (HNm.out w3 hb03)
  have HA := Lib.hid (And.intro (HA.out.1.below hb3) hb03)
  clear hU2 hb3 cC cL cK HNm hb03
  obtain ⟨cC, cL, cK⟩ := HA.out.1.cells
  go_wp2_with fail
  refine hN3.out.mono ?_
  rintro e w4 ⟨A1, c1, A2, c2, rfl, q1, q2, _, _, hb4⟩
  clear hN3 cC cL cK
  obtain ⟨C, hC⟩ : ∃ C, nC cs ls k = C := ⟨_, rfl⟩
  obtain ⟨L, hL⟩ : ∃ L, nL cs ls k = L := ⟨_, rfl⟩
  obtain ⟨K, hK⟩ : ∃ K, nK cs ls k = K := ⟨_, rfl⟩
  rw [hC, hL, hK] at HRO
  rw [hC, hL, hK] at HC ⊢
  rw [hC] at q1
  rw [hL] at q2
  obtain ⟨M, hM⟩ : ∃ M, C.length = M := ⟨_, rfl⟩
  have hM' : L.length = M := by rw [← HC.out.1.len]; exact hM
  rw [hM, hM']
  have hMn : M ≤ 64 := by have := HC.out.2; omega
  have hs4 := hb4.size
  have low4 := HA.out.2.trans (hb4.mono HA.out.2.size)
  obtain ⟨g, hg⟩ : ∃ g, w4.heap.size = g := ⟨_, rfl⟩
  obtain ⟨W5, hW5⟩ : ∃ W5, W5 = w4.alloc (.cells #[.slice A1 M c1, .slice A2 M c2, .int .i64 K] 24) := ⟨_, rfl⟩
  have hs5 : W5.heap.size = g + 1 := by rw [hW5]; simp [hg]
  have hb5 : Below w4.heap.size w4 W5 := by rw [hW5]; exact (Below.refl _ _).alloc (Nat.le_refl _) _
  have hat5 : LinAt W5 g (.slice A1 M c1) (.slice A2 M c2) K 24 := by rw [hW5, ← hg]; exact heap_alloc_new _ _
  have low5 := low4.trans (hb5.mono low4.size)
  have q1 := q1.below hb5 (Nat.le_refl _)
  have q2 := q2.below hb5 (Nat.le_refl _)
  rw [hg] at q1 q2
  have hKb : 0 ≤ K ∧ K ≤ 9007199254740992 := by
    have hcan := HC.out.1
    by_cases hC0 : C = []
    · have := hcan.none hC0; omega
    · have h1 := hcan.some hC0
      have h2 := su_bound 140737488355328 (by omega) C fun c hc => by have := hcan.pos c hc; have := hcan.big c hc; omega
      rw [hM] at h2
      omega
  obtain ⟨T, hT⟩ : ∃ T, can lits C L = T := ⟨_, rfl⟩
  have hTb := can_bound 140737488355328 (by omega) lits C L (fun c hc => by have := HC.out.1.pos c hc; have := HC.out.1.big c hc; omega)
  rw [hT, hM] at hTb
  rw [hT] at HRO
  have HT := Lib.hid hT
  have HR := Lib.hid (And.intro q1 (And.intro q2 (HRl.out W5 low5)))
  have HM := Lib.hid (And.intro hM hM')
  have HL5 := Lib.hid low5
  have H5 := Lib.hid hat5
  have HW := Lib.hid hW5
  clear hW5 hb5 low5 low4 q1 q2 hM hM' hT hC hL hK hb4 hat5 HRl HA hs1
  go_wp2_with fail
  rw [← HW.out]
  clear HW
  obtain ⟨xC, xL, xK⟩ := H5.out.cells
  go_loopw [7, 8] (fun a i wr => ∃ j : Nat, j ≤ M ∧ a = .int .i64 (can lits (C.take j) (L.take j)) ∧ i = .int .i64 j ∧ W5 = wr) (fun _ i _ => M - (intOf i).toNat)
  case atStart => exact ⟨0, by omega, by simp [can], rfl, rfl⟩
  case round =>
    obtain ⟨j, hj, rfl, rfl, rfl⟩ := hrel
    by_cases hlt : j < M
    · have hjc : j < C.length := by rw [HM.out.1]; exact hlt
      have hjl : j < L.length := by rw [HM.out.2]; exact hlt
      obtain ⟨b1, o1, hA1, _, z1⟩ := HR.out.1.2 (by omega)
      obtain ⟨b2, o2, hA2, _, z2⟩ := HR.out.2.1.2 (by omega)
      have hc1 := z1 j hjc
      have hz1 := z2 j hjl
      have hlit := HC.out.1.lit (L[j]?.getD 0) (by rw [List.getElem?_eq_getElem hjl]; exact List.getElem_mem _)
      have hxb := HC.out.1.big (C[j]?.getD 0) (by rw [List.getElem?_eq_getElem hjc]; exact List.getElem_mem _)
      have hxp := HC.out.1.pos (C[j]?.getD 0) (by rw [List.getElem?_eq_getElem hjc]; exact List.getElem_mem _)
      have hst := can_take lits C L j HC.out.1.len hjc hjl
      have hcb := can_bound 140737488355328 (by omega) lits (C.take j) (L.take j) (fun c hc => by have := HC.out.1.pos c (List.mem_of_mem_take hc); have := HC.out.1.big c (List.mem_of_mem_take hc); omega)
      rw [List.length_take, Nat.min_eq_left (by omega)] at hcb
      have hH := Has_any B m c A (-(L[j]?.getD 0)) lits W5 HR.out.2.2 Hml.out hm
      clear z1 z2 hjc hjl HR HRO HT HM HC
      generalize C[j]?.getD 0 = t at *
      generalize L[j]?.getD 0 = x at *
      generalize can lits (C.take j) (L.take j) = y at *
      cases hA1
      cases hA2
      have hneg : wrap64 (-x) = -x := IntWalk.wrap64_in _ (by omega)
      have hneg' : wrap64 (0 - x) = -x := by rw [IntWalk.wrap64_in _ (by omega)]; omega
      by_cases hin : -x ∈ lits
      · rw [if_pos hin] at hst
        rw [decide_eq_true hin] at hH
        have hH := Lib.hid hH
        have HS := Lib.hid hst
        clear hst hin
        go_wp2_with fail
        refine hH.out.mono ?_
        rintro e w' ⟨rfl, rfl⟩
        go_wp2_with fail
        go_roundw
        case rel => exact ⟨j + 1, by omega, by rw [HS.out]; simp, by go_num, trivial⟩
        case measure => simp [intOf]; omega
      · rw [if_neg hin] at hst
        rw [decide_eq_false hin] at hH
        have hH := Lib.hid hH
        have HS := Lib.hid hst
        clear hst hin
        go_wp2_with fail
        refine hH.out.mono ?_
        rintro e w' ⟨rfl, rfl⟩
        go_wp2_with fail
        go_roundw
        case rel => exact ⟨j + 1, by omega, by rw [HS.out], by go_num, trivial⟩
        case measure => simp [intOf]; omega
    · obtain rfl : j = M := by omega
      rw [List.take_of_length_le (by have := HM.out.1; omega), List.take_of_length_le (by have := HM.out.2; omega), HT.out]
      by_cases hTK : T < K
      · have f1 : decide (T < K) = true := decide_eq_true hTK
        obtain rfl : ob = false := by rw [← HRO.out.1]; exact decide_eq_false (by omega)
        obtain rfl : rs = [] := by rw [← HRO.out.2]; rfl
        clear HRO HT HM HC HR Hml HB hTK
        go_wp2_with fail
        go_ret2
        exact Forced.nil HL5.out
      · have f1 : decide (T < K) = false := decide_eq_false hTK
        obtain rfl : ob = true := by rw [← HRO.out.1]; exact decide_eq_true (by omega)
        have hrs : frc lits (T - K) C L = rs := by rw [← HRO.out.2]; rfl
        have HRS := Lib.hid hrs
        clear hrs HRO hTK
        go_wp2_with fail
        clear f1 xC xL xK
        have hTK1 : wrap64 (T - K) = T - K := IntWalk.wrap64_in _ (by omega)
        have hTK2 : IntKind.i64.wrap (T - K) = T - K := by rw [IntWalk.i64_left]; exact hTK1
        go_loopw [9, 10] (fun a i wr => ∃ q : Nat, q ≤ j ∧ i = .int .i64 q ∧ Hid (RowI wr (g + 1) a (frc lits (T - K) (C.take q) (L.take q)) ∧ Below (g + 1) W5 wr)) (fun _ i _ => j - (intOf i).toNat)
        case atStart => exact ⟨0, by omega, rfl, Lib.hid ⟨by simpa [frc] using RowI.empty W5 (g + 1), Below.refl _ _⟩⟩
        case round =>
          obtain ⟨q, hq, rfl, HQ⟩ := hrel
          have hatr : LinAt wr g (.slice A1 j c1) (.slice A2 j c2) K 24 := (HQ.out.2.block _ (by omega)).trans H5.out
          obtain ⟨xC, xL, xK⟩ := hatr.cells
          obtain ⟨A3, c3, hA3, _, _⟩ := HQ.out.1.shape
          obtain ⟨L3, hL3⟩ : ∃ L3, (frc lits (T - K) (C.take q) (L.take q)).length = L3 := ⟨_, rfl⟩
          rw [hL3] at hA3
          subst hA3
          clear hL3 hatr
          by_cases hlt2 : q < j
          · have hjc : q < C.length := by rw [HM.out.1]; exact hlt2
            have hjl : q < L.length := by rw [HM.out.2]; exact hlt2
            obtain ⟨b1, o1, hA1, _, z1⟩ := (HR.out.1.below HQ.out.2 (by omega)).2 (by omega)
            obtain ⟨b2, o2, hA2, _, z2⟩ := (HR.out.2.1.below HQ.out.2 (by omega)).2 (by omega)
            have hc1 := z1 q hjc
            have hz1 := z2 q hjl
            have hlit := HC.out.1.lit (L[q]?.getD 0) (by rw [List.getElem?_eq_getElem hjl]; exact List.getElem_mem _)
            have hnext := frc_take lits C L (T - K) q HC.out.1.len hjc hjl
            have hle := frc_len lits (T - K) (C.take q) (L.take q)
            rw [List.length_take] at hle
            have hrl := HR.out.2.2.below HQ.out.2 (by have := HB.out; have := HL5.out.size; omega)
            have hH := fun z d => Has_any B m c A z lits (wr.drewN d) (hrl.drewN d) Hml.out hm
            have hH1 := fun d => hH (L[q]?.getD 0) d
            have hH2 := fun d => hH (-(L[q]?.getD 0)) d
            have HQd := Lib.hid (fun d => And.intro (HQ.out.1.below (below_drewN (Below.refl wr.heap.size wr) d)) (And.intro HQ.out.2.size (below_drewN HQ.out.2 d)))
            clear z1 z2 hjc hjl hrl hH HQ HR HC HM HT
            generalize C[q]?.getD 0 = t at *
            generalize L[q]?.getD 0 = x at *
            cases hA1
            cases hA2
            have hneg : wrap64 (-x) = -x := IntWalk.wrap64_in _ (by omega)
            have hneg2 : IntKind.i64.wrap (-x) = -x := by rw [IntWalk.i64_left]; exact hneg
            have hneg3 : IntKind.i64.wrap (0 - x) = -x := by rw [IntWalk.i64_left, IntWalk.wrap64_in _ (by omega)]; omega
            by_cases h1 : x ∈ lits
            · rw [if_pos (.inl h1), List.append_nil] at hnext
              rw [decide_eq_true h1] at hH1
              have H1 := Lib.hid hH1
              have H2 := Lib.hid hH2
              have HN := Lib.hid hnext
              clear hH1 hH2 hnext hle h1
              go_wp2
              go_quiet ((first | (go_at_call_of 33 (-x); exact quiet_still0 (H2.out _)) | (go_at_call_of 33 x; exact quiet_still0 (H1.out _))))
              go_wp2
              go_roundw
              case rel => exact ⟨q + 1, by omega, by go_num, Lib.hid ⟨by rw [HN.out]; exact (HQd.out _).1, (HQd.out _).2.2⟩⟩
              case measure => simp [intOf]; omega
            · rw [decide_eq_false h1] at hH1
              by_cases h2 : -x ∈ lits
              · rw [if_pos (.inr (.inl h2)), List.append_nil] at hnext
                rw [decide_eq_true h2] at hH2
                have H1 := Lib.hid hH1
                have H2 := Lib.hid hH2
                have HN := Lib.hid hnext
                clear hH1 hH2 hnext hle h1 h2
                go_wp2
                go_quiet ((first | (go_at_call_of 33 (-x); exact quiet_still0 (H2.out _)) | (go_at_call_of 33 x; exact quiet_still0 (H1.out _))))
                go_wp2
                go_roundw
                case rel => exact ⟨q + 1, by omega, by go_num, Lib.hid ⟨by rw [HN.out]; exact (HQd.out _).1, (HQd.out _).2.2⟩⟩
                case measure => simp [intOf]; omega
              · rw [decide_eq_false h2] at hH2
                by_cases h3 : t ≤ T - K
                · rw [if_pos (.inr (.inr h3)), List.append_nil] at hnext
                  have e1 : decide (t > T - K) = false := decide_eq_false (by omega)
                  have e2 : decide (T - K < t) = false := decide_eq_false (by omega)
                  have H1 := Lib.hid hH1
                  have H2 := Lib.hid hH2
                  have HN := Lib.hid hnext
                  clear hH1 hH2 hnext hle h1 h2 h3
                  go_wp2
                  go_quiet ((first | (go_at_call_of 33 (-x); exact quiet_still0 (H2.out _)) | (go_at_call_of 33 x; exact quiet_still0 (H1.out _))))
                  go_wp2
                  go_roundw
                  case rel => exact ⟨q + 1, by omega, by go_num, Lib.hid ⟨by rw [HN.out]; exact (HQd.out _).1, (HQd.out _).2.2⟩⟩
                  case measure => simp [intOf]; omega
                · rw [if_neg (by rintro (h | h | h); exact h1 h; exact h2 h; exact h3 h)] at hnext
                  have e1 : decide (t > T - K) = true := decide_eq_true (by omega)
                  have e2 : decide (T - K < t) = true := decide_eq_true (by omega)
                  have H1 := Lib.hid hH1
                  have H2 := Lib.hid hH2
                  have HN := Lib.hid hnext
                  have HL := Lib.hid hle
                  clear hH1 hH2 hnext hle h1 h2 h3
                  go_wp2
                  go_quiet ((first | (go_at_call_of 33 (-x); exact quiet_still0 (H2.out _)) | (go_at_call_of 33 x; exact quiet_still0 (H1.out _))))
                  go_wp2_with (at_builtin; refine push_own rfl _ _ rfl (g + 1) (.slice A3 L3 c3) (frc lits (T - K) (C.take q) (L.take q)) rfl (HQd.out _).1 x ⟨by omega, by omega⟩ rfl (by have := HL.out; omega) (show g + 1 ≤ wr.heap.size by have := (HQd.out 0).2.1; omega) ?_)
                  intro v' w' hr' hlow' _
                  rw [← HN.out] at hr'
                  have HX := Lib.hid (And.intro hr' ((HQd.out _).2.2.trans hlow'))
                  clear hr' hlow' HQd H1 H2
                  go_wp2_with fail
                  go_roundw
                  case rel => exact ⟨q + 1, by omega, by go_num, HX⟩
                  case measure => simp [intOf]; omega
          · obtain rfl : q = j := by omega
            rw [List.take_of_length_le (by have := HM.out.1; omega), List.take_of_length_le (by have := HM.out.2; omega), HRS.out] at HQ
            have fin : Hid (RowI wr w.heap.size (.slice A3 L3 c3) rs ∧ Below w.heap.size w wr) := Lib.hid ⟨HQ.out.1.base (by have := HL5.out.size; omega), HL5.out.trans (HQ.out.2.mono (by have := HL5.out.size; omega))⟩
            clear HQ HR HC HM HT
            go_wp2_with fail
            go_ret2
            exact ⟨_, rfl, fin.out⟩
end Go.Proofs.Ytoacfjmefoiflaa
