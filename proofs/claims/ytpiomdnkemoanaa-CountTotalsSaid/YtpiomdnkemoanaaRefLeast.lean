/- The reference's Least where it builds the clauses. -/
import Derived.Test.YtpiomdnkemoanaaPush2
import Derived.Test.YtpiomdnkemoanaaFits
import Derived.Deep.CutRange
namespace Go.Proofs.Ytpiomdnkemoanaa
open Go.RowKit

theorem nz_cons {x : Int} {l : List Int} (h : x ≠ 0) : nz (x :: l) = x :: nz l := by
  unfold nz; rw [List.filter_cons_of_pos (by simpa using h)]
theorem nz_zero {l : List Int} : nz (0 :: l) = nz l := by
  unfold nz; rw [List.filter_cons_of_neg (by simp)]
theorem crow_ref {x : Int} {s bf ls i ah q : Nat} {tl : List Int} (hq : s + i = q) (hs : 1 ≤ s) (hx : x ≠ 0) (hbf : 0 < ls → 1 ≤ bf ∧ ah = bf) (htl : (if i < ls then [((ah + i : Nat) : Int)] else []) = tl) (hil : i ≤ ls) :
    crow x s bf ls (i + 1) = crow x s bf ls i ++ ([-(q : Int) :: (tl ++ [x])] ++ (if 0 < i then [-(q : Int) :: (tl ++ [((ah + (i - 1) : Nat) : Int)])] else [])) := by
  rw [crow, hq]
  have hab : ∀ z : Int, z ≠ 0 → nz [-(q : Int), ab bf ls i, z] = -(q : Int) :: (tl ++ [z]) := by
    intro z hz
    rw [nz_cons (by omega), ← htl]
    by_cases h : i < ls
    · obtain ⟨h1, h2⟩ := hbf (by omega)
      rw [if_pos h, show ab bf ls i = ((ah + i : Nat) : Int) by unfold ab; rw [if_pos h, h2], nz_cons (by omega), nz_cons hz]; rfl
    · rw [if_neg h, show ab bf ls i = 0 by unfold ab; rw [if_neg h], nz_zero, nz_cons hz]; rfl
  rw [hab x hx]
  congr 2
  by_cases h0 : 0 < i
  · obtain ⟨h1, h2⟩ := hbf (by omega)
    have e : ab bf ls (i - 1) = ((ah + (i - 1) : Nat) : Int) := by unfold ab; rw [if_pos (by omega), h2]
    rw [if_pos h0, if_pos h0, e, hab _ (by omega)]
  · rw [if_neg h0, if_neg h0]

theorem results14 (tm : Array Value) (w : World) : (results Try.f14 tm).run Try.prog w = .ok (.tuple #[tm[6]?.getD undef, tm[7]?.getD undef, tm[8]?.getD undef]) w := by
  have hr : Try.f14.results = #[.tmp 6, .tmp 7, .tmp 8] := rfl
  simp only [results, hr]
  simp [go_sem]
theorem crow_last {K m n : Nat} (hK1 : 1 ≤ K) (hK2 : K ≤ n) : (cst K m n).2 + K = (cst K m n).1 := by
  obtain ⟨t, rfl⟩ : ∃ t, n = t + 1 := ⟨n - 1, by omega⟩
  show (cst K m t).1 + K = (cst K m t).1 + min (t + 1) K
  omega
theorem cst_pos {K m : Nat} (h : 1 ≤ m) (n : Nat) : 1 ≤ (cst K m n).2 := by
  cases n with
  | zero => exact h
  | succ t => show 1 ≤ (cst K m t).1; rw [cst_regs]; omega

set_option maxRecDepth 30000 in
set_option maxHeartbeats 8000000 in
theorem ref_ok (B : Nat) (A : Option Addr) (n c m K : Nat) (zs : List Int) (w : World) (hr : RdI B w A zs) (hB : B ≤ w.heap.size) (hl : zs.length = n) (hn : n ≤ 300) (hz : ∀ x ∈ zs, Lit m x) (h1 : 1 ≤ m) (h2 : m ≤ 65537) (hK1 : 1 ≤ K) (hK2 : K ≤ n) (hreg : m + regs K n ≤ 65537)
    (hC : Calls Try.prog 29 #[.slice A n c, .int .i64 (m : Int)] w fun e w' => e = .returned (.int .i64 0) ∧ Below w.heap.size w w') (P : Ending → World → Prop)
    (hP1 : 65536 < (ctr zs K m).length → ∀ e w', LsRes w [] 0 2 e w' → P e w') (hP2 : (ctr zs K m).length ≤ 65536 → ∀ e w', LsRes w (ctr zs K m) (m + regs K n) 0 e w' → P e w') :
    Calls Try.prog 14 #[.slice A n c, .int .i64 (K : Int), .int .i64 (m : Int)] w P := by
  have Hl := Lib.hid hl
  have Hz := Lib.hid hz
  have hC := Lib.hid hC
  have HP := Lib.hid (And.intro hP1 hP2)
  clear hP1 hP2
  have d0 : decide ((K : Int) ≤ 0) = false := decide_eq_false (by omega)
  have dK : decide (K = 0) = false := decide_eq_false (by omega)
  have d0' : decide ((n : Int) < (K : Int)) = false := decide_eq_false (by omega)
  have d0'' : decide (n < K) = false := decide_eq_false (by omega)
  have hmr := fun r (h : r ≤ n) => by
    have q := cst_mono K m r (n - r)
    rw [show r + (n - r) = n by omega, cst_regs, cst_regs] at q
    exact (show m + regs K r ≤ 65537 by omega)
  clear hl hz
  go_enter Try.func14, Try.ntmps14
  go_wp2_with fail
  refine hC.out.mono ?_
  rintro e w1 ⟨rfl, hb⟩
  go_wp2_with fail
  go_loopw [11, 12] (fun v i wr => ∃ r : Nat, r ≤ n ∧ v = .int .i64 (((m + regs K r : Nat) : Int) - 1) ∧ i = .int .i64 ((r + 1 : Nat) : Int) ∧ w1 = wr) (fun _ i _ => n + 1 - (intOf i).toNat)
  case atStart => exact ⟨0, by omega, rfl, rfl, rfl⟩
  case round =>
    obtain ⟨r, hrn, rfl, rfl, rfl⟩ := hrel
    have hb2 := hmr r hrn
    by_cases hlt : r < n
    · obtain ⟨q, hq⟩ : ∃ q, r + 1 = q := ⟨_, rfl⟩
      rw [hq]
      have d1 : decide ((q : Int) ≤ (n : Int)) = true := decide_eq_true (by omega)
      have d1' : decide (q ≤ n) = true := decide_eq_true (by omega)
      obtain ⟨u, hu⟩ : ∃ u, min q K = u := ⟨_, rfl⟩
      have m1 : (if K < q then (K : Int) else (q : Int)) = (u : Int) := by split <;> omega
      obtain ⟨t, ht⟩ : ∃ t, m + regs K r = t := ⟨_, rfl⟩
      have hnext : m + regs K q = t + u := by rw [← hq, regs, hq, hu]; omega
      have hu2 : u ≤ 300 := by omega
      have v1 : (t : Int) - 1 + (u : Int) = ((t + u : Nat) : Int) - 1 := by omega
      rw [ht] at hb2 ⊢
      have Hn := Lib.hid hnext
      have hqn : q ≤ n := by omega
      have ht1 : 1 ≤ t := by omega
      clear hnext hu hq ht
      go_wp2_with fail
      go_roundw
      case rel => exact ⟨q, hqn, by rw [Hn.out]; first | rfl | (congr 1; omega) | go_num, by go_num, trivial⟩
      case measure => simp [intOf]; omega
    · obtain rfl : r = n := by omega
      obtain ⟨la, hla⟩ : ∃ t, m + regs K r = t := ⟨_, rfl⟩
      obtain ⟨rp, hrp⟩ : ∃ t, r + 1 = t := ⟨_, rfl⟩
      rw [hla] at hb2 ⊢
      rw [hrp]
      have d1 : decide ((rp : Int) ≤ (r : Int)) = false := decide_eq_false (by omega)
      have d1' : decide (rp ≤ r) = false := decide_eq_false (by omega)
      have d2 : decide ((65536 : Int) < (la : Int) - 1) = false := decide_eq_false (by omega)
      have Hla := Lib.hid (And.intro hla hrp)
      have hla1 : 1 ≤ la := by omega
      clear hla hrp
      have Hs := Lib.hid hmr
      clear hmr
      go_wp2_with fail
      go_loopw [13, 14, 15, 16] (fun cv bg ahv i wr => ∃ r2 ah : Nat, r2 ≤ r ∧ Cls wr w.heap.size cv (crows zs K m r2) ∧ bg = .int .i64 ((cst K m r2).1 : Int) ∧ ahv = .int .i64 (ah : Int) ∧ (0 < r2 → ah = (cst K m r2).2) ∧ ah ≤ 65537 ∧ i = .int .i64 ((r2 + 1 : Nat) : Int) ∧ Below w.heap.size w wr) (fun _ _ _ i _ => r + 1 - (intOf i).toNat)
      case atStart => exact ⟨0, 0, by omega, Cls.nil _ _, rfl, rfl, fun h => absurd h (by omega), by omega, rfl, hb⟩
      case round =>
        obtain ⟨r2, ah, hr2, hcls, rfl, rfl, hah, hah2, rfl, hlow⟩ := hrel
        have hs := Hs.out r2 hr2
        have hs1 := cst_regs K m r2
        by_cases hlt2 : r2 < r
        · obtain ⟨iv, hiv⟩ : ∃ q, r2 + 1 = q := ⟨_, rfl⟩
          rw [hiv]
          have c1 : decide ((iv : Int) ≤ (r : Int)) = true := decide_eq_true (by omega)
          have c1' : decide (iv ≤ r) = true := decide_eq_true (by omega)
          obtain ⟨wd, hwd⟩ : ∃ x, min (r2 + 1) K = x := ⟨_, rfl⟩
          obtain ⟨ls, hls⟩ : ∃ x, min r2 K = x := ⟨_, rfl⟩
          have m1 : (if K < iv then (K : Int) else (iv : Int)) = (wd : Int) := by split <;> omega
          have m2 : (if K < r2 then (K : Int) else (r2 : Int)) = (ls : Int) := by split <;> omega
          have m0 : (iv : Int) - 1 = (r2 : Int) := by omega
          have hwd2 : wd ≤ 300 := by omega
          have hls2 : ls ≤ 300 := by omega
          have hwl : wd ≤ ls + 1 := by omega
          have hls0 : 0 < ls → 0 < r2 := by omega
          have hro : r2 < zs.length := by rw [Hl.out]; exact hlt2
          have hxl : Lit m (zs[r2]?.getD 0) := by rw [List.getElem?_eq_getElem hro]; exact Hz.out _ (List.getElem_mem _)
          have Hnext := Lib.hid (show crows zs K m (r2 + 1) = crows zs K m r2 ++ crow (zs[r2]?.getD 0) (cst K m r2).1 (cst K m r2).2 ls wd ∧ (cst K m (r2 + 1)).1 = (cst K m r2).1 + wd ∧ (cst K m (r2 + 1)).2 = (cst K m r2).1 from ⟨by rw [crows, hwd, hls], by rw [← hwd]; rfl, rfl⟩)
          obtain ⟨b, off, rfl, hbB, hcc⟩ := hr.2 (by omega)
          have hcw := hcc r2 hro
          have Hiv := Lib.hid hiv
          have hs2 : (cst K m r2).1 ≤ 65537 := by omega
          have hs3 : 1 ≤ (cst K m r2).1 := by omega
          have hbf1 : 1 ≤ (cst K m r2).2 := by
            cases r2 with
            | zero => exact h1
            | succ t => show 1 ≤ (cst K m t).1; rw [cst_regs]; omega
          have hclen : (crows zs K m r2).length ≤ 200000 := by
            have := crows_length zs K m hK1 r2
            omega
          clear hwd hls hcc hro hiv hs1 hs
          generalize crows zs K m r2 = cl at *
          generalize zs[r2]?.getD 0 = x at *
          generalize (cst K m r2).1 = s at *
          generalize (cst K m r2).2 = bf at *
          go_wp2_with fail
          go_loopw [13, 17] (fun cv j wx => ∃ i' : Nat, i' ≤ wd ∧ Cls wx w.heap.size cv (cl ++ crow x s bf ls i') ∧ j = .int .i64 ((i' + 1 : Nat) : Int) ∧ Below w.heap.size w wx) (fun _ j _ => wd + 1 - (intOf j).toNat)
          case atStart => exact ⟨0, by omega, by simpa [crow] using hcls, rfl, hlow⟩
          case round =>
            clear hcls hlow
            obtain ⟨i', hi', hcls, rfl, hlow⟩ := hrel
            obtain ⟨jv, hjv⟩ : ∃ q, i' + 1 = q := ⟨_, rfl⟩
            rw [hjv]
            by_cases hit : i' < wd
            · have e1 : decide ((jv : Int) ≤ (wd : Int)) = true := decide_eq_true (by omega)
              have e1' : decide (jv ≤ wd) = true := decide_eq_true (by omega)
              obtain ⟨q, hq⟩ : ∃ q, s + i' = q := ⟨_, rfl⟩
              have v1 : (s : Int) + (jv : Int) - 1 = (q : Int) := by omega
              have hj2 : jv ≤ 301 := by omega
              have hq2 : q ≤ 66000 := by omega
              obtain ⟨A1, L1, k1, rfl⟩ := hcls.sl
              have hqw : Wf (-(q : Int)) := ⟨by omega, by omega⟩
              have ra := (RowI.one wr wr.heap.size (-(q : Int)) hqw (Nat.le_refl _)).alloc (.cells #[.int .i64 (-(q : Int))] 3)
              have rb := RowI.one (wr.alloc (.cells #[.int .i64 (-(q : Int))] 3)) wr.heap.size (-(q : Int)) hqw (by simp)
              rw [World.size_alloc] at rb
              have lowX := ((Below.refl wr.heap.size wr).alloc (Nat.le_refl _) (.cells #[.int .i64 (-(q : Int))] 3)).alloc (by simp) (.cells #[.int .i64 (-(q : Int))] 3)
              obtain ⟨tl, htl⟩ : ∃ t, (if i' < ls then [((ah + i' : Nat) : Int)] else []) = t := ⟨_, rfl⟩
              have Htl := Lib.hid htl
              have Hcrow := Lib.hid (crow_ref (x := x) (bf := bf) hq (by omega) hxl.1 (fun h => ⟨hbf1, hah (hls0 h)⟩) htl (by omega))
              clear htl
              go_upto_if 80 with fail
              obtain ⟨X2, hX2⟩ : ∃ X, X = (wr.alloc (.cells #[.int .i64 (-(q : Int))] 3)).alloc (.cells #[.int .i64 (-(q : Int))] 3) := ⟨_, rfl⟩
              rw [← hX2] at ra rb lowX ⊢
              clear hX2
              have sX := lowX.size
              go_cut [19, 20] from 58 to 119 (fun ua ub wy => RowI wy wr.heap.size ua (-(q : Int) :: tl) ∧ RowI wy wr.heap.size ub (-(q : Int) :: tl) ∧ Below wr.heap.size wr wy ∧ ∀ k, ua.ownBlock = some k → ub.ownBlock ≠ some k)
              case first =>
                by_cases hil : i' < ls
                · obtain ⟨y, hy⟩ : ∃ y, ah + i' = y := ⟨_, rfl⟩
                  have htl2 : tl = [(y : Int)] := by rw [← Htl.out, if_pos hil, hy]
                  have v2 : (ah : Int) + (jv : Int) - 1 = (y : Int) := by omega
                  have e2 : decide ((jv : Int) ≤ (ls : Int)) = true := decide_eq_true (by omega)
                  have e2' : decide (jv ≤ ls) = true := decide_eq_true (by omega)
                  have hyw : Wf (y : Int) := ⟨by omega, by omega⟩
                  have hy2 : y ≤ 66000 := by omega
                  have Htl2 := Lib.hid htl2
                  clear htl2 hy
                  go_wp2_with (at_builtin; refine push_new rfl _ _ rfl wr.heap.size _ 1 _ rfl ra rfl (by omega) (y : Int) hyw rfl (by omega) ?_)
                  intro a' w3 ra' lowa
                  have rb3 := rb.below lowa
                  have s3 := lowa.size
                  clear rb ra
                  go_wp2_with (at_builtin; refine push_new rfl _ _ rfl wr.heap.size _ 1 _ rfl rb3 rfl (by omega) (y : Int) hyw rfl (by omega) ?_)
                  intro b' w4 rb' lowb
                  have ra4 := ra'.below lowb
                  go_wp2_with fail
                  go_meet
                  case rel => (repeat apply Exists.intro); exact ⟨by rw [Htl2.out]; exact ra4.base sX, by rw [Htl2.out]; exact rb'.base (Nat.le_trans sX s3), (lowX.trans (lowa.mono sX)).trans (lowb.mono (Nat.le_trans sX s3)), fun k ka kb => by have q1 := (ra'.2.lt k ka).2; have q2 := (rb'.2.lt k kb).1; omega⟩
                · have htl2 : tl = [] := by rw [← Htl.out, if_neg hil]
                  have e2 : decide ((jv : Int) ≤ (ls : Int)) = false := decide_eq_false (by omega)
                  have e2' : decide (jv ≤ ls) = false := decide_eq_false (by omega)
                  have Htl2 := Lib.hid htl2
                  clear htl2
                  go_wp2_with fail
                  go_meet
                  case rel => (repeat apply Exists.intro); exact ⟨by rw [Htl2.out]; exact ra, by rw [Htl2.out]; exact rb, lowX, fun k ka kb => by simp [Value.ownBlock] at ka kb; omega⟩
              case rest =>
                clear ra rb lowX sX
                obtain ⟨rA, rB, lowY, hne⟩ := hcut
                rename World => wy
                obtain ⟨vs, hown, hels⟩ := hcls
                have hvs : ∀ a ∈ vs, ∀ k, a.ownBlock = some k → k < wr.heap.size := by
                  intro a ha k hk
                  obtain ⟨j, hj, rfl⟩ := List.mem_iff_getElem.1 ha
                  obtain ⟨u, hu, hrw⟩ := hels.2 j (by rw [← hels.1]; exact hj)
                  rw [List.getElem?_eq_getElem hj] at hu
                  injection hu with hu
                  rw [hu] at hk
                  exact (hrw.2.lt k hk).2
                obtain ⟨kb, csb, hkb1, hkb2, hkb3, hkb4⟩ := rB.block (by simp)
                have sY := lowY.size
                have hsw := hlow.size
                have hcx := ((hlow.trans (lowY.mono hsw)).cell (p := ⟨b, off + r2, none⟩) (by show b < w.heap.size; omega)).trans hcw
                have hxw : Wf x := ⟨by have := hxl.2.1; omega, by have := hxl.2.2; omega⟩
                have htll : tl.length ≤ 1 := by rw [← Htl.out]; split <;> simp
                have hclen2 : (cl ++ crow x s bf ls i').length ≤ 900000 := by
                  have := crow_len x s bf ls i'
                  rw [List.length_append]; omega
                go_wp2_with (at_builtin; refine push_either rfl _ _ rfl wr.heap.size _ _ rfl rA (by simp) x hxw rfl (by simp; omega) sY ?_)
                intro a2 w5 rA5 low5 hoth hei
                have rB5 := rB.same (w' := w5) (fun k hk => hoth k (rB.2.lt k hk).2 (fun e => hne k e.symm hk))
                have hkb5 := (hoth kb hkb3 (fun e => hne kb e.symm hkb1)).trans hkb4
                have ha2 : ∀ k, a2.ownBlock = some k → k ≠ kb := by
                  intro k hk e
                  rcases hei with q1 | q1
                  · rw [q1] at hk
                    exact hne k hk (by rw [e]; exact hkb1)
                  · have := q1 k hk
                    omega
                have low25 := lowY.trans low5
                have s5 := low25.size
                have own5 := own_below hown low25
                have els5 := hels.below low25
                obtain ⟨Aa, ca, hAa, _, _, _⟩ := rA5.shape
                obtain ⟨Ln, hLn⟩ : ∃ L, (-(q : Int) :: (tl ++ [x])).length = L := ⟨_, rfl⟩
                rw [hLn] at hAa
                subst hAa
                clear hLn hoth hei rA rB hkb4 lowY low5 hown hels
                go_wp2_with (at_builtin; refine push_row_ex rfl _ _ rfl w.heap.size _ vs _ rfl own5 els5 _ _ (rA5.base hsw) rfl (by omega) (by omega) ?_)
                intro v6 w6 own6 els6 low6 s6 hkeep
                have own6 : w6.ownsRow w.heap.size 22 1 v6 (vs ++ [Value.slice Aa Ln ca]).length (vs ++ [Value.slice Aa Ln ca]) := by simpa using own6
                obtain ⟨A6, k6, h6⟩ := own_shape own6
                obtain ⟨L6, hL6⟩ : ∃ L, (vs ++ [Value.slice Aa Ln ca]).length = L := ⟨_, rfl⟩
                rw [hL6] at h6
                subst h6
                clear hL6
                have rB6 := rB5.keep hkeep
                have hkb6 := hkeep kb csb 3 (by decide) hkb5
                have lowW := (hlow.trans (low25.mono hsw)).trans low6
                clear own5 els5 rB5 hkb5 hkeep rA5 low6
                by_cases hi0 : 0 < i'
                · obtain ⟨y2, hy2⟩ : ∃ y, ah + (i' - 1) = y := ⟨_, rfl⟩
                  have v3 : (ah : Int) + (jv : Int) - 2 = (y2 : Int) := by omega
                  have e3 : decide ((2 : Int) ≤ (jv : Int)) = true := decide_eq_true (by omega)
                  have e3' : decide (2 ≤ jv) = true := decide_eq_true (by omega)
                  have hyw : Wf (y2 : Int) := ⟨by omega, by omega⟩
                  have hyb : y2 ≤ 66000 := by omega
                  have hcr : crow x s bf ls (i' + 1) = crow x s bf ls i' ++ ([-(q : Int) :: (tl ++ [x])] ++ [-(q : Int) :: (tl ++ [(y2 : Int)])]) := by rw [Hcrow.out, if_pos hi0, hy2]
                  have Hcr := Lib.hid hcr
                  clear hcr hy2
                  go_wp2_with (at_builtin; refine push_either rfl _ _ rfl wr.heap.size _ _ rfl rB6 (by simp) (y2 : Int) hyw rfl (by simp; omega) (by omega) ?_)
                  intro b2 w7 rB7 low7 hoth7 _
                  obtain ⟨own7, els7⟩ := cls_same own6 els6 hkb6 (fun a ha e => by
                    rcases List.mem_append.1 ha with h | h
                    · have := hvs a h kb e; omega
                    · rw [List.mem_singleton.1 h] at e
                      exact ha2 kb e rfl) (fun k hk hne7 => hoth7 k hk (by first | exact hne7 | (rw [hkb1]; exact fun e => hne7 (by injection e))))
                  have s7 := low7.size
                  obtain ⟨Ab, cb, hAb, _, _, _⟩ := rB7.shape
                  obtain ⟨Lm, hLm⟩ : ∃ L, (-(q : Int) :: (tl ++ [(y2 : Int)])).length = L := ⟨_, rfl⟩
                  rw [hLm] at hAb
                  subst hAb
                  have lowW7 := lowW.trans (low7.mono hsw)
                  clear hLm own6 els6 hoth7 hkb6 rB6 low7 lowW hvs ha2
                  have hlen7 : (cl ++ (crow x s bf ls i' ++ [-(q : Int) :: (tl ++ [x])])).length ≤ 1000000 := by have := hclen2; simp only [List.length_append, List.length_cons, List.length_nil] at this ⊢; omega
                  go_wp2_with (at_builtin; refine push_row_ex rfl _ _ rfl w.heap.size _ _ _ rfl own7 els7 _ _ (rB7.base hsw) rfl hlen7 (by omega) ?_)
                  intro v8 w8 own8 els8 low8 s8 _
                  have hcl8 : Cls w8 w.heap.size v8 (cl ++ crow x s bf ls (i' + 1)) := by
                    rw [Hcr.out]
                    exact ⟨vs ++ [Value.slice Aa Ln ca] ++ [Value.slice Ab Lm cb], by simpa using own8, by simpa using els8⟩
                  have Hfin := Lib.hid (And.intro hcl8 (lowW7.trans low8))
                  clear hcl8 own8 els8 own7 els7 low8 lowW7 rB7
                  go_wp2_with fail
                  go_roundw
                  case rel => exact ⟨i' + 1, by omega, Hfin.out.1, by rw [← hjv]; go_num, Hfin.out.2⟩
                  case measure => simp [intOf]; omega
                · have e3 : decide ((2 : Int) ≤ (jv : Int)) = false := decide_eq_false (by omega)
                  have e3' : decide (2 ≤ jv) = false := decide_eq_false (by omega)
                  have hcl6 : Cls w6 w.heap.size (.slice A6 L6 k6) (cl ++ crow x s bf ls (i' + 1)) := by
                    rw [Hcrow.out, if_neg hi0, List.append_nil]
                    exact ⟨vs ++ [Value.slice Aa Ln ca], own6, by simpa using els6⟩
                  have Hfin := Lib.hid (And.intro hcl6 lowW)
                  clear hcl6 own6 els6 lowW rB6 hkb6
                  go_wp2_with fail
                  go_roundw
                  case rel => exact ⟨i' + 1, by omega, Hfin.out.1, by rw [← hjv]; go_num, Hfin.out.2⟩
                  case measure => simp [intOf]; omega
            · obtain rfl : i' = wd := by omega
              obtain ⟨A1, L1, k1, rfl⟩ := hcls.sl
              have e1 : decide ((jv : Int) ≤ (i' : Int)) = false := decide_eq_false (by omega)
              have e1' : decide (jv ≤ i') = false := decide_eq_false (by omega)
              have Hfin := Lib.hid (And.intro hcls hlow)
              clear hcls hlow
              go_wp2_with fail
              go_roundw
              case rel => exact ⟨r2 + 1, s, by omega, by rw [Hnext.out.1]; exact Hfin.out.1, by rw [Hnext.out.2.1]; go_num, rfl, fun _ => Hnext.out.2.2.symm, by omega, by rw [Hiv.out]; go_num, Hfin.out.2⟩
              case measure => simp [intOf]; omega
        · obtain rfl : r2 = r := by omega
          obtain ⟨iv, hiv⟩ : ∃ q, r2 + 1 = q := ⟨_, rfl⟩
          rw [hiv]
          have c1 : decide ((iv : Int) ≤ (r2 : Int)) = false := decide_eq_false (by omega)
          have c1' : decide (iv ≤ r2) = false := decide_eq_false (by omega)
          have hlast := crow_last (m := m) hK1 hK2
          have hah0 := cst_pos (K := K) h1 r2
          rw [← hah (by omega)] at hlast hah0
          have hctr : ctr zs K m = crows zs K m r2 ++ [[((ah + K - 1 : Nat) : Int)]] := by
            unfold ctr
            rw [Hl.out, ← hlast, show (((ah + K : Nat) : Int) - 1) = ((ah + K - 1 : Nat) : Int) by omega, nz_cons (by omega)]; rfl
          obtain ⟨y, hy⟩ : ∃ y, ah + K - 1 = y := ⟨_, rfl⟩
          rw [hy] at hctr
          have hyv : (ah : Int) + (K : Int) - 1 = (y : Int) := by omega
          have hyw : Wf (y : Int) := ⟨by omega, by omega⟩
          have hy2 : y ≤ 66000 := by omega
          have hclen : (crows zs K m r2).length ≤ 200000 := by
            have := crows_length zs K m hK1 r2
            omega
          have hbg : ((cst K m r2).1 : Int) = ((m + regs K r2 : Nat) : Int) := by rw [hs1]
          rw [hbg]
          obtain ⟨fin, hfin⟩ : ∃ t, m + regs K r2 = t := ⟨_, rfl⟩
          rw [hfin] at HP ⊢
          have hfin2 : fin ≤ 65537 := by omega
          obtain ⟨vs, hown, hels⟩ := hcls
          obtain ⟨A1, k1, h6⟩ := own_shape hown
          subst h6
          obtain ⟨L1, hL1⟩ : ∃ L, vs.length = L := ⟨_, rfl⟩
          have hvl : vs.length = (crows zs K m r2).length := hels.1
          have hsw := hlow.size
          have Hah := Lib.hid hah
          have Hctr := Lib.hid hctr
          have own2 := hown.alloc (.cells #[.int .i64 (y : Int)] 3)
          have els2 := hels.alloc (.cells #[.int .i64 (y : Int)] 3)
          have low2 := hlow.alloc hsw (.cells #[.int .i64 (y : Int)] 3)
          have hone := RowI.one wr w.heap.size (y : Int) hyw hsw
          clear hah hctr hy hs1 hs hlast hbg hfin hown hels hlow hL1
          generalize crows zs K m r2 = cl at *
          have hlen2 : cl.length ≤ 1000000 := by omega
          have hbase2 : w.heap.size ≤ (wr.alloc (.cells #[.int .i64 (y : Int)] 3)).heap.size := by simp; omega
          go_wp2_with (at_builtin; refine push_row_ex rfl _ _ rfl w.heap.size _ _ _ rfl own2 els2 _ _ hone (by rw [World.size_alloc]; rfl) hlen2 hbase2 ?_)
          intro v3 w3 own3 els3 low3 s3 _
          have hC3 : Cls w3 w.heap.size v3 (ctr zs K m) := by
            rw [Hctr.out]
            exact ⟨vs ++ [_], by rw [els3.1, List.length_append]; exact own3, els3⟩
          obtain ⟨A3, c3, rfl, hrr, hlens⟩ := hC3.res
          have low4 := low2.trans (low3.mono (Nat.le_refl _))
          have Hfin := Lib.hid (And.intro hrr (And.intro low4 hlens))
          obtain ⟨L, hL⟩ : ∃ L, (ctr zs K m).length = L := ⟨_, rfl⟩
          rw [hL] at HP Hfin ⊢
          clear hrr hlens own3 els3 low3 low2 low4 hC3 own2 els2 hone s3
          by_cases hbig : 65536 < L
          · have f1 : decide ((65536 : Int) < (L : Int)) = true := decide_eq_true (by omega)
            go_wp2_with fail
            exact bodyPost_ret (results14 _ _) rfl (HP.out.1 hbig _ _ ⟨Option.none, 0, rfl, fun q => absurd q (by simp), Hfin.out.2.1, fun j q => absurd q (by simp)⟩)
          · have f1 : decide ((65536 : Int) < (L : Int)) = false := decide_eq_false (by omega)
            go_wp2_with fail
            refine bodyPost_ret (results14 _ _) rfl (HP.out.2 (by omega) _ _ ⟨A3, c3, ?_, Hfin.out.1, Hfin.out.2.1, by rw [hL]; exact Hfin.out.2.2⟩)
            rw [hL]
            first | rfl | (simp; done)
end Go.Proofs.Ytpiomdnkemoanaa
