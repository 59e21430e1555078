/- The walk of counter. -/
import Derived.Test.YtpiomdnkemoanaaCtrM
import Derived.Deep.CutRange
import Derived.IntWalk
namespace Go.Proofs.Ytpiomdnkemoanaa
open Go.RowKit

set_option maxRecDepth 30000 in
set_option maxHeartbeats 8000000 in
theorem counter_any (B : Nat) (A : Option Addr) (n c k next : Nat) (zs : List Int) (w : World) (hr : RdI B w A zs) (hB : B ≤ w.heap.size) (hl : zs.length = n) (hn : n ≤ 4096) (hz : ∀ x ∈ zs, -65537 ≤ x ∧ x ≤ 65537) (h1 : 1 ≤ next) (hk : k ≤ 4096) (hs : (cst k next n).1 ≤ 65537) (hc : (crows zs k next n).length ≤ 65536) :
    Calls Try.prog 28 #[.slice A n c, .int .i64 (k : Int), .int .i64 (next : Int)] w fun e w' => ∃ v, e = .returned v ∧ Cls w' (w.heap.size + 3) v (ctr zs k next) ∧ Below w.heap.size w w' := by
  have Hl := Lib.hid hl
  have Hz := Lib.hid hz
  have Hs := Lib.hid (fun r (h : r ≤ n) => by
    have q := cst_mono k next r (n - r)
    rw [show r + (n - r) = n by omega] at q
    have := cst_before k next r
    exact (show (cst k next r).1 ≤ 65537 ∧ (cst k next r).2 ≤ 65537 by omega))
  have Hc := Lib.hid (fun r (h : r ≤ n) => by
    have q := crows_mono zs k next r (n - r)
    rw [show r + (n - r) = n by omega] at q
    exact (show (crows zs k next r).length ≤ 65536 by omega))
  obtain ⟨W, hW⟩ : ∃ W, W = Wc w (next : Int) := ⟨_, rfl⟩
  have B0 : Boxed W w.heap.size 61 (.slice Option.none 0 0) := by rw [hW]; exact Wc_0 w _
  have B1 : Boxed W (w.heap.size + 1) 3 (.int .i64 (next : Int)) := by rw [hW]; exact Wc_1 w _
  have B2 : Boxed W (w.heap.size + 1 + 1) 3 (.int .i64 (next : Int)) := by rw [hW]; exact Wc_2 w _
  have hlow : Below w.heap.size w W := by rw [hW]; exact Wc_low w _
  have hWs : W.heap.size = w.heap.size + 3 := by rw [hW]; exact Wc_size w _
  have S0 : CS W w.heap.size (w.heap.size + 3) [] := ⟨_, B0, Cls.nil _ _⟩
  have HW := Lib.hid hW
  clear hl hz hs hc hW B0
  go_enter Try.func28, Try.ntmps28
  go_wp2_with fail
  rw [show ((w.alloc (.cells #[.slice Option.none 0 0] 61)).alloc (.cells #[.int .i64 (next : Int)] 3)).alloc (.cells #[.int .i64 (next : Int)] 3) = W from HW.out.symm]
  go_loopw [22] (fun i wr => ∃ r : Nat, r ≤ n ∧ i = .int .i64 r ∧ CS wr w.heap.size (w.heap.size + 3) (crows zs k next r) ∧ Boxed wr (w.heap.size + 1) 3 (.int .i64 ((cst k next r).1 : Int)) ∧ Boxed wr (w.heap.size + 1 + 1) 3 (.int .i64 ((cst k next r).2 : Int)) ∧ Below w.heap.size w wr ∧ w.heap.size + 3 ≤ wr.heap.size) (fun i _ => n - (intOf i).toNat)
  case atStart => exact ⟨0, by omega, rfl, S0, B1, B2, hlow, by omega⟩
  case round =>
    clear B1 B2 S0 hlow hWs HW
    obtain ⟨r, hrn, rfl, S0, B1, B2, hlow, hsz⟩ := hrel
    have hcst := Hs.out r hrn
    have hcr := Hc.out r hrn
    by_cases hlt : r < n
    · obtain ⟨wd, hwd⟩ : ∃ x, min (r + 1) k = x := ⟨_, rfl⟩
      obtain ⟨ls, hls⟩ : ∃ x, min r k = x := ⟨_, rfl⟩
      have m1 : (if k < r + 1 then (k : Int) else (r : Int) + 1) = (wd : Int) := by split <;> omega
      have m1' : (if (k : Int) < (r : Int) + 1 then (k : Int) else (r : Int) + 1) = (wd : Int) := by split <;> omega
      have m2 : (if k < r then (k : Int) else (r : Int)) = (ls : Int) := by split <;> omega
      have hwd2 : wd ≤ 4096 := by omega
      have hls2 : ls ≤ 4096 := by omega
      have Hnext := Lib.hid (show crows zs k next (r + 1) = crows zs k next r ++ crow (zs[r]?.getD 0) (cst k next r).1 (cst k next r).2 ls wd ∧ (cst k next (r + 1)).1 = (cst k next r).1 + wd ∧ (cst k next (r + 1)).2 = (cst k next r).1 from ⟨by rw [crows, hwd, hls], by rw [← hwd]; rfl, rfl⟩)
      have hro : r < zs.length := by rw [Hl.out]; exact hlt
      obtain ⟨b, off, rfl, hbB, hcc⟩ := hr.2 (by omega)
      have hcw := hcc r hro
      have hx : -65537 ≤ zs[r]?.getD 0 ∧ zs[r]?.getD 0 ≤ 65537 := by rw [List.getElem?_eq_getElem hro]; exact Hz.out _ (List.getElem_mem _)
      have hw4 := (Below.refl wr.heap.size wr).alloc (Nat.le_refl _) (.cells #[.int .i64 (ls : Int)] 3)
      have B3 := Boxed.new wr 3 (.int .i64 (ls : Int))
      have B1 := B1.alloc (.cells #[.int .i64 (ls : Int)] 3)
      have B2 := B2.alloc (.cells #[.int .i64 (ls : Int)] 3)
      have S0 := S0.below hw4
      have hlow4 := hlow.trans (hw4.mono (by omega))
      have hHR := Lib.hid hr
      have hxb : b < w.heap.size := by omega
      obtain ⟨gl, hgl⟩ : ∃ x, wr.heap.size = x := ⟨_, rfl⟩
      obtain ⟨w4, hw4e⟩ : ∃ X, X = wr.alloc (.cells #[.int .i64 (ls : Int)] 3) := ⟨_, rfl⟩
      have hsz4 : w.heap.size + 3 ≤ w4.heap.size := by rw [hw4e]; simp; omega
      rw [← hw4e] at B1 B2 B3 S0 hlow4
      rw [hgl] at B3
      have hgl3 : w.heap.size + 3 ≤ gl := by omega
      have Hw4 := Lib.hid hw4e
      have Hgl := Lib.hid hgl
      clear hcc hro hr hwd hls hw4 hw4e hgl hlow
      generalize crows zs k next r = cl at *
      generalize zs[r]?.getD 0 = x at *
      generalize (cst k next r).1 = s at *
      generalize (cst k next r).2 = bf at *
      go_wp2_with fail
      rw [show wr.alloc (.cells #[.int .i64 (ls : Int)] 3) = w4 from Hw4.out.symm, Hgl.out]
      go_loopw [35] (fun p wx => ∃ i : Nat, i ≤ wd ∧ p = .int .i64 i ∧ CS wx w.heap.size (w.heap.size + 3) (cl ++ crow x s bf ls i) ∧ Boxed wx (w.heap.size + 1) 3 (.int .i64 (s : Int)) ∧ Boxed wx (w.heap.size + 1 + 1) 3 (.int .i64 (bf : Int)) ∧ Boxed wx gl 3 (.int .i64 (ls : Int)) ∧ Below w.heap.size w wx ∧ w.heap.size + 3 ≤ wx.heap.size) (fun p _ => wd - (intOf p).toNat)
      case atStart => exact ⟨0, by omega, rfl, by simpa [crow] using S0, B1, B2, B3, hlow4, hsz4⟩
      case round =>
        clear S0 B1 B2 B3 hlow4 hsz4 hsz
        obtain ⟨i, hi, rfl, S0, B1, B2, B3, hlow, hsz⟩ := hrel
        by_cases hit : i < wd
        · have hcl : (cl ++ crow x s bf ls i).length ≤ 800000 := by
            have := crow_len x s bf ls i
            rw [List.length_append]; omega
          obtain ⟨q, hq⟩ : ∃ q, s + i = q := ⟨_, rfl⟩
          have hcx := (hlow.cell (p := ⟨b, off + r, none⟩) (by show b < w.heap.size; omega)).trans hcw
          have hab : -65537 ≤ ab bf ls i ∧ ab bf ls i ≤ 100000 := by unfold ab; split <;> omega
          have b1 := B1.cell
          have b2 := B2.cell
          have b3 := B3.cell
          have Hq := Lib.hid hq
          have hq2 : q ≤ 100000 := by omega
          have hwf : ∀ z ∈ [-(q : Int), ab bf ls i, x], Wf z := by
            intro z hz
            simp only [List.mem_cons, List.not_mem_nil, or_false] at hz
            rcases hz with rfl | rfl | rfl <;> exact ⟨by omega, by omega⟩
          have hR := fun W (h : W.cell? ⟨w.heap.size + 1, 0, none⟩ = some (.int .i64 (s : Int))) => Lib.hid (reg_any W (w.heap.size + 1) i s h (by omega) (by omega) q hq)
          have hA := fun W (h : W.cell? ⟨gl, 0, none⟩ = some (.int .i64 (ls : Int))) (h' : W.cell? ⟨w.heap.size + 1 + 1, 0, none⟩ = some (.int .i64 (bf : Int))) => Lib.hid (above_any W gl (w.heap.size + 1 + 1) i ls bf h h' (by omega) (by omega))
          have hT := fun X (h : CS X w.heap.size (w.heap.size + 3) (cl ++ crow x s bf ls i)) (h' : w.heap.size + 3 ≤ X.heap.size) => Lib.hid (add_litd X w.heap.size (w.heap.size + 3) w.heap.size (cl ++ crow x s bf ls i) 3 #[.int .i64 (-(q : Int)), .int .i64 (ab bf ls i), .int .i64 x] [-(q : Int), ab bf ls i, x] h h' (by omega) (Nat.le_refl _) hwf rfl rfl (by omega) (by omega))
          have Hcrow := Lib.hid (show crow x s bf ls (i + 1) = crow x s bf ls i ++ ([nz [-(q : Int), ab bf ls i, x]] ++ (if 0 < i then [nz [-(q : Int), ab bf ls i, ab bf ls (i - 1)]] else [])) by rw [crow, hq])
          clear hwf
          generalize hav : ab bf ls i = av at *
          have Hav := Lib.hid hav
          clear hav
          go_upto_region 13 with fail
          go_cut [] from 37 to 67 (fun wx' => CS wx' w.heap.size (w.heap.size + 3) ((cl ++ crow x s bf ls i) ++ [nz [-(q : Int), av, x]]) ∧ Kx w.heap.size w.heap.size wr wx')
          case first =>
            have R1 := hR wr.drew b1
            have v1 : IntKind.i64.wrap (-(q : Int)) = -(q : Int) := IntWalk.i64_in _ (by omega)
            have A1 := hA wr.drew b3 b2
            have T1 := hT wr S0 hsz
            clear hR hA hT
            go_region_with (first
              | (go_at_call 42; refine R1.out.mono ?_; rintro e w' ⟨rfl, rfl⟩)
              | (go_at_call 43; refine A1.out.mono ?_; rintro e w' ⟨rfl, rfl⟩)
              | (go_at_call 41; refine T1.out.mono ?_; rintro e w' ⟨rfl, t1, t2⟩))
            all_goals
              go_wp2_with fail
              go_meet
            all_goals
              exact ⟨t1, t2⟩
          case rest =>
            clear hT b1 b2 b3 hcx S0
            obtain ⟨S1, K1⟩ := hcut
            rename World => w5
            have B1 : Boxed w5 (w.heap.size + 1) 3 (.int .i64 (s : Int)) := K1.keep _ _ 3 (by decide) (by omega) B1
            have B2 : Boxed w5 (w.heap.size + 1 + 1) 3 (.int .i64 (bf : Int)) := K1.keep _ _ 3 (by decide) (by omega) B2
            have B3 : Boxed w5 gl 3 (.int .i64 (ls : Int)) := K1.keep _ _ 3 (by decide) (by omega) B3
            have hlow5 := hlow.trans K1.low
            have hsz5 : w.heap.size + 3 ≤ w5.heap.size := Nat.le_trans hsz K1.low.size
            clear K1 hlow hsz
            by_cases hi0 : 0 < i
            · obtain ⟨p, hp⟩ : ∃ p, i = p + 1 := ⟨i - 1, by omega⟩
              have v2 : (i : Int) - 1 = (p : Int) := by omega
              have d0 : decide ((0 : Int) < (i : Int)) = true := decide_eq_true (by omega)
              have d0' : decide (0 < i) = true := decide_eq_true hi0
              have hab2 : -65537 ≤ ab bf ls p ∧ ab bf ls p ≤ 100000 := by unfold ab; split <;> omega
              have hwf2 : ∀ z ∈ [-(q : Int), av, ab bf ls p], Wf z := by
                intro z hz
                simp only [List.mem_cons, List.not_mem_nil, or_false] at hz
                rcases hz with rfl | rfl | rfl <;> exact ⟨by omega, by omega⟩
              have R5 := hR w5 B1.cell
              have A5 := hA w5 B3.cell B2.cell
              have A6 := Lib.hid (above_any w5 gl (w.heap.size + 1 + 1) p ls bf B3.cell B2.cell (by omega) (by omega))
              have T5 := Lib.hid (add_lit w5 w.heap.size (w.heap.size + 3) w.heap.size _ 3 #[.int .i64 (-(q : Int)), .int .i64 av, .int .i64 (ab bf ls p)] [-(q : Int), av, ab bf ls p] S1 hsz5 (by omega) (Nat.le_refl _) hwf2 rfl rfl (by omega) (by rw [List.length_append]; simp only [List.length_singleton]; omega))
              have Hc2 := Lib.hid (show crow x s bf ls (i + 1) = crow x s bf ls i ++ ([nz [-(q : Int), av, x]] ++ [nz [-(q : Int), av, ab bf ls p]]) by rw [Hcrow.out, if_pos hi0, show i - 1 = p by omega])
              have Hp := Lib.hid hp
              clear hwf2 hR hA hp Hcrow
              generalize ab bf ls p = av2 at *
              go_wp2_with fail
              refine R5.out.mono ?_
              rintro e w' ⟨rfl, rfl⟩
              go_wp2_with fail
              refine A5.out.mono ?_
              rintro e w' ⟨rfl, rfl⟩
              go_wp2_with fail
              refine A6.out.mono ?_
              rintro e w' ⟨rfl, rfl⟩
              go_wp2_with fail
              refine T5.out.mono ?_
              rintro e w' ⟨rfl, t1, t2⟩
              have Hfin := Lib.hid (And.intro t1 t2)
              clear t1 t2
              go_wp2_with fail
              go_roundw
              case rel => exact ⟨i + 1, by omega, by go_num, by rw [Hc2.out, ← List.append_assoc, ← List.append_assoc]; exact Hfin.out.1, Hfin.out.2.keep _ _ 3 (by decide) (by omega) B1, Hfin.out.2.keep _ _ 3 (by decide) (by omega) B2, Hfin.out.2.keep _ _ 3 (by decide) (by omega) B3, hlow5.trans Hfin.out.2.low, Nat.le_trans hsz5 Hfin.out.2.low.size⟩
              case measure => simp [intOf]; omega
            · have d0 : decide ((0 : Int) < (i : Int)) = false := decide_eq_false (by omega)
              have d0' : decide (0 < i) = false := decide_eq_false hi0
              have Hc2 := Lib.hid (show crow x s bf ls (i + 1) = crow x s bf ls i ++ [nz [-(q : Int), av, x]] by rw [Hcrow.out, if_neg hi0, List.append_nil])
              clear hR hA Hcrow
              go_wp2_with fail
              go_roundw
              case rel => exact ⟨i + 1, by omega, by go_num, by rw [Hc2.out, ← List.append_assoc]; exact S1, B1, B2, B3, hlow5, hsz5⟩
              case measure => simp [intOf]; omega
        · obtain rfl : i = wd := by omega
          have b1 := B1.cell
          have e1 := B1.frozen
          have b2 := B2.cell
          have e2 := B2.frozen
          have hne : w.heap.size + 1 ≠ w.heap.size + 1 + 1 := by omega
          have B1' := (B1.set (.int .i64 ((s + i : Nat) : Int))).other (show w.heap.size + 1 ≠ w.heap.size + 1 + 1 by omega) (.int .i64 (s : Int))
          have B2' := (B2.other (show w.heap.size + 1 + 1 ≠ w.heap.size + 1 by omega) (.int .i64 ((s + i : Nat) : Int))).set (.int .i64 (s : Int))
          obtain ⟨vv, V1, V2⟩ := S0
          have S1 : CS ((wr.setCell ⟨w.heap.size + 1, 0, none⟩ (.int .i64 ((s + i : Nat) : Int))).setCell ⟨w.heap.size + 1 + 1, 0, none⟩ (.int .i64 (s : Int))) w.heap.size (w.heap.size + 3) (cl ++ crow x s bf ls i) :=
            ⟨vv, (V1.other (by omega) _).other (by omega) _, (V2.lower (by omega)).lower (by omega)⟩
          have hlow2 := (hlow.setCell (p := ⟨w.heap.size + 1, 0, none⟩) (by simp) (.int .i64 ((s + i : Nat) : Int))).setCell (p := ⟨w.heap.size + 1 + 1, 0, none⟩) (by simp; omega) (.int .i64 (s : Int))
          have Hfin := Lib.hid (And.intro S1 (And.intro B1' (And.intro B2' hlow2)))
          have hsi : s + i ≤ 100000 := by omega
          have hcast : ((s + i : Nat) : Int) = (s : Int) + (i : Int) := by omega
          rw [hcast] at Hfin
          clear S1 B1' B2' hlow2 hcast
          go_wp2_with fail
          go_roundw
          case rel => exact ⟨r + 1, by omega, by go_num, by rw [Hnext.out.1]; exact Hfin.out.1, by rw [Hnext.out.2.1, Int.natCast_add]; exact Hfin.out.2.1, by rw [Hnext.out.2.2]; exact Hfin.out.2.2.1, Hfin.out.2.2.2, by simpa [World.setCell] using hsz⟩
          case measure => simp [intOf]; omega
    · obtain rfl : r = n := by omega
      have hpos : 1 ≤ (cst k next r).1 := by
        have := cst_mono k next 0 r
        rw [Nat.zero_add] at this
        exact Nat.le_trans h1 this
      have hfin : ctr zs k next = crows zs k next r ++ [nz [((cst k next r).1 : Int) - 1]] := by unfold ctr; rw [Hl.out]
      have Hfin := Lib.hid hfin
      have b1 := B1.cell
      have hT := fun X (h : CS X w.heap.size (w.heap.size + 3) (crows zs k next r)) (h' : w.heap.size + 3 ≤ X.heap.size) (y : Int) (hy : Wf y) => Lib.hid (add_lit X w.heap.size (w.heap.size + 3) w.heap.size (crows zs k next r) 1 #[.int .i64 y] [y] h h' (by omega) (Nat.le_refl _) (by intro z hz; rw [List.mem_singleton.1 hz]; exact hy) rfl rfl (by omega) (by omega))
      have T1 := hT wr S0 hsz (((cst k next r).1 : Int) - 1) ⟨by omega, by omega⟩
      clear hT hfin
      generalize crows zs k next r = cl at *
      generalize (cst k next r).1 = s at *
      go_wp2_with fail
      refine T1.out.mono ?_
      rintro e w' ⟨rfl, ⟨v, t1, t2⟩, t3⟩
      have hb0 := t1.cell
      go_wp2_with fail
      go_ret
      exact ⟨v, rfl, by rw [Hfin.out]; exact t2, hlow.trans t3.low⟩
end Go.Proofs.Ytpiomdnkemoanaa
