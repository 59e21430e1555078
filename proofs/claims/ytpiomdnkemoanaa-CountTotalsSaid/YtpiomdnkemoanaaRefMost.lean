/- The walk of the reference's Most. -/
import Derived.Test.YtpiomdnkemoanaaRefAll
namespace Go.Proofs.Ytpiomdnkemoanaa
open Go.RowKit

theorem results17 (tm : Array Value) (w : World) : (results Try.f17 tm).run Try.prog w = .ok (.tuple #[tm[6]?.getD undef, tm[7]?.getD undef, tm[8]?.getD undef]) w := by
  have hr : Try.f17.results = #[.tmp 6, .tmp 7, .tmp 8] := rfl
  simp only [results, hr]
  simp [go_sem]
theorem ls_nil17 {w W : World} {a : Nat} {E : Int} {tm : Array Value} (hb : Below w.heap.size w W) (h6 : tm[6]?.getD undef = .slice Option.none 0 0) (h7 : tm[7]?.getD undef = .int .i64 (a : Int)) (h8 : tm[8]?.getD undef = .int .i64 E) :
    bodyPost Try.prog Try.f17 (LsRes w [] a E) .ret { tmps := tm, defers := [] } W := by
  refine bodyPost_ret (results17 _ _) rfl ?_
  rw [h6, h7, h8]
  exact ⟨Option.none, 0, rfl, fun q => absurd q (by simp), hb, fun j q => absurd q (by simp)⟩
theorem RefMost_err (A : Option Addr) (n c : Nat) (k next E : Int) (w : World) (hE : E ≠ 0) (hC : Calls Try.prog 29 #[.slice A n c, .int .i64 next] w fun e w' => e = .returned (.int .i64 E) ∧ Below w.heap.size w w') :
    Calls Try.prog 17 #[.slice A n c, .int .i64 k, .int .i64 next] w (LsRes w [] 0 E) := by
  have hp := fun tm W hb => ls_nil17 (a := 0) (E := E) (tm := tm) (w := w) (W := W) hb
  have Hp := Lib.hid hp
  have hC := Lib.hid hC
  have d0 : (E != 0) = true := by simpa using hE
  clear hp
  go_enter Try.func17, Try.ntmps17
  go_wp2_with fail
  refine hC.out.mono ?_
  rintro e w1 ⟨rfl, hb⟩
  go_wp2_with fail
  refine Hp.out _ _ hb ?_ ?_ ?_ <;> rfl

set_option maxRecDepth 30000 in
set_option maxHeartbeats 8000000 in
theorem RefMost_ok (B : Nat) (A : Option Addr) (n c a : Nat) (k next E : Int) (zs : List Int) (cl : List (List Int)) (w : World) (hr : RdI B w A zs) (hB : B ≤ w.heap.size) (hl : zs.length = n) (hn : n ≤ 4096) (hk : Wf k) (hz : ∀ x ∈ zs, Lit 65537 x)
    (hC : Calls Try.prog 29 #[.slice A n c, .int .i64 next] w fun e w' => e = .returned (.int .i64 0) ∧ Below w.heap.size w w')
    (hL : ∀ (W : World) (G : Option Addr) (c' : Nat), n ≤ c' → c' ≤ maxLen → RdI W.heap.size W G (zs.map ng) → Calls Try.prog 14 #[.slice G n c', .int .i64 (mostK n k), .int .i64 next] W (LsRes W cl a E)) :
    Calls Try.prog 17 #[.slice A n c, .int .i64 k, .int .i64 next] w (LsRes w cl a E) := by
  obtain ⟨ys, hys⟩ : ∃ ys, zs.map ng = ys := ⟨_, rfl⟩
  rw [hys] at hL
  have Hys := Lib.hid hys
  have hyl : ys.length = n := by rw [← hys, List.length_map, hl]
  have Hyl := Lib.hid hyl
  have Hl := Lib.hid hl
  have HL := Lib.hid hL
  have hC := Lib.hid hC
  have Hz := Lib.hid hz
  have hk1 := hk.1
  have hk2 := hk.2
  clear hl hL hys hyl hz
  go_enter Try.func17, Try.ntmps17
  go_wp2_with fail
  refine hC.out.mono ?_
  rintro e w1 ⟨rfl, hb1⟩
  have hr := hr.below hb1 hB
  have hb0 := hb1
  clear hC
  by_cases hneg : k < 0
  · have d1 : decide (k < 0) = true := decide_eq_true hneg
    have elk : mostK n k = (n : Int) + 1 := by unfold mostK; rw [if_pos hneg]
    go_wp2_with fail
    go_loopw [12, 14, 35] (fun v x i wr => ∃ j : Nat, j ≤ n ∧ i = .int .i64 j ∧ RowI wr w.heap.size v (ys.take j) ∧ Below w.heap.size w wr) (fun _ _ i _ => n - (intOf i).toNat)
    case atStart => exact ⟨0, by omega, rfl, RowI.empty _ _, hb1⟩
    case round =>
      clear hb1
      obtain ⟨j, hj, rfl, hrow, hb⟩ := hrel
      by_cases hlt : j < n
      · have hjo : j < zs.length := by rw [Hl.out]; exact hlt
        have hxl : Lit 65537 (zs[j]?.getD 0) := by rw [List.getElem?_eq_getElem hjo]; exact Hz.out _ (List.getElem_mem _)
        obtain ⟨b, off, rfl, hbB, hc⟩ := hr.2 (by omega)
        have hc1 := ((hb.cell (p := ⟨b, off + j, none⟩) (by show b < w.heap.size; omega)).trans ((hb0.cell (p := ⟨b, off + j, none⟩) (by show b < w.heap.size; omega)).symm)).trans (hc j hjo)
        have htk := ng_take zs j hjo
        rw [Hys.out] at htk
        have hfl : (ys.take j).length ≤ 1000000 := by rw [List.length_take]; omega
        have Hr := Lib.hid hr
        clear hc hjo hr
        generalize zs[j]?.getD 0 = x at *
        have hng : ng x = -x := by unfold ng; rw [if_neg (by have := hxl.2.1; omega)]
        rw [hng] at htk
        have hyw : Wf (-x) := ⟨by have := hxl.2.2; omega, by have := hxl.2.1; omega⟩
        have hx1 : -65537 < x := hxl.2.1
        have hx2 : x < 65537 := hxl.2.2
        have Htk := Lib.hid htk
        have Hyw := Lib.hid hyw
        have hszr := hb.size
        clear htk hyw hng
        go_wp2_with (at_builtin; refine wpList_push rfl _ _ rfl w.heap.size _ _ rfl hrow (-x) Hyw.out rfl hfl hszr ?_)
        intro v' w' hrow' hb'
        rw [← Htk.out] at hrow'
        have hbn := hb.trans hb'
        go_wp2_with fail
        go_roundw
        case rel => exact ⟨j + 1, by omega, by go_num, hrow', hbn⟩
        case measure => simp [intOf]; omega
      · obtain rfl : j = n := by omega
        have hyt : ys.take j = ys := by rw [← Hyl.out, List.take_length]
        rw [hyt] at hrow
        obtain ⟨G, c', rfl, hc1, hc2, hg⟩ := hrow.shape
        rw [Hyl.out] at hc1 ⊢
        have hL := HL.out wr G c' hc1 hc2 hg
        rw [elk] at hL
        have hL := Lib.hid hL
        have hsz := hb.size
        clear hrow hyt hg hr HL
        go_wp2_with fail
        refine hL.out.mono ?_
        rintro e w2 ⟨A2, c2, rfl, q1, q2, q3⟩
        have Hfin := Lib.hid (And.intro q1 (And.intro (hb.trans (q2.mono hsz)) q3))
        clear q1 q2 q3 hb
        go_wp2_with fail
        refine bodyPost_ret (results17 _ _) rfl ⟨A2, c2, rfl, Hfin.out⟩
  · have d1 : decide (k < 0) = false := decide_eq_false hneg
    by_cases hkn : k < n
    · have d2 : decide (k < (n : Int)) = true := decide_eq_true hkn
      have elk : mostK n k = (n : Int) - k := by unfold mostK; rw [if_neg hneg, if_pos hkn]
      go_wp2_with fail
      go_loopw [12, 14, 35] (fun v x i wr => ∃ j : Nat, j ≤ n ∧ i = .int .i64 j ∧ RowI wr w.heap.size v (ys.take j) ∧ Below w.heap.size w wr) (fun _ _ i _ => n - (intOf i).toNat)
      case atStart => exact ⟨0, by omega, rfl, RowI.empty _ _, hb1⟩
      case round =>
        clear hb1
        obtain ⟨j, hj, rfl, hrow, hb⟩ := hrel
        by_cases hlt : j < n
        · have hjo : j < zs.length := by rw [Hl.out]; exact hlt
          have hxl : Lit 65537 (zs[j]?.getD 0) := by rw [List.getElem?_eq_getElem hjo]; exact Hz.out _ (List.getElem_mem _)
          obtain ⟨b, off, rfl, hbB, hc⟩ := hr.2 (by omega)
          have hc1 := ((hb.cell (p := ⟨b, off + j, none⟩) (by show b < w.heap.size; omega)).trans ((hb0.cell (p := ⟨b, off + j, none⟩) (by show b < w.heap.size; omega)).symm)).trans (hc j hjo)
          have htk := ng_take zs j hjo
          rw [Hys.out] at htk
          have hfl : (ys.take j).length ≤ 1000000 := by rw [List.length_take]; omega
          have Hr := Lib.hid hr
          clear hc hjo hr
          generalize zs[j]?.getD 0 = x at *
          have hng : ng x = -x := by unfold ng; rw [if_neg (by have := hxl.2.1; omega)]
          rw [hng] at htk
          have hyw : Wf (-x) := ⟨by have := hxl.2.2; omega, by have := hxl.2.1; omega⟩
          have hx1 : -65537 < x := hxl.2.1
          have hx2 : x < 65537 := hxl.2.2
          have Htk := Lib.hid htk
          have Hyw := Lib.hid hyw
          have hszr := hb.size
          clear htk hyw hng
          go_wp2_with (at_builtin; refine wpList_push rfl _ _ rfl w.heap.size _ _ rfl hrow (-x) Hyw.out rfl hfl hszr ?_)
          intro v' w' hrow' hb'
          rw [← Htk.out] at hrow'
          have hbn := hb.trans hb'
          go_wp2_with fail
          go_roundw
          case rel => exact ⟨j + 1, by omega, by go_num, hrow', hbn⟩
          case measure => simp [intOf]; omega
        · obtain rfl : j = n := by omega
          have hyt : ys.take j = ys := by rw [← Hyl.out, List.take_length]
          rw [hyt] at hrow
          obtain ⟨G, c', rfl, hc1, hc2, hg⟩ := hrow.shape
          rw [Hyl.out] at hc1 ⊢
          have hL := HL.out wr G c' hc1 hc2 hg
          rw [elk] at hL
          have hL := Lib.hid hL
          have hsz := hb.size
          clear hrow hyt hg hr HL
          go_wp2_with fail
          refine hL.out.mono ?_
          rintro e w2 ⟨A2, c2, rfl, q1, q2, q3⟩
          have Hfin := Lib.hid (And.intro q1 (And.intro (hb.trans (q2.mono hsz)) q3))
          clear q1 q2 q3 hb
          go_wp2_with fail
          refine bodyPost_ret (results17 _ _) rfl ⟨A2, c2, rfl, Hfin.out⟩
    · have d2 : decide (k < (n : Int)) = false := decide_eq_false hkn
      have elk : mostK n k = 0 := by unfold mostK; rw [if_neg hneg, if_neg hkn]
      go_wp2_with fail
      go_loopw [12, 14, 35] (fun v x i wr => ∃ j : Nat, j ≤ n ∧ i = .int .i64 j ∧ RowI wr w.heap.size v (ys.take j) ∧ Below w.heap.size w wr) (fun _ _ i _ => n - (intOf i).toNat)
      case atStart => exact ⟨0, by omega, rfl, RowI.empty _ _, hb1⟩
      case round =>
        clear hb1
        obtain ⟨j, hj, rfl, hrow, hb⟩ := hrel
        by_cases hlt : j < n
        · have hjo : j < zs.length := by rw [Hl.out]; exact hlt
          have hxl : Lit 65537 (zs[j]?.getD 0) := by rw [List.getElem?_eq_getElem hjo]; exact Hz.out _ (List.getElem_mem _)
          obtain ⟨b, off, rfl, hbB, hc⟩ := hr.2 (by omega)
          have hc1 := ((hb.cell (p := ⟨b, off + j, none⟩) (by show b < w.heap.size; omega)).trans ((hb0.cell (p := ⟨b, off + j, none⟩) (by show b < w.heap.size; omega)).symm)).trans (hc j hjo)
          have htk := ng_take zs j hjo
          rw [Hys.out] at htk
          have hfl : (ys.take j).length ≤ 1000000 := by rw [List.length_take]; omega
          have Hr := Lib.hid hr
          clear hc hjo hr
          generalize zs[j]?.getD 0 = x at *
          have hng : ng x = -x := by unfold ng; rw [if_neg (by have := hxl.2.1; omega)]
          rw [hng] at htk
          have hyw : Wf (-x) := ⟨by have := hxl.2.2; omega, by have := hxl.2.1; omega⟩
          have hx1 : -65537 < x := hxl.2.1
          have hx2 : x < 65537 := hxl.2.2
          have Htk := Lib.hid htk
          have Hyw := Lib.hid hyw
          have hszr := hb.size
          clear htk hyw hng
          go_wp2_with (at_builtin; refine wpList_push rfl _ _ rfl w.heap.size _ _ rfl hrow (-x) Hyw.out rfl hfl hszr ?_)
          intro v' w' hrow' hb'
          rw [← Htk.out] at hrow'
          have hbn := hb.trans hb'
          go_wp2_with fail
          go_roundw
          case rel => exact ⟨j + 1, by omega, by go_num, hrow', hbn⟩
          case measure => simp [intOf]; omega
        · obtain rfl : j = n := by omega
          have hyt : ys.take j = ys := by rw [← Hyl.out, List.take_length]
          rw [hyt] at hrow
          obtain ⟨G, c', rfl, hc1, hc2, hg⟩ := hrow.shape
          rw [Hyl.out] at hc1 ⊢
          have hL := HL.out wr G c' hc1 hc2 hg
          rw [elk] at hL
          have hL := Lib.hid hL
          have hsz := hb.size
          clear hrow hyt hg hr HL
          go_wp2_with fail
          refine hL.out.mono ?_
          rintro e w2 ⟨A2, c2, rfl, q1, q2, q3⟩
          have Hfin := Lib.hid (And.intro q1 (And.intro (hb.trans (q2.mono hsz)) q3))
          clear q1 q2 q3 hb
          go_wp2_with fail
          refine bodyPost_ret (results17 _ _) rfl ⟨A2, c2, rfl, Hfin.out⟩
end Go.Proofs.Ytpiomdnkemoanaa
