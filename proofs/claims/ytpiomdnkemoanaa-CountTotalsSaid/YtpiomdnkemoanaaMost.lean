/- The walks of Most and of the reference's Same. -/
import Derived.Test.YtpiomdnkemoanaaLeast
namespace Go.Proofs.Ytpiomdnkemoanaa
open Go.RowKit

/-- Go's -x. -/
def ng (x : Int) : Int := if x = -9223372036854775808 then -9223372036854775808 else -x
theorem ng_wf {x : Int} (h : Wf x) : Wf (ng x) := by
  unfold ng
  split
  · exact ⟨by omega, by omega⟩
  · exact ⟨by have := h.2; omega, by have := h.1; omega⟩
theorem ng_take (zs : List Int) (j : Nat) (h : j < zs.length) : (zs.map ng).take (j + 1) = (zs.map ng).take j ++ [ng (zs[j]?.getD 0)] := by
  rw [List.take_add_one, List.getElem?_map, List.getElem?_eq_getElem h]; rfl
theorem wrap_min : RowKit.wrap64 9223372036854775808 = -9223372036854775808 := by unfold RowKit.wrap64; omega
/-- The k of Least that Most asks for. -/
def mostK (n : Nat) (k : Int) : Int := if k < 0 then (n : Int) + 1 else if k < n then (n : Int) - k else 0
theorem results16 (tm : Array Value) (w : World) : (results Try.f16 tm).run Try.prog w = .ok (.tuple #[tm[6]?.getD undef, tm[7]?.getD undef, tm[8]?.getD undef]) w := by
  have hr : Try.f16.results = #[.tmp 6, .tmp 7, .tmp 8] := rfl
  simp only [results, hr]
  simp [go_sem]

set_option maxRecDepth 30000 in
set_option maxHeartbeats 4000000 in
theorem Most_any (B : Nat) (A : Option Addr) (n c a : Nat) (k next E : Int) (zs : List Int) (cl : List (List Int)) (w : World) (hr : RdI B w A zs) (hB : B ≤ w.heap.size) (hl : zs.length = n) (hn : n ≤ 1000000) (hk : Wf k)
    (hL : ∀ (W : World) (G : Option Addr) (c' : Nat), n ≤ c' → c' ≤ maxLen → RdI W.heap.size W G (zs.map ng) → Calls Try.prog 13 #[.slice G n c', .int .i64 (mostK n k), .int .i64 next] W (LsRes W cl a E)) :
    Calls Try.prog 16 #[.slice A n c, .int .i64 k, .int .i64 next] w (LsRes w cl a E) := by
  obtain ⟨ys, hys⟩ : ∃ ys, zs.map ng = ys := ⟨_, rfl⟩
  rw [hys] at hL
  have Hys := Lib.hid hys
  have hyl : ys.length = n := by rw [← hys, List.length_map, hl]
  have Hyl := Lib.hid hyl
  have Hl := Lib.hid hl
  have HL := Lib.hid hL
  have hk1 := hk.1
  have hk2 := hk.2
  obtain ⟨lk, hlk⟩ : ∃ x, mostK n k = x := ⟨_, rfl⟩
  have Hlk := Lib.hid hlk
  clear hl hL hys hyl hlk
  go_enter Try.func16, Try.ntmps16
  go_wp2_with fail
  go_loopw [9, 16] (fun v i wr => ∃ j : Nat, j ≤ n ∧ i = .int .i64 j ∧ RowI wr w.heap.size v (ys.take j) ∧ Below w.heap.size w wr) (fun _ i _ => n - (intOf i).toNat)
  case atStart => exact ⟨0, by omega, rfl, RowI.empty _ _, Below.refl _ _⟩
  case round =>
    obtain ⟨j, hj, rfl, hrow, hb⟩ := hrel
    by_cases hlt : j < n
    · have hjo : j < zs.length := by rw [Hl.out]; exact hlt
      have hwf := hr.wf hjo
      obtain ⟨b, off, rfl, _, hc⟩ := (hr.below hb hB).2 (by omega)
      have hc1 := hc j hjo
      have htk := ng_take zs j hjo
      rw [Hys.out] at htk
      have hfl : (ys.take j).length ≤ 1000000 := by rw [List.length_take]; omega
      have Hr := Lib.hid hr
      clear hc hjo hr
      generalize zs[j]?.getD 0 = x at *
      have hyw := ng_wf hwf
      obtain ⟨y, hy⟩ : ∃ y, ng x = y := ⟨_, rfl⟩
      rw [hy] at htk hyw
      have Hy := Lib.hid hy
      have Htk := Lib.hid htk
      have Hyw := Lib.hid hyw
      have hszr := hb.size
      clear hy htk hyw
      by_cases hmn : x = -9223372036854775808
      · have hy2 : y = -9223372036854775808 := by
          have := Hy.out
          unfold ng at this
          rw [if_pos hmn] at this
          omega
        subst hmn hy2
        go_wp2_with (at_builtin; refine wpList_push rfl _ _ rfl w.heap.size _ _ rfl hrow (wrap64 9223372036854775808) (by rw [wrap_min]; exact Hyw.out) rfl hfl hszr ?_)
        intro v' w' hrow' hb'
        rw [wrap_min] at hrow'
        rw [← Htk.out] at hrow'
        have hbn := hb.trans hb'
        go_wp2_with fail
        go_roundw
        case rel => exact ⟨j + 1, by omega, by go_num, hrow', hbn⟩
        case measure => simp [intOf]; omega
      · have hy2 : y = -x := by
          have := Hy.out
          unfold ng at this
          rw [if_neg hmn] at this
          omega
        obtain ⟨hw1, hw2⟩ := hwf
        have hw1 : -9223372036854775808 < x := by omega
        subst hy2
        clear hmn
        go_wp2_with (at_builtin; refine wpList_push rfl _ _ rfl w.heap.size _ _ rfl hrow (-x) Hyw.out rfl hfl hszr ?_)
        intro v' w' hrow' hb'
        rw [← Htk.out] at hrow'
        have hbn := hb.trans hb'
        go_wp2_with fail
        go_roundw
        case rel => exact ⟨j + 1, by omega, by go_num, hrow', hbn⟩
        case measure => simp [intOf]; omega
    · obtain rfl : j = n := by omega
      have hyt : ys.take j = ys := by rw [← Hyl.out, List.take_length]
      rw [hyt] at hrow
      obtain ⟨G, c', rfl, hc1, hc2, hg⟩ := hrow.shape
      rw [Hyl.out] at hc1 ⊢
      have hL := Lib.hid (HL.out wr G c' hc1 hc2 hg)
      have hlk := Hlk.out
      have hsz := hb.size
      clear hrow hyt hg hr HL
      by_cases hneg : k < 0
      · have e : lk = (j : Int) + 1 := by rw [← hlk]; unfold mostK; rw [if_pos hneg]
        have m1 : (if (j : Int) < k then (j : Int) else k) = k := by rw [if_neg (by omega)]
        rw [hlk, e] at hL
        clear hlk
        go_wp2_with fail
        refine hL.out.mono ?_
        rintro e w2 ⟨A2, c2, rfl, q1, q2, q3⟩
        have Hfin := Lib.hid (And.intro q1 (And.intro (hb.trans (q2.mono hsz)) q3))
        clear q1 q2 q3 hb
        go_wp2_with fail
        refine bodyPost_ret (results16 _ _) rfl ⟨A2, c2, rfl, Hfin.out⟩
      · by_cases hkn : k < j
        · have e : lk = (j : Int) - k := by rw [← hlk]; unfold mostK; rw [if_neg hneg, if_pos hkn]
          have m1 : (if (j : Int) < k then (j : Int) else k) = k := by rw [if_neg (by omega)]
          rw [hlk, e] at hL
          clear hlk
          go_wp2_with fail
          refine hL.out.mono ?_
          rintro e w2 ⟨A2, c2, rfl, q1, q2, q3⟩
          have Hfin := Lib.hid (And.intro q1 (And.intro (hb.trans (q2.mono hsz)) q3))
          clear q1 q2 q3 hb
          go_wp2_with fail
          refine bodyPost_ret (results16 _ _) rfl ⟨A2, c2, rfl, Hfin.out⟩
        · have e : lk = 0 := by rw [← hlk]; unfold mostK; rw [if_neg hneg, if_neg hkn]
          have m1 : (if (j : Int) < k then (j : Int) else k) = (j : Int) := by split <;> omega
          rw [hlk, e] at hL
          clear hlk
          go_wp2_with fail
          refine hL.out.mono ?_
          rintro e w2 ⟨A2, c2, rfl, q1, q2, q3⟩
          have Hfin := Lib.hid (And.intro q1 (And.intro (hb.trans (q2.mono hsz)) q3))
          clear q1 q2 q3 hb
          go_wp2_with fail
          refine bodyPost_ret (results16 _ _) rfl ⟨A2, c2, rfl, Hfin.out⟩
end Go.Proofs.Ytpiomdnkemoanaa
