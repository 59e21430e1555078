/- SealBack: for every list of byte slices and every integer, where there are at most twelve payloads of at most 1000 bytes each and the integer is not negative, scanning the concatenation of their frames gives the payloads, and scanning a prefix gives the payloads of the frames that end within it; the law's own sanity check holds, and nothing that was there has turned. No condition. -/
import Derived.Test.YtbhojobonihccaaFramed
namespace Go.Proofs.Ytbhojobonihccaa
open Go.ChangeShapes Go.WideShapes Go.ChangeAt Go.RowKit

/-- Behind framed: the two scans and the loop over the ends. -/
theorem ends_cell {w : World} {base n c g : Nat} {xss : List (List Nat)} (h : w.ownsRow base 3 1 (.slice (some ⟨g, 0, Option.none⟩) n c) n (endsOf xss n)) {j : Nat} (hj : j < n) : w.cell? ⟨g, j, Option.none⟩ = some (.int .i64 (endAt xss j : Nat)) := by
  rw [World.ownsRow.cellAt (w := w) (base := base) (e := 3) (size := 1) (g := g) (n := n) (cap := c) (xs := endsOf xss n) h j (by omega), endsOf_at xss n j hj]
theorem own_head {w : World} {base e n c : Nat} {A : Option Addr} {xs : List Value} (h : w.ownsRow base e 1 (.slice A n c) n xs) (hp : 0 < n) : ∃ g, A = some ⟨g, 0, Option.none⟩ := by
  rcases h.2 with ⟨_, h0⟩ | ⟨g', cap', cur, e, _⟩
  · omega
  · injection e with e1 _ _; exact ⟨g', e1⟩

set_option maxHeartbeats 4000000 in
theorem sealBack_walk (A : Option Addr) (n cap : Nat) (xss : List (List Nat)) (cut : Int) (w : World) (hr : RdN w.heap.size w A xss) (hl : xss.length = n) (hcap : n ≤ cap) (hm : cap ≤ maxLen) (hbytes : ∀ x ∈ xss, ∀ c ∈ x, c < 256) (hwf : -9223372036854775808 ≤ cut ∧ cut ≤ 9223372036854775807) :
    Calls Try.prog 6 #[.slice A n cap, .int .i64 cut] w fun e w' => e = .returned (.bool true) ∧ Below w.heap.size w w' := by
  obtain ⟨hw0, hw1⟩ := hwf
  have Hl := Lib.hid hl
  have Hb := Lib.hid hbytes
  clear hl hbytes
  have hfew := fun w1 (hb1 : Below w.heap.size w w1) => Few_any w.heap.size A n cap xss w1 (hr.below hb1 (Nat.le_refl _)) Hl.out (by omega)
  have Hfew := Lib.hid hfew
  clear hfew
  by_cases hneg : cut < 0
  · go_enter Try.func6, Try.ntmps6
    go_wp2_with fail
    refine (live_any w).mono ?_
    rintro e w1 ⟨rfl, hb1⟩
    go_wp2_with fail
    refine (Hfew.out w1 hb1).mono ?_
    rintro e w2 ⟨t, rfl, rfl, _⟩
    cases t
    all_goals
      go_wp2
      go_ret
      exact ⟨rfl, hb1⟩
  · obtain ⟨k0, rfl⟩ := Int.eq_ofNat_of_zero_le (show 0 ≤ cut by omega)
    clear hneg
    go_enter Try.func6, Try.ntmps6
    go_wp2_with fail
    refine (live_any w).mono ?_
    rintro e w1 ⟨rfl, hb1⟩
    have hsz1 := hb1.size
    go_wp2_with fail
    refine (Hfew.out w1 hb1).mono ?_
    rintro e w2 ⟨t, rfl, rfl, hok⟩
    cases t
    · go_wp2
      go_ret
      exact ⟨rfl, hb1⟩
    · obtain ⟨h12, h1000⟩ := hok rfl
      have H12 := Lib.hid h12
      have H1000 := Lib.hid h1000
      have hn12 : n ≤ 12 := by rw [← Hl.out]; exact h12
      have hfit : Hid (Fit xss) := fun x hx => by
        obtain ⟨j, hj, rfl⟩ := List.mem_iff_getElem.1 hx
        have := H1000.out j hj
        rw [List.getElem?_eq_getElem hj] at this
        exact ⟨by simp at this; omega, Hb.out _ hx⟩
      have hspan : span xss ≤ 12096 := by
        have h := span_bound xss (fun x hx => by
          obtain ⟨j, hj, rfl⟩ := List.mem_iff_getElem.1 hx
          have := H1000.out j hj
          rw [List.getElem?_eq_getElem hj] at this
          simpa using this)
        have := H12.out; omega
      clear hok h12 h1000
      have hfr := framed_any w.heap.size A n cap xss w1 (hr.below hb1 (Nat.le_refl _)) hsz1 Hl.out hn12 H1000.out
      go_wp2_with fail
      refine hfr.mono ?_
      rintro e w3 ⟨v3, u3, rfl, hr3, hown3, hb3⟩
      have hb3' := hb1.trans (hb3.mono hsz1)
      obtain ⟨A3, c3, rfl, hc3, hm3, hrd3⟩ := hr3.shape
      obtain ⟨U3, d3, rfl⟩ := own_shape hown3
      rw [framesOf_length] at hc3
      rw [Hl.out] at hown3
      rw [framesOf_length, Hl.out]
      have hlenF : Hid ((framesOf xss).length = span xss) := framesOf_length xss
      have hscan := Scan_to w3.heap.size A3 (span xss) c3 (framesOf xss) xss (span xss) w3 hrd3 (Nat.le_refl _) hlenF.out hc3 hm3 (by omega) (scan_all xss hfit.out) rfl
      generalize hL : span xss = L at *
      have HL := Lib.hid hL
      clear hL hfr
      go_wp2_with fail
      refine hscan.mono ?_
      rintro e w4 ⟨v4, vs4, rfl, hown4, hels4, hb4⟩
      clear hscan
      obtain ⟨A4, c4, rfl⟩ := own_shape hown4
      obtain ⟨n4, r4⟩ := hels4.rd hown4
      have hb4' := hb3'.trans (hb4.mono hb3'.size)
      have hrx := hr.below hb4' (Nat.le_refl _)
      have hs1 := SameAll_true w4.heap.size w.heap.size A4 A n c4 cap xss w4 r4 hrx.rdB Hl.out (by omega)
      rw [n4, Hl.out]
      clear n4 hown4 hels4
      go_wp2_with fail
      refine hs1.mono ?_
      rintro e w5 ⟨rfl, kd, rfl⟩
      have hb5' : Below w.heap.size w (w4.drewN kd) := below_drewN hb4' kd
      have hown5 : (w4.drewN kd).ownsRow w1.heap.size 3 1 (.slice U3 n d3) n (endsOf xss n) := own_below hown3 (below_drewN hb4 kd)
      have hr5 : Rd w3.heap.size (w4.drewN kd) A3 (framesOf xss) := hrd3.below (below_drewN hb4 kd) (Nat.le_refl _)
      have hrx5 : RdN w.heap.size (w4.drewN kd) A xss := hrx
      have hsz5 : w3.heap.size ≤ (w4.drewN kd).heap.size := hb4.size
      clear hrx r4 hs1 hown3 hrd3 hr3
      generalize w4.drewN kd = w5 at *
      obtain ⟨c, hc⟩ : ∃ c, k0 % (L + 1) = c := ⟨_, rfl⟩
      have hcL : c ≤ L := by have := Nat.mod_lt k0 (show 0 < L + 1 by omega); omega
      have hmod : (k0 : Int) % ((L : Int) + 1) = (c : Int) := by rw [← hc, Int.natCast_emod]; rfl
      clear hc
      have hWle := whole_le c xss
      have hscan2 : Hid (scan ((framesOf xss).take c) = xss.take (whole c xss)) := scan_cut xss c hfit.out
      have hend : Hid (∀ i, i < n → (endAt xss i ≤ c ↔ i < whole c xss)) := fun i hi => endAt_whole xss c i (by rw [Hl.out]; exact hi)
      rw [Hl.out] at hWle
      generalize whole c xss = W at *
      have hm3' := hm3
      unfold maxLen at hm3'
      go_wp2
      rw [hmod]
      clear hmod
      go_loop [10, 11, 13, 55] (fun a b _ i => ∃ (j m q : Nat), j ≤ n ∧ i = .int .i64 j ∧ a = .int .i64 m ∧ b = .int .i64 q ∧ Hid (m = min j W) ∧ Hid (q = span (xss.take m)) ∧ m ≤ 12) (fun _ _ _ i => n - (intOf i).toNat)
      case atStart => exact ⟨0, 0, 0, by omega, rfl, rfl, rfl, by show _ = _; omega, by show _ = _; rw [List.take_zero, span_nil], by omega⟩
      case round =>
        obtain ⟨j, m, q, hj, rfl, rfl, rfl, hmin, hq, hm12⟩ := hrel
        by_cases hlt : j < n
        · obtain ⟨g, rfl⟩ := own_head hown5 (by omega)
          have hcell := ends_cell hown5 hlt
          have hiff := hend.out j hlt
          have hnext : Hid (endAt xss j = span (xss.take (j + 1))) := rfl
          by_cases hle : endAt xss j ≤ c
          · have hjW := hiff.1 hle
            have hmj : m = j := by have := hmin.out; omega
            have Hmj := Lib.hid hmj
            clear hmj hiff
            generalize endAt xss j = en at *
            go_wp2
            go_round
            case rel => exact ⟨j + 1, m + 1, en, by omega, by go_num, by go_num, rfl, by show _ = _; have := Hmj.out; omega, by show _ = _; rw [Hmj.out]; exact hnext.out, by have := Hmj.out; omega⟩
            case measure => simp [intOf]; omega
          · have hjW : W ≤ j := by omega
            have hgt : c < endAt xss j := by omega
            clear hle hiff
            generalize endAt xss j = en at *
            go_wp2
            go_round
            case rel => exact ⟨j + 1, m, q, by omega, by go_num, rfl, rfl, by show _ = _; have := hmin.out; omega, hq, hm12⟩
            case measure => simp [intOf]; omega
        · obtain rfl : j = n := by omega
          have hmW : m = W := by have := hmin.out; omega
          have Hq := hq.out
          subst hmW
          have hlt2 : ((framesOf xss).take c).length = c := by rw [List.length_take, hlenF.out]; omega
          have hscan3 := fun (w : World) (h : Rd w3.heap.size w A3 (framesOf xss)) (hz : w3.heap.size ≤ w.heap.size) => Scan_to w3.heap.size A3 c c3 ((framesOf xss).take c) (xss.take m) q w (h.take c) hz hlt2 (by omega) hm3 (by omega) hscan2.out Hq.symm
          have Hscan3 := Lib.hid (hscan3 w5 hr5 hsz5)
          have HQ := Lib.hid Hq
          have hwl : Hid ((xss.take m).length = m) := by show _ = _; rw [List.length_take, Hl.out]; omega
          have hq63 : q ≤ 12096 := by
            have h1 := span_append (xss.take m) (xss.drop m)
            rw [List.take_append_drop, HL.out] at h1
            omega
          have hh := fun w => run_head w A3 L c3 c .i64 (by omega)
          have hh2 := fun w => run_head35 w A j cap m (by omega)
          clear Hq hscan3 hlt2 hlt
          go_wp2_with fail
          refine Hscan3.out.mono ?_
          rintro e w6 ⟨v6, vs6, rfl, hown6, hels6, hb6⟩
          obtain ⟨A6, c6, rfl⟩ := own_shape hown6
          obtain ⟨n6, r6⟩ := hels6.rd hown6
          have hb6' := hb5'.trans (hb6.mono hb5'.size)
          have hrx6 := (hrx5.below hb6 hb5'.size).rdB.take m
          have hs2 := SameAll_true w6.heap.size w.heap.size A6 A m c6 cap (xss.take m) w6 r6 hrx6 hwl.out (by unfold maxLen; omega)
          rw [n6, hwl.out]
          clear n6 hown6 hels6 Hscan3
          go_wp2_with fail
          refine hs2.mono ?_
          rintro e w7 ⟨rfl, kd2, rfl⟩
          go_wp2
          go_ret
          exact ⟨rfl, below_drewN hb6' kd2⟩

set_option maxRecDepth 100000 in
theorem sealBack_lifted (os : Os) (started : os.Started) (H : Type) (enc : TypeId × Value → H) :
    ReturnsInHanded {} Try.checked os 6 .any (Rows.sealBackSpec.pre6 enc Try.prog Try.f6 Rows.sealBackRow.domain false) (Rows.sealBackSpec.post enc Try.prog Try.f6 false true false false) := by
  refine returnsInHanded_of_change (C := Try.checked) Try.own started (by kernel_rfl) Try.func6
    (ChangeSpec.witness6 (enc := enc) (C := Try.checked) false ⟨#[], #[.slice Option.none 0 0, .int .i64 0], []⟩ 8 (by kernel_rfl) (by kernel_rfl) (by kernel_rfl) (by kernel_rfl)) ?_
  intro W base args ds gs before hval0 hW _ _
  have hval : ∀ (j : Nat) t v, Try.f6.params[j]? = some t → args[j]? = some v → Value.okWide Try.prog W .any base t v := hval0
  have hW' := hW
  obtain ⟨p, q, hA0, hV, rfl, _, _⟩ := hW
  have hA : DataW.TrodAll enc Try.prog W 0 (fun _ => true) true Try.f6.params.toList args.toList ds p := hA0
  rw [Try.params6] at hA hval
  have hlt : ∀ x ∈ p, x.block < W.heap.size := fun x hx => hW'.lt x (List.mem_append_left _ hx)
  obtain ⟨rfl, rfl⟩ := trodVars_none hV
  clear hA0 hval0
  obtain ⟨v0, vs0, d0, ds0, p0, q0, hargs0, rfl, rfl, h0, r0⟩ := trodAll_cons hA
  obtain ⟨v1, vs1, d1, ds1, p1, q1, hargs1, rfl, rfl, h1, r1⟩ := trodAll_cons r0
  obtain ⟨hlast, rfl, rfl⟩ := trodAll_nil r1
  obtain rfl : args = #[v0, v1] := by
    apply Array.toList_inj.1
    rw [hargs0, hargs1, hlast]
  obtain ⟨A0, cap0, xss0, rfl, hr0, hlc0, hm0, hb0⟩ := open_rowsB (hval 0 35 v0 rfl rfl) h0 (fun x hx => hlt x (List.mem_append_left _ hx))
  obtain ⟨n1, rfl, rfl, rfl, wf1⟩ := open_int Try.underlying3 (hval 1 3 v1 rfl rfl) h1
  refine (sealBack_walk A0 xss0.length cap0 xss0 n1 W hr0 rfl hlc0 hm0 hb0 (bounds_i64 wf1)).mono fun e W' ⟨he, hb⟩ => ?_
  subst he
  exact ⟨_, rfl, law_post Try.laidOut hW' rfl (by rw [Try.params6]; decide +kernel) 4 rfl Try.underlying4 rfl hb⟩

theorem sealBack_holds : Rows.SealBackSaid :=
  OpenClaim.holds_of_wide 6 Try.f6 rfl rfl rfl rfl rfl rfl rfl ⟨rfl, rfl, rfl, rfl, rfl⟩ rfl rfl rfl rfl rfl (by kernel_rfl) Try.func6 (by kernel_rfl)
    (of_decide_eq_true (by kernel_rfl)) (by unfold Func.isWrapper; first | (rw [if_pos (by decide +kernel)]; kernel_rfl) | (rw [if_neg (by decide +kernel)]; exact ⟨rfl, rfl⟩))
    (fun os started H enc _ => sealBack_lifted os started H enc)
end Go.Proofs.Ytbhojobonihccaa
