/- SealSpoilt: for every list of byte slices, every integer and every byte, where there are at most twelve payloads of at most 1000 bytes each and the integer is an offset at which the concatenation of their frames has another byte, not in a field of length: with that byte changed, Open reports the checksum's error at that frame, and Scan gives the payloads before it; the law's own sanity check holds, and nothing that was there has turned. No condition. -/
import Derived.Test.YtbhojobonihccaaFramed
namespace Go.Proofs.Ytbhojobonihccaa
open Go.ChangeShapes Go.WideShapes Go.ChangeAt Go.RowKit

/-- Behind framed: the two scans and the loop over the ends. -/
theorem ends_cell {w : World} {base n c g : Nat} {xss : List (List Nat)} (h : w.ownsRow base 3 1 (.slice (some ⟨g, 0, Option.none⟩) n c) n (endsOf xss n)) {j : Nat} (hj : j < n) : w.cell? ⟨g, j, Option.none⟩ = some (.int .i64 (endAt xss j : Nat)) := by
  rw [World.ownsRow.cellAt (w := w) (base := base) (e := 3) (size := 1) (g := g) (n := n) (cap := c) (xs := endsOf xss n) h j (by omega), endsOf_at xss n j hj]
theorem own_head {w : World} {base e n c : Nat} {A : Option Addr} {xs : List Value} (h : w.ownsRow base e 1 (.slice A n c) n xs) (hp : 0 < n) : ∃ g, A = some ⟨g, 0, Option.none⟩ := by
  rcases h.2 with ⟨_, h0⟩ | ⟨g', cap', cur, e, _⟩
  · omega
  · injection e with e1 _ _; exact ⟨g', e1⟩

set_option maxHeartbeats 4000000 in
theorem sealSpoilt_walk (A : Option Addr) (n cap : Nat) (xss : List (List Nat)) (at_ : Int) (t : Nat) (w : World) (hr : RdN w.heap.size w A xss) (hl : xss.length = n) (hcap : n ≤ cap) (hm : cap ≤ maxLen) (hbytes : ∀ x ∈ xss, ∀ c ∈ x, c < 256) (hwf : -9223372036854775808 ≤ at_ ∧ at_ ≤ 9223372036854775807) (ht : t < 256) :
    Calls Try.prog 7 #[.slice A n cap, .int .i64 at_, .int .u8 (t : Int)] w fun e w' => e = .returned (.bool true) ∧ Below w.heap.size w w' := by
  obtain ⟨hw0, hw1⟩ := hwf
  have Hl := Lib.hid hl
  have Hb := Lib.hid hbytes
  clear hl hbytes
  have hfew := fun w1 (hb1 : Below w.heap.size w w1) => Few_any w.heap.size A n cap xss w1 (hr.below hb1 (Nat.le_refl _)) Hl.out (by omega)
  have Hfew := Lib.hid hfew
  clear hfew
  by_cases hneg : at_ < 0
  · go_enter Try.func7, Try.ntmps7
    go_wp2_with fail
    refine (live_any w).mono ?_
    rintro e w1 ⟨rfl, hb1⟩
    go_wp2_with fail
    refine (Hfew.out w1 hb1).mono ?_
    rintro e w2 ⟨u, rfl, rfl, _⟩
    cases u
    all_goals
      go_wp2
      go_ret
      exact ⟨rfl, hb1⟩
  · obtain ⟨k, rfl⟩ := Int.eq_ofNat_of_zero_le (show 0 ≤ at_ by omega)
    clear hneg
    go_enter Try.func7, Try.ntmps7
    go_wp2_with fail
    refine (live_any w).mono ?_
    rintro e w1 ⟨rfl, hb1⟩
    have hsz1 := hb1.size
    go_wp2_with fail
    refine (Hfew.out w1 hb1).mono ?_
    rintro e w2 ⟨u, rfl, rfl, hok⟩
    cases u
    · go_wp2
      go_ret
      exact ⟨rfl, hb1⟩
    · obtain ⟨h12, h1000⟩ := hok rfl
      have H12 := Lib.hid h12
      have H1000 := Lib.hid h1000
      have hn12 : n ≤ 12 := by rw [← Hl.out]; exact h12
      have hfit : Hid (Fit xss) := fun x hx => by
        obtain ⟨j, hj, rfl⟩ := List.mem_iff_getElem.1 hx
        have := H1000.out j hj
        rw [List.getElem?_eq_getElem hj] at this
        exact ⟨by simp at this; omega, Hb.out _ hx⟩
      have hspan : span xss ≤ 12096 := by
        have h := span_bound xss (fun x hx => by
          obtain ⟨j, hj, rfl⟩ := List.mem_iff_getElem.1 hx
          have := H1000.out j hj
          rw [List.getElem?_eq_getElem hj] at this
          simpa using this)
        have := H12.out; omega
      clear hok h12 h1000
      have hfr := framed_any w.heap.size A n cap xss w1 (hr.below hb1 (Nat.le_refl _)) hsz1 Hl.out hn12 H1000.out
      go_wp2_with fail
      refine hfr.mono ?_
      rintro e w3 ⟨v3, u3, rfl, hr3, hown3, hb3⟩
      have hb3' := hb1.trans (hb3.mono hsz1)
      obtain ⟨A3, c3, hv3, hc3, hm3, hrd3⟩ := hr3.shape
      have hnil3 := hr3.nil_cap hv3
      subst hv3
      obtain ⟨U3, d3, rfl⟩ := own_shape hown3
      rw [framesOf_length] at hc3
      rw [Hl.out] at hown3
      rw [framesOf_length, Hl.out]
      have hlenF : Hid ((framesOf xss).length = span xss) := framesOf_length xss
      by_cases hk : k < span xss
      · obtain ⟨hWle, hWlt⟩ := whole_span xss k hk
        have hsp := spoilt xss k t hfit.out hk ht
        have hend : Hid (∀ i, i < n → (endAt xss i ≤ k ↔ i < whole k xss)) := fun i hi => endAt_whole xss k i (by rw [Hl.out]; exact hi)
        rw [Hl.out] at hWlt
        have hendW : k < endAt xss (whole k xss) := by have := hend.out _ hWlt; omega
        have Hsp := Lib.hid hsp
        have hWle' : Hid (span (xss.take (whole k xss)) ≤ k) := hWle
        clear hsp hWle
        generalize whole k xss = W at *
        obtain ⟨b3, o3, rfl, _, hcell3⟩ := hrd3.2 (by rw [hlenF.out]; omega)
        have hck := hcell3 k (by rw [hlenF.out]; exact hk)
        have hbk : (framesOf xss)[k]?.getD 0 < 256 := hrd3.byte k
        clear hcell3
        obtain ⟨c0, hc0⟩ : ∃ c0, (framesOf xss)[k]?.getD 0 = c0 := ⟨_, rfl⟩
        rw [hc0] at hck hbk
        have Hc0 := Lib.hid hc0
        generalize hL : span xss = L at *
        have HL := Lib.hid hL
        clear hL hfr hc0
        by_cases heq : c0 = t
        · subst heq
          go_wp2
          go_ret
          exact ⟨rfl, hb3'⟩
        · have hne : ((c0 : Int) == (t : Int)) = false := by rw [beq_eq_false_iff_ne]; omega
          have Hsp2 := Lib.hid (Hsp.out (by rw [Hc0.out]; exact heq))
          clear heq
          go_wp2
          go_loop [10, 11] (fun a b => ∃ (m q : Nat), m ≤ W ∧ a = .int .i64 m ∧ b = .int .i64 q ∧ Hid (q = span (xss.take m))) (fun a _ => W - (intOf a).toNat)
          case atStart => exact ⟨0, 0, by omega, rfl, rfl, by show _ = _; rw [List.take_zero, span_nil]⟩
          case round =>
            obtain ⟨m, q, hmW, rfl, rfl, hq⟩ := hrel
            obtain ⟨g, rfl⟩ := own_head hown3 (by omega)
            by_cases hlt : m < W
            · have hmn : m < n := by omega
              have hcell := ends_cell hown3 hmn
              have hle := (hend.out m hmn).2 hlt
              have hnext : Hid (endAt xss m = span (xss.take (m + 1))) := rfl
              generalize endAt xss m = en at *
              go_wp2
              go_round
              case rel => exact ⟨m + 1, en, by omega, by go_num, rfl, hnext⟩
              case measure => simp [intOf]; omega
            · obtain rfl : m = W := by omega
              have hcell := ends_cell hown3 hWlt
              have hqk : q ≤ k := by rw [hq.out]; exact hWle'.out
              generalize endAt xss m = en at *
              clear hlt
              by_cases h4 : k < q + 4
              · go_wp2
                go_ret
                exact ⟨rfl, hb3'⟩
              · have h4' : q + 4 ≤ k := by omega
                clear h4
                obtain ⟨hscanB, hopenB⟩ := Hsp2.out (by rw [← hq.out]; exact h4')
                have hopenB' : openE (((framesOf xss).set k t).drop q) = 20 := by rw [hq.out]; exact hopenB
                have hq63 : q ≤ L := by omega
                have hcopy := Copy_any w3.heap.size (some ⟨b3, o3, Option.none⟩) L c3 (framesOf xss) w3 hrd3 hlenF.out hnil3 (by omega)
                have HsB := Lib.hid hscanB
                have HoB := Lib.hid hopenB'
                clear hscanB hopenB hopenB'
                go_wp2_with fail
                refine hcopy.mono ?_
                rintro e w4 ⟨v4, rfl, hr4, hb4⟩
                clear hcopy
                obtain ⟨g4, c4, rfl, hbg4⟩ := hr4.head (by rw [hlenF.out]; omega)
                obtain ⟨A4', c4', hv4, hc4, hm4, _⟩ := hr4.shape
                injection hv4 with e1 e2 e3
                subst e3
                clear e1 e2
                rw [hlenF.out] at hc4 hr4 ⊢
                obtain ⟨hc4k, hf4k⟩ := hr4.at_ hlenF.out hk
                have hst := hr4.store hlenF.out k t ht
                have hlenS : Hid (((framesOf xss).set k t).length = L) := by show _ = _; rw [List.length_set, hlenF.out]
                have hb5 := (hb3'.trans (hb4.mono hb3'.size)).setCell (p := ⟨g4, k, Option.none⟩) (by have := hb3'.size; show w.heap.size ≤ g4; omega) (.int .u8 (t : Int))
                have hwl : Hid ((xss.take m).length = m) := by show _ = _; rw [List.length_take, Hl.out]; omega
                have hh2 := fun w => run_head35 w A n cap m (by omega)
                have Hq := hq.out.symm
                have HQ := Lib.hid Hq
                obtain ⟨A5, c5, hv5, _, _, hrd5⟩ := hst.shape
                injection hv5 with e1 e2 e3
                subst e1
                clear e2 e3 Hq
                go_wp2_with fail
                generalize w4.setCell ⟨g4, k, Option.none⟩ (.int .u8 (t : Int)) = w5 at *
                refine (Scan_to w5.heap.size (some ⟨g4, 0, Option.none⟩) L c4 _ (xss.take m) q w5 hrd5 (Nat.le_refl _) hlenS.out hc4 hm4 (by omega) HsB.out HQ.out).mono ?_
                rintro e w6 ⟨v6, vs6, rfl, hown6, hels6, hb6⟩
                have hb6' := hb5.trans (hb6.mono hb5.size)
                have hopen := Open_err w5.heap.size (some ⟨g4, 0, Option.none⟩) L c4 q _ w6 (hrd5.below hb6 (Nat.le_refl _)) hb6.size hlenS.out hc4 hm4 hq63 (by rw [HoB.out]; omega)
                rw [HoB.out] at hopen
                obtain ⟨A6, c6, rfl⟩ := own_shape hown6
                obtain ⟨n6, r6⟩ := hels6.rd hown6
                rw [n6, hwl.out]
                clear n6 hown6 hels6
                go_wp2_with fail
                refine hopen.mono ?_
                rintro e w7 ⟨rfl, hb7⟩
                have hb7' := hb6'.trans (hb7.mono hb6'.size)
                have hs2 := SameAll_true w6.heap.size w.heap.size A6 A m c6 cap (xss.take m) w7 (r6.below hb7 (Nat.le_refl _)) ((hr.below hb7' (Nat.le_refl _)).rdB.take m) hwl.out (by unfold maxLen; omega)
                clear hopen
                go_wp2_with fail
                refine hs2.mono ?_
                rintro e w8 ⟨rfl, kd2, rfl⟩
                go_wp2
                go_ret
                exact ⟨rfl, below_drewN hb7' kd2⟩
      · have hk' : span xss ≤ k := Nat.le_of_not_lt hk
        clear hk
        generalize span xss = L at *
        go_wp2
        go_ret
        exact ⟨rfl, hb3'⟩

set_option maxRecDepth 100000 in
theorem sealSpoilt_lifted (os : Os) (started : os.Started) (H : Type) (enc : TypeId × Value → H) :
    ReturnsInHanded {} Try.checked os 7 .any (Rows.sealSpoiltSpec.pre6 enc Try.prog Try.f7 Rows.sealSpoiltRow.domain false) (Rows.sealSpoiltSpec.post enc Try.prog Try.f7 false true false false) := by
  refine returnsInHanded_of_change (C := Try.checked) Try.own started (by kernel_rfl) Try.func7
    (ChangeSpec.witness6 (enc := enc) (C := Try.checked) false ⟨#[], #[.slice Option.none 0 0, .int .i64 0, .int .u8 0], []⟩ 8 (by kernel_rfl) (by kernel_rfl) (by kernel_rfl) (by kernel_rfl)) ?_
  intro W base args ds gs before hval0 hW _ _
  have hval : ∀ (j : Nat) t v, Try.f7.params[j]? = some t → args[j]? = some v → Value.okWide Try.prog W .any base t v := hval0
  have hW' := hW
  obtain ⟨p, q, hA0, hV, rfl, _, _⟩ := hW
  have hA : DataW.TrodAll enc Try.prog W 0 (fun _ => true) true Try.f7.params.toList args.toList ds p := hA0
  rw [Try.params7] at hA hval
  have hlt : ∀ x ∈ p, x.block < W.heap.size := fun x hx => hW'.lt x (List.mem_append_left _ hx)
  obtain ⟨rfl, rfl⟩ := trodVars_none hV
  clear hA0 hval0
  obtain ⟨v0, vs0, d0, ds0, p0, q0, hargs0, rfl, rfl, h0, r0⟩ := trodAll_cons hA
  obtain ⟨v1, vs1, d1, ds1, p1, q1, hargs1, rfl, rfl, h1, r1⟩ := trodAll_cons r0
  obtain ⟨v2, vs2, d2, ds2, p2, q2, hargs2, rfl, rfl, h2, r2⟩ := trodAll_cons r1
  obtain ⟨hlast, rfl, rfl⟩ := trodAll_nil r2
  obtain rfl : args = #[v0, v1, v2] := by
    apply Array.toList_inj.1
    rw [hargs0, hargs1, hargs2, hlast]
  obtain ⟨A0, cap0, xss0, rfl, hr0, hlc0, hm0, hb0⟩ := open_rowsB (hval 0 35 v0 rfl rfl) h0 (fun x hx => hlt x (List.mem_append_left _ hx))
  obtain ⟨n1, rfl, rfl, rfl, wf1⟩ := open_int Try.underlying3 (hval 1 3 v1 rfl rfl) h1
  obtain ⟨n2, rfl, rfl, rfl, wf2⟩ := open_int Try.underlying5 (hval 2 5 v2 rfl rfl) h2
  have w2 : 0 ≤ n2 ∧ n2 ≤ 255 := by simpa [Lit.wf, IntKind.min, IntKind.max, IntKind.signed, IntKind.bits] using wf2
  obtain ⟨t2, rfl⟩ := Int.eq_ofNat_of_zero_le w2.1
  refine (sealSpoilt_walk A0 xss0.length cap0 xss0 n1 t2 W hr0 rfl hlc0 hm0 hb0 (bounds_i64 wf1) (by omega)).mono fun e W' ⟨he, hb⟩ => ?_
  subst he
  exact ⟨_, rfl, law_post Try.laidOut hW' rfl (by rw [Try.params7]; decide +kernel) 4 rfl Try.underlying4 rfl hb⟩

theorem sealSpoilt_holds : Rows.SealSpoiltSaid :=
  OpenClaim.holds_of_wide 7 Try.f7 rfl rfl rfl rfl rfl rfl rfl ⟨rfl, rfl, rfl, rfl, rfl⟩ rfl rfl rfl rfl rfl (by kernel_rfl) Try.func7 (by kernel_rfl)
    (of_decide_eq_true (by kernel_rfl)) (by unfold Func.isWrapper; first | (rw [if_pos (by decide +kernel)]; kernel_rfl) | (rw [if_neg (by decide +kernel)]; exact ⟨rfl, rfl⟩))
    (fun os started H enc _ => sealSpoilt_lifted os started H enc)
end Go.Proofs.Ytbhojobonihccaa
