/- OctetSequence: for every list of integer slices and every byte slice, where there are at most ten slices with at most 100 elements together and at most 3000 bytes, the slices that are written one after the other behind the bytes are read again one by one, and writing to what PutInt gives leaves the bytes as they were; the law's own sanity check holds, and nothing that was there has turned. No condition. -/
import Derived.Test.YtnebjihjfghlfaaRows3
import Derived.Test.YtnebjihjfghlfaaFew
namespace Go.Proofs.Ytnebjihjfghlfaa
open Go.ChangeShapes Go.WideShapes Go.ChangeAt Go.RowKit

set_option maxRecDepth 20000 in
set_option maxHeartbeats 4000000 in
theorem octetSequence_walk (A D : Option Addr) (n cap bl bc : Nat) (zss : List (List Int)) (bs : List Nat) (w : World) (hr : RdR w.heap.size w A zss) (hl : zss.length = n) (hcap : n ≤ cap) (hm : cap ≤ maxLen) (hlen : ∀ j, j < n → (zss[j]?.getD []).length ≤ 17592186044416)
    (hd : Rd w.heap.size w D bs) (hdl : bs.length = bl) (hdm : bc ≤ maxLen) (hdn : D = Option.none → bc = 0) :
    Calls Try.prog 10 #[.slice A n cap, .slice D bl bc] w fun e w' => e = .returned (.bool true) ∧ Below w.heap.size w w' := by
  have Hl := Lib.hid hl
  have HD := Lib.hid hdl
  have Hlen := Lib.hid hlen
  have hm' := hm
  have hdm' := hdm
  unfold maxLen at hm' hdm'
  clear hl hdl hlen
  go_enter Try.func10, Try.ntmps10
  go_wp2_with fail
  refine (live_any w).mono ?_
  rintro e w1 ⟨rfl, hb1⟩
  have hsz1 := hb1.size
  have hr1 := hr.below hb1 (Nat.le_refl _)
  have hd1 := hd.below hb1 (Nat.le_refl _)
  go_wp2
  go_loop [5, 6] (fun a i => ∃ (j s : Nat), j ≤ n ∧ j ≤ 20 ∧ i = .int .i64 j ∧ a = .int .i64 s ∧ Hid (s = tot (zss.take j)) ∧ s ≤ j * 17592186044416) (fun _ i => 20 - (intOf i).toNat)
  case atStart => exact ⟨0, 0, by omega, by omega, rfl, rfl, by show _ = _; rw [List.take_zero]; rfl, by omega⟩
  case round =>
    obtain ⟨j, s, hj, hj20, rfl, rfl, hs, hsb⟩ := hrel
    by_cases hlt : j < n ∧ j < 20
    · obtain ⟨h1, h2⟩ := hlt
      obtain ⟨b, off, rfl, _, hc⟩ := hr1 (by rw [Hl.out]; omega)
      obtain ⟨E, ec, hc1, _⟩ := hc j (by rw [Hl.out]; exact h1)
      have hx := Hlen.out j h1
      have hnext : Hid (tot (zss.take (j + 1)) = tot (zss.take j) + (zss[j]?.getD []).length) := by show _ = _; rw [take_nextI zss j (by rw [Hl.out]; exact h1), tot_snoc]
      clear hc
      generalize (zss[j]?.getD []).length = m at *
      go_wp2
      go_round
      case rel => exact ⟨j + 1, s + m, by omega, by omega, by go_num, by go_num, by show _ = _; rw [hnext.out, hs.out], by omega⟩
      case measure => simp [intOf]; omega
    · by_cases hn10 : 10 < n
      · by_cases hjn : j < n
        · have h20 : j = 20 := by omega
          subst h20
          clear hlt
          go_wp2
          all_goals
            go_ret
            exact ⟨rfl, hb1⟩
        · obtain rfl : j = n := by omega
          clear hlt hjn
          go_wp2
          go_ret
          exact ⟨rfl, hb1⟩
      · obtain rfl : j = n := by omega
        have hn10' : j ≤ 10 := by omega
        clear hn10 hlt
        have hst : Hid (s = tot zss) := by show _ = _; rw [hs.out, List.take_of_length_le (by rw [Hl.out]; omega)]
        by_cases hs100 : 100 < s
        · go_wp2
          go_ret
          exact ⟨rfl, hb1⟩
        · have hs100' : s ≤ 100 := by omega
          clear hs100
          by_cases hbl : 3000 < bl
          · go_wp2_with (go_at_call 12; refine (few_no _ _ _ _ hbl).mono ?_; rintro e w2 ⟨rfl, rfl⟩)
            go_ret
            exact ⟨rfl, hb1⟩
          · have hbl' : bl ≤ 3000 := by omega
            clear hbl hsb
            have hconv : (convert 22 9 (.slice D bl bc)).run Try.prog w1 = .ok (.string (str bs)) w1 := conv_str w.heap.size D bl bc bs w1 hd1 HD.out
            have hrow0 : Row (w1.alloc (.cells #[] 5)) w1.heap.size (.slice (some ⟨w1.heap.size, 0, Option.none⟩) 0 0) [] := ⟨by simp, by simpa [cellsOf] using World.ownsRow_made (base := w1.heap.size) (e := 5) (size := 1) w1 #[] 0 (Nat.le_refl _) (Nat.zero_le _) rfl⟩
            go_wp2_with (first
              | (go_at_call 12; refine (few_yes _ _ _ _ hbl').mono ?_; rintro e w2 ⟨rfl, rfl⟩)
              | (at_builtin; refine wpList_append_row rfl _ _ rfl w1.heap.size _ [] rfl hrow0 w.heap.size D bl bc bs rfl (hd1.below ((Below.refl w1.heap.size w1).alloc (Nat.le_refl _) _) hsz1) HD.out hdn ?c1 (by simp) ?_))
            case c1 => simp; omega
            intro v2 w2 hrow2 hgr2
            have hb2 : Below w1.heap.size w1 w2 := ((Below.refl w1.heap.size w1).alloc (Nat.le_refl _) _).grown hgr2 (by simp) (fun k hk => (hrow0.2.lt k hk).1)
            clear hconv hrow0
            generalize hstr : str bs = sb0 at *
            have Hstr := Lib.hid hstr
            clear hstr
            have hrow2' : Row w2 w1.heap.size v2 (bs ++ encAll (zss.take 0)) := by rw [List.take_zero]; simpa [encAll] using hrow2
            clear hrow2
            go_wp2
            go_loopw [8, 9] (fun v i wr => ∃ (k : Nat), k ≤ j ∧ i = .int .i64 k ∧ Row wr w1.heap.size v (bs ++ encAll (zss.take k)) ∧ Below w1.heap.size w1 wr) (fun _ i _ => j - (intOf i).toNat)
            case atStart => exact ⟨0, by omega, rfl, hrow2', hb2⟩
            case round =>
              obtain ⟨k, hk, rfl, hrow, hlow⟩ := hrel
              have hszr := hlow.size
              by_cases hlt : k < j
              · obtain ⟨b, off, rfl, hbB, hc⟩ := hr1 (by rw [Hl.out]; omega)
                obtain ⟨E, ec, hc1, hri⟩ := hc k (by rw [Hl.out]; exact hlt)
                have hcw : wr.cell? ⟨b, off + k, Option.none⟩ = some (.slice E (zss[k]?.getD []).length ec) := (hlow.cell (p := ⟨b, off + k, Option.none⟩) (by show b < w1.heap.size; omega)).trans hc1
                have hriw := hri.below hlow hsz1
                have hmem : (zss[k]?.getD []) ∈ zss := by rw [List.getElem?_eq_getElem (by rw [Hl.out]; exact hlt)]; exact List.getElem_mem _
                have hzl : (zss[k]?.getD []).length ≤ 100 := by have := tot_le zss _ hmem; have := hst.out; omega
                have hel := encAll_len (zss.take k)
                have hels := encAll_split zss k (by rw [Hl.out]; exact hlt)
                have htk : Hid (bs ++ encAll (zss.take (k + 1)) = (bs ++ encAll (zss.take k)) ++ encInts (zss[k]?.getD [])) := by show _ = _; rw [take_nextI zss k (by rw [Hl.out]; exact hlt), encAll_snoc, List.append_assoc]
                have hXl : (bs ++ encAll (zss.take k)).length ≤ 100000 := by
                  have h1 := encAll_len zss
                  rw [hels, List.length_append] at h1
                  rw [List.length_append, HD.out]
                  have := hst.out; have := Hl.out; omega
                obtain ⟨A8, c8, rfl, hc8, hm8, hrd8⟩ := hrow.shape
                have hn8 := hrow.nil_cap rfl
                clear hc hc1 hri hel hels
                generalize zss[k]?.getD [] = z at *
                generalize bs ++ encAll (zss.take k) = X at *
                have hcall := PutInts_any wr.heap.size w.heap.size A8 E X.length c8 z.length ec X z wr hrd8 (Nat.le_refl _) rfl hn8 (by omega) hriw (by omega) rfl (by omega)
                go_wp2_with fail
                refine hcall.mono ?_
                rintro e w3 ⟨v3, rfl, hr3, hb3⟩
                have hr3' := hr3.base hszr
                have e3 := htk.out
                rw [← e3] at hr3'
                clear e3 hr3 hcall hrow
                go_wp2
                go_roundw
                case rel => exact ⟨k + 1, by omega, by go_num, hr3', hlow.trans (hb3.mono hszr)⟩
                case measure => simp [intOf]; omega
              · obtain rfl : k = j := by omega
                have hall : zss.take k = zss := List.take_of_length_le (by rw [Hl.out]; omega)
                rw [hall] at hrow
                obtain ⟨A8, c8, rfl, hc8, hm8, hrd8⟩ := hrow.shape
                have HX : Hid ((bs ++ encAll zss).length = bl + (encAll zss).length) := by show _ = _; rw [List.length_append, HD.out]
                have hXl : (bs ++ encAll zss).length ≤ 100000 := by
                  have h1 := encAll_len zss
                  rw [HX.out]
                  have := hst.out; have := Hl.out; omega
                have hbw : Below w.heap.size w wr := hb1.trans (hlow.mono hsz1)
                have hdw := hd1.below hlow hsz1
                have hrrw := hr1.below hlow hsz1
                have hspl : Hid (∀ m, m < k → bs ++ encAll zss = (bs ++ encAll (zss.take m)) ++ (encInts (zss[m]?.getD []) ++ encAll (zss.drop (m + 1)))) := fun m hm => by
                  rw [List.append_assoc, ← encAll_split zss m (by rw [Hl.out]; exact hm)]
                clear hall hrow hlow hrow2' hgr2 hb2 hlt hd1 hr1 hk
                obtain ⟨wq, hwq⟩ : ∃ wq, wq = wr := ⟨_, rfl⟩
                subst hwq
                generalize hX : bs ++ encAll zss = X at *
                have HX2 := Lib.hid hX
                clear hX
                go_wp2
                go_loopw [10, 11] (fun a i wr => ∃ (m q : Nat), m ≤ k ∧ i = .int .i64 m ∧ a = .int .i64 q ∧ Hid (q = bl + (encAll (zss.take m)).length) ∧ q ≤ 100000 ∧ Below wq.heap.size wq wr) (fun _ i _ => k - (intOf i).toNat)
                case atStart => exact ⟨0, bl, by omega, rfl, rfl, by show _ = _; rw [List.take_zero]; rfl, by omega, Below.refl _ _⟩
                case round =>
                  obtain ⟨m, q, hmk, rfl, rfl, hq, hq63, hlow3⟩ := hrel
                  have hsz3 := hlow3.size
                  by_cases hlt : m < k
                  · obtain ⟨b, off, rfl, hbB, hc⟩ := hrrw (by rw [Hl.out]; omega)
                    obtain ⟨E, ec, hc1, hri⟩ := hc m (by rw [Hl.out]; exact hlt)
                    have hmem : (zss[m]?.getD []) ∈ zss := by rw [List.getElem?_eq_getElem (by rw [Hl.out]; exact hlt)]; exact List.getElem_mem _
                    have hzl : (zss[m]?.getD []).length ≤ s := by have := tot_le zss _ hmem; have := hst.out; omega
                    have hnext : Hid (q + (encInts (zss[m]?.getD [])).length = bl + (encAll (zss.take (m + 1))).length) := by show _ = _; rw [take_nextI zss m (by rw [Hl.out]; exact hlt), encAll_snoc, List.length_append, hq.out]; omega
                    have hsp := hspl.out m hlt
                    have hpre : (bs ++ encAll (zss.take m)).length = q := by rw [List.length_append, HD.out, hq.out]
                    have hiR : iR X (q : Int) (s : Int) = (0, q + (encInts (zss[m]?.getD [])).length, zss[m]?.getD []) := by
                      rw [hsp, ← hpre]
                      exact ints_enc _ _ _ hri.1 (by omega) _ (by omega)
                    have hq2 : q + (encInts (zss[m]?.getD [])).length ≤ 100000 := by
                      have : X.length = (bs ++ encAll (zss.take m)).length + ((encInts (zss[m]?.getD [])).length + (encAll (zss.drop (m + 1))).length) := by rw [hsp]; simp only [List.length_append]
                      omega
                    have hG := GetInts_any wq.heap.size A8 X.length c8 X (q : Int) (s : Int) wr (hrd8.below hlow3 (Nat.le_refl _)) hsz3 rfl (by omega)
                    unfold IntsAns at hG
                    rw [hiR] at hG
                    simp only at hG
                    clear hc hiR hsp hpre hmem
                    generalize zss[m]?.getD [] = z at *
                    generalize q + (encInts z).length = q2 at *
                    go_wp2_with fail
                    refine hG.mono ?_
                    rintro e w5 ⟨v5, rfl, hr5, hb5⟩
                    obtain ⟨A5, c5, rfl, hk5, hm5, hd5⟩ := hr5.shape
                    have hlow5 := hlow3.trans (hb5.mono hsz3)
                    have hcw : w5.cell? ⟨b, off + m, Option.none⟩ = some (.slice E z.length ec) := (hlow5.cell (p := ⟨b, off + m, Option.none⟩) (by have := hbw.size; show b < wq.heap.size; omega)).trans hc1
                    have hriw := hri.below hlow5 hbw.size
                    have hI := Ints_same w5.heap.size w.heap.size A5 E z.length c5 z.length ec z w5 hd5 hriw rfl rfl (by unfold maxLen; omega)
                    clear hG hc1
                    go_wp2_with fail
                    refine hI.mono ?_
                    rintro e w6 ⟨rfl, kd, rfl⟩
                    go_wp2
                    go_roundw
                    case rel => exact ⟨m + 1, q2, by omega, by go_num, rfl, hnext, hq2, below_drewN hlow5 kd⟩
                    case measure => simp [intOf]; omega
                  · obtain rfl : m = k := by omega
                    have hqX : q = X.length := by rw [hq.out, HX.out, List.take_of_length_le (by rw [Hl.out]; omega)]
                    subst hqX
                    have hbr : Below w.heap.size w wr := hbw.trans (hlow3.mono hbw.size)
                    have hdr := hd.below hbr (Nat.le_refl _)
                    have hput := PutInt_any w.heap.size D bl bc bs 1 wr hdr hbr.size HD.out hdn ⟨by decide, by decide⟩ (by omega)
                    clear hq hlt hsz3 hspl hrrw hdw
                    go_wp2_with fail
                    refine hput.mono ?_
                    rintro e w7 ⟨v7, rfl, hr7, hb7⟩
                    obtain ⟨A7, c7, rfl, hc7, hm7, _⟩ := hr7.shape
                    have hb7' := hbr.trans (hb7.mono hbr.size)
                    obtain ⟨n7, hn7⟩ : ∃ n7, (bs ++ Oct.enc 1).length = n7 := ⟨_, rfl⟩
                    have hn63 : n7 ≤ 9223372036854775807 := by unfold maxLen at hm7; omega
                    rw [hn7] at hr7 hc7 ⊢
                    have Hn7 := Lib.hid hn7
                    clear hn7 hput
                    generalize bs ++ Oct.enc 1 = Y at *
                    obtain ⟨wp, hwp⟩ : ∃ wp, wp = wr := ⟨_, rfl⟩
                    subst hwp
                    have hszp := hbr.size
                    go_wp2
                    go_loopw [16] (fun i wr => ∃ (m : Nat) (Z : List Nat), m ≤ n7 ∧ i = .int .i64 m ∧ Hid (Z.length = n7) ∧ Row wr wp.heap.size (.slice A7 n7 c7) Z ∧ Below wp.heap.size wp wr) (fun i _ => n7 - (intOf i).toNat)
                    case atStart => exact ⟨0, Y, by omega, rfl, Hn7.out, hr7, hb7⟩
                    case round =>
                      obtain ⟨m2, Z, hmn, rfl, hZ, hrow, hbz⟩ := hrel
                      by_cases hlt : m2 < n7
                      · obtain ⟨g, cp, hv, hg⟩ := hrow.head (by rw [hZ.out]; omega)
                        injection hv with hA _ _
                        subst hA
                        obtain ⟨hc, hf⟩ := hrow.at_ hZ.out hlt
                        have hy := hrow.1
                        have hyb : Z[m2]?.getD 0 < 256 := by rw [List.getElem?_eq_getElem (by rw [hZ.out]; exact hlt)]; exact hy _ (List.getElem_mem _)
                        have hst2 := hrow.store hZ.out m2 ((Z[m2]?.getD 0 + 1) % 256) (by omega)
                        have hZ2 : Hid ((Z.set m2 ((Z[m2]?.getD 0 + 1) % 256)).length = n7) := by show _ = _; rw [List.length_set]; exact hZ.out
                        generalize Z.set m2 ((Z[m2]?.getD 0 + 1) % 256) = Z2 at *
                        generalize Z[m2]?.getD 0 = y at *
                        obtain ⟨z, hz⟩ : ∃ z, (y + 1) % 256 = z := ⟨_, rfl⟩
                        rw [hz] at hst2
                        have hb9 := hbz.setCell (p := ⟨g, m2, Option.none⟩) hg (.int .u8 (z : Int))
                        have hinc : ((y : Int) + 1) % 256 = (z : Int) := by omega
                        clear hy hz
                        go_wp2
                        go_roundw
                        case rel => exact ⟨m2 + 1, Z2, by omega, by go_num, hZ2, hst2, hb9⟩
                        case measure => simp [intOf]; omega
                      · obtain rfl : m2 = n7 := by omega
                        have hbfin : Below w.heap.size w wr := hbr.trans (hbz.mono hszp)
                        have hcv := conv_str w.heap.size D bl bc bs wr (hd.below hbfin (Nat.le_refl _)) HD.out
                        rw [Hstr.out] at hcv
                        have B4 : (sb0.toList == sb0.toList) = true := beq_self_eq_true _
                        clear hlt
                        go_wp2
                        go_ret
                        exact ⟨rfl, hbfin⟩

set_option maxRecDepth 100000 in
theorem octetSequence_lifted (os : Os) (started : os.Started) (H : Type) (enc : TypeId × Value → H) :
    ReturnsInHanded {} Try.checked os 10 .any (Rows.octetSequenceSpec.pre6 enc Try.prog Try.f10 Rows.octetSequenceRow.domain false) (Rows.octetSequenceSpec.post enc Try.prog Try.f10 false true false false) := by
  refine returnsInHanded_of_change_sized (C := Try.checked) Try.own started (by kernel_rfl) Try.func10
    (ChangeSpec.witness6 (enc := enc) (C := Try.checked) false ⟨#[], #[.slice Option.none 0 0, .slice Option.none 0 0], []⟩ 8 (by kernel_rfl) (by kernel_rfl) (by kernel_rfl) (by kernel_rfl)) ?_
  intro W base args ds gs before hval0 hW _ hsz0 _
  have hval : ∀ (j : Nat) t v, Try.f10.params[j]? = some t → args[j]? = some v → Value.okWide Try.prog W .any base t v := hval0
  have hW' := hW
  obtain ⟨p, q, hA0, hV, rfl, _, _⟩ := hW
  have hA : DataW.TrodAll enc Try.prog W 0 (fun _ => true) true Try.f10.params.toList args.toList ds p := hA0
  have hsz : (DataW.weightsEach Try.prog (Try.f10.params.toList ++ Rows.octetSequenceSpec.plain.varTypes Try.prog) (ds ++ gs)).all (· ≤ reachBytes) = true := hsz0
  rw [Try.params10] at hA hval hsz
  have hlt : ∀ x ∈ p, x.block < W.heap.size := fun x hx => hW'.lt x (List.mem_append_left _ hx)
  obtain ⟨rfl, rfl⟩ := trodVars_none hV
  clear hA0 hval0 hsz0
  obtain ⟨v0, vs0, d0, ds0, p0, q0, hargs0, rfl, rfl, h0, r0⟩ := trodAll_cons hA
  obtain ⟨v1, vs1, d1, ds1, p1, q1, hargs1, rfl, rfl, h1, r1⟩ := trodAll_cons r0
  obtain ⟨hlast, rfl, rfl⟩ := trodAll_nil r1
  obtain rfl : args = #[v0, v1] := by
    apply Array.toList_inj.1
    rw [hargs0, hargs1, hlast]
  obtain ⟨A0, len0, cap0, zss0, rfl, hr0, hl0, hlc0, hm0, hlen0⟩ := open_rows_sized (hval 0 43 v0 rfl rfl) h0 (fun x hx => hlt x (List.mem_append_left _ hx)) hsz
  obtain ⟨A1, len1, cap1, bs1, rfl, hr1, hl1, _, hm1, hn1⟩ := open_bytes (hval 1 22 v1 rfl rfl) h1 (fun x hx => hlt x (List.mem_append_right _ (List.mem_append_left _ hx)))
  refine (octetSequence_walk A0 A1 len0 cap0 len1 cap1 zss0 bs1 W hr0 hl0 hlc0 hm0 hlen0 hr1 hl1 hm1 hn1).mono fun e W' ⟨he, hb⟩ => ?_
  subst he
  exact ⟨_, rfl, law_post Try.laidOut hW' rfl (by rw [Try.params10]; decide +kernel) 4 rfl Try.underlying4 rfl hb⟩

theorem octetSequence_holds : Rows.OctetSequenceSaid :=
  OpenClaim.holds_of_wide 10 Try.f10 rfl rfl rfl rfl rfl rfl rfl ⟨rfl, rfl, rfl, rfl, rfl⟩ rfl rfl rfl rfl rfl (by kernel_rfl) Try.func10 (by kernel_rfl)
    (of_decide_eq_true (by kernel_rfl)) (by unfold Func.isWrapper; first | (rw [if_pos (by decide +kernel)]; kernel_rfl) | (rw [if_neg (by decide +kernel)]; exact ⟨rfl, rfl⟩))
    (fun os started H enc _ => octetSequence_lifted os started H enc)
end Go.Proofs.Ytnebjihjfghlfaa
