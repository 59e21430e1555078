/- OctetRoundTrip: what was appended to any prefix is read again, and the prefix is unchanged; nothing that was there has turned. No condition. -/
import Derived.Test.YtnebjihjfghlfaaFew
import Derived.Deep.QuietTactic
import Derived.BigQuiet
namespace Go.Proofs.Ytnebjihjfghlfaa
open Go.ChangeShapes Go.WideShapes Go.ChangeAt Go.RowKit

set_option maxRecDepth 20000 in
set_option maxHeartbeats 2000000 in
theorem round_big (D A : Option Addr) (n : Int) (s : ByteArray) (bl bc len cap : Nat) (w : World) (h : 3000 < bl ∨ 300 < (s.size : Int) ∨ 100 < (len : Int)) :
    Calls Try.prog 6 #[.slice D bl bc, .int .i64 n, .string s, .slice A len cap] w fun e w' => e = .returned (.bool true) ∧ Below w.heap.size w w' := by
  have hcs : (3000 < bl) ∨ (bl ≤ 3000 ∧ 300 < (s.size : Int)) ∨ (bl ≤ 3000 ∧ ¬ 300 < (s.size : Int) ∧ 100 < (len : Int)) := by omega
  clear h
  rcases hcs with h | ⟨h0, h1⟩ | ⟨h0, h1, h2⟩
  · go_enter Try.func6, Try.ntmps6
    go_wp2_with fail
    refine (live_any w).mono ?_
    rintro e w1 ⟨rfl, hb1⟩
    go_wp2_with fail
    refine (few_no _ _ _ _ h).mono ?_
    rintro e w2 ⟨rfl, rfl⟩
    go_wp2
    go_ret
    exact ⟨rfl, hb1⟩
  all_goals
    go_enter Try.func6, Try.ntmps6
    go_wp2_with fail
    refine (live_any w).mono ?_
    rintro e w1 ⟨rfl, hb1⟩
    go_wp2_with fail
    refine (few_yes _ _ _ _ h0).mono ?_
    rintro e w2 ⟨rfl, rfl⟩
    go_wp2
    go_ret
    exact ⟨rfl, hb1⟩

theorem iR_good_v {r : Nat × Nat × List Int} {base : Nat} {w w' : World} {e : Ending} {a b : Nat} {zs : List Int} (h : IntsAns base w r e w') (hr : r = (a, b, zs)) : ∃ v, e = .returned (.tuple #[v, .int .i64 (b : Int), .int .i64 (a : Int)]) ∧ RowI w' base v zs ∧ Below base w w' := by
  subst hr
  exact h

set_option maxRecDepth 20000 in
set_option maxHeartbeats 4000000 in
theorem octetRoundTrip_walk (D A : Option Addr) (n : Int) (s : ByteArray) (bl bc len cap : Nat) (bs : List Nat) (zs : List Int) (w : World) (hd : Rd w.heap.size w D bs) (hdl : bs.length = bl) (hdn : D = Option.none → bc = 0) (hn : Wf n) (hr : RdI w.heap.size w A zs) (hl : zs.length = len) :
    Calls Try.prog 6 #[.slice D bl bc, .int .i64 n, .string s, .slice A len cap] w fun e w' => e = .returned (.bool true) ∧ Below w.heap.size w w' := by
  by_cases hbig : 3000 < bl ∨ 300 < (s.size : Int) ∨ 100 < (len : Int)
  · exact round_big D A n s bl bc len cap w hbig
  have hs0 : bl ≤ 3000 := by omega
  have hs1 : ¬ 300 < (s.size : Int) := by omega
  have hs2 : ¬ 100 < (len : Int) := by omega
  have le1 := Oct.enc_len n
  have le2 : 1 ≤ (encText s).length ∧ (encText s).length ≤ 1000 := by
    have := Oct.enc_len (s.size : Int)
    unfold encText
    rw [List.length_append, sb_length]
    omega
  have le3 : 1 ≤ (encInts zs).length ∧ (encInts zs).length ≤ 2000 := by
    have := Oct.enc_len (zs.length : Int)
    have := flat_len zs
    unfold encInts
    rw [List.length_append]
    omega
  obtain ⟨L1, h1⟩ : ∃ L, (Oct.enc n).length = L := ⟨_, rfl⟩
  obtain ⟨L2, h2⟩ : ∃ L, (encText s).length = L := ⟨_, rfl⟩
  obtain ⟨L3, h3⟩ : ∃ L, (encInts zs).length = L := ⟨_, rfl⟩
  rw [h1] at le1; rw [h2] at le2; rw [h3] at le3
  have H1 := Lib.hid h1
  have H2 := Lib.hid h2
  have H3 := Lib.hid h3
  have HN := Lib.hid hn
  have HL := Lib.hid hl
  have HD := Lib.hid hdl
  clear h1 h2 h3 hn hl hdl hbig
  go_enter Try.func6, Try.ntmps6
  go_wp2_with fail
  refine (live_any w).mono ?_
  rintro e w1 ⟨rfl, hb1⟩
  have hsz1 := hb1.size
  go_wp2_with fail
  refine (few_yes _ _ _ _ hs0).mono ?_
  rintro e w2 ⟨rfl, rfl⟩
  go_wp2_with fail
  refine (PutInt_any w.heap.size D bl bc bs n w1 (hd.below hb1 (Nat.le_refl _)) hsz1 HD.out hdn HN.out (by omega)).mono ?_
  rintro e w2 ⟨v2, rfl, hr2, hb2⟩
  have hb2' := hb1.trans (hb2.mono hsz1)
  have hsz2 := hb2'.size
  obtain ⟨A2, c2, hv2, hk2, hx2, hd2⟩ := hr2.shape
  have N2 := hr2.nil_cap hv2
  have e2 : (bs ++ Oct.enc n).length = bl + L1 := by rw [List.length_append, HD.out, H1.out]
  rw [e2] at hv2 hk2
  subst hv2
  clear hr2
  have HE2 := Lib.hid e2
  clear e2
  go_wp2_with fail
  refine (PutText_any w2.heap.size A2 (bl + L1) c2 (bs ++ Oct.enc n) s w2 hd2 (Nat.le_refl _) HE2.out N2 (by omega) (by omega)).mono ?_
  rintro e w3 ⟨v3, rfl, hr3, hb3⟩
  have hb3' := hb2'.trans (hb3.mono hsz2)
  have hsz3 := hb3'.size
  obtain ⟨A3, c3, hv3, hk3, hx3, hd3⟩ := hr3.shape
  have N3 := hr3.nil_cap hv3
  have e3 : (bs ++ Oct.enc n ++ encText s).length = bl + L1 + L2 := by rw [List.length_append, HE2.out, H2.out]
  rw [e3] at hv3 hk3
  subst hv3
  clear hr3
  have HE3 := Lib.hid e3
  clear e3
  go_wp2_with fail
  refine (PutInts_any w3.heap.size w.heap.size A3 A (bl + L1 + L2) c3 len cap (bs ++ Oct.enc n ++ encText s) zs w3 hd3 (Nat.le_refl _) HE3.out N3 (by omega) (hr.below hb3' (Nat.le_refl _)) hsz3 HL.out (by omega)).mono ?_
  rintro e w4 ⟨v4, rfl, hr4, hb4⟩
  have hb4' := hb3'.trans (hb4.mono hsz3)
  have hsz4 := hb4'.size
  obtain ⟨A4, c4, hv4, hk4, hx4, hd4⟩ := hr4.shape
  have e4 : (bs ++ Oct.enc n ++ encText s ++ encInts zs).length = bl + L1 + L2 + L3 := by rw [List.length_append, HE3.out, H3.out]
  rw [e4] at hv4 hk4
  subst hv4
  clear hr4
  have HE4 := Lib.hid e4
  clear e4
  obtain ⟨all, hall⟩ : ∃ all, bs ++ Oct.enc n ++ encText s ++ encInts zs = all := ⟨_, rfl⟩
  rw [hall] at hd4
  have E4 : all.length = bl + L1 + L2 + L3 := by rw [← hall]; exact HE4.out
  have Q1 : Oct.gE all (bl : Int) = 0 ∧ Oct.gV all (bl : Int) = n ∧ Oct.gN all (bl : Int) = bl + L1 := by
    have e : all = bs ++ (Oct.enc n ++ (encText s ++ encInts zs)) := by rw [← hall]; simp
    have := g_enc bs (encText s ++ encInts zs) n HN.out
    rw [← e, HD.out, H1.out] at this
    exact this
  have Q2 : textAns all ((bl + L1 : Nat) : Int) (s.size : Int) = .returned (.tuple #[.string s, .int .i64 ((bl + L1 + L2 : Nat) : Int), .int .i64 0]) := by
    have e : all = (bs ++ Oct.enc n) ++ (encText s ++ encInts zs) := by rw [← hall]; simp
    have := text_enc (bs ++ Oct.enc n) (encInts zs) s (by omega)
    rw [← e, HE2.out, H2.out] at this
    exact this
  have Q3 : iR all ((bl + L1 + L2 : Nat) : Int) (len : Int) = (0, bl + L1 + L2 + L3, zs) := by
    have e : all = (bs ++ Oct.enc n ++ encText s) ++ (encInts zs ++ []) := by rw [← hall]; simp
    have := ints_enc (bs ++ Oct.enc n ++ encText s) [] zs hr.1 (by rw [HL.out]; omega) (len : Int) (by rw [HL.out]; omega)
    rw [← e, HE3.out, H3.out] at this
    exact this
  have Q5 : all.take bl = bs := by
    have e : all = bs ++ (Oct.enc n ++ (encText s ++ encInts zs)) := by rw [← hall]; simp
    rw [e, ← HD.out, List.take_left]
  have HE := Lib.hid E4
  have HQ3 := Lib.hid Q3
  have HQ5 := Lib.hid Q5
  have HQ2 := Lib.hid Q2
  clear E4 hall HE2 HE3 HE4 hd2 hd3 Q3 Q5 Q2
  go_wp2_with fail
  refine (GetInt_any w4.heap.size A4 (bl + L1 + L2 + L3) c4 all (bl : Int) w4 hd4 HE.out (by unfold maxLen; omega)).mono ?_
  rw [Q1.1, Q1.2.1, Q1.2.2]
  rintro e w5 ⟨rfl, rfl⟩
  clear Q1
  go_wp2_with fail
  refine (GetText_any w4.heap.size A4 (bl + L1 + L2 + L3) c4 all ((bl + L1 : Nat) : Int) (s.size : Int) w4 hd4 (Nat.le_refl _) HE.out hk4 hx4).mono ?_
  rw [HQ2.out]
  rintro e w5 ⟨rfl, hb5⟩
  have hb5' := hb4'.trans (hb5.mono hsz4)
  have hsz5 := hb5'.size
  have hd5 := hd4.below hb5 (Nat.le_refl _)
  go_wp2_with fail
  refine (GetInts_any w4.heap.size A4 (bl + L1 + L2 + L3) c4 all ((bl + L1 + L2 : Nat) : Int) (len : Int) w5 hd5 hb5.size HE.out (by omega)).mono ?_
  intro e w6 hans
  obtain ⟨v6, rfl, hr6, hb6⟩ := iR_good_v hans HQ3.out
  have hb6' := hb5'.trans (hb6.mono hsz5)
  have hsz6 := hb6'.size
  have hd6 := hd5.below hb6 hb5.size
  obtain ⟨A6, c6, hv6, hk6, hx6, hd7⟩ := hr6.shape
  rw [HL.out] at hv6 hk6
  subst hv6
  clear hans hr6 hd5 hd4 HQ2 HQ3
  have hq7 := hr.below hb6' (Nat.le_refl _)
  have hD6 := hd.below hb6' (Nat.le_refl _)
  have u6 := run_head w6 A4 (bl + L1 + L2 + L3) c4 bl .i64 (by omega)
  have t6 := hd6.take bl
  rw [HQ5.out] at t6
  have hns : ((bl + L1 + L2 + L3 : Nat) : Int) = (bl : Int) + (L1 : Int) + (L2 : Int) + (L3 : Int) := by omega
  go_wp2_with fail
  have cv1 : ∀ n : Nat, (convert 22 9 (.slice A4 bl c4)).run Try.prog (w6.drewN n) = .ok (.string (str bs)) (w6.drewN n) := fun n => conv_str w4.heap.size A4 bl c4 bs (w6.drewN n) (t6.drewN n) HD.out
  have cv2 : ∀ n : Nat, (convert 22 9 (.slice D bl bc)).run Try.prog (w6.drewN n) = .ok (.string (str bs)) (w6.drewN n) := fun n => conv_str w.heap.size D bl bc bs (w6.drewN n) (hD6.drewN n) HD.out
  have sm := fun n : Nat => Ints_same w6.heap.size w.heap.size A6 A len c6 len cap zs (w6.drewN n) (hd7.drewN n) (hq7.drewN n) HL.out HL.out (by unfold maxLen; omega)
  have u6' : ∀ w : World, (Instr.slice 22 (.slice A4 (bl + L1 + L2 + L3) c4) none (some (.int .i64 (bl : Int))) none).run Try.prog w = .ok (.slice A4 bl c4) w := fun w => run_head w A4 (bl + L1 + L2 + L3) c4 bl .i64 (by omega)
  clear hb1 hb2 hb2' hb3 hb3' hb4 hb4' hb5 hb5' hb6 HE t6 hd6 hd7 hq7 hD6 hr hd u6 HQ5 H1 H2 H3
  have B1 : (n == n) = true := beq_self_eq_true n
  have B2 : (s.toList == s.toList) = true := beq_self_eq_true _
  have B3 : ((bl : Int) + (L1 : Int) + (L2 : Int) + (L3 : Int) == (bl : Int) + (L1 : Int) + (L2 : Int) + (L3 : Int)) = true := beq_self_eq_true _
  have B4 : ((str bs).toList == (str bs).toList) = true := beq_self_eq_true _
  go_quiet ((go_at_call 25; exact Calls.quiet_of (sm _)))
  go_wp2
  go_ret
  exact ⟨by simp [*], below_drewN hb6' _⟩


set_option maxRecDepth 100000 in
theorem octetRoundTrip_lifted (os : Os) (started : os.Started) (H : Type) (enc : TypeId × Value → H) :
    ReturnsInHanded {} Try.checked os 6 .any (Rows.octetRoundTripSpec.pre6 enc Try.prog Try.f6 Rows.octetRoundTripRow.domain false) (Rows.octetRoundTripSpec.post enc Try.prog Try.f6 false true false false) := by
  refine returnsInHanded_of_change (C := Try.checked) Try.own started (by kernel_rfl) Try.func6
    (ChangeSpec.witness6 (enc := enc) (C := Try.checked) false ⟨#[], #[.slice Option.none 0 0, .int .i64 0, .string ByteArray.empty, .slice Option.none 0 0], []⟩ 8 (by kernel_rfl) (by kernel_rfl) (by kernel_rfl) (by kernel_rfl)) ?_
  intro W base args ds gs before hval0 hW _ _
  have hval : ∀ (j : Nat) t v, Try.f6.params[j]? = some t → args[j]? = some v → Value.okWide Try.prog W .any base t v := hval0
  have hW' := hW
  obtain ⟨p, q, hA0, hV, rfl, _, _⟩ := hW
  have hA : DataW.TrodAll enc Try.prog W 0 (fun _ => true) true Try.f6.params.toList args.toList ds p := hA0
  rw [Try.params6] at hA hval
  have hlt : ∀ x ∈ p, x.block < W.heap.size := fun x hx => hW'.lt x (List.mem_append_left _ hx)
  obtain ⟨rfl, rfl⟩ := trodVars_none hV
  clear hA0 hval0
  obtain ⟨v0, vs0, d0, ds0, p0, q0, hargs0, rfl, rfl, h0, r0⟩ := trodAll_cons hA
  obtain ⟨v1, vs1, d1, ds1, p1, q1, hargs1, rfl, rfl, h1, r1⟩ := trodAll_cons r0
  obtain ⟨v2, vs2, d2, ds2, p2, q2, hargs2, rfl, rfl, h2, r2⟩ := trodAll_cons r1
  obtain ⟨v3, vs3, d3, ds3, p3, q3, hargs3, rfl, rfl, h3, r3⟩ := trodAll_cons r2
  obtain ⟨hlast, rfl, rfl⟩ := trodAll_nil r3
  obtain rfl : args = #[v0, v1, v2, v3] := by
    apply Array.toList_inj.1
    rw [hargs0, hargs1, hargs2, hargs3, hlast]
  obtain ⟨A0, len0, cap0, bs0, rfl, hr0, hl0, hlc0, hm0, hn0⟩ := open_bytes (hval 0 22 v0 rfl rfl) h0 (fun x hx => hlt x (List.mem_append_left _ hx))
  obtain ⟨n1, rfl, rfl, rfl, wf1⟩ := open_int Try.underlying3 (hval 1 3 v1 rfl rfl) h1
  obtain ⟨t2, rfl, rfl, rfl, wt2⟩ := ChangeMaps.open_string Try.underlying9 (hval 2 9 v2 rfl rfl) h2
  obtain ⟨A3, len3, cap3, zs3, rfl, hr3, hl3, hlc3, hm3, hn3⟩ := open_intlist (hval 3 34 v3 rfl rfl) h3 (fun x hx => hlt x (List.mem_append_right _ (List.mem_append_right _ (List.mem_append_right _ (List.mem_append_left _ hx)))))
  refine (octetRoundTrip_walk A0 A3 n1 t2 len0 cap0 len3 cap3 bs0 zs3 W hr0 hl0 hn0 (bounds_i64 wf1) hr3 hl3).mono fun e W' ⟨he, hb⟩ => ?_
  subst he
  exact ⟨_, rfl, law_post Try.laidOut hW' rfl (by rw [Try.params6]; decide +kernel) 4 rfl Try.underlying4 rfl hb⟩

theorem octetRoundTrip_holds : Rows.OctetRoundTripSaid :=
  OpenClaim.holds_of_wide 6 Try.f6 rfl rfl rfl rfl rfl rfl rfl ⟨rfl, rfl, rfl, rfl, rfl⟩ rfl rfl rfl rfl rfl (by kernel_rfl) Try.func6 (by kernel_rfl)
    (of_decide_eq_true (by kernel_rfl)) (by unfold Func.isWrapper; first | (rw [if_pos (by decide +kernel)]; kernel_rfl) | (rw [if_neg (by decide +kernel)]; exact ⟨rfl, rfl⟩))
    (fun os started H enc _ => octetRoundTrip_lifted os started H enc)
end Go.Proofs.Ytnebjihjfghlfaa
