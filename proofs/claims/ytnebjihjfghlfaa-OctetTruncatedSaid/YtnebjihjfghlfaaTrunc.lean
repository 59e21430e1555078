/- OctetTruncated: a proper prefix of an encoding is read as too short; nothing that was there has turned. No condition. -/
import Derived.Test.YtnebjihjfghlfaaEnc
namespace Go.Proofs.Ytnebjihjfghlfaa
open Go.ChangeShapes Go.WideShapes Go.ChangeAt Go.RowKit

theorem iR_cut_v {r : Nat × Nat × List Int} {base : Nat} {w w' : World} {e : Ending} {a b : Nat} (h : IntsAns base w r e w') (hr : r = (a, b, [])) : ∃ v, e = .returned (.tuple #[v, .int .i64 (b : Int), .int .i64 (a : Int)]) ∧ Below base w w' := by
  subst hr
  obtain ⟨v, rfl, _, hb⟩ := h
  exact ⟨v, rfl, hb⟩

set_option maxRecDepth 20000 in
set_option maxHeartbeats 2000000 in
theorem trunc_big (n : Int) (s : ByteArray) (A : Option Addr) (len cap : Nat) (cut : Int) (w : World) (h : 300 < (s.size : Int) ∨ 100 < (len : Int) ∨ cut < 0) :
    Calls Try.prog 8 #[.int .i64 n, .string s, .slice A len cap, .int .i64 cut] w fun e w' => e = .returned (.bool true) ∧ Below w.heap.size w w' := by
  have hcs : (300 < (s.size : Int)) ∨ (¬ 300 < (s.size : Int) ∧ 100 < (len : Int)) ∨ (¬ 300 < (s.size : Int) ∧ ¬ 100 < (len : Int) ∧ cut < 0) := by omega
  clear h
  rcases hcs with h | ⟨h1, h2⟩ | ⟨h1, h2, h3⟩
  all_goals
    go_enter Try.func8, Try.ntmps8
    go_wp2_with fail
    refine (live_any w).mono ?_
    rintro e w1 ⟨rfl, hb1⟩
    go_wp2
    go_ret
    exact ⟨rfl, hb1⟩

set_option maxRecDepth 20000 in
set_option maxHeartbeats 4000000 in
theorem octetTruncated_walk (n : Int) (s : ByteArray) (A : Option Addr) (len cap : Nat) (zs : List Int) (cut : Int) (w : World) (hn : Wf n) (hcw : Wf cut) (hr : RdI w.heap.size w A zs) (hl : zs.length = len) :
    Calls Try.prog 8 #[.int .i64 n, .string s, .slice A len cap, .int .i64 cut] w fun e w' => e = .returned (.bool true) ∧ Below w.heap.size w w' := by
  by_cases hbig : 300 < (s.size : Int) ∨ 100 < (len : Int) ∨ cut < 0
  · exact trunc_big n s A len cap cut w hbig
  have hs1 : ¬ 300 < (s.size : Int) := by omega
  have hs2 : ¬ 100 < (len : Int) := by omega
  have hs3 : ¬ cut < 0 := by omega
  obtain ⟨c, rfl⟩ : ∃ c : Nat, cut = (c : Int) := ⟨cut.toNat, by omega⟩
  have hcu := hcw.2
  have le1 := Oct.enc_len n
  have le2 : 1 ≤ (encText s).length ∧ (encText s).length ≤ 1000 := by
    have := Oct.enc_len (s.size : Int)
    unfold encText
    rw [List.length_append, sb_length]
    omega
  have le3 : 1 ≤ (encInts zs).length ∧ (encInts zs).length ≤ 2000 := by
    have := Oct.enc_len (zs.length : Int)
    have := flat_len zs
    unfold encInts
    rw [List.length_append]
    omega
  obtain ⟨L1, h1⟩ : ∃ L, (Oct.enc n).length = L := ⟨_, rfl⟩
  obtain ⟨L2, h2⟩ : ∃ L, (encText s).length = L := ⟨_, rfl⟩
  obtain ⟨L3, h3⟩ : ∃ L, (encInts zs).length = L := ⟨_, rfl⟩
  rw [h1] at le1; rw [h2] at le2; rw [h3] at le3
  have z1 : ((L1 : Int) == 0) = false := by rw [beq_eq_false_iff_ne]; omega
  have z2 : ((L2 : Int) == 0) = false := by rw [beq_eq_false_iff_ne]; omega
  have z3 : ((L3 : Int) == 0) = false := by rw [beq_eq_false_iff_ne]; omega
  have m1 : (c : Int).tmod (L1 : Int) = ((c % L1 : Nat) : Int) := by rw [Int.ofNat_tmod]
  have m2 : (c : Int).tmod (L2 : Int) = ((c % L2 : Nat) : Int) := by rw [Int.ofNat_tmod]
  have m3 : (c : Int).tmod (L3 : Int) = ((c % L3 : Nat) : Int) := by rw [Int.ofNat_tmod]
  have q1 : c % L1 < L1 := Nat.mod_lt _ (by omega)
  have q2 : c % L2 < L2 := Nat.mod_lt _ (by omega)
  have q3 : c % L3 < L3 := Nat.mod_lt _ (by omega)
  generalize c % L1 = k1 at *
  generalize c % L2 = k2 at *
  generalize c % L3 = k3 at *
  have H1 := Lib.hid h1
  have H2 := Lib.hid h2
  have H3 := Lib.hid h3
  have HN := Lib.hid hn
  have HL := Lib.hid hl
  clear h1 h2 h3 hn hcw hl hbig
  go_enter Try.func8, Try.ntmps8
  go_wp2_with fail
  refine (live_any w).mono ?_
  rintro e w1 ⟨rfl, hb1⟩
  have hsz1 := hb1.size
  go_wp2_with fail
  refine (PutInt_any 0 Option.none 0 0 [] n w1 (Rd.nil _ _ _) (Nat.zero_le _) rfl (fun _ => rfl) HN.out (by omega)).mono ?_
  rintro e w2 ⟨v2, rfl, hr2, hb2⟩
  have hb2' := hb1.trans (hb2.mono hsz1)
  have hsz2 := hb2'.size
  rw [List.nil_append] at hr2
  obtain ⟨A2, c2, hv2, hk2, hx2, hd2⟩ := hr2.shape
  rw [H1.out] at hv2 hk2
  subst hv2
  clear hr2
  go_wp2_with fail
  refine (PutText_any 0 Option.none 0 0 [] s w2 (Rd.nil _ _ _) (Nat.zero_le _) rfl (fun _ => rfl) (by omega) (by omega)).mono ?_
  rintro e w3 ⟨v3, rfl, hr3, hb3⟩
  have hb3' := hb2'.trans (hb3.mono hsz2)
  have hsz3 := hb3'.size
  rw [List.nil_append] at hr3
  obtain ⟨A3, c3, hv3, hk3, hx3, hd3⟩ := hr3.shape
  rw [H2.out] at hv3 hk3
  subst hv3
  clear hr3
  have hd2' := hd2.below hb3 (Nat.le_refl _)
  go_wp2_with fail
  refine (PutInts_any 0 w.heap.size Option.none A 0 0 len cap [] zs w3 (Rd.nil _ _ _) (Nat.zero_le _) rfl (fun _ => rfl) (by omega) (hr.below hb3' (Nat.le_refl _)) hsz3 HL.out (by omega)).mono ?_
  rintro e w4 ⟨v4, rfl, hr4, hb4⟩
  have hb4' := hb3'.trans (hb4.mono hsz3)
  have hsz4 := hb4'.size
  rw [List.nil_append] at hr4
  obtain ⟨A4, c4, hv4, hk4, hx4, hd4⟩ := hr4.shape
  rw [H3.out] at hv4 hk4
  subst hv4
  clear hr4
  have hd3' := hd3.below hb4 (Nat.le_refl _)
  have hd2'' := hd2'.below hb4 (by have := hb3.size; omega)
  have u2 := run_head w4 A2 L1 c2 k1 .i64 (by omega)
  have u3 := run_head w4 A3 L2 c3 k2 .i64 (by omega)
  clear hd2 hd2' hd3
  have t1 := hd2''.take k1
  have t2 := hd3'.take k2
  have t3 := hd4.take k3
  go_wp2_with fail
  refine (GetInt_any w2.heap.size A2 k1 c2 ((Oct.enc n).take k1) 0 w4 t1 (by rw [List.length_take, H1.out]; omega) (by omega)).mono ?_
  have g1 : Oct.gE ((Oct.enc n).take k1) 0 = 10 := g_cut [] n k1 (by rw [H1.out]; exact q1)
  rw [g1]
  rintro e w5 ⟨rfl, rfl⟩
  go_wp2_with fail
  refine (GetText_any w3.heap.size A3 k2 c3 ((encText s).take k2) 0 (s.size : Int) w4 t2 (by have := hb4.size; omega) (by rw [List.length_take, H2.out]; omega) (by omega) hx3).mono ?_
  rw [text_cut s k2 (by omega) (by rw [H2.out]; exact q2)]
  rintro e w5 ⟨rfl, hb5⟩
  have hb5' := hb4'.trans (hb5.mono hsz4)
  have hsz5 := hb5'.size
  have t3' := t3.below hb5 (Nat.le_refl _)
  have u4 := run_head w5 A4 L3 c4 k3 .i64 (by omega)
  go_wp2_with fail
  refine (GetInts_any w4.heap.size A4 k3 c4 ((encInts zs).take k3) 0 (len : Int) w5 t3' hb5.size (by rw [List.length_take, H3.out]; omega) (by omega)).mono ?_
  intro e w6 hans
  have hic := ints_cut zs k3 hr.1 (by rw [HL.out]; omega) (by rw [H3.out]; exact q3)
  rw [HL.out] at hic
  obtain ⟨v6, rfl, hb6⟩ := iR_cut_v hans hic
  have hb6' := hb5'.trans (hb6.mono hsz5)
  clear hic hans
  go_wp2
  go_ret
  exact ⟨rfl, hb6'⟩


set_option maxRecDepth 100000 in
theorem octetTruncated_lifted (os : Os) (started : os.Started) (H : Type) (enc : TypeId × Value → H) :
    ReturnsInHanded {} Try.checked os 8 .any (Rows.octetTruncatedSpec.pre6 enc Try.prog Try.f8 Rows.octetTruncatedRow.domain false) (Rows.octetTruncatedSpec.post enc Try.prog Try.f8 false true false false) := by
  refine returnsInHanded_of_change (C := Try.checked) Try.own started (by kernel_rfl) Try.func8
    (ChangeSpec.witness6 (enc := enc) (C := Try.checked) false ⟨#[], #[.int .i64 0, .string ByteArray.empty, .slice Option.none 0 0, .int .i64 0], []⟩ 8 (by kernel_rfl) (by kernel_rfl) (by kernel_rfl) (by kernel_rfl)) ?_
  intro W base args ds gs before hval0 hW _ _
  have hval : ∀ (j : Nat) t v, Try.f8.params[j]? = some t → args[j]? = some v → Value.okWide Try.prog W .any base t v := hval0
  have hW' := hW
  obtain ⟨p, q, hA0, hV, rfl, _, _⟩ := hW
  have hA : DataW.TrodAll enc Try.prog W 0 (fun _ => true) true Try.f8.params.toList args.toList ds p := hA0
  rw [Try.params8] at hA hval
  have hlt : ∀ x ∈ p, x.block < W.heap.size := fun x hx => hW'.lt x (List.mem_append_left _ hx)
  obtain ⟨rfl, rfl⟩ := trodVars_none hV
  clear hA0 hval0
  obtain ⟨v0, vs0, d0, ds0, p0, q0, hargs0, rfl, rfl, h0, r0⟩ := trodAll_cons hA
  obtain ⟨v1, vs1, d1, ds1, p1, q1, hargs1, rfl, rfl, h1, r1⟩ := trodAll_cons r0
  obtain ⟨v2, vs2, d2, ds2, p2, q2, hargs2, rfl, rfl, h2, r2⟩ := trodAll_cons r1
  obtain ⟨v3, vs3, d3, ds3, p3, q3, hargs3, rfl, rfl, h3, r3⟩ := trodAll_cons r2
  obtain ⟨hlast, rfl, rfl⟩ := trodAll_nil r3
  obtain rfl : args = #[v0, v1, v2, v3] := by
    apply Array.toList_inj.1
    rw [hargs0, hargs1, hargs2, hargs3, hlast]
  obtain ⟨n0, rfl, rfl, rfl, wf0⟩ := open_int Try.underlying3 (hval 0 3 v0 rfl rfl) h0
  obtain ⟨t1, rfl, rfl, rfl, wt1⟩ := ChangeMaps.open_string Try.underlying9 (hval 1 9 v1 rfl rfl) h1
  obtain ⟨A2, len2, cap2, zs2, rfl, hr2, hl2, hlc2, hm2, hn2⟩ := open_intlist (hval 2 34 v2 rfl rfl) h2 (fun x hx => hlt x (List.mem_append_right _ (List.mem_append_right _ (List.mem_append_left _ hx))))
  obtain ⟨n3, rfl, rfl, rfl, wf3⟩ := open_int Try.underlying3 (hval 3 3 v3 rfl rfl) h3
  refine (octetTruncated_walk n0 t1 A2 len2 cap2 zs2 n3 W (bounds_i64 wf0) (bounds_i64 wf3) hr2 hl2).mono fun e W' ⟨he, hb⟩ => ?_
  subst he
  exact ⟨_, rfl, law_post Try.laidOut hW' rfl (by rw [Try.params8]; decide +kernel) 4 rfl Try.underlying4 rfl hb⟩

theorem octetTruncated_holds : Rows.OctetTruncatedSaid :=
  OpenClaim.holds_of_wide 8 Try.f8 rfl rfl rfl rfl rfl rfl rfl ⟨rfl, rfl, rfl, rfl, rfl⟩ rfl rfl rfl rfl rfl (by kernel_rfl) Try.func8 (by kernel_rfl)
    (of_decide_eq_true (by kernel_rfl)) (by unfold Func.isWrapper; first | (rw [if_pos (by decide +kernel)]; kernel_rfl) | (rw [if_neg (by decide +kernel)]; exact ⟨rfl, rfl⟩))
    (fun os started H enc _ => octetTruncated_lifted os started H enc)
end Go.Proofs.Ytnebjihjfghlfaa
