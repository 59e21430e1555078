/- SealOne: for every byte slice and offset: where Open answers a payload, framing that payload gives back just the bytes from which it was read; where it answers an error, its other results are empty; nothing that was there has turned. No condition. -/
import Derived.Test.YtbhojobonihccaaLaw
namespace Go.Proofs.Ytbhojobonihccaa
open Go.ChangeShapes Go.WideShapes Go.ChangeAt Go.RowKit

theorem w4_be4 (ds : List Nat) (h : 4 ≤ ds.length) (hb : ∀ c ∈ ds, c < 256) : w4 (be4 ds) = ds.take 4 := by
  match ds, h with
  | a :: b :: c :: d :: r, _ =>
    have ha := hb a (by simp)
    have hb' := hb b (by simp)
    have hc := hb c (by simp)
    have hd := hb d (by simp)
    simp only [w4, be4, List.take, List.getElem?_cons_zero, List.getElem?_cons_succ, Option.getD_some]
    rw [show (a * 16777216 + b * 65536 + c * 256 + d) / 16777216 % 256 = a by omega, show (a * 16777216 + b * 65536 + c * 256 + d) / 65536 % 256 = b by omega,
      show (a * 16777216 + b * 65536 + c * 256 + d) / 256 % 256 = c by omega, show (a * 16777216 + b * 65536 + c * 256 + d) % 256 = d by omega]
theorem reframed (ds : List Nat) (hb : ∀ c ∈ ds, c < 256) (hE : openE ds = 0) : frameOf (body ds) = ds.take (8 + be4 ds) := by
  obtain ⟨h8, h65, hle, hcrc⟩ := openE_zero hE
  have hl := body_length hle
  unfold frameOf
  rw [hl, hcrc, w4_be4 ds (by omega) hb, w4_be4 (ds.drop 4) (by rw [List.length_drop]; omega) (fun c hc => hb c (List.mem_of_mem_drop hc))]
  unfold body
  rw [show 8 + be4 ds = (4 + 4) + be4 ds by omega, List.take_add, List.take_add]

theorem win_length (ds : List Nat) (n k : Nat) (h : 8 + n ≤ ds.length) : (ds.take (8 + n)).length = k + 8 + n - k := by rw [List.length_take]; omega
theorem add_le {n m : Nat} (h : n ≤ m - 8) (h8 : 8 ≤ m) : 8 + n ≤ m := by omega
theorem run_window (w : World) (A : Option Addr) (len cap k h : Nat) (hk : k ≤ h) (hh : h ≤ cap) :
    (Instr.slice 22 (.slice A len cap) (some (.int .i64 (k : Int))) (some (.int .i64 (h : Int))) Option.none).run Try.prog w = .ok (.slice (cutA cap k A) (h - k) (cap - k)) w := by
  rw [run_slice_lh (P := Try.prog) w 22 A len cap elem22 .i64 .i64 (k : Int) (h : Int) (by omega) (by omega) (by omega), size22]
  simp [Result.andThen, sliced, cutA]
theorem add_in {n k len : Nat} (hk : k ≤ len) (h : n ≤ len - k - 8) (h8 : 8 ≤ len - k) : k + 8 + n ≤ len := by omega
theorem run_window' (w : World) (A : Option Addr) (len cap k n : Nat) (hh : k + 8 + n ≤ cap) :
    (Instr.slice 22 (.slice A len cap) (some (.int .i64 (k : Int))) (some (.int .i64 ((k : Int) + 8 + (n : Int)))) Option.none).run Try.prog w = .ok (.slice (cutA cap k A) (k + 8 + n - k) (cap - k)) w := by
  rw [show ((k : Int) + 8 + (n : Int)) = ((k + 8 + n : Nat) : Int) by omega]
  exact run_window w A len cap k _ (by omega) hh
theorem Rd.window {B : Nat} {w : World} {A : Option Addr} {bs : List Nat} (hr : Rd B w A bs) {k cap : Nat} (m : Nat) (hc : bs.length ≤ cap) : Rd B w (cutA cap k A) ((bs.drop k).take m) := (hr.cut hc).take m

theorem Row.nil_cap {w : World} {base n c : Nat} {A : Option Addr} {v : Value} {bs : List Nat} (h : Row w base v bs) (hv : v = .slice A n c) : A = Option.none → c = 0 := by
  intro hA
  subst hA
  rcases h.2.2 with ⟨h2, _⟩ | ⟨g, cap, cur, h2, _⟩
  · rw [hv] at h2; injection h2
  · rw [hv] at h2; injection h2 with h3; cases h3

set_option maxHeartbeats 1000000 in
theorem sealOne_walk (B : Nat) (A : Option Addr) (len cap : Nat) (bs : List Nat) (at_ : Int) (w : World) (hr : Rd B w A bs) (hB : B ≤ w.heap.size) (hl : bs.length = len) (hcap : len ≤ cap) (hm : cap ≤ maxLen) :
    Calls Try.prog 11 #[.slice A len cap, .int .i64 at_] w fun e w' => e = .returned (.bool true) ∧ Below w.heap.size w w' := by
  have Hm := hm
  unfold maxLen at hm
  by_cases hbig : 4000 < len
  · go_enter Try.func11, Try.ntmps11
    go_wp2_with fail
    refine (live_any w).mono ?_
    rintro e w1 ⟨rfl, hb1⟩
    go_wp2
    go_ret
    exact ⟨rfl, hb1⟩
  · by_cases hin : 0 ≤ at_ ∧ at_ ≤ len
    · obtain ⟨k, rfl⟩ := Int.eq_ofNat_of_zero_le hin.1
      have hk : k ≤ len := by omega
      clear hin
      by_cases hE : openE (bs.drop k) = 0
      · have hd : Hid ((bs.drop k).length = len - k) := by show _ = _; rw [List.length_drop]; omega
        obtain ⟨h8, h65, hle, -⟩ := openE_zero hE
        rw [hd.out] at h8 hle
        have HE := Lib.hid hE
        have Hl := Lib.hid hl
        have hfr : Hid (frameOf (body (bs.drop k)) = (bs.drop k).take (8 + be4 (bs.drop k))) := reframed _ (fun c hc => hr.1 c (List.mem_of_mem_drop hc)) hE
        have hbl : Hid ((body (bs.drop k)).length = be4 (bs.drop k)) := body_length (by rw [hd.out]; exact hle)
        have hfl : Hid (((bs.drop k).take (8 + be4 (bs.drop k))).length = k + 8 + be4 (bs.drop k) - k) := win_length _ _ _ (by rw [hd.out]; exact add_le hle h8)
        obtain ⟨n, hn⟩ : ∃ n, be4 (bs.drop k) = n := ⟨_, rfl⟩
        rw [hn] at h65 hle hfr hbl hfl
        have hkn : k + 8 + n ≤ len := add_in hk hle h8
        have Hn := Lib.hid hn
        clear hE hl hn
        have hwin := fun w => run_window' w A len cap k n (Nat.le_trans hkn hcap)
        have hcw : bs.length ≤ cap := by rw [Hl.out]; exact hcap
        have hrw := fun w' (hr' : Rd B w' A bs) => hr'.window (k := k) (8 + n) hcw
        go_enter Try.func11, Try.ntmps11
        go_wp2_with fail
        refine (live_any w).mono ?_
        rintro e w1 ⟨rfl, hb1⟩
        have hsz1 := hb1.size
        have hr1 := hr.below hb1 hB
        go_wp2_with fail
        refine (Open_good B A len cap k bs w1 hr1 (by omega) Hl.out hcap Hm hk HE.out).mono ?_
        rw [Hn.out]
        rintro e w2 ⟨v2, rfl, hr2, hb2⟩
        have hsz2 := hb2.size
        obtain ⟨A2, cap2, hv, hc2, hm2, hrd2⟩ := hr2.shape
        have hn2 := hr2.nil_cap hv
        subst hv
        rw [hbl.out] at hc2 ⊢
        have hrw2 := hrw w2 (hr1.below hb2 (by omega))
        clear hrw
        generalize body (bs.drop k) = bd at *
        generalize (bs.drop k).take (8 + n) = win at *
        clear hr hr2 hd HE Hl Hn hcw hr1
        go_wp2_with fail
        refine (Frame_ok _ A2 n cap2 bd w2 hrd2 (Nat.le_refl _) hbl.out hn2 (by omega)).mono ?_
        rintro e w3 ⟨v3, rfl, hr3, hb3⟩
        have hsz3 := hb3.size
        rw [hfr.out] at hr3
        obtain ⟨A3, cap3, hv, hc3, hm3, hrd3⟩ := hr3.shape
        subst hv
        rw [hfl.out] at hc3 ⊢
        go_wp2_with fail
        refine (Same_any _ B A3 _ _ cap3 _ _ win win w3 hrd3 (hrw2.below hb3 (by omega)) hfl.out hfl.out).mono ?_
        rw [decide_eq_true rfl]
        rintro e w4 ⟨rfl, rfl⟩
        go_wp2
        go_ret
        exact ⟨rfl, hb1.trans ((hb2.mono hsz1).trans (hb3.mono (by omega)))⟩
      · have Hl := Lib.hid hl
        have HE := Lib.hid hE
        have hne : ((openE (bs.drop k) : Int) != 0) = true := by rw [bne_iff_ne]; omega
        clear hl hE
        go_enter Try.func11, Try.ntmps11
        go_wp2_with fail
        refine (live_any w).mono ?_
        rintro e w1 ⟨rfl, hb1⟩
        have hsz1 := hb1.size
        go_wp2_with fail
        refine (Open_err B A len cap k bs w1 (hr.below hb1 hB) (by omega) Hl.out hcap Hm hk HE.out).mono ?_
        generalize openE (bs.drop k) = n at *
        rintro e w2 ⟨rfl, hb2⟩
        go_wp2
        go_ret
        exact ⟨rfl, hb1.trans (hb2.mono hsz1)⟩
    · have hout : Hid (at_ < 0 ∨ (len : Int) < at_) := by show _ ∨ _; omega
      clear hin
      go_enter Try.func11, Try.ntmps11
      go_wp2_with fail
      refine (live_any w).mono ?_
      rintro e w1 ⟨rfl, hb1⟩
      go_wp2_with fail
      refine (Open_arg A len cap at_ w1 hout.out).mono ?_
      rintro e w2 ⟨rfl, rfl⟩
      go_wp2
      go_ret
      exact ⟨rfl, hb1⟩

set_option maxRecDepth 100000 in
theorem sealOne_lifted (os : Os) (started : os.Started) (H : Type) (enc : TypeId × Value → H) :
    ReturnsInHanded {} Try.checked os 11 .any (Rows.sealOneSpec.pre6 enc Try.prog Try.f11 Rows.sealOneRow.domain false) (Rows.sealOneSpec.post enc Try.prog Try.f11 false true false false) := by
  refine returnsInHanded_of_change (C := Try.checked) Try.own started (by kernel_rfl) Try.func11
    (ChangeSpec.witness6 (enc := enc) (C := Try.checked) false ⟨#[], #[.slice Option.none 0 0, .int .i64 0], []⟩ 8 (by kernel_rfl) (by kernel_rfl) (by kernel_rfl) (by kernel_rfl)) ?_
  intro W base args ds gs before hval0 hW _ _
  have hval : ∀ (j : Nat) t v, Try.f11.params[j]? = some t → args[j]? = some v → Value.okWide Try.prog W .any base t v := hval0
  have hW' := hW
  obtain ⟨p, q, hA0, hV, rfl, _, _⟩ := hW
  have hA : DataW.TrodAll enc Try.prog W 0 (fun _ => true) true Try.f11.params.toList args.toList ds p := hA0
  rw [Try.params11] at hA hval
  have hlt : ∀ x ∈ p, x.block < W.heap.size := fun x hx => hW'.lt x (List.mem_append_left _ hx)
  obtain ⟨rfl, rfl⟩ := trodVars_none hV
  clear hA0 hval0
  obtain ⟨v0, vs0, d0, ds0, p0, q0, hargs0, rfl, rfl, h0, r0⟩ := trodAll_cons hA
  obtain ⟨v1, vs1, d1, ds1, p1, q1, hargs1, rfl, rfl, h1, r1⟩ := trodAll_cons r0
  obtain ⟨hlast, rfl, rfl⟩ := trodAll_nil r1
  obtain rfl : args = #[v0, v1] := by
    apply Array.toList_inj.1
    rw [hargs0, hargs1, hlast]
  obtain ⟨A0, len0, cap0, bs0, rfl, hr0, hl0, hlc0, hm0, hn0⟩ := open_bytes (hval 0 22 v0 rfl rfl) h0 (fun x hx => hlt x (List.mem_append_left _ hx))
  obtain ⟨n1, rfl, rfl, rfl, wf1⟩ := open_int Try.underlying3 (hval 1 3 v1 rfl rfl) h1
  refine (sealOne_walk W.heap.size A0 len0 cap0 bs0 n1 W hr0 (Nat.le_refl _) hl0 hlc0 hm0).mono fun e W' ⟨he, hb⟩ => ?_
  subst he
  exact ⟨_, rfl, law_post Try.laidOut hW' rfl (by rw [Try.params11]; decide +kernel) 4 rfl Try.underlying4 rfl hb⟩

theorem sealOne_holds : Rows.SealOneSaid :=
  OpenClaim.holds_of_wide 11 Try.f11 rfl rfl rfl rfl rfl rfl rfl ⟨rfl, rfl, rfl, rfl, rfl⟩ rfl rfl rfl rfl rfl (by kernel_rfl) Try.func11 (by kernel_rfl)
    (of_decide_eq_true (by kernel_rfl)) (by unfold Func.isWrapper; first | (rw [if_pos (by decide +kernel)]; kernel_rfl) | (rw [if_neg (by decide +kernel)]; exact ⟨rfl, rfl⟩))
    (fun os started H enc _ => sealOne_lifted os started H enc)
end Go.Proofs.Ytbhojobonihccaa
