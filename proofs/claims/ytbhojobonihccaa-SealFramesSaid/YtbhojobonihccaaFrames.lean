/- SealFrames: for every byte slice and offset: Frame and Open answer what the document's own Frame and Open answer, errors included (slices of at most 4000 bytes, or longer than a frame may hold), and writing to the payload that Open answers leaves the argument as it was; nothing that was there has turned. No condition. -/
import Derived.Test.YtbhojobonihccaaRef
namespace Go.Proofs.Ytbhojobonihccaa
open Go.ChangeShapes Go.WideShapes Go.ChangeAt Go.RowKit

def fE (bs : List Nat) : Nat := if bs.length ≤ 65536 then 0 else 2
def fB (bs : List Nat) : List Nat := if bs.length ≤ 65536 then frameOf bs else []
def oE (bs : List Nat) (i : Int) : Nat := if i < 0 ∨ (bs.length : Int) < i then 1 else openE (bs.drop i.toNat)
def oN (bs : List Nat) (i : Int) : Nat := if oE bs i = 0 then i.toNat + 8 + be4 (bs.drop i.toNat) else 0
def oB (bs : List Nat) (i : Int) : List Nat := if oE bs i = 0 then body (bs.drop i.toNat) else []

/-- What a framing answers: a list of bytes and an error. -/
def FrameAns (w : World) (bs : List Nat) (e : Ending) (w' : World) : Prop :=
  ∃ A c, e = .returned (.tuple #[.slice A (fB bs).length c, .int .i64 (fE bs : Nat)]) ∧ Rd w'.heap.size w' A (fB bs) ∧ Below w.heap.size w w'
/-- What an opening answers: bytes in memory of the call's own, an offset, an error. -/
def OpenAns (w : World) (bs : List Nat) (i : Int) (e : Ending) (w' : World) : Prop :=
  ∃ v, e = .returned (.tuple #[v, .int .i64 (oN bs i : Nat), .int .i64 (oE bs i : Nat)]) ∧ Row w' w.heap.size v (oB bs i) ∧ Below w.heap.size w w'

theorem Row.nothing (w : World) (base : Nat) : Row w base (.slice Option.none 0 0) [] := ⟨by simp, by simpa [cellsOf] using World.ownsRow_nil _ _ _ _⟩

theorem oE_out {bs : List Nat} {i : Int} (h : i < 0 ∨ (bs.length : Int) < i) : oE bs i = 1 ∧ oN bs i = 0 ∧ oB bs i = [] := by
  have h1 : oE bs i = 1 := by rw [oE, if_pos h]
  exact ⟨h1, by rw [oN, h1, if_neg (by omega)], by rw [oB, h1, if_neg (by omega)]⟩
theorem oE_in {bs : List Nat} {k : Nat} (h : ¬ ((k : Int) < 0 ∨ (bs.length : Int) < (k : Int))) : oE bs (k : Int) = openE (bs.drop k) := by
  rw [oE, if_neg h, Int.toNat_natCast]
theorem oE_bad {bs : List Nat} {k : Nat} (h : oE bs (k : Int) ≠ 0) : oN bs (k : Int) = 0 ∧ oB bs (k : Int) = [] := by
  exact ⟨by rw [oN, if_neg h], by rw [oB, if_neg h]⟩
theorem oE_good {bs : List Nat} {k : Nat} (h : oE bs (k : Int) = 0) : oN bs (k : Int) = k + 8 + be4 (bs.drop k) ∧ oB bs (k : Int) = body (bs.drop k) := by
  exact ⟨by rw [oN, if_pos h, Int.toNat_natCast], by rw [oB, if_pos h, Int.toNat_natCast]⟩
theorem FrameAns.small {w w' : World} {bs : List Nat} {e : Ending} {v : Value} (h : bs.length ≤ 65536) (he : e = .returned (.tuple #[v, .int .i64 0])) (hrow : Row w' w.heap.size v (frameOf bs)) (hb : Below w.heap.size w w') : FrameAns w bs e w' := by
  obtain ⟨A1, c1, hv, _, _, hrd⟩ := hrow.shape
  have h1 : fB bs = frameOf bs := by rw [fB, if_pos h]
  have h2 : fE bs = 0 := by rw [fE, if_pos h]
  unfold FrameAns
  rw [h1, h2]
  exact ⟨A1, c1, by rw [he, hv]; rfl, hrd, hb⟩
theorem FrameAns.big {w w' : World} {bs : List Nat} {e : Ending} (h : ¬ bs.length ≤ 65536) (he : e = .returned (.tuple #[.slice Option.none 0 0, .int .i64 2])) (hw : w = w') : FrameAns w bs e w' := by
  have h1 : fB bs = [] := by rw [fB, if_neg h]
  have h2 : fE bs = 2 := by rw [fE, if_neg h]
  unfold FrameAns
  rw [h1, h2]
  exact ⟨Option.none, 0, by rw [he]; rfl, Rd.nil _ _ _, hw ▸ Below.refl _ w⟩
theorem OpenAns.out {w w' : World} {bs : List Nat} {i : Int} {e : Ending} (h : i < 0 ∨ (bs.length : Int) < i) (he : e = .returned (.tuple #[.slice Option.none 0 0, .int .i64 0, .int .i64 1])) (hw : w = w') : OpenAns w bs i e w' := by
  obtain ⟨h1, h2, h3⟩ := oE_out h
  unfold OpenAns
  rw [h1, h2, h3]
  exact ⟨.slice Option.none 0 0, by rw [he]; rfl, Row.nothing _ _, hw ▸ Below.refl _ w⟩
theorem OpenAns.bad {w w' : World} {bs : List Nat} {k : Nat} {e : Ending} (h : ¬ ((k : Int) < 0 ∨ (bs.length : Int) < (k : Int))) (hE : openE (bs.drop k) ≠ 0)
    (he : e = .returned (.tuple #[.slice Option.none 0 0, .int .i64 0, .int .i64 (openE (bs.drop k) : Nat)])) (hb : Below w.heap.size w w') : OpenAns w bs (k : Int) e w' := by
  have h1 := oE_in h
  obtain ⟨h2, h3⟩ := oE_bad (bs := bs) (k := k) (by rw [h1]; exact hE)
  unfold OpenAns
  rw [h1, h2, h3]
  exact ⟨.slice Option.none 0 0, by rw [he]; rfl, Row.nothing _ _, hb⟩
theorem OpenAns.good {w w' : World} {bs : List Nat} {k : Nat} {e : Ending} {v : Value} (h : ¬ ((k : Int) < 0 ∨ (bs.length : Int) < (k : Int))) (hE : openE (bs.drop k) = 0)
    (he : e = .returned (.tuple #[v, .int .i64 ((k + 8 + be4 (bs.drop k) : Nat) : Int), .int .i64 0])) (hrow : Row w' w.heap.size v (body (bs.drop k))) (hb : Below w.heap.size w w') : OpenAns w bs (k : Int) e w' := by
  have h1 := oE_in h
  obtain ⟨h2, h3⟩ := oE_good (bs := bs) (k := k) (h1.trans hE)
  unfold OpenAns
  rw [h1, h2, h3, hE]
  exact ⟨v, he, hrow, hb⟩

section
variable (B : Nat) (A : Option Addr) (len cap : Nat) (bs : List Nat) (w : World) (hr : Rd B w A bs) (hB : B ≤ w.heap.size) (hl : bs.length = len)
include hr hB hl

theorem Frame_ans (hn : A = Option.none → cap = 0) (hm : len ≤ maxLen) : Calls Try.prog 15 #[.slice A len cap] w (FrameAns w bs) := by
  by_cases h : len ≤ 65536
  · exact (Frame_ok B A len cap bs w hr hB hl hn h).mono fun e w' ⟨v, he, hrow, hb⟩ => FrameAns.small (by rw [hl]; exact h) he hrow hb
  · exact (Frame_big A len cap w (Nat.lt_of_not_le h) hm).mono fun e w' ⟨he, hw⟩ => FrameAns.big (by rw [hl]; exact h) he hw
theorem RFrame_ans (hn : A = Option.none → cap = 0) (hm : len ≤ maxLen) : Calls Try.prog 16 #[.slice A len cap] w (FrameAns w bs) := by
  by_cases h : len ≤ 65536
  · exact (RFrame_ok B A len cap bs w hr hB hl hn h).mono fun e w' ⟨v, he, hrow, hb⟩ => FrameAns.small (by rw [hl]; exact h) he hrow hb
  · exact (RFrame_big A len cap w (Nat.lt_of_not_le h) hm).mono fun e w' ⟨he, hw⟩ => FrameAns.big (by rw [hl]; exact h) he hw
theorem Open_ans (i : Int) (hcap : len ≤ cap) (hm : cap ≤ maxLen) : Calls Try.prog 18 #[.slice A len cap, .int .i64 i] w (OpenAns w bs i) := by
  by_cases hout : i < 0 ∨ (len : Int) < i
  · exact (Open_arg A len cap i w hout).mono fun e w' ⟨he, hw⟩ => OpenAns.out (by rw [hl]; exact hout) he hw
  · obtain ⟨k, rfl⟩ := Int.eq_ofNat_of_zero_le (show 0 ≤ i by omega)
    have hk : k ≤ len := by omega
    rw [← hl] at hout
    by_cases hE : openE (bs.drop k) = 0
    · exact (Open_good B A len cap k bs w hr hB hl hcap hm hk hE).mono fun e w' ⟨v, he, hrow, hb⟩ => OpenAns.good hout hE he hrow hb
    · exact (Open_err B A len cap k bs w hr hB hl hcap hm hk hE).mono fun e w' ⟨he, hb⟩ => OpenAns.bad hout hE he hb
omit hB in
theorem ROpen_ans (i : Int) (hcap : len ≤ cap) (hm : cap ≤ maxLen) : Calls Try.prog 19 #[.slice A len cap, .int .i64 i] w (OpenAns w bs i) := by
  by_cases hout : i < 0 ∨ (len : Int) < i
  · exact (ROpen_arg A len cap i w hout).mono fun e w' ⟨he, hw⟩ => OpenAns.out (by rw [hl]; exact hout) he hw
  · obtain ⟨k, rfl⟩ := Int.eq_ofNat_of_zero_le (show 0 ≤ i by omega)
    have hk : k ≤ len := by omega
    rw [← hl] at hout
    by_cases hE : openE (bs.drop k) = 0
    · exact (ROpen_good B A len cap k bs w hr hl hcap hm hk hE).mono fun e w' ⟨v, he, hrow, hb⟩ => OpenAns.good hout hE he hrow hb
    · exact (ROpen_err B A len cap k bs w hr hl hcap hm hk hE).mono fun e w' ⟨he, n, hb⟩ => OpenAns.bad hout hE he (hb ▸ below_drewN (Below.refl _ w) n)
end

set_option maxHeartbeats 2000000 in
theorem sealFrames_walk (A : Option Addr) (len cap : Nat) (bs : List Nat) (i : Int) (w : World) (hr : Rd w.heap.size w A bs) (hl : bs.length = len) (hcap : len ≤ cap) (hm : cap ≤ maxLen) (hn : A = Option.none → cap = 0) :
    Calls Try.prog 4 #[.slice A len cap, .int .i64 i] w fun e w' => e = .returned (.bool true) ∧ Below w.heap.size w w' := by
  have Hm := hm
  unfold maxLen at hm
  by_cases hskip : 4000 < len ∧ len ≤ 65536 ∨ 100000 < len
  · by_cases hbig : 100000 < len
    · clear hskip
      go_enter Try.func4, Try.ntmps4
      go_wp2_with fail
      refine (live_any w).mono ?_
      rintro e w1 ⟨rfl, hb1⟩
      go_wp2_with fail
      all_goals first | (exfalso; omega) | (go_ret; exact ⟨rfl, hb1⟩)
    · have h2 : 4000 < len := by omega
      have h3 : len ≤ 65536 := by omega
      clear hskip
      go_enter Try.func4, Try.ntmps4
      go_wp2_with fail
      refine (live_any w).mono ?_
      rintro e w1 ⟨rfl, hb1⟩
      go_wp2_with fail
      all_goals first | (exfalso; omega) | (go_ret; exact ⟨rfl, hb1⟩)
  · have Hl := Lib.hid hl
    have hle : len ≤ 100000 := by omega
    have hle2 : len ≤ 4000 ∨ 65536 < len := by omega
    clear hskip hl
    rcases hle2 with hs | hs
    all_goals
      go_enter Try.func4, Try.ntmps4
      go_wp2_with fail
      refine (live_any w).mono ?_
      rintro e w1 ⟨rfl, hb1⟩
      have hsz1 := hb1.size
      go_wp2_with fail
      refine (Frame_ans w.heap.size A len cap bs w1 (hr.below hb1 (Nat.le_refl _)) hsz1 Hl.out hn (by unfold maxLen; omega)).mono ?_
      rintro e w2 ⟨A2, c2, rfl, hrd2, hb2⟩
      have hb2' := hb1.trans (hb2.mono hsz1)
      have hsz2 := hb2'.size
      go_wp2_with fail
      refine (RFrame_ans w.heap.size A len cap bs w2 (hr.below hb2' (Nat.le_refl _)) hsz2 Hl.out hn (by unfold maxLen; omega)).mono ?_
      rintro e w3 ⟨A3, c3, rfl, hrd3, hb3⟩
      have hb3' := hb2'.trans (hb3.mono hsz2)
      have hsz3 := hb3'.size
      go_wp2_with fail
      refine (Copy_any w.heap.size A len cap bs w3 (hr.below hb3' (Nat.le_refl _)) Hl.out hn (by omega)).mono ?_
      rintro e w4 ⟨v4, rfl, hr4, hb4⟩
      have hb4' := hb3'.trans (hb4.mono hsz3)
      have hsz4 := hb4'.size
      obtain ⟨A4, c4, hv4, hc4, hm4, hrd4⟩ := hr4.shape
      subst hv4
      rw [Hl.out] at hc4 ⊢
      go_wp2_with fail
      refine (Open_ans w.heap.size A len cap bs w4 (hr.below hb4' (Nat.le_refl _)) hsz4 Hl.out i hcap Hm).mono ?_
      rintro e w5 ⟨v5, rfl, hr5, hb5⟩
      have hb5' := hb4'.trans (hb5.mono hsz4)
      have hsz5 := hb5'.size
      obtain ⟨A5, c5, hv5, hc5, hm5, hrd5⟩ := hr5.shape
      go_wp2_with fail
      refine (ROpen_ans w.heap.size A len cap bs w5 (hr.below hb5' (Nat.le_refl _)) Hl.out i hcap Hm).mono ?_
      rintro e w6 ⟨v6, rfl, hr6, hb6⟩
      have hb6' := hb5'.trans (hb6.mono hsz5)
      have hsz6 := hb6'.size
      obtain ⟨A6, c6, hv6, hc6, hm6, hrd6⟩ := hr6.shape
      subst hv5
      subst hv6
      generalize oN bs i = n1 at *
      generalize oE bs i = n2 at *
      generalize fE bs = n3 at *
      obtain ⟨X, hX⟩ : ∃ X, oB bs i = X := ⟨_, rfl⟩
      rw [hX] at hr5 hrd5 hrd6 hc5 hc6 ⊢
      clear hX
      obtain ⟨Y, hY⟩ : ∃ Y, fB bs = Y := ⟨_, rfl⟩
      rw [hY] at hrd2 hrd3 ⊢
      clear hY
      have hr5' := hr5.below hb6
      clear hr5 hr6 hr4
      have hsz56 := hb6.size
      have hsz45 := hb5.size
      have hrd2' := ((hrd2.below hb3 (Nat.le_refl _)).below hb4 (hb3.size)).below ((hb5.trans (hb6.mono hsz45)).mono (Nat.le_refl _)) (by have := hb3.size; have := hb4.size; omega)
      have hrd3' := (hrd3.below hb4 (Nat.le_refl _)).below (hb5.trans (hb6.mono hsz45)) (by have := hb4.size; omega)
      have hrd5' := hrd5.below hb6 (Nat.le_refl _)
      go_wp2_with fail
      refine (Same_any _ _ A2 A3 _ _ _ _ Y Y w6 hrd2' hrd3' rfl rfl).mono ?_
      rw [decide_eq_true rfl]
      rintro e w' ⟨rfl, rfl⟩
      go_wp2_with fail
      refine (Same_any _ _ A5 A6 _ _ _ _ X X w6 hrd5' hrd6 rfl rfl).mono ?_
      rw [decide_eq_true rfl]
      rintro e w' ⟨rfl, rfl⟩
      go_wp2_with fail
      have hlen : Hid (X.length = X.length) := rfl
      obtain ⟨n5, hn5⟩ : ∃ n5, X.length = n5 := ⟨_, rfl⟩
      rw [hn5] at hr5' hc5 ⊢
      have Hn5 := Lib.hid hn5
      have hbw : Below w4.heap.size w4 w6 := hb5.trans (hb6.mono hsz45)
      have hn63 : n5 ≤ 9223372036854775807 := by unfold maxLen at hm5; omega
      clear hlen hn5 hrd5 hrd5' hrd6 hrd2 hrd3 hrd2' hrd3'
      go_loopw [84] (fun j wr => ∃ (m : Nat) (Z : List Nat), m ≤ n5 ∧ j = .int .i64 m ∧ Hid (Z.length = n5) ∧ Row wr w4.heap.size (.slice A5 n5 c5) Z ∧ Below w4.heap.size w4 wr) (fun j _ => n5 - (intOf j).toNat)
      case atStart => exact ⟨0, X, by omega, rfl, Hn5.out, hr5', hbw⟩
      case round =>
        obtain ⟨m, Z, hmn, rfl, hZ, hrow, hbr⟩ := hrel
        have hszr := hbr.size
        by_cases hlt : m < n5
        · obtain ⟨g, cp, hv, hg⟩ := hrow.head (by rw [hZ.out]; omega)
          injection hv with hA _ _
          subst hA
          obtain ⟨hc, hf⟩ := hrow.at_ hZ.out hlt
          have hy := hrow.1
          have hyb : Z[m]?.getD 0 < 256 := by rw [List.getElem?_eq_getElem (by rw [hZ.out]; exact hlt)]; exact hy _ (List.getElem_mem _)
          have hst := hrow.store hZ.out m ((Z[m]?.getD 0 + 1) % 256) (by omega)
          have hZ2 : Hid ((Z.set m ((Z[m]?.getD 0 + 1) % 256)).length = n5) := by show _ = _; rw [List.length_set]; exact hZ.out
          generalize Z.set m ((Z[m]?.getD 0 + 1) % 256) = Z2 at *
          generalize Z[m]?.getD 0 = y at *
          obtain ⟨z, hz⟩ : ∃ z, (y + 1) % 256 = z := ⟨_, rfl⟩
          rw [hz] at hst
          have hb9 := hbr.setCell (p := ⟨g, m, Option.none⟩) hg (.int .u8 (z : Int))
          have hinc : ((y : Int) + 1) % 256 = (z : Int) := by omega
          clear hy hz
          go_wp2
          go_roundw
          case rel => exact ⟨m + 1, Z2, by omega, by go_num, hZ2, hst, hb9⟩
          case measure => simp [intOf]; omega
        · obtain rfl : m = n5 := by omega
          have hbw2 : Below w.heap.size w wr := hb4'.trans (hbr.mono hsz4)
          have s1 := hr.below hbw2 (Nat.le_refl _)
          have s2 := hrd4.below hbr (Nat.le_refl _)
          go_wp2_with fail
          refine (Same_any _ _ A A4 _ _ _ _ bs bs wr s1 s2 Hl.out Hl.out).mono ?_
          rw [decide_eq_true rfl]
          rintro e w' ⟨rfl, rfl⟩
          go_wp2
          go_ret
          exact ⟨rfl, hbw2⟩

set_option maxRecDepth 100000 in
theorem sealFrames_lifted (os : Os) (started : os.Started) (H : Type) (enc : TypeId × Value → H) :
    ReturnsInHanded {} Try.checked os 4 .any (Rows.sealFramesSpec.pre6 enc Try.prog Try.f4 Rows.sealFramesRow.domain false) (Rows.sealFramesSpec.post enc Try.prog Try.f4 false true false false) := by
  refine returnsInHanded_of_change (C := Try.checked) Try.own started (by kernel_rfl) Try.func4
    (ChangeSpec.witness6 (enc := enc) (C := Try.checked) false ⟨#[], #[.slice Option.none 0 0, .int .i64 0], []⟩ 8 (by kernel_rfl) (by kernel_rfl) (by kernel_rfl) (by kernel_rfl)) ?_
  intro W base args ds gs before hval0 hW _ _
  have hval : ∀ (j : Nat) t v, Try.f4.params[j]? = some t → args[j]? = some v → Value.okWide Try.prog W .any base t v := hval0
  have hW' := hW
  obtain ⟨p, q, hA0, hV, rfl, _, _⟩ := hW
  have hA : DataW.TrodAll enc Try.prog W 0 (fun _ => true) true Try.f4.params.toList args.toList ds p := hA0
  rw [Try.params4] at hA hval
  have hlt : ∀ x ∈ p, x.block < W.heap.size := fun x hx => hW'.lt x (List.mem_append_left _ hx)
  obtain ⟨rfl, rfl⟩ := trodVars_none hV
  clear hA0 hval0
  obtain ⟨v0, vs0, d0, ds0, p0, q0, hargs0, rfl, rfl, h0, r0⟩ := trodAll_cons hA
  obtain ⟨v1, vs1, d1, ds1, p1, q1, hargs1, rfl, rfl, h1, r1⟩ := trodAll_cons r0
  obtain ⟨hlast, rfl, rfl⟩ := trodAll_nil r1
  obtain rfl : args = #[v0, v1] := by
    apply Array.toList_inj.1
    rw [hargs0, hargs1, hlast]
  obtain ⟨A0, len0, cap0, bs0, rfl, hr0, hl0, hlc0, hm0, hn0⟩ := open_bytes (hval 0 22 v0 rfl rfl) h0 (fun x hx => hlt x (List.mem_append_left _ hx))
  obtain ⟨n1, rfl, rfl, rfl, wf1⟩ := open_int Try.underlying3 (hval 1 3 v1 rfl rfl) h1
  refine (sealFrames_walk A0 len0 cap0 bs0 n1 W hr0 hl0 hlc0 hm0 hn0).mono fun e W' ⟨he, hb⟩ => ?_
  subst he
  exact ⟨_, rfl, law_post Try.laidOut hW' rfl (by rw [Try.params4]; decide +kernel) 4 rfl Try.underlying4 rfl hb⟩

theorem sealFrames_holds : Rows.SealFramesSaid :=
  OpenClaim.holds_of_wide 4 Try.f4 rfl rfl rfl rfl rfl rfl rfl ⟨rfl, rfl, rfl, rfl, rfl⟩ rfl rfl rfl rfl rfl (by kernel_rfl) Try.func4 (by kernel_rfl)
    (of_decide_eq_true (by kernel_rfl)) (by unfold Func.isWrapper; first | (rw [if_pos (by decide +kernel)]; kernel_rfl) | (rw [if_neg (by decide +kernel)]; exact ⟨rfl, rfl⟩))
    (fun os started H enc _ => sealFrames_lifted os started H enc)
end Go.Proofs.Ytbhojobonihccaa
