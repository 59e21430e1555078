/- The walks of the plain Frame and the plain Open of the document's own answers. -/
import Derived.Test.YtbhojobonihccaaOne
import Derived.Test.YtbhojobonihccaaBurst
namespace Go.Proofs.Ytbhojobonihccaa
open Go.RowKit

theorem run_win (w : World) (A : Option Addr) (len cap : Nat) (lo hi : Int) (l n : Nat) (hlo : lo = (l : Int)) (hhi : hi = ((l + n : Nat) : Int)) (hh : l + n ≤ cap) :
    (Instr.slice 22 (.slice A len cap) (some (.int .i64 lo)) (some (.int .i64 hi)) Option.none).run Try.prog w = .ok (.slice (cutA cap l A) n (cap - l)) w := by
  subst hlo; subst hhi
  rw [run_window w A len cap l (l + n) (by omega) hh, Nat.add_sub_cancel_left]

theorem sum4 (x0 x1 x2 x3 : Nat) : (((x0 : Int) * 256 + (x1 : Int)) * 256 + (x2 : Int)) * 256 + (x3 : Int) = ((x0 * 16777216 + x1 * 65536 + x2 * 256 + x3 : Nat) : Int) := by omega
set_option maxHeartbeats 400000 in
theorem number_any (B : Nat) (A : Option Addr) (len cap : Nat) (bs : List Nat) (w : World) (hr : Rd B w A bs) (hl : bs.length = len) (h4 : 4 ≤ len) :
    Calls Try.prog 33 #[.slice A len cap] w fun e w' => e = .returned (.int .u32 (be4 bs : Nat)) ∧ ∃ n, w' = w.drewN n := by
  obtain ⟨b, off, rfl, hbB, hc⟩ := hr.2 (by omega)
  have h0 := hc 0 (by omega)
  have h1 := hc 1 (by omega)
  have h2 := hc 2 (by omega)
  have h3 := hc 3 (by omega)
  have b0 := hr.byte 0
  have b1 := hr.byte 1
  have b2 := hr.byte 2
  have b3 := hr.byte 3
  have hbe : Hid (be4 bs = bs[0]?.getD 0 * 16777216 + bs[1]?.getD 0 * 65536 + bs[2]?.getD 0 * 256 + bs[3]?.getD 0) := rfl
  generalize bs[0]?.getD 0 = x0 at *
  generalize bs[1]?.getD 0 = x1 at *
  generalize bs[2]?.getD 0 = x2 at *
  generalize bs[3]?.getD 0 = x3 at *
  clear hc hr hl
  rw [Nat.add_zero] at h0
  go_enter Try.func33, Try.ntmps33
  go_wp2
  go_quiet (fail)
  go_wp2
  go_ret
  refine ⟨?_, nq, rfl⟩
  rw [hbe.out]
  show Ending.returned (Value.int IntKind.u32 _) = _
  rw [sum4]

theorem four_any (x : Nat) (w : World) (hx : x < 4294967296) :
    Calls Try.prog 30 #[.int .u32 (x : Int)] w fun e w' => ∃ v, e = .returned v ∧ Row w' w.heap.size v (w4 x) ∧ Below w.heap.size w w' := by
  go_enter Try.func30, Try.ntmps30
  go_wp2
  go_ret
  refine ⟨_, rfl, ⟨w4_lt x, ?_⟩, (Below.refl _ w).alloc (Nat.le_refl _) _⟩
  have e : cellsOf (w4 x) = [Value.int IntKind.u8 ((x : Int) / 16777216), Value.int IntKind.u8 ((x : Int) / 65536 % 256), Value.int IntKind.u8 ((x : Int) / 256 % 256), Value.int IntKind.u8 ((x : Int) % 256)] := by
    simp [cellsOf, w4]; omega
  have h := World.ownsRow_lit (base := w.heap.size) (e := 5) (size := 1) w (cellsOf (w4 x)).toArray 4 (Nat.le_refl _) (by unfold maxLen; omega) (by simp [cellsOf, w4])
  rw [e] at h ⊢
  exact h

theorem RFrame_big (A : Option Addr) (len cap : Nat) (w : World) (hbig : 65536 < len) (hm : len ≤ maxLen) :
    Calls Try.prog 16 #[.slice A len cap] w fun e w' => e = .returned (.tuple #[.slice Option.none 0 0, .int .i64 2]) ∧ w = w' := by
  unfold maxLen at hm
  go_enter Try.func16, Try.ntmps16
  go_wp2
  go_ret2
  exact ⟨rfl, rfl⟩

set_option maxHeartbeats 1000000 in
theorem RFrame_ok (B : Nat) (A : Option Addr) (len cap : Nat) (bs : List Nat) (w : World) (hr : Rd B w A bs) (hB : B ≤ w.heap.size) (hl : bs.length = len) (hn : A = Option.none → cap = 0) (hsmall : len ≤ 65536) :
    Calls Try.prog 16 #[.slice A len cap] w fun e w' => ∃ v, e = .returned (.tuple #[v, .int .i64 0]) ∧ Row w' w.heap.size v (frameOf bs) ∧ Below w.heap.size w w' := by
  have H := Lib.hid hl
  clear hl
  have hcrc := Crc.crc_lt bs hr.1
  go_enter Try.func16, Try.ntmps16
  go_wp2_with fail
  refine (four_any len w (by omega)).mono ?_
  rintro e w1 ⟨v1, rfl, hr1, hb1⟩
  have hsz1 := hb1.size
  go_wp2_with fail
  refine (refSum_any B A len cap bs w1 (hr.below hb1 hB) H.out (by unfold maxLen; omega)).mono ?_
  rintro e w' ⟨rfl, rfl⟩
  go_wp2_with fail
  refine (four_any _ w1 hcrc).mono ?_
  rintro e w2 ⟨v2, rfl, hr2, hb2⟩
  have hsz2 := hb2.size
  have hb2' := hb1.trans (hb2.mono hsz1)
  have hr1' := hr1.below hb2
  obtain ⟨A2, c2, hv2, hcc2, hm2, hrd2⟩ := hr2.shape
  have hn2 := hr2.nil_cap hv2
  subst hv2
  have l2 : (w4 (Crc.crc bs)).length = 4 := rfl
  rw [l2] at hcc2
  have key : ∀ (P Q : Prop), P → Q → P ∧ Q := fun _ _ a b => ⟨a, b⟩
  clear key
  go_wp2_with (first
    | (at_builtin; refine wpList_append_row rfl _ _ rfl w.heap.size v1 (w4 len) rfl hr1' w2.heap.size A2 4 c2 (w4 (Crc.crc bs)) rfl hrd2 rfl hn2 ?c1 (by omega) ?_))
  case c1 => simp [w4]
  intro v3 w3 hr3 hg3
  have hb3 := hb2'.grown hg3 (by omega) (fun k hk => (hr1'.2.lt k hk).1)
  have hsz3 := hb3.size
  go_wp2_with (at_builtin; refine wpList_append_row rfl _ _ rfl w.heap.size v3 _ rfl hr3 B A len cap bs rfl (hr.below hb3 hB) H.out hn ?d1 hsz3 ?_)
  case d1 => simp [w4]; omega
  intro v5 w5 hr5 hg5
  have hb5 := hb3.grown hg5 hsz3 (fun k hk => (hr3.2.lt k hk).1)
  go_wp2
  go_ret2
  refine ⟨_, rfl, ?_, hb5⟩
  unfold frameOf
  rw [H.out]
  exact hr5

/-! ### The plain Open -/
theorem ROpen_arg (A : Option Addr) (len cap : Nat) (at_ : Int) (w : World) (hout : at_ < 0 ∨ (len : Int) < at_) :
    Calls Try.prog 19 #[.slice A len cap, .int .i64 at_] w fun e w' => e = .returned (.tuple #[.slice Option.none 0 0, .int .i64 0, .int .i64 1]) ∧ w = w' := by
  by_cases h0 : at_ < 0
  · go_enter Try.func19, Try.ntmps19
    go_wp2
    go_ret3
    exact ⟨rfl, rfl⟩
  · have h1 : (len : Int) < at_ := by omega
    clear hout
    go_enter Try.func19, Try.ntmps19
    go_wp2
    go_ret3
    exact ⟨rfl, rfl⟩

theorem be4_take (ds : List Nat) : be4 (ds.take 4) = be4 ds := by
  unfold be4
  rw [List.getElem?_take_of_lt (by omega), List.getElem?_take_of_lt (by omega), List.getElem?_take_of_lt (by omega), List.getElem?_take_of_lt (by omega)]

section
variable (B : Nat) (A : Option Addr) (len cap k : Nat) (bs : List Nat) (w : World)

theorem ROpen_short (hk : k ≤ len) (hm : len ≤ maxLen) (h8 : len - k < 8) :
    Calls Try.prog 19 #[.slice A len cap, .int .i64 (k : Int)] w fun e w' => e = .returned (.tuple #[.slice Option.none 0 0, .int .i64 0, .int .i64 10]) ∧ w = w' := by
  unfold maxLen at hm
  go_enter Try.func19, Try.ntmps19
  go_wp2
  go_ret3
  exact ⟨rfl, rfl⟩

/-- What the windows of a frame at k hold. -/
theorem win4 (hr : Rd B w A bs) (hl : bs.length = len) (hcap : len ≤ cap) (h8 : 8 ≤ len - k) (j : Nat) (hj : j ≤ 4) : Rd B w (cutA cap (k + j) A) ((bs.drop (k + j)).take 4) ∧ ((bs.drop (k + j)).take 4).length = 4 :=
  ⟨hr.window 4 (by omega), by rw [List.length_take, List.length_drop]; omega⟩

theorem ROpen_form (hr : Rd B w A bs) (hl : bs.length = len) (hcap : len ≤ cap) (hm : cap ≤ maxLen) (h8 : 8 ≤ len - k) (hn : 65536 < be4 (bs.drop k)) :
    Calls Try.prog 19 #[.slice A len cap, .int .i64 (k : Int)] w fun e w' => e = .returned (.tuple #[.slice Option.none 0 0, .int .i64 0, .int .i64 11]) ∧ ∃ n, w' = w.drewN n := by
  unfold maxLen at hm
  obtain ⟨hw4, hl4⟩ := win4 B A len cap k bs w hr hl hcap h8 0 (by omega)
  have hwin := fun w => run_win w A len cap (k : Int) ((k : Int) + 4) k 4 rfl (by omega) (by omega)
  rw [Nat.add_zero] at hw4 hl4
  have hbt : Hid (be4 ((bs.drop k).take 4) = be4 (bs.drop k)) := be4_take _
  have hlt := be4_lt (fun c hc => hr.1 c (List.mem_of_mem_drop hc) : ∀ c ∈ bs.drop k, c < 256)
  generalize be4 (bs.drop k) = n at *
  go_enter Try.func19, Try.ntmps19
  go_wp2_with fail
  refine (number_any B _ _ _ _ _ hw4 hl4 (by omega)).mono ?_
  rw [hbt.out]
  rintro e w' ⟨rfl, kd, rfl⟩
  go_wp2
  go_ret3
  exact ⟨rfl, kd, rfl⟩

theorem ROpen_short2 (hr : Rd B w A bs) (hl : bs.length = len) (hcap : len ≤ cap) (hm : cap ≤ maxLen) (h8 : 8 ≤ len - k) (hn : be4 (bs.drop k) ≤ 65536) (hs : len - k - 8 < be4 (bs.drop k)) :
    Calls Try.prog 19 #[.slice A len cap, .int .i64 (k : Int)] w fun e w' => e = .returned (.tuple #[.slice Option.none 0 0, .int .i64 0, .int .i64 10]) ∧ ∃ n, w' = w.drewN n := by
  unfold maxLen at hm
  obtain ⟨hw4, hl4⟩ := win4 B A len cap k bs w hr hl hcap h8 0 (by omega)
  have hwin := fun w => run_win w A len cap (k : Int) ((k : Int) + 4) k 4 rfl (by omega) (by omega)
  rw [Nat.add_zero] at hw4 hl4
  have hbt : Hid (be4 ((bs.drop k).take 4) = be4 (bs.drop k)) := be4_take _
  generalize be4 (bs.drop k) = n at *
  go_enter Try.func19, Try.ntmps19
  go_wp2_with fail
  refine (number_any B _ _ _ _ _ hw4 hl4 (by omega)).mono ?_
  rw [hbt.out]
  rintro e w' ⟨rfl, kd, rfl⟩
  go_wp2
  go_ret3
  exact ⟨rfl, kd, rfl⟩

set_option maxHeartbeats 1000000 in
theorem ROpen_sum (hr : Rd B w A bs) (hl : bs.length = len) (hcap : len ≤ cap) (hm : cap ≤ maxLen) (h8 : 8 ≤ len - k) (hn : be4 (bs.drop k) ≤ 65536) (hs : be4 (bs.drop k) ≤ len - k - 8)
    (hne : Crc.crc (body (bs.drop k)) ≠ be4 ((bs.drop k).drop 4)) :
    Calls Try.prog 19 #[.slice A len cap, .int .i64 (k : Int)] w fun e w' => e = .returned (.tuple #[.slice Option.none 0 0, .int .i64 0, .int .i64 20]) ∧ ∃ n, w' = w.drewN n := by
  unfold maxLen at hm
  obtain ⟨hw4, hl4⟩ := win4 B A len cap k bs w hr hl hcap h8 0 (by omega)
  obtain ⟨hw8, hl8⟩ := win4 B A len cap k bs w hr hl hcap h8 4 (by omega)
  have hwin := fun w => run_win w A len cap (k : Int) ((k : Int) + 4) k 4 rfl (by omega) (by omega)
  have hwin4 := fun w => run_win w A len cap ((k : Int) + 4) ((k : Int) + 8) (k + 4) 4 (by omega) (by omega) (by omega)
  rw [Nat.add_zero] at hw4 hl4
  have hbt : Hid (be4 ((bs.drop k).take 4) = be4 (bs.drop k)) := be4_take _
  have hbt8 : be4 ((bs.drop (k + 4)).take 4) = be4 ((bs.drop k).drop 4) := by rw [be4_take, List.drop_drop]
  have hbody : Rd B w (cutA cap (k + 8) A) (body (bs.drop k)) := by
    have := hr.window (k := k + 8) (be4 (bs.drop k)) (by omega : bs.length ≤ cap)
    unfold body
    rw [List.drop_drop]
    exact this
  have hbl : (body (bs.drop k)).length = be4 (bs.drop k) := body_length (by rw [List.length_drop]; omega)
  have hbne : ((Crc.crc (body (bs.drop k)) : Int) != (be4 ((bs.drop (k + 4)).take 4) : Int)) = true := by rw [hbt8, bne_iff_ne]; omega
  clear hne hbt8
  generalize body (bs.drop k) = bd at *
  generalize be4 (bs.drop k) = n at *
  have hwinb := fun w => run_win w A len cap ((k : Int) + 8) ((k : Int) + 8 + (n : Int)) (k + 8) n (by omega) (by omega) (by omega)
  have hbl2 : Hid (bd.length = n) := hbl
  have Hl4 := Lib.hid hl4
  have Hl8 := Lib.hid hl8
  clear hbl hl hl4 hl8
  go_enter Try.func19, Try.ntmps19
  go_wp2_with fail
  refine (number_any B _ _ _ _ _ hw4 Hl4.out (by omega)).mono ?_
  rw [hbt.out]
  rintro e w' ⟨rfl, kd, rfl⟩
  go_wp2_with fail
  go_quiet ((first | (go_at_call 14; exact quiet_still (refSum_any B _ _ _ bd _ hbody hbl2.out (by unfold maxLen; omega))) | (go_at_call 33; exact quiet_more (number_any B _ _ _ _ _ hw8 Hl8.out (by omega)))))
  go_wp2
  go_ret3
  exact ⟨rfl, _, World.drewN_drewN _ _ _⟩
end

theorem ROpen_err (B : Nat) (A : Option Addr) (len cap k : Nat) (bs : List Nat) (w : World) (hr : Rd B w A bs) (hl : bs.length = len) (hcap : len ≤ cap) (hm : cap ≤ maxLen) (hk : k ≤ len) (hE : openE (bs.drop k) ≠ 0) :
    Calls Try.prog 19 #[.slice A len cap, .int .i64 (k : Int)] w fun e w' => e = .returned (.tuple #[.slice Option.none 0 0, .int .i64 0, .int .i64 (openE (bs.drop k) : Nat)]) ∧ ∃ n, w' = w.drewN n := by
  have hd : (bs.drop k).length = len - k := by rw [List.length_drop]; omega
  unfold openE at hE ⊢
  rw [hd] at hE ⊢
  by_cases h1 : len - k < 8
  · rw [if_pos h1]
    exact (ROpen_short A len cap k w hk (by omega) h1).mono fun e w' ⟨h, hw⟩ => ⟨h, 0, hw.symm⟩
  · rw [if_neg h1] at hE ⊢
    by_cases h2 : 65536 < be4 (bs.drop k)
    · rw [if_pos h2]; exact ROpen_form B A len cap k bs w hr hl hcap hm (by omega) h2
    · rw [if_neg h2] at hE ⊢
      by_cases h3 : len - k - 8 < be4 (bs.drop k)
      · rw [if_pos h3]; exact ROpen_short2 B A len cap k bs w hr hl hcap hm (by omega) (Nat.le_of_not_lt h2) h3
      · rw [if_neg h3] at hE ⊢
        by_cases h4 : Crc.crc (body (bs.drop k)) = be4 ((bs.drop k).drop 4)
        · rw [if_pos h4] at hE; exact absurd rfl hE
        · rw [if_neg h4]; exact ROpen_sum B A len cap k bs w hr hl hcap hm (by omega) (Nat.le_of_not_lt h2) (Nat.le_of_not_lt h3) h4

set_option maxHeartbeats 1000000 in
theorem ROpen_good (B : Nat) (A : Option Addr) (len cap k : Nat) (bs : List Nat) (w : World) (hr : Rd B w A bs) (hl : bs.length = len) (hcap : len ≤ cap) (hm : cap ≤ maxLen) (hk : k ≤ len) (hE : openE (bs.drop k) = 0) :
    Calls Try.prog 19 #[.slice A len cap, .int .i64 (k : Int)] w fun e w' => ∃ v, e = .returned (.tuple #[v, .int .i64 ((k + 8 + be4 (bs.drop k) : Nat) : Int), .int .i64 0]) ∧ Row w' w.heap.size v (body (bs.drop k)) ∧ Below w.heap.size w w' := by
  have hd : (bs.drop k).length = len - k := by rw [List.length_drop]; omega
  obtain ⟨h8, hn, hs, heq⟩ := openE_zero hE
  rw [hd] at h8 hs
  clear hE hd
  unfold maxLen at hm
  obtain ⟨b0, o0, rfl, _, _⟩ := hr.2 (by omega)
  obtain ⟨ad, had⟩ : ∃ ad, cutA cap (k + 8) (some ⟨b0, o0, Option.none⟩) = some ad := by unfold cutA; split <;> simp
  obtain ⟨hw4, hl4⟩ := win4 B (some ⟨b0, o0, Option.none⟩) len cap k bs w hr hl hcap h8 0 (by omega)
  obtain ⟨hw8, hl8⟩ := win4 B (some ⟨b0, o0, Option.none⟩) len cap k bs w hr hl hcap h8 4 (by omega)
  have hwin := fun w => run_win w (some ⟨b0, o0, Option.none⟩) len cap (k : Int) ((k : Int) + 4) k 4 rfl (by omega) (by omega)
  have hwin4 := fun w => run_win w (some ⟨b0, o0, Option.none⟩) len cap ((k : Int) + 4) ((k : Int) + 8) (k + 4) 4 (by omega) (by omega) (by omega)
  rw [Nat.add_zero] at hw4 hl4
  have hbt : Hid (be4 ((bs.drop k).take 4) = be4 (bs.drop k)) := be4_take _
  have hbt8 : be4 ((bs.drop (k + 4)).take 4) = be4 ((bs.drop k).drop 4) := by rw [be4_take, List.drop_drop]
  have hbody : Rd B w (some ad) (body (bs.drop k)) := by
    have := hr.window (k := k + 8) (be4 (bs.drop k)) (by omega : bs.length ≤ cap)
    rw [had] at this
    unfold body
    rw [List.drop_drop]
    exact this
  have hbl : (body (bs.drop k)).length = be4 (bs.drop k) := body_length (by rw [List.length_drop, hl]; exact hs)
  have hbne : ((Crc.crc (body (bs.drop k)) : Int) != (be4 ((bs.drop (k + 4)).take 4) : Int)) = false := by rw [hbt8, ← heq]; simp
  clear heq hbt8
  generalize body (bs.drop k) = bd at *
  generalize be4 (bs.drop k) = n at *
  have hwinb : ∀ w, (Instr.slice 22 (.slice (some ⟨b0, o0, Option.none⟩) len cap) (some (.int .i64 ((k : Int) + 8))) (some (.int .i64 ((k : Int) + 8 + (n : Int)))) Option.none).run Try.prog w = .ok (.slice (some ad) n (cap - (k + 8))) w := fun w => by
    rw [← had]; exact run_win w _ len cap ((k : Int) + 8) ((k : Int) + 8 + (n : Int)) (k + 8) n (by omega) (by omega) (by omega)
  have hbl2 : Hid (bd.length = n) := hbl
  have Hl4 := Lib.hid hl4
  have Hl8 := Lib.hid hl8
  clear hbl hl hl4 hl8 had
  go_enter Try.func19, Try.ntmps19
  go_wp2_with fail
  refine (number_any B _ _ _ _ _ hw4 Hl4.out (by omega)).mono ?_
  rw [hbt.out]
  rintro e w' ⟨rfl, kd, rfl⟩
  go_wp2_with fail
  go_quiet ((first | (go_at_call 14; exact quiet_still (refSum_any B _ _ _ bd _ hbody hbl2.out (by unfold maxLen; omega))) | (go_at_call 33; exact quiet_more (number_any B _ _ _ _ _ hw8 Hl8.out (by omega)))))
  go_wp2_with fail
  refine (Copy_any B (some ad) n _ bd _ (hbody.drewN _) hbl2.out (by intro h; cases h) (by omega)).mono ?_
  rintro e w3 ⟨v3, rfl, hr3, hb3⟩
  go_wp2
  go_ret3
  exact ⟨_, by simp, hr3.base (by simp), (below_drewN (Below.refl _ w) _).trans (hb3.mono (by simp))⟩
end Go.Proofs.Ytbhojobonihccaa
