/- The walks of SameAll and of the plain Scan, and the law SealScans. -/
import Derived.Test.YtbhojobonihccaaScanW
namespace Go.Proofs.Ytbhojobonihccaa
open Go.RowKit

/-- A slice of slices of bytes reads as these lists, all in blocks below B. -/
def RdB (B : Nat) (w : World) (A : Option Addr) (xss : List (List Nat)) : Prop :=
  0 < xss.length → ∃ b off, A = some ⟨b, off, Option.none⟩ ∧ b < B ∧ ∀ j, j < xss.length → ∃ E c, w.cell? ⟨b, off + j, Option.none⟩ = some (.slice E (xss[j]?.getD []).length c) ∧ Rd B w E (xss[j]?.getD [])
theorem RdB.below {B B' : Nat} {w w' : World} {A : Option Addr} {xss : List (List Nat)} (h : RdB B w A xss) (hb : Below B' w w') (hB : B ≤ B') : RdB B w' A xss := by
  intro hn
  obtain ⟨b, off, rfl, hlt, hc⟩ := h hn
  refine ⟨b, off, rfl, hlt, fun j hj => ?_⟩
  obtain ⟨E, c, h1, h2⟩ := hc j hj
  exact ⟨E, c, (hb.cell (p := ⟨b, off + j, Option.none⟩) (by show b < B'; omega)).trans h1, h2.below hb hB⟩
theorem RdB.drewN {B : Nat} {w : World} {A : Option Addr} {xss : List (List Nat)} (h : RdB B w A xss) (n : Nat) : RdB B (w.drewN n) A xss := h
theorem RdB.more {B B' : Nat} {w : World} {A : Option Addr} {xss : List (List Nat)} (h : RdB B w A xss) (hB : B ≤ B') : RdB B' w A xss := by
  intro hn
  obtain ⟨b, off, rfl, hlt, hc⟩ := h hn
  exact ⟨b, off, rfl, by omega, fun j hj => (hc j hj).imp fun E ⟨c, h1, h2⟩ => ⟨c, h1, h2.more hB⟩⟩
theorem RdB.take {B : Nat} {w : World} {A : Option Addr} {xss : List (List Nat)} (h : RdB B w A xss) (n : Nat) : RdB B w A (xss.take n) := by
  intro hn
  rw [List.length_take] at hn
  obtain ⟨b, off, rfl, hlt, hc⟩ := h (by omega)
  refine ⟨b, off, rfl, hlt, fun j hj => ?_⟩
  rw [List.length_take] at hj
  rw [List.getElem?_take_of_lt (by omega)]
  exact hc j (by omega)
theorem Els.rd {w : World} {base lo n c : Nat} {A : Option Addr} {vs : List Value} {xss : List (List Nat)} (h : Els w base vs xss) (ho : w.ownsRow lo 22 1 (.slice A n c) vs.length vs) : n = xss.length ∧ RdB w.heap.size w A xss := by
  have hl := h.1
  rcases ho.2 with ⟨e, h0⟩ | ⟨g, cap, cur, e, _, hg, hn, hcm, hcs, ht⟩
  · injection e with _ e2 _
    exact ⟨by omega, fun hp => by omega⟩
  · injection e with e1 e2 e3
    subst e1; subst e2; subst e3
    refine ⟨hl, fun hp => ⟨g, 0, rfl, (Array.getElem?_eq_some_iff.1 hg).1, fun j hj => ?_⟩⟩
    obtain ⟨u, hu, hrow⟩ := h.2 j hj
    obtain ⟨E, cc, hv, _, _, hrd⟩ := hrow.shape
    subst hv
    refine ⟨E, cc, ?_, hrd⟩
    have hc := World.ownsRow.cellAt (w := w) (base := lo) (e := 22) (size := 1) (g := g) (n := vs.length) (cap := c) (xs := vs) ho j (by omega)
    rw [Nat.zero_add, hc, hu]

theorem Same_true (B C : Nat) (A D : Option Addr) (n c m d : Nat) (bs : List Nat) (w : World) (hr : Rd B w A bs) (hs : Rd C w D bs) (hl : bs.length = n) (hm : bs.length = m) :
    Calls Try.prog 20 #[.slice A n c, .slice D m d] w fun e w' => e = .returned (.bool true) ∧ w = w' :=
  (Same_any B C A D n c m d bs bs w hr hs hl hm).mono fun e w' ⟨h1, h2⟩ => ⟨by rw [h1, decide_eq_true rfl], h2⟩

set_option maxHeartbeats 1000000 in
theorem SameAll_true (B C : Nat) (A D : Option Addr) (n c d : Nat) (xss : List (List Nat)) (w : World) (hr : RdB B w A xss) (hs : RdB C w D xss) (hl : xss.length = n) (hn : n ≤ maxLen) :
    Calls Try.prog 23 #[.slice A n c, .slice D n d] w fun e w' => e = .returned (.bool true) ∧ ∃ k, w' = w.drewN k := by
  unfold maxLen at hn
  have Hl := Lib.hid hl
  clear hl
  go_enter Try.func23, Try.ntmps23
  go_wp2
  go_loopw [5, 13] (fun _ i wr => ∃ j k : Nat, j ≤ n ∧ i = .int .i64 j ∧ wr = w.drewN k) (fun _ i _ => n - (intOf i).toNat)
  case atStart => exact ⟨0, 0, by omega, rfl, rfl⟩
  case round =>
    obtain ⟨j, k, hj, rfl, rfl⟩ := hrel
    by_cases hlt : j < n
    · obtain ⟨b, off, rfl, _, hc⟩ := hr (by rw [Hl.out]; omega)
      obtain ⟨E, ec, hc1, hr1⟩ := hc j (by rw [Hl.out]; exact hlt)
      obtain ⟨b2, off2, rfl, _, hc2⟩ := hs (by rw [Hl.out]; omega)
      obtain ⟨E2, ec2, hd1, hs1⟩ := hc2 j (by rw [Hl.out]; exact hlt)
      clear hc hc2
      generalize xss[j]?.getD [] = x at *
      go_wp2
      go_quiet ((go_at_call 20; exact quiet_still (Same_true B C _ _ _ _ _ _ x _ hr1 hs1 rfl rfl)))
      go_wp2
      go_roundw
      case rel => exact ⟨j + 1, _, by omega, by go_num, rfl⟩
      case measure => simp [intOf]; omega
    · obtain rfl : j = n := by omega
      go_wp2
      go_ret
      exact ⟨rfl, k, rfl⟩

theorem own_shape {w : World} {base e size n : Nat} {v : Value} {xs : List Value} (h : w.ownsRow base e size v n xs) : ∃ A c, v = .slice A n c := by
  rcases h.2 with ⟨e, h0⟩ | ⟨g', cap', cur, e, _⟩
  · subst h0; exact ⟨_, _, e⟩
  · exact ⟨_, _, e⟩
theorem own_base {w : World} {base base' e size n : Nat} {v : Value} {xs : List Value} (h : w.ownsRow base e size v n xs) (hb : base' ≤ base) : w.ownsRow base' e size v n xs := by
  refine ⟨h.1, ?_⟩
  rcases h.2 with h2 | ⟨g', cap', cur, h1, h2, h3⟩
  · exact .inl h2
  · exact .inr ⟨g', cap', cur, h1, by omega, h3⟩

set_option maxHeartbeats 2000000 in
theorem RScan_any (B : Nat) (A : Option Addr) (cap : Nat) (bs : List Nat) (w : World) (hr : Rd B w A bs) (hB : B ≤ w.heap.size) (hcap : bs.length ≤ cap) (hm : cap ≤ maxLen) (hlen : bs.length ≤ 100000) :
    Calls Try.prog 22 #[.slice A bs.length cap] w (ScanAns w bs) := by
  obtain ⟨i0, hi, hz0, hz1, hz2⟩ := info_parts info22
  go_enter Try.func22, Try.ntmps22
  go_wp2
  go_loopw [4, 5] (fun l g wr => ∃ (xs : List (List Nat)) (vs : List Value) (k : Nat), g = .int .i64 (k : Int) ∧ wr.ownsRow w.heap.size 22 1 l vs.length vs ∧ Els wr w.heap.size vs xs ∧ Below w.heap.size w wr ∧ Hid (xs ++ scan (bs.drop k) = scan bs) ∧ Hid (k = span xs) ∧ k ≤ bs.length)
    (fun _ g _ => bs.length - (intOf g).toNat)
  case atStart => exact ⟨[], [], 0, rfl, World.ownsRow_nil _ _ _ _, Els.nil _ _, Below.refl _ _, rfl, rfl, by omega⟩
  case round =>
    obtain ⟨xs, vs, k, rfl, hown, hels, hlow, hscan, hk, hkl⟩ := hrel
    have hszr := hlow.size
    have hrw := hr.below hlow hB
    obtain ⟨A1, c1, rfl⟩ := own_shape hown
    by_cases hE : openE (bs.drop k) = 0
    · obtain ⟨h8, h65, hle, _⟩ := openE_zero hE
      rw [List.length_drop] at h8 hle
      have hbl : (body (bs.drop k)).length = be4 (bs.drop k) := body_length (by rw [List.length_drop]; exact hle)
      have hcall := ROpen_good B A bs.length cap k bs wr hrw rfl hcap hm hkl hE
      have hscan' : Hid ((xs ++ [body (bs.drop k)]) ++ scan (bs.drop (k + 8 + be4 (bs.drop k))) = scan bs) := by
        show _ = _
        rw [List.append_assoc, ← hscan.out, scan_good hE, List.drop_drop, Nat.add_assoc]; rfl
      have hk' : Hid (k + 8 + be4 (bs.drop k) = span (xs ++ [body (bs.drop k)])) := by show _ = _; rw [span_snoc, ← hk.out, hbl]; omega
      have hk8 : 8 * vs.length ≤ k := by rw [hels.1, hk.out]; exact eight_length xs
      clear hbl hE
      generalize body (bs.drop k) = x at *
      generalize be4 (bs.drop k) = n at *
      go_wp2_with fail
      refine hcall.mono ?_
      rintro e w3 ⟨v3, rfl, hr3, hb3⟩
      obtain ⟨E3, c3, rfl, _⟩ := hr3.shape
      have hsz3 := hb3.size
      have hown1 := (own_below hown hb3).alloc (.cells #[.slice E3 x.length c3] 22)
      have hels1 : Els (w3.alloc (.cells #[.slice E3 x.length c3] 22)) w.heap.size (vs ++ [.slice E3 x.length c3]) (xs ++ [x]) :=
        ((hels.below hb3).apart (World.grownBy_alloc w3 _ Option.none) (off_none _ _)).snoc ((hr3.base hszr).alloc _)
      have hlow1 : Below w.heap.size w (w3.alloc (.cells #[.slice E3 x.length c3] 22)) := (hlow.trans (hb3.mono hszr)).alloc (by omega) _
      go_wp2_with (at_builtin; refine wpList_append_own _ rfl _ _ 35 rfl w.heap.size 22 i0 (.slice Option.none 0 0) 1 24 underlying35 hi hz0 hz1 hz2 rfl (by decide) _ _ _ rfl hown1 ⟨w3.heap.size, 0, Option.none⟩ 1 1 [.slice E3 x.length c3] rfl rfl (cell_one_new _ _ _) (by simp [Value.oneCell']) (by unfold maxLen; omega) (by omega) (by simp; omega) ?_)
      intro v' w4 hown4 hgr4 _
      have hels4 := hels1.apart hgr4 (off_own hown1 (by decide))
      have hlow4 := hlow1.grown hgr4 (by have := hlow1.size; omega) (fun k hk => (hown1.lt _ hk).1)
      have hl4 : (vs ++ [(.slice E3 x.length c3 : Value)]).length = vs.length + 1 := by simp
      rw [← hl4] at hown4
      clear hl4 hown hels hlow
      go_wp2
      go_roundw
      case rel => exact ⟨xs ++ [x], _, k + 8 + n, rfl, hown4, hels4, hlow4, hscan', hk', by omega⟩
      case measure => simp [intOf]; omega
    · have hcall := ROpen_err B A bs.length cap k bs wr hrw rfl hcap hm hkl hE
      have hfin : xs = scan bs := by rw [← hscan.out, scan_bad hE, List.append_nil]
      subst hfin
      have hkf := hk.out
      have hne : ((openE (bs.drop k) : Int) != 0) = true := by rw [bne_iff_ne]; omega
      generalize openE (bs.drop k) = n at *
      have Hk := Lib.hid hkf
      clear hkf
      go_wp2_with fail
      refine hcall.mono ?_
      rintro e w3 ⟨rfl, kd, rfl⟩
      go_wp2
      go_ret2
      exact ⟨_, vs, by rw [Hk.out]; rfl, hown, hels, below_drewN hlow kd⟩
end Go.Proofs.Ytbhojobonihccaa
