/- SealThree: for every three byte slices: the checksum of their bytewise XOR (cut to the shortest, at most 2000 bytes) is the XOR of their checksums; nothing that was there has turned. No condition. -/
import Derived.Test.YtbhojobonihccaaLaw
import Derived.StillTailTactics
import Derived.Deep.RegionHeld3
import Derived.Deep.RegionWith
import Derived.WalkLawsBesides
import Derived.Deep.AppendLies
namespace Go.Proofs.Ytbhojobonihccaa
open Go.ChangeShapes Go.WideShapes Go.ChangeAt Go.RowKit

def x3 (a b c : List Nat) : List Nat := Crc.xors (Crc.xors a b) c
theorem x3_at {a b c : List Nat} {k : Nat} (ha : k < a.length) (hb : k < b.length) (hc : k < c.length) : (x3 a b c)[k]? = some (a[k]?.getD 0 ^^^ b[k]?.getD 0 ^^^ c[k]?.getD 0) := by
  simp [x3, Crc.xors, List.getElem?_zipWith, ha, hb, hc]

theorem Sum_at (w0 w : World) (A : Option Addr) (n cap : Nat) (bs : List Nat) (hr : Rd w0.heap.size w0 A bs) (hl : bs.length = n) (hm : n ≤ maxLen) (hS : Below w0.heap.size w0 w) :
    Calls Try.prog 13 #[.slice A n cap] w fun e w' => e = .returned (.int .u32 (Crc.crc bs : Nat)) ∧ Below w0.heap.size w0 w' :=
  (Sum_any w0.heap.size A n cap bs w (hr.below hS (Nat.le_refl _)) hS.size hl hm).mono fun _ _ ⟨he, hb⟩ => ⟨he, hS.trans (hb.mono hS.size)⟩

set_option maxHeartbeats 1000000 in
theorem sealThree_walk (A0 A1 A2 : Option Addr) (l0 l1 l2 c0 c1 c2 : Nat) (a b c : List Nat) (w : World)
    (hr0 : Rd w.heap.size w A0 a) (hr1 : Rd w.heap.size w A1 b) (hr2 : Rd w.heap.size w A2 c) (hl0 : a.length = l0) (hl1 : b.length = l1) (hl2 : c.length = l2)
    (hc0 : l0 ≤ c0) (hc1 : l1 ≤ c1) (hc2 : l2 ≤ c2) (hm0 : c0 ≤ maxLen) :
    Calls Try.prog 10 #[.slice A0 l0 c0, .slice A1 l1 c1, .slice A2 l2 c2] w fun e w' => e = .returned (.bool true) ∧ Below w.heap.size w w' := by
  unfold maxLen at hm0
  obtain ⟨n, hn⟩ : ∃ n, n = min l0 (min l1 l2) := ⟨_, rfl⟩
  have hn0 : n ≤ l0 := by omega
  have hn1 : n ≤ l1 := by omega
  have hn2 : n ≤ l2 := by omega
  have hmin : (if (l2 : Int) < (if l1 < l0 then (l1 : Int) else (l0 : Int)) then (l2 : Int) else (if l1 < l0 then (l1 : Int) else (l0 : Int))) = (n : Int) := by
    split <;> split at * <;> omega
  clear hn
  go_enter Try.func10, Try.ntmps10
  go_wp2_with fail
  refine (live_any w).mono ?_
  rintro e w1 ⟨rfl, hb1⟩
  have hsz1 := hb1.size
  by_cases hbig : 2000 < n
  · go_wp2
    go_ret
    exact ⟨rfl, hb1⟩
  have hX : Hid ((x3 (a.take n) (b.take n) (c.take n)).length = n) := by
    show _ = _
    simp [x3, Crc.xors]; omega
  have hXb : ∀ x ∈ x3 (a.take n) (b.take n) (c.take n), x < 256 := by
    intro x hx
    obtain ⟨j, hj, rfl⟩ := List.getElem_of_mem hx
    have hjn : j < n := by rw [hX.out] at hj; exact hj
    have h1 := x3_at (a := a.take n) (b := b.take n) (c := c.take n) (k := j) (by rw [List.length_take]; omega) (by rw [List.length_take]; omega) (by rw [List.length_take]; omega)
    rw [List.getElem?_eq_getElem hj] at h1
    injection h1 with h1
    rw [h1]
    exact Crc.xor_lt8 (Crc.xor_lt8 ((hr0.take n).byte j) ((hr1.take n).byte j)) ((hr2.take n).byte j)
  have Hl0 := Lib.hid hl0
  have Hl1 := Lib.hid hl1
  have Hl2 := Lib.hid hl2
  clear hl0 hl1 hl2
  go_wp2
  go_loopw [8, 22] (fun v i wr => ∃ k : Nat, k ≤ n ∧ i = .int .i64 k ∧ Row wr w.heap.size v ((x3 (a.take n) (b.take n) (c.take n)).take k) ∧ Below w.heap.size w wr) (fun _ i _ => n - (intOf i).toNat)
  case atStart => exact ⟨0, by omega, rfl, ⟨by simp, by simpa [cellsOf] using World.ownsRow_nil _ _ _ _⟩, hb1⟩
  case round =>
    obtain ⟨k, hk, rfl, hrow, hbr⟩ := hrel
    have hszr := hbr.size
    by_cases hlt : k < n
    · obtain ⟨b0, o0, rfl, hB0, hcell0⟩ := (hr0.below hbr (Nat.le_refl _)).2 (by rw [Hl0.out]; omega)
      obtain ⟨b1, o1, rfl, hB1, hcell1⟩ := (hr1.below hbr (Nat.le_refl _)).2 (by rw [Hl1.out]; omega)
      obtain ⟨b2, o2, rfl, hB2, hcell2⟩ := (hr2.below hbr (Nat.le_refl _)).2 (by rw [Hl2.out]; omega)
      have g0 := hcell0 k (by rw [Hl0.out]; omega)
      have g1 := hcell1 k (by rw [Hl1.out]; omega)
      have g2 := hcell2 k (by rw [Hl2.out]; omega)
      clear hcell0 hcell1 hcell2
      have y0 := hr0.byte k
      have y1 := hr1.byte k
      have y2 := hr2.byte k
      have hnext : Hid ((x3 (a.take n) (b.take n) (c.take n)).take (k + 1) = (x3 (a.take n) (b.take n) (c.take n)).take k ++ [a[k]?.getD 0 ^^^ b[k]?.getD 0 ^^^ c[k]?.getD 0]) := by
        have h1 := x3_at (a := a.take n) (b := b.take n) (c := c.take n) (k := k) (by rw [List.length_take, Hl0.out]; omega) (by rw [List.length_take, Hl1.out]; omega) (by rw [List.length_take, Hl2.out]; omega)
        rw [List.getElem?_take_of_lt hlt, List.getElem?_take_of_lt hlt, List.getElem?_take_of_lt hlt] at h1
        show _ = _
        rw [List.take_add_one, h1]; rfl
      generalize a[k]?.getD 0 = y at *
      generalize b[k]?.getD 0 = z at *
      generalize c[k]?.getD 0 = t at *
      have e1 : bits .xor .u8 (y : Int) (z : Int) = ((y ^^^ z : Nat) : Int) := u8_xor_nat y z y0 y1
      have yz := Crc.xor_lt8 y0 y1
      have e2 : bits .xor .u8 ((y ^^^ z : Nat) : Int) (t : Int) = ((y ^^^ z ^^^ t : Nat) : Int) := u8_xor_nat _ t yz y2
      have yzt := Crc.xor_lt8 yz y2
      have hkl0 : (k : Int) < l0 := by omega
      have hkl1 : (k : Int) < l1 := by omega
      have hkl2 : (k : Int) < l2 := by omega
      obtain ⟨i0, hi, hz0, hz1, hz2⟩ := info_parts Try.info5
      obtain ⟨v, rfl⟩ : ∃ v, v = u8 := ⟨_, rfl⟩
      have nb : ∀ q, q < w.heap.size → some q ≠ v.ownBlock := fun q hq e => by have := (hrow.2.lt q e.symm).1; omega
      have ne0 := nb b0 hB0
      have ne1 := nb b1 hB1
      have ne2 := nb b2 hB2
      clear nb
      have hk0 : (0 : Int) ≤ (k : Int) := Int.natCast_nonneg _
      have hlen : Hid (((x3 (a.take n) (b.take n) (c.take n)).take k).length = k) := by show _ = _; rw [List.length_take, hX.out]; omega
      have hown := hrow.2
      rw [hlen.out] at hown
      go_wp2
      go_region_held3 (fun w' => w'.cell? ⟨b0, o0 + k, none⟩ = some (.int .u8 (y : Int)) ∧ w'.cell? ⟨b1, o1 + k, none⟩ = some (.int .u8 (z : Int)) ∧ w'.cell? ⟨b2, o2 + k, none⟩ = some (.int .u8 (t : Int)))
        (first
          | go_keep
          | (go_split_ands
             refine ⟨?_, ?_, ?_⟩
             · exact hgrow.cell (by go_keep) ne0
             · exact hgrow.cell (by go_keep) ne1
             · exact hgrow.cell (by go_keep) ne2))
        ((refine step_append_lies _ (by rfl) _ _ _ (by rfl) w.heap.size 5 i0 _ 1 1 Try.underlying22 hi hz0 hz1 hz2 rfl (by omega) v k _ (by rfl) ((hown.alloc _).drew) ⟨wr.heap.size, 0, none⟩ 1 1 [.int .u8 ((y ^^^ z ^^^ t : Nat) : Int)] (by rfl) (by rfl) (World.news_of_block (cs := #[.int .u8 ((y ^^^ z ^^^ t : Nat) : Int)]) (t := 5) (fr := (0, 0)) (heap_alloc_new wr _)) (by simp [Value.oneCell']) (by omega) (by unfold maxLen; omega) (by omega) (by simp; omega) (wr.heap.size + 1) (by simp) ?_; intro gg cap w9 hown1 hgrow hat hlt9))
      go_wp2
      go_roundw
      case rel =>
        refine ⟨k + 1, by omega, by go_num, ⟨fun x hx => hXb x (List.mem_of_mem_take hx), ?_⟩, ?_⟩
        · rw [hnext.out, List.length_append, hlen.out]
          simpa [cellsOf] using hown1
        · exact ((hbr.alloc hszr _).drew).grown hgrow (by simp; omega) (fun q hq => (hrow.2.lt q hq).1)
      case measure => simp [intOf]; omega
    · obtain rfl : k = n := by omega
      rw [List.take_of_length_le (by rw [hX.out]; omega)] at hrow
      obtain ⟨A3, c3, hv, hc3, hm3, hrd3⟩ := hrow.shape
      rw [hX.out] at hv hc3
      have t0 := (hr0.below hbr (Nat.le_refl _)).more hszr |>.take k
      have t1 := (hr1.below hbr (Nat.le_refl _)).more hszr |>.take k
      have t2 := (hr2.below hbr (Nat.le_refl _)).more hszr |>.take k
      have L0 : Hid ((a.take k).length = k) := by show _ = _; rw [List.length_take, Hl0.out]; omega
      have L1 : Hid ((b.take k).length = k) := by show _ = _; rw [List.length_take, Hl1.out]; omega
      have L2 : Hid ((c.take k).length = k) := by show _ = _; rw [List.length_take, Hl2.out]; omega
      have hfin : Hid (Crc.crc (x3 (a.take k) (b.take k) (c.take k)) = Crc.crc (a.take k) ^^^ Crc.crc (b.take k) ^^^ Crc.crc (c.take k)) := Crc.crc_three _ _ _ (by rw [L0.out, L1.out]) (by rw [L1.out, L2.out])
      have z0 := Crc.crc_lt _ t0.1
      have z1 := Crc.crc_lt _ t1.1
      have z2 := Crc.crc_lt _ t2.1
      have hS0 := Below.refl wr.heap.size wr
      have hkm : k ≤ maxLen := by unfold maxLen; omega
      have hh0 := fun w => run_head w A0 l0 c0 k .i64 (by omega)
      have hh1 := fun w => run_head w A1 l1 c1 k .i64 (by omega)
      have hh2 := fun w => run_head w A2 l2 c2 k .i64 (by omega)
      subst hv
      clear hrow hbig hmin
      generalize x3 (a.take k) (b.take k) (c.take k) = X at *
      generalize a.take k = a' at *
      generalize b.take k = b' at *
      generalize c.take k = c' at *
      have e1 : bits .xor .u32 (Crc.crc a' : Int) (Crc.crc b' : Int) = ((Crc.crc a' ^^^ Crc.crc b' : Nat) : Int) := u32_xor_nat _ _ z0 z1
      have e2 : bits .xor .u32 ((Crc.crc a' ^^^ Crc.crc b' : Nat) : Int) (Crc.crc c' : Int) = ((Crc.crc a' ^^^ Crc.crc b' ^^^ Crc.crc c' : Nat) : Int) := u32_xor_nat _ _ (Crc.xor_lt z0 z1) z2
      have he : Hid ((((Crc.crc X : Nat) : Int) == ((Crc.crc a' ^^^ Crc.crc b' ^^^ Crc.crc c' : Nat) : Int)) = true) := by rw [hfin.out]; exact beq_self_eq_true _
      go_wp2
      go_region_held3 (fun w' => Below wr.heap.size wr w') (first | assumption | exact (Below.refl _ _).drew | exact Below.drew (by assumption) | go_keep)
        (first
          | (go_at_call_of 13 (Value.slice A3 k c3); refine (Sum_at wr _ A3 k c3 X hrd3 hX.out hkm (by assumption)).mono ?_; rintro e w' ⟨rfl, hS'⟩)
          | (go_at_call_of 13 (Value.slice A0 k c0); refine (Sum_at wr _ A0 k c0 a' t0 L0.out hkm (by assumption)).mono ?_; rintro e w' ⟨rfl, hS'⟩)
          | (go_at_call_of 13 (Value.slice A1 k c1); refine (Sum_at wr _ A1 k c1 b' t1 L1.out hkm (by assumption)).mono ?_; rintro e w' ⟨rfl, hS'⟩)
          | (go_at_call_of 13 (Value.slice A2 k c2); refine (Sum_at wr _ A2 k c2 c' t2 L2.out hkm (by assumption)).mono ?_; rintro e w' ⟨rfl, hS'⟩))
      go_wp2
      go_ret
      exact ⟨by rw [he.out]; rfl, hbr.trans (Below.mono (by assumption) hszr)⟩

set_option maxRecDepth 100000 in
theorem sealThree_lifted (os : Os) (started : os.Started) (H : Type) (enc : TypeId × Value → H) :
    ReturnsInHanded {} Try.checked os 10 .any (Rows.sealThreeSpec.pre6 enc Try.prog Try.f10 Rows.sealThreeRow.domain false) (Rows.sealThreeSpec.post enc Try.prog Try.f10 false true false false) := by
  refine returnsInHanded_of_change (C := Try.checked) Try.own started (by kernel_rfl) Try.func10
    (ChangeSpec.witness6 (enc := enc) (C := Try.checked) false ⟨#[], #[.slice Option.none 0 0, .slice Option.none 0 0, .slice Option.none 0 0], []⟩ 8 (by kernel_rfl) (by kernel_rfl) (by kernel_rfl) (by kernel_rfl)) ?_
  intro W base args ds gs before hval0 hW _ _
  have hval : ∀ (j : Nat) t v, Try.f10.params[j]? = some t → args[j]? = some v → Value.okWide Try.prog W .any base t v := hval0
  have hW' := hW
  obtain ⟨p, q, hA0, hV, rfl, _, _⟩ := hW
  have hA : DataW.TrodAll enc Try.prog W 0 (fun _ => true) true Try.f10.params.toList args.toList ds p := hA0
  rw [Try.params10] at hA hval
  have hlt : ∀ x ∈ p, x.block < W.heap.size := fun x hx => hW'.lt x (List.mem_append_left _ hx)
  obtain ⟨rfl, rfl⟩ := trodVars_none hV
  clear hA0 hval0
  obtain ⟨v0, vs0, d0, ds0, p0, q0, hargs0, rfl, rfl, h0, r0⟩ := trodAll_cons hA
  obtain ⟨v1, vs1, d1, ds1, p1, q1, hargs1, rfl, rfl, h1, r1⟩ := trodAll_cons r0
  obtain ⟨v2, vs2, d2, ds2, p2, q2, hargs2, rfl, rfl, h2, r2⟩ := trodAll_cons r1
  obtain ⟨hlast, rfl, rfl⟩ := trodAll_nil r2
  obtain rfl : args = #[v0, v1, v2] := by
    apply Array.toList_inj.1
    rw [hargs0, hargs1, hargs2, hlast]
  obtain ⟨A0, len0, cap0, bs0, rfl, hr0, hl0, hlc0, hm0, hn0⟩ := open_bytes (hval 0 22 v0 rfl rfl) h0 (fun x hx => hlt x (List.mem_append_left _ hx))
  obtain ⟨A1, len1, cap1, bs1, rfl, hr1, hl1, hlc1, hm1, hn1⟩ := open_bytes (hval 1 22 v1 rfl rfl) h1 (fun x hx => hlt x (List.mem_append_right _ (List.mem_append_left _ hx)))
  obtain ⟨A2, len2, cap2, bs2, rfl, hr2, hl2, hlc2, hm2, hn2⟩ := open_bytes (hval 2 22 v2 rfl rfl) h2 (fun x hx => hlt x (List.mem_append_right _ (List.mem_append_right _ (List.mem_append_left _ hx))))
  refine (sealThree_walk A0 A1 A2 len0 len1 len2 cap0 cap1 cap2 bs0 bs1 bs2 W hr0 hr1 hr2 hl0 hl1 hl2 hlc0 hlc1 hlc2 hm0).mono fun e W' ⟨he, hb⟩ => ?_
  subst he
  exact ⟨_, rfl, law_post Try.laidOut hW' rfl (by rw [Try.params10]; decide +kernel) 4 rfl Try.underlying4 rfl hb⟩

theorem sealThree_holds : Rows.SealThreeSaid :=
  OpenClaim.holds_of_wide 10 Try.f10 rfl rfl rfl rfl rfl rfl rfl ⟨rfl, rfl, rfl, rfl, rfl⟩ rfl rfl rfl rfl rfl (by kernel_rfl) Try.func10 (by kernel_rfl)
    (of_decide_eq_true (by kernel_rfl)) (by unfold Func.isWrapper; first | (rw [if_pos (by decide +kernel)]; kernel_rfl) | (rw [if_neg (by decide +kernel)]; exact ⟨rfl, rfl⟩))
    (fun os started H enc _ => sealThree_lifted os started H enc)
end Go.Proofs.Ytbhojobonihccaa
