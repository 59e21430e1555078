/- Whether an assignment by bits agrees with literals. -/
import Derived.Test.YtoacfjmefoiflaaBits
namespace Go.Proofs.Ytoacfjmefoiflaa
open Go.ChangeShapes Go.WideShapes Go.ChangeAt Go.RowKit
set_option maxRecDepth 100000

set_option maxHeartbeats 4000000 in
theorem agrees_any (B n c : Nat) (A : Option Addr) (p : Int) (zs : List Int) (w : World) (hz : RdI B w A zs) (hl : zs.length = n) (hn : n ≤ 64) (hlit : ∀ x ∈ zs, Lit 9 x) (hp : Wf p) :
    Calls Try.prog 32 #[.slice A n c, .int .i64 p] w fun e w' => e = .returned (.bool (zs.all fun z => tv (tru p 8) z)) ∧ Below w.heap.size w w' := by
  have HL := Lib.hid (And.intro hl hlit)
  have R := Lib.hid hz
  obtain ⟨r, hr⟩ : ∃ r, (zs.all fun z => tv (tru p 8) z) = r := ⟨_, rfl⟩
  rw [hr]
  have HR := Lib.hid hr
  obtain ⟨hp1, hp2⟩ := hp
  clear hl hlit hz hr
  go_enter Try.func32, Try.ntmps32
  go_wp2_with fail
  go_loopw [5] (fun i wr => ∃ j q : Nat, j ≤ n ∧ i = .int .i64 j ∧ Hid (∀ z ∈ zs.take j, tv (tru p 8) z = true) ∧ wr = w.drewN q) (fun i _ => n - (intOf i).toNat)
  case atStart => exact ⟨0, 0, by omega, rfl, Lib.hid (by simp), rfl⟩
  case round =>
    obtain ⟨j, q, hj, rfl, hall, rfl⟩ := hrel
    by_cases hlt : j < n
    · have hjz : j < zs.length := by rw [HL.out.1]; exact hlt
      obtain ⟨b2, o2, hA2, _, q2⟩ := R.out.2 (by omega)
      have hz1 := q2 j hjz
      have hmem : zs[j]?.getD 0 ∈ zs := by rw [List.getElem?_eq_getElem hjz]; exact List.getElem_mem _
      have hzp := HL.out.2 (zs[j]?.getD 0) hmem
      have hst : tv (tru p 8) (zs[j]?.getD 0) = true → ∀ z ∈ zs.take (j + 1), tv (tru p 8) z = true := fun h z hz => by
        rw [List.take_add_one, List.getElem?_eq_getElem hjz] at hz
        rcases List.mem_append.1 hz with hz | hz
        · exact hall.out z hz
        · rw [List.getElem?_eq_getElem hjz] at h
          have : z = zs[j] := by simpa using hz
          rw [this]; exact h
      have hno : tv (tru p 8) (zs[j]?.getD 0) = false → r = false := fun h => by
        rw [← HR.out]
        cases e : zs.all fun z => tv (tru p 8) z with
        | false => rfl
        | true => rw [List.all_eq_true.1 e _ hmem] at h; cases h
      clear q2 hjz R hmem
      generalize zs[j]?.getD 0 = z at *
      obtain ⟨v, v1, v2, hv⟩ := hzp.two
      cases hA2
      have hv1 : v - 1 < 8 := by omega
      have hm1 : min (v - 1) 64 = v - 1 := by omega
      rcases hv with rfl | rfl
      · have htv : tv (tru p 8) ((v : Int)) = tb p (v - 1) := by
          rw [show tv (tru p 8) ((v : Int)) = tv (tru p 8) (((v - 1 + 1 : Nat) : Int)) by rw [Nat.sub_add_cancel v1]]
          exact tv_tru_pos p (v - 1) 8 (by omega)
        have g0 : (max ((v : Int)) (-((v : Int)))).toNat - 1 = v - 1 := by omega
        have g1 : max ((v : Int)) (-((v : Int))) = (v : Int) := by omega
        have g2 : decide (((v : Int)) > 0) = true := decide_eq_true (by omega)
        have g3 : decide ((0 : Int) < ((v : Int))) = true := decide_eq_true (by omega)
        have g4 : decide (0 < v) = true := decide_eq_true (by omega)
        cases hb : tb p (v - 1) with
        | true =>
          have htb1 : (bits BinOp.and IntKind.i64 (p / 2 ^ ((max (v : Int) (-(v : Int))).toNat - 1)) 1 == 1) = true := by rw [g0]; exact hb
          have htb2 : (bits BinOp.and IntKind.i64 (p / 2 ^ (v - 1)) 1 == 1) = true := hb
          have HS := Lib.hid (hst (by simp [htv, hb]))
          clear hst hb hzp g0 hall htv
          go_wp2
          go_quiet (fail)
          go_wp2
          clear htb1 htb2
          go_roundw
          case rel => exact ⟨j + 1, _, by omega, by go_num, HS, rfl⟩
          case measure => simp [intOf]; omega
        | false =>
          have htb1 : (bits BinOp.and IntKind.i64 (p / 2 ^ ((max (v : Int) (-(v : Int))).toNat - 1)) 1 == 1) = false := by rw [g0]; exact hb
          have htb2 : (bits BinOp.and IntKind.i64 (p / 2 ^ (v - 1)) 1 == 1) = false := hb
          obtain rfl : r = false := hno (by simp [htv, hb])
          clear hst hb hzp g0 hall htv hno
          go_wp2
          go_quiet (fail)
          go_wp2
          go_ret
          exact ⟨rfl, below_drewN (Below.refl _ _) _⟩
      · have htv : tv (tru p 8) (-(v : Int)) = !tb p (v - 1) := by
          rw [show tv (tru p 8) (-(v : Int)) = tv (tru p 8) (-((v - 1 + 1 : Nat) : Int)) by rw [Nat.sub_add_cancel v1]]
          exact tv_tru_neg p (v - 1) 8 (by omega)
        have g0 : (max (-(v : Int)) (v : Int)).toNat - 1 = v - 1 := by omega
        have g1 : max (-(v : Int)) (v : Int) = (v : Int) := by omega
        have g2 : decide ((-(v : Int)) > 0) = false := decide_eq_false (by omega)
        have g3 : decide ((0 : Int) < (-(v : Int))) = false := decide_eq_false (by omega)
        have g4 : decide ((v : Int) < 0) = false := decide_eq_false (by omega)
        cases hb : tb p (v - 1) with
        | true =>
          have htb1 : (bits BinOp.and IntKind.i64 (p / 2 ^ ((max (-(v : Int)) (v : Int)).toNat - 1)) 1 == 1) = true := by rw [g0]; exact hb
          have htb2 : (bits BinOp.and IntKind.i64 (p / 2 ^ (v - 1)) 1 == 1) = true := hb
          obtain rfl : r = false := hno (by simp [htv, hb])
          clear hst hb hzp g0 hall htv hno
          go_wp2
          go_quiet (fail)
          go_wp2
          go_ret
          exact ⟨rfl, below_drewN (Below.refl _ _) _⟩
        | false =>
          have htb1 : (bits BinOp.and IntKind.i64 (p / 2 ^ ((max (-(v : Int)) (v : Int)).toNat - 1)) 1 == 1) = false := by rw [g0]; exact hb
          have htb2 : (bits BinOp.and IntKind.i64 (p / 2 ^ (v - 1)) 1 == 1) = false := hb
          have HS := Lib.hid (hst (by simp [htv, hb]))
          clear hst hb hzp g0 hall htv
          go_wp2
          go_quiet (fail)
          go_wp2
          clear htb1 htb2
          go_roundw
          case rel => exact ⟨j + 1, _, by omega, by go_num, HS, rfl⟩
          case measure => simp [intOf]; omega
    · obtain rfl : j = n := by omega
      obtain rfl : r = true := by
        rw [← HR.out]
        have := hall.out
        rw [List.take_of_length_le (by have := HL.out.1; omega)] at this
        exact List.all_eq_true.2 this
      clear hall HL R HR
      go_wp2
      go_ret
      exact ⟨rfl, below_drewN (Below.refl _ _) _⟩
end Go.Proofs.Ytoacfjmefoiflaa
