/- Assignments by the bits of a number: Truths, holds. -/
import Derived.Test.YtoacfjmefoiflaaOpen
namespace Go.Proofs.Ytoacfjmefoiflaa
open Go.ChangeShapes Go.WideShapes Go.ChangeAt Go.RowKit
set_option maxRecDepth 100000

/-- A bit of a number. -/
def tb (pick : Int) (j : Nat) : Bool := bits BinOp.and IntKind.i64 (pick / 2 ^ j) 1 == 1
def tru (pick : Int) : Nat → List Bool
  | 0 => [false]
  | n + 1 => tru pick n ++ [tb pick n]
theorem tru_len (pick : Int) : ∀ n, (tru pick n).length = n + 1
  | 0 => rfl
  | n + 1 => by rw [tru, List.length_append, tru_len pick n]; rfl
theorem tru_get (pick : Int) (j : Nat) : ∀ n, j < n → (tru pick n)[j + 1]?.getD false = tb pick j
  | 0, h => absurd h (Nat.not_lt_zero _)
  | n + 1, h => by
    rw [tru]
    by_cases e : j = n
    · subst e
      rw [List.getElem?_append_right (by rw [tru_len]; omega), tru_len]
      simp
    · rw [List.getElem?_append_left (by rw [tru_len]; omega)]
      exact tru_get pick j n (by omega)
theorem tv_tru_pos (pick : Int) (j n : Nat) (h : j < n) : tv (tru pick n) ((j + 1 : Nat) : Int) = tb pick j := by rw [tv_pos, tru_get pick j n h]
theorem tv_tru_neg (pick : Int) (j n : Nat) (h : j < n) : tv (tru pick n) (-((j + 1 : Nat) : Int)) = !tb pick j := by rw [tv_neg _ _ (by omega), tru_get pick j n h]

set_option maxHeartbeats 4000000 in
theorem holds_any (B n c d : Nat) (A D : Option Addr) (k p T : Int) (cs zs : List Int) (w : World) (hc : RdI B w A cs) (hz : RdI B w D zs) (hB : B ≤ w.heap.size) (hcl : cs.length = n) (hl : zs.length = n) (hn : n ≤ 64) (hcs : ∀ c ∈ cs, -140737488355328 ≤ c ∧ c ≤ 140737488355328) (hlit : ∀ x ∈ zs, Lit 9 x) (hp : Wf p) (hT : wsum (tru p 8) cs zs = T) :
    Calls Try.prog 30 #[.agg #[.slice A n c, .slice D n d, .int .i64 k], .int .i64 p] w fun e w' => e = .returned (.bool (decide (k ≤ T))) ∧ Below w.heap.size w w' := by
  obtain ⟨W1, hW1⟩ : ∃ W, W = w.alloc (.cells #[.slice A n c, .slice D n d, .int .i64 k] 24) := ⟨_, rfl⟩
  have hb1 : Below w.heap.size w W1 := by rw [hW1]; exact (Below.refl _ _).alloc (Nat.le_refl _) _
  have hat : LinAt W1 w.heap.size (.slice A n c) (.slice D n d) k 24 := by rw [hW1]; exact heap_alloc_new _ _
  obtain ⟨cC, cL, cK⟩ := hat.cells
  have HW := Lib.hid hW1
  have HT := Lib.hid hT
  have HL := Lib.hid (And.intro hcl (And.intro hl (And.intro hcs hlit)))
  have R := Lib.hid (And.intro (hc.below hb1 hB) (hz.below hb1 hB))
  obtain ⟨hp1, hp2⟩ := hp
  clear hW1 hat hT hcl hl hcs hlit hc hz
  go_enter Try.func30, Try.ntmps30
  go_wp2_with fail
  rw [← HW.out]
  clear HW
  go_loopw [5, 6] (fun a i wr => ∃ j q : Nat, j ≤ n ∧ a = .int .i64 (wsum (tru p 8) (cs.take j) (zs.take j)) ∧ i = .int .i64 j ∧ wr = W1.drewN q) (fun _ i _ => n - (intOf i).toNat)
  case atStart => exact ⟨0, 0, by omega, rfl, rfl, rfl⟩
  case round =>
    obtain ⟨j, q, hj, rfl, rfl, rfl⟩ := hrel
    by_cases hlt : j < n
    · have hjc : j < cs.length := by rw [HL.out.1]; exact hlt
      have hjz : j < zs.length := by rw [HL.out.2.1]; exact hlt
      obtain ⟨b1, o1, hA1, _, q1⟩ := R.out.1.2 (by omega)
      obtain ⟨b2, o2, hA2, _, q2⟩ := R.out.2.2 (by omega)
      have hc1 := q1 j hjc
      have hz1 := q2 j hjz
      have hcb := HL.out.2.2.1 (cs[j]?.getD 0) (by rw [List.getElem?_eq_getElem hjc]; exact List.getElem_mem _)
      have hzp := HL.out.2.2.2 (zs[j]?.getD 0) (by rw [List.getElem?_eq_getElem hjz]; exact List.getElem_mem _)
      have hst := wsum_take (tru p 8) cs zs j (HL.out.1.trans HL.out.2.1.symm) hjc hjz
      have hsb := wsum_bound 140737488355328 (by omega) (tru p 8) (cs.take j) (zs.take j) (fun c hc => HL.out.2.2.1 c (List.mem_of_mem_take hc))
      rw [List.length_take, Nat.min_eq_left (by omega)] at hsb
      clear q1 q2 hjc hjz R
      generalize cs[j]?.getD 0 = x at *
      generalize zs[j]?.getD 0 = z at *
      obtain ⟨v, v1, v2, hv⟩ := hzp.two
      obtain ⟨hx1, hx2⟩ := hcb
      cases hA1
      cases hA2
      have hv1 : v - 1 < 8 := by omega
      have hm1 : min (v - 1) 64 = v - 1 := by omega
      rcases hv with rfl | rfl
      · rw [show tv (tru p 8) ((v : Int)) = tv (tru p 8) (((v - 1 + 1 : Nat) : Int)) by rw [Nat.sub_add_cancel v1]] at hst
        rw [tv_tru_pos p (v - 1) 8 (by omega)] at hst
        have g0 : (max ((v : Int)) (-((v : Int)))).toNat - 1 = v - 1 := by omega
        have g1 : max ((v : Int)) (-((v : Int))) = (v : Int) := by omega
        have g2 : decide (((v : Int)) > 0) = true := decide_eq_true (by omega)
        have g3 : decide ((0 : Int) < ((v : Int))) = true := decide_eq_true (by omega)
        have g4 : decide (0 < v) = true := decide_eq_true (by omega)
        generalize wsum (tru p 8) (cs.take j) (zs.take j) = S at *
        cases hb : tb p (v - 1) with
        | true =>
          rw [hb, if_pos rfl] at hst
          have htb1 : (bits BinOp.and IntKind.i64 (p / 2 ^ ((max ((v : Int)) (-((v : Int)))).toNat - 1)) 1 == 1) = true := by rw [g0]; exact hb
          have htb2 : (bits BinOp.and IntKind.i64 (p / 2 ^ (v - 1)) 1 == 1) = true := hb
          have HS := Lib.hid hst
          clear hst hb hzp g0
          go_wp2
          go_quiet (fail)
          go_wp2
          clear htb1 htb2
          go_roundw
          case rel => exact ⟨j + 1, _, by omega, by rw [HS.out], by go_num, rfl⟩
          case measure => simp [intOf]; omega
        | false =>
          rw [hb, if_neg (by simp)] at hst
          have htb1 : (bits BinOp.and IntKind.i64 (p / 2 ^ ((max ((v : Int)) (-((v : Int)))).toNat - 1)) 1 == 1) = false := by rw [g0]; exact hb
          have htb2 : (bits BinOp.and IntKind.i64 (p / 2 ^ (v - 1)) 1 == 1) = false := hb
          have HS := Lib.hid hst
          clear hst hb hzp g0
          go_wp2
          go_quiet (fail)
          go_wp2
          clear htb1 htb2
          go_roundw
          case rel => exact ⟨j + 1, _, by omega, by rw [HS.out]; simp, by go_num, rfl⟩
          case measure => simp [intOf]; omega
      · rw [show tv (tru p 8) (-(v : Int)) = tv (tru p 8) (-((v - 1 + 1 : Nat) : Int)) by rw [Nat.sub_add_cancel v1]] at hst
        rw [tv_tru_neg p (v - 1) 8 (by omega)] at hst
        have g0 : (max (-(v : Int)) (v : Int)).toNat - 1 = v - 1 := by omega
        have g1 : max (-(v : Int)) (v : Int) = (v : Int) := by omega
        have g2 : decide ((-(v : Int)) > 0) = false := decide_eq_false (by omega)
        have g3 : decide ((0 : Int) < (-(v : Int))) = false := decide_eq_false (by omega)
        have g4 : decide ((v : Int) < 0) = false := decide_eq_false (by omega)
        generalize wsum (tru p 8) (cs.take j) (zs.take j) = S at *
        cases hb : tb p (v - 1) with
        | true =>
          rw [hb, Bool.not_true, if_neg (by simp)] at hst
          have htb1 : (bits BinOp.and IntKind.i64 (p / 2 ^ ((max (-(v : Int)) (v : Int)).toNat - 1)) 1 == 1) = true := by rw [g0]; exact hb
          have htb2 : (bits BinOp.and IntKind.i64 (p / 2 ^ (v - 1)) 1 == 1) = true := hb
          have HS := Lib.hid hst
          clear hst hb hzp g0
          go_wp2
          go_quiet (fail)
          go_wp2
          clear htb1 htb2
          go_roundw
          case rel => exact ⟨j + 1, _, by omega, by rw [HS.out]; simp, by go_num, rfl⟩
          case measure => simp [intOf]; omega
        | false =>
          rw [hb, Bool.not_false, if_pos rfl] at hst
          have htb1 : (bits BinOp.and IntKind.i64 (p / 2 ^ ((max (-(v : Int)) (v : Int)).toNat - 1)) 1 == 1) = false := by rw [g0]; exact hb
          have htb2 : (bits BinOp.and IntKind.i64 (p / 2 ^ (v - 1)) 1 == 1) = false := hb
          have HS := Lib.hid hst
          clear hst hb hzp g0
          go_wp2
          go_quiet (fail)
          go_wp2
          clear htb1 htb2
          go_roundw
          case rel => exact ⟨j + 1, _, by omega, by rw [HS.out], by go_num, rfl⟩
          case measure => simp [intOf]; omega
    · obtain rfl : j = n := by omega
      have htk : wsum (tru p 8) (cs.take j) (zs.take j) = T := by rw [List.take_of_length_le (by have := HL.out.1; omega), List.take_of_length_le (by have := HL.out.2.1; omega)]; exact HT.out
      rw [htk]
      have fin : Hid (Below w.heap.size w (W1.drewN q)) := Lib.hid (below_drewN hb1 q)
      clear htk HL R HT
      go_wp2
      go_ret
      exact ⟨by simp, fin.out⟩
end Go.Proofs.Ytoacfjmefoiflaa
