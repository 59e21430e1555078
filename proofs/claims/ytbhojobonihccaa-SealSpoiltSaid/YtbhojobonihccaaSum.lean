/- The walks of sum, word, step, the plain Sum. -/
import Derived.Test.YtbhojobonihccaaTable
import Derived.BigQuiet
import Derived.Deep.QuietTactic
namespace Go.Proofs.Ytbhojobonihccaa
open Go.RowKit

/-- A slice at A reads as these bytes, in a block below B. -/
def Rd (B : Nat) (w : World) (A : Option Addr) (bs : List Nat) : Prop :=
  (∀ c ∈ bs, c < 256) ∧ (0 < bs.length → ∃ b off, A = some ⟨b, off, none⟩ ∧ b < B ∧ ∀ j, j < bs.length → w.cell? ⟨b, off + j, none⟩ = some (.int .u8 (bs[j]?.getD 0 : Nat)))

theorem Rd.byte {B : Nat} {w : World} {A : Option Addr} {bs : List Nat} (h : Rd B w A bs) (j : Nat) : bs[j]?.getD 0 < 256 := by
  rcases Nat.lt_or_ge j bs.length with hj | hj
  · rw [List.getElem?_eq_getElem hj]; exact h.1 _ (List.getElem_mem hj)
  · rw [List.getElem?_eq_none hj]; simp

set_option maxHeartbeats 400000 in
theorem sum_any (B g : Nat) (A : Option Addr) (len cap : Nat) (bs : List Nat) (w : World) (ht : TabTo w g 256) (hr : Rd B w A bs) (hl : bs.length = len) (hm : len ≤ maxLen) :
    Calls Try.prog 27 #[.pointer (some ⟨g, 0, none⟩), .slice A len cap] w fun e w' => e = .returned (.int .u32 (Crc.crc bs : Nat)) ∧ w = w' := by
  unfold maxLen at hm
  have Hl := Lib.hid hl
  clear hl
  go_enter Try.func27, Try.ntmps27
  go_wp2
  go_loop [5, 10] (fun v i => ∃ k : Nat, k ≤ len ∧ i = .int .i64 k ∧ v = .int .u32 (Crc.fold 4294967295 (bs.take k) : Nat)) (fun _ i => len - (intOf i).toNat)
  case atStart => exact ⟨0, by omega, rfl, rfl⟩
  case round =>
    obtain ⟨k, hk, rfl, rfl⟩ := hrel
    by_cases hlt : k < len
    · obtain ⟨b, off, rfl, hbB, hc⟩ := hr.2 (by rw [Hl.out]; omega)
      have hck := hc k (by rw [Hl.out]; exact hlt)
      clear hc
      have hv : Crc.fold 4294967295 (bs.take k) < 4294967296 := Crc.fold_lt _ (by omega) (fun c hc => hr.1 c (List.mem_of_mem_take hc))
      have hstep : Hid (Crc.fold 4294967295 (bs.take (k + 1)) = Crc.eat (Crc.fold 4294967295 (bs.take k)) (bs[k]?.getD 0)) := Crc.fold_take _ _ _ (by rw [Hl.out]; exact hlt)
      have hbyte := hr.byte k
      generalize Crc.fold 4294967295 (bs.take k) = v at *
      generalize bs[k]?.getD 0 = c at *
      have hx : bits .xor .u8 ((v : Int) % 256) (c : Int) = ((v % 256 ^^^ c : Nat) : Int) := u8_xor_nat (v % 256) c (by omega) hbyte
      have hx8 : v % 256 ^^^ c < 256 := Crc.xor_lt8 (by omega) hbyte
      have hcell := ht.cell hx8
      go_wp2
      go_round
      case rel =>
        refine ⟨k + 1, by omega, by go_num, ?_⟩
        rw [hstep.out, ← Crc.eat_table, show (v : Int) / 256 = ((v / 256 : Nat) : Int) from by omega, u32_xor_nat (v / 256) _ (by omega) (Crc.steps_lt 8 (by omega))]
      case measure => simp [intOf]; omega
    · obtain rfl : k = len := by omega
      have hb := hr.1
      have hv : Crc.fold 4294967295 bs < 4294967296 := Crc.fold_lt _ (by omega) hb
      have hfin : Hid (Crc.fold 4294967295 (bs.take k) ^^^ 4294967295 = Crc.crc bs) := by
        have : bs.take k = bs := List.take_of_length_le (by rw [Hl.out]; omega)
        rw [this]; rfl
      have hv : Crc.fold 4294967295 (bs.take k) < 4294967296 := Crc.fold_lt _ (by omega) (fun c hc => hr.1 c (List.mem_of_mem_take hc))
      generalize Crc.fold 4294967295 (bs.take k) = v at *
      go_wp2
      go_ret
      exact ⟨by rw [← hfin.out, Nat.xor_comm, ← u32_xor_nat 4294967295 v (by omega) hv]; rfl, rfl⟩

theorem step_any (v : Nat) (w : World) (hv : v < 4294967296) : Calls Try.prog 28 #[.int .u32 (v : Int)] w fun e w' => e = .returned (.int .u32 (Crc.step v : Nat)) ∧ w = w' := by
  by_cases hp : v % 2 = 0
  · have ht1 : ((v : Int) % 2 == 1) = false := by rw [beq_eq_false_iff_ne]; omega
    have hs := Lib.hid (step_even_ v hp)
    clear hp
    go_enter Try.func28, Try.ntmps28
    go_wp2
    go_ret
    exact ⟨by rw [hs.out]; rfl, rfl⟩
  · have ht1 : ((v : Int) % 2 == 1) = true := by rw [beq_iff_eq]; omega
    have hs := Lib.hid (step_odd_ v hp)
    clear hp
    go_enter Try.func28, Try.ntmps28
    go_wp2
    go_ret
    exact ⟨by rw [hs.out, ← u32_xor_nat _ _ (by omega) (by omega)]; rfl, rfl⟩

set_option maxHeartbeats 400000 in
theorem refSum_any (B : Nat) (A : Option Addr) (len cap : Nat) (bs : List Nat) (w : World) (hr : Rd B w A bs) (hl : bs.length = len) (hm : len ≤ maxLen) :
    Calls Try.prog 14 #[.slice A len cap] w fun e w' => e = .returned (.int .u32 (Crc.crc bs : Nat)) ∧ w = w' := by
  unfold maxLen at hm
  have Hl := Lib.hid hl
  clear hl
  go_enter Try.func14, Try.ntmps14
  go_wp2
  go_loop [3, 8] (fun v i => ∃ k : Nat, k ≤ len ∧ i = .int .i64 k ∧ v = .int .u32 (Crc.fold 4294967295 (bs.take k) : Nat)) (fun _ i => len - (intOf i).toNat)
  case atStart => exact ⟨0, by omega, rfl, rfl⟩
  case round =>
    obtain ⟨k, hk, rfl, rfl⟩ := hrel
    by_cases hlt : k < len
    · obtain ⟨b, off, rfl, hbB, hc⟩ := hr.2 (by rw [Hl.out]; omega)
      have hck := hc k (by rw [Hl.out]; exact hlt)
      clear hc
      have hv : Crc.fold 4294967295 (bs.take k) < 4294967296 := Crc.fold_lt _ (by omega) (fun c hc => hr.1 c (List.mem_of_mem_take hc))
      have hstep : Hid (Crc.fold 4294967295 (bs.take (k + 1)) = Crc.eat (Crc.fold 4294967295 (bs.take k)) (bs[k]?.getD 0)) := Crc.fold_take _ _ _ (by rw [Hl.out]; exact hlt)
      have hbyte := hr.byte k
      generalize Crc.fold 4294967295 (bs.take k) = v at *
      generalize bs[k]?.getD 0 = c at *
      have hx : bits .xor .u32 (v : Int) (c : Int) = ((v ^^^ c : Nat) : Int) := u32_xor_nat v c hv (by omega)
      have hx32 : v ^^^ c < 4294967296 := Crc.xor_lt hv (by omega)
      have hstep2 : Hid (Crc.fold 4294967295 (bs.take (k + 1)) = Crc.steps 8 (v ^^^ c)) := by rw [hstep.out, Crc.eat_def]; exact rfl
      generalize v ^^^ c = x at *
      clear hstep
      go_wp2
      go_loop [3, 16] (fun v j => ∃ m : Nat, m ≤ 8 ∧ j = .int .i64 m ∧ v = .int .u32 (Crc.steps m x : Nat)) (fun _ j => 8 - (intOf j).toNat)
      case atStart => exact ⟨0, by omega, rfl, rfl⟩
      case round =>
        obtain ⟨m, hm', rfl, rfl⟩ := hrel
        have hs : Crc.steps m x < 4294967296 := Crc.steps_lt m hx32
        have hn : Hid (Crc.step (Crc.steps m x) = Crc.steps (m + 1) x) := (Crc.steps_succ m x).symm
        by_cases hm8 : m < 8
        · generalize Crc.steps m x = s at *
          go_wp2_with (go_at_call 28; refine (step_any s _ hs).mono ?_; rintro e w' ⟨rfl, rfl⟩)
          go_round
          case rel => exact ⟨m + 1, by omega, by go_num, by rw [hn.out]⟩
          case measure => simp [intOf]; omega
        · obtain rfl : m = 8 := by omega
          generalize Crc.steps 8 x = s at *
          go_wp2
          go_round
          case rel => exact ⟨k + 1, by omega, by go_num, by rw [hstep2.out]⟩
          case measure => simp [intOf]; omega
    · obtain rfl : k = len := by omega
      have hfin : Hid (Crc.fold 4294967295 (bs.take k) ^^^ 4294967295 = Crc.crc bs) := by
        have : bs.take k = bs := List.take_of_length_le (by rw [Hl.out]; omega)
        rw [this]; rfl
      have hv : Crc.fold 4294967295 (bs.take k) < 4294967296 := Crc.fold_lt _ (by omega) (fun c hc => hr.1 c (List.mem_of_mem_take hc))
      generalize Crc.fold 4294967295 (bs.take k) = v at *
      go_wp2
      go_ret
      exact ⟨by rw [← hfin.out, ← u32_xor_nat v 4294967295 hv (by omega)]; rfl, rfl⟩

theorem or4 (x0 x1 x2 x3 : Nat) (h0 : x0 < 256) (h1 : x1 < 256) (h2 : x2 < 256) (h3 : x3 < 256) :
    bits .or .u32 (bits .or .u32 (bits .or .u32 ((x0 : Int) * 16777216) ((x1 : Int) * 65536)) ((x2 : Int) * 256)) (x3 : Int) = ((x0 * 16777216 + x1 * 65536 + x2 * 256 + x3 : Nat) : Int) := by
  have e0 : (x0 : Int) * 16777216 = ((x0 * 16777216 : Nat) : Int) := by omega
  have e1 : (x1 : Int) * 65536 = ((x1 * 65536 : Nat) : Int) := by omega
  have e2 : (x2 : Int) * 256 = ((x2 * 256 : Nat) : Int) := by omega
  rw [e0, e1, e2, u32_or_nat _ _ (by omega) (by omega), nat_join24 _ _ (by omega) (by omega), u32_or_nat _ _ (by omega) (by omega), nat_join16 _ _ (by omega) (by omega), u32_or_nat _ _ (by omega) (by omega), nat_join8 _ _ (by omega) (by omega)]

def be4 (bs : List Nat) : Nat := bs[0]?.getD 0 * 16777216 + bs[1]?.getD 0 * 65536 + bs[2]?.getD 0 * 256 + bs[3]?.getD 0

set_option maxHeartbeats 400000 in
theorem word_any (B : Nat) (A : Option Addr) (len cap : Nat) (bs : List Nat) (w : World) (hr : Rd B w A bs) (hl : bs.length = len) (h4 : 4 ≤ len) :
    Calls Try.prog 35 #[.slice A len cap] w fun e w' => e = .returned (.int .u32 (be4 bs : Nat)) ∧ ∃ n, w' = w.drewN n := by
  obtain ⟨b, off, rfl, hbB, hc⟩ := hr.2 (by omega)
  have h0 := hc 0 (by omega)
  have h1 := hc 1 (by omega)
  have h2 := hc 2 (by omega)
  have h3 := hc 3 (by omega)
  have b0 := hr.byte 0
  have b1 := hr.byte 1
  have b2 := hr.byte 2
  have b3 := hr.byte 3
  have hbe : Hid (be4 bs = bs[0]?.getD 0 * 16777216 + bs[1]?.getD 0 * 65536 + bs[2]?.getD 0 * 256 + bs[3]?.getD 0) := rfl
  generalize bs[0]?.getD 0 = x0 at *
  generalize bs[1]?.getD 0 = x1 at *
  generalize bs[2]?.getD 0 = x2 at *
  generalize bs[3]?.getD 0 = x3 at *
  clear hc hr hl
  rw [Nat.add_zero] at h0
  go_enter Try.func35, Try.ntmps35
  go_wp2
  go_quiet (fail)
  go_wp2
  go_ret
  exact ⟨by rw [hbe.out, ← or4 x0 x1 x2 x3 b0 b1 b2 b3]; rfl, nq, rfl⟩
end Go.Proofs.Ytbhojobonihccaa
