/- One position of a sum, as a state of the summer. -/
import Derived.Test.YtpeklcbjhkchlaaSumM
namespace Go.Proofs.Ytpeklcbjhkchlaa
open Go.RowKit Go.Maps
set_option maxRecDepth 30000

theorem red_carry : ∀ (k : Nat) (q : List Int) (next : Nat) (r : List Int × List Int × List (List Int) × Nat), q.length ≤ k → red q next = some r → ∀ x ∈ r.2.1, 1 ≤ x ∧ x ≤ 65536
  | k, q, next, r, hk, h, x, hx => by
    by_cases h1 : q.length ≤ 1
    · rw [red_done next h1] at h
      injection h with h
      subst h
      simp at hx
    · by_cases h2 : 65535 < next
      · rw [red_none h1 h2] at h; cases h
      · rw [red_more h1 h2] at h
        match k, hk with
        | 0, hk => omega
        | k + 1, hk =>
          rcases hq : red (q.drop (min 3 q.length) ++ [(next : Int)]) (next + 2) with _ | t
          · rw [hq] at h; cases h
          · rw [hq] at h
            injection h with h
            subst h
            rcases List.mem_cons.1 hx with rfl | hx
            · omega
            · exact red_carry k _ _ t (by simp only [List.length_append, List.length_drop, List.length_singleton]; omega) hq x hx
theorem QM.ghost {w : World} {b n : Nat} {val : Nat → Value} (h : QM w b n val) (v : Value) : QM w b n (updV val 1000001 v) := by
  obtain ⟨D, h1, h2, h3⟩ := h
  refine ⟨D, h1, h2, fun p hp => ?_⟩
  unfold updV
  rw [if_neg (by omega)]
  exact h3 p hp
theorem qs_ghost {xs : List Nat} {ls : List Int} (h : ∀ x ∈ xs, x < 2 ^ 64) : qs xs ls 1000001 = [] := by
  have := hgt_le h
  exact qs_over h (by omega)
theorem SumSt.start {w w1 : World} {xs : List Nat} {ls : List Int} {next n : Nat} (h : NewSt w xs ls next n 0 0 0 w1) (h1 : xs.length = n) (h2 : ls.length = n) (hx : ∀ x ∈ xs, x < 2 ^ 64) (hnx : next ≤ 65537) :
    ∃ val Q m top, SumSt w xs ls next 0 (.slice Option.none 0 0) [] w1 val Q m top [] next [] := by
  obtain ⟨hb, val, m, hm, hg, S⟩ := h
  rw [qb_zero, List.take_of_length_le (by omega), List.take_of_length_le (by omega), lb, Nat.max_zero] at S
  refine ⟨val, _, m, _, hb, ⟨_, _, S⟩, hg, qs_ghost hx, by simp, fun _ _ _ => rfl, by omega, fun _ => .inl (by omega), fun h => absurd rfl h, fun h => absurd rfl h, ?_, ⟨Nat.le_refl _, hnx⟩, by simp, by omega, fun x hx => absurd hx (by simp), rfl⟩
  rw [List.drop_zero]
  cases addUp (rowsOf xs ls) [] next with
  | none => rfl
  | some t => simp
theorem SumSt.next {w wr w2 w3 : World} {xs : List Nat} {ls : List Int} {next k n nx : Nat} {gv v' : Value} {bits carry : List Int} {val : Nat → Value} {Q : Nat → List Int} {top z : Int} {c : List (List Int)} {r : List Int × List Int × List (List Int) × Nat} (S : SumSt w xs ls next k gv bits wr val Q n top c nx carry)
    (hx : ∀ x ∈ xs, x < 2 ^ 64) (hk : (k : Int) ≤ top) (hk4 : k ≤ 40000) (hr : red (Q k) nx = some r) (R : RedSt gv wr w2 (w.heap.size + 1) w.heap.size (w.heap.size + 2) n Q top c nx k r.1 r.2.1 r.2.2.1 r.2.2.2) (hz : r.1.headD 0 = z)
    (hq : QI w3 (w.heap.size + 2) v' (bits ++ [z])) (hg : (w2.alloc (.cells #[.int .i64 z] 3)).grownBy w3 gv.ownBlock) (ho : v'.ownBlock = gv.ownBlock ∨ ∀ b, v'.ownBlock = some b → (w2.alloc (.cells #[.int .i64 z] 3)).heap.size ≤ b) :
    ∃ val Q n top, SumSt w xs ls next (k + 1) v' (bits ++ [z]) w3 val Q n top (c ++ r.2.2.1) r.2.2.2 r.2.1 := by
  obtain ⟨val1, Q1, n1, top1, g1, ⟨cv1, vs1, S1⟩, h0, h1, h2, h3, h4, h5⟩ := R.sm
  have hal := (Below.refl w2.heap.size w2).alloc (Nat.le_refl _) (.cells #[.int .i64 z] 3)
  have Sa := S1.below hal
  have hgb := Sa.gb
  have hgq := Sa.q 1000001
  rw [← g1] at hg ho
  have hm : QM w3 w.heap.size n1 (updV val1 1000001 v') := (Sa.qm.kept hg (fun e => by have := (hgq.lt e.symm).1; omega)).ghost v'
  obtain ⟨P1, P2⟩ := Sa.pushed (p := 1000001) hq hg ho hm (World.grownBy.refl _ _)
  have hlow2 := P2.low (lo := w.heap.size) (by omega) (Nat.le_refl _) (fun b hb => by have := (hgq.lt hb).1; omega) (by have := R.size; have := S.low.size; simp; omega)
  have hd := hk
  rw [S.less] at hd
  have hdr : ((rowsOf xs ls).drop k).headD [] ++ carry = Q k := by rw [headD_drop, rowsOf_at hx, S.here]
  have hnx := R.nx
  have hnx0 := S.nxs
  have hfew := R.few
  have hfew0 := S.few
  have hcn := S.cn
  have t1 := S.t1
  have htop : top ≤ max ((hgt xs : Int) - 1) (k : Int) := by
    by_cases hc : carry = []
    · have := S.t2 hc; omega
    · have := S.t3 hc; omega
  have hcar := red_carry _ _ _ _ (Nat.le_refl _) hr
  refine ⟨_, _, _, _, ((S.low.trans (R.low _ (by omega) (Nat.le_refl _) (by omega))).trans (hal.mono (by have := R.size; have := S.low.size; omega))).trans hlow2, ⟨_, _, P1⟩, ?_, ?_, ?_, fun q hq1 hq2 => ?_, ?_, fun e => ?_, fun e => ?_, fun e => ?_, ?_, ⟨by omega, by omega⟩, ⟨?_, ?_⟩, by omega, fun x hx => by have := hcar x hx; omega, ?_⟩
  · unfold updV; rw [if_pos rfl]
  · rw [updQ_same]
  · rw [updQ_other _ _ (by omega), h1, S.later (k + 1) (by omega) (by omega)]
  · rw [updQ_other _ _ hq2, h2 q (by omega) (by omega), S.later q (by omega) hq2]
  · by_cases hc : r.2.1 = []
    · rw [(h3 hc).1]; exact t1
    · rw [h4 hc]; omega
  · rw [(h3 e).1]; omega
  · rw [h4 e]; omega
  · have hne : 0 < r.2.1.length := List.length_pos_iff.2 e
    by_cases hc : carry = []
    · have := S.t2 hc; omega
    · have := S.far hc; omega
  · rw [S.more, addUp_some hd (by rw [hdr]; exact hr), List.tail_drop, hz]
    cases addUp ((rowsOf xs ls).drop (k + 1)) r.2.1 r.2.2.2 with
    | none => rfl
    | some t => simp
  · rw [List.length_append]; omega
  · omega
  · rw [List.length_append, S.bw]; rfl
end Go.Proofs.Ytpeklcbjhkchlaa
