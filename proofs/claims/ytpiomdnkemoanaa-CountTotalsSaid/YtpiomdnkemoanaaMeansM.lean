/- When the clauses of Least and of Most can be satisfied by an extension, in plain mathematics; can for all arguments. -/
import Derived.Test.YtpiomdnkemoanaaCan
import Derived.Test.YtpiomdnkemoanaaMosts
namespace Go.Proofs.Ytpiomdnkemoanaa
open Go.RowKit

/-- What is said of clauses, the variable behind them and a condition: an assignment can be extended just where the condition holds. -/
structure CanOf (N : Nat) (cl : List (List Int)) (a F : Nat) (P : List Bool → Prop) : Prop where
  sum : N + F = a
  lits : ∀ x ∈ cl, ∀ y ∈ x, Lit a y
  len : cl.length ≤ 20000
  low : a ≤ 40000
  iff : ∀ bs : List Bool, bs.length = N → ((∃ t, t < 2 ^ F ∧ sat (ext bs t F) cl = true) ↔ P bs)
theorem ls_err {n : Nat} {zs : List Int} (k : Int) {N : Nat} (hn : n ≤ 4096) (h1 : 1 ≤ N) (h2 : N ≤ 65537) (hd : Tot.dist (N : Int) [] zs = false) : lsOf n zs k N = ([], 0, 140) := by
  unfold lsOf
  rw [if_neg (by omega), if_pos hd]
theorem ls_can {n : Nat} {zs : List Int} (k : Int) {N : Nat} (hl : zs.length = n) (hn : n ≤ 60) (h1 : 1 ≤ N) (h2 : N ≤ 30000) (hd : Tot.dist (N : Int) [] zs = true) :
    ∃ cl a F, lsOf n zs k N = (cl, a, 0) ∧ (∀ x ∈ zs, Lit N x) ∧ CanOf N cl a F (fun bs => k ≤ (ct bs zs : Int)) := by
  rcases ls_cases (n := n) (zs := zs) k N hn h1 h2 with ⟨E, _, hd2, _⟩ | ⟨_, hz, ⟨hk, e⟩ | ⟨hk, e⟩ | ⟨K, rfl, hK1, hK2, e⟩⟩
  · rw [hd] at hd2; cases hd2
  · refine ⟨_, _, 0, e, hz, rfl, by simp, by simp, by omega, fun bs hb => ?_⟩
    constructor
    · intro _; show k ≤ _; omega
    · intro _; exact ⟨0, by simp, rfl⟩
  · refine ⟨_, _, 0, e, hz, rfl, by simp, by simp, by omega, fun bs hb => ?_⟩
    have := ct_le bs zs
    constructor
    · rintro ⟨t, _, h⟩; simp [sat] at h
    · intro h; exfalso; have h : k ≤ (ct bs zs : Int) := h; omega
  · have hreg := regs_le K n
    have hsq : n * n ≤ 3600 := Nat.mul_le_mul hn hn
    have hlen := crows_length zs K N hK1 n
    have hcl : (ctr zs K N).length = (crows zs K N n).length + 1 := by unfold ctr; rw [hl, List.length_append]; rfl
    refine ⟨_, _, regs K n, e, hz, rfl, ctr_good hl h1 hK1 (by omega) hz, by omega, by omega, fun bs hb => ?_⟩
    constructor
    · rintro ⟨t, _, h⟩
      have := ctr_imp hl h1 hK1 hK2 h
      rw [ct_agr (m := N) (by rw [← hb]; exact ext_agr bs t _) hz] at this
      show (K : Int) ≤ _
      omega
    · intro h
      have h : (K : Int) ≤ (ct bs zs : Int) := h
      have hs := run_sat (bs := bs) hl (by omega) hK1 hK2 (by rw [hb]; exact hz) (by omega)
      rw [hb] at hs
      obtain ⟨t, ht, e2⟩ := ext_of (bs := bs) (b := runR bs zs K n) (F := regs K n) (by rw [runR_len, cst_regs]) (run_agr bs zs K n)
      exact ⟨t, ht, by rw [e2]; exact hs⟩
theorem ct_ng (bs : List Bool) {N : Nat} (hN : N ≤ 65537) : ∀ (zs : List Int), (∀ x ∈ zs, Lit N x) → ct bs (zs.map ng) + ct bs zs = zs.length
  | [], _ => rfl
  | x :: zs, h => by
    have ih := ct_ng bs hN zs (fun y hy => h y (List.mem_cons_of_mem _ hy))
    have hx := h x (by simp)
    have e : ng x = -x := by unfold ng; rw [if_neg]; have := hx.2.1; omega
    have hc : ∀ (y : Int) (l : List Int), ct bs (y :: l) = (if tv bs y then 1 else 0) + ct bs l := by
      intro y l
      unfold ct
      by_cases hy : tv bs y = true
      · rw [List.filter_cons_of_pos hy, if_pos hy, List.length_cons]; omega
      · rw [List.filter_cons_of_neg hy, if_neg hy]; omega
    rw [List.map_cons, hc, hc, e, tv_not bs x hx.1, List.length_cons]
    cases tv bs x <;> simp <;> omega
theorem ms_can {n : Nat} {zs : List Int} (k : Int) {N : Nat} (hl : zs.length = n) (hn : n ≤ 60) (h1 : 1 ≤ N) (h2 : N ≤ 30000) (hd : Tot.dist (N : Int) [] zs = true) :
    ∃ cl a F, lsOf n (zs.map ng) (mostK n k) N = (cl, a, 0) ∧ CanOf N cl a F (fun bs => (ct bs zs : Int) ≤ k) := by
  have hd2 : Tot.dist (N : Int) [] (zs.map ng) = true := by rw [← hd]; exact dist_ng (by omega) zs []
  obtain ⟨cl, a, F, e, hz, h⟩ := ls_can (zs := zs.map ng) (mostK n k) (by rw [List.length_map, hl]) hn h1 h2 hd2
  refine ⟨cl, a, F, e, h.sum, h.lits, h.len, h.low, fun bs hb => (h.iff bs hb).trans ?_⟩
  have hc := ct_ng bs (N := N) (by omega) zs (dist_bound zs [] hd)
  have hle := ct_le bs zs
  unfold mostK
  by_cases q : k < 0
  · rw [if_pos q]; constructor <;> intro <;> omega
  · rw [if_neg q]
    by_cases q2 : k < n
    · rw [if_pos q2]; constructor <;> intro <;> omega
    · rw [if_neg q2]; constructor <;> intro <;> omega
theorem can_any (A D : Option Addr) (C c N d a F : Nat) (cl : List (List Int)) (bs : List Bool) (P : List Bool → Prop) (z : Bool) (w : World) (hr : RdR w.heap.size w A cl) (hC : cl.length = C) (hg : ∀ j, j < cl.length → (cl[j]?.getD []).length ≤ maxLen) (hD : RdB w.heap.size w D bs) (hN : bs.length = N) (hN1 : 1 ≤ N) (hN2 : N ≤ 10000)
    (h : CanOf N cl a F P) (hz : z = true ↔ P bs) :
    Calls Try.prog 18 #[.slice A C c, .slice D N d, .int .i64 (a : Int)] w fun e w' => e = .returned (.tuple #[.bool (decide (F ≤ 9) && z), .bool (decide (F ≤ 9))]) ∧ Below w.heap.size w w' := by
  have hsum := h.sum
  have hlow := h.low
  have hlen := h.len
  by_cases q : F ≤ 9
  · rw [decide_eq_true q, Bool.true_and]
    exact can_some A D C c N d a F cl bs z w hr hC (by unfold maxLen; omega) hg hD hN hN1 hN2 hsum q h.lits (hz.trans (h.iff bs hN).symm)
  · rw [decide_eq_false q, Bool.false_and]
    refine (can_none A D C c N d a w (by omega) (by omega) (by omega)).mono ?_
    rintro e w' ⟨rfl, rfl⟩
    exact ⟨rfl, Below.refl _ _⟩
theorem ls_at {n : Nat} {zs : List Int} {k : Int} {N : Nat} {cl : List (List Int)} {a : Nat} {E : Int} (A : Option Addr) (c : Nat) (hl : zs.length = n) (h : lsOf n zs k N = (cl, a, E)) :
    ∀ W : World, RdI W.heap.size W A zs → Calls Try.prog 13 #[.slice A n c, .int .i64 k, .int .i64 (N : Int)] W (LsRes W cl a E) := fun W hW => by
  have := Least_all A n c k N zs W hW hl
  rw [h] at this
  exact this
theorem RdR.more {B B' : Nat} {w : World} {A : Option Addr} {xss : List (List Int)} (h : RdR B w A xss) (hB : B ≤ B') : RdR B' w A xss := by
  intro hn
  obtain ⟨b, off, rfl, hlt, hc⟩ := h hn
  refine ⟨b, off, rfl, by omega, fun j hj => ?_⟩
  obtain ⟨E, c, h1, h2⟩ := hc j hj
  exact ⟨E, c, h1, h2.more hB⟩
end Go.Proofs.Ytpiomdnkemoanaa
