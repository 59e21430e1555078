/- A totalizer with the clause of one output can be satisfied just where so many literals are true. -/
import Derived.Test.YtpiomdnkemoanaaTUnary
import Derived.Test.YtpiomdnkemoanaaMeansM
namespace Go.Proofs.Ytpiomdnkemoanaa.Ttl
open Tot

theorem tv_negok (bs : List Bool) : NegOk (tv bs) := fun x h => tv_not bs x h
theorem lit_nz {v : Nat} {l : List Int} (h : ∀ x ∈ l, Lit v x) : Nz l := fun x hx => (h x hx).1
/-- A literal under an assignment that is a function. -/
def val (e : Nat → Bool) (x : Int) : Bool := if x < 0 then !e (-x).toNat else e x.toNat
theorem val_pos (e : Nat → Bool) (k : Nat) : val e (k : Int) = e k := by unfold val; rw [if_neg (by omega), Int.toNat_natCast]
theorem val_negok (e : Nat → Bool) : NegOk (val e) := by
  intro x h
  rcases (show x < 0 ∨ 0 < x by omega) with h1 | h1
  · unfold val; rw [if_neg (by omega), if_pos h1, Bool.not_not]
  · unfold val; rw [if_pos (by omega), if_neg (by omega), Int.neg_neg]
theorem tv_val (bs : List Bool) : tv bs = val (fun k => bs[k]?.getD false) := rfl
def Agree (v : Nat) (e e' : Nat → Bool) : Prop := ∀ k, k < v → e k = e' k
theorem Agree.symm {v : Nat} {e e' : Nat → Bool} (h : Agree v e e') : Agree v e' e := fun k hk => (h k hk).symm
theorem val_congr {v : Nat} {e e' : Nat → Bool} (h : Agree v e e') {x : Int} (hx : Lit v x) : val e x = val e' x := by
  obtain ⟨a, b, c⟩ := hx
  unfold val
  split
  · rw [h _ (by omega)]
  · rw [h _ (by omega)]
theorem satf_congr {v : Nat} {e e' : Nat → Bool} (h : Agree v e e') {cl : List (List Int)} (hl : ∀ c ∈ cl, ∀ x ∈ c, Lit v x) (hs : satf (val e) cl) : satf (val e') cl := by
  intro c hc
  obtain ⟨x, hx, hv⟩ := List.any_eq_true.1 (hs c hc)
  exact List.any_eq_true.2 ⟨x, hx, by rw [← val_congr h (hl c hc x hx)]; exact hv⟩
theorem ctf_congr {v : Nat} {e e' : Nat → Bool} (h : Agree v e e') {l : List Int} (hl : ∀ x ∈ l, Lit v x) : ctf (val e) l = ctf (val e') l := by
  unfold ctf
  rw [List.filter_congr (fun x hx => val_congr h (hl x hx))]
theorem from_get (m n i : Nat) (h : i < n) : (from_ m n)[i]?.getD 0 = ((m + i : Nat) : Int) := by
  induction n with
  | zero => omega
  | succ n ih =>
    rw [from_]
    by_cases h1 : i < n
    · rw [List.getElem?_append_left (by rw [from_length]; exact h1), ih h1]
    · obtain rfl : i = n := by omega
      rw [List.getElem?_append_right (by rw [from_length]; exact Nat.le_refl _), from_length, Nat.sub_self]; rfl
theorem lit_take {v : Nat} {l : List Int} (h : ∀ x ∈ l, Lit v x) (k : Nat) : ∀ x ∈ l.take k, Lit v x := fun x hx => h x (List.mem_of_mem_take hx)
theorem lit_drop {v : Nat} {l : List Int} (h : ∀ x ∈ l, Lit v x) (k : Nat) : ∀ x ∈ l.drop k, Lit v x := fun x hx => h x (List.mem_of_mem_drop hx)

theorem size_zero (n : Nat) : ∀ k, n ≤ k → Tot.size 0 n = 0 := by
  intro k
  induction k generalizing n with
  | zero => intro h; exact Tot.size_small (by omega)
  | succ k ih =>
    intro h
    by_cases h2 : n < 2
    · exact Tot.size_small h2
    · rw [Tot.size_big h2, ih _ (by omega), ih _ (by omega)]; omega
/-- There is an extension. -/
theorem cnt_ext {M m0 : Nat} (h0 : 1 ≤ m0) : ∀ (k : Nat) (l : List Int) (m : Nat), l.length ≤ k → m0 ≤ m → (∀ x ∈ l, Lit m0 x) → ∀ e0 : Nat → Bool,
    ∃ e : Nat → Bool, Agree m e e0 ∧ satf (val e) (cnt M l m).2
  | k, l, m, hk, hm, hl, e0 => by
    by_cases h : min l.length M = 0
    · exact ⟨e0, fun _ _ => rfl, by rw [cnt_none h]; intro c hc; simp at hc⟩
    · by_cases h1 : l.length = 1
      · exact ⟨e0, fun _ _ => rfl, by rw [cnt_one h h1]; intro c hc; simp at hc⟩
      · cases k with
        | zero => omega
        | succ k =>
          have e1 : (l.take (l.length / 2)).length = l.length / 2 := by rw [List.length_take]; omega
          have e2 : (l.drop (l.length / 2)).length = l.length - l.length / 2 := List.length_drop ..
          obtain ⟨s1, hs1⟩ : ∃ s, size M (l.length / 2) = s := ⟨_, rfl⟩
          obtain ⟨s2, hs2⟩ : ∃ s, size M (l.length - l.length / 2) = s := ⟨_, rfl⟩
          have g1 := cnt_good (most := M) h0 k (l.take (l.length / 2)) m (by omega) hm (lit_take hl _)
          have g2 := cnt_good (most := M) h0 k (l.drop (l.length / 2)) (m + s1) (by omega) (by omega) (lit_drop hl _)
          obtain ⟨f1, a1, q1⟩ := cnt_ext (M := M) h0 k (l.take (l.length / 2)) m (by omega) hm (lit_take hl _) e0
          obtain ⟨f2, a2, q2⟩ := cnt_ext (M := M) h0 k (l.drop (l.length / 2)) (m + s1) (by omega) (by omega) (lit_drop hl _) f1
          rw [e1, hs1] at g1
          rw [e2, hs2] at g2
          obtain ⟨K, hK⟩ : ∃ K, ctf (val f2) l = K := ⟨_, rfl⟩
          let e : Nat → Bool := fun v => if m + s1 + s2 ≤ v then decide (v - (m + s1 + s2) < K) else f2 v
          have ae : Agree (m + s1 + s2) f2 e := fun v hv => by show f2 v = if _ then _ else _; rw [if_neg (by omega)]
          have b1 : satf (val e) (cnt M (l.take (l.length / 2)) m).2 := satf_congr (v := m + s1) (fun v hv => (a2 v hv).symm.trans (ae v (by omega))) (fun c hc => (g1.2 c hc).2.2) q1
          have b2 : satf (val e) (cnt M (l.drop (l.length / 2)) (m + s1)).2 := satf_congr (v := m + s1 + s2) ae (fun c hc => (g2.2 c hc).2.2) q2
          have u1 := cnt_unary (val_negok e) k _ _ (by omega) (by omega) (lit_nz (lit_take hl _)) b1
          have u2 := cnt_unary (val_negok e) k _ _ (by omega) (by omega) (lit_nz (lit_drop hl _)) b2
          have hct : ctf (val e) l = K := by rw [← hK]; exact ctf_congr (v := m + s1 + s2) ae.symm (fun x hx => (hl x hx).mono (by omega))
          have uo : Unary (val e) (from_ (m + s1 + s2) (min l.length M)) (ctf (val e) (l.take (l.length / 2)) + ctf (val e) (l.drop (l.length / 2))) := by
            intro i hi
            rw [from_length] at hi
            rw [from_get _ _ _ hi, val_pos, ← ctf_halves, hct]
            show (if _ then _ else _) = _
            rw [if_pos (by omega), show m + s1 + s2 + i - (m + s1 + s2) = i by omega]
          refine ⟨e, fun v hv => (ae v (by omega)).symm.trans ((a2 v (by omega)).trans (a1 v hv)), ?_⟩
          rw [cnt_more h h1, hs1, hs2, satf_append, satf_append]
          refine ⟨⟨b1, b2⟩, ?_⟩
          exact (merge_sat (val_negok e) (na := l.length / 2) (nb := l.length - l.length / 2) (M := M) u1 u2 (cnt_nz _ _ (by omega) (lit_nz (lit_take hl _))) (cnt_nz _ _ (by omega) (lit_nz (lit_drop hl _))) (from_nz _ _ (by omega))
            (by rw [cnt_length, e1]) (by rw [cnt_length, e2]) (by rw [from_length, show l.length / 2 + (l.length - l.length / 2) = l.length by omega])
            (by have := ctf_le (val e) (l.take (l.length / 2)); omega) (by have := ctf_le (val e) (l.drop (l.length / 2)); omega)).2 uo

theorem size_five (M n : Nat) (h : n ≤ 5) : Tot.size M n ≤ 25 := by
  have := size_le M n n (Nat.le_refl _)
  have h2 : n * n ≤ 25 := Nat.mul_le_mul h h
  omega
theorem tot_can {n N S k : Nat} {zs : List Int} (hl : zs.length = n) (hn : n ≤ 5) (h1 : 1 ≤ N) (h2 : N ≤ 30000) (hz : ∀ x ∈ zs, Lit N x) (hS : Tot.size n n = S) (hk1 : 1 ≤ k) (hk2 : k ≤ n) (hlen : (Tot.cnt n zs N).2.length ≤ 10000) :
    (Tot.cnt n zs N).1.length = n ∧ CanOf N ((Tot.cnt n zs N).2 ++ [[(Tot.cnt n zs N).1[k - 1]?.getD 0]]) (N + S) S (fun bs => (k : Int) ≤ (ct bs zs : Int)) := by
  have hol : (Tot.cnt n zs N).1.length = n := by rw [cnt_length, hl]; omega
  have hgood := cnt_good (most := n) h1 n zs N (by omega) (Nat.le_refl _) hz
  rw [hl, hS] at hgood
  have hs5 := size_five n n hn
  have hko : k - 1 < (Tot.cnt n zs N).1.length := by omega
  have hout : (Tot.cnt n zs N).1[k - 1]?.getD 0 ∈ (Tot.cnt n zs N).1 := by rw [List.getElem?_eq_getElem hko]; exact List.getElem_mem _
  have hlits : ∀ x ∈ (Tot.cnt n zs N).2 ++ [[(Tot.cnt n zs N).1[k - 1]?.getD 0]], ∀ y ∈ x, Lit (N + S) y := by
    intro x hx y hy
    rcases List.mem_append.1 hx with hx | hx
    · exact (hgood.2 x hx).2.2 y hy
    · rw [List.mem_singleton.1 hx, List.mem_singleton] at hy
      rw [hy]; exact hgood.1 _ hout
  have hun : ∀ b : List Bool, (∀ c ∈ (Tot.cnt n zs N).2, c.any (tv b) = true) → tv b ((Tot.cnt n zs N).1[k - 1]?.getD 0) = decide (k - 1 < ct b zs) := fun b hb =>
    cnt_unary (tv_negok b) zs.length zs N (Nat.le_refl _) h1 (lit_nz hz) hb (k - 1) hko
  refine ⟨hol, rfl, hlits, by rw [List.length_append]; simp; omega, by omega, fun bs hb => ?_⟩
  have hsat : ∀ e, sat e ((Tot.cnt n zs N).2 ++ [[(Tot.cnt n zs N).1[k - 1]?.getD 0]]) = (sat e (Tot.cnt n zs N).2 && tv e ((Tot.cnt n zs N).1[k - 1]?.getD 0)) := fun e => by
    unfold sat
    rw [List.all_append]
    simp
  constructor
  · rintro ⟨t, _, hs⟩
    rw [hsat, Bool.and_eq_true] at hs
    have := hun _ (sat_iff.1 hs.1)
    rw [hs.2] at this
    have h3 := of_decide_eq_true this.symm
    rw [ct_agr (m := N) (by rw [← hb]; exact ext_agr bs t _) hz] at h3
    show (k : Int) ≤ _
    omega
  · intro hc
    have hc : (k : Int) ≤ (ct bs zs : Int) := hc
    obtain ⟨e, ha, he⟩ := cnt_ext (M := n) h1 zs.length zs N (Nat.le_refl _) (Nat.le_refl _) hz (fun v => bs[v]?.getD false)
    obtain ⟨b, hbe⟩ : ∃ b : List Bool, b = (List.range (N + S)).map e := ⟨_, rfl⟩
    have hbl : b.length = N + S := by rw [hbe]; simp
    have hbg : ∀ v, v < N + S → b[v]?.getD false = e v := fun v hv => by rw [hbe, List.getElem?_map, List.getElem?_range hv]; rfl
    have hbs : satf (tv b) (Tot.cnt n zs N).2 := by
      rw [tv_val]
      exact satf_congr (v := N + S) (e := e) (fun v hv => (hbg v hv).symm) (fun c hc => (hgood.2 c hc).2.2) he
    have hba : Agr N b bs := fun v hv => (hbg v (by omega)).trans (ha v hv)
    obtain ⟨t, ht, het⟩ := ext_of (bs := bs) (b := b) (F := S) (by rw [hbl, hb]) (by rw [hb]; exact hba)
    refine ⟨t, ht, ?_⟩
    rw [het, hsat, Bool.and_eq_true]
    refine ⟨sat_iff.2 hbs, ?_⟩
    rw [hun b hbs]
    have : ct b zs = ct bs zs := ct_agr hba hz
    exact decide_eq_true (by omega)
end Go.Proofs.Ytpiomdnkemoanaa.Ttl
