/- The reference's count, for every list of at most 40 literals. -/
import Derived.Test.YtppgpafnifmmfaaRCnt2
namespace Go.Proofs.Ytppgpafnifmmfaa
open Go.ChangeShapes Go.WideShapes Go.ChangeAt Go.RowKit

theorem rcount_any : ∀ (k : Nat) (base B : Nat) (w : World) (v : Value) (cl : List (List Int)) (A : Option Addr) (n c M m : Nat) (zs : List Int), n ≤ k → Cls w base v cl → base ≤ w.heap.size → RdI B w A zs → B ≤ base → zs.length = n → 1 ≤ n → n ≤ 40 → n ≤ c →
    1 ≤ M → M ≤ 1099511627776 → (∀ x ∈ zs, -65537 ≤ x ∧ x ≤ 65537) → m + Tot.size M n ≤ 65537 → cl.length + 882 * (n - 1) ≤ 800000 →
    Calls Try.prog 27 #[.agg #[v, .int .i64 (m : Int)], .slice A n c, .int .i64 (M : Int)] w (RCnt base w M zs m cl) := by
  intro k
  induction k with
  | zero => intro base B w v cl A n c M m zs q1 q2 q3 q4 q5 q6 q7; omega
  | succ k ih =>
    intro base B w v cl A n c M m zs q1 q2 q3 q4 q5 q6 q7 q8 q9 hM hM2 hz hb hc
    by_cases h1 : n = 1
    · subst h1
      exact rcount_one base B w v cl A c M m zs q2 q3 q4 q5 q6 hM
    · obtain ⟨h, hh⟩ : ∃ h, n / 2 = h := ⟨_, rfl⟩
      obtain ⟨s1, hs1⟩ : ∃ s, Tot.size M h = s := ⟨_, rfl⟩
      obtain ⟨s2, hs2⟩ : ∃ s, Tot.size M (n - h) = s := ⟨_, rfl⟩
      obtain ⟨a, ca, hca⟩ : ∃ a ca, Tot.cnt M (zs.take h) m = (a, ca) := ⟨_, _, rfl⟩
      obtain ⟨b, cb, hcb⟩ : ∃ b cb, Tot.cnt M (zs.drop h) (m + s1) = (b, cb) := ⟨_, _, rfl⟩
      have e1 : (zs.take h).length = h := by rw [List.length_take]; omega
      have e2 : (zs.drop h).length = n - h := by rw [List.length_drop]; omega
      rw [Tot.size_big (by omega), hh, hs1, hs2] at hb
      have z1 : ∀ x ∈ zs.take h, -65537 ≤ x ∧ x ≤ 65537 := fun x hx => hz x (List.mem_of_mem_take hx)
      have z2 : ∀ x ∈ zs.drop h, -65537 ≤ x ∧ x ≤ 65537 := fun x hx => hz x (List.mem_of_mem_drop hx)
      have la := cnt_lits (most := M) (zs.take h) m z1 (by rw [e1, hs1]; omega)
      have lb := cnt_lits (most := M) (zs.drop h) (m + s1) z2 (by rw [e2, hs2]; omega)
      have na := cnt_length (most := M) (zs.take h) m
      have nb := cnt_length (most := M) (zs.drop h) (m + s1)
      have ka := cnt_clauses40 (most := M) h (zs.take h) m (by omega) (by omega)
      have kb := cnt_clauses40 (most := M) (n - h) (zs.drop h) (m + s1) (by omega) (by omega)
      rw [hca] at la na ka
      rw [hcb] at lb nb kb
      rw [e1] at na ka
      rw [e2] at nb kb
      dsimp only at na ka nb kb la lb
      exact rcount_more base B w v cl A n c M m h s1 s2 zs a b ca cb q2 q3 q4 q5 q6 (by omega) q8 q9 hM hM2 hh hs1 hs2 hca hcb (by omega) (by omega) la lb (by omega) (by omega)
        (fun W v' r1 r2 r3 => ih base B W v' cl A h c M m (zs.take h) (by omega) r1 r2 r3 q5 e1 (by omega) (by omega) (by omega) hM hM2 z1 (by rw [hs1]; omega) (by omega))
        (fun W v' r1 r2 r3 => ih base B W v' (cl ++ ca) (cutA c h A) (n - h) (c - h) M (m + s1) (zs.drop h) (by omega) r1 r2 r3 q5 e2 (by omega) (by omega) (by omega) hM hM2 z2 (by rw [hs2]; omega) (by rw [List.length_append]; omega))
end Go.Proofs.Ytppgpafnifmmfaa
