/- The builder: variable, each, saturate. -/
import Derived.Test.YtoacfjmefoiflaaTerm
namespace Go.Proofs.Ytoacfjmefoiflaa
open Go.RowKit Go.Maps
set_option maxRecDepth 100000

/-- What one variable adds to the rows. -/
def vC (p q : Int) : List Int := if q < p then [p - q] else if p < q then [q - p] else []
def vL (v p q : Int) : List Int := if q < p then [v] else if p < q then [-v] else []
theorem Bld.setk {w : World} {g base : Nat} {cs ls : List Int} {k : Int} (B : Bld w g base cs ls k) (x : Int) : Bld (w.setCell ⟨g, 2, none⟩ (.int .i64 x)) g base cs ls x ∧ w.cell? ⟨g, 2, none⟩ = some (.int .i64 k) ∧ w.frozen? ⟨g, 2, none⟩ = false := by
  obtain ⟨v1, v2, hat, q1, q2, dis, hgb, hbs⟩ := B
  exact ⟨⟨v1, v2, hat.set2 x, q1.set hgb, q2.set hgb, dis, hgb, by simpa using hbs⟩, hat.cells.2.2, hat.frozen 2⟩
set_option maxHeartbeats 4000000 in
theorem variable_any (g base : Nat) (cs ls : List Int) (k v p q : Int) (w : World) (B : Bld w g base cs ls k) (hk : -9007199254740992 ≤ k ∧ k ≤ 9007199254740992) (hp : -9007199254740992 ≤ p ∧ p ≤ 9007199254740992) (hq : -9007199254740992 ≤ q ∧ q ≤ 9007199254740992) (hv : -65536 ≤ v ∧ v ≤ 65536) (hn1 : cs.length ≤ 1000000) (hn2 : ls.length ≤ 1000000) :
    Calls Try.prog 38 #[.pointer (some ⟨g, 0, none⟩), .int .i64 v, .int .i64 p, .int .i64 q] w fun e w' => e = .returned (.tuple #[]) ∧ Bld w' g base (cs ++ vC p q) (ls ++ vL v p q) (k - min p q) ∧ Below g w w' := by
  obtain ⟨hk1, hk2⟩ := hk
  obtain ⟨hp1, hp2⟩ := hp
  obtain ⟨hq1, hq2⟩ := hq
  obtain ⟨hv1, hv2⟩ := hv
  obtain ⟨m, hm⟩ : ∃ m, min p q = m := ⟨_, rfl⟩
  have hm1 : -9007199254740992 ≤ m ∧ m ≤ 9007199254740992 := by omega
  obtain ⟨hm1, hm2⟩ := hm1
  obtain ⟨B2, c2, f2⟩ := B.setk (k - m)
  have hb2 : Below g w (w.setCell ⟨g, 2, none⟩ (.int .i64 (k - m))) := (Below.refl g w).setCell (p := ⟨g, 2, none⟩) (Nat.le_refl _) _
  rw [hm]
  have HB := Lib.hid (And.intro B2 hb2)
  clear B B2 hb2
  rcases Int.lt_trichotomy q p with h | h | h
  · obtain rfl : m = q := by omega
    clear hm
    have eC : vC p m = [p - m] := by unfold vC; rw [if_pos h]
    have eL : vL v p m = [v] := by unfold vL; rw [if_pos h]
    have Ht := Lib.hid (term_any g base cs ls (k - m) (p - m) v _ HB.out.1 ⟨by omega, by omega⟩ ⟨by omega, by omega⟩ hn1 hn2)
    rw [eC, eL]
    clear eC eL hn1 hn2
    go_enter Try.func38, Try.ntmps38
    go_wp2_with fail
    refine Ht.out.mono ?_
    rintro e w' ⟨rfl, B3, hb3⟩
    have HH := Lib.hid (And.intro B3 (HB.out.2.trans hb3))
    clear Ht B3 hb3
    go_wp2_with fail
    refine bodyPost_end (results_none rfl _ _ _) rfl ?_
    exact ⟨rfl, HH.out⟩
  · subst h
    obtain rfl : m = q := by omega
    clear hm
    have eC : vC m m = [] := by unfold vC; rw [if_neg (by omega), if_neg (by omega)]
    have eL : vL v m m = [] := by unfold vL; rw [if_neg (by omega), if_neg (by omega)]
    rw [eC, eL, List.append_nil, List.append_nil]
    clear eC eL hn1 hn2
    go_enter Try.func38, Try.ntmps38
    go_wp2_with fail
    refine bodyPost_end (results_none rfl _ _ _) rfl ?_
    exact ⟨rfl, HB.out⟩
  · have h' : ¬ q < p := by omega
    obtain rfl : m = p := by omega
    clear hm
    have eC : vC m q = [q - m] := by unfold vC; rw [if_neg h', if_pos h]
    have eL : vL v m q = [-v] := by unfold vL; rw [if_neg h', if_pos h]
    have Ht := Lib.hid (term_any g base cs ls (k - m) (q - m) (-v) _ HB.out.1 ⟨by omega, by omega⟩ ⟨by omega, by omega⟩ hn1 hn2)
    have g1 : decide (q < m) = false := decide_eq_false h'
    rw [eC, eL]
    clear eC eL hn1 hn2
    go_enter Try.func38, Try.ntmps38
    go_wp2_with fail
    refine Ht.out.mono ?_
    rintro e w' ⟨rfl, B3, hb3⟩
    have HH := Lib.hid (And.intro B3 (HB.out.2.trans hb3))
    clear Ht B3 hb3
    go_wp2_with fail
    refine bodyPost_end (results_none rfl _ _ _) rfl ?_
    exact ⟨rfl, HH.out⟩

/-- The sum of a row. -/
def su : List Int → Int
  | [] => 0
  | c :: cs => c + su cs
theorem su_snoc (c : Int) : ∀ cs : List Int, su (cs ++ [c]) = su cs + c
  | [] => by simp [su]
  | a :: cs => by show a + su (cs ++ [c]) = a + su cs + c; rw [su_snoc c cs]; omega
theorem su_bound (M : Int) (hM : 0 ≤ M) : ∀ (cs : List Int), (∀ c ∈ cs, -M ≤ c ∧ c ≤ M) → -(M * cs.length) ≤ su cs ∧ su cs ≤ M * cs.length
  | [], _ => by simp [su]
  | c :: cs, h => by
    have ih := su_bound M hM cs fun x hx => h x (List.mem_cons_of_mem _ hx)
    have hc := h c (by simp)
    have e : M * ((c :: cs).length : Int) = M * (cs.length : Int) + M := by
      rw [List.length_cons, Int.natCast_add, Int.mul_add]; simp
    rw [e]
    simp only [su]
    omega
theorem add1_any (a c z : Int) (w : World) (h1 : -1152921504606846976 ≤ a ∧ a ≤ 1152921504606846976) (h2 : -1152921504606846976 ≤ c ∧ c ≤ 1152921504606846976) : Calls Try.prog 57 #[.int .i64 a, .int .i64 c, .int .i64 z] w fun e w' => e = .returned (.int .i64 (a + c)) ∧ w = w' := by
  obtain ⟨h1, h1'⟩ := h1
  obtain ⟨h2, h2'⟩ := h2
  go_enter Try.func57, Try.ntmps57
  go_wp2_with fail
  go_ret
  exact ⟨rfl, rfl⟩
set_option maxHeartbeats 4000000 in
theorem foldS_any (B : Nat) (AC AL : Option Addr) (n cc lc : Nat) (k : Int) (cs ls : List Int) (w : World) (hc : RdI B w AC cs) (hr : RdI B w AL ls) (hB : B ≤ w.heap.size) (hcl : cs.length = n) (hl : ls.length = n) (hn : n ≤ 64) (hcs : ∀ c ∈ cs, -140737488355328 ≤ c ∧ c ≤ 140737488355328) :
    Calls Try.prog 45 #[.agg #[.slice AC n cc, .slice AL n lc, .int .i64 k], .int .i64 0, .func (.func 57) #[] #[]] w fun e w' => e = .returned (.int .i64 (su cs)) ∧ Below w.heap.size w w' := by
  obtain ⟨T, hT⟩ : ∃ T, su cs = T := ⟨_, rfl⟩
  rw [hT]
  obtain ⟨W1, hW1⟩ : ∃ W, W = w.alloc (.cells #[.slice AC n cc, .slice AL n lc, .int .i64 k] 24) := ⟨_, rfl⟩
  have hb1 : Below w.heap.size w W1 := by rw [hW1]; exact (Below.refl w.heap.size w).alloc (Nat.le_refl _) _
  have hat : LinAt W1 w.heap.size (.slice AC n cc) (.slice AL n lc) k 24 := by rw [hW1]; exact heap_alloc_new _ _
  obtain ⟨cC, cL, cK⟩ := hat.cells
  have HW := Lib.hid hW1
  have Hl := Lib.hid (And.intro hcl hl)
  have HT := Lib.hid hT
  have R := Lib.hid (And.intro (hc.below hb1 hB) (hr.below hb1 hB))
  have Hcs := Lib.hid hcs
  clear hW1 hc hr hcl hl hcs hat hT
  go_enter Try.func45, Try.ntmps45
  go_wp2_with fail
  rw [← HW.out]
  clear HW
  go_wp2_with fail
  go_loopw [1, 12] (fun m i wr => ∃ j : Nat, j ≤ n ∧ m = .int .i64 (su (cs.take j)) ∧ i = .int .i64 j ∧ W1 = wr) (fun _ i _ => n - (intOf i).toNat)
  case atStart => exact ⟨0, by omega, rfl, rfl, rfl⟩
  case round =>
    obtain ⟨j, hj, rfl, rfl, rfl⟩ := hrel
    by_cases hlt : j < n
    · have hjc : j < cs.length := by rw [Hl.out.1]; exact hlt
      have hjz : j < ls.length := by rw [Hl.out.2]; exact hlt
      obtain ⟨b1, o1, hA1, _, q1⟩ := R.out.1.2 (by omega)
      obtain ⟨b2, o2, hA2, _, q2⟩ := R.out.2.2 (by omega)
      have hc1 := q1 j hjc
      have hz1 := q2 j hjz
      have hcb := Hcs.out (cs[j]?.getD 0) (by rw [List.getElem?_eq_getElem hjc]; exact List.getElem_mem hjc)
      have t1 : su (cs.take (j + 1)) = su (cs.take j) + cs[j]?.getD 0 := by rw [List.take_add_one, List.getElem?_eq_getElem hjc]; exact su_snoc _ _
      have hsb := su_bound 140737488355328 (by omega) (cs.take j) (fun c hc => Hcs.out c (List.mem_of_mem_take hc))
      rw [List.length_take, Nat.min_eq_left (by omega)] at hsb
      have T1 := Lib.hid t1
      have hA := Lib.hid (add1_any (su (cs.take j)) (cs[j]?.getD 0) (ls[j]?.getD 0) W1 (by omega) (by omega))
      clear q1 q2 hjc hjz hcb t1 hsb R
      cases hA1
      cases hA2
      generalize ls[j]?.getD 0 = z at *
      generalize cs[j]?.getD 0 = c at *
      generalize su (cs.take j) = s at *
      go_wp2_with fail
      refine hA.out.mono ?_
      rintro e w2 ⟨rfl, rfl⟩
      clear hA
      go_wp2_with fail
      go_roundw
      case rel => exact ⟨j + 1, by omega, by rw [T1.out], by go_num, trivial⟩
      case measure => simp [intOf]; omega
    · obtain rfl : j = n := by omega
      have e1 : su (cs.take j) = T := by rw [← Hl.out.1, List.take_length]; exact HT.out
      rw [e1]
      clear e1 R HT
      go_wp2_with fail
      go_ret
      exact ⟨rfl, hb1⟩

theorem min_any (bx g : Nat) (v1 v2 : Value) (n k : Int) (w : World) (hbx : w.cell? ⟨bx, 0, none⟩ = some (.pointer (some ⟨g, 0, none⟩))) (hat : LinAt w g v1 v2 k 52) :
    Calls Try.prog 58 #[.int .i64 n, .pointer (some ⟨bx, 0, none⟩)] w fun e w' => e = .returned (.int .i64 (min n k)) ∧ w = w' := by
  obtain ⟨_, _, c2⟩ := hat.cells
  obtain ⟨m, hm⟩ : ∃ m, min n k = m := ⟨_, rfl⟩
  have e1 : (if n < k then n else k) = m := by split <;> omega
  have e2 : (if k < n then k else n) = m := by split <;> omega
  have e3 : min k n = m := by omega
  rw [hm]
  clear hat
  go_enter Try.func58, Try.ntmps58
  go_wp2_with fail
  go_ret
  exact ⟨rfl, rfl⟩
end Go.Proofs.Ytoacfjmefoiflaa
