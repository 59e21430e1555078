/- A map of integers to bools; the two folds of Force. -/
import Derived.Test.YtoacfjmefoiflaaNormF
namespace Go.Proofs.Ytoacfjmefoiflaa
open Go.RowKit Go.Maps
set_option maxRecDepth 100000

theorem underlying60 : Try.prog.underlying 60 = some (.map 3 4) := by kernel_rfl
theorem zero4 (w : World) : (zeroValue 4).run Try.prog w = .ok (.bool false) w := by kernel_rfl
def RV (v : Value) : Option (DataW Value × List MemPlace) := some (.held v, [])
/-- The map at b holds these integers. -/
def MB (w : World) (b n : Nat) (zs : List Int) : Prop :=
  ∃ D : DataW Value, w.ownsMap Try.prog 3 RV b n D ∧ IsMap D ∧ ∀ z : Int, Wf z → D.atKey (.int .i64 z) (.held (.bool false)) = .held (.bool (decide (z ∈ zs)))
theorem MB.look {w : World} {b n : Nat} {zs : List Int} (h : MB w b n zs) {z : Int} (hz : Wf z) : (Instr.lookup 60 (.map (some b)) (.int .i64 z) false).run Try.prog w = .ok (.bool (decide (z ∈ zs))) w := by
  obtain ⟨D, hown, _, hat⟩ := h
  obtain ⟨v, ps, hrun, hv⟩ := hown.lookup keyed3 underlying60 (zero4 _) (zd := .held (.bool false)) (zp := []) rfl (keyOf_int_mk underlying3' (wf_lit hz))
  rw [hat z hz] at hv
  unfold RV at hv
  injection hv with hv
  injection hv with hv _
  injection hv with hv
  rw [hrun, hv]
theorem MB.made (w : World) : MB (w.alloc (.map #[] 0)) w.heap.size 0 [] :=
  ⟨.map [], World.ownsMap_made _ _ _ _, ⟨[], rfl⟩, fun p _ => by simp [DataW.atKey]⟩
theorem MB.put {w : World} {b n : Nat} {zs : List Int} (h : MB w b n zs) (hn : n ≤ 1000000) {z : Int} (hz : Wf z) : ∃ w', (Instr.mapUpdate 60 (.map (some b)) (.int .i64 z) (.bool true)).run Try.prog w = .ok () w' ∧ MB w' b (n + 1) (zs ++ [z]) ∧ w.grownBy w' (some b) := by
  obtain ⟨D, hown, hm, hat⟩ := h
  obtain ⟨w', h1, h2, h3⟩ := hown.update keyed3 underlying60 (by unfold maxLen; omega) (keyOf_int_mk underlying3' (wf_lit hz)) (val := .bool true) (d := .held (.bool true)) (ps := []) rfl
  refine ⟨w', h1, ⟨_, h2, hm.put _ _, fun q hq => ?_⟩, h3⟩
  by_cases e : q = z
  · subst e
    rw [atKey_put_same hm (by unfold WideAt.IsKeyLit; exact trivial) _ _]
    simp
  · rw [atKey_put_other (by intro q2; injection q2 with _ q2; omega), hat q hq]
    simp [e]
theorem MB.same {w w' : World} {b n : Nat} {zs : List Int} (h : MB w b n zs) (hb : w'.heap[b]? = w.heap[b]?) : MB w' b n zs := by
  obtain ⟨D, ⟨es, clock, h1, h4⟩, h2, h3⟩ := h
  exact ⟨D, ⟨es, clock, hb.trans h1, h4⟩, h2, h3⟩
theorem MB.lt {w : World} {b n : Nat} {zs : List Int} (h : MB w b n zs) : b < w.heap.size := by
  obtain ⟨D, h1, _⟩ := h
  exact h1.lt

/-- What can be reached at most when these literals are true. -/
def can (lits : List Int) : List Int → List Int → Int
  | c :: cs, z :: ls => (if -z ∈ lits then 0 else c) + can lits cs ls
  | _, _ => 0
theorem can_snoc (lits : List Int) (c z : Int) : ∀ cs ls : List Int, cs.length = ls.length → can lits (cs ++ [c]) (ls ++ [z]) = can lits cs ls + (if -z ∈ lits then 0 else c)
  | [], [], _ => by simp [can]
  | a :: cs, b :: ls, h => by
    have ih := can_snoc lits c z cs ls (by simpa using h)
    show _ + can lits (cs ++ [c]) (ls ++ [z]) = _ + can lits cs ls + _
    rw [ih]; omega
  | [], b :: ls, h => by simp at h
  | a :: cs, [], h => by simp at h
theorem can_take (lits cs ls : List Int) (j : Nat) (h : cs.length = ls.length) (h1 : j < cs.length) (h2 : j < ls.length) : can lits (cs.take (j + 1)) (ls.take (j + 1)) = can lits (cs.take j) (ls.take j) + (if -(ls[j]?.getD 0) ∈ lits then 0 else cs[j]?.getD 0) := by
  rw [List.take_add_one, List.take_add_one, List.getElem?_eq_getElem h1, List.getElem?_eq_getElem h2]
  exact can_snoc lits _ _ _ _ (by rw [List.length_take, List.length_take, h])
theorem can_bound (M : Int) (hM : 0 ≤ M) (lits : List Int) : ∀ cs ls : List Int, (∀ c ∈ cs, -M ≤ c ∧ c ≤ M) → -(M * cs.length) ≤ can lits cs ls ∧ can lits cs ls ≤ M * cs.length
  | [], ls, _ => by cases ls <;> simp [can]
  | c :: cs, [], _ => by
    have : 0 ≤ M * ((c :: cs).length : Int) := Int.mul_nonneg hM (by omega)
    simp only [can]; omega
  | c :: cs, l :: ls, h => by
    have ih := can_bound M hM lits cs ls fun x hx => h x (List.mem_cons_of_mem _ hx)
    have h1 := h c (by simp)
    have e : M * ((c :: cs).length : Int) = M * (cs.length : Int) + M := by
      rw [List.length_cons, Int.natCast_add, Int.mul_add]; simp
    rw [e]
    simp only [can]
    split <;> omega
/-- The literals that are forced. -/
def frc (lits : List Int) (s : Int) : List Int → List Int → List Int
  | c :: cs, z :: ls => (if z ∈ lits ∨ -z ∈ lits ∨ c ≤ s then [] else [z]) ++ frc lits s cs ls
  | _, _ => []
theorem frc_snoc (lits : List Int) (s c z : Int) : ∀ cs ls : List Int, cs.length = ls.length → frc lits s (cs ++ [c]) (ls ++ [z]) = frc lits s cs ls ++ (if z ∈ lits ∨ -z ∈ lits ∨ c ≤ s then [] else [z])
  | [], [], _ => by simp [frc]
  | a :: cs, b :: ls, h => by
    have ih := frc_snoc lits s c z cs ls (by simpa using h)
    show _ ++ frc lits s (cs ++ [c]) (ls ++ [z]) = (_ ++ frc lits s cs ls) ++ _
    rw [ih, List.append_assoc]
  | [], b :: ls, h => by simp at h
  | a :: cs, [], h => by simp at h
theorem frc_take (lits cs ls : List Int) (s : Int) (j : Nat) (h : cs.length = ls.length) (h1 : j < cs.length) (h2 : j < ls.length) : frc lits s (cs.take (j + 1)) (ls.take (j + 1)) = frc lits s (cs.take j) (ls.take j) ++ (if ls[j]?.getD 0 ∈ lits ∨ -(ls[j]?.getD 0) ∈ lits ∨ cs[j]?.getD 0 ≤ s then [] else [ls[j]?.getD 0]) := by
  rw [List.take_add_one, List.take_add_one, List.getElem?_eq_getElem h1, List.getElem?_eq_getElem h2]
  exact frc_snoc lits s _ _ _ _ (by rw [List.length_take, List.length_take, h])
theorem frc_len (lits : List Int) (s : Int) : ∀ cs ls : List Int, (frc lits s cs ls).length ≤ ls.length
  | [], ls => by cases ls <;> simp [frc]
  | c :: cs, [] => by simp [frc]
  | c :: cs, l :: ls => by
    have ih := frc_len lits s cs ls
    simp only [frc, List.length_append, List.length_cons]
    split <;> simp <;> omega

theorem fterm_any (g b m : Nat) (lits : List Int) (x s t : Int) (w : World) (hg : w.cell? ⟨g, 0, none⟩ = some (.map (some b))) (hM : MB w b m lits) (hx : -65536 ≤ x ∧ x ≤ 65536) (hs1 : -1152921504606846976 ≤ s) (hs2 : s ≤ 1152921504606846976) (ht1 : -1152921504606846976 ≤ t) (ht2 : t ≤ 1152921504606846976) :
    Calls Try.prog 46 #[.int .i64 s, .int .i64 t, .int .i64 x, .pointer (some ⟨g, 0, none⟩)] w fun e w' => e = .returned (.int .i64 (s + if -x ∈ lits then 0 else t)) ∧ w = w' := by
  obtain ⟨hx1, hx2⟩ := hx
  have hl := hM.look (z := -x) ⟨by omega, by omega⟩
  have hneg : wrap64 (-x) = -x := IntWalk.wrap64_in _ (by omega)
  clear hM
  by_cases h : -x ∈ lits
  · rw [decide_eq_true h] at hl
    rw [if_pos h, Int.add_zero]
    clear h
    go_enter Try.func46, Try.ntmps46
    go_wp2_with fail
    go_ret
    exact ⟨rfl, rfl⟩
  · rw [decide_eq_false h] at hl
    rw [if_neg h]
    clear h
    go_enter Try.func46, Try.ntmps46
    go_wp2_with fail
    go_ret
    exact ⟨rfl, rfl⟩

set_option maxHeartbeats 4000000 in
theorem ffold_any (B g b m : Nat) (AC AL : Option Addr) (n cc lc : Nat) (k s0 : Int) (cs zs lits : List Int) (w : World) (hg : w.cell? ⟨g, 0, none⟩ = some (.map (some b))) (hgb : g < w.heap.size) (hM : MB w b m lits) (hc : RdI B w AC cs) (hr : RdI B w AL zs) (hB : B ≤ w.heap.size) (hcl : cs.length = n) (hl : zs.length = n) (hn : n ≤ 64) (hcs : ∀ x ∈ cs, -140737488355328 ≤ x ∧ x ≤ 140737488355328)
    (hs0 : -9007199254740992 ≤ s0 ∧ s0 ≤ 9007199254740992) (hz : ∀ x ∈ zs, -65536 ≤ x ∧ x ≤ 65536) :
    Calls Try.prog 45 #[.agg #[.slice AC n cc, .slice AL n lc, .int .i64 k], .int .i64 s0, .func (.func 46) #[] #[.pointer (some ⟨g, 0, none⟩)]] w fun e w' => e = .returned (.int .i64 (s0 + can lits cs zs)) ∧ Below w.heap.size w w' := by
  obtain ⟨hs01, hs02⟩ := hs0
  have hb1 := (Below.refl w.heap.size w).alloc (Nat.le_refl _) (.cells #[.slice AC n cc, .slice AL n lc, .int .i64 k] 24)
  have hbl := hM.lt
  have Hb := Lib.hid hb1
  have Hl := Lib.hid (And.intro hcl hl)
  have Hcs := Lib.hid hcs
  have Hz := Lib.hid hz
  have hct : s0 + can lits (cs.take n) (zs.take n) = s0 + can lits cs zs := by rw [List.take_of_length_le (by omega), List.take_of_length_le (by omega)]
  have Hct := Lib.hid hct
  have Hgen := fun s t x => Lib.hid (fun (h : -65536 ≤ x ∧ x ≤ 65536) (hs1 : -1152921504606846976 ≤ s) (hs2 : s ≤ 1152921504606846976) (ht1 : -1152921504606846976 ≤ t) (ht2 : t ≤ 1152921504606846976) (W : World) (h1 : Below w.heap.size w W) => fterm_any g b m lits x s t W ((h1.cell (p := ⟨g, 0, none⟩) hgb).trans hg) (hM.same (h1.block b hbl)) h hs1 hs2 ht1 ht2)
  clear hb1 hcl hl hcs hz hct hM
  go_enter Try.func45, Try.ntmps45
  go_wp2_with fail
  obtain ⟨W1, hW1⟩ : ∃ W, W = w.alloc (.cells #[.slice AC n cc, .slice AL n lc, .int .i64 k] 24) := ⟨_, rfl⟩
  rw [← hW1]
  have hat : LinAt W1 w.heap.size (.slice AC n cc) (.slice AL n lc) k 24 := by rw [hW1]; exact heap_alloc_new _ _
  obtain ⟨cC, cL, cK⟩ := hat.cells
  have hb := Hb.out
  rw [← hW1] at hb
  clear Hb hW1 hg hat
  have hr := hr.below hb hB
  have hc := hc.below hb hB
  go_wp2_with fail
  go_loopw [1, 12] (fun a i wr => ∃ j : Nat, j ≤ n ∧ a = .int .i64 (s0 + can lits (cs.take j) (zs.take j)) ∧ i = .int .i64 j ∧ W1 = wr) (fun _ i _ => n - (intOf i).toNat)
  case atStart => exact ⟨0, by omega, by simp [can], rfl, rfl⟩
  case round =>
    obtain ⟨j, hj, rfl, rfl, rfl⟩ := hrel
    by_cases hlt : j < n
    · have hjz : j < zs.length := by rw [Hl.out.2]; exact hlt
      have hjc : j < cs.length := by rw [Hl.out.1]; exact hlt
      have hnext := can_take lits cs zs j (Hl.out.1.trans Hl.out.2.symm) hjc hjz
      have hle := can_bound 140737488355328 (by omega) lits (cs.take j) (zs.take j) (fun c hc => Hcs.out c (List.mem_of_mem_take hc))
      rw [List.length_take, Nat.min_eq_left (by omega)] at hle
      obtain ⟨b1, off, rfl, _, hcz⟩ := hr.2 (by omega)
      obtain ⟨b2, off2, rfl, _, hcc⟩ := hc.2 (by omega)
      have hz1 := hcz j hjz
      have hc1 := hcc j hjc
      have hlit := Hz.out (zs[j]?.getD 0) (by rw [List.getElem?_eq_getElem hjz]; exact List.getElem_mem _)
      have ho := Hcs.out (cs[j]?.getD 0) (by rw [List.getElem?_eq_getElem hjc]; exact List.getElem_mem _)
      have hM := Lib.hid ((Hgen (s0 + can lits (cs.take j) (zs.take j)) (cs[j]?.getD 0) (zs[j]?.getD 0)).out hlit (by omega) (by omega) (by omega) (by omega) W1 hb)
      clear hcz hcc hlit ho hr hc hjz hjc
      rw [show s0 + can lits (cs.take j) (zs.take j) + (if -(zs[j]?.getD 0) ∈ lits then 0 else cs[j]?.getD 0) = s0 + can lits (cs.take (j + 1)) (zs.take (j + 1)) by rw [hnext]; omega] at hM
      obtain ⟨y', hy'⟩ : ∃ y', s0 + can lits (cs.take (j + 1)) (zs.take (j + 1)) = y' := ⟨_, rfl⟩
      rw [hy'] at hM
      have HY' := Lib.hid hy'
      clear hnext hle Hgen hy'
      generalize zs[j]?.getD 0 = x at *
      generalize cs[j]?.getD 0 = t at *
      generalize s0 + can lits (cs.take j) (zs.take j) = y at *
      go_wp2_with fail
      refine hM.out.mono ?_
      rintro e w' ⟨rfl, rfl⟩
      go_wp2_with fail
      go_roundw
      case rel => exact ⟨j + 1, by omega, by rw [HY'.out], by go_num, trivial⟩
      case measure => simp [intOf]; omega
    · obtain rfl : j = n := by omega
      rw [Hct.out]
      go_wp2_with fail
      go_ret
      exact ⟨rfl, hb⟩
end Go.Proofs.Ytoacfjmefoiflaa
