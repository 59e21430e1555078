/- The sums of the coefficients of every literal, in a map: what fold and its closure do. -/
import Derived.Test.YtoacfjmefoiflaaLinC
import Derived.Maps.Own
import Derived.Maps.OwnOps
import Derived.Maps.OwnSet
import Derived.Maps.Views
import Derived.Maps.Ext
import Derived.Maps.RangeWalk
namespace Go.Proofs.Ytoacfjmefoiflaa
open Go.RowKit Go.Maps
set_option maxRecDepth 100000

theorem underlying47 : Try.prog.underlying 47 = some (.map 3 3) := by kernel_rfl
theorem keyed3 : Keyed Try.prog 3 := int_keyed underlying3'
theorem zero3 (w : World) : (zeroValue 3).run Try.prog w = .ok (.int .i64 0) w := by kernel_rfl
theorem wfz {x : Int} (h : Wf x) : (Go.Lit.int .i64 x).wf = true := by
  have := h.1; have := h.2
  simp [Go.Lit.wf, IntKind.min, IntKind.max, IntKind.signed, IntKind.bits]; omega
/-- The sum of the coefficients of a literal. -/
def tot : List Int → List Int → Int → Int
  | c :: cs, l :: ls, z => (if l = z then c else 0) + tot cs ls z
  | _, _, _ => 0
theorem tot_snoc : ∀ (cs ls : List Int) (c l z : Int), cs.length = ls.length → tot (cs ++ [c]) (ls ++ [l]) z = tot cs ls z + (if l = z then c else 0)
  | [], [], c, l, z, _ => by simp [tot]
  | a :: cs, b :: ls, c, l, z, h => by
    show _ + tot (cs ++ [c]) (ls ++ [l]) z = _ + tot cs ls z + _
    rw [tot_snoc cs ls c l z (by simpa using h)]; omega
  | [], b :: ls, _, _, _, h => by simp at h
  | a :: cs, [], _, _, _, h => by simp at h
theorem tot_take (cs ls : List Int) (j : Nat) (z : Int) (h1 : j < cs.length) (h2 : j < ls.length) : tot (cs.take (j + 1)) (ls.take (j + 1)) z = tot (cs.take j) (ls.take j) z + (if ls[j]?.getD 0 = z then cs[j]?.getD 0 else 0) := by
  rw [List.take_add_one, List.take_add_one, List.getElem?_eq_getElem h1, List.getElem?_eq_getElem h2]
  exact tot_snoc _ _ _ _ _ (by rw [List.length_take, List.length_take]; omega)
theorem tot_bound (M : Int) (hM : 0 ≤ M) : ∀ (cs ls : List Int) (z : Int), (∀ c ∈ cs, -M ≤ c ∧ c ≤ M) → -(M * cs.length) ≤ tot cs ls z ∧ tot cs ls z ≤ M * cs.length
  | [], ls, z, _ => by cases ls <;> simp [tot]
  | c :: cs, [], z, _ => by
    have : 0 ≤ M * ((c :: cs).length : Int) := Int.mul_nonneg hM (by omega)
    simp only [tot]; omega
  | c :: cs, l :: ls, z, h => by
    have ih := tot_bound M hM cs ls z fun x hx => h x (List.mem_cons_of_mem _ hx)
    have hc := h c (by simp)
    have e : M * ((c :: cs).length : Int) = M * (cs.length : Int) + M := by
      rw [List.length_cons, Int.natCast_add, Int.mul_add]; simp
    rw [e]
    simp only [tot]
    split <;> omega

/-- The map at b holds the sums of these terms. -/
def MI (w : World) (b n : Nat) (cs ls : List Int) : Prop :=
  ∃ D : DataW Value, w.ownsMap Try.prog 3 (plainElem Try.prog 3) b n D ∧ IsMap D ∧ (∀ z, Wf z → D.atKey (.int .i64 z) (.lit (.int .i64 0)) = .lit (.int .i64 (tot cs ls z))) ∧ ∀ z, Wf z → Maps.has D (.int .i64 z) = decide (z ∈ ls)
theorem MI.made (w : World) : MI (w.alloc (.map #[] 0)) w.heap.size 0 [] [] :=
  ⟨.map [], World.ownsMap_made _ _ _ _, ⟨[], rfl⟩, fun z _ => by simp [DataW.atKey, tot], fun z _ => by rw [has_eq]; simp⟩
theorem MI.lt {w : World} {b n : Nat} {cs ls : List Int} (h : MI w b n cs ls) : b < w.heap.size := by
  obtain ⟨D, h1, _⟩ := h
  exact h1.lt
theorem MI.look {w : World} {b n : Nat} {cs ls : List Int} (h : MI w b n cs ls) {z : Int} (hz : Wf z) : (Instr.lookup 47 (.map (some b)) (.int .i64 z) false).run Try.prog w = .ok (.int .i64 (tot cs ls z)) w := by
  obtain ⟨D, hown, _, hat, _⟩ := h
  obtain ⟨v, ps, hrun, hv⟩ := hown.lookup keyed3 underlying47 (zero3 _) (zd := .lit (.int .i64 0)) (zp := []) (plainElem_int underlying3' (wfz (show Wf 0 by unfold Wf; omega))) (keyOf_int_mk underlying3' (wfz hz))
  rw [hat z hz] at hv
  obtain ⟨c, rfl, hy, _⟩ := plainElem_int_inv underlying3' hv
  injection hy with hy _
  injection hy with hy
  injection hy with _ hy
  rw [hrun, hy]
theorem MI.put {w : World} {b n : Nat} {cs ls : List Int} (h : MI w b n cs ls) (hn : n ≤ 1000000) (hl : cs.length = ls.length) {z c : Int} (hz : Wf z) (hs : Wf (tot cs ls z + c)) :
    ∃ w', (Instr.mapUpdate 47 (.map (some b)) (.int .i64 z) (.int .i64 (tot cs ls z + c))).run Try.prog w = .ok () w' ∧ MI w' b (n + 1) (cs ++ [c]) (ls ++ [z]) ∧ w.grownBy w' (some b) := by
  obtain ⟨D, hown, hm, hat, hhas⟩ := h
  obtain ⟨w', h1, h2, h3⟩ := hown.update keyed3 underlying47 (by unfold maxLen; omega) (keyOf_int_mk underlying3' (wfz hz)) (val := .int .i64 (tot cs ls z + c)) (d := .lit (.int .i64 (tot cs ls z + c))) (ps := []) (plainElem_int underlying3' (wfz hs))
  refine ⟨w', h1, ⟨_, h2, hm.put _ _, fun q hq => ?_, fun q hq => ?_⟩, h3⟩
  · rw [tot_snoc _ _ _ _ _ hl]
    by_cases e : z = q
    · subst e
      rw [if_pos rfl]
      exact atKey_put_same hm (by unfold WideAt.IsKeyLit; exact trivial) _ _
    · rw [if_neg e, Int.add_zero, atKey_put_other (by intro q2; injection q2 with _ q2; omega)]
      exact hat q hq
  · by_cases e : q = z
    · subst e
      rw [has_put_same hm (by unfold WideAt.IsKeyLit; exact trivial)]; simp
    · rw [has_put_other (by intro q2; injection q2 with _ q2; omega), hhas q hq]
      simp [e]
theorem MI.below {w w' : World} {b n : Nat} {cs ls : List Int} (h : MI w b n cs ls) (hb : w'.heap[b]? = w.heap[b]?) : MI w' b n cs ls := by
  obtain ⟨D, ⟨es, clock, h1, h4⟩, h2⟩ := h
  exact ⟨D, ⟨es, clock, hb.trans h1, h4⟩, h2⟩

theorem norm1_any (b n : Nat) (cs ls : List Int) (c z : Int) (w : World) (h : MI w b n cs ls) (hn : n ≤ 1000000) (hl : cs.length = ls.length) (hz : Wf z) (h1 : -9007199254740992 ≤ tot cs ls z) (h2 : tot cs ls z ≤ 9007199254740992) (h3 : -1099511627776 ≤ c) (h4 : c ≤ 1099511627776) :
    Calls Try.prog 35 #[.map (some b), .int .i64 c, .int .i64 z] w fun e w' => e = .returned (.map (some b)) ∧ MI w' b (n + 1) (cs ++ [c]) (ls ++ [z]) ∧ w.grownBy w' (some b) := by
  have hrun := h.look hz
  obtain ⟨w1, hput, hM, hg⟩ := h.put hn hl (c := c) hz ⟨by omega, by omega⟩
  have HM := Lib.hid (And.intro hM hg)
  clear hM hg hl h
  generalize tot cs ls z = t at *
  go_enter Try.func35, Try.ntmps35
  go_wp2_with fail
  go_ret
  exact ⟨rfl, HM.out⟩

theorem tot_wf {cs ls : List Int} (z : Int) (hn : cs.length ≤ 4096) (hc : ∀ c ∈ cs, -1099511627776 ≤ c ∧ c ≤ 1099511627776) : -9007199254740992 ≤ tot cs ls z ∧ tot cs ls z ≤ 9007199254740992 := by
  have := tot_bound 1099511627776 (by omega) cs ls z hc
  omega
set_option maxHeartbeats 4000000 in
theorem foldM_any (B b : Nat) (AC AL : Option Addr) (n cc lc : Nat) (k : Int) (cs ls : List Int) (w : World) (hM : MI w b 0 [] []) (hc : RdI B w AC cs) (hr : RdI B w AL ls) (hB : B ≤ b) (hcl : cs.length = n) (hl : ls.length = n) (hn : n ≤ 4096) (hcs : ∀ c ∈ cs, -1099511627776 ≤ c ∧ c ≤ 1099511627776) :
    Calls Try.prog 34 #[.agg #[.slice AC n cc, .slice AL n lc, .int .i64 k], .map (some b), .func (.func 35) #[] #[]] w fun e w' => e = .returned (.map (some b)) ∧ MI w' b n cs ls ∧ Below b w w' ∧ w.heap.size ≤ w'.heap.size := by
  have hbw := hM.lt
  obtain ⟨W1, hW1⟩ : ∃ W, W = w.alloc (.cells #[.slice AC n cc, .slice AL n lc, .int .i64 k] 24) := ⟨_, rfl⟩
  have hs1 : W1.heap.size = w.heap.size + 1 := by rw [hW1]; simp
  have hb1 : Below b w W1 := by rw [hW1]; exact (Below.refl b w).alloc (by omega) _
  have hat : LinAt W1 w.heap.size (.slice AC n cc) (.slice AL n lc) k 24 := by rw [hW1]; exact heap_alloc_new _ _
  have hM1 : MI W1 b 0 [] [] := hM.below (by rw [hW1]; exact heap_alloc_old _ _ hbw)
  have HW := Lib.hid hW1
  have Hl := Lib.hid (And.intro hcl hl)
  have R := Lib.hid (And.intro (hc.below hb1 hB) (hr.below hb1 hB))
  have Hcs := Lib.hid hcs
  have HM := Lib.hid (And.intro hM1 hat)
  clear hW1 hM hc hr hcl hl hcs hat hM1
  go_enter Try.func34, Try.ntmps34
  go_wp2_with fail
  rw [← HW.out]
  clear HW
  obtain ⟨cC, cL, cK⟩ := HM.out.2.cells
  go_wp2_with fail
  go_loopw [1, 12] (fun m i wr => ∃ j : Nat, j ≤ n ∧ m = .map (some b) ∧ i = .int .i64 j ∧ MI wr b j (cs.take j) (ls.take j) ∧ LinAt wr w.heap.size (.slice AC n cc) (.slice AL n lc) k 24 ∧ Below b W1 wr ∧ w.heap.size ≤ wr.heap.size) (fun _ i _ => n - (intOf i).toNat)
  case atStart => exact ⟨0, by omega, rfl, rfl, HM.out.1, HM.out.2, Below.refl _ _, by omega⟩
  case round =>
    obtain ⟨j, hj, rfl, rfl, hMI, hat, low, hsz⟩ := hrel
    obtain ⟨dC, dL, dK⟩ := hat.cells
    by_cases hlt : j < n
    · have hjc : j < cs.length := by rw [Hl.out.1]; exact hlt
      have hjz : j < ls.length := by rw [Hl.out.2]; exact hlt
      obtain ⟨b1, o1, hA1, hb1', q1⟩ := (R.out.1.below low hB).2 (by omega)
      obtain ⟨b2, o2, hA2, hb2', q2⟩ := (R.out.2.below low hB).2 (by omega)
      have hc1 := q1 j hjc
      have hz1 := q2 j hjz
      have hwz := R.out.2.wf hjz
      have hcb := Hcs.out (cs[j]?.getD 0) (by rw [List.getElem?_eq_getElem hjc]; exact List.getElem_mem hjc)
      have htw := tot_wf (cs := cs.take j) (ls := ls.take j) (ls[j]?.getD 0) (by rw [List.length_take]; omega) (fun c hc => Hcs.out c (List.mem_of_mem_take hc))
      have hN := Lib.hid (norm1_any b j (cs.take j) (ls.take j) (cs[j]?.getD 0) (ls[j]?.getD 0) wr hMI (by omega) (by rw [List.length_take, List.length_take]; omega) hwz htw.1 htw.2 hcb.1 hcb.2)
      have t1 : cs.take (j + 1) = cs.take j ++ [cs[j]?.getD 0] := by rw [List.take_add_one, List.getElem?_eq_getElem hjc]; rfl
      have t2 : ls.take (j + 1) = ls.take j ++ [ls[j]?.getD 0] := by rw [List.take_add_one, List.getElem?_eq_getElem hjz]; rfl
      have T := Lib.hid (And.intro t1 t2)
      have Hat := Lib.hid hat
      have hMlt := hMI.lt
      clear q1 q2 hjc hjz hwz hcb htw t1 t2 hMI R hat
      cases hA1
      cases hA2
      generalize ls[j]?.getD 0 = z at *
      generalize cs[j]?.getD 0 = c at *
      go_wp2_with fail
      refine hN.out.mono ?_
      rintro e w2 ⟨rfl, hMI2, hg⟩
      have low2 := low.trans ((Below.refl b wr).grown hg (by omega) (fun k hk => by injection hk with hk; omega))
      have hat2 : LinAt w2 w.heap.size _ _ k 24 := (hg.block _ Hat.out.lt (by intro e; injection e with e; omega)).trans Hat.out
      have hs2 := hg.size
      rw [← T.out.1, ← T.out.2] at hMI2
      have HH := Lib.hid (And.intro hMI2 hat2)
      clear hN hMI2 hat2 Hat low hg T dC dL dK hc1 hz1
      go_wp2_with fail
      go_roundw
      case rel => exact ⟨j + 1, by omega, rfl, by go_num, HH.out.1, HH.out.2, low2, by omega⟩
      case measure => simp [intOf]; omega
    · obtain rfl : j = n := by omega
      rw [List.take_of_length_le (Nat.le_of_eq Hl.out.1), List.take_of_length_le (Nat.le_of_eq Hl.out.2)] at hMI
      have hM2 := Lib.hid hMI
      have low2 := hb1.trans low
      clear R hMI low hat dC dL dK
      go_wp2_with fail
      go_ret
      exact ⟨rfl, hM2.out, low2, hsz⟩
end Go.Proofs.Ytoacfjmefoiflaa
