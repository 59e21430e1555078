/- The check of the literals. -/
import Derived.Test.YtpiomdnkemoanaaMem
import Derived.Test.YtpiomdnkemoanaaMath
import Derived.Maps.Own
import Derived.Maps.OwnOps
import Derived.Maps.Views
import Derived.Maps.Ext
import Derived.Carry
namespace Go.Proofs.Ytpiomdnkemoanaa
open Go.RowKit Go.Maps

theorem underlying59 : Try.prog.underlying 59 = some (.map 3 4) := by kernel_rfl
theorem underlying4 : Try.prog.underlying 4 = some .bool := by kernel_rfl
theorem underlying3' : Try.prog.underlying 3 = some (.int .i64) := by kernel_rfl
theorem law3 : Keyed Try.prog 3 := int_keyed underlying3'
theorem zero4 (w : World) : (zeroValue 4).run Try.prog w = .ok (.bool false) w := by kernel_rfl
theorem wf_lit {x : Int} (h : Wf x) : (Lit.int .i64 x).wf = true := by
  have := h.1; have := h.2
  simp [Lit.wf, IntKind.min, IntKind.max, IntKind.signed, IntKind.bits]; omega

/-- The map at b holds just these integers. -/
def Seen (w : World) (b n : Nat) (seen : List Int) : Prop :=
  ∃ D : DataW Unit, w.ownsMap Try.prog 3 (plainElem Try.prog 4) b n D ∧ IsMap D ∧ ∀ x, D.atKey (.int .i64 x) (.lit (.bool false)) = .lit (.bool (decide (x ∈ seen)))
theorem Seen.look {w : World} {b n : Nat} {seen : List Int} (h : Seen w b n seen) {x : Int} (hx : Wf x) : (Instr.lookup 59 (.map (some b)) (.int .i64 x) false).run Try.prog w = .ok (.bool (decide (x ∈ seen))) w := by
  obtain ⟨D, hown, _, hat⟩ := h
  have hzd : plainElem (H := Unit) Try.prog 4 (.bool false) = some (.lit (.bool false), []) := by simp [plainElem]
  obtain ⟨v, ps, hrun, hv⟩ := hown.lookup law3 underlying59 (zero4 _) hzd (keyOf_int_mk underlying3' (wf_lit hx))
  rw [hat x] at hv
  have hvb : v = .bool (decide (x ∈ seen)) := by
    unfold plainElem at hv
    rw [underlying4] at hv
    cases v <;> simp at hv
    rw [hv.1]
  rw [hrun, hvb]
theorem Seen.made (w : World) : Seen (w.alloc (.map #[] 0)) w.heap.size 0 [] :=
  ⟨.map [], World.ownsMap_made _ _ _ _, ⟨[], rfl⟩, fun x => by simp [DataW.atKey]⟩

set_option maxRecDepth 20000 in
set_option maxHeartbeats 4000000 in
theorem check_any (B : Nat) (A : Option Addr) (n c : Nat) (zs : List Int) (next : Int) (w : World) (hr : RdI B w A zs) (hB : B ≤ w.heap.size) (hl : zs.length = n) (hn : n ≤ 4096) (h1 : 1 ≤ next) (h2 : next ≤ 65537) (E : Int) (hE : E = if Tot.dist next [] zs then 0 else 140) :
    Calls Try.prog 27 #[.slice A n c, .int .i64 next] w fun e w' => e = .returned (.int .i64 E) ∧ Below w.heap.size w w' := by
  have hmm := @run_makeMap Try.prog
  have Hl := Lib.hid hl
  have HE := Lib.hid hE
  clear hl hE
  go_enter Try.func27, Try.ntmps27
  go_wp2
  clear hmm
  go_loopw [22] (fun i wr => ∃ k : Nat, k ≤ n ∧ i = .int .i64 k ∧ Seen wr w.heap.size k (zs.take k).reverse ∧ Below w.heap.size w wr ∧ Hid (Tot.dist next [] zs = Tot.dist next (zs.take k).reverse (zs.drop k))) (fun i _ => n - (intOf i).toNat)
  case atStart => exact ⟨0, by omega, rfl, Seen.made w, (Below.refl _ _).alloc (Nat.le_refl _) _, rfl⟩
  case round =>
    obtain ⟨k, hk, rfl, hseen, hlow, hd⟩ := hrel
    by_cases hlt : k < n
    · obtain ⟨b, off, rfl, hbB, hc⟩ := hr.2 (by rw [Hl.out]; omega)
      have hck : wr.cell? ⟨b, off + k, none⟩ = some (.int .i64 (zs[k]?.getD 0)) := (hlow.cell (p := ⟨b, off + k, none⟩) (by show b < w.heap.size; omega)).trans (hc k (by rw [Hl.out]; exact hlt))
      have hwf := hr.wf (j := k) (by rw [Hl.out]; exact hlt)
      have hdrop : zs.drop k = zs[k]?.getD 0 :: zs.drop (k + 1) := by
        rw [List.drop_eq_getElem_cons (by rw [Hl.out]; exact hlt)]; simp [show k < zs.length by rw [Hl.out]; exact hlt]
      have htake : (zs.take (k + 1)).reverse = zs[k]?.getD 0 :: (zs.take k).reverse := by
        rw [List.take_succ_eq_append_getElem (by rw [Hl.out]; exact hlt), List.reverse_append]; simp [show k < zs.length by rw [Hl.out]; exact hlt]
      have hd2 := hd.out
      rw [hdrop, Tot.dist] at hd2
      rw [← htake] at hd2
      have Htake := Lib.hid htake
      clear hc hdrop htake hd
      generalize zs[k]?.getD 0 = x at *
      generalize (zs.take k).reverse = seen at *
      by_cases c0 : x = 0
      · rw [if_pos (.inl c0)] at hd2
        have Hd := Lib.hid hd2
        subst c0
        clear hd2
        go_wp2
        go_ret
        exact ⟨by rw [HE.out, Hd.out]; rfl, hlow⟩
      · have b0 : (x == 0) = false := by simpa using c0
        by_cases c1 : x ≤ -next
        · rw [if_pos (.inr (.inl c1))] at hd2
          have Hd := Lib.hid hd2
          clear hd2
          go_wp2
          go_ret
          exact ⟨by rw [HE.out, Hd.out]; rfl, hlow⟩
        · have c1' : -next < x := by omega
          by_cases c2 : next ≤ x
          · rw [if_pos (.inr (.inr (.inl c2)))] at hd2
            have Hd := Lib.hid hd2
            clear hd2 c1
            go_wp2
            go_ret
            exact ⟨by rw [HE.out, Hd.out]; rfl, hlow⟩
          · have c2' : x < next := by omega
            have k1 := hseen.look hwf
            have k2 := hseen.look (x := -x) ⟨by omega, by omega⟩
            by_cases c3 : x ∈ seen
            · rw [if_pos (.inr (.inr (.inr (.inl c3))))] at hd2
              have Hd := Lib.hid hd2
              rw [decide_eq_true c3] at k1
              clear hd2 c1 c2 c3
              go_wp2
              go_ret
              exact ⟨by rw [HE.out, Hd.out]; rfl, hlow⟩
            · rw [decide_eq_false c3] at k1
              by_cases c4 : -x ∈ seen
              · rw [if_pos (.inr (.inr (.inr (.inr c4))))] at hd2
                have Hd := Lib.hid hd2
                rw [decide_eq_true c4] at k2
                clear hd2 c1 c2 c3 c4
                go_wp2
                go_ret
                exact ⟨by rw [HE.out, Hd.out]; rfl, hlow⟩
              · rw [decide_eq_false c4] at k2
                rw [if_neg (by rintro (q | q | q | q | q) <;> first | exact c3 q | exact c4 q | omega)] at hd2
                have Hd := Lib.hid hd2
                clear hd2 c1 c2
                obtain ⟨D, hown, hmap, hat⟩ := hseen
                have Hat := Lib.hid hat
                have hkey : keyOf Try.prog 3 (.int .i64 x) = some (.int .i64 x) := keyOf_int_mk underlying3' (wf_lit hwf)
                have hval : plainElem (H := Unit) Try.prog 4 (.bool true) = some (.lit (.bool true), []) := by simp [plainElem]
                have Hkey := Lib.hid hkey
                have Hval := Lib.hid hval
                clear hat hkey hval c3 c4
                go_wp2_with (at_mapUpdate; refine wpList_mapUpdate_own _ rfl _ _ _ 59 rfl 3 4 law3 underlying59 (plainElem (H := Unit) Try.prog 4) w.heap.size k _ rfl hown (by unfold maxLen; omega) _ _ _ rfl rfl Hkey.out _ [] Hval.out ?_; intro w1 hown1 hgrow1)
                have hseen1 : Seen w1 w.heap.size (k + 1) (zs.take (k + 1)).reverse := by
                  rw [Htake.out]
                  refine ⟨_, hown1, hmap.put _ _, fun y => ?_⟩
                  by_cases e : y = x
                  · subst e
                    rw [atKey_put_same (k := .int .i64 y) hmap trivial, decide_eq_true (List.mem_cons_self ..)]
                  · rw [atKey_put_other (by intro q; injection q with _ q; exact e q), Hat.out]
                    congr 2
                    simp [e]
                have hlow1 := hlow.grown hgrow1 hlow.size (fun j hj => by injection hj with hj; omega)
                clear k1 k2 hown hown1
                go_roundw
                case rel => exact ⟨k + 1, by omega, by go_num, hseen1, hlow1, Hd.out⟩
                case measure => simp [intOf]; omega
    · obtain rfl : k = n := by omega
      have hfin : Hid (Tot.dist next [] zs = true) := by
        show _ = _
        rw [hd.out, List.drop_of_length_le (by rw [Hl.out]; omega)]; rfl
      clear hd hlt
      go_wp2
      go_ret
      exact ⟨by rw [HE.out, hfin.out]; rfl, hlow⟩
end Go.Proofs.Ytpiomdnkemoanaa
