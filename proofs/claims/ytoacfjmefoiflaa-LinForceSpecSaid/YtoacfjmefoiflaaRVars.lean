/- What the reference's vars answers. -/
import Derived.Test.YtoacfjmefoiflaaConcat
import Derived.Test.YtoacfjmefoiflaaOpen
namespace Go.Proofs.Ytoacfjmefoiflaa
open Go.RowKit
set_option maxRecDepth 100000

theorem RowI.shape3 {w : World} {base n c : Nat} {A : Option Addr} {v : Value} {zs : List Int} (h : RowI w base v zs) (e : v = .slice A n c) : RdI w.heap.size w A zs := by
  subst e
  exact h.rd2.2
theorem cut_none {A : Option Addr} {c p : Nat} (h : A = Option.none → c = 0) (e : cutA c p A = Option.none) : c - p = 0 := by
  have : A = Option.none := by
    unfold cutA at e
    split at e
    · exact e
    · cases A with
      | none => rfl
      | some a => simp at e
  have := h this
  omega
theorem Of_any (z : Int) (w : World) (h : -65536 ≤ z ∧ z ≤ 65536) : Calls Try.prog 59 #[.int .i64 z] w fun e w' => e = .returned (.int .i64 (max z (-z))) ∧ w = w' := by
  obtain ⟨h1, h2⟩ := h
  by_cases q : z < 0
  · have g1 : decide (z < 0) = true := decide_eq_true q
    have g2 : wrap64 (0 - z) = -z := by rw [IntWalk.wrap64_in _ (by omega)]; omega
    have g3 : wrap64 (-z) = -z := IntWalk.wrap64_in _ (by omega)
    have hm : max z (-z) = -z := by omega
    rw [hm]
    clear hm
    go_enter Try.func59, Try.ntmps59
    go_wp2_with fail
    go_ret
    exact ⟨rfl, rfl⟩
  · have g1 : decide (z < 0) = false := decide_eq_false q
    have hm : max z (-z) = z := by omega
    rw [hm]
    clear hm
    go_enter Try.func59, Try.ntmps59
    go_wp2_with fail
    go_ret
    exact ⟨rfl, rfl⟩
theorem ins_pw {L : List Int} (hp : L.Pairwise (· < ·)) (p : Nat) (V : Int) (h1 : ∀ x ∈ L.take p, x < V) (h2 : ∀ x ∈ L.drop p, V < x) : (L.take p ++ [V] ++ L.drop p).Pairwise (· < ·) := by
  rw [List.pairwise_append, List.pairwise_append]
  refine ⟨⟨hp.sublist (List.take_sublist _ _), by simp, fun a ha b hb => by rw [List.mem_singleton.1 hb]; exact h1 a ha⟩, hp.sublist (List.drop_sublist _ _), fun a ha b hb => ?_⟩
  rcases List.mem_append.1 ha with q | q
  · have := h1 a q; have := h2 b hb; omega
  · rw [List.mem_singleton.1 q]; exact h2 b hb
theorem ins_mem {L : List Int} {ls : List Int} {j : Nat} {z : Int} {V : Int} (htk : ls.take (j + 1) = ls.take j ++ [z] ∧ V = max z (-z)) (hm : ∀ x, x ∈ L ↔ ∃ z ∈ ls.take j, x = max z (-z)) (p : Nat) : ∀ x, x ∈ L.take p ++ [V] ++ L.drop p ↔ ∃ z ∈ ls.take (j + 1), x = max z (-z) := fun x => by
  obtain ⟨htk, rfl⟩ := htk
  have hL : x ∈ L ↔ x ∈ L.take p ∨ x ∈ L.drop p := by
    conv => lhs; rw [← List.take_append_drop p L]
    exact List.mem_append
  rw [List.mem_append, List.mem_append, List.mem_singleton, htk]
  constructor
  · rintro ((q | q) | q)
    · obtain ⟨y, h1, h2⟩ := (hm x).1 (hL.2 (.inl q)); exact ⟨y, List.mem_append_left _ h1, h2⟩
    · exact ⟨z, by simp, q⟩
    · obtain ⟨y, h1, h2⟩ := (hm x).1 (hL.2 (.inr q)); exact ⟨y, List.mem_append_left _ h1, h2⟩
  · rintro ⟨y, h1, h2⟩
    rcases List.mem_append.1 h1 with q | q
    · rcases hL.1 ((hm x).2 ⟨y, q, h2⟩) with r | r
      · exact .inl (.inl r)
      · exact .inr r
    · rw [List.mem_singleton.1 q] at h2
      exact .inl (.inr h2)
theorem same_mem {L : List Int} {ls : List Int} {j : Nat} {z : Int} {V : Int} (htk : ls.take (j + 1) = ls.take j ++ [z] ∧ V = max z (-z)) (hm : ∀ x, x ∈ L ↔ ∃ z ∈ ls.take j, x = max z (-z)) (hV : V ∈ L) : ∀ x, x ∈ L ↔ ∃ z ∈ ls.take (j + 1), x = max z (-z) := fun x => by
  obtain ⟨htk, rfl⟩ := htk
  rw [htk]
  constructor
  · intro q
    obtain ⟨y, h1, h2⟩ := (hm x).1 q
    exact ⟨y, List.mem_append_left _ h1, h2⟩
  · rintro ⟨y, h1, h2⟩
    rcases List.mem_append.1 h1 with q | q
    · exact (hm x).2 ⟨y, q, h2⟩
    · rw [List.mem_singleton.1 q] at h2
      rw [h2]; exact hV

set_option maxHeartbeats 16000000 in
theorem RVars_any (B n m c d : Nat) (A D : Option Addr) (k : Int) (ls : List Int) (w : World) (hz : RdI B w D ls) (hB : B ≤ w.heap.size) (hl : ls.length = n) (hn : n ≤ 64) (hlit : ∀ z ∈ ls, z ≠ 0 ∧ -65536 ≤ z ∧ z ≤ 65536) :
    Calls Try.prog 40 #[.agg #[.slice A m c, .slice D n d, .int .i64 k]] w fun e w' => ∃ v, e = .returned v ∧ RowI w' (w.heap.size + 1) v (vsOf ls) ∧ Below w.heap.size w w' := by
  obtain ⟨W1, hW1⟩ : ∃ W, W = w.alloc (.cells #[.slice A m c, .slice D n d, .int .i64 k] 24) := ⟨_, rfl⟩
  have hb1 : Below w.heap.size w W1 := by rw [hW1]; exact (Below.refl _ _).alloc (Nat.le_refl _) _
  have hs1 : W1.heap.size = w.heap.size + 1 := by rw [hW1]; simp
  have hat : LinAt W1 w.heap.size (.slice A m c) (.slice D n d) k 24 := by rw [hW1]; exact heap_alloc_new _ _
  have HW := Lib.hid hW1
  have HL := Lib.hid (And.intro hl (And.intro hlit (And.intro hat (hz.below hb1 hB))))
  clear hW1 hat hl hlit hz
  go_enter Try.func40, Try.ntmps40
  go_wp2_with fail
  rw [← HW.out]
  clear HW
  go_loopw [3, 4] (fun o i wr => ∃ (j : Nat) (L : List Int), j ≤ n ∧ i = .int .i64 j ∧ Hid (RowI wr (w.heap.size + 1) o L ∧ L.Pairwise (· < ·) ∧ (∀ x, x ∈ L ↔ ∃ z ∈ ls.take j, x = max z (-z)) ∧ L.length ≤ j ∧ Below (w.heap.size + 1) W1 wr)) (fun _ i _ => n - (intOf i).toNat)
  case atStart => exact ⟨0, [], by omega, rfl, Lib.hid ⟨RowI.empty _ _, by simp, by simp, by simp, Below.refl _ _⟩⟩
  case round =>
    obtain ⟨j, L, hj, rfl, HR⟩ := hrel
    have hszw := HR.out.2.2.2.2.size
    have hatr : LinAt wr w.heap.size (.slice A m c) (.slice D n d) k 24 := (HR.out.2.2.2.2.block _ (by omega)).trans HL.out.2.2.1
    obtain ⟨cC, cL, cK⟩ := hatr.cells
    clear hatr
    obtain ⟨A3, c3, hA3, hcap, _, _⟩ := HR.out.1.shape
    obtain ⟨LL, hLL⟩ : ∃ LL, L.length = LL := ⟨_, rfl⟩
    rw [hLL] at hA3 hcap
    have hLj : LL ≤ j := by rw [← hLL]; exact HR.out.2.2.2.1
    have HLL := Lib.hid hLL
    have hcapc := hcap
    clear hLL
    by_cases hlt : j < n
    · have hjz : j < ls.length := by rw [HL.out.1]; exact hlt
      obtain ⟨b2, o2, hA2, _, q2⟩ := (HL.out.2.2.2.below HR.out.2.2.2.2 (by omega)).2 (by omega)
      have hz1 := q2 j hjz
      have hzb := HL.out.2.1 (ls[j]?.getD 0) (by rw [List.getElem?_eq_getElem hjz]; exact List.getElem_mem _)
      have htk : ls.take (j + 1) = ls.take j ++ [ls[j]?.getD 0] := by rw [List.take_add_one, List.getElem?_eq_getElem hjz]; rfl
      have hO := Lib.hid (fun W => Of_any (ls[j]?.getD 0) W ⟨hzb.2.1, hzb.2.2⟩)
      obtain ⟨V, hV⟩ : ∃ V, max (ls[j]?.getD 0) (-(ls[j]?.getD 0)) = V := ⟨_, rfl⟩
      rw [hV] at hO
      have hVb : 0 < V ∧ V ≤ 65536 := by omega
      have hwV : Wf V := ⟨by omega, by omega⟩
      have Htk := Lib.hid (And.intro htk hV.symm)
      have hA3n : A3 = Option.none → c3 = 0 := by
        intro e
        have h := HR.out.1
        rw [hA3] at h
        exact h.nocap e
      have hpw := Lib.hid HR.out.2.1
      clear q2 hjz htk hV hzb
      cases hA2
      generalize ls[j]?.getD 0 = z at *
      subst hA3
      go_wp2_with fail
      refine (hO.out _).mono ?_
      rintro e w' ⟨rfl, rfl⟩
      clear hO
      have rd3 := Lib.hid (HR.out.1.shape3 rfl)
      go_wp2_with fail
      go_loopw [6] (fun a wi => ∃ p : Nat, p ≤ LL ∧ a = .int .i64 p ∧ Hid (∀ x ∈ L.take p, x < V) ∧ wr = wi) (fun a _ => LL - (intOf a).toNat)
      case atStart => exact ⟨0, by omega, rfl, Lib.hid (by simp), rfl⟩
      case round =>
        obtain ⟨p, hp, rfl, Hpre, rfl⟩ := hrel
        by_cases hpl : p < LL
        · have hpL : p < L.length := by rw [HLL.out]; exact hpl
          obtain ⟨b3, o3, hB3, _, q3⟩ := rd3.out.2 (by omega)
          have hx1 := q3 p hpL
          have hnext : L[p]?.getD 0 < V → Hid (∀ x ∈ L.take (p + 1), x < V) := fun hx => Lib.hid fun x hxm => by
            rw [List.take_add_one, List.getElem?_eq_getElem hpL] at hxm
            rcases List.mem_append.1 hxm with q | q
            · exact Hpre.out x q
            · simp at q
              rw [List.getElem?_eq_getElem hpL, Option.getD_some] at hx
              rw [q]; exact hx
          have hmemp : L[p]?.getD 0 ∈ L := by rw [List.getElem?_eq_getElem hpL]; exact List.getElem_mem _
          have hafter : V < L[p]?.getD 0 → ∀ x ∈ L.drop p, V < x := fun hx x hxm => by
            obtain ⟨i, hi, rfl⟩ := List.mem_iff_getElem.1 hxm
            rw [List.getElem_drop]
            rw [List.length_drop] at hi
            rw [List.getElem?_eq_getElem hpL, Option.getD_some] at hx
            rcases Nat.eq_zero_or_pos i with e | e
            · subst e; exact hx
            · have := List.pairwise_iff_getElem.1 hpw.out p (p + i) hpL (by omega) (by omega)
              omega
          clear q3 hpL
          cases hB3
          generalize L[p]?.getD 0 = x at *
          by_cases h1 : x < V
          · have g1 : decide (x < V) = true := decide_eq_true h1
            have hn2 := hnext h1
            clear hnext hafter hmemp
            go_wp2_with fail
            go_roundw
            case rel => exact ⟨p + 1, by omega, by go_num, hn2, trivial⟩
            case measure => simp [intOf]; omega
          · have g1 : decide (x < V) = false := decide_eq_false h1
            by_cases h2 : x = V
            · subst h2
              have g2 : (x == x) = true := by simp
              have fin : Hid (RowI wr (w.heap.size + 1) (.slice (some ⟨b3, o3, none⟩) LL c3) L ∧ L.Pairwise (· < ·) ∧ (∀ y, y ∈ L ↔ ∃ z ∈ ls.take (j + 1), y = max z (-z)) ∧ L.length ≤ j + 1 ∧ Below (w.heap.size + 1) W1 wr) := Lib.hid ⟨HR.out.1, HR.out.2.1, same_mem Htk.out HR.out.2.2.1 hmemp, by have := HR.out.2.2.2.1; omega, HR.out.2.2.2.2⟩
              clear hnext hafter hmemp HR Htk Hpre
              go_wp2_with fail
              go_roundw
              case rel => exact ⟨j + 1, L, by omega, by go_num, fin⟩
              case measure => simp [intOf]; omega
            · have g2 : (x == V) = false := by simpa using h2
              have haf := hafter (by omega)
              clear hnext hafter hmemp
              have hcut := fun w => run_cut w (some ⟨b3, o3, none⟩) LL c3 p hp
              have hhead := fun w => run_head w (some ⟨b3, o3, none⟩) LL c3 p (by omega)
              have hpl : p ≤ L.length := by rw [HLL.out]; exact hp
              have rdt := Lib.hid (rd3.out.take p)
              have rdd := Lib.hid (rd3.out.cut (k := p) (cap := c3) (by rw [HLL.out]; exact hcapc))
              have htl : (L.take p).length = p := by rw [List.length_take]; omega
              have hdl : (L.drop p).length = LL - p := by have := HLL.out; rw [List.length_drop]; omega
              have Hlen := Lib.hid (And.intro htl hdl)
              have hcn : cutA c3 p (some ⟨b3, o3, none⟩) = Option.none → c3 - p = 0 := cut_none hA3n
              have Hcn := Lib.hid hcn
              have HN : Hid ((∀ x ∈ L.take p, x < V) ∧ (∀ x ∈ L.drop p, V < x)) := Lib.hid ⟨Hpre.out, haf⟩
              clear htl hdl hcn hpl
              go_wp2_with (at_builtin; refine push_ints rfl _ _ rfl wr.heap.size (.slice Option.none 0 0) [] rfl (RowI.empty wr wr.heap.size) wr.heap.size (some ⟨b3, o3, none⟩) p c3 (L.take p) rfl rdt.out Hlen.out.1 hA3n (by simp; omega) (Nat.le_refl _) ?_)
              intro v1 y1 row1 lowy1
              try rw [List.nil_append] at row1
              obtain ⟨B1, e1, hv1, _, _⟩ := row1.shape
              rw [Hlen.out.1] at hv1
              subst hv1
              have H1 := Lib.hid (And.intro row1 lowy1)
              have hsy1 := lowy1.size
              clear row1 lowy1 hhead
              go_wp2_with (at_builtin; refine push_own rfl _ _ rfl wr.heap.size (.slice B1 p e1) (L.take p) rfl H1.out.1 V hwV rfl (by rw [Hlen.out.1]; omega) hsy1 ?_)
              intro v2 y2 row2 lowy2 _
              obtain ⟨B2, e2, hv2, _, _⟩ := row2.shape
              have hl2 : (L.take p ++ [V]).length = p + 1 := by rw [List.length_append, Hlen.out.1]; rfl
              rw [hl2] at hv2
              subst hv2
              have H2 := Lib.hid (And.intro row2 (H1.out.2.trans lowy2))
              have hsy2 := lowy2.size
              have Hl2 := Lib.hid hl2
              clear row2 lowy2 hl2
              go_wp2_with (at_builtin; refine push_ints rfl _ _ rfl wr.heap.size (.slice B2 (p + 1) e2) (L.take p ++ [V]) rfl H2.out.1 wr.heap.size (cutA c3 p (some ⟨b3, o3, none⟩)) (LL - p) (c3 - p) (L.drop p) rfl (rdd.out.below H2.out.2 (Nat.le_refl _)) Hlen.out.2 Hcn.out (by rw [Hl2.out]; omega) (by omega) ?_)
              intro v3 y3 row3 lowy3
              have hszr := HR.out.2.2.2.2.size
              have fin : Hid (RowI y3 (w.heap.size + 1) v3 (L.take p ++ [V] ++ L.drop p) ∧ (L.take p ++ [V] ++ L.drop p).Pairwise (· < ·) ∧ (∀ x, x ∈ L.take p ++ [V] ++ L.drop p ↔ ∃ z ∈ ls.take (j + 1), x = max z (-z)) ∧ (L.take p ++ [V] ++ L.drop p).length ≤ j + 1 ∧ Below (w.heap.size + 1) W1 y3) :=
                Lib.hid ⟨by have h := row3.base (base' := w.heap.size + 1) (by omega); simpa using h, ins_pw HR.out.2.1 p V HN.out.1 HN.out.2, ins_mem Htk.out HR.out.2.2.1 p, by have := HR.out.2.2.2.1; simp only [List.length_append, List.length_take, List.length_drop, List.length_cons, List.length_nil]; omega, HR.out.2.2.2.2.trans ((H2.out.2.trans lowy3).mono (by omega))⟩
              clear row3 lowy3 H1 H2 rdt rdd Hlen Hl2 HN hcut Hcn HR HLL Htk Hpre
              go_wp2_with fail
              go_roundw
              case rel => exact ⟨j + 1, _, by omega, by go_num, fin⟩
              case measure => simp [intOf]; omega
        · obtain rfl : p = LL := by omega
          have hcut := fun w => run_cut w A3 p c3 p hp
          have hhead := fun w => run_head w A3 p c3 p (by omega)
          have hpl : p ≤ L.length := by rw [HLL.out]; exact hp
          have rdt := Lib.hid (rd3.out.take p)
          have rdd := Lib.hid (rd3.out.cut (k := p) (cap := c3) (by rw [HLL.out]; exact hcapc))
          have htl : (L.take p).length = p := by rw [List.length_take]; omega
          have hdl : (L.drop p).length = 0 := by have := HLL.out; rw [List.length_drop]; omega
          have Hlen := Lib.hid (And.intro htl hdl)
          have hcn : cutA c3 p A3 = Option.none → c3 - p = 0 := cut_none hA3n
          have Hcn := Lib.hid hcn
          have HN : Hid ((∀ x ∈ L.take p, x < V) ∧ (∀ x ∈ L.drop p, V < x)) := Lib.hid ⟨Hpre.out, (fun x hx => by rw [List.drop_of_length_le (by have := HLL.out; omega)] at hx; cases hx)⟩
          clear htl hdl hcn hpl
          go_wp2_with (at_builtin; refine push_ints rfl _ _ rfl wr.heap.size (.slice Option.none 0 0) [] rfl (RowI.empty wr wr.heap.size) wr.heap.size A3 p c3 (L.take p) rfl rdt.out Hlen.out.1 hA3n (by simp; omega) (Nat.le_refl _) ?_)
          intro v1 y1 row1 lowy1
          try rw [List.nil_append] at row1
          obtain ⟨B1, e1, hv1, _, _⟩ := row1.shape
          rw [Hlen.out.1] at hv1
          subst hv1
          have H1 := Lib.hid (And.intro row1 lowy1)
          have hsy1 := lowy1.size
          clear row1 lowy1 hhead
          go_wp2_with (at_builtin; refine push_own rfl _ _ rfl wr.heap.size (.slice B1 p e1) (L.take p) rfl H1.out.1 V hwV rfl (by rw [Hlen.out.1]; omega) hsy1 ?_)
          intro v2 y2 row2 lowy2 _
          obtain ⟨B2, e2, hv2, _, _⟩ := row2.shape
          have hl2 : (L.take p ++ [V]).length = p + 1 := by rw [List.length_append, Hlen.out.1]; rfl
          rw [hl2] at hv2
          subst hv2
          have H2 := Lib.hid (And.intro row2 (H1.out.2.trans lowy2))
          have hsy2 := lowy2.size
          have Hl2 := Lib.hid hl2
          clear row2 lowy2 hl2
          go_wp2_with (at_builtin; refine push_ints rfl _ _ rfl wr.heap.size (.slice B2 (p + 1) e2) (L.take p ++ [V]) rfl H2.out.1 wr.heap.size (cutA c3 p A3) (0) (c3 - p) (L.drop p) rfl (rdd.out.below H2.out.2 (Nat.le_refl _)) Hlen.out.2 Hcn.out (by rw [Hl2.out]; omega) (by omega) ?_)
          intro v3 y3 row3 lowy3
          have hszr := HR.out.2.2.2.2.size
          have fin : Hid (RowI y3 (w.heap.size + 1) v3 (L.take p ++ [V] ++ L.drop p) ∧ (L.take p ++ [V] ++ L.drop p).Pairwise (· < ·) ∧ (∀ x, x ∈ L.take p ++ [V] ++ L.drop p ↔ ∃ z ∈ ls.take (j + 1), x = max z (-z)) ∧ (L.take p ++ [V] ++ L.drop p).length ≤ j + 1 ∧ Below (w.heap.size + 1) W1 y3) :=
            Lib.hid ⟨by have h := row3.base (base' := w.heap.size + 1) (by omega); simpa using h, ins_pw HR.out.2.1 p V HN.out.1 HN.out.2, ins_mem Htk.out HR.out.2.2.1 p, by have := HR.out.2.2.2.1; simp only [List.length_append, List.length_take, List.length_drop, List.length_cons, List.length_nil]; omega, HR.out.2.2.2.2.trans ((H2.out.2.trans lowy3).mono (by omega))⟩
          clear row3 lowy3 H1 H2 rdt rdd Hlen Hl2 HN hcut Hcn HR HLL Htk Hpre
          go_wp2_with fail
          go_roundw
          case rel => exact ⟨j + 1, _, by omega, by go_num, fin⟩
          case measure => simp [intOf]; omega
    · obtain rfl : j = n := by omega
      have htk : ls.take j = ls := List.take_of_length_le (by have := HL.out.1; omega)
      rw [htk] at HR
      have hL : L = vsOf ls := vsOf_uniq ls L HR.out.2.1 HR.out.2.2.1
      subst hA3
      have fin : Hid (RowI wr (w.heap.size + 1) (.slice A3 LL c3) (vsOf ls) ∧ Below w.heap.size w wr) := Lib.hid ⟨by rw [← hL]; exact HR.out.1, hb1.trans (HR.out.2.2.2.2.mono (by omega))⟩
      clear HR htk hL
      go_wp2_with fail
      go_ret
      exact ⟨_, rfl, fin.out⟩
end Go.Proofs.Ytoacfjmefoiflaa
