/- SealJoins: for every two byte slices (of whatever length), where both have at most 2000 bytes and the first consists of complete frames, scanning their concatenation gives the payloads of both and the sum of the two numbers; the law's own sanity check holds, and nothing that was there has turned. No condition. -/
import Derived.Test.YtbhojobonihccaaSame
namespace Go.Proofs.Ytbhojobonihccaa
open Go.ChangeShapes Go.WideShapes Go.ChangeAt Go.RowKit

theorem Els.append {w : World} {base : Nat} {vs us : List Value} {xss yss : List (List Nat)} (h : Els w base vs xss) (g : Els w base us yss) : Els w base (vs ++ us) (xss ++ yss) := by
  refine ⟨by simp [h.1, g.1], fun j hj => ?_⟩
  rw [List.length_append] at hj
  rcases Nat.lt_or_ge j xss.length with h1 | h1
  · obtain ⟨v, hv, hr⟩ := h.2 j h1
    exact ⟨v, by rw [List.getElem?_append_left (by have := h.1; omega)]; exact hv, by rw [List.getElem?_append_left h1]; exact hr⟩
  · obtain ⟨v, hv, hr⟩ := g.2 (j - xss.length) (by omega)
    exact ⟨v, by rw [List.getElem?_append_right (by have := h.1; omega), h.1]; exact hv, by rw [List.getElem?_append_right h1]; exact hr⟩
theorem Els.base {w : World} {base base' : Nat} {vs : List Value} {xss : List (List Nat)} (h : Els w base vs xss) (hb : base' ≤ base) : Els w base' vs xss :=
  ⟨h.1, fun j hj => (h.2 j hj).imp fun _ ⟨h1, h2⟩ => ⟨h1, h2.base hb⟩⟩

theorem wpList_append_rows {ops : Array Oper} {rest : List Oper} {o : Oper} {a : Act} {Q : Exit → Act → World → Prop} {w : World} (hgd : o.guard = Option.none) (s x : Operand)
    (ho : o.op = .call { callee := .builtin .append, args := #[s, x], argTypes := #[35, 35] })
    (base : Nat) (v : Value) (vs : List Value) (hs : a.eval s = v) (hown : w.ownsRow base 22 1 v vs.length vs)
    (lo : Nat) (A : Option Addr) (c : Nat) (us : List Value) (hx : a.eval x = .slice A us.length c) (hsrc : w.ownsRow lo 22 1 (.slice A us.length c) us.length us) (hone : ∀ u ∈ us, u.oneCell' = true)
    (hbound : vs.length + us.length ≤ 1000000) (hbase : base ≤ w.heap.size)
    (h : ∀ v' w', w'.ownsRow base 22 1 v' (vs ++ us).length (vs ++ us) → w.grownBy w' v.ownBlock → wpList Try.prog ops Q rest (a.put o.dst v') w') : wpList Try.prog ops Q (o :: rest) a w := by
  obtain ⟨i0, hi, hz0, hz1, hz2⟩ := info_parts info22
  rcases hsrc.2 with ⟨e, h0⟩ | ⟨g, cap, cur, e, _⟩
  · injection e with e1 e2 e3
    subst e1; subst e3
    have hu : us = [] := List.eq_nil_of_length_eq_zero h0
    subst hu
    exact wpList_append_own_none hgd s x 35 ho base 22 i0 1 underlying35 hi v vs.length vs hs hown hx (h v w (by simpa using hown) (World.grownBy.refl w _))
  · injection e with e1 e2 e3
    subst e1; subst e3
    refine wpList_append_own w hgd s x 35 ho base 22 i0 (.slice Option.none 0 0) 1 24 underlying35 hi hz0 hz1 hz2 rfl (by decide) v vs.length vs hs hown ⟨g, 0, Option.none⟩ us.length c us hx (by simp) ?_ hone (by unfold maxLen; omega) (by omega) hbase ?_
    · intro j u hj
      have hlt : j < us.length := (List.getElem?_eq_some_iff.1 hj).1
      rw [add_plain, Nat.zero_add, World.ownsRow.cellAt (w := w) (base := lo) (e := 22) (size := 1) (g := g) (n := us.length) (cap := c) (xs := us) hsrc j (by omega)]
      exact hj
    · intro v' w' hown' hgr _
      exact h v' w' (by rw [List.length_append]; exact hown') hgr

def ScanOf (w : World) (l : List (List Nat)) (k : Nat) (e : Ending) (w' : World) : Prop :=
  ∃ v vs, e = .returned (.tuple #[v, .int .i64 (k : Int)]) ∧ w'.ownsRow w.heap.size 22 1 v vs.length vs ∧ Els w' w.heap.size vs l ∧ Below w.heap.size w w'
theorem Scan_of (B : Nat) (A : Option Addr) (n cap : Nat) (bs : List Nat) (l : List (List Nat)) (k : Nat) (w : World) (hr : Rd B w A bs) (hB : B ≤ w.heap.size) (hl : bs.length = n) (hcap : n ≤ cap) (hm : cap ≤ maxLen) (hlen : n ≤ 100000) (h1 : scan bs = l) (h2 : span l = k) :
    Calls Try.prog 21 #[.slice A n cap] w (ScanOf w l k) := by
  subst h1; subst h2; subst hl
  exact Scan_any B A cap bs w hr hB hcap hm hlen

set_option maxHeartbeats 2000000 in
theorem sealJoins_go (A D : Option Addr) (cap dap : Nat) (xa bs : List Nat) (na nb : Nat) (hna : xa.length = na) (hnb : bs.length = nb) (w : World) (hr : Rd w.heap.size w A xa) (hs : Rd w.heap.size w D bs) (hcap : na ≤ cap) (hm : cap ≤ maxLen) (hn : A = Option.none → cap = 0) (hdap : nb ≤ dap) (hm2 : dap ≤ maxLen) (hn2 : D = Option.none → dap = 0)
    (hla : na ≤ 2000) (hlb : nb ≤ 2000) (l1 l2 : List (List Nat)) (k2 : Nat) (hl1 : scan xa = l1) (hl2 : scan bs = l2) (hk1 : span l1 = na) (hk2 : span l2 = k2) :
    Calls Try.prog 9 #[.slice A na cap, .slice D nb dap] w fun e w' => e = .returned (.bool true) ∧ Below w.heap.size w w' := by
  have hsb : k2 ≤ nb := by rw [← hk2, ← hl2, ← hnb]; exact scan_le bs
  have hjoin : Hid (scan (xa ++ bs) = l1 ++ l2) := by show _ = _; rw [← hl1, ← hl2]; exact scan_join _ xa bs (Nat.le_refl _) hr.1 (by rw [hl1, hna]; exact hk1)
  have hspan : Hid (span (l1 ++ l2) = na + k2) := by show _ = _; rw [span_append, hk1, hk2]
  have hlenA : 8 * l1.length ≤ na := by rw [← hk1]; exact eight_length l1
  have hlenB : 8 * l2.length ≤ k2 := by rw [← hk2]; exact eight_length l2
  have Hab : Hid ((xa ++ bs).length = na + nb) := by show _ = _; rw [List.length_append, hna, hnb]
  have Hl1 := Lib.hid hl1
  have Hl2 := Lib.hid hl2
  have Hk1 := Lib.hid hk1
  have Hk2 := Lib.hid hk2
  have Hna := Lib.hid hna
  have Hnb := Lib.hid hnb
  clear hl1 hl2 hk1 hk2 hna hnb
  go_enter Try.func9, Try.ntmps9
  go_wp2_with fail
  refine (live_any w).mono ?_
  rintro e w1 ⟨rfl, hb1⟩
  have hsz1 := hb1.size
  have h1 := Scan_of w.heap.size A na cap xa l1 na w1 (hr.below hb1 (Nat.le_refl _)) hsz1 Hna.out hcap hm (by omega) Hl1.out Hk1.out
  go_wp2_with fail
  refine h1.mono ?_
  rintro e w2 ⟨v2, vs2, rfl, hown2, hels2, hb2⟩
  have hb2' := hb1.trans (hb2.mono hsz1)
  have h2 := Scan_of w.heap.size D nb dap bs l2 k2 w2 (hs.below hb2' (Nat.le_refl _)) hb2'.size Hnb.out hdap hm2 (by omega) Hl2.out Hk2.out
  clear h1
  go_wp2_with fail
  refine h2.mono ?_
  rintro e w3 ⟨v3, vs3, rfl, hown3, hels3, hb3⟩
  have hb3' := hb2'.trans (hb3.mono hb2'.size)
  have h3 := Copy_any w.heap.size A na cap xa w3 (hr.below hb3' (Nat.le_refl _)) Hna.out hn (by omega)
  clear h2
  go_wp2_with fail
  refine h3.mono ?_
  rintro e w4 ⟨v4, rfl, hr4, hb4⟩
  clear h3
  have hb4' := hb3'.trans (hb4.mono hb3'.size)
  go_wp2_with (at_builtin; refine wpList_append_row rfl _ _ rfl w3.heap.size _ _ rfl hr4 w.heap.size D nb dap bs rfl (hs.below hb4' (Nat.le_refl _)) Hnb.out hn2 ?d1 hb4.size ?_)
  case d1 => rw [Hna.out]; omega
  intro v5 w5 hr5 hg5
  have hb5 : Below w3.heap.size w3 w5 := hb4.grown hg5 hb4.size (fun k hk => (hr4.2.lt k hk).1)
  have hb5' := hb3'.trans (hb5.mono hb3'.size)
  obtain ⟨A5, c5, rfl, hc5, hm5, hrd5⟩ := hr5.shape
  rw [Hab.out] at hc5 ⊢
  have h5 := Scan_of w5.heap.size A5 (na + nb) c5 (xa ++ bs) (l1 ++ l2) (na + k2) w5 hrd5 (Nat.le_refl _) Hab.out hc5 hm5 (by omega) hjoin.out hspan.out
  go_wp2_with fail
  refine h5.mono ?_
  rintro e w6 ⟨v6, vs6, rfl, hown6, hels6, hb6⟩
  clear h5
  have hb6' := hb5'.trans (hb6.mono hb5'.size)
  have h26 : Below w2.heap.size w2 w6 := (hb3.trans (hb5.mono hb3.size)).trans (hb6.mono (by have := hb3.size; have := hb5.size; omega))
  have h36 : Below w3.heap.size w3 w6 := hb5.trans (hb6.mono hb5.size)
  have own2 := own_below hown2 h26
  have own3 := own_below hown3 h36
  have els2 := (hels2.below h26).base (Nat.zero_le _)
  have els3 := (hels3.below h36).base (Nat.zero_le _)
  have m2 : vs2.length ≤ 250 := by rw [hels2.1]; omega
  have m3 : vs3.length ≤ 250 := by rw [hels3.1]; omega
  obtain ⟨A2, c2, rfl⟩ := own_shape hown2
  obtain ⟨A3, c3, rfl⟩ := own_shape hown3
  obtain ⟨A6, c6, rfl⟩ := own_shape hown6
  obtain ⟨n6, r6⟩ := hels6.rd hown6
  clear hown2 hown3 hels2 hels3 hr4 hr5 hrd5
  go_wp2_with (at_builtin; refine wpList_append_rows rfl _ _ rfl w6.heap.size (.slice Option.none 0 0) [] rfl (World.ownsRow_nil _ _ _ _) _ A2 c2 vs2 rfl own2 els2.one (by simp; omega) (Nat.le_refl _) ?_)
  intro v7 w7 hown7 hgr7
  have hb7 : Below w6.heap.size w6 w7 := (Below.refl _ w6).grown hgr7 (Nat.le_refl _) (fun k hk => by cases hk)
  have own3' := own_below own3 hb7
  obtain ⟨A7, c7, rfl⟩ := own_shape hown7
  go_wp2_with (at_builtin; refine wpList_append_rows rfl _ _ rfl w6.heap.size _ vs2 rfl hown7 _ A3 c3 vs3 rfl own3' els3.one (by omega) hb7.size ?_)
  intro v8 w8 hown8 hgr8
  have hb8 : Below w6.heap.size w6 w8 := hb7.grown hgr8 hb7.size (fun k hk => (hown7.lt k hk).1)
  have els8 := (els2.below hb8).append (els3.below hb8)
  obtain ⟨A8, c8, rfl⟩ := own_shape hown8
  have hown8' := hown8
  rw [← List.length_append] at hown8'
  obtain ⟨n8', r8⟩ := els8.rd hown8'
  have n8 : vs2.length + vs3.length = l1.length + l2.length := by rw [← List.length_append, n8', List.length_append]
  have h8 := SameAll_true w6.heap.size w8.heap.size A6 A8 (l1.length + l2.length) c6 c8 (l1 ++ l2) w8 (r6.below hb8 (Nat.le_refl _)) r8 List.length_append (by unfold maxLen; omega)
  rw [n8]
  have hfin := hb6'.trans (hb8.mono hb6'.size)
  clear n8' hown8' own2 own3 own3' hown6 hown7 hown8 els2 els3 els8 r6 r8 n6 n8 hels6 hgr7 hgr8
  generalize l1.length + l2.length = n at *
  go_wp2_with fail
  refine h8.mono ?_
  rintro e w9 ⟨rfl, kd, rfl⟩
  go_wp2
  go_ret
  exact ⟨by simp, below_drewN hfin kd⟩

set_option maxHeartbeats 1000000 in
theorem sealJoins_walk (A D : Option Addr) (cap dap : Nat) (xa bs : List Nat) (w : World) (hr : Rd w.heap.size w A xa) (hs : Rd w.heap.size w D bs) (hcap : xa.length ≤ cap) (hm : cap ≤ maxLen) (hn : A = Option.none → cap = 0) (hdap : bs.length ≤ dap) (hm2 : dap ≤ maxLen) (hn2 : D = Option.none → dap = 0) :
    Calls Try.prog 9 #[.slice A xa.length cap, .slice D bs.length dap] w fun e w' => e = .returned (.bool true) ∧ Below w.heap.size w w' := by
  by_cases ha : 2000 < xa.length
  · unfold maxLen at hm
    go_enter Try.func9, Try.ntmps9
    go_wp2_with fail
    refine (live_any w).mono ?_
    rintro e w1 ⟨rfl, hb1⟩
    go_wp2
    go_ret
    exact ⟨rfl, hb1⟩
  · have ha' : xa.length ≤ 2000 := Nat.le_of_not_lt ha
    clear ha
    by_cases hb : 2000 < bs.length
    · unfold maxLen at hm2
      go_enter Try.func9, Try.ntmps9
      go_wp2_with fail
      refine (live_any w).mono ?_
      rintro e w1 ⟨rfl, hb1⟩
      go_wp2
      go_ret
      exact ⟨rfl, hb1⟩
    · have hb' : bs.length ≤ 2000 := Nat.le_of_not_lt hb
      clear hb
      by_cases hw : span (scan xa) = xa.length
      · exact sealJoins_go A D cap dap xa bs _ _ rfl rfl w hr hs hcap hm hn hdap hm2 hn2 ha' hb' _ _ _ rfl rfl hw rfl
      · have hlt : span (scan xa) < xa.length := by have := scan_le xa; omega
        have hne : ((span (scan xa) : Int) != (xa.length : Int)) = true := by rw [bne_iff_ne]; omega
        have hlt2 : decide (span (scan xa) < xa.length) = true := decide_eq_true hlt
        clear hw
        go_enter Try.func9, Try.ntmps9
        go_wp2_with fail
        refine (live_any w).mono ?_
        rintro e w1 ⟨rfl, hb1⟩
        have h1 := Scan_any w.heap.size A cap xa w1 (hr.below hb1 (Nat.le_refl _)) hb1.size hcap hm (by omega)
        go_wp2_with fail
        refine h1.mono ?_
        rintro e w2 ⟨v2, vs2, rfl, hown2, hels2, hb2⟩
        have hb2' := hb1.trans (hb2.mono hb1.size)
        clear h1
        go_wp2
        go_ret
        exact ⟨by simp, hb2'⟩

set_option maxRecDepth 100000 in
theorem sealJoins_lifted (os : Os) (started : os.Started) (H : Type) (enc : TypeId × Value → H) :
    ReturnsInHanded {} Try.checked os 9 .any (Rows.sealJoinsSpec.pre6 enc Try.prog Try.f9 Rows.sealJoinsRow.domain false) (Rows.sealJoinsSpec.post enc Try.prog Try.f9 false true false false) := by
  refine returnsInHanded_of_change (C := Try.checked) Try.own started (by kernel_rfl) Try.func9
    (ChangeSpec.witness6 (enc := enc) (C := Try.checked) false ⟨#[], #[.slice Option.none 0 0, .slice Option.none 0 0], []⟩ 8 (by kernel_rfl) (by kernel_rfl) (by kernel_rfl) (by kernel_rfl)) ?_
  intro W base args ds gs before hval0 hW _ _
  have hval : ∀ (j : Nat) t v, Try.f9.params[j]? = some t → args[j]? = some v → Value.okWide Try.prog W .any base t v := hval0
  have hW' := hW
  obtain ⟨p, q, hA0, hV, rfl, _, _⟩ := hW
  have hA : DataW.TrodAll enc Try.prog W 0 (fun _ => true) true Try.f9.params.toList args.toList ds p := hA0
  rw [Try.params9] at hA hval
  have hlt : ∀ x ∈ p, x.block < W.heap.size := fun x hx => hW'.lt x (List.mem_append_left _ hx)
  obtain ⟨rfl, rfl⟩ := trodVars_none hV
  clear hA0 hval0
  obtain ⟨v0, vs0, d0, ds0, p0, q0, hargs0, rfl, rfl, h0, r0⟩ := trodAll_cons hA
  obtain ⟨v1, vs1, d1, ds1, p1, q1, hargs1, rfl, rfl, h1, r1⟩ := trodAll_cons r0
  obtain ⟨hlast, rfl, rfl⟩ := trodAll_nil r1
  obtain rfl : args = #[v0, v1] := by
    apply Array.toList_inj.1
    rw [hargs0, hargs1, hlast]
  obtain ⟨A0, len0, cap0, bs0, rfl, hr0, rfl, hlc0, hm0, hn0⟩ := open_bytes (hval 0 22 v0 rfl rfl) h0 (fun x hx => hlt x (List.mem_append_left _ hx))
  obtain ⟨A1, len1, cap1, bs1, rfl, hr1, rfl, hlc1, hm1, hn1⟩ := open_bytes (hval 1 22 v1 rfl rfl) h1 (fun x hx => hlt x (List.mem_append_right _ (List.mem_append_left _ hx)))
  refine (sealJoins_walk A0 A1 cap0 cap1 bs0 bs1 W hr0 hr1 hlc0 hm0 hn0 hlc1 hm1 hn1).mono fun e W' ⟨he, hb⟩ => ?_
  subst he
  exact ⟨_, rfl, law_post Try.laidOut hW' rfl (by rw [Try.params9]; decide +kernel) 4 rfl Try.underlying4 rfl hb⟩

theorem sealJoins_holds : Rows.SealJoinsSaid :=
  OpenClaim.holds_of_wide 9 Try.f9 rfl rfl rfl rfl rfl rfl rfl ⟨rfl, rfl, rfl, rfl, rfl⟩ rfl rfl rfl rfl rfl (by kernel_rfl) Try.func9 (by kernel_rfl)
    (of_decide_eq_true (by kernel_rfl)) (by unfold Func.isWrapper; first | (rw [if_pos (by decide +kernel)]; kernel_rfl) | (rw [if_neg (by decide +kernel)]; exact ⟨rfl, rfl⟩))
    (fun os started H enc _ => sealJoins_lifted os started H enc)
end Go.Proofs.Ytbhojobonihccaa
