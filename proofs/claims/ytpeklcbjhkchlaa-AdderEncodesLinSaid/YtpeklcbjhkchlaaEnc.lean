/- For every constraint and all numbers the law AdderEncodesLin answers true at the landed code and changes nothing that came in: Sum and Least together hold just where the constraint does, as far as it is tried. Conditions: those of the statement alone. -/
import Derived.Test.YtpeklcbjhkchlaaNormM
import Derived.Test.YtpeklcbjhkchlaaSumX
import Derived.Deep.RegionHeld
import Derived.Lib.SmallJoins
namespace Go.Proofs.Ytpeklcbjhkchlaa
open Go.ChangeShapes Go.WideShapes Go.ChangeAt Go.RowKit
set_option maxRecDepth 100000

/-- What is known of a normal form. -/
structure NF (cs zs : List Int) (k : Int) (n : Nat) (sc sl : List Int) (sk : Int) : Prop where
  same : sc.length = sl.length
  few : sl.length ≤ n
  pos : ∀ c ∈ sc, 0 ≤ c
  k0 : 0 ≤ sk
  k1 : sk ≤ 4503599627370496
  means : ∀ a : List Bool, sk ≤ wsum a sc sl ↔ k ≤ wsum a cs zs
theorem satL_len (cs zs : List Int) (k : Int) (h : cs.length = zs.length) : (satC cs k).length = (satL cs zs k).length ∧ (satL cs zs k).length ≤ zs.length := by
  unfold satC satL
  split
  · simp
  · split
    · simp
    · simp [mn, h]
theorem satC_pos (cs : List Int) (k : Int) (h : ∀ c ∈ cs, 0 < c) : ∀ c ∈ satC cs k, 0 ≤ c := by
  intro c hc
  unfold satC at hc
  split at hc
  · simp at hc
  · split at hc
    · simp at hc
    · unfold mn at hc
      obtain ⟨x, hx, rfl⟩ := List.mem_map.1 hc
      have := h x hx
      omega
theorem norm_abs (B n cc lc : Nat) (AC AL : Option Addr) (k : Int) (cs zs : List Int) (w : World) (hc : RdI B w AC cs) (hr : RdI B w AL zs) (hB : B ≤ w.heap.size) (hcl : cs.length = n) (hl : zs.length = n) (hn : n ≤ 8) (hok : OkL cs zs k 65536) :
    Calls Try.prog 28 #[.agg #[.slice AC n cc, .slice AL n lc, .int .i64 k]] w fun e w' => ∃ sc sl sk A1 c1 A2 c2, e = .returned (.agg #[.slice A1 sc.length c1, .slice A2 sl.length c2, .int .i64 sk]) ∧ NF cs zs k n sc sl sk ∧ RdI w'.heap.size w' A1 sc ∧ RdI w'.heap.size w' A2 sl ∧ Below w.heap.size w w' := by
  refine (norm_any B n cc lc AC AL k cs zs w hc hr hB hcl hl (by omega) hok).mono fun e w' hh => ?_
  obtain ⟨ys, hp, hm, hyl, A1, c1, A2, c2, he, r1, r2, hb⟩ := hh
  have hcs : ∀ c ∈ cs, -1099511627776 ≤ c ∧ c ≤ 1099511627776 := fun c hc => by
    obtain ⟨j, hj, rfl⟩ := List.mem_iff_getElem.1 hc
    have := (hok.2.2.2.2 j (by omega)).1
    rw [List.getElem?_eq_getElem hj, Option.getD_some] at this
    unfold numB at this
    simpa using this
  have hz0 : ∀ z ∈ zs, z ≠ 0 := fun z hz => by
    obtain ⟨j, hj, rfl⟩ := List.mem_iff_getElem.1 hz
    have := (hok.2.2.2.2 j hj).2
    rw [List.getElem?_eq_getElem hj, Option.getD_some] at this
    unfold litB at this
    simp at this
    omega
  have hk : -1099511627776 ≤ k ∧ k ≤ 1099511627776 := by
    have := hok.2.2.2.1
    unfold numB at this
    simpa using this
  have htb : ∀ q, -8796093022208 ≤ tot cs zs q ∧ tot cs zs q ≤ 8796093022208 := fun q => by
    have := tot_bound 1099511627776 (by omega) cs zs q hcs
    omega
  have hkb := nk_bound cs zs 8796093022208 (by omega) htb ys
  have hnl := n_len cs zs ys
  have hcb := ncs_bound cs zs 8796093022208 htb ys
  obtain ⟨q1, q2⟩ := satL_len (ncs cs zs ys) (nls cs zs ys) (k - nk cs zs ys) hnl.1
  refine ⟨_, _, _, A1, c1, A2, c2, he, ⟨q1, by omega, satC_pos _ _ fun c hc => (hcb c hc).1, ?_, ?_, fun a => norm_means a cs zs ys k 8796093022208 (by omega) hp hm hz0 htb⟩, r1, r2, hb⟩
  · unfold satK; split
    · omega
    · split <;> omega
  · unfold satK; split
    · omega
    · split <;> omega

/-- The constraint and what came in, at a later world. -/
def LSt (w W : World) (AC AL : Option Addr) (n1 n2 cc lc : Nat) (k : Int) (cs zs : List Int) : Prop :=
  Below w.heap.size w W ∧ LinAt W w.heap.size (.slice AC n1 cc) (.slice AL n2 lc) k 48 ∧ RdI w.heap.size W AC cs ∧ RdI w.heap.size W AL zs ∧ w.heap.size < W.heap.size
theorem LSt.step {w W W' : World} {AC AL : Option Addr} {n1 n2 cc lc : Nat} {k : Int} {cs zs : List Int} (h : LSt w W AC AL n1 n2 cc lc k cs zs) (hb : Below W.heap.size W W') : LSt w W' AC AL n1 n2 cc lc k cs zs := by
  obtain ⟨h1, h2, h3, h4, h5⟩ := h
  have hs := hb.size
  exact ⟨h1.trans (hb.mono h1.size), h2.below hb, h3.below hb h1.size, h4.below hb h1.size, by omega⟩
theorem LSt.start (w : World) (AC AL : Option Addr) (n1 n2 cc lc : Nat) (k : Int) (cs zs : List Int) (hc : RdI w.heap.size w AC cs) (hz : RdI w.heap.size w AL zs) :
    LSt w (w.alloc (.cells #[.slice AC n1 cc, .slice AL n2 lc, .int .i64 k] 48)) AC AL n1 n2 cc lc k cs zs := by
  have hb := (Below.refl w.heap.size w).alloc (Nat.le_refl _) (.cells #[.slice AC n1 cc, .slice AL n2 lc, .int .i64 k] 48)
  exact ⟨hb, heap_alloc_new _ _, hc.below hb (Nat.le_refl _), hz.below hb (Nat.le_refl _), by simp⟩

theorem enc_out (AC AL : Option Addr) (n1 n2 cc lc : Nat) (k next pick : Int) (cs zs : List Int) (w : World) (hc : RdI w.heap.size w AC cs) (hz : RdI w.heap.size w AL zs) (h : ¬ (n1 ≤ 8 ∧ n2 ≤ 8 ∧ next ≤ 40)) :
    Calls Try.prog 7 #[.agg #[.slice AC n1 cc, .slice AL n2 lc, .int .i64 k], .int .i64 next, .int .i64 pick] w fun e w' => e = .returned (.bool true) ∧ Below w.heap.size w w' := by
  obtain ⟨W1, hW1⟩ : ∃ W1, W1 = w.alloc (.cells #[.slice AC n1 cc, .slice AL n2 lc, .int .i64 k] 48) := ⟨_, rfl⟩
  have hS : LSt w W1 AC AL n1 n2 cc lc k cs zs := by rw [hW1]; exact LSt.start w AC AL n1 n2 cc lc k cs zs hc hz
  have HS := Lib.hid hS
  have HW := Lib.hid hW1
  have hs := fun W => small_any n1 n2 cc lc AC AL next W
  rw [decide_eq_false h] at hs
  have hs := Lib.hid hs
  clear h hS hW1 hc hz
  go_enter Try.func7, Try.ntmps7
  go_wp2_with fail
  rw [← HW.out]
  clear HW
  refine (live_any W1).mono ?_
  rintro e w1 ⟨rfl, hb1⟩
  have h1 := HS.out.step hb1
  have H1 := Lib.hid h1
  obtain ⟨cC, cL, cK⟩ := h1.2.1.cells
  clear HS hb1 h1
  go_wp2_with fail
  refine (hs.out w1).mono ?_
  rintro e w2 ⟨rfl, rfl⟩
  clear hs
  go_wp2_with fail
  go_ret
  exact ⟨rfl, H1.out.1⟩
theorem enc_low (AC AL : Option Addr) (n1 n2 cc lc : Nat) (k next pick : Int) (cs zs : List Int) (w : World) (hc : RdI w.heap.size w AC cs) (hz : RdI w.heap.size w AL zs) (h : n1 ≤ 8 ∧ n2 ≤ 8 ∧ next ≤ 40) (hlo : next < 1) :
    Calls Try.prog 7 #[.agg #[.slice AC n1 cc, .slice AL n2 lc, .int .i64 k], .int .i64 next, .int .i64 pick] w fun e w' => e = .returned (.bool true) ∧ Below w.heap.size w w' := by
  obtain ⟨W1, hW1⟩ : ∃ W1, W1 = w.alloc (.cells #[.slice AC n1 cc, .slice AL n2 lc, .int .i64 k] 48) := ⟨_, rfl⟩
  have hS : LSt w W1 AC AL n1 n2 cc lc k cs zs := by rw [hW1]; exact LSt.start w AC AL n1 n2 cc lc k cs zs hc hz
  have HS := Lib.hid hS
  have HW := Lib.hid hW1
  have hs := fun W => small_any n1 n2 cc lc AC AL next W
  rw [decide_eq_true h] at hs
  have hs := Lib.hid hs
  clear h hS hW1 hc hz
  go_enter Try.func7, Try.ntmps7
  go_wp2_with fail
  rw [← HW.out]
  clear HW
  refine (live_any W1).mono ?_
  rintro e w1 ⟨rfl, hb1⟩
  have h1 := HS.out.step hb1
  have H1 := Lib.hid h1
  obtain ⟨cC, cL, cK⟩ := h1.2.1.cells
  clear HS hb1 h1
  go_wp2_with fail
  refine (hs.out w1).mono ?_
  rintro e w2 ⟨rfl, rfl⟩
  clear hs
  go_wp2_with fail
  go_ret
  exact ⟨rfl, H1.out.1⟩
theorem enc_bad (AC AL : Option Addr) (n1 n2 cc lc : Nat) (k next pick : Int) (cs zs : List Int) (w : World) (hc : RdI w.heap.size w AC cs) (hz : RdI w.heap.size w AL zs) (hl1 : cs.length = n1) (hl2 : zs.length = n2) (h : n1 ≤ 8 ∧ n2 ≤ 8 ∧ next ≤ 40) (hlo : 1 ≤ next) (hno : ¬ OkL cs zs k (next - 1)) :
    Calls Try.prog 7 #[.agg #[.slice AC n1 cc, .slice AL n2 lc, .int .i64 k], .int .i64 next, .int .i64 pick] w fun e w' => e = .returned (.bool true) ∧ Below w.heap.size w w' := by
  obtain ⟨W1, hW1⟩ : ∃ W1, W1 = w.alloc (.cells #[.slice AC n1 cc, .slice AL n2 lc, .int .i64 k] 48) := ⟨_, rfl⟩
  have hS : LSt w W1 AC AL n1 n2 cc lc k cs zs := by rw [hW1]; exact LSt.start w AC AL n1 n2 cc lc k cs zs hc hz
  have HS := Lib.hid hS
  have HW := Lib.hid hW1
  have hs := fun W => small_any n1 n2 cc lc AC AL next W
  rw [decide_eq_true h] at hs
  have hs := Lib.hid hs
  have HC := fun W (hq : LSt w W AC AL n1 n2 cc lc k cs zs) => Lib.hid ((LinCheck_any w.heap.size AC AL n1 n2 cc lc k (next - 1) cs zs W hq.2.2.1 hq.2.2.2.1 hq.1.size hl1 hl2 (by omega) (by omega) (by omega)).2 hno)
  have hw : wrap64 (next - 1) = next - 1 := IntWalk.wrap64_in _ (by omega)
  have h40 : next ≤ 40 := h.2.2
  clear h hS hW1 hc hz hno hl1 hl2
  go_enter Try.func7, Try.ntmps7
  go_wp2_with fail
  rw [← HW.out]
  clear HW
  refine (live_any W1).mono ?_
  rintro e w1 ⟨rfl, hb1⟩
  have h1 := HS.out.step hb1
  have H1 := Lib.hid h1
  obtain ⟨cC, cL, cK⟩ := h1.2.1.cells
  have hC := HC w1 h1
  clear HS hb1 h1 HC
  go_wp2_with fail
  refine (hs.out w1).mono ?_
  rintro e w2 ⟨rfl, rfl⟩
  clear hs
  go_wp2_with fail
  refine hC.out.mono ?_
  rintro e w2 ⟨rfl, hb2⟩
  have h2 := H1.out.step hb2
  have H2 := Lib.hid h2
  clear h2 hC hb2 H1 cC cL cK
  go_wp2_with fail
  go_ret
  exact ⟨rfl, H2.out.1⟩

theorem takeH_now {P : Program} {md : Region.Mode} {ops : Array Oper} {Q : Exit → Act → World → Prop} {S : World → Prop} {i : Nat} (d : Option Tmp) {oi : Oper} {v : Value} {fuel : Nat} {listed : Array Bool} {a : Act} {w : World} (hi : ops[i]? = some oi)
    (hs : Region.noSelect ops = true) (hf : Region.free md ops listed i = true) (hr : (Region.ready md ops listed).contains i = true)
    (hQ : ∀ c a w, Q (.panic c) (a.put oi.dst v) w → Q (.panic c) a w) (hy : YieldsIf P ops S oi v a) (hd : oi.dst = d) (hS : S w)
    (h : wpAnyH P md ops Q S fuel (listed.setIfInBounds i true) (a.put d v) w) : wpAnyH P md ops Q S (fuel + 1) listed a w := by
  subst hd
  exact wpAnyH_take hi hs hf hr hQ hy hS h

theorem OkL.up {cs zs : List Int} {k N : Int} (h : OkL cs zs k N) : OkL cs zs k 65536 := by
  obtain ⟨h1, h2, h3, h4, h5⟩ := h
  refine ⟨by omega, by omega, h3, h4, fun j hj => ⟨(h5 j hj).1, ?_⟩⟩
  have := (h5 j hj).2
  unfold litB at this ⊢
  simp at this ⊢
  omega
theorem OkL.lit {cs zs : List Int} {k : Int} {N : Nat} (h : OkL cs zs k ((N : Int) - 1)) : ∀ z ∈ zs, Lit N z := fun z hz => by
  obtain ⟨j, hj, rfl⟩ := List.mem_iff_getElem.1 hz
  have := (h.2.2.2.2 j hj).2
  rw [List.getElem?_eq_getElem hj, Option.getD_some] at this
  unfold litB at this
  simp at this
  exact ⟨by omega, by omega, by omega⟩
theorem OkL.num {cs zs : List Int} {k N : Int} (h : OkL cs zs k N) : ∀ c ∈ cs, -1099511627776 ≤ c ∧ c ≤ 1099511627776 := fun c hc => by
  obtain ⟨j, hj, rfl⟩ := List.mem_iff_getElem.1 hc
  have := (h.2.2.2.2 j (by have := h.2.2.1; omega)).1
  rw [List.getElem?_eq_getElem hj, Option.getD_some] at this
  unfold numB at this
  simpa using this
theorem RowC.lit0 (X : World) (base B : Nat) (hb : base ≤ X.heap.size) : RowC (X.alloc (.cells #[] 22)) base B (.slice (some ⟨X.heap.size, 0, none⟩) 0 0) [] := by
  have := World.ownsRow_lit (base := base) (e := 22) (size := 1) X (#[] : Array Value) 0 hb (by unfold maxLen; omega) (by simp)
  exact ⟨[], this, rfl, fun j h => absurd h (by simp)⟩
theorem few_cl {N : Nat} {xs : List Nat} {zs : List Int} {t : List Int × List (List Int) × Nat} (ht : addUp (rowsOf xs zs) [] N = some t) (F : FewT N t.2.2 xs zs t.1 t.2.1) : t.2.1.length ≤ 14000 := by
  obtain ⟨A, i1, i2, i3, i4, i5⟩ := addUp_sizes _ _ _ t ht
  have := F.up
  omega
/-- Both together hold just where the constraint does. -/
theorem enc_means {N M : Nat} {sc sl cs zs bits : List Int} {cl : List (List Int)} {sk k : Int} {n K : Nat} (F : FewT N M (sc.map Int.toNat) sl bits cl) (nf : NF cs zs k n sc sl sk) (hK : sk = (K : Int)) (hz : ∀ z ∈ zs, Lit N z) (a : List Bool) (ha : a.length = N) :
    ∃ b : List Bool, b.length = M ∧ tld cl (M - N) a = some b ∧ ((cl ++ ls bits K 60).all fun l => l.any (tv b)) = decide (k ≤ wsum a cs zs) := by
  obtain ⟨b, f1, f2, f3, f4, d, rfl⟩ := F.told a ha
  refine ⟨_, f1, f2, ?_⟩
  have hK2 : K ≤ 4503599627370496 := by have := nf.k1; omega
  rw [List.all_append, f3.all, Bool.true_and, least_holds _ _ _ hK2, f4]
  have h1 := sm_wsum (a ++ d) sc sl nf.pos
  have h2 := nf.means (a ++ d)
  rw [wsum_ext d cs zs (by rw [ha]; exact hz)] at h2
  by_cases q : k ≤ wsum a cs zs
  · rw [decide_eq_true q, decide_eq_true (by have := h2.2 q; omega)]
  · rw [decide_eq_false q, decide_eq_false (fun h => q (h2.1 (by omega)))]
theorem not_farB {bits : List Int} {M : Nat} (h : ∀ x ∈ bits, x = 0 ∨ Lit M x) (hM : M ≤ 65537) : bits.any farB = false := by
  rw [List.any_eq_false]
  intro x hx
  unfold farB
  rcases h x hx with rfl | ⟨h1, h2, h3⟩
  · decide
  · simp; omega

set_option maxHeartbeats 16000000 in
theorem enc_main (AC AL : Option Addr) (n cc lc N P : Nat) (k pick : Int) (cs zs : List Int) (w : World) (hc : RdI w.heap.size w AC cs) (hz : RdI w.heap.size w AL zs) (hl1 : cs.length = n) (hl2 : zs.length = n) (h : n ≤ 8 ∧ n ≤ 8 ∧ (N : Int) ≤ 40) (hPN : N = P + 1) (hok : OkL cs zs k ((N : Int) - 1)) (hp : Wf pick) :
    Calls Try.prog 7 #[.agg #[.slice AC n cc, .slice AL n lc, .int .i64 k], .int .i64 (N : Int), .int .i64 pick] w fun e w' => e = .returned (.bool true) ∧ Below w.heap.size w w' := by
  obtain ⟨W1, hW1⟩ : ∃ W1, W1 = w.alloc (.cells #[.slice AC n cc, .slice AL n lc, .int .i64 k] 48) := ⟨_, rfl⟩
  have hS : LSt w W1 AC AL n n cc lc k cs zs := by rw [hW1]; exact LSt.start w AC AL n n cc lc k cs zs hc hz
  have HS := Lib.hid hS
  have HW := Lib.hid hW1
  have hs := fun W => small_any n n cc lc AC AL N W
  rw [decide_eq_true h] at hs
  have hs := Lib.hid hs
  have h8 : n ≤ 8 := h.1
  have h40 : N ≤ 40 := by omega
  have hN1 : 1 ≤ N := by omega
  have HC := fun W (hq : LSt w W AC AL n n cc lc k cs zs) => Lib.hid ((LinCheck_any w.heap.size AC AL n n cc lc k ((N : Int) - 1) cs zs W hq.2.2.1 hq.2.2.2.1 hq.1.size hl1 hl2 (by omega) (by omega) (by omega)).1 hok)
  have HN := fun W (hq : LSt w W AC AL n n cc lc k cs zs) => Lib.hid (norm_abs w.heap.size n cc lc AC AL k cs zs W hq.2.2.1 hq.2.2.2.1 hq.1.size hl1 hl2 h8 hok.up)
  have HL := Lib.hid (And.intro hl1 (And.intro hl2 (And.intro hok (And.intro hPN hp))))
  have hw : wrap64 ((N : Int) - 1) = (P : Int) := by rw [IntWalk.wrap64_in _ (by omega)]; omega
  have hPe : (N : Int) - 1 = (P : Int) := by omega
  clear h hS hW1 hc hz hok hl1 hl2 hPN
  go_enter Try.func7, Try.ntmps7
  go_wp2_with fail
  rw [← HW.out]
  clear HW
  refine (live_any W1).mono ?_
  rintro e w1 ⟨rfl, hb1⟩
  have h1 := HS.out.step hb1
  have H1 := Lib.hid h1
  obtain ⟨cC, cL, cK⟩ := h1.2.1.cells
  have hC := HC w1 h1
  rw [hPe] at hC
  clear HS hb1 h1 HC
  go_wp2_with fail
  refine (hs.out w1).mono ?_
  rintro e w2 ⟨rfl, rfl⟩
  clear hs
  go_wp2_with fail
  refine hC.out.mono ?_
  rintro e w2 ⟨rfl, hb2⟩
  have h2 := H1.out.step hb2
  have H2 := Lib.hid h2
  have hN := HN w2 h2
  clear cC cL cK
  obtain ⟨cC, cL, cK⟩ := h2.2.1.cells
  clear h2 hC hb2 H1 HN
  go_wp2_with fail
  refine hN.out.mono ?_
  rintro e w3 ⟨sc, sl, sk, A1, c1, A2, c2, rfl, nf, r1, r2, hb3⟩
  obtain ⟨K, rfl⟩ := Int.eq_ofNat_of_zero_le nf.k0
  have h3 := H2.out.step hb3
  obtain ⟨L, hL⟩ : ∃ L, sl.length = L := ⟨_, rfl⟩
  rw [nf.same, hL]
  obtain ⟨g2, hg2⟩ : ∃ g2, w3.heap.size = g2 := ⟨_, rfl⟩
  obtain ⟨W4, hW4⟩ : ∃ W4, W4 = w3.alloc (.cells #[.slice A1 L c1, .slice A2 L c2, .int .i64 (K : Int)] 48) := ⟨_, rfl⟩
  have hb4 : Below w3.heap.size w3 W4 := by rw [hW4]; exact (Below.refl _ _).alloc (Nat.le_refl _) _
  have h4 := h3.step hb4
  have hy4 : LinAt W4 g2 (.slice A1 L c1) (.slice A2 L c2) (K : Int) 48 := by rw [hW4, ← hg2]; exact heap_alloc_new _ _
  have p1 := RdI.more (r1.below hb4 (Nat.le_refl _)) hb4.size
  have p2 := RdI.more (r2.below hb4 (Nat.le_refl _)) hb4.size
  have HNF := Lib.hid nf
  have hL8 : L ≤ 8 := by have := nf.few; omega
  have hLs : sc.length = L := nf.same.trans hL
  have hK1 : K ≤ 4503599627370496 := by have := nf.k1; omega
  have hge := hb3.size
  have hw2 := H2.out.2.2.2.2
  have H4 := Lib.hid (And.intro h4 (And.intro hy4 (And.intro p1 (And.intro p2 (And.intro hLs hL)))))
  have HW := Lib.hid hW4
  clear h3 h4 hy4 p1 p2 r1 r2 hb3 hb4 hW4 nf H2 hN cC cL cK hL hLs
  by_cases ho : OkS sc sl (N : Int)
  · rcases ht : addUp (rowsOf (sc.map Int.toNat) sl) [] N with _ | t
    · have hS := Sum_none (c1 := c1) (c2 := c2) ho ht H4.out.2.2.2.2.1 H4.out.2.2.2.2.2 (by omega) W4 H4.out.2.2.1 H4.out.2.2.2.1
      obtain ⟨cC, cL, cK⟩ := H4.out.2.1.cells
      have HSm := Lib.hid hS
      clear hS ho ht
      go_wp2_with fail
      rw [← HW.out]
      clear HW
      refine HSm.out.mono ?_
      rintro e w5 ⟨A3, c3, B3, d3, rfl, _, _, _, hb5, _⟩
      have H5 := Lib.hid (H4.out.1.step hb5)
      clear HSm H4 hb5 cC cL cK HL HNF
      go_wp2_with fail
      go_ret
      exact ⟨rfl, H5.out.1⟩
    · have F := few_terms ht (by omega) (by omega) (by rw [List.length_map, H4.out.2.2.2.2.1, H4.out.2.2.2.2.2]) (by rw [H4.out.2.2.2.2.2]; omega) ho.few.1 (by have := ho.few.2; rwa [Int.toNat_natCast] at this)
      have hcl14 := few_cl ht F
      have hS := Sum_someX (c1 := c1) (c2 := c2) ho ht H4.out.2.2.2.2.1 H4.out.2.2.2.2.2 (by omega) W4 H4.out.2.2.1 H4.out.2.2.2.1
      obtain ⟨bits, cl, M⟩ := t
      simp only at F hcl14 hS
      obtain ⟨b, f1, f2, f3⟩ := enc_means F HNF.out rfl HL.out.2.2.1.lit (tru pick P) (by rw [tru_len]; exact HL.out.2.2.2.1.symm)
      obtain ⟨cC, cL, cK⟩ := H4.out.2.1.cells
      obtain ⟨c2x, hc2x⟩ : ∃ x, ls bits K 60 = x := ⟨_, rfl⟩
      rw [hc2x] at f3
      obtain ⟨K1, hK1e⟩ : ∃ x, c2x.length = x := ⟨_, rfl⟩
      have hK53 : K1 ≤ 53 := by rw [← hK1e, ← hc2x]; exact ls_few bits K hK1 7
      obtain ⟨nb1, hnb⟩ : ∃ x, bits.length = x := ⟨_, rfl⟩
      obtain ⟨KC, hKC⟩ : ∃ x, cl.length = x := ⟨_, rfl⟩
      have hfar := not_farB F.lits F.top
      obtain ⟨R, hR⟩ : ∃ R, decide (k ≤ wsum (tru pick P) cs zs) = R := ⟨_, rfl⟩
      rw [hR] at f3
      have hKC14 : KC ≤ 14000 := by rw [← hKC]; exact hcl14
      have hnb60 : nb1 ≤ 60 := by rw [← hnb]; exact F.nbits
      have g1 : N ≤ M := F.le
      have g2' : M ≤ N + 2000 := F.up
      have g3 : M ≤ 65537 := F.top
      have hl2x : ∀ l ∈ c2x, ∀ x ∈ l, Lit M x := by rw [← hc2x]; exact ls_lits K M F.lits
      have FF := Lib.hid F
      have HB := Lib.hid (And.intro f1 (And.intro f2 (And.intro f3 (And.intro hc2x (And.intro hK1e (And.intro hnb (And.intro hKC (And.intro hfar (And.intro hR hl2x)))))))))
      have HSm := Lib.hid hS
      clear F hcl14 hS f1 f2 f3 hc2x hK1e hnb hKC hfar hR hl2x ho ht HNF
      go_wp2_with fail
      rw [← HW.out]
      clear HW
      refine HSm.out.mono ?_
      rintro e w5 ⟨A3, c3, B3, d3, rfl, ⟨cap3, non3⟩, r3, r4, hb5, hl4⟩
      rw [HB.out.2.2.2.2.2.1, HB.out.2.2.2.2.2.2.1]
      rw [HB.out.2.2.2.2.2.2.1] at cap3
      have h5 := H4.out.1.step hb5
      have hy5 := H4.out.2.1.below hb5
      clear cC cL cK HSm H4 hb5
      obtain ⟨cC, cL, cK⟩ := hy5.cells
      have hLe := Least_anyX w5.heap.size A3 nb1 c3 K bits w5 r3 (Nat.le_refl _) HB.out.2.2.2.2.2.1 hK1 HB.out.2.2.2.2.2.2.2.1 hnb60
      rw [HB.out.2.2.2.1] at hLe
      have HLe := Lib.hid hLe
      have H5 := Lib.hid (And.intro h5 (And.intro r4 (And.intro hl4 (And.intro cap3 non3))))
      clear h5 hy5 hLe r3 r4 hl4 cap3 non3
      go_wp2_with fail
      refine HLe.out.mono ?_
      rintro e w6 ⟨A5, c5, rfl, ⟨cap5, non5⟩, r5, hb6, hl5⟩
      rw [HB.out.2.2.2.2.1]
      rw [HB.out.2.2.2.2.1] at cap5
      have h6 := H5.out.1.step hb6
      have r46 := RdR.more (H5.out.2.1.below hb6 (Nat.le_refl _)) hb6.size
      have H6 := Lib.hid (And.intro h6 (And.intro r46 (And.intro r5 (And.intro hl5 (And.intro cap5 (And.intro non5 (And.intro H5.out.2.2.1 H5.out.2.2.2)))))))
      clear h6 r46 r5 hl5 cap5 non5 hb6 HLe H5 cC cL cK
      go_wp2_with fail
      refine (truths_any P pick w6 (by omega) HL.out.2.2.2.2).mono ?_
      rintro e w7 ⟨A6, c6, rfl, rb, hb7⟩
      have h7 := H6.out.1.step hb7
      have r47 := RdR.more (H6.out.2.1.below hb7 (Nat.le_refl _)) hb7.size
      have r57 := RdR.more (H6.out.2.2.1.below hb7 (Nat.le_refl _)) hb7.size
      have hT := told_any w7.heap.size w7.heap.size KC d3 (P + 1) c6 (M - N) M B3 A6 cl (tru pick P) b w7 r47 (Nat.le_refl _) HB.out.2.2.2.2.2.2.1 (by omega) rb (Nat.le_refl _) (tru_len _ _) (by omega) (by have := HL.out.2.2.2.1; omega) (by omega) H6.out.2.2.2.2.2.2.1 FF.out.old HB.out.2.1
      rw [show P + 1 + (M - N) = M by have := HL.out.2.2.2.1; omega, show ((P + 1 : Nat) : Int) = (N : Int) by have := HL.out.2.2.2.1; omega] at hT
      have HT := Lib.hid hT
      have H7 := Lib.hid (And.intro h7 (And.intro r47 r57))
      clear h7 r47 r57 rb hT hb7
      go_wp2_with fail
      refine HT.out.mono ?_
      rintro e w8 ⟨A7, c7, rfl, rb8, hb8⟩
      have h8' := H7.out.1.step hb8
      have r48 := RdR.more (H7.out.2.1.below hb8 (Nat.le_refl _)) hb8.size
      have r58 := RdR.more (H7.out.2.2.below hb8 (Nat.le_refl _)) hb8.size
      clear HT H7 hb8
      -- the clauses together
      have hb9 : Below w8.heap.size w8 (w8.alloc (.cells #[] 22)) := (Below.refl _ _).alloc (Nat.le_refl _) _
      have q0 := RowC.lit0 w8 w8.heap.size w8.heap.size (Nat.le_refl _)
      have q4 := r48.below hb9 (Nat.le_refl _)
      have q5 := r58.below hb9 (Nat.le_refl _)
      have hsz9 : (w8.alloc (.cells #[] 22)).heap.size = w8.heap.size + 1 := by simp
      have Q := Lib.hid (And.intro q0 (And.intro q4 (And.intro q5 (And.intro h8' (And.intro rb8 hb9)))))
      clear q0 q4 q5 rb8 r48 r58 h8' hb9
      go_wp2_with (at_builtin; go_loud (refine push_cls rfl _ _ rfl w8.heap.size w8.heap.size _ [] rfl Q.out.1 w8.heap.size B3 KC d3 cl rfl Q.out.2.1 HB.out.2.2.2.2.2.2.1 H6.out.2.2.2.2.2.2.2.2 H6.out.2.2.2.2.2.2.2.1 (Nat.le_refl _) (by simp; omega) (Nat.le_refl _) (by simp) ?_))
      intro v1 w10 qc1 hb10
      have q5' := Q.out.2.2.1.below hb10 (Nat.le_refl _)
      obtain ⟨A8, d8, rfl, _⟩ := qc1.res (by have := hb10.size; omega)
      have hl8 : cl.length = KC := HB.out.2.2.2.2.2.2.1
      rw [hl8] at qc1 ⊢
      have hs10 := hb10.size
      have Q1 := Lib.hid (And.intro qc1 (And.intro q5' hb10))
      have HL8 := Lib.hid hl8
      clear qc1 q5' hb10 hl8
      go_wp2_with (at_builtin; go_loud (refine push_cls rfl _ _ rfl w8.heap.size w8.heap.size (.slice A8 KC d8) cl rfl Q1.out.1 w8.heap.size A5 K1 c5 c2x rfl Q1.out.2.1 HB.out.2.2.2.2.1 H6.out.2.2.2.2.2.1 H6.out.2.2.2.2.1 (Nat.le_refl _) (by rw [HL8.out]; omega) (Nat.le_refl _) (by omega) ?_))
      intro v2 w11 qc2 hb11
      have hs11 := hb11.size
      have hb811 : Below w8.heap.size w8 w11 := Q.out.2.2.2.2.2.trans (Q1.out.2.2.trans hb11)
      obtain ⟨A9, d9, rfl, r9⟩ := qc2.res (by omega)
      have hl9 : (cl ++ c2x).length = KC + K1 := by rw [List.length_append, HL8.out, HB.out.2.2.2.2.1]
      rw [hl9]
      have h11 := Q.out.2.2.2.1.step hb811
      have rb11 := (Q.out.2.2.2.2.1.below hb811 (Nat.le_refl _)).more hb811.size
      have hold : ∀ l ∈ cl ++ c2x, ∀ x ∈ l, Lit M x := fun l hl => by
        rcases List.mem_append.1 hl with q | q
        · exact FF.out.old l q
        · exact HB.out.2.2.2.2.2.2.2.2.2 l q
      have hlen9 : ∀ j, j < (cl ++ c2x).length → ((cl ++ c2x)[j]?.getD []).length ≤ maxLen := fun j hj => by
        by_cases q : j < cl.length
        · rw [List.getElem?_append_left q]; exact H6.out.2.2.2.2.2.2.1 j q
        · rw [List.getElem?_append_right (by omega)]; exact H6.out.2.2.2.1 _ (by rw [List.length_append] at hj; omega)
      have hV : ∀ W, Below w11.heap.size w11 W → Calls Try.prog 23 #[.agg #[.int .i64 ((M : Int) - 1), .slice A9 (KC + K1) d9], .slice A7 M c7] W fun e w' => e = .returned (.bool R) ∧ Below W.heap.size W w' := fun W hW => by
        have := Value_any w11.heap.size w11.heap.size A7 A9 M (KC + K1) d9 M c7 ((M : Int) - 1) (cl ++ c2x) b W (r9.below hW (Nat.le_refl _)) hW.size hl9 (by omega) (rb11.below hW (Nat.le_refl _)) hW.size HB.out.1 hlen9 hold (by omega) (Nat.le_refl _) g3 (by omega) rfl
        rwa [HB.out.2.2.1] at this
      have hTr : ∀ W : World, Calls Try.prog 22 #[.int .i64 (P : Int), .int .i64 pick] W fun e w' => ∃ A c, e = .returned (.slice A (P + 1) c) ∧ RdB w'.heap.size w' A (tru pick P) ∧ Below W.heap.size W w' := fun W => truths_any P pick W (by omega) HL.out.2.2.2.2
      have hLv : ∀ (W1 W : World) A c, RdB W1.heap.size W1 A (tru pick P) → Below W1.heap.size W1 W → Below w11.heap.size w11 W → Calls Try.prog 29 #[.agg #[.slice AC n cc, .slice AL n lc, .int .i64 k], .slice A (P + 1) c] W fun e w' => e = .returned (.bool R) ∧ Below W.heap.size W w' := fun W1 W A c hr h1 h2 => by
        have h11' := h11.step h2
        have := linValue_any w.heap.size W1.heap.size AC AL A n cc lc (P + 1) c _ k cs zs (tru pick P) W h11'.2.2.1 h11'.2.2.2.1 h11'.1.size h1.size HL.out.1 HL.out.2.1 (by omega) HL.out.2.2.1.up (hr.below h1 (Nat.le_refl _)) (tru_len _ _) (by omega) (fun x hx => by have := HL.out.2.2.1.lit x hx; rwa [HL.out.2.2.2.1] at this) HL.out.2.2.1.num rfl
        rwa [HB.out.2.2.2.2.2.2.2.2.1] at this
      obtain ⟨cC, cL, cK⟩ := h11.2.1.cells
      have hg11 := h11.2.2.2.2
      have hkeep : ∀ W W', (Below w11.heap.size w11 W ∧ W.cell? ⟨w.heap.size, 0, none⟩ = some (.slice AC n cc) ∧ W.cell? ⟨w.heap.size, 1, none⟩ = some (.slice AL n lc) ∧ W.cell? ⟨w.heap.size, 2, none⟩ = some (.int .i64 k)) → Below W.heap.size W W' →
          (Below w11.heap.size w11 W' ∧ W'.cell? ⟨w.heap.size, 0, none⟩ = some (.slice AC n cc) ∧ W'.cell? ⟨w.heap.size, 1, none⟩ = some (.slice AL n lc) ∧ W'.cell? ⟨w.heap.size, 2, none⟩ = some (.int .i64 k)) := fun W W' ⟨i1, i2, i3, i4⟩ hb => by
        have hsw := i1.size
        exact ⟨i1.trans (hb.mono hsw), (hb.cell (p := ⟨w.heap.size, 0, none⟩) (by show w.heap.size < W.heap.size; omega)).trans i2, (hb.cell (p := ⟨w.heap.size, 1, none⟩) (by show w.heap.size < W.heap.size; omega)).trans i3, (hb.cell (p := ⟨w.heap.size, 2, none⟩) (by show w.heap.size < W.heap.size; omega)).trans i4⟩
      have hstart : Below w11.heap.size w11 w11.drew ∧ w11.drew.cell? ⟨w.heap.size, 0, none⟩ = some (.slice AC n cc) ∧ w11.drew.cell? ⟨w.heap.size, 1, none⟩ = some (.slice AL n lc) ∧ w11.drew.cell? ⟨w.heap.size, 2, none⟩ = some (.int .i64 k) := ⟨(Below.refl _ _).drew, cC, cL, cK⟩
      have hfin : ∀ W, Below w11.heap.size w11 W → Below w.heap.size w W := fun W hW => h11.1.trans (hW.mono h11.1.size)
      have hwM : wrap64 ((M : Int) - 1) = (M : Int) - 1 := IntWalk.wrap64_in _ (by omega)
      have hwM' : IntKind.i64.wrap ((M : Int) - 1) = (M : Int) - 1 := by rw [IntWalk.i64_left]; exact hwM
      have hwP' : IntKind.i64.wrap ((N : Int) - 1) = (P : Int) := by rw [IntWalk.i64_left]; exact hw
      have hwPP : IntKind.i64.wrap (P : Int) = (P : Int) := by rw [IntWalk.i64_left]; exact IntWalk.wrap64_in _ (by omega)
      have HV := Lib.hid hV
      have HTr := Lib.hid hTr
      have HLv := Lib.hid hLv
      have HK := Lib.hid hkeep
      have HF := Lib.hid hfin
      clear Q Q1 H6 HB FF HL8 hV hTr hLv hkeep hfin hold hlen9 rb11 r9 qc2 hb811 hb11 h11 hl9 HL
      go_wp2_with fail
      clear hp hs hw2 hge cC cL cK hs10 hs11 g1 g2' g3 hKC14 hnb60 hK53 hK1 hL8 hg2
      refine wp_region_held_drew (S := fun W => Below w11.heap.size w11 W ∧ W.cell? ⟨w.heap.size, 0, none⟩ = some (.slice AC n cc) ∧ W.cell? ⟨w.heap.size, 1, none⟩ = some (.slice AL n lc) ∧ W.cell? ⟨w.heap.size, 2, none⟩ = some (.int .i64 k)) (by kernel_rfl) hstart (fun hHeld => ?_)
      clear hstart
      refine takeH_now (i := 0) (some 91) (v := ?_) rfl (by kernel_rfl) (by kernel_rfl) (by kernel_rfl) (fun _ _ _ h => h) (Or.inl ⟨by rfl, ?_⟩) rfl (by assumption) ?_
      rotate_left
      focus (intro w9 hS9; go_simp; try with_reducible rfl)
      try simp only [Act.put, List.setIfInBounds_toArray, List.set_cons_zero, List.set_cons_succ]
      refine takeH_now (i := 1) (some 92) (v := ?_) rfl (by kernel_rfl) (by kernel_rfl) (by kernel_rfl) (fun _ _ _ h => h) (Or.inl ⟨by rfl, ?_⟩) rfl (by assumption) ?_
      rotate_left
      focus (intro w9 hS9; go_simp; try with_reducible rfl)
      try simp only [Act.put, List.setIfInBounds_toArray, List.set_cons_zero, List.set_cons_succ]
      refine takeH_now (i := 2) (some 93) (v := ?_) rfl (by kernel_rfl) (by kernel_rfl) (by kernel_rfl) (fun _ _ _ h => h) (Or.inl ⟨by rfl, ?_⟩) rfl (by assumption) ?_
      rotate_left
      focus (intro w9 hS9; go_simp; try with_reducible rfl)
      try simp only [Act.put, List.setIfInBounds_toArray, List.set_cons_zero, List.set_cons_succ]
      refine takeH_now (i := 3) (some 94) (v := ?_) rfl (by kernel_rfl) (by kernel_rfl) (by kernel_rfl) (fun _ _ _ h => h) (Or.inl ⟨by rfl, ?_⟩) rfl (by assumption) ?_
      rotate_left
      focus (intro w9 hS9; go_simp; try with_reducible rfl)
      try simp only [Act.put, List.setIfInBounds_toArray, List.set_cons_zero, List.set_cons_succ]
      refine takeH_now (i := 4) (some 95) (v := ?_) rfl (by kernel_rfl) (by kernel_rfl) (by kernel_rfl) (fun _ _ _ h => h) (Or.inl ⟨by rfl, ?_⟩) rfl (by assumption) ?_
      rotate_left
      focus (intro w9 hS9; go_simp; try with_reducible rfl)
      try simp only [Act.put, List.setIfInBounds_toArray, List.set_cons_zero, List.set_cons_succ]
      refine takeH_now (i := 5) (some 96) (v := ?_) rfl (by kernel_rfl) (by kernel_rfl) (by kernel_rfl) (fun _ _ _ h => h) (Or.inl ⟨by rfl, ?_⟩) rfl (by assumption) ?_
      rotate_left
      focus (intro w9 hS9; go_simp; try with_reducible rfl)
      try simp only [Act.put, List.setIfInBounds_toArray, List.set_cons_zero, List.set_cons_succ]
      refine takeH_now (i := 6) (some 97) (v := ?_) rfl (by kernel_rfl) (by kernel_rfl) (by kernel_rfl) (fun _ _ _ h => h) (Or.inl ⟨by rfl, ?_⟩) rfl (by assumption) ?_
      rotate_left
      focus (intro w9 hS9; go_simp; try with_reducible rfl)
      try simp only [Act.put, List.setIfInBounds_toArray, List.set_cons_zero, List.set_cons_succ]
      refine takeH_now (i := 8) (some 99) (v := ?_) rfl (by kernel_rfl) (by kernel_rfl) (by kernel_rfl) (fun _ _ _ h => h) (Or.inl ⟨by rfl, ?_⟩) rfl (by assumption) ?_
      rotate_left
      focus (intro w9 hS9; have cC := hS9.2.1; have cL := hS9.2.2.1; have cK := hS9.2.2.2; clear hS9; go_simp; try with_reducible rfl)
      try simp only [Act.put, List.setIfInBounds_toArray, List.set_cons_zero, List.set_cons_succ]
      refine takeH_now (i := 9) (some 100) (v := ?_) rfl (by kernel_rfl) (by kernel_rfl) (by kernel_rfl) (fun _ _ _ h => h) (Or.inl ⟨by rfl, ?_⟩) rfl (by assumption) ?_
      rotate_left
      focus (intro w9 hS9; go_simp; try with_reducible rfl)
      try simp only [Act.put, List.setIfInBounds_toArray, List.set_cons_zero, List.set_cons_succ]
      refine takeH_now (i := 10) (some 101) (v := ?_) rfl (by kernel_rfl) (by kernel_rfl) (by kernel_rfl) (fun _ _ _ h => h) (Or.inl ⟨by rfl, ?_⟩) rfl (by assumption) ?_
      rotate_left
      focus (intro w9 hS9; go_simp; try with_reducible rfl)
      try simp only [Act.put, List.setIfInBounds_toArray, List.set_cons_zero, List.set_cons_succ]
      refine takeH_now (i := 11) (some 102) (v := ?_) rfl (by kernel_rfl) (by kernel_rfl) (by kernel_rfl) (fun _ _ _ h => h) (Or.inl ⟨by rfl, ?_⟩) rfl (by assumption) ?_
      rotate_left
      focus (intro w9 hS9; go_simp; try with_reducible rfl)
      try simp only [Act.put, List.setIfInBounds_toArray, List.set_cons_zero, List.set_cons_succ]
      refine wpAnyH_ready (rs := [7]) (by kernel_rfl) (by simp) ?_
      refine AllReadyH.cons (o := { dst := some 98, op := Op.call { callee := Callee.value (Operand.func 23), args := #[Operand.tmp 96, Operand.tmp 97], argTypes := #[36, 37] }, type := 4, pos := "law.go:198", after := #[{ on := 5, ground := Ground.data }, { on := 6, ground := Ground.data }, { on := 1, ground := Ground.chain }, { on := 1, ground := Ground.guard }], guard := some (1, true) }) rfl (fun K' hK' => ?_) AllReadyH.nil
      rw [if_pos (by kernel_rfl)]
      go_simp
      refine (HV.out _ hHeld.1).mono ?_
      rintro e wa ⟨rfl, hba⟩
      have hHa := HK.out _ _ hHeld hba
      clear hHeld hba
      refine hK'.out _ _ hHa (fun hHeld => ?_)
      clear hK' hHa
      try simp only [Act.put, List.setIfInBounds_toArray, List.set_cons_zero, List.set_cons_succ]
      refine wpAnyH_ready (rs := [12]) (by kernel_rfl) (by simp) ?_
      refine AllReadyH.cons (o := { dst := some 103, op := Op.call { callee := Callee.value (Operand.func 22), args := #[Operand.tmp 101, Operand.tmp 102], argTypes := #[3, 3] }, type := 37, pos := "law.go:198", after := #[{ on := 10, ground := Ground.data }, { on := 11, ground := Ground.data }, { on := 7, ground := Ground.chain }, { on := 1, ground := Ground.guard }], guard := some (1, true) }) rfl (fun K' hK' => ?_) AllReadyH.nil
      rw [if_pos (by kernel_rfl)]
      go_simp
      refine (HTr.out _).mono ?_
      rintro e wb ⟨AT, cT, rfl, hrT, hba⟩
      have hHa := HK.out _ _ hHeld hba
      have HrT := Lib.hid hrT
      clear hHeld hba hrT
      refine hK'.out _ _ hHa (fun hHeld => ?_)
      clear hK' hHa
      try simp only [Act.put, List.setIfInBounds_toArray, List.set_cons_zero, List.set_cons_succ]
      refine wpAnyH_ready (rs := [13]) (by kernel_rfl) (by simp) ?_
      refine AllReadyH.cons (o := { dst := some 104, op := Op.call { callee := Callee.value (Operand.func 29), args := #[Operand.tmp 99, Operand.tmp 103], argTypes := #[48, 37] }, type := 4, pos := "law.go:198", after := #[{ on := 8, ground := Ground.data }, { on := 12, ground := Ground.data }, { on := 12, ground := Ground.chain }, { on := 1, ground := Ground.guard }], guard := some (1, true) }) rfl (fun K' hK' => ?_) AllReadyH.nil
      rw [if_pos (by kernel_rfl)]
      go_simp
      refine (HLv.out _ _ _ _ HrT.out (Below.refl _ _) hHeld.1).mono ?_
      rintro e wc ⟨rfl, hba⟩
      have hHa := HK.out _ _ hHeld hba
      clear hHeld hba HrT
      refine hK'.out _ _ hHa (fun hHeld => ?_)
      clear hK' hHa
      try simp only [Act.put, List.setIfInBounds_toArray, List.set_cons_zero, List.set_cons_succ]
      refine takeH_now (i := 14) (some 105) (v := ?_) rfl (by kernel_rfl) (by kernel_rfl) (by kernel_rfl) (fun _ _ _ h => h) (Or.inl ⟨by rfl, ?_⟩) rfl (by assumption) ?_
      rotate_left
      focus (intro w9 hS9; go_simp; try with_reducible rfl)
      try simp only [Act.put, List.setIfInBounds_toArray, List.set_cons_zero, List.set_cons_succ]
      refine takeH_now (i := 15) (some 106) (v := ?_) rfl (by kernel_rfl) (by kernel_rfl) (by kernel_rfl) (fun _ _ _ h => h) (Or.inl ⟨by rfl, ?_⟩) rfl (by assumption) ?_
      rotate_left
      focus (intro w9 hS9; go_simp; try with_reducible rfl)
      try simp only [Act.put, List.setIfInBounds_toArray, List.set_cons_zero, List.set_cons_succ]
      refine takeH_now (i := 16) (some 6) (v := ?_) rfl (by kernel_rfl) (by kernel_rfl) (by kernel_rfl) (fun _ _ _ h => h) (Or.inl ⟨by rfl, ?_⟩) rfl (by assumption) ?_
      rotate_left
      focus (intro w9 hS9; go_simp; try with_reducible rfl)
      try simp only [Act.put, List.setIfInBounds_toArray, List.set_cons_zero, List.set_cons_succ]
      refine wpAnyH_done (by kernel_rfl) ?_ _
      have hend := HF.out _ hHeld.1
      clear hHeld
      go_wp2_with fail
      go_ret
      exact ⟨rfl, hend⟩
  · have hS := Sum_arg _ L L c1 c2 (N : Int) A1 A2 sc sl W4 H4.out.2.2.1 H4.out.2.2.2.1 H4.out.2.2.2.2.1 H4.out.2.2.2.2.2 (by omega) ho
    obtain ⟨cC, cL, cK⟩ := H4.out.2.1.cells
    have HSm := Lib.hid hS
    clear hS ho
    go_wp2_with fail
    rw [← HW.out]
    clear HW
    refine HSm.out.mono ?_
    rintro e w5 ⟨A3, c3, B3, d3, rfl, _, _, _, hb5, _⟩
    have H5 := Lib.hid (H4.out.1.step hb5)
    clear HSm H4 hb5 cC cL cK HL HNF
    go_wp2_with fail
    go_ret
    exact ⟨rfl, H5.out.1⟩
/-- A slice of integers that stands in a struct. -/
theorem open_intcell {H : Type} {enc : TypeId × Value → H} {W : World} {v : Value} {y : DataW H × List MemPlace} {m : Nat} (h : DataW.trod enc Try.prog W 0 (fun _ => true) true m 22 [v] = some y)
    (hlt : ∀ x ∈ y.2, x.block < W.heap.size) :
    ∃ A len cap zs, v = .slice A len cap ∧ RdI W.heap.size W A zs ∧ zs.length = len ∧ len ≤ cap ∧ cap ≤ maxLen := by
  obtain ⟨a0, len, cap, e⟩ := Joins.slice_form underlying22 h
  injection e with e _
  subst e
  obtain ⟨d, p⟩ := y
  rcases open_ints underlying22 underlying3' Try_cells3 h with ⟨hcs, hx⟩ | ⟨a, len', cap', zs, hcs, _, hl, hm, hz, hx, hcell, hwz⟩
  · simp at hcs
    obtain ⟨rfl, rfl, rfl⟩ := hcs
    exact ⟨_, _, _, [], rfl, RdI.nil _ _ _, rfl, Nat.le_refl _, Nat.zero_le _⟩
  · simp at hcs
    obtain ⟨rfl, rfl, rfl⟩ := hcs
    simp only [Prod.mk.injEq] at hx
    obtain ⟨rfl, rfl⟩ := hx
    simp only [if_true] at hz
    have hlen : (zs.take len).length = len := by simp; omega
    refine ⟨some a, len, cap, zs.take len, rfl, ⟨fun z hz1 => ?_, fun hn => ?_⟩, hlen, hl, hm⟩
    · have := bounds_i64 (hwz z (List.mem_of_mem_take hz1))
      exact this
    · rw [hlen] at hn
      obtain ⟨b, off, spot⟩ := a
      have hspot : spot = Option.none := by simpa [Addr.add] using World.cell?_spot (hcell 0 (by omega))
      subst hspot
      refine ⟨b, off, rfl, hlt (.cell b off) (MemPlace.mem_row.2 ⟨0, by omega, by simp⟩), fun j hjl => ?_⟩
      rw [hlen] at hjl
      rw [← add_plain, hcell j (by omega), List.getElem?_take_of_lt hjl]
      simp [List.getD]
/-- A constraint that comes in. -/
theorem open_lin {H : Type} {enc : TypeId × Value → H} {W : World} {base : Nat} {v : Value} {d : DataW H} {p : List MemPlace} (hval : Value.okWide Try.prog W .any base 48 v) (h : DataW.Trod enc Try.prog W 0 (fun _ => true) true 48 v d p)
    (hlt : ∀ x ∈ p, x.block < W.heap.size) :
    ∃ AC n1 cc AL n2 lc k cs zs, v = .agg #[.slice AC n1 cc, .slice AL n2 lc, .int .i64 k] ∧ RdI W.heap.size W AC cs ∧ RdI W.heap.size W AL zs ∧ cs.length = n1 ∧ zs.length = n2 := by
  obtain ⟨c0, c1, c2, y0, y1, y2, m, rfl, rfl, rfl, hy0, hy1, hy2⟩ := Joins.open_agg3 Try.underlying48 (by kernel_rfl) (by kernel_rfl) hval h
  obtain ⟨k, e2, _, _⟩ := DataW.trod_int underlying3' hy2
  injection e2 with e2 _
  subst e2
  obtain ⟨AC, n1, cc, cs, rfl, r1, l1, _, _⟩ := open_intcell hy0 (fun x hx => hlt x (List.mem_append_left _ hx))
  obtain ⟨AL, n2, lc, zs, rfl, r2, l2, _, _⟩ := open_intcell hy1 (fun x hx => hlt x (List.mem_append_right _ (List.mem_append_left _ hx)))
  exact ⟨AC, n1, cc, AL, n2, lc, k, cs, zs, rfl, r1, r2, l1, l2⟩

theorem enc_any (AC AL : Option Addr) (n1 n2 cc lc : Nat) (k next pick : Int) (cs zs : List Int) (w : World) (hc : RdI w.heap.size w AC cs) (hz : RdI w.heap.size w AL zs) (hl1 : cs.length = n1) (hl2 : zs.length = n2) (hp : Wf pick) :
    Calls Try.prog 7 #[.agg #[.slice AC n1 cc, .slice AL n2 lc, .int .i64 k], .int .i64 next, .int .i64 pick] w fun e w' => e = .returned (.bool true) ∧ Below w.heap.size w w' := by
  by_cases h : n1 ≤ 8 ∧ n2 ≤ 8 ∧ next ≤ 40
  · by_cases hlo : next < 1
    · exact enc_low AC AL n1 n2 cc lc k next pick cs zs w hc hz h hlo
    · by_cases ho : OkL cs zs k (next - 1)
      · obtain ⟨N, rfl⟩ := Int.eq_ofNat_of_zero_le (show 0 ≤ next by omega)
        obtain rfl : n1 = n2 := by have := ho.2.2.1; omega
        exact enc_main AC AL n1 cc lc N (N - 1) k pick cs zs w hc hz hl1 hl2 h (by omega) ho hp
      · exact enc_bad AC AL n1 n2 cc lc k next pick cs zs w hc hz hl1 hl2 h (by omega) ho
  · exact enc_out AC AL n1 n2 cc lc k next pick cs zs w hc hz h

set_option maxRecDepth 100000 in
theorem adderEncodesLin_lifted (os : Os) (started : os.Started) (H : Type) (enc : TypeId × Value → H) :
    ReturnsInHanded {} Try.checked os 7 .any (Rows.adderEncodesLinSpec.pre6 enc Try.prog Try.f7 Rows.adderEncodesLinRow.domain false) (Rows.adderEncodesLinSpec.post enc Try.prog Try.f7 false true false false) := by
  refine returnsInHanded_of_change (C := Try.checked) Try_own started (by kernel_rfl) Try.func7
    (ChangeSpec.witness6 (enc := enc) (C := Try.checked) false ⟨#[], #[.agg #[.slice Option.none 0 0, .slice Option.none 0 0, .int .i64 0], .int .i64 0, .int .i64 0], []⟩ 7 (by kernel_rfl) (by kernel_rfl) (by kernel_rfl) (by kernel_rfl)) ?_
  intro W base args ds gs before hval0 hW _ _
  have hval : ∀ (j : Nat) t v, Try.f7.params[j]? = some t → args[j]? = some v → Value.okWide Try.prog W .any base t v := hval0
  have hW' := hW
  obtain ⟨p, q, hA0, hV, rfl, _, _⟩ := hW
  have hA : DataW.TrodAll enc Try.prog W 0 (fun _ => true) true Try.f7.params.toList args.toList ds p := hA0
  have hpar : Try.f7.params = #[48, 3, 3] := rfl
  rw [hpar] at hA hval
  have hlt : ∀ x ∈ p, x.block < W.heap.size := fun x hx => hW'.lt x (List.mem_append_left _ hx)
  obtain ⟨rfl, rfl⟩ := trodVars_none hV
  clear hA0 hval0
  obtain ⟨v0, vs0, d0, ds0, p0, q0, hargs0, rfl, rfl, h0, r0⟩ := trodAll_cons hA
  obtain ⟨v1, vs1, d1, ds1, p1, q1, hargs1, rfl, rfl, h1, r1⟩ := trodAll_cons r0
  obtain ⟨v2, vs2, d2, ds2, p2, q2, hargs2, rfl, rfl, h2, r2⟩ := trodAll_cons r1
  obtain ⟨hlast, rfl, rfl⟩ := trodAll_nil r2
  obtain rfl : args = #[v0, v1, v2] := by
    apply Array.toList_inj.1
    rw [hargs0, hargs1, hargs2, hlast]
  obtain ⟨A0, n0, cap0, B0, m0, lap0, k0, cs0, zs0, rfl, hr0, hs0, hl0, hm0⟩ := open_lin (hval 0 48 v0 rfl rfl) h0 (fun x hx => hlt x (List.mem_append_left _ hx))
  obtain ⟨n1, rfl, rfl, rfl, wf1⟩ := open_int underlying3' (hval 1 3 v1 rfl rfl) h1
  obtain ⟨n2, rfl, rfl, rfl, wf2⟩ := open_int underlying3' (hval 2 3 v2 rfl rfl) h2
  refine (enc_any A0 B0 n0 m0 cap0 lap0 k0 n1 n2 cs0 zs0 W hr0 hs0 hl0 hm0 (bounds_i64 wf2)).mono fun e W' ⟨he, hb⟩ => ?_
  subst he
  exact ⟨_, rfl, law_post Try_laidOut hW' rfl (by rw [hpar]; decide +kernel) 4 rfl Try.underlying4 rfl hb⟩

theorem adderEncodesLin_holds : Rows.AdderEncodesLinSaid :=
  OpenClaim.holds_of_wide 7 Try.f7 rfl rfl rfl rfl rfl rfl rfl ⟨rfl, rfl, rfl, rfl, rfl⟩ rfl rfl rfl rfl rfl (by kernel_rfl) Try.func7 (by kernel_rfl)
    (of_decide_eq_true (by kernel_rfl)) (by unfold Func.isWrapper; first | (rw [if_pos (by decide +kernel)]; kernel_rfl) | (rw [if_neg (by decide +kernel)]; exact ⟨rfl, rfl⟩))
    (fun os started H enc _ => adderEncodesLin_lifted os started H enc)
end Go.Proofs.Ytpeklcbjhkchlaa
