/- OctetCanonical: what was read is written the same; where a reading fails all else is zero. -/
import Derived.Test.YtnebjihjfghlfaaBack
import Derived.Deep.RegionHeld
import Derived.Deep.QuietTactic
import Derived.BigQuiet
namespace Go.Proofs.Ytnebjihjfghlfaa
open Go.ChangeShapes Go.WideShapes Go.ChangeAt Go.RowKit

theorem takeH_now {P : Program} {md : Region.Mode} {ops : Array Oper} {Q : Exit → Act → World → Prop} {S : World → Prop} {i : Nat} (d : Option Tmp) {oi : Oper} {v : Value} {fuel : Nat} {listed : Array Bool} {a : Act} {w : World} (hi : ops[i]? = some oi)
    (hs : Region.noSelect ops = true) (hf : Region.free md ops listed i = true) (hr : (Region.ready md ops listed).contains i = true)
    (hQ : ∀ c a w, Q (.panic c) (a.put oi.dst v) w → Q (.panic c) a w) (hy : YieldsIf P ops S oi v a) (hd : oi.dst = d) (hS : S w)
    (h : wpAnyH P md ops Q S fuel (listed.setIfInBounds i true) (a.put d v) w) : wpAnyH P md ops Q S (fuel + 1) listed a w := by
  subst hd
  exact wpAnyH_take hi hs hf hr hQ hy hS h
/-- What is cut out of the bytes that came in, as a string, in every later world. -/
theorem cut_conv {w : World} {D : Option Addr} {bs X : List Nat} {bl bc : Nat} {i : Int} {q : Nat} (hd : Rd w.heap.size w D bs) (hl : bs.length = bl) (hc : bl ≤ bc) (h0 : 0 ≤ i) (h1 : i ≤ (q : Int)) (h2 : q ≤ bl) (hX : (bs.drop i.toNat).take (q - i.toNat) = X) :
    (∀ W : World, (Instr.slice 22 (.slice D bl bc) (some (.int .i64 i)) (some (.int .i64 (q : Int))) Option.none).run Try.prog W = .ok (.slice (cutA bc i.toNat D) (q - i.toNat) (bc - i.toNat)) W) ∧
    (∀ W : World, Below w.heap.size w W → (convert 22 9 (.slice (cutA bc i.toNat D) (q - i.toNat) (bc - i.toNat))).run Try.prog W = .ok (.string (str X)) W) := by
  refine ⟨fun W => run_win W D bl bc i (q : Int) i.toNat (q - i.toNat) (by omega) (by omega) (by omega), fun W hW => ?_⟩
  have hw := (hd.below hW (Nat.le_refl _)).window (k := i.toNat) (cap := bc) (q - i.toNat) (by omega)
  rw [hX] at hw
  have hlen : X.length = q - i.toNat := by rw [← hX, List.length_take, List.length_drop]; omega
  exact conv_str w.heap.size _ _ _ X W hw hlen

theorem flat_ge (zs : List Int) : zs.length ≤ (zs.flatMap Oct.enc).length := by
  induction zs with
  | nil => simp
  | cons z zs ih =>
    have := (Oct.enc_len z).1
    rw [List.flatMap_cons, List.length_append, List.length_cons]
    omega
theorem many_bad {bs : List Nat} : ∀ (n p : Nat) (acc : List Int), (manyA n bs p acc).1 ≠ 0 → (manyA n bs p acc).2 = (0, []) := by
  intro n
  induction n with
  | zero => intro p acc h; simp [manyA] at h
  | succ n ih =>
    intro p acc h
    rw [manyA] at h ⊢
    by_cases he : Oct.gE bs (p : Int) ≠ 0
    · rw [if_pos he]
    · rw [if_neg he] at h ⊢
      exact ih _ _ h
theorem text_facts (bs : List Nat) (i m : Int) (hb : ∀ c ∈ bs, c < 256) :
    (tE bs i m = 0 ∧ Oct.gE bs i = 0 ∧ Oct.gN bs i ≤ tN bs i m ∧ tN bs i m ≤ bs.length ∧ ((str (tB bs i m)).size : Int) ≤ m ∧ (str (tB bs i m)).size ≤ bs.length ∧ (bs.drop i.toNat).take (tN bs i m - i.toNat) = encText (str (tB bs i m))) ∨
    (tE bs i m ≠ 0 ∧ str (tB bs i m) = ⟨#[]⟩ ∧ tN bs i m = 0) := by
  by_cases h : tE bs i m = 0
  · obtain ⟨h1, h2, h3, h4, h5⟩ := text_back hb h
    refine .inl ⟨h, h1, h2, h3, h4, ?_, h5⟩
    have := congrArg List.length h5
    rw [List.length_take, List.length_drop, encText, List.length_append, sb_length] at this
    omega
  · refine .inr ⟨h, ?_, ?_⟩
    · rw [tB, if_neg h]; rfl
    · rw [tN, if_neg h]
theorem ints_facts (bs : List Nat) (i m : Int) (hb : ∀ c ∈ bs, c < 256) (e q : Nat) (zs : List Int) (hr : iR bs i m = (e, q, zs)) :
    (e = 0 ∧ Oct.gE bs i = 0 ∧ Oct.gN bs i ≤ q ∧ q ≤ bs.length ∧ (zs.length : Int) ≤ m ∧ zs.length ≤ bs.length ∧ (bs.drop i.toNat).take (q - i.toNat) = encInts zs) ∨
    (e ≠ 0 ∧ zs = [] ∧ q = 0) := by
  by_cases h : e = 0
  · subst h
    obtain ⟨h1, h2, h3, h4, _, h5⟩ := ints_back hb hr
    refine .inl ⟨rfl, h1, h2, h3, h4, ?_, h5⟩
    have := congrArg List.length h5
    have hf := flat_ge zs
    rw [List.length_take, List.length_drop, encInts, List.length_append] at this
    omega
  · refine .inr ⟨h, ?_⟩
    rw [iR] at hr
    by_cases h1 : hE bs i m ≠ 0
    · rw [if_pos h1] at hr
      simp only [Prod.mk.injEq] at hr
      exact ⟨hr.2.2.symm, hr.2.1.symm⟩
    · rw [if_neg h1] at hr
      have := many_bad (bs := bs) (Oct.gV bs i).toNat (Oct.gN bs i) [] (by rw [hr]; exact h)
      rw [hr] at this
      simp only [Prod.mk.injEq] at this
      exact ⟨this.2, this.1⟩

theorem ians {base a b : Nat} {zs : List Int} {w w' : World} {e : Ending} (h : IntsAns base w (a, b, zs) e w') : ∃ v, e = .returned (.tuple #[v, .int .i64 (b : Int), .int .i64 (a : Int)]) ∧ RowI w' base v zs := by
  obtain ⟨v, h1, h2, _⟩ := h
  exact ⟨v, h1, h2⟩

set_option maxRecDepth 20000 in
set_option maxHeartbeats 2000000 in
theorem can_big (D : Option Addr) (i m : Int) (bl bc : Nat) (w : World) (h : 3000 < bl) :
    Calls Try.prog 7 #[.slice D bl bc, .int .i64 i, .int .i64 m] w fun e w' => e = .returned (.bool true) ∧ Below w.heap.size w w' := by
  go_enter Try.func7, Try.ntmps7
  go_wp2_with fail
  refine (live_any w).mono ?_
  rintro e w1 ⟨rfl, hb1⟩
  go_wp2_with fail
  refine (few_no _ _ _ _ h).mono ?_
  rintro e w2 ⟨rfl, rfl⟩
  go_wp2
  go_ret
  exact ⟨rfl, hb1⟩

set_option maxRecDepth 20000 in
set_option maxHeartbeats 20000000 in
theorem octetCanonical_walk (D : Option Addr) (i m : Int) (bl bc : Nat) (bs : List Nat) (w : World) (hd : Rd w.heap.size w D bs) (hdl : bs.length = bl) (hdc : bl ≤ bc) (hdm : bc ≤ maxLen) :
    Calls Try.prog 7 #[.slice D bl bc, .int .i64 i, .int .i64 m] w fun e w' => e = .returned (.bool true) ∧ Below w.heap.size w w' := by
  by_cases hbig : 3000 < bl
  · exact can_big D i m bl bc w hbig
  have hs0 : bl ≤ 3000 := by omega
  have HD := Lib.hid hdl
  have hT := text_facts bs i m hd.1
  have GI : ∀ W : World, Below w.heap.size w W → Calls Try.prog 13 #[.slice D bl bc, .int .i64 i] W fun e w' => e = .returned (.tuple #[.int .i64 (Oct.gV bs i), .int .i64 (Oct.gN bs i : Nat), .int .i64 (Oct.gE bs i : Nat)]) ∧ W = w' := fun W hW =>
    GetInt_any w.heap.size D bl bc bs i W (hd.below hW (Nat.le_refl _)) hdl (by omega)
  have GT : ∀ W : World, Below w.heap.size w W → Calls Try.prog 17 #[.slice D bl bc, .int .i64 i, .int .i64 m] W fun e w' => e = textAns bs i m ∧ Below w.heap.size w w' := fun W hW =>
    (GetText_any w.heap.size D bl bc bs i m W (hd.below hW (Nat.le_refl _)) hW.size hdl hdc hdm).mono fun e w' ⟨h1, h2⟩ => ⟨h1, hW.trans (h2.mono hW.size)⟩
  have GL : ∀ W : World, Below w.heap.size w W → Calls Try.prog 21 #[.slice D bl bc, .int .i64 i, .int .i64 m] W fun e w' => IntsAns W.heap.size W (iR bs i m) e w' ∧ Below w.heap.size w w' := fun W hW =>
    (GetInts_any w.heap.size D bl bc bs i m W (hd.below hW (Nat.le_refl _)) hW.size hdl (by omega)).mono fun e w' h1 => ⟨h1, hW.trans (h1.elim fun v h => h.2.2.mono hW.size)⟩
  obtain ⟨re, rq, rz, hiR⟩ : ∃ e q z, iR bs i m = (e, q, z) := ⟨_, _, _, rfl⟩
  have hI := ints_facts bs i m hd.1 re rq rz hiR
  rw [hiR] at GL
  unfold textAns at GT
  rw [hdl] at hT hI
  have hfacts : (Oct.gE bs i = 0 ∧ i + 1 ≤ (Oct.gN bs i : Int) ∧ Oct.gN bs i ≤ bl ∧ 0 ≤ i ∧ Wf (Oct.gV bs i) ∧ Oct.gN bs i ≤ i.toNat + 10 ∧ (bs.drop i.toNat).take (Oct.gN bs i - i.toNat) = Oct.enc (Oct.gV bs i)) ∨ (Oct.gE bs i ≠ 0 ∧ Oct.gV bs i = 0 ∧ Oct.gN bs i = 0) := by
    by_cases h : Oct.gE bs i = 0
    · have hb := g_bd hd.1 h
      rw [hdl] at hb
      exact .inl ⟨h, hb.1, hb.2.1, hb.2.2.1, hb.2.2.2.1, hb.2.2.2.2, g_back hd.1 h⟩
    · exact .inr ⟨h, g_zero h⟩
  generalize Oct.gE bs i = E at *
  generalize Oct.gV bs i = V at *
  generalize Oct.gN bs i = N at *
  generalize str (tB bs i m) = tS at *
  generalize tE bs i m = tx at *
  generalize tN bs i m = tn at *
  clear hdl hbig hiR
  go_enter Try.func7, Try.ntmps7
  go_wp2_with fail
  refine (live_any w).mono ?_
  rintro e wx ⟨rfl, hbx⟩
  go_wp2_with fail
  refine (few_yes _ _ _ _ hs0).mono ?_
  rintro e w2 ⟨rfl, rfl⟩
  go_wp2_with fail
  refine (GI _ hbx).mono ?_
  rintro e w5 ⟨rfl, rfl⟩
  go_wp2_with fail
  rcases hfacts with ⟨rfl, f1, f2, f3, f4, f5, f6⟩ | ⟨f1, rfl, rfl⟩
  · have B0 : decide (i < 0) = false := by rw [decide_eq_false_iff_not]; omega
    have B1 : decide ((N : Int) ≤ i) = false := by rw [decide_eq_false_iff_not]; omega
    have B6 : decide (bl < N) = false := by rw [decide_eq_false_iff_not]; omega
    have B5 : IntKind.i64.wrap (i + 10) = i + 10 := by simp [IntKind.wrap, IntKind.bits, IntKind.signed]; omega
    have B3 : decide (i + 10 < (N : Int)) = false := by rw [decide_eq_false_iff_not]; omega
    have B4 : ((str (Oct.enc V)).toList != (str (Oct.enc V)).toList) = false := by rw [bne_eq_false_iff_eq]
    obtain ⟨u1, u2⟩ := cut_conv hd HD.out hdc f3 (by omega) f2 f6
    have P1 : ∀ W : World, Below w.heap.size w W → Calls Try.prog 15 #[.slice Option.none 0 0, .int .i64 V] W (fun e W' => ∃ A c, e = .returned (.slice A (Oct.enc V).length c) ∧ Fin W A (Oct.enc V).length c (Oct.enc V) W' ∧ Below w.heap.size w W') := fun W hW =>
      (PutInt_any 0 Option.none 0 0 [] V W (Rd.nil _ _ _) (Nat.zero_le _) rfl (fun _ => rfl) f4 (by omega)).mono fun e W' ⟨v, he, hr, hb⟩ => by
        subst he; exact (fin_of hr hb (by simp)).elim fun A h => h.elim fun c h => ⟨A, c, by rw [h.1], h.2, hW.trans (hb.mono hW.size)⟩
    generalize (Oct.enc V).length = L at *
    generalize Oct.enc V = X2 at *
    refine wp_region_held_drew (S := fun W' => Below w.heap.size w W') (by kernel_rfl) (hbx.drew) (fun hHeld => ?_)
    refine takeH_now (i := 0) (some 28) (v := ?_) rfl (by kernel_rfl) (by kernel_rfl) (by kernel_rfl) (fun _ _ _ h => h) (Or.inl ⟨by rfl, ?_⟩) rfl (by assumption) ?_
    rotate_left
    focus (intro w9 hS9; go_simp; try with_reducible rfl)
    try simp only [Act.put, List.setIfInBounds_toArray, List.set_cons_zero, List.set_cons_succ]
    refine takeH_now (i := 1) (some 29) (v := ?_) rfl (by kernel_rfl) (by kernel_rfl) (by kernel_rfl) (fun _ _ _ h => h) (Or.inl ⟨by rfl, ?_⟩) rfl (by assumption) ?_
    rotate_left
    focus (intro w9 hS9; go_simp; try with_reducible rfl)
    try simp only [Act.put, List.setIfInBounds_toArray, List.set_cons_zero, List.set_cons_succ]
    refine takeH_now (i := 2) (some 30) (v := ?_) rfl (by kernel_rfl) (by kernel_rfl) (by kernel_rfl) (fun _ _ _ h => h) (Or.inl ⟨by rfl, ?_⟩) rfl (by assumption) ?_
    rotate_left
    focus (intro w9 hS9; go_simp; try with_reducible rfl)
    try simp only [Act.put, List.setIfInBounds_toArray, List.set_cons_zero, List.set_cons_succ]
    refine takeH_now (i := 3) (some 31) (v := ?_) rfl (by kernel_rfl) (by kernel_rfl) (by kernel_rfl) (fun _ _ _ h => h) (Or.inl ⟨by rfl, ?_⟩) rfl (by assumption) ?_
    rotate_left
    focus (intro w9 hS9; go_simp; try with_reducible rfl)
    try simp only [Act.put, List.setIfInBounds_toArray, List.set_cons_zero, List.set_cons_succ]
    refine takeH_now (i := 4) (some 32) (v := ?_) rfl (by kernel_rfl) (by kernel_rfl) (by kernel_rfl) (fun _ _ _ h => h) (Or.inl ⟨by rfl, ?_⟩) rfl (by assumption) ?_
    rotate_left
    focus (intro w9 hS9; go_simp; try with_reducible rfl)
    try simp only [Act.put, List.setIfInBounds_toArray, List.set_cons_zero, List.set_cons_succ]
    refine takeH_now (i := 5) (some 33) (v := ?_) rfl (by kernel_rfl) (by kernel_rfl) (by kernel_rfl) (fun _ _ _ h => h) (Or.inl ⟨by rfl, ?_⟩) rfl (by assumption) ?_
    rotate_left
    focus (intro w9 hS9; go_simp; try with_reducible rfl)
    try simp only [Act.put, List.setIfInBounds_toArray, List.set_cons_zero, List.set_cons_succ]
    refine takeH_now (i := 6) (some 34) (v := ?_) rfl (by kernel_rfl) (by kernel_rfl) (by kernel_rfl) (fun _ _ _ h => h) (Or.inl ⟨by rfl, ?_⟩) rfl (by assumption) ?_
    rotate_left
    focus (intro w9 hS9; go_simp; try with_reducible rfl)
    try simp only [Act.put, List.setIfInBounds_toArray, List.set_cons_zero, List.set_cons_succ]
    refine takeH_now (i := 7) (some 35) (v := ?_) rfl (by kernel_rfl) (by kernel_rfl) (by kernel_rfl) (fun _ _ _ h => h) (Or.inl ⟨by rfl, ?_⟩) rfl (by assumption) ?_
    rotate_left
    focus (intro w9 hS9; go_simp; try with_reducible rfl)
    try simp only [Act.put, List.setIfInBounds_toArray, List.set_cons_zero, List.set_cons_succ]
    refine takeH_now (i := 8) (some 36) (v := ?_) rfl (by kernel_rfl) (by kernel_rfl) (by kernel_rfl) (fun _ _ _ h => h) (Or.inl ⟨by rfl, ?_⟩) rfl (by assumption) ?_
    rotate_left
    focus (intro w9 hS9; go_simp; try with_reducible rfl)
    try simp only [Act.put, List.setIfInBounds_toArray, List.set_cons_zero, List.set_cons_succ]
    refine takeH_now (i := 9) (some 37) (v := ?_) rfl (by kernel_rfl) (by kernel_rfl) (by kernel_rfl) (fun _ _ _ h => h) (Or.inl ⟨by rfl, ?_⟩) rfl (by assumption) ?_
    rotate_left
    focus (intro w9 hS9; go_simp; try with_reducible rfl)
    try simp only [Act.put, List.setIfInBounds_toArray, List.set_cons_zero, List.set_cons_succ]
    refine takeH_now (i := 10) (some 38) (v := ?_) rfl (by kernel_rfl) (by kernel_rfl) (by kernel_rfl) (fun _ _ _ h => h) (Or.inl ⟨by rfl, ?_⟩) rfl (by assumption) ?_
    rotate_left
    focus (intro w9 hS9; go_simp; try with_reducible rfl)
    try simp only [Act.put, List.setIfInBounds_toArray, List.set_cons_zero, List.set_cons_succ]
    refine takeH_now (i := 11) (some 39) (v := ?_) rfl (by kernel_rfl) (by kernel_rfl) (by kernel_rfl) (fun _ _ _ h => h) (Or.inl ⟨by rfl, ?_⟩) rfl (by assumption) ?_
    rotate_left
    focus (intro w9 hS9; go_simp; try with_reducible rfl)
    try simp only [Act.put, List.setIfInBounds_toArray, List.set_cons_zero, List.set_cons_succ]
    refine takeH_now (i := 12) (some 40) (v := ?_) rfl (by kernel_rfl) (by kernel_rfl) (by kernel_rfl) (fun _ _ _ h => h) (Or.inl ⟨by rfl, ?_⟩) rfl (by assumption) ?_
    rotate_left
    focus (intro w9 hS9; go_simp; try with_reducible rfl)
    try simp only [Act.put, List.setIfInBounds_toArray, List.set_cons_zero, List.set_cons_succ]
    refine takeH_now (i := 13) (some 41) (v := ?_) rfl (by kernel_rfl) (by kernel_rfl) (by kernel_rfl) (fun _ _ _ h => h) (Or.inl ⟨by rfl, ?_⟩) rfl (by assumption) ?_
    rotate_left
    focus (intro w9 hS9; go_simp; try with_reducible rfl)
    try simp only [Act.put, List.setIfInBounds_toArray, List.set_cons_zero, List.set_cons_succ]
    refine takeH_now (i := 14) (some 42) (v := ?_) rfl (by kernel_rfl) (by kernel_rfl) (by kernel_rfl) (fun _ _ _ h => h) (Or.inl ⟨by rfl, ?_⟩) rfl (by assumption) ?_
    rotate_left
    focus (intro w9 hS9; go_simp; try with_reducible rfl)
    try simp only [Act.put, List.setIfInBounds_toArray, List.set_cons_zero, List.set_cons_succ]
    refine takeH_now (i := 15) (some 43) (v := ?_) rfl (by kernel_rfl) (by kernel_rfl) (by kernel_rfl) (fun _ _ _ h => h) (Or.inl ⟨by rfl, ?_⟩) rfl (by assumption) ?_
    rotate_left
    focus (intro w9 hS9; go_simp; try with_reducible rfl)
    try simp only [Act.put, List.setIfInBounds_toArray, List.set_cons_zero, List.set_cons_succ]
    refine takeH_now (i := 16) (some 44) (v := ?_) rfl (by kernel_rfl) (by kernel_rfl) (by kernel_rfl) (fun _ _ _ h => h) (Or.inl ⟨by rfl, ?_⟩) rfl (by assumption) ?_
    rotate_left
    focus (intro w9 hS9; go_simp; try with_reducible rfl)
    try simp only [Act.put, List.setIfInBounds_toArray, List.set_cons_zero, List.set_cons_succ]
    refine takeH_now (i := 17) (some 45) (v := ?_) rfl (by kernel_rfl) (by kernel_rfl) (by kernel_rfl) (fun _ _ _ h => h) (Or.inl ⟨by rfl, ?_⟩) rfl (by assumption) ?_
    rotate_left
    focus (intro w9 hS9; go_simp; try with_reducible rfl)
    try simp only [Act.put, List.setIfInBounds_toArray, List.set_cons_zero, List.set_cons_succ]
    refine takeH_now (i := 18) (some 46) (v := ?_) rfl (by kernel_rfl) (by kernel_rfl) (by kernel_rfl) (fun _ _ _ h => h) (Or.inl ⟨by rfl, ?_⟩) rfl (by assumption) ?_
    rotate_left
    focus (intro w9 hS9; go_simp; try with_reducible rfl)
    try simp only [Act.put, List.setIfInBounds_toArray, List.set_cons_zero, List.set_cons_succ]
    refine takeH_now (i := 19) (some 47) (v := ?_) rfl (by kernel_rfl) (by kernel_rfl) (by kernel_rfl) (fun _ _ _ h => h) (Or.inl ⟨by rfl, ?_⟩) rfl (by assumption) ?_
    rotate_left
    focus (intro w9 hS9; go_simp; try with_reducible rfl)
    try simp only [Act.put, List.setIfInBounds_toArray, List.set_cons_zero, List.set_cons_succ]
    refine takeH_now (i := 20) (some 48) (v := ?_) rfl (by kernel_rfl) (by kernel_rfl) (by kernel_rfl) (fun _ _ _ h => h) (Or.inl ⟨by rfl, ?_⟩) rfl (by assumption) ?_
    rotate_left
    focus (intro w9 hS9; go_simp; try with_reducible rfl)
    try simp only [Act.put, List.setIfInBounds_toArray, List.set_cons_zero, List.set_cons_succ]
    refine takeH_now (i := 21) (some 49) (v := ?_) rfl (by kernel_rfl) (by kernel_rfl) (by kernel_rfl) (fun _ _ _ h => h) (Or.inl ⟨by rfl, ?_⟩) rfl (by assumption) ?_
    rotate_left
    focus (intro w9 hS9; go_simp; try with_reducible rfl)
    try simp only [Act.put, List.setIfInBounds_toArray, List.set_cons_zero, List.set_cons_succ]
    refine takeH_now (i := 22) (some 50) (v := ?_) rfl (by kernel_rfl) (by kernel_rfl) (by kernel_rfl) (fun _ _ _ h => h) (Or.inl ⟨by rfl, ?_⟩) rfl (by assumption) ?_
    rotate_left
    focus (intro w9 hS9; go_simp; try with_reducible rfl)
    try simp only [Act.put, List.setIfInBounds_toArray, List.set_cons_zero, List.set_cons_succ]
    refine takeH_now (i := 23) (some 51) (v := ?_) rfl (by kernel_rfl) (by kernel_rfl) (by kernel_rfl) (fun _ _ _ h => h) (Or.inl ⟨by rfl, ?_⟩) rfl (by assumption) ?_
    rotate_left
    focus (intro w9 hS9; go_simp; try with_reducible rfl)
    try simp only [Act.put, List.setIfInBounds_toArray, List.set_cons_zero, List.set_cons_succ]
    refine takeH_now (i := 26) (some 54) (v := ?_) rfl (by kernel_rfl) (by kernel_rfl) (by kernel_rfl) (fun _ _ _ h => h) (Or.inl ⟨by rfl, ?_⟩) rfl (by assumption) ?_
    rotate_left
    focus (intro w9 hS9; go_simp; try with_reducible rfl)
    try simp only [Act.put, List.setIfInBounds_toArray, List.set_cons_zero, List.set_cons_succ]
    refine takeH_now (i := 27) (some 55) (v := ?_) rfl (by kernel_rfl) (by kernel_rfl) (by kernel_rfl) (fun _ _ _ h => h) (Or.inl ⟨by rfl, ?_⟩) rfl (by assumption) ?_
    rotate_left
    focus (intro w9 hS9; go_simp; try with_reducible rfl)
    try simp only [Act.put, List.setIfInBounds_toArray, List.set_cons_zero, List.set_cons_succ]
    refine takeH_now (i := 28) (some 56) (v := ?_) rfl (by kernel_rfl) (by kernel_rfl) (by kernel_rfl) (fun _ _ _ h => h) (Or.inl ⟨by rfl, ?_⟩) rfl (by assumption) ?_
    rotate_left
    focus (intro w9 hS9; go_simp; try with_reducible rfl)
    try simp only [Act.put, List.setIfInBounds_toArray, List.set_cons_zero, List.set_cons_succ]
    refine takeH_now (i := 29) (some 57) (v := ?_) rfl (by kernel_rfl) (by kernel_rfl) (by kernel_rfl) (fun _ _ _ h => h) (Or.inl ⟨by rfl, ?_⟩) rfl (by assumption) ?_
    rotate_left
    focus (intro w9 hS9; go_simp; try with_reducible rfl)
    try simp only [Act.put, List.setIfInBounds_toArray, List.set_cons_zero, List.set_cons_succ]
    refine takeH_now (i := 30) (some 58) (v := ?_) rfl (by kernel_rfl) (by kernel_rfl) (by kernel_rfl) (fun _ _ _ h => h) (Or.inl ⟨by rfl, ?_⟩) rfl (by assumption) ?_
    rotate_left
    focus (intro w9 hS9; have := u2 w9 hS9; go_simp; try with_reducible rfl)
    try simp only [Act.put, List.setIfInBounds_toArray, List.set_cons_zero, List.set_cons_succ]
    refine wpAnyH_ready (rs := [24]) (by kernel_rfl) (by simp) ?_
    refine AllReadyH.cons rfl (fun K hK => ?_) AllReadyH.nil
    go_simp
    refine (P1 _ ?_).mono ?_
    · assumption
    rintro e wx ⟨A', c', rfl, ⟨hcv, hbw⟩, hbx⟩
    have hx0 := hcv.c0
    clear P1 u1 u2 hbw hcv
    go_wp2_with fail
    refine hK.out _ _ (by assumption) (fun hHeld => ?_)
    try simp only [Act.put, List.setIfInBounds_toArray, List.set_cons_zero, List.set_cons_succ]
    refine wpAnyH_ready (rs := [25]) (by kernel_rfl) (by simp) ?_
    refine AllReadyH.cons rfl (fun K hK => ?_) AllReadyH.nil
    go_simp
    refine hK.out _ _ (by assumption) (fun hHeld => ?_)
    try simp only [Act.put, List.setIfInBounds_toArray, List.set_cons_zero, List.set_cons_succ]
    refine takeH_now (i := 31) (some 59) (v := ?_) rfl (by kernel_rfl) (by kernel_rfl) (by kernel_rfl) (fun _ _ _ h => h) (Or.inl ⟨by rfl, ?_⟩) rfl (by assumption) ?_
    rotate_left
    focus (intro w9 hS9; go_simp; try with_reducible rfl)
    try simp only [Act.put, List.setIfInBounds_toArray, List.set_cons_zero, List.set_cons_succ]
    refine takeH_now (i := 32) (some 60) (v := ?_) rfl (by kernel_rfl) (by kernel_rfl) (by kernel_rfl) (fun _ _ _ h => h) (Or.inl ⟨by rfl, ?_⟩) rfl (by assumption) ?_
    rotate_left
    focus (intro w9 hS9; go_simp; try with_reducible rfl)
    try simp only [Act.put, List.setIfInBounds_toArray, List.set_cons_zero, List.set_cons_succ]
    refine takeH_now (i := 33) (some 61) (v := ?_) rfl (by kernel_rfl) (by kernel_rfl) (by kernel_rfl) (fun _ _ _ h => h) (Or.inl ⟨by rfl, ?_⟩) rfl (by assumption) ?_
    rotate_left
    focus (intro w9 hS9; go_simp; try with_reducible rfl)
    try simp only [Act.put, List.setIfInBounds_toArray, List.set_cons_zero, List.set_cons_succ]
    refine wpAnyH_done (by kernel_rfl) ?_ _
    clear hHeld hx0
    go_wp2_with fail
    refine (GT _ hbx).mono ?_
    rintro e wx ⟨rfl, hbx⟩
    go_wp2_with fail
    rcases hT with ⟨rfl, t1, t2, t3, t4, t5, t6⟩ | ⟨t1, rfl, rfl⟩
    · have C1 : decide (tn < N) = false := by rw [decide_eq_false_iff_not]; omega
      have C2 : decide (bl < tn) = false := by rw [decide_eq_false_iff_not]; omega
      have C3 : decide (m < (tS.size : Int)) = false := by rw [decide_eq_false_iff_not]; omega
      have C4 : ((str (encText tS)).toList != (str (encText tS)).toList) = false := by rw [bne_eq_false_iff_eq]
      obtain ⟨u1, u2⟩ := cut_conv hd HD.out hdc f3 (by omega) t3 t6
      have P1 : ∀ W : World, Below w.heap.size w W → Calls Try.prog 19 #[.slice Option.none 0 0, .string tS] W (fun e W' => ∃ A c, e = .returned (.slice A (encText tS).length c) ∧ Fin W A (encText tS).length c (encText tS) W' ∧ Below w.heap.size w W') := fun W hW =>
        (PutText_any 0 Option.none 0 0 [] tS W (Rd.nil _ _ _) (Nat.zero_le _) rfl (fun _ => rfl) (by omega) (by omega)).mono fun e W' ⟨v, he, hr, hb⟩ => by
          subst he; exact (fin_of hr hb (by simp)).elim fun A h => h.elim fun c h => ⟨A, c, by rw [h.1], h.2, hW.trans (hb.mono hW.size)⟩
      generalize (encText tS).length = L at *
      generalize encText tS = X3 at *
      refine wp_region_held_drew (S := fun W' => Below w.heap.size w W') (by kernel_rfl) (hbx.drew) (fun hHeld => ?_)
      refine takeH_now (i := 0) (some 70) (v := ?_) rfl (by kernel_rfl) (by kernel_rfl) (by kernel_rfl) (fun _ _ _ h => h) (Or.inl ⟨by rfl, ?_⟩) rfl (by assumption) ?_
      rotate_left
      focus (intro w9 hS9; go_simp; try with_reducible rfl)
      try simp only [Act.put, List.setIfInBounds_toArray, List.set_cons_zero, List.set_cons_succ]
      refine takeH_now (i := 1) (some 71) (v := ?_) rfl (by kernel_rfl) (by kernel_rfl) (by kernel_rfl) (fun _ _ _ h => h) (Or.inl ⟨by rfl, ?_⟩) rfl (by assumption) ?_
      rotate_left
      focus (intro w9 hS9; go_simp; try with_reducible rfl)
      try simp only [Act.put, List.setIfInBounds_toArray, List.set_cons_zero, List.set_cons_succ]
      refine takeH_now (i := 2) (some 72) (v := ?_) rfl (by kernel_rfl) (by kernel_rfl) (by kernel_rfl) (fun _ _ _ h => h) (Or.inl ⟨by rfl, ?_⟩) rfl (by assumption) ?_
      rotate_left
      focus (intro w9 hS9; go_simp; try with_reducible rfl)
      try simp only [Act.put, List.setIfInBounds_toArray, List.set_cons_zero, List.set_cons_succ]
      refine takeH_now (i := 3) (some 73) (v := ?_) rfl (by kernel_rfl) (by kernel_rfl) (by kernel_rfl) (fun _ _ _ h => h) (Or.inl ⟨by rfl, ?_⟩) rfl (by assumption) ?_
      rotate_left
      focus (intro w9 hS9; go_simp; try with_reducible rfl)
      try simp only [Act.put, List.setIfInBounds_toArray, List.set_cons_zero, List.set_cons_succ]
      refine takeH_now (i := 4) (some 74) (v := ?_) rfl (by kernel_rfl) (by kernel_rfl) (by kernel_rfl) (fun _ _ _ h => h) (Or.inl ⟨by rfl, ?_⟩) rfl (by assumption) ?_
      rotate_left
      focus (intro w9 hS9; go_simp; try with_reducible rfl)
      try simp only [Act.put, List.setIfInBounds_toArray, List.set_cons_zero, List.set_cons_succ]
      refine takeH_now (i := 5) (some 75) (v := ?_) rfl (by kernel_rfl) (by kernel_rfl) (by kernel_rfl) (fun _ _ _ h => h) (Or.inl ⟨by rfl, ?_⟩) rfl (by assumption) ?_
      rotate_left
      focus (intro w9 hS9; go_simp; try with_reducible rfl)
      try simp only [Act.put, List.setIfInBounds_toArray, List.set_cons_zero, List.set_cons_succ]
      refine takeH_now (i := 6) (some 76) (v := ?_) rfl (by kernel_rfl) (by kernel_rfl) (by kernel_rfl) (fun _ _ _ h => h) (Or.inl ⟨by rfl, ?_⟩) rfl (by assumption) ?_
      rotate_left
      focus (intro w9 hS9; go_simp; try with_reducible rfl)
      try simp only [Act.put, List.setIfInBounds_toArray, List.set_cons_zero, List.set_cons_succ]
      refine takeH_now (i := 7) (some 77) (v := ?_) rfl (by kernel_rfl) (by kernel_rfl) (by kernel_rfl) (fun _ _ _ h => h) (Or.inl ⟨by rfl, ?_⟩) rfl (by assumption) ?_
      rotate_left
      focus (intro w9 hS9; go_simp; try with_reducible rfl)
      try simp only [Act.put, List.setIfInBounds_toArray, List.set_cons_zero, List.set_cons_succ]
      refine takeH_now (i := 8) (some 78) (v := ?_) rfl (by kernel_rfl) (by kernel_rfl) (by kernel_rfl) (fun _ _ _ h => h) (Or.inl ⟨by rfl, ?_⟩) rfl (by assumption) ?_
      rotate_left
      focus (intro w9 hS9; go_simp; try with_reducible rfl)
      try simp only [Act.put, List.setIfInBounds_toArray, List.set_cons_zero, List.set_cons_succ]
      refine takeH_now (i := 9) (some 79) (v := ?_) rfl (by kernel_rfl) (by kernel_rfl) (by kernel_rfl) (fun _ _ _ h => h) (Or.inl ⟨by rfl, ?_⟩) rfl (by assumption) ?_
      rotate_left
      focus (intro w9 hS9; go_simp; try with_reducible rfl)
      try simp only [Act.put, List.setIfInBounds_toArray, List.set_cons_zero, List.set_cons_succ]
      refine takeH_now (i := 10) (some 80) (v := ?_) rfl (by kernel_rfl) (by kernel_rfl) (by kernel_rfl) (fun _ _ _ h => h) (Or.inl ⟨by rfl, ?_⟩) rfl (by assumption) ?_
      rotate_left
      focus (intro w9 hS9; go_simp; try with_reducible rfl)
      try simp only [Act.put, List.setIfInBounds_toArray, List.set_cons_zero, List.set_cons_succ]
      refine takeH_now (i := 11) (some 81) (v := ?_) rfl (by kernel_rfl) (by kernel_rfl) (by kernel_rfl) (fun _ _ _ h => h) (Or.inl ⟨by rfl, ?_⟩) rfl (by assumption) ?_
      rotate_left
      focus (intro w9 hS9; go_simp; try with_reducible rfl)
      try simp only [Act.put, List.setIfInBounds_toArray, List.set_cons_zero, List.set_cons_succ]
      refine takeH_now (i := 12) (some 82) (v := ?_) rfl (by kernel_rfl) (by kernel_rfl) (by kernel_rfl) (fun _ _ _ h => h) (Or.inl ⟨by rfl, ?_⟩) rfl (by assumption) ?_
      rotate_left
      focus (intro w9 hS9; go_simp; try with_reducible rfl)
      try simp only [Act.put, List.setIfInBounds_toArray, List.set_cons_zero, List.set_cons_succ]
      refine takeH_now (i := 13) (some 83) (v := ?_) rfl (by kernel_rfl) (by kernel_rfl) (by kernel_rfl) (fun _ _ _ h => h) (Or.inl ⟨by rfl, ?_⟩) rfl (by assumption) ?_
      rotate_left
      focus (intro w9 hS9; go_simp; try with_reducible rfl)
      try simp only [Act.put, List.setIfInBounds_toArray, List.set_cons_zero, List.set_cons_succ]
      refine takeH_now (i := 14) (some 84) (v := ?_) rfl (by kernel_rfl) (by kernel_rfl) (by kernel_rfl) (fun _ _ _ h => h) (Or.inl ⟨by rfl, ?_⟩) rfl (by assumption) ?_
      rotate_left
      focus (intro w9 hS9; go_simp; try with_reducible rfl)
      try simp only [Act.put, List.setIfInBounds_toArray, List.set_cons_zero, List.set_cons_succ]
      refine takeH_now (i := 15) (some 85) (v := ?_) rfl (by kernel_rfl) (by kernel_rfl) (by kernel_rfl) (fun _ _ _ h => h) (Or.inl ⟨by rfl, ?_⟩) rfl (by assumption) ?_
      rotate_left
      focus (intro w9 hS9; go_simp; try with_reducible rfl)
      try simp only [Act.put, List.setIfInBounds_toArray, List.set_cons_zero, List.set_cons_succ]
      refine takeH_now (i := 16) (some 86) (v := ?_) rfl (by kernel_rfl) (by kernel_rfl) (by kernel_rfl) (fun _ _ _ h => h) (Or.inl ⟨by rfl, ?_⟩) rfl (by assumption) ?_
      rotate_left
      focus (intro w9 hS9; go_simp; try with_reducible rfl)
      try simp only [Act.put, List.setIfInBounds_toArray, List.set_cons_zero, List.set_cons_succ]
      refine takeH_now (i := 17) (some 87) (v := ?_) rfl (by kernel_rfl) (by kernel_rfl) (by kernel_rfl) (fun _ _ _ h => h) (Or.inl ⟨by rfl, ?_⟩) rfl (by assumption) ?_
      rotate_left
      focus (intro w9 hS9; go_simp; try with_reducible rfl)
      try simp only [Act.put, List.setIfInBounds_toArray, List.set_cons_zero, List.set_cons_succ]
      refine takeH_now (i := 18) (some 88) (v := ?_) rfl (by kernel_rfl) (by kernel_rfl) (by kernel_rfl) (fun _ _ _ h => h) (Or.inl ⟨by rfl, ?_⟩) rfl (by assumption) ?_
      rotate_left
      focus (intro w9 hS9; go_simp; try with_reducible rfl)
      try simp only [Act.put, List.setIfInBounds_toArray, List.set_cons_zero, List.set_cons_succ]
      refine takeH_now (i := 19) (some 89) (v := ?_) rfl (by kernel_rfl) (by kernel_rfl) (by kernel_rfl) (fun _ _ _ h => h) (Or.inl ⟨by rfl, ?_⟩) rfl (by assumption) ?_
      rotate_left
      focus (intro w9 hS9; go_simp; try with_reducible rfl)
      try simp only [Act.put, List.setIfInBounds_toArray, List.set_cons_zero, List.set_cons_succ]
      refine takeH_now (i := 22) (some 92) (v := ?_) rfl (by kernel_rfl) (by kernel_rfl) (by kernel_rfl) (fun _ _ _ h => h) (Or.inl ⟨by rfl, ?_⟩) rfl (by assumption) ?_
      rotate_left
      focus (intro w9 hS9; go_simp; try with_reducible rfl)
      try simp only [Act.put, List.setIfInBounds_toArray, List.set_cons_zero, List.set_cons_succ]
      refine takeH_now (i := 23) (some 93) (v := ?_) rfl (by kernel_rfl) (by kernel_rfl) (by kernel_rfl) (fun _ _ _ h => h) (Or.inl ⟨by rfl, ?_⟩) rfl (by assumption) ?_
      rotate_left
      focus (intro w9 hS9; go_simp; try with_reducible rfl)
      try simp only [Act.put, List.setIfInBounds_toArray, List.set_cons_zero, List.set_cons_succ]
      refine takeH_now (i := 24) (some 94) (v := ?_) rfl (by kernel_rfl) (by kernel_rfl) (by kernel_rfl) (fun _ _ _ h => h) (Or.inl ⟨by rfl, ?_⟩) rfl (by assumption) ?_
      rotate_left
      focus (intro w9 hS9; go_simp; try with_reducible rfl)
      try simp only [Act.put, List.setIfInBounds_toArray, List.set_cons_zero, List.set_cons_succ]
      refine takeH_now (i := 25) (some 95) (v := ?_) rfl (by kernel_rfl) (by kernel_rfl) (by kernel_rfl) (fun _ _ _ h => h) (Or.inl ⟨by rfl, ?_⟩) rfl (by assumption) ?_
      rotate_left
      focus (intro w9 hS9; go_simp; try with_reducible rfl)
      try simp only [Act.put, List.setIfInBounds_toArray, List.set_cons_zero, List.set_cons_succ]
      refine takeH_now (i := 26) (some 96) (v := ?_) rfl (by kernel_rfl) (by kernel_rfl) (by kernel_rfl) (fun _ _ _ h => h) (Or.inl ⟨by rfl, ?_⟩) rfl (by assumption) ?_
      rotate_left
      focus (intro w9 hS9; have := u2 w9 hS9; go_simp; try with_reducible rfl)
      try simp only [Act.put, List.setIfInBounds_toArray, List.set_cons_zero, List.set_cons_succ]
      refine wpAnyH_ready (rs := [20]) (by kernel_rfl) (by simp) ?_
      refine AllReadyH.cons rfl (fun K hK => ?_) AllReadyH.nil
      go_simp
      refine (P1 _ ?_).mono ?_
      · assumption
      rintro e wx ⟨A', c', rfl, ⟨hcv, hbw⟩, hbx⟩
      have hx0 := hcv.c0
      clear P1 u1 u2 hbw hcv
      go_wp2_with fail
      refine hK.out _ _ (by assumption) (fun hHeld => ?_)
      try simp only [Act.put, List.setIfInBounds_toArray, List.set_cons_zero, List.set_cons_succ]
      refine wpAnyH_ready (rs := [21]) (by kernel_rfl) (by simp) ?_
      refine AllReadyH.cons rfl (fun K hK => ?_) AllReadyH.nil
      go_simp
      refine hK.out _ _ (by assumption) (fun hHeld => ?_)
      try simp only [Act.put, List.setIfInBounds_toArray, List.set_cons_zero, List.set_cons_succ]
      refine takeH_now (i := 27) (some 97) (v := ?_) rfl (by kernel_rfl) (by kernel_rfl) (by kernel_rfl) (fun _ _ _ h => h) (Or.inl ⟨by rfl, ?_⟩) rfl (by assumption) ?_
      rotate_left
      focus (intro w9 hS9; go_simp; try with_reducible rfl)
      try simp only [Act.put, List.setIfInBounds_toArray, List.set_cons_zero, List.set_cons_succ]
      refine takeH_now (i := 28) (some 98) (v := ?_) rfl (by kernel_rfl) (by kernel_rfl) (by kernel_rfl) (fun _ _ _ h => h) (Or.inl ⟨by rfl, ?_⟩) rfl (by assumption) ?_
      rotate_left
      focus (intro w9 hS9; go_simp; try with_reducible rfl)
      try simp only [Act.put, List.setIfInBounds_toArray, List.set_cons_zero, List.set_cons_succ]
      refine takeH_now (i := 29) (some 99) (v := ?_) rfl (by kernel_rfl) (by kernel_rfl) (by kernel_rfl) (fun _ _ _ h => h) (Or.inl ⟨by rfl, ?_⟩) rfl (by assumption) ?_
      rotate_left
      focus (intro w9 hS9; go_simp; try with_reducible rfl)
      try simp only [Act.put, List.setIfInBounds_toArray, List.set_cons_zero, List.set_cons_succ]
      refine wpAnyH_done (by kernel_rfl) ?_ _
      clear hHeld hx0
      go_wp2_with fail
      refine (GL _ hbx).mono ?_
      rintro e ww ⟨hans, hbx⟩
      obtain ⟨vz, rfl, hrz⟩ := ians hans
      clear hans
      obtain ⟨AZ, cZ, rfl, hkz, hmz, hdz⟩ := hrz.shape
      clear hrz
      obtain ⟨LZ, hLZ⟩ : ∃ LZ, rz.length = LZ := ⟨_, rfl⟩
      rw [hLZ] at hI hkz ⊢
      have HZ := Lib.hid hLZ
      clear hLZ
      go_wp2_with fail
      rcases hI with ⟨rfl, l1, l2, l3, l4, l5, l6⟩ | ⟨l1, rfl, rfl⟩
      · have D1 : decide (rq < N) = false := by rw [decide_eq_false_iff_not]; omega
        have D2 : decide (bl < rq) = false := by rw [decide_eq_false_iff_not]; omega
        have D3 : decide (m < (LZ : Int)) = false := by rw [decide_eq_false_iff_not]; omega
        have D4 : ((str (encInts rz)).toList != (str (encInts rz)).toList) = false := by rw [bne_eq_false_iff_eq]
        obtain ⟨u1, u2⟩ := cut_conv hd HD.out hdc f3 (by omega) l3 l6
        have P1 : ∀ W : World, Below ww.heap.size ww W → Calls Try.prog 23 #[.slice Option.none 0 0, .slice AZ LZ cZ] W (fun e W' => ∃ A c, e = .returned (.slice A (encInts rz).length c) ∧ Fin W A (encInts rz).length c (encInts rz) W' ∧ Below ww.heap.size ww W') := fun W hW =>
          (PutInts_any 0 ww.heap.size Option.none AZ 0 0 LZ cZ [] rz W (Rd.nil _ _ _) (Nat.zero_le _) rfl (fun _ => rfl) (by omega) (hdz.below hW (Nat.le_refl _)) hW.size HZ.out (by omega)).mono fun e W' ⟨v, he, hr, hb⟩ => by
            subst he; exact (fin_of hr hb (by simp)).elim fun A h => h.elim fun c h => ⟨A, c, by rw [h.1], h.2, hW.trans (hb.mono hW.size)⟩
        generalize (encInts rz).length = L3 at *
        generalize encInts rz = X4 at *
        refine wp_region_held_drew (S := fun W' => Below ww.heap.size ww W') (by kernel_rfl) ((Below.refl _ ww).drew) (fun hHeld => ?_)
        refine takeH_now (i := 0) (some 108) (v := ?_) rfl (by kernel_rfl) (by kernel_rfl) (by kernel_rfl) (fun _ _ _ h => h) (Or.inl ⟨by rfl, ?_⟩) rfl (by assumption) ?_
        rotate_left
        focus (intro w9 hS9; go_simp; try with_reducible rfl)
        try simp only [Act.put, List.setIfInBounds_toArray, List.set_cons_zero, List.set_cons_succ]
        refine takeH_now (i := 1) (some 109) (v := ?_) rfl (by kernel_rfl) (by kernel_rfl) (by kernel_rfl) (fun _ _ _ h => h) (Or.inl ⟨by rfl, ?_⟩) rfl (by assumption) ?_
        rotate_left
        focus (intro w9 hS9; go_simp; try with_reducible rfl)
        try simp only [Act.put, List.setIfInBounds_toArray, List.set_cons_zero, List.set_cons_succ]
        refine takeH_now (i := 2) (some 110) (v := ?_) rfl (by kernel_rfl) (by kernel_rfl) (by kernel_rfl) (fun _ _ _ h => h) (Or.inl ⟨by rfl, ?_⟩) rfl (by assumption) ?_
        rotate_left
        focus (intro w9 hS9; go_simp; try with_reducible rfl)
        try simp only [Act.put, List.setIfInBounds_toArray, List.set_cons_zero, List.set_cons_succ]
        refine takeH_now (i := 3) (some 111) (v := ?_) rfl (by kernel_rfl) (by kernel_rfl) (by kernel_rfl) (fun _ _ _ h => h) (Or.inl ⟨by rfl, ?_⟩) rfl (by assumption) ?_
        rotate_left
        focus (intro w9 hS9; go_simp; try with_reducible rfl)
        try simp only [Act.put, List.setIfInBounds_toArray, List.set_cons_zero, List.set_cons_succ]
        refine takeH_now (i := 4) (some 112) (v := ?_) rfl (by kernel_rfl) (by kernel_rfl) (by kernel_rfl) (fun _ _ _ h => h) (Or.inl ⟨by rfl, ?_⟩) rfl (by assumption) ?_
        rotate_left
        focus (intro w9 hS9; go_simp; try with_reducible rfl)
        try simp only [Act.put, List.setIfInBounds_toArray, List.set_cons_zero, List.set_cons_succ]
        refine takeH_now (i := 5) (some 113) (v := ?_) rfl (by kernel_rfl) (by kernel_rfl) (by kernel_rfl) (fun _ _ _ h => h) (Or.inl ⟨by rfl, ?_⟩) rfl (by assumption) ?_
        rotate_left
        focus (intro w9 hS9; go_simp; try with_reducible rfl)
        try simp only [Act.put, List.setIfInBounds_toArray, List.set_cons_zero, List.set_cons_succ]
        refine takeH_now (i := 6) (some 114) (v := ?_) rfl (by kernel_rfl) (by kernel_rfl) (by kernel_rfl) (fun _ _ _ h => h) (Or.inl ⟨by rfl, ?_⟩) rfl (by assumption) ?_
        rotate_left
        focus (intro w9 hS9; go_simp; try with_reducible rfl)
        try simp only [Act.put, List.setIfInBounds_toArray, List.set_cons_zero, List.set_cons_succ]
        refine takeH_now (i := 7) (some 115) (v := ?_) rfl (by kernel_rfl) (by kernel_rfl) (by kernel_rfl) (fun _ _ _ h => h) (Or.inl ⟨by rfl, ?_⟩) rfl (by assumption) ?_
        rotate_left
        focus (intro w9 hS9; go_simp; try with_reducible rfl)
        try simp only [Act.put, List.setIfInBounds_toArray, List.set_cons_zero, List.set_cons_succ]
        refine takeH_now (i := 8) (some 116) (v := ?_) rfl (by kernel_rfl) (by kernel_rfl) (by kernel_rfl) (fun _ _ _ h => h) (Or.inl ⟨by rfl, ?_⟩) rfl (by assumption) ?_
        rotate_left
        focus (intro w9 hS9; go_simp; try with_reducible rfl)
        try simp only [Act.put, List.setIfInBounds_toArray, List.set_cons_zero, List.set_cons_succ]
        refine takeH_now (i := 9) (some 117) (v := ?_) rfl (by kernel_rfl) (by kernel_rfl) (by kernel_rfl) (fun _ _ _ h => h) (Or.inl ⟨by rfl, ?_⟩) rfl (by assumption) ?_
        rotate_left
        focus (intro w9 hS9; go_simp; try with_reducible rfl)
        try simp only [Act.put, List.setIfInBounds_toArray, List.set_cons_zero, List.set_cons_succ]
        refine takeH_now (i := 10) (some 118) (v := ?_) rfl (by kernel_rfl) (by kernel_rfl) (by kernel_rfl) (fun _ _ _ h => h) (Or.inl ⟨by rfl, ?_⟩) rfl (by assumption) ?_
        rotate_left
        focus (intro w9 hS9; go_simp; try with_reducible rfl)
        try simp only [Act.put, List.setIfInBounds_toArray, List.set_cons_zero, List.set_cons_succ]
        refine takeH_now (i := 11) (some 119) (v := ?_) rfl (by kernel_rfl) (by kernel_rfl) (by kernel_rfl) (fun _ _ _ h => h) (Or.inl ⟨by rfl, ?_⟩) rfl (by assumption) ?_
        rotate_left
        focus (intro w9 hS9; go_simp; try with_reducible rfl)
        try simp only [Act.put, List.setIfInBounds_toArray, List.set_cons_zero, List.set_cons_succ]
        refine takeH_now (i := 12) (some 120) (v := ?_) rfl (by kernel_rfl) (by kernel_rfl) (by kernel_rfl) (fun _ _ _ h => h) (Or.inl ⟨by rfl, ?_⟩) rfl (by assumption) ?_
        rotate_left
        focus (intro w9 hS9; go_simp; try with_reducible rfl)
        try simp only [Act.put, List.setIfInBounds_toArray, List.set_cons_zero, List.set_cons_succ]
        refine takeH_now (i := 13) (some 121) (v := ?_) rfl (by kernel_rfl) (by kernel_rfl) (by kernel_rfl) (fun _ _ _ h => h) (Or.inl ⟨by rfl, ?_⟩) rfl (by assumption) ?_
        rotate_left
        focus (intro w9 hS9; go_simp; try with_reducible rfl)
        try simp only [Act.put, List.setIfInBounds_toArray, List.set_cons_zero, List.set_cons_succ]
        refine takeH_now (i := 14) (some 122) (v := ?_) rfl (by kernel_rfl) (by kernel_rfl) (by kernel_rfl) (fun _ _ _ h => h) (Or.inl ⟨by rfl, ?_⟩) rfl (by assumption) ?_
        rotate_left
        focus (intro w9 hS9; go_simp; try with_reducible rfl)
        try simp only [Act.put, List.setIfInBounds_toArray, List.set_cons_zero, List.set_cons_succ]
        refine takeH_now (i := 15) (some 123) (v := ?_) rfl (by kernel_rfl) (by kernel_rfl) (by kernel_rfl) (fun _ _ _ h => h) (Or.inl ⟨by rfl, ?_⟩) rfl (by assumption) ?_
        rotate_left
        focus (intro w9 hS9; go_simp; try with_reducible rfl)
        try simp only [Act.put, List.setIfInBounds_toArray, List.set_cons_zero, List.set_cons_succ]
        refine takeH_now (i := 16) (some 124) (v := ?_) rfl (by kernel_rfl) (by kernel_rfl) (by kernel_rfl) (fun _ _ _ h => h) (Or.inl ⟨by rfl, ?_⟩) rfl (by assumption) ?_
        rotate_left
        focus (intro w9 hS9; go_simp; try with_reducible rfl)
        try simp only [Act.put, List.setIfInBounds_toArray, List.set_cons_zero, List.set_cons_succ]
        refine takeH_now (i := 17) (some 125) (v := ?_) rfl (by kernel_rfl) (by kernel_rfl) (by kernel_rfl) (fun _ _ _ h => h) (Or.inl ⟨by rfl, ?_⟩) rfl (by assumption) ?_
        rotate_left
        focus (intro w9 hS9; go_simp; try with_reducible rfl)
        try simp only [Act.put, List.setIfInBounds_toArray, List.set_cons_zero, List.set_cons_succ]
        refine takeH_now (i := 18) (some 126) (v := ?_) rfl (by kernel_rfl) (by kernel_rfl) (by kernel_rfl) (fun _ _ _ h => h) (Or.inl ⟨by rfl, ?_⟩) rfl (by assumption) ?_
        rotate_left
        focus (intro w9 hS9; go_simp; try with_reducible rfl)
        try simp only [Act.put, List.setIfInBounds_toArray, List.set_cons_zero, List.set_cons_succ]
        refine takeH_now (i := 19) (some 127) (v := ?_) rfl (by kernel_rfl) (by kernel_rfl) (by kernel_rfl) (fun _ _ _ h => h) (Or.inl ⟨by rfl, ?_⟩) rfl (by assumption) ?_
        rotate_left
        focus (intro w9 hS9; go_simp; try with_reducible rfl)
        try simp only [Act.put, List.setIfInBounds_toArray, List.set_cons_zero, List.set_cons_succ]
        refine takeH_now (i := 22) (some 130) (v := ?_) rfl (by kernel_rfl) (by kernel_rfl) (by kernel_rfl) (fun _ _ _ h => h) (Or.inl ⟨by rfl, ?_⟩) rfl (by assumption) ?_
        rotate_left
        focus (intro w9 hS9; go_simp; try with_reducible rfl)
        try simp only [Act.put, List.setIfInBounds_toArray, List.set_cons_zero, List.set_cons_succ]
        refine takeH_now (i := 23) (some 131) (v := ?_) rfl (by kernel_rfl) (by kernel_rfl) (by kernel_rfl) (fun _ _ _ h => h) (Or.inl ⟨by rfl, ?_⟩) rfl (by assumption) ?_
        rotate_left
        focus (intro w9 hS9; go_simp; try with_reducible rfl)
        try simp only [Act.put, List.setIfInBounds_toArray, List.set_cons_zero, List.set_cons_succ]
        refine takeH_now (i := 24) (some 132) (v := ?_) rfl (by kernel_rfl) (by kernel_rfl) (by kernel_rfl) (fun _ _ _ h => h) (Or.inl ⟨by rfl, ?_⟩) rfl (by assumption) ?_
        rotate_left
        focus (intro w9 hS9; go_simp; try with_reducible rfl)
        try simp only [Act.put, List.setIfInBounds_toArray, List.set_cons_zero, List.set_cons_succ]
        refine takeH_now (i := 25) (some 133) (v := ?_) rfl (by kernel_rfl) (by kernel_rfl) (by kernel_rfl) (fun _ _ _ h => h) (Or.inl ⟨by rfl, ?_⟩) rfl (by assumption) ?_
        rotate_left
        focus (intro w9 hS9; go_simp; try with_reducible rfl)
        try simp only [Act.put, List.setIfInBounds_toArray, List.set_cons_zero, List.set_cons_succ]
        refine takeH_now (i := 26) (some 134) (v := ?_) rfl (by kernel_rfl) (by kernel_rfl) (by kernel_rfl) (fun _ _ _ h => h) (Or.inl ⟨by rfl, ?_⟩) rfl (by assumption) ?_
        rotate_left
        focus (intro w9 hS9; have := u2 w9 (hbx.trans (hS9.mono hbx.size)); go_simp; try with_reducible rfl)
        try simp only [Act.put, List.setIfInBounds_toArray, List.set_cons_zero, List.set_cons_succ]
        refine wpAnyH_ready (rs := [20]) (by kernel_rfl) (by simp) ?_
        refine AllReadyH.cons rfl (fun K hK => ?_) AllReadyH.nil
        go_simp
        refine (P1 _ ?_).mono ?_
        · assumption
        rintro e wx ⟨A', c', rfl, ⟨hcv, hbw⟩, hby⟩
        have hx0 := hcv.c0
        clear P1 u1 u2 hbw hcv
        go_wp2_with fail
        refine hK.out _ _ (by assumption) (fun hHeld => ?_)
        try simp only [Act.put, List.setIfInBounds_toArray, List.set_cons_zero, List.set_cons_succ]
        refine wpAnyH_ready (rs := [21]) (by kernel_rfl) (by simp) ?_
        refine AllReadyH.cons rfl (fun K hK => ?_) AllReadyH.nil
        go_simp
        refine hK.out _ _ (by assumption) (fun hHeld => ?_)
        try simp only [Act.put, List.setIfInBounds_toArray, List.set_cons_zero, List.set_cons_succ]
        refine takeH_now (i := 27) (some 135) (v := ?_) rfl (by kernel_rfl) (by kernel_rfl) (by kernel_rfl) (fun _ _ _ h => h) (Or.inl ⟨by rfl, ?_⟩) rfl (by assumption) ?_
        rotate_left
        focus (intro w9 hS9; go_simp; try with_reducible rfl)
        try simp only [Act.put, List.setIfInBounds_toArray, List.set_cons_zero, List.set_cons_succ]
        refine takeH_now (i := 28) (some 136) (v := ?_) rfl (by kernel_rfl) (by kernel_rfl) (by kernel_rfl) (fun _ _ _ h => h) (Or.inl ⟨by rfl, ?_⟩) rfl (by assumption) ?_
        rotate_left
        focus (intro w9 hS9; go_simp; try with_reducible rfl)
        try simp only [Act.put, List.setIfInBounds_toArray, List.set_cons_zero, List.set_cons_succ]
        refine takeH_now (i := 29) (some 137) (v := ?_) rfl (by kernel_rfl) (by kernel_rfl) (by kernel_rfl) (fun _ _ _ h => h) (Or.inl ⟨by rfl, ?_⟩) rfl (by assumption) ?_
        rotate_left
        focus (intro w9 hS9; go_simp; try with_reducible rfl)
        try simp only [Act.put, List.setIfInBounds_toArray, List.set_cons_zero, List.set_cons_succ]
        refine wpAnyH_done (by kernel_rfl) ?_ _
        clear hHeld hx0
        go_wp2_with fail
        have hbx := hbx.trans (hby.mono hbx.size)
        go_ret
        exact ⟨by first | rfl | simp [*], hbx⟩
      · have hz0 : LZ = 0 := by have := HZ.out; simpa using this.symm
        subst hz0
        have D1 : ((re : Int) == 0) = false := by rw [beq_eq_false_iff_ne]; omega
        go_quiet (fail)
        have hbx := below_drewN hbx nq
        generalize World.drewN _ nq = wx at *
        go_wp2_with fail
        go_ret
        exact ⟨by first | rfl | simp [*], hbx⟩
    · have C1 : ((tx : Int) == 0) = false := by rw [beq_eq_false_iff_ne]; omega
      go_quiet (fail)
      have hbx := below_drewN hbx nq
      generalize World.drewN _ nq = wx at *
      go_wp2_with fail
      refine (GL _ hbx).mono ?_
      rintro e ww ⟨hans, hbx⟩
      obtain ⟨vz, rfl, hrz⟩ := ians hans
      clear hans
      obtain ⟨AZ, cZ, rfl, hkz, hmz, hdz⟩ := hrz.shape
      clear hrz
      obtain ⟨LZ, hLZ⟩ : ∃ LZ, rz.length = LZ := ⟨_, rfl⟩
      rw [hLZ] at hI hkz ⊢
      have HZ := Lib.hid hLZ
      clear hLZ
      go_wp2_with fail
      rcases hI with ⟨rfl, l1, l2, l3, l4, l5, l6⟩ | ⟨l1, rfl, rfl⟩
      · have D1 : decide (rq < N) = false := by rw [decide_eq_false_iff_not]; omega
        have D2 : decide (bl < rq) = false := by rw [decide_eq_false_iff_not]; omega
        have D3 : decide (m < (LZ : Int)) = false := by rw [decide_eq_false_iff_not]; omega
        have D4 : ((str (encInts rz)).toList != (str (encInts rz)).toList) = false := by rw [bne_eq_false_iff_eq]
        obtain ⟨u1, u2⟩ := cut_conv hd HD.out hdc f3 (by omega) l3 l6
        have P1 : ∀ W : World, Below ww.heap.size ww W → Calls Try.prog 23 #[.slice Option.none 0 0, .slice AZ LZ cZ] W (fun e W' => ∃ A c, e = .returned (.slice A (encInts rz).length c) ∧ Fin W A (encInts rz).length c (encInts rz) W' ∧ Below ww.heap.size ww W') := fun W hW =>
          (PutInts_any 0 ww.heap.size Option.none AZ 0 0 LZ cZ [] rz W (Rd.nil _ _ _) (Nat.zero_le _) rfl (fun _ => rfl) (by omega) (hdz.below hW (Nat.le_refl _)) hW.size HZ.out (by omega)).mono fun e W' ⟨v, he, hr, hb⟩ => by
            subst he; exact (fin_of hr hb (by simp)).elim fun A h => h.elim fun c h => ⟨A, c, by rw [h.1], h.2, hW.trans (hb.mono hW.size)⟩
        generalize (encInts rz).length = L3 at *
        generalize encInts rz = X4 at *
        refine wp_region_held_drew (S := fun W' => Below ww.heap.size ww W') (by kernel_rfl) ((Below.refl _ ww).drew) (fun hHeld => ?_)
        refine takeH_now (i := 0) (some 108) (v := ?_) rfl (by kernel_rfl) (by kernel_rfl) (by kernel_rfl) (fun _ _ _ h => h) (Or.inl ⟨by rfl, ?_⟩) rfl (by assumption) ?_
        rotate_left
        focus (intro w9 hS9; go_simp; try with_reducible rfl)
        try simp only [Act.put, List.setIfInBounds_toArray, List.set_cons_zero, List.set_cons_succ]
        refine takeH_now (i := 1) (some 109) (v := ?_) rfl (by kernel_rfl) (by kernel_rfl) (by kernel_rfl) (fun _ _ _ h => h) (Or.inl ⟨by rfl, ?_⟩) rfl (by assumption) ?_
        rotate_left
        focus (intro w9 hS9; go_simp; try with_reducible rfl)
        try simp only [Act.put, List.setIfInBounds_toArray, List.set_cons_zero, List.set_cons_succ]
        refine takeH_now (i := 2) (some 110) (v := ?_) rfl (by kernel_rfl) (by kernel_rfl) (by kernel_rfl) (fun _ _ _ h => h) (Or.inl ⟨by rfl, ?_⟩) rfl (by assumption) ?_
        rotate_left
        focus (intro w9 hS9; go_simp; try with_reducible rfl)
        try simp only [Act.put, List.setIfInBounds_toArray, List.set_cons_zero, List.set_cons_succ]
        refine takeH_now (i := 3) (some 111) (v := ?_) rfl (by kernel_rfl) (by kernel_rfl) (by kernel_rfl) (fun _ _ _ h => h) (Or.inl ⟨by rfl, ?_⟩) rfl (by assumption) ?_
        rotate_left
        focus (intro w9 hS9; go_simp; try with_reducible rfl)
        try simp only [Act.put, List.setIfInBounds_toArray, List.set_cons_zero, List.set_cons_succ]
        refine takeH_now (i := 4) (some 112) (v := ?_) rfl (by kernel_rfl) (by kernel_rfl) (by kernel_rfl) (fun _ _ _ h => h) (Or.inl ⟨by rfl, ?_⟩) rfl (by assumption) ?_
        rotate_left
        focus (intro w9 hS9; go_simp; try with_reducible rfl)
        try simp only [Act.put, List.setIfInBounds_toArray, List.set_cons_zero, List.set_cons_succ]
        refine takeH_now (i := 5) (some 113) (v := ?_) rfl (by kernel_rfl) (by kernel_rfl) (by kernel_rfl) (fun _ _ _ h => h) (Or.inl ⟨by rfl, ?_⟩) rfl (by assumption) ?_
        rotate_left
        focus (intro w9 hS9; go_simp; try with_reducible rfl)
        try simp only [Act.put, List.setIfInBounds_toArray, List.set_cons_zero, List.set_cons_succ]
        refine takeH_now (i := 6) (some 114) (v := ?_) rfl (by kernel_rfl) (by kernel_rfl) (by kernel_rfl) (fun _ _ _ h => h) (Or.inl ⟨by rfl, ?_⟩) rfl (by assumption) ?_
        rotate_left
        focus (intro w9 hS9; go_simp; try with_reducible rfl)
        try simp only [Act.put, List.setIfInBounds_toArray, List.set_cons_zero, List.set_cons_succ]
        refine takeH_now (i := 7) (some 115) (v := ?_) rfl (by kernel_rfl) (by kernel_rfl) (by kernel_rfl) (fun _ _ _ h => h) (Or.inl ⟨by rfl, ?_⟩) rfl (by assumption) ?_
        rotate_left
        focus (intro w9 hS9; go_simp; try with_reducible rfl)
        try simp only [Act.put, List.setIfInBounds_toArray, List.set_cons_zero, List.set_cons_succ]
        refine takeH_now (i := 8) (some 116) (v := ?_) rfl (by kernel_rfl) (by kernel_rfl) (by kernel_rfl) (fun _ _ _ h => h) (Or.inl ⟨by rfl, ?_⟩) rfl (by assumption) ?_
        rotate_left
        focus (intro w9 hS9; go_simp; try with_reducible rfl)
        try simp only [Act.put, List.setIfInBounds_toArray, List.set_cons_zero, List.set_cons_succ]
        refine takeH_now (i := 9) (some 117) (v := ?_) rfl (by kernel_rfl) (by kernel_rfl) (by kernel_rfl) (fun _ _ _ h => h) (Or.inl ⟨by rfl, ?_⟩) rfl (by assumption) ?_
        rotate_left
        focus (intro w9 hS9; go_simp; try with_reducible rfl)
        try simp only [Act.put, List.setIfInBounds_toArray, List.set_cons_zero, List.set_cons_succ]
        refine takeH_now (i := 10) (some 118) (v := ?_) rfl (by kernel_rfl) (by kernel_rfl) (by kernel_rfl) (fun _ _ _ h => h) (Or.inl ⟨by rfl, ?_⟩) rfl (by assumption) ?_
        rotate_left
        focus (intro w9 hS9; go_simp; try with_reducible rfl)
        try simp only [Act.put, List.setIfInBounds_toArray, List.set_cons_zero, List.set_cons_succ]
        refine takeH_now (i := 11) (some 119) (v := ?_) rfl (by kernel_rfl) (by kernel_rfl) (by kernel_rfl) (fun _ _ _ h => h) (Or.inl ⟨by rfl, ?_⟩) rfl (by assumption) ?_
        rotate_left
        focus (intro w9 hS9; go_simp; try with_reducible rfl)
        try simp only [Act.put, List.setIfInBounds_toArray, List.set_cons_zero, List.set_cons_succ]
        refine takeH_now (i := 12) (some 120) (v := ?_) rfl (by kernel_rfl) (by kernel_rfl) (by kernel_rfl) (fun _ _ _ h => h) (Or.inl ⟨by rfl, ?_⟩) rfl (by assumption) ?_
        rotate_left
        focus (intro w9 hS9; go_simp; try with_reducible rfl)
        try simp only [Act.put, List.setIfInBounds_toArray, List.set_cons_zero, List.set_cons_succ]
        refine takeH_now (i := 13) (some 121) (v := ?_) rfl (by kernel_rfl) (by kernel_rfl) (by kernel_rfl) (fun _ _ _ h => h) (Or.inl ⟨by rfl, ?_⟩) rfl (by assumption) ?_
        rotate_left
        focus (intro w9 hS9; go_simp; try with_reducible rfl)
        try simp only [Act.put, List.setIfInBounds_toArray, List.set_cons_zero, List.set_cons_succ]
        refine takeH_now (i := 14) (some 122) (v := ?_) rfl (by kernel_rfl) (by kernel_rfl) (by kernel_rfl) (fun _ _ _ h => h) (Or.inl ⟨by rfl, ?_⟩) rfl (by assumption) ?_
        rotate_left
        focus (intro w9 hS9; go_simp; try with_reducible rfl)
        try simp only [Act.put, List.setIfInBounds_toArray, List.set_cons_zero, List.set_cons_succ]
        refine takeH_now (i := 15) (some 123) (v := ?_) rfl (by kernel_rfl) (by kernel_rfl) (by kernel_rfl) (fun _ _ _ h => h) (Or.inl ⟨by rfl, ?_⟩) rfl (by assumption) ?_
        rotate_left
        focus (intro w9 hS9; go_simp; try with_reducible rfl)
        try simp only [Act.put, List.setIfInBounds_toArray, List.set_cons_zero, List.set_cons_succ]
        refine takeH_now (i := 16) (some 124) (v := ?_) rfl (by kernel_rfl) (by kernel_rfl) (by kernel_rfl) (fun _ _ _ h => h) (Or.inl ⟨by rfl, ?_⟩) rfl (by assumption) ?_
        rotate_left
        focus (intro w9 hS9; go_simp; try with_reducible rfl)
        try simp only [Act.put, List.setIfInBounds_toArray, List.set_cons_zero, List.set_cons_succ]
        refine takeH_now (i := 17) (some 125) (v := ?_) rfl (by kernel_rfl) (by kernel_rfl) (by kernel_rfl) (fun _ _ _ h => h) (Or.inl ⟨by rfl, ?_⟩) rfl (by assumption) ?_
        rotate_left
        focus (intro w9 hS9; go_simp; try with_reducible rfl)
        try simp only [Act.put, List.setIfInBounds_toArray, List.set_cons_zero, List.set_cons_succ]
        refine takeH_now (i := 18) (some 126) (v := ?_) rfl (by kernel_rfl) (by kernel_rfl) (by kernel_rfl) (fun _ _ _ h => h) (Or.inl ⟨by rfl, ?_⟩) rfl (by assumption) ?_
        rotate_left
        focus (intro w9 hS9; go_simp; try with_reducible rfl)
        try simp only [Act.put, List.setIfInBounds_toArray, List.set_cons_zero, List.set_cons_succ]
        refine takeH_now (i := 19) (some 127) (v := ?_) rfl (by kernel_rfl) (by kernel_rfl) (by kernel_rfl) (fun _ _ _ h => h) (Or.inl ⟨by rfl, ?_⟩) rfl (by assumption) ?_
        rotate_left
        focus (intro w9 hS9; go_simp; try with_reducible rfl)
        try simp only [Act.put, List.setIfInBounds_toArray, List.set_cons_zero, List.set_cons_succ]
        refine takeH_now (i := 22) (some 130) (v := ?_) rfl (by kernel_rfl) (by kernel_rfl) (by kernel_rfl) (fun _ _ _ h => h) (Or.inl ⟨by rfl, ?_⟩) rfl (by assumption) ?_
        rotate_left
        focus (intro w9 hS9; go_simp; try with_reducible rfl)
        try simp only [Act.put, List.setIfInBounds_toArray, List.set_cons_zero, List.set_cons_succ]
        refine takeH_now (i := 23) (some 131) (v := ?_) rfl (by kernel_rfl) (by kernel_rfl) (by kernel_rfl) (fun _ _ _ h => h) (Or.inl ⟨by rfl, ?_⟩) rfl (by assumption) ?_
        rotate_left
        focus (intro w9 hS9; go_simp; try with_reducible rfl)
        try simp only [Act.put, List.setIfInBounds_toArray, List.set_cons_zero, List.set_cons_succ]
        refine takeH_now (i := 24) (some 132) (v := ?_) rfl (by kernel_rfl) (by kernel_rfl) (by kernel_rfl) (fun _ _ _ h => h) (Or.inl ⟨by rfl, ?_⟩) rfl (by assumption) ?_
        rotate_left
        focus (intro w9 hS9; go_simp; try with_reducible rfl)
        try simp only [Act.put, List.setIfInBounds_toArray, List.set_cons_zero, List.set_cons_succ]
        refine takeH_now (i := 25) (some 133) (v := ?_) rfl (by kernel_rfl) (by kernel_rfl) (by kernel_rfl) (fun _ _ _ h => h) (Or.inl ⟨by rfl, ?_⟩) rfl (by assumption) ?_
        rotate_left
        focus (intro w9 hS9; go_simp; try with_reducible rfl)
        try simp only [Act.put, List.setIfInBounds_toArray, List.set_cons_zero, List.set_cons_succ]
        refine takeH_now (i := 26) (some 134) (v := ?_) rfl (by kernel_rfl) (by kernel_rfl) (by kernel_rfl) (fun _ _ _ h => h) (Or.inl ⟨by rfl, ?_⟩) rfl (by assumption) ?_
        rotate_left
        focus (intro w9 hS9; have := u2 w9 (hbx.trans (hS9.mono hbx.size)); go_simp; try with_reducible rfl)
        try simp only [Act.put, List.setIfInBounds_toArray, List.set_cons_zero, List.set_cons_succ]
        refine wpAnyH_ready (rs := [20]) (by kernel_rfl) (by simp) ?_
        refine AllReadyH.cons rfl (fun K hK => ?_) AllReadyH.nil
        go_simp
        refine (P1 _ ?_).mono ?_
        · assumption
        rintro e wx ⟨A', c', rfl, ⟨hcv, hbw⟩, hby⟩
        have hx0 := hcv.c0
        clear P1 u1 u2 hbw hcv
        go_wp2_with fail
        refine hK.out _ _ (by assumption) (fun hHeld => ?_)
        try simp only [Act.put, List.setIfInBounds_toArray, List.set_cons_zero, List.set_cons_succ]
        refine wpAnyH_ready (rs := [21]) (by kernel_rfl) (by simp) ?_
        refine AllReadyH.cons rfl (fun K hK => ?_) AllReadyH.nil
        go_simp
        refine hK.out _ _ (by assumption) (fun hHeld => ?_)
        try simp only [Act.put, List.setIfInBounds_toArray, List.set_cons_zero, List.set_cons_succ]
        refine takeH_now (i := 27) (some 135) (v := ?_) rfl (by kernel_rfl) (by kernel_rfl) (by kernel_rfl) (fun _ _ _ h => h) (Or.inl ⟨by rfl, ?_⟩) rfl (by assumption) ?_
        rotate_left
        focus (intro w9 hS9; go_simp; try with_reducible rfl)
        try simp only [Act.put, List.setIfInBounds_toArray, List.set_cons_zero, List.set_cons_succ]
        refine takeH_now (i := 28) (some 136) (v := ?_) rfl (by kernel_rfl) (by kernel_rfl) (by kernel_rfl) (fun _ _ _ h => h) (Or.inl ⟨by rfl, ?_⟩) rfl (by assumption) ?_
        rotate_left
        focus (intro w9 hS9; go_simp; try with_reducible rfl)
        try simp only [Act.put, List.setIfInBounds_toArray, List.set_cons_zero, List.set_cons_succ]
        refine takeH_now (i := 29) (some 137) (v := ?_) rfl (by kernel_rfl) (by kernel_rfl) (by kernel_rfl) (fun _ _ _ h => h) (Or.inl ⟨by rfl, ?_⟩) rfl (by assumption) ?_
        rotate_left
        focus (intro w9 hS9; go_simp; try with_reducible rfl)
        try simp only [Act.put, List.setIfInBounds_toArray, List.set_cons_zero, List.set_cons_succ]
        refine wpAnyH_done (by kernel_rfl) ?_ _
        clear hHeld hx0
        go_wp2_with fail
        have hbx := hbx.trans (hby.mono hbx.size)
        go_ret
        exact ⟨by first | rfl | simp [*], hbx⟩
      · have hz0 : LZ = 0 := by have := HZ.out; simpa using this.symm
        subst hz0
        have D1 : ((re : Int) == 0) = false := by rw [beq_eq_false_iff_ne]; omega
        go_quiet (fail)
        have hbx := below_drewN hbx nq
        generalize World.drewN _ nq = wx at *
        go_wp2_with fail
        go_ret
        exact ⟨by first | rfl | simp [*], hbx⟩
  · have B0 : ((E : Int) == 0) = false := by rw [beq_eq_false_iff_ne]; omega
    go_quiet (fail)
    have hbx := below_drewN hbx nq
    generalize World.drewN _ nq = wx at *
    go_wp2_with fail
    refine (GT _ hbx).mono ?_
    rintro e wx ⟨rfl, hbx⟩
    go_wp2_with fail
    rcases hT with ⟨rfl, t1, t2, t3, t4, t5, t6⟩ | ⟨t1, rfl, rfl⟩
    · omega
    · have C1 : ((tx : Int) == 0) = false := by rw [beq_eq_false_iff_ne]; omega
      go_quiet (fail)
      have hbx := below_drewN hbx nq
      generalize World.drewN _ nq = wx at *
      go_wp2_with fail
      refine (GL _ hbx).mono ?_
      rintro e ww ⟨hans, hbx⟩
      obtain ⟨vz, rfl, hrz⟩ := ians hans
      clear hans
      obtain ⟨AZ, cZ, rfl, hkz, hmz, hdz⟩ := hrz.shape
      clear hrz
      obtain ⟨LZ, hLZ⟩ : ∃ LZ, rz.length = LZ := ⟨_, rfl⟩
      rw [hLZ] at hI hkz ⊢
      have HZ := Lib.hid hLZ
      clear hLZ
      go_wp2_with fail
      rcases hI with ⟨rfl, l1, l2, l3, l4, l5, l6⟩ | ⟨l1, rfl, rfl⟩
      · omega
      · have hz0 : LZ = 0 := by have := HZ.out; simpa using this.symm
        subst hz0
        have D1 : ((re : Int) == 0) = false := by rw [beq_eq_false_iff_ne]; omega
        go_quiet (fail)
        have hbx := below_drewN hbx nq
        generalize World.drewN _ nq = wx at *
        go_wp2_with fail
        go_ret
        exact ⟨by first | rfl | simp [*], hbx⟩

set_option maxRecDepth 100000 in
theorem octetCanonical_lifted (os : Os) (started : os.Started) (H : Type) (enc : TypeId × Value → H) :
    ReturnsInHanded {} Try.checked os 7 .any (Rows.octetCanonicalSpec.pre6 enc Try.prog Try.f7 Rows.octetCanonicalRow.domain false) (Rows.octetCanonicalSpec.post enc Try.prog Try.f7 false true false false) := by
  refine returnsInHanded_of_change (C := Try.checked) Try.own started (by kernel_rfl) Try.func7
    (ChangeSpec.witness6 (enc := enc) (C := Try.checked) false ⟨#[], #[.slice Option.none 0 0, .int .i64 0, .int .i64 0], []⟩ 8 (by kernel_rfl) (by kernel_rfl) (by kernel_rfl) (by kernel_rfl)) ?_
  intro W base args ds gs before hval0 hW _ _
  have hval : ∀ (j : Nat) t v, Try.f7.params[j]? = some t → args[j]? = some v → Value.okWide Try.prog W .any base t v := hval0
  have hW' := hW
  obtain ⟨p, q, hA0, hV, rfl, _, _⟩ := hW
  have hA : DataW.TrodAll enc Try.prog W 0 (fun _ => true) true Try.f7.params.toList args.toList ds p := hA0
  rw [Try.params7] at hA hval
  have hlt : ∀ x ∈ p, x.block < W.heap.size := fun x hx => hW'.lt x (List.mem_append_left _ hx)
  obtain ⟨rfl, rfl⟩ := trodVars_none hV
  clear hA0 hval0
  obtain ⟨v0, vs0, d0, ds0, p0, q0, hargs0, rfl, rfl, h0, r0⟩ := trodAll_cons hA
  obtain ⟨v1, vs1, d1, ds1, p1, q1, hargs1, rfl, rfl, h1, r1⟩ := trodAll_cons r0
  obtain ⟨v2, vs2, d2, ds2, p2, q2, hargs2, rfl, rfl, h2, r2⟩ := trodAll_cons r1
  obtain ⟨hlast, rfl, rfl⟩ := trodAll_nil r2
  obtain rfl : args = #[v0, v1, v2] := by
    apply Array.toList_inj.1
    rw [hargs0, hargs1, hargs2, hlast]
  obtain ⟨A0, len0, cap0, bs0, rfl, hr0, hl0, hlc0, hm0, hn0⟩ := open_bytes (hval 0 22 v0 rfl rfl) h0 (fun x hx => hlt x (List.mem_append_left _ hx))
  obtain ⟨n1, rfl, rfl, rfl, wf1⟩ := open_int Try.underlying3 (hval 1 3 v1 rfl rfl) h1
  obtain ⟨n2, rfl, rfl, rfl, wf2⟩ := open_int Try.underlying3 (hval 2 3 v2 rfl rfl) h2
  refine (octetCanonical_walk A0 n1 n2 len0 cap0 bs0 W hr0 hl0 hlc0 hm0).mono fun e W' ⟨he, hb⟩ => ?_
  subst he
  exact ⟨_, rfl, law_post Try.laidOut hW' rfl (by rw [Try.params7]; decide +kernel) 4 rfl Try.underlying4 rfl hb⟩

theorem octetCanonical_holds : Rows.OctetCanonicalSaid :=
  OpenClaim.holds_of_wide 7 Try.f7 rfl rfl rfl rfl rfl rfl rfl ⟨rfl, rfl, rfl, rfl, rfl⟩ rfl rfl rfl rfl rfl (by kernel_rfl) Try.func7 (by kernel_rfl)
    (of_decide_eq_true (by kernel_rfl)) (by unfold Func.isWrapper; first | (rw [if_pos (by decide +kernel)]; kernel_rfl) | (rw [if_neg (by decide +kernel)]; exact ⟨rfl, rfl⟩))
    (fun os started H enc _ => octetCanonical_lifted os started H enc)
end Go.Proofs.Ytnebjihjfghlfaa
