/- The reference's clauses for i and k, in plain mathematics; what a store to a state of the call's own keeps. -/
import Derived.Test.YtppgpafnifmmfaaRefB
namespace Go.Proofs.Ytppgpafnifmmfaa
open Go.ChangeShapes Go.WideShapes Go.ChangeAt Go.RowKit

theorem RowI.fresh (base : Nat) (w : World) (h : base ≤ w.heap.size) : RowI (w.alloc (.cells #[] 3)) base (.slice (some ⟨w.heap.size, 0, none⟩) 0 0) [] := by
  refine ⟨by simp, ?_⟩
  have := World.ownsRow_lit (base := base) (e := 3) (size := 1) w #[] 0 h (Nat.zero_le _) (by simp)
  simpa using this
def upA (a : List Int) (i : Nat) : List Int := if 0 < i then [-(a[i - 1]?.getD 0)] else []
def dnA (a : List Int) (i : Nat) : List Int := if i < a.length then [a[i]?.getD 0] else []
def ups (a b outs : List Int) (i k : Nat) : List (List Int) := if 0 < i + k ∧ i + k ≤ outs.length then [(upA a i ++ upA b k) ++ [outs[i + k - 1]?.getD 0]] else []
def dns (a b outs : List Int) (i k : Nat) : List (List Int) := if i + k < outs.length then [(dnA a i ++ dnA b k) ++ [-(outs[i + k]?.getD 0)]] else []
theorem up_opt (a : List Int) (i : Nat) (h : i ≤ a.length) : (Tot.opt a ((i : Int) - 1)).map ((-1) * ·) = upA a i := by
  unfold Tot.opt upA
  by_cases q : 0 < i
  · rw [if_pos (by omega), if_pos q, show ((i : Int) - 1).toNat = i - 1 by omega]
    simp
  · rw [if_neg (by omega), if_neg q]; rfl
theorem dn_opt (a : List Int) (i : Nat) : (Tot.opt a (i : Int)).map (1 * ·) = dnA a i := by
  unfold Tot.opt dnA
  by_cases q : i < a.length
  · rw [if_pos (by omega), if_pos q, Int.toNat_natCast]
    simp
  · rw [if_neg (by omega), if_neg q]; rfl
theorem both_step (a b outs : List Int) (i k : Nat) (hi : i ≤ a.length) (hk : k ≤ b.length) : Tot.step a b outs (i : Int) (k : Int) = ups a b outs i k ++ dns a b outs i k := by
  unfold Tot.step Tot.clause ups dns
  rw [up_opt a i hi, up_opt b k hk, dn_opt, dn_opt]
  congr 1
  · unfold Tot.opt
    by_cases q : 0 < i + k ∧ i + k ≤ outs.length
    · rw [if_pos (by omega), if_pos q, show ((i : Int) + (k : Int) - 1).toNat = i + k - 1 by omega]; rfl
    · rw [if_neg (by omega), if_neg q]; rfl
  · unfold Tot.opt
    by_cases q : i + k < outs.length
    · rw [if_pos (by omega), if_pos q, show ((i : Int) + (k : Int)).toNat = i + k by omega]; rfl
    · rw [if_neg (by omega), if_neg q]; rfl
theorem up_le (a : List Int) (i : Nat) : (upA a i).length ≤ 1 := by unfold upA; split <;> simp
theorem dn_le (a : List Int) (i : Nat) : (dnA a i).length ≤ 1 := by unfold dnA; split <;> simp

theorem Kr.store {s g j : Nat} {w w' : World} {v u : Value} {m : Int} (h : Kr s w w') (hT : Two w' g v m) (hg : w.heap.size ≤ g) (hs : s ≤ g) : Kr s w (w'.setCell ⟨g, j, none⟩ u) := by
  have hgr : w'.grownBy (w'.setCell ⟨g, j, none⟩ u) (some g) := ⟨rfl, rfl, rfl, by simp [World.setCell], fun k _ hk => heap_setCell_other w' ⟨g, j, none⟩ k u (fun e => hk (by simp [e]))⟩
  exact ⟨h.low.setCell (p := ⟨g, j, none⟩) hs _, fun q zs hq => (h.row q zs hq).apart hgr (hT.off (by decide)), fun g' q m' hq => (h.two g' q m' hq).other (by have := hq.lt; omega)⟩
theorem own_store {s g j e : Nat} {w : World} {v u : Value} {m : Int} {x : Value} {n : Nat} {xs : List Value} (h : w.ownsRow s e 1 x n xs) (hT : Two w g v m) (he : e ≠ 51) : (w.setCell ⟨g, j, none⟩ u).ownsRow s e 1 x n xs := by
  have hgr : w.grownBy (w.setCell ⟨g, j, none⟩ u) (some g) := ⟨rfl, rfl, rfl, by simp [World.setCell], fun k _ hk => heap_setCell_other w ⟨g, j, none⟩ k u (fun e => hk (by simp [e]))⟩
  exact h.kept hgr (.inr fun q => hT.not_own h he q.symm)
theorem els_store {s g j : Nat} {w : World} {v u : Value} {m : Int} {vs : List Value} {cl : List (List Int)} (h : Els w s vs cl) (hT : Two w g v m) : Els (w.setCell ⟨g, j, none⟩ u) s vs cl := by
  have hgr : w.grownBy (w.setCell ⟨g, j, none⟩ u) (some g) := ⟨rfl, rfl, rfl, by simp [World.setCell], fun k _ hk => heap_setCell_other w ⟨g, j, none⟩ k u (fun e => hk (by simp [e]))⟩
  exact h.apart hgr (hT.off (by decide))
/-- The state's cells as both begins. -/
def Wb (w : World) (v : Value) (m : Int) : World := (w.alloc (.cells #[v, .int .i64 m] 51)).alloc (.cells #[.slice Option.none 0 0, .int .i64 0] 51)
theorem Wb_size (w : World) (v : Value) (m : Int) : (Wb w v m).heap.size = w.heap.size + 1 + 1 := by simp [Wb]
theorem Wb_0 (w : World) (v : Value) (m : Int) : Two (Wb w v m) w.heap.size v m := (Two.new w v m).alloc _
theorem Wb_1 (w : World) (v : Value) (m : Int) : Two (Wb w v m) (w.heap.size + 1) (.slice Option.none 0 0) 0 := by
  have := Two.new (w.alloc (.cells #[v, .int .i64 m] 51)) (.slice Option.none 0 0) 0
  rw [World.size_alloc] at this
  exact this
theorem Wb_low (w : World) (v : Value) (m : Int) : Below w.heap.size w (Wb w v m) := ((Below.refl _ w).alloc (Nat.le_refl _) _).alloc (by simp) _
/-- A state with its clauses. -/
def Cls (w : World) (base : Nat) (v : Value) (cl : List (List Int)) : Prop := ∃ vs : List Value, w.ownsRow base 22 1 v vs.length vs ∧ Els w base vs cl
theorem Cls.below {w w' : World} {base : Nat} {v : Value} {cl : List (List Int)} (h : Cls w base v cl) (hb : Below w.heap.size w w') : Cls w' base v cl := by
  obtain ⟨vs, h1, h2⟩ := h
  exact ⟨vs, own_below h1 hb, h2.below hb⟩
theorem Cls.drewN {w : World} {base : Nat} {v : Value} {cl : List (List Int)} (h : Cls w base v cl) (n : Nat) : Cls (w.drewN n) base v cl := h
theorem Cls.nil (w : World) (base : Nat) : Cls w base (.slice Option.none 0 0) [] := ⟨[], World.ownsRow_nil _ _ _ _, Els.nil _ _⟩
theorem Cls.store {g j base : Nat} {w : World} {v u x : Value} {m : Int} {cl : List (List Int)} (h : Cls w base x cl) (hT : Two w g v m) : Cls (w.setCell ⟨g, j, none⟩ u) base x cl := by
  obtain ⟨vs, h1, h2⟩ := h
  exact ⟨vs, own_store h1 hT (by decide), els_store h2 hT⟩
theorem Cls.shape {w : World} {base : Nat} {v : Value} {cl : List (List Int)} (h : Cls w base v cl) : ∃ A c, v = .slice A cl.length c ∧ RdR w.heap.size w A cl := by
  obtain ⟨vs, h1, h2⟩ := h
  obtain ⟨A, c, rfl⟩ := own_shape h1
  obtain ⟨_, hr⟩ := h2.rd h1
  rw [h2.1]
  exact ⟨A, c, rfl, hr⟩
theorem Cls.sl {w : World} {base : Nat} {v : Value} {cl : List (List Int)} (h : Cls w base v cl) : ∃ A L c, v = .slice A L c := by
  obtain ⟨A, c, e, _⟩ := h.shape
  exact ⟨A, _, c, e⟩
theorem push_row {ops : Array Oper} {rest : List Oper} {o : Oper} {a : Act} {Q : Exit → Act → World → Prop} {w : World} (hgd : o.guard = none) (s x : Operand)
    (ho : o.op = .call { callee := .builtin .append, args := #[s, x], argTypes := #[24, 24] }) (base : Nat) (v : Value) (cl : List (List Int)) (hs : a.eval s = v) (hst : Cls w base v cl) (u : Value) (zs : List Int) (hu : RowI w base u zs)
    (hx : a.eval x = .slice (some ⟨w.heap.size, 0, none⟩) 1 1) (hlen : cl.length ≤ 1000000) (hbase : base ≤ w.heap.size)
    (h : ∀ v' w', Cls w' base v' (cl ++ [zs]) → Kr base w w' → wpList Try.prog ops Q rest (a.put o.dst v') w') : wpList Try.prog ops Q (o :: rest) a (w.alloc (.cells #[u] 22)) := by
  obtain ⟨vs, h1, h2⟩ := hst
  exact wpList_push_row hgd s x ho base v vs cl hs h1 h2 u zs hu hx (by rw [h2.1]; exact hlen) hbase fun v' vs' w' q1 q2 q3 => h v' w' ⟨vs', q1, q2⟩ q3
end Go.Proofs.Ytppgpafnifmmfaa
