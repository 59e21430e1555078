/- Calls that make a row each, inside a region that draws its order, and the conversions of the rows: one step at a time. -/
import Derived.Test.YtnebjihjfghlfaaFew
import Derived.Deep.RegionWith
namespace Go.Proofs.Ytnebjihjfghlfaa
open Go.ChangeShapes Go.WideShapes Go.ChangeAt Go.RowKit

/-- A row that a call in the world W has made, as the conversion to a string sees it in W' and behind a few draws. -/
structure Cv (A : Option Addr) (n c : Nat) (bs : List Nat) (w : World) : Prop where
  r : Rd w.heap.size w A bs
  l : bs.length = n
  c0 : (convert 22 9 (.slice A n c)).run Try.prog w = .ok (.string (str bs)) w
theorem Cv.mk' {A : Option Addr} {n : Nat} (c : Nat) {bs : List Nat} {w : World} (r : Rd w.heap.size w A bs) (l : bs.length = n) : Cv A n c bs w :=
  ⟨r, l, conv_str w.heap.size A n c bs _ r l⟩
theorem Cv.go {A : Option Addr} {n c : Nat} {bs : List Nat} {w W' : World} (h : Cv A n c bs w) (hb : Below w.heap.size w W') : Cv A n c bs W' :=
  Cv.mk' c ((h.r.below hb (Nat.le_refl _)).more hb.size) h.l
def Fin (W : World) (A : Option Addr) (n c : Nat) (bs : List Nat) (W' : World) : Prop := Cv A n c bs W' ∧ Below W.heap.size W W'
theorem fin_of {W W' : World} {v : Value} {bs : List Nat} {n : Nat} (hr : Row W' W.heap.size v bs) (hb : Below W.heap.size W W') (hl : bs.length = n) : ∃ A c, v = .slice A n c ∧ Fin W A n c bs W' := by
  obtain ⟨A, c, hv, _, _, h⟩ := hr.shape
  rw [hl] at hv
  exact ⟨A, c, hv, Cv.mk' c h hl, hb⟩

/-- One operation of a drawn region that yields in whatever world, taken now; the slot of its answer is named. -/
theorem take_now {P : Program} {md : Region.Mode} {ops : Array Oper} {Q : Exit → Act → World → Prop} {i : Nat} (d : Option Tmp) {oi : Oper} {v : Value} {fuel : Nat} {listed : Array Bool} {a : Act} {w : World} (hi : ops[i]? = some oi)
    (hs : Region.noSelect ops = true) (hf : Region.free md ops listed i = true) (hr : (Region.ready md ops listed).contains i = true)
    (hQ : ∀ c a w, Q (.panic c) (a.put oi.dst v) w → Q (.panic c) a w) (hy : Yields P ops oi v a) (hd : oi.dst = d)
    (h : wpAny P md ops Q fuel (listed.setIfInBounds i true) (a.put d v) w) : wpAny P md ops Q (fuel + 1) listed a w := by
  subst hd
  exact wpAny_take hi hs hf hr hQ hy h

end Go.Proofs.Ytnebjihjfghlfaa
