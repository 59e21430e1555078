/- A range over a function whose iterator keeps state of its own in cells: one law for loops whose body never leaves early. The iterator and the body share one invariant over a ghost state. Over any program. -/
import Derived.RangeFuncNested
import Derived.RangeFuncBound
import Derived.RangeFuncCalls
import Derived.RangeFuncLeaves
import Derived.Shelf.Abstract
import Derived.Shelf.RegionOpen
import Derived.WalkKit
import Derived.OwnWalkIn
import Derived.TacticsInMore
import Derived.LoopNIn
import Derived.LoopIn
namespace Go.Proofs.Ytnebjihjfghlfaa
open Go.RowKit Go.Shelf
section
variable {F : Fence} {n : Nat} {P : Program}

/-- The body falls off its end, and G holds there. -/
def fallsOff (G : World → Prop) : Exit → Act → World → Prop
  | .normal, _, W' => G W'
  | _, _, _ => False

theorem wpIn_range_joint {σ α : Type} {g : Operand} {ps : Array Tmp} {assign body : Code} {Q : Exit → Act → World → Prop} {a : Act} {w : World}
    (hro : F.round = none) (h1 : 1 ≤ n) {gf : Nat} {lb : Array Value} (hg : a.eval g = .func (.func gf) #[] lb) (hFg : F.fn gf) (eg : ∀ args w, (callFunc gf args).run P w = .ok (.enter gf args) w)
    (encs : α → Array Value) (hps : ∀ x, (encs x).size = ps.size)
    (I : σ → World → Prop) (hI : OwnFrom w.heap.size I) (s₀ : σ) (h0 : I s₀ w) (Y : σ → α → Prop) (nx : σ → α → σ) (Fin : σ → Prop) (a₁ : α → Act)
    (hassign : ∀ (l : Nat) (x : α) (W : World) (K : Act → World → Prop), K (a₁ x) W →
      assign.wpIn (F.inRound l) (n - 1 - 1) P (Exit.then K (fun _ _ _ => False)) { tmps := (ps.zip (encs x)).foldl (fun t (p, v) => t.setIfInBounds p v) a.tmps, defers := [] } W)
    (hbody : ∀ (l : Nat) (s : σ) (x : α) (W : World), I s W → Y s x → body.wpIn (F.inRound l) (n - 1 - 1) P (fallsOff fun W' => KeepsFrom w.heap.size W W' ∧ I (nx s x) W') (a₁ x) W)
    (hiter : ∀ (l : Nat) (J : σ → World → Prop), (∀ s W, J s W → I s W) → (∀ s s' W W', J s W → I s' W' → KeepsFrom w.heap.size W W' → J s' W') →
      (∀ s x W, J s W → Y s x → YieldAt F (n - 1 - 1) P l (encs x) W fun e W' => e = .returned (.bool true) ∧ J (nx s x) W') →
      ∀ W, J s₀ W → CallsIn F (n - 1) P gf (#[.func (.yield l) #[] #[]] ++ lb) W fun e W' => (∃ v, e = .returned v) ∧ ∃ s, Fin s ∧ J s W')
    (hdone : ∀ (D : Nat) (s : σ) (W : World), w.heap.size ≤ D → Fin s → I s W → W.heap[D]? = some (.deferred (some [])) → Q .normal { a with defers := { target := .collected D, args := #[] } :: a.defers } W) :
    (Code.rangeFunc g ps assign body).wpIn F n P Q a w := by
  refine wpIn_rangeFunc ?_
  intro fn hfn
  rw [hro]
  let rec0 : Loop := { state := .ready, pending := none, fn, tmps := a.tmps, params := ps, assign, body, defers := w.heap.size }
  let W1 : World := (w.alloc (.deferred (some []))).alloc (.loop rec0)
  have hsz : W1.heap.size = w.heap.size + 2 := by simp [W1]
  have hL1 : W1.heap[w.heap.size + 1]? = some (.loop rec0) := by
    have := World.alloc_heap_new (w.alloc (.deferred (some []))) (.loop rec0)
    rwa [World.size_alloc] at this
  have hK1 : W1.heap[w.heap.size]? = some (.deferred (some [])) := (Below.heap_alloc _ _ _ (by simp)).trans (World.alloc_heap_new w _)
  have hI1 : I s₀ W1 := hI.alloc _ (hI.alloc _ h0)
  refine ⟨w.heap.size + 1, [{ target := .collected w.heap.size, args := #[] }], W1, { target := .fn (.func gf) lb, args := #[.func (.yield (w.heap.size + 1)) #[] #[]] }, W1, gf,
    #[.func (.yield (w.heap.size + 1)) #[] #[]] ++ lb, W1, run_enterLoop_outer _ _ _ _ _, ?_, ?_, ?_, fun _ => h1, ?_⟩
  · simp only [resolve, hg]
    simp [go_sem]
  · intro f' hf'
    simp [Target.leads] at hf'
    subst hf'
    exact hFg
  · simp [invoke, go_sem, eg]
  · let J : σ → World → Prop := fun s W => I s W ∧ W.heap[w.heap.size + 1]? = some (.loop rec0) ∧ W.heap[w.heap.size]? = some (.deferred (some []))
    have hround : ∀ s x W, J s W → Y s x → YieldAt F (n - 1 - 1) P (w.heap.size + 1) (encs x) W fun e W' => e = .returned (.bool true) ∧ J (nx s x) W' := by
      rintro s x W ⟨hi, hl, hk⟩ hY
      have hlt : w.heap.size + 1 < W.heap.size := (Array.getElem?_eq_some_iff.1 hl).1
      refine ⟨fn, _, assign, body, run_yield (P := P) (args := encs x) hl (hps x), roundIn_of_wpIn hfn (hassign _ x W _ ⟨_, run_beginRound hl rfl, ?_⟩)⟩
      let W2 : World := W.putObj (w.heap.size + 1) (.loop { rec0 with state := .busy })
      have hl2 : W2.heap[w.heap.size + 1]? = some (.loop { rec0 with state := .busy }) := World.putObj_heap_same hlt
      have hk2 : W2.heap[w.heap.size]? = some (.deferred (some [])) := (World.putObj_heap_other (by omega)).trans hk
      refine wpIn_mono (hbody _ s x W2 (hI.putObj _ hi (by omega) hl rfl) hY) ?_
      rintro e a3 W3 hp
      cases e with
      | normal =>
        obtain ⟨hkeep, hi3⟩ := hp
        have hl3 := hkeep.same _ _ (by omega) hl2 rfl
        have hk3 := hkeep.same _ _ (Nat.le_refl _) hk2 rfl
        exact ⟨_, _, run_endRound none hl3, rfl, hI.putObj _ hi3 (by omega) hl3 rfl, World.putObj_heap_same (Array.getElem?_eq_some_iff.1 hl3).1, (World.putObj_heap_other (by omega)).trans hk3⟩
      | ret => exact hp.elim
      | exit id => exact hp.elim
      | goto t => exact hp.elim
      | panic ch => exact hp.elim
      | outgrown => exact hp.elim
    have hmove : ∀ s s' W W', J s W → I s' W' → KeepsFrom w.heap.size W W' → J s' W' := by
      rintro s s' W W' ⟨_, hl, hk⟩ hi hkeep
      exact ⟨hi, hkeep.same _ _ (by omega) hl rfl, hkeep.same _ _ (Nat.le_refl _) hk rfl⟩
    refine (hiter (w.heap.size + 1) J (fun s W h => h.1) hmove hround W1 ⟨hI1, hL1, hK1⟩).mono ?_
    rintro e W2 ⟨⟨v, rfl⟩, s, hF, hi, hl, hk⟩
    exact ⟨none, _, run_endLoop (P := P) hl (by simp [rec0]), hdone _ s _ (Nat.le_refl _) hF (hI.putObj _ hi (by omega) hl rfl) ((World.putObj_heap_other (by omega)).trans hk)⟩
end
end Go.Proofs.Ytnebjihjfghlfaa
