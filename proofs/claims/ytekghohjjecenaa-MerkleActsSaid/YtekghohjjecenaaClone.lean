/-
  What is known behind an append of a slice's elements to nil: a copy of its own. No condition.
-/
import Derived.Test.YtekghohjjecenaaMAwake
namespace Go.Proofs.Ytekghohjjecenaa
open Go.ChangeShapes Go.WideShapes Go.ChangeAt Go.RowKit
open Dg (W B)
theorem clone_facts {w0 w w4 : World} {t : TypeId} {vals : List Value} {n cap1 g1 : Nat} (hb : Below w0.heap.size w0 w)
    (own : w4.ownsRow w0.heap.size t 1 (.slice (some ⟨g1, 0, none⟩) n cap1) n vals) (grow : w.grownBy w4 (Value.slice none 0 0).ownBlock) :
    Below w0.heap.size w0 w4 ∧ w0.heap.size ≤ g1 ∧ g1 < w4.heap.size ∧ n ≤ cap1 ∧ (∀ i, i < n → w4.cell? ⟨g1, i, none⟩ = vals[i]?) ∧ ∀ i, w4.frozen? ⟨g1, i, none⟩ = false := by
  have h1 := own.lt g1 rfl
  refine ⟨hb.grown grow hb.size (fun k hk => by simp [Value.ownBlock] at hk), h1.1, h1.2, ?_, fun i hi => own.cellAt i (by omega), fun i => own.frozenAt i⟩
  rcases own.2 with ⟨hv, _⟩ | ⟨g, c, cur, hv, hgb, hg, hle, hmx, hsz, htake⟩
  · cases hv
  · simp only [Value.slice.injEq] at hv
    omega
end Go.Proofs.Ytekghohjjecenaa
