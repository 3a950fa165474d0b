/-
  An argument that is a list of numbers, opened. No condition.
-/
import Derived.Test.YtgkckomccabmlaaGreatDoorLmA
namespace Go.Proofs.YtgkckomccabmlaaGreatDoor
open Go.ChangeShapes Go.WideShapes Go.ChangeAt Go.RowKit
theorem open_intl {H : Type} {enc : TypeId × Value → H} {P : Program} {w : World} {t e : TypeId} {a : Option Addr} {len cap : Nat} {d : DataW H} {p : List MemPlace} (ht : P.underlying t = some (.slice e)) (he : P.underlying e = some (.int .i64)) (hc : P.cellsOf e = 1)
    (h : DataW.Trod enc P w 0 (fun _ => true) true t (.slice a len cap) d p) : ∃ l : List Int, l.length = len ∧ (len ≤ maxLen ∧ ∀ n ∈ l, (Lit.int .i64 n).wf = true) ∧ HasI w w.heap.size (.slice a len cap) l := by
  obtain ⟨h1, h2, h3⟩ := ints_at ht he hc h
  rcases h3 with rfl | ⟨b, off, zs, rfl, rfl, h4, h5, h6⟩
  · exact ⟨[], rfl, ⟨Nat.zero_le _, by simp⟩, .inl ⟨a, cap, rfl, rfl⟩⟩
  · exact ⟨zs, rfl, ⟨by omega, h6⟩, .inr ⟨b, off, cap, rfl, h1, h4, h5⟩⟩
end Go.Proofs.YtgkckomccabmlaaGreatDoor
