/-
  Rolling dice, and which lists are light. Nothing that was there has changed. No condition.
-/
import Derived.Test.YtgkckomccabmlaaGreatDoorLmA
namespace Go.Proofs.YtgkckomccabmlaaGreatDoor
open Go.ChangeShapes Go.WideShapes Go.ChangeAt Go.RowKit
set_option linter.unusedVariables false
theorem light_any (v : Value) (l : List Int) (w : World) (hl : l.length ≤ maxLen) (hv : HasI w w.heap.size v l) :
    Calls Tryz.prog 8 #[v] w fun e w' => e = .returned (.bool (decide (l.length ≤ 600))) ∧ w = w' := by
  obtain ⟨a, c, rfl⟩ := hv.form
  obtain ⟨n, hn⟩ : ∃ n, n = l.length := ⟨_, rfl⟩
  rw [← hn] at hl ⊢
  clear hv hn
  go_enter Tryz.func8, Tryz.ntmps8
  go_wp2_with fail
  go_ret
  refine ⟨?_, rfl⟩
  simp; omega
theorem roll_any (v : Value) (l : List Int) (w : World) (hl : l.length ≤ 600) (hv : HasI w w.heap.size v l) (hw : ∀ x ∈ l, (Lit.int .i64 x).wf = true) :
    Calls Tryz.prog 10 #[v] w fun e w' => ∃ g, e = .returned (.pointer (some ⟨g, 0, none⟩)) ∧ g = w.heap.size ∧ IsDice w' g l 0 ∧ Below w.heap.size w w' := by
  obtain ⟨a, c, rfl⟩ := hv.form
  have DN := Lib.hid fun t => IsDice.new w _ l t hv hw (by omega)
  obtain ⟨n, hn⟩ : ∃ n, n = l.length := ⟨_, rfl⟩
  rw [← hn] at hl DN ⊢
  have HN := Lib.hid hn
  clear hv hn
  go_enter Tryz.func10, Tryz.ntmps10
  go_wp2_with fail
  go_ret
  exact ⟨_, rfl, rfl, DN.out _, (Below.refl _ _).alloc (Nat.le_refl _) _⟩
end Go.Proofs.YtgkckomccabmlaaGreatDoor
