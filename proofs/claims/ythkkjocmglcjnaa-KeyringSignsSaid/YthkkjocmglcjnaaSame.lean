/-
  What Same of the chapter returns for any two slices of digests: whether the lists are equal; the memory stays as it was. Condition: the lists are shorter than 2^62.
-/
import Derived.Test.YthkkjocmglcjnaaGen
namespace Go.Proofs.Ythkkjocmglcjnaa
open Go.ChangeShapes Go.WideShapes Go.ChangeAt Go.RowKit
open Dg (W B)
theorem same_len (a a' : Option Addr) (n n' cap cap' : Nat) (w : World) (h : n ≠ n') :
    Calls Try.prog 27 #[.slice a n cap, .slice a' n' cap'] w fun e w' => e = .returned (.bool false) ∧ w = w' := by
  have q : ((n : Int) != (n' : Int)) = true := by rw [bne_iff_ne]; omega
  go_enter Try.func27, Try.ntmps27
  go_wp2
  go_ret
  exact ⟨rfl, rfl⟩
theorem same_zero (a a' : Option Addr) (cap cap' : Nat) (w : World) :
    Calls Try.prog 27 #[.slice a 0 cap, .slice a' 0 cap'] w fun e w' => e = .returned (.bool true) ∧ w = w' := by
  go_enter Try.func27, Try.ntmps27
  go_wp2
  refine wp_loop_rounds 1 ?_
  rw [rounds_succ]
  go_wp2
  go_ret
  exact ⟨rfl, rfl⟩
theorem same_any (l m : List W) (N M : Nat) (v u : Value) (w : World) (hl : l.length ≤ 4611686018427387904) (h : HasW w N v l) (h' : HasW w M u m) :
    Calls Try.prog 27 #[v, u] w fun e w' => e = .returned (.bool (decide (l = m))) ∧ w = w' := by
  by_cases e : l.length = m.length
  · by_cases h0 : l.length = 0
    · obtain rfl : l = [] := List.length_eq_zero_iff.1 h0
      obtain rfl : m = [] := List.length_eq_zero_iff.1 e.symm
      obtain ⟨a, c, rfl⟩ := h.form
      obtain ⟨a', c', rfl⟩ := h'.form
      exact same_zero a a' c c' w
    · rcases h with ⟨a, cap, rfl, rfl⟩ | ⟨b, off, cap, rfl, h2, h3, h4⟩
      · exact absurd rfl h0
      · rcases h' with ⟨a', cap', rfl, rfl⟩ | ⟨b', off', cap', rfl, g2, g3, g4⟩
        · exact absurd e h0
        · exact same_some l m b off cap b' off' cap' w hl e h4 g4
  · obtain ⟨a, c, rfl⟩ := h.form
    obtain ⟨a', c', rfl⟩ := h'.form
    rw [decide_eq_false (fun h => e (by rw [h]))]
    exact same_len a a' _ _ c c' w e
end Go.Proofs.Ythkkjocmglcjnaa
