/-
  A slice of digests; what Same and Mod of the chapter return; the memory stays as it was. Condition: the slices are shorter than 2^62.
-/
import Derived.Test.YtjhjielenbeoiaaOf
namespace Go.Proofs.Ytjhjielenbeoiaa
open Go.ChangeShapes Go.WideShapes Go.ChangeAt Go.RowKit
open Dg (W B)

/-- the value v is a slice whose digests are l, in blocks below N -/
def HasW (w : World) (N : Nat) (v : Value) (l : List W) : Prop :=
  (∃ a cap, v = .slice a 0 cap ∧ l = []) ∨ ∃ b off cap, v = .slice (some ⟨b, off, none⟩) l.length cap ∧ l.length ≤ cap ∧ b < N ∧ ∀ i, i < l.length → w.cell? ⟨b, off + i, none⟩ = some (.int .u64 (uv (l.getD i 0)))
/-! ### Mod of the chapter: the remainder that is not negative -/
theorem mod_pos (n m : Int) (w : World) (hn : (Lit.int .i64 n).wf = true) (h1 : 1 ≤ m) (h2 : m ≤ 4611686018427387904) :
    Calls Try.prog 20 #[.int .i64 n, .int .i64 m] w fun e w' => e = .returned (.int .i64 (n % m)) ∧ w = w' := by
  have hb := bounds_i64 hn
  have b1 := Int.lt_tmod_of_pos n (show 0 < m by omega)
  have b2 := Int.tmod_lt_of_pos n (show 0 < m by omega)
  have e : (n.tmod m + m) % m = n % m := by
    rw [Int.add_emod_right]
    have h := Int.tmod_add_mul_tdiv n m
    rw [← Int.add_mul_emod_self_left (n.tmod m) m (n.tdiv m), h]
  have E := Lib.hid e; clear e
  go_enter Try.func20, Try.ntmps20
  go_wp2
  go_ret
  exact ⟨congrArg (fun x => Ending.returned (Value.int .i64 x)) E.out, rfl⟩

/-! ### Same of the chapter -/
def SameRel (l m : List W) (i : Value) : Prop := ∃ k : Nat, k ≤ l.length ∧ i = .int .i64 k ∧ ∀ j, j < k → l.getD j 0 = m.getD j 0
theorem same_all {l m : List W} (h : l.length = m.length) (hs : ∀ j, j < l.length → l.getD j 0 = m.getD j 0) : l = m := by
  apply List.ext_getElem h
  intro k h1 h2
  simpa [List.getD, h1, h2] using hs k h1
theorem same_test (l m : List W) (k : Nat) (h1 : k < l.length) (h2 : k < m.length) : (uv m[k] != uv l[k]) = !decide (l.getD k 0 = m.getD k 0) := by
  have g1 : l.getD k 0 = l[k] := by simp [h1]
  have g2 : m.getD k 0 = m[k] := by simp [h2]
  rw [g1, g2, bne, uv_eq, Bool.eq_iff_iff]
  simp only [Bool.not_eq_true', beq_eq_false_iff_ne, decide_eq_false_iff_not]
  exact ⟨fun h e => h e.symm, fun h e => h e.symm⟩
end Go.Proofs.Ytjhjielenbeoiaa
