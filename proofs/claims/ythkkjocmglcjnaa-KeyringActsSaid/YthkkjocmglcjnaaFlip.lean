/-
  A word with one bit changed. No condition.
-/
import Derived.Test.YthkkjocmglcjnaaOpen
import Derived.Test.YthkkjocmglcjnaaGen
namespace Go.Proofs.Ythkkjocmglcjnaa
open Go.ChangeShapes Go.WideShapes Go.ChangeAt Go.RowKit
open Dg (W B)
/-- a word with one bit changed -/
def flip (s : W) (b : Nat) : W := s ^^^ (1#64 <<< b)
theorem flip_ne (s : W) (b : Nat) (h : b < 64) : flip s b ≠ s := by
  intro e
  have := congrArg (fun x : W => x.getLsbD b) e
  simp [flip, h] at this
theorem flip_int (s : W) (b : Nat) (h : b < 64) : bits .xor .u64 (uv s) (IntKind.u64.wrap ((2 : Int) ^ b)) = uv (flip s b) := by
  have hp : uv (1#64 <<< b) = (2 : Int) ^ b := by
    unfold uv
    have hlt : (2 : Nat) ^ b < 2 ^ 64 := (Nat.pow_lt_pow_iff_right (by decide)).2 h
    rw [BitVec.toNat_shiftLeft, Nat.shiftLeft_eq, show (1#64).toNat = 1 by decide, Nat.one_mul, Nat.mod_eq_of_lt hlt]
    simp
  rw [← hp, show IntKind.u64.wrap (uv (1#64 <<< b)) = uv (1#64 <<< b) from u64_in _ (BitVec.isLt _), uv_xor]; rfl
theorem word_ne {a b : W} (h : a ≠ b) : (uv a == uv b) = false := by rw [word_eq]; exact decide_eq_false h
theorem bit_of (a : Int) (h : (Lit.int .u8 a).wf = true) : ∃ b : Nat, a % 64 = b ∧ b < 64 := by
  have := bounds_u8 h
  exact ⟨(a % 64).toNat, by omega, by omega⟩
end Go.Proofs.Ythkkjocmglcjnaa
