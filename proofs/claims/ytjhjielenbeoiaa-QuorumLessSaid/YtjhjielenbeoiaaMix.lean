/-
  What Mix of package digest and of the chapter returns for any word: its mix; the memory stays as it was. No condition.
-/
import Derived.Test.YtjhjielenbeoiaaRows
import Derived.Test.YtjhjielenbeoiaaDg
import Derived.WalkKit
import Derived.ProofKit
import Derived.Handy
import Derived.Laws.BitsAll
import Derived.IntWalk
import Derived.Laws.ShiftsVar
import Derived.Lib.Hide
namespace Go.Proofs.Ytjhjielenbeoiaa
open Go.ChangeShapes Go.WideShapes Go.ChangeAt Go.RowKit
open Dg (W B)

/-- a word as an integer -/
def uv (x : W) : Int := (x.toNat : Int)
theorem uv_lo (x : W) : 0 ≤ uv x := by unfold uv; omega
theorem uv_hi (x : W) : uv x < 18446744073709551616 := by unfold uv; have := x.isLt; omega


theorem u64_wrap_n (n : Nat) : IntKind.u64.wrap (n : Int) = ((n % 18446744073709551616 : Nat) : Int) := by
  rw [IntKind.wrap_u64]; omega
theorem u64_in (n : Nat) (h : n < 18446744073709551616) : IntKind.u64.wrap (n : Int) = (n : Int) := by
  rw [u64_wrap_n, Nat.mod_eq_of_lt h]
theorem uv_nat (x : W) : (BitVec.ofInt 64 (uv x)).toNat = x.toNat := by
  unfold uv; rw [BitVec.ofInt_natCast, BitVec.toNat_ofNat]; exact Nat.mod_eq_of_lt x.isLt
theorem uv_xor (x y : W) : bits .xor .u64 (uv x) (uv y) = uv (x ^^^ y) := by
  show IntKind.u64.wrap ((BitVec.ofInt 64 (uv x) ^^^ BitVec.ofInt 64 (uv y)).toNat : Int) = _
  rw [BitVec.toNat_xor, uv_nat, uv_nat, ← BitVec.toNat_xor, u64_in _ (BitVec.isLt _)]; rfl
theorem uv_or (x y : W) : bits .or .u64 (uv x) (uv y) = uv (x ||| y) := by
  show IntKind.u64.wrap ((BitVec.ofInt 64 (uv x) ||| BitVec.ofInt 64 (uv y)).toNat : Int) = _
  rw [BitVec.toNat_or, uv_nat, uv_nat, ← BitVec.toNat_or, u64_in _ (BitVec.isLt _)]; rfl
theorem uv_and (x y : W) : bits .and .u64 (uv x) (uv y) = uv (x &&& y) := by
  show IntKind.u64.wrap ((BitVec.ofInt 64 (uv x) &&& BitVec.ofInt 64 (uv y)).toNat : Int) = _
  rw [BitVec.toNat_and, uv_nat, uv_nat, ← BitVec.toNat_and, u64_in _ (BitVec.isLt _)]; rfl
theorem uv_mul (x y : W) (c : Int) (h : c = uv y) : IntKind.u64.wrap (uv x * c) = uv (x * y) := by
  subst h
  unfold uv
  rw [BitVec.toNat_mul, ← Int.natCast_mul, u64_wrap_n]
theorem uv_add (x y : W) (c : Int) (h : c = uv y) : IntKind.u64.wrap (uv x + c) = uv (x + y) := by
  subst h
  unfold uv
  rw [BitVec.toNat_add, ← Int.natCast_add, u64_wrap_n]
theorem uv_shr (x : W) (k : Nat) (c : Int) (h : c = ((2 ^ k : Nat) : Int)) : uv x / c = uv (x >>> k) := by
  subst h
  unfold uv
  rw [BitVec.toNat_ushiftRight, Nat.shiftRight_eq_div_pow, Int.natCast_ediv]
theorem uv_inj {x y : W} : uv x = uv y ↔ x = y := by
  unfold uv
  rw [Int.natCast_inj]
  exact ⟨BitVec.eq_of_toNat_eq, fun h => by rw [h]⟩
theorem uv_eq (x y : W) : (uv x == uv y) = (x == y) := by
  rw [Bool.eq_iff_iff, beq_iff_eq, beq_iff_eq, uv_inj]
theorem uv_ofNat (n : Nat) (h : n < 18446744073709551616) : uv (BitVec.ofNat 64 n) = (n : Int) := by
  unfold uv; rw [BitVec.toNat_ofNat, Nat.mod_eq_of_lt h]
/-- every number of 64 bits is a word's -/
theorem uv_of (n : Int) (h0 : 0 ≤ n) (h1 : n < 18446744073709551616) : ∃ x : W, n = uv x :=
  ⟨BitVec.ofNat 64 n.toNat, by rw [uv_ofNat _ (by omega)]; omega⟩
theorem mix_int (x : W) : bits .xor .u64 (IntKind.u64.wrap (bits .xor .u64 (IntKind.u64.wrap (uv x * 11400714819323198485)) (IntKind.u64.wrap (uv x * 11400714819323198485) / 4294967296) * 15485907386658061715))
    (IntKind.u64.wrap (bits .xor .u64 (IntKind.u64.wrap (uv x * 11400714819323198485)) (IntKind.u64.wrap (uv x * 11400714819323198485) / 4294967296) * 15485907386658061715) / 536870912) = uv (Dg.mix x) := by
  rw [uv_mul x 0x9e3779b97f4a7c15#64 _ (by decide), uv_shr _ 32 _ (by decide), uv_xor, uv_mul _ 0xd6e8feb86659fd93#64 _ (by decide), uv_shr _ 29 _ (by decide), uv_xor]
  rfl
/-! ### pairs -/
end Go.Proofs.Ytjhjielenbeoiaa
