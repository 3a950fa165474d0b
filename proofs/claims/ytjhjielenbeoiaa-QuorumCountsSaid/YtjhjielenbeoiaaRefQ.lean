/-
  What Valid, Most, Weak, Strong, Enough, Half, Add, Has, List, Size and All of the chapter of quorums return. No condition for sets; configurations of small numbers where they are specified for valid ones.
-/
import Derived.Test.YtjhjielenbeoiaaQm
import Derived.Test.YtjhjielenbeoiaaInts
namespace Go.Proofs.Ytjhjielenbeoiaa
open Go.ChangeShapes Go.WideShapes Go.ChangeAt Go.RowKit
open Dg (W B)
namespace Qm
/-- a number as a set -/
def qw (s : Int) : W := BitVec.ofInt 64 s
theorem qw_nat (s : Int) : ((qw s).toNat : Int) = s % 18446744073709551616 := by
  unfold qw
  rw [BitVec.toNat_ofInt]
  omega
theorem qw_uv (x : W) : qw (uv x) = x := by
  apply BitVec.eq_of_toNat_eq
  have h := qw_nat (uv x)
  have := x.isLt
  rw [show uv x % 18446744073709551616 = (x.toNat : Int) from by unfold uv; omega] at h
  omega
def hasI (s r : Int) : Bool := decide (0 ≤ r ∧ r < 16) && (qw s).getLsbD r.toNat
def low (x : W) : W := x &&& 65535#64
def add (x : W) (r : Int) : W := if 0 ≤ r ∧ r < 16 then low x ||| BitVec.ofNat 64 (2 ^ r.toNat) else low x
theorem low_lt (x : W) : (low x).toNat < 65536 := by
  unfold low
  rw [BitVec.toNat_and]
  exact Nat.lt_of_le_of_lt Nat.and_le_right (by decide)
theorem sixteen {k : Nat} (h : k < 16) : k = 0 ∨ k = 1 ∨ k = 2 ∨ k = 3 ∨ k = 4 ∨ k = 5 ∨ k = 6 ∨ k = 7 ∨ k = 8 ∨ k = 9 ∨ k = 10 ∨ k = 11 ∨ k = 12 ∨ k = 13 ∨ k = 14 ∨ k = 15 := by omega
theorem and_i64 (s : Int) (y : W) (hy : y.toNat < 9223372036854775808) : bits .and .i64 s (uv y) = uv (qw s &&& y) := by
  show IntKind.i64.wrap ((BitVec.ofInt 64 s &&& BitVec.ofInt 64 (uv y)).toNat : Int) = _
  have e : BitVec.ofInt 64 (uv y) = y := qw_uv y
  rw [e]
  have : (qw s &&& y).toNat ≤ y.toNat := by rw [BitVec.toNat_and]; exact Nat.and_le_right
  show IntKind.i64.wrap (((qw s &&& y).toNat : Nat) : Int) = ((qw s &&& y).toNat : Int)
  rw [IntKind.wrap_i64]
  omega
theorem or_i64 (x y : W) (h : (x ||| y).toNat < 9223372036854775808) : bits .or .i64 (uv x) (uv y) = uv (x ||| y) := by
  show IntKind.i64.wrap ((BitVec.ofInt 64 (uv x) ||| BitVec.ofInt 64 (uv y)).toNat : Int) = _
  rw [show BitVec.ofInt 64 (uv x) = x from qw_uv x, show BitVec.ofInt 64 (uv y) = y from qw_uv y]
  show IntKind.i64.wrap (((x ||| y).toNat : Nat) : Int) = ((x ||| y).toNat : Int)
  rw [IntKind.wrap_i64]
  omega
theorem bit_i64 (s : Int) (k : Nat) (hk : k < 16) : (bits .and .i64 (s / 2 ^ k) 1 == 1) = (qw s).getLsbD k := by
  have h1 : bits .and .i64 (s / 2 ^ k) 1 = uv (qw (s / 2 ^ k) &&& 1#64) := and_i64 (s / 2 ^ k) 1#64 (by decide)
  rw [h1]
  have h2 : (qw (s / 2 ^ k) &&& 1#64).toNat = (qw (s / 2 ^ k)).toNat % 2 := by
    rw [BitVec.toNat_and]
    exact Nat.and_one_is_mod _
  have h3 := qw_nat (s / 2 ^ k)
  have h4 := qw_nat s
  have h5 : (qw s).getLsbD k = decide ((qw s).toNat / 2 ^ k % 2 = 1) := by
    rw [← BitVec.testBit_toNat, Nat.testBit_eq_decide_div_mod_eq]
  rw [h5]
  unfold uv
  rw [h2, Bool.eq_iff_iff]
  simp only [beq_iff_eq, decide_eq_true_eq]
  have hp := sixteen hk
  rcases hp with rfl | rfl | rfl | rfl | rfl | rfl | rfl | rfl | rfl | rfl | rfl | rfl | rfl | rfl | rfl | rfl <;> simp only [Nat.reducePow, Int.reducePow] at h3 h4 ⊢ <;> omega
theorem pow_i64 (k : Nat) (hk : k < 16) : wrap64 ((2 : Int) ^ k) = uv (BitVec.ofNat 64 (2 ^ k)) := by
  have hp := sixteen hk
  rcases hp with rfl | rfl | rfl | rfl | rfl | rfl | rfl | rfl | rfl | rfl | rfl | rfl | rfl | rfl | rfl | rfl <;> (refine Eq.trans ?_ rfl; kernel_rfl)
theorem or_lt (x : W) (k : Nat) (hk : k < 16) : (low x ||| BitVec.ofNat 64 (2 ^ k)).toNat < 65536 := by
  rw [BitVec.toNat_or]
  refine Nat.or_lt_two_pow (n := 16) (low_lt x) ?_
  have hp := sixteen hk
  rcases hp with rfl | rfl | rfl | rfl | rfl | rfl | rfl | rfl | rfl | rfl | rfl | rfl | rfl | rfl | rfl | rfl <;> decide
/-- the list, as numbers -/
def lstI (x : W) (k : Nat) : List Int := (lst x k).map fun (i : Nat) => (i : Int)
theorem lstI_succ (x : W) (k : Nat) : lstI x (k + 1) = if x.getLsbD k then lstI x k ++ [(k : Int)] else lstI x k := by
  unfold lstI
  rw [lst]
  by_cases h : x.getLsbD k
  · rw [if_pos h, if_pos h, List.map_append]; rfl
  · rw [if_neg h, if_neg h]
theorem lstI_len (x : W) (k : Nat) : (lstI x k).length = (lst x k).length := by unfold lstI; rw [List.length_map]
theorem lst_le (x : W) (k : Nat) : (lst x k).length ≤ k := by rw [lst_len]; exact sum_le _ _
end Qm
def QListRel (x : W) (w : World) (v i : Value) (wr : World) : Prop := ∃ k : Nat, k ≤ 16 ∧ i = .int .i64 (k : Int) ∧ OwnI w.heap.size wr v (Qm.lstI x k) ∧ Below w.heap.size w wr
def cfg (N F : Int) : Value := .agg #[.int .i64 N, .int .i64 F]
def validB (N F : Int) : Bool := decide (1 ≤ N ∧ N ≤ 16 ∧ 0 ≤ F ∧ 3 * F + 1 ≤ N)
def small (N F : Int) : Prop := 1 ≤ N ∧ N ≤ 16 ∧ 0 ≤ F ∧ F ≤ 16
theorem all_uv (n : Nat) (h : n ≤ 16) : (uv (Qm.all n) : Int) = 2 ^ n - 1 ∧ wrap64 (wrap64 ((2 : Int) ^ n) - 1) = uv (Qm.all n) := by
  have hp : n = 16 ∨ n < 16 := by omega
  rcases hp with rfl | h
  · exact ⟨by kernel_rfl, by kernel_rfl⟩
  · rcases Qm.sixteen h with rfl | rfl | rfl | rfl | rfl | rfl | rfl | rfl | rfl | rfl | rfl | rfl | rfl | rfl | rfl | rfl <;> exact ⟨by kernel_rfl, by kernel_rfl⟩
end Go.Proofs.Ytjhjielenbeoiaa
