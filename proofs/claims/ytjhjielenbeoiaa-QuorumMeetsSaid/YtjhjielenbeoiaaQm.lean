/-
  Sets of replicas as words of bits: what is in them, how many, lists. No condition.
-/
import Derived.Test.YtjhjielenbeoiaaGen
namespace Go.Proofs.Ytjhjielenbeoiaa
open Go.ChangeShapes Go.WideShapes Go.ChangeAt Go.RowKit
open Dg (W B)
namespace Qm
/-- the sixteen places -/
def lst (x : W) : Nat → List Nat
  | 0 => []
  | k + 1 => if x.getLsbD k then lst x k ++ [k] else lst x k
def cnt (x : W) : Nat := (lst x 16).length
/-- a place's share of the count -/
def one (b : Bool) : Nat := if b then 1 else 0
def sumTo (f : Nat → Bool) : Nat → Nat
  | 0 => 0
  | k + 1 => sumTo f k + one (f k)
theorem lst_len (x : W) (k : Nat) : (lst x k).length = sumTo (fun i => x.getLsbD i) k := by
  induction k with
  | zero => rfl
  | succ k ih =>
    unfold lst sumTo one
    by_cases h : x.getLsbD k
    · rw [if_pos h, List.length_append, ih]; simp [h]
    · rw [if_neg h, ih]; simp [h]
theorem cnt_sum (x : W) : cnt x = sumTo (fun i => x.getLsbD i) 16 := lst_len x 16
theorem sum_le (f : Nat → Bool) (k : Nat) : sumTo f k ≤ k := by
  induction k with
  | zero => exact Nat.le_refl _
  | succ k ih => unfold sumTo one; split <;> omega
theorem cnt_le (x : W) : cnt x ≤ 16 := by rw [cnt_sum]; exact sum_le _ _
/-- what holds place by place holds of the sums -/
theorem sum_four {f g h l : Nat → Bool} (H : ∀ i, one (f i) + one (g i) ≤ one (h i) + one (l i)) (k : Nat) : sumTo f k + sumTo g k ≤ sumTo h k + sumTo l k := by
  induction k with
  | zero => exact Nat.le_refl _
  | succ k ih => have := H k; unfold sumTo; omega
theorem sum_mono {f g : Nat → Bool} (H : ∀ i, one (f i) ≤ one (g i)) (k : Nat) : sumTo f k ≤ sumTo g k := by
  induction k with
  | zero => exact Nat.le_refl _
  | succ k ih => have := H k; unfold sumTo; omega
def all (n : Nat) : W := BitVec.ofNat 64 (2 ^ n - 1)
theorem all_bit (n i : Nat) (hi : i < 64) : (all n).getLsbD i = decide (i < n) := by
  unfold all
  rw [BitVec.getLsbD_ofNat, Nat.testBit_two_pow_sub_one]
  simp [hi]
theorem sum_lt (n : Nat) : ∀ k, sumTo (fun i => decide (i < n)) k = min n k
  | 0 => by simp [sumTo]
  | k + 1 => by
    unfold sumTo one
    rw [sum_lt n k]
    by_cases h : k < n
    · simp [h]; omega
    · simp [h]; omega
theorem sum_congr {f g : Nat → Bool} (k : Nat) (H : ∀ i, i < k → f i = g i) : sumTo f k = sumTo g k := by
  induction k with
  | zero => rfl
  | succ k ih => unfold sumTo; rw [ih fun i hi => H i (by omega), H k (by omega)]
theorem cnt_all (n : Nat) (hn : n ≤ 16) : cnt (all n) = n := by
  rw [cnt_sum, sum_congr 16 (fun i hi => all_bit n i (by omega)), sum_lt]; omega
/-- two sets within the first n places have at least so many places in common -/
theorem cnt_meet (a b : W) (n : Nat) (hn : n ≤ 16) : cnt (a &&& all n) + cnt (b &&& all n) ≤ cnt ((a &&& all n) &&& (b &&& all n)) + n := by
  have h : cnt (a &&& all n) + cnt (b &&& all n) ≤ cnt ((a &&& all n) &&& (b &&& all n)) + cnt (all n) := by
    simp only [cnt_sum]
    refine sum_four (fun i => ?_) 16
    simp only [BitVec.getLsbD_and]
    cases a.getLsbD i <;> cases b.getLsbD i <;> cases (all n).getLsbD i <;> decide
  rw [cnt_all n hn] at h
  exact h
/-- what is left without some others -/
theorem cnt_less (a l : W) (n : Nat) : cnt (a &&& all n) ≤ cnt ((a &&& all n) &&& ~~~ (l &&& all n)) + cnt (l &&& all n) := by
  simp only [cnt_sum]
  have h := sum_four (f := fun i => (a &&& all n).getLsbD i) (g := fun _ => false) (h := fun i => ((a &&& all n) &&& ~~~ (l &&& all n)).getLsbD i) (l := fun i => (l &&& all n).getLsbD i) (fun i => by
    simp only [BitVec.getLsbD_and, BitVec.getLsbD_not]
    by_cases hi : i < 64
    · simp only [hi, decide_true, Bool.true_and]
      cases a.getLsbD i <;> cases l.getLsbD i <;> cases (all n).getLsbD i <;> decide
    · have : a.getLsbD i = false := BitVec.getLsbD_of_ge _ _ (by omega)
      simp only [this, Bool.false_and]
      cases l.getLsbD i <;> cases (all n).getLsbD i <;> simp [one]) 16
  have h0 : sumTo (fun _ => false) 16 = 0 := by decide
  omega
end Qm
end Go.Proofs.Ytjhjielenbeoiaa
