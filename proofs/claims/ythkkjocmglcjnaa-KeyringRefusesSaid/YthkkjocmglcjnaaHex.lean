/-
  The text of a word as plain mathematics: 16 hexadecimal digits, the highest first; texts tell words apart. No condition.
-/
import Derived.Test.YthkkjocmglcjnaaDg
namespace Go.Proofs.Ythkkjocmglcjnaa.Dg

/-- the sign of a digit below 16 -/
def sign (n : Nat) : UInt8 := if n < 10 then UInt8.ofNat (48 + n) else UInt8.ofNat (87 + n)
/-- the digit of x at place p, from below -/
def nib (x : W) (p : Nat) : Nat := (x >>> (4 * p)).toNat % 16
/-- the lowest k digits, the highest of them first -/
def digs (x : W) : Nat → List UInt8
  | 0 => []
  | k + 1 => sign (nib x k) :: digs x k
def text (x : W) : List UInt8 := digs x 16
theorem digs_len (x : W) (k : Nat) : (digs x k).length = k := by
  induction k with
  | zero => rfl
  | succ k ih => show (digs x k).length + 1 = k + 1; rw [ih]
theorem digs_at (x : W) (k i : Nat) (h : i < k) : (digs x k)[i]? = some (sign (nib x (k - 1 - i))) := by
  induction k generalizing i with
  | zero => omega
  | succ k ih =>
    show (sign (nib x k) :: digs x k)[i]? = _
    cases i with
    | zero => rfl
    | succ i =>
      rw [List.getElem?_cons_succ, ih i (by omega)]
      congr 3
      omega
theorem nib_zero {x : W} {n p : Nat} (h : x >>> (4 * n) = 0) (hp : n ≤ p) : nib x p = 0 := by
  unfold nib
  have h' : x.toNat / 2 ^ (4 * n) = 0 := by
    have := congrArg BitVec.toNat h
    rwa [BitVec.toNat_ushiftRight, Nat.shiftRight_eq_div_pow] at this
  rw [BitVec.toNat_ushiftRight, Nat.shiftRight_eq_div_pow, show 4 * p = 4 * n + 4 * (p - n) by omega, Nat.pow_add, ← Nat.div_div_eq_div_mul, h', Nat.zero_div]
theorem digs_pad {x : W} {n : Nat} (h : x >>> (4 * n) = 0) : ∀ d, digs x (n + d) = List.replicate d 48 ++ digs x n
  | 0 => rfl
  | d + 1 => by
    show sign (nib x (n + d)) :: digs x (n + d) = _
    rw [digs_pad h d, nib_zero h (by omega), List.replicate_succ]
    rfl
theorem text_pad {x : W} {n : Nat} (h : x >>> (4 * n) = 0) (hn : n ≤ 16) : List.replicate (16 - n) 48 ++ digs x n = text x := by
  rw [← digs_pad h]; unfold text; congr 1; omega
theorem sign_inj {a b : Nat} (ha : a < 16) (hb : b < 16) (h : sign a = sign b) : a = b := by
  have : ∀ a : Fin 16, ∀ b : Fin 16, sign a.val = sign b.val → a.val = b.val := by decide
  exact this ⟨a, ha⟩ ⟨b, hb⟩ h
theorem text_inj {x y : W} : text x = text y ↔ x = y := by
  refine ⟨fun h => ?_, fun h => by rw [h]⟩
  have hn : ∀ p, p < 16 → nib x p = nib y p := by
    intro p hp
    have e := congrArg (fun l : List UInt8 => l[15 - p]?) h
    simp only [text] at e
    rw [digs_at x 16 _ (by omega), digs_at y 16 _ (by omega)] at e
    have e' := Option.some.inj e
    rw [show 16 - 1 - (15 - p) = p by omega] at e'
    exact sign_inj (Nat.mod_lt _ (by decide)) (Nat.mod_lt _ (by decide)) e'
  apply BitVec.eq_of_getLsbD_eq
  intro i hi
  have e := hn (i / 4) (by omega)
  unfold nib at e
  have t := congrArg (fun n : Nat => n.testBit (i % 4)) e
  simp only [show 16 = 2 ^ 4 from rfl, Nat.testBit_mod_two_pow, BitVec.toNat_ushiftRight, Nat.testBit_shiftRight, show i % 4 < 4 by omega, show 4 * (i / 4) + i % 4 = i by omega, decide_true, Bool.true_and] at t
  exact t
end Go.Proofs.Ythkkjocmglcjnaa.Dg
