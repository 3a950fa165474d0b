/-
  One-time signatures as plain mathematics: the 18 digits of a word, the steps of a chain, secrets, public keys, signatures and what they lead to; a signature leads to the public key, a changed element doesn't; of two words each has a digit that is less. No condition.
-/
import Derived.Test.YthkkjocmglcjnaaHex
namespace Go.Proofs.Ythkkjocmglcjnaa.Ot
open Dg (W listW nib)

/-! ### lists that differ in one place -/
theorem list_at {l : List W} {i : Nat} (hi : i < l.length) (x y : W) : listW (l.set i x) = listW (l.set i y) ↔ x = y := by
  have h := Dg.list_set (l.set i x) i y (by simpa using hi)
  rw [List.set_set] at h
  rw [h]
  constructor
  · intro e
    have := congrArg (fun m : List W => m.getD i 0) e
    simpa [List.getD, hi] using this
  · intro e; rw [e]
theorem list_3a (x y c p : W) : listW [x, c, p] = listW [y, c, p] ↔ x = y := list_at (l := [x, c, p]) (i := 0) (by simp) x y
theorem list_3c (x c p q : W) : listW [x, c, p] = listW [x, c, q] ↔ p = q := list_at (l := [x, c, p]) (i := 2) (by simp) p q

/-! ### digits -/
/-- the hexadecimal digit at place k, from above -/
def dig (d : W) (k : Nat) : Nat := nib d (15 - k)
theorem dig_lt (d : W) (k : Nat) : dig d k < 16 := Nat.mod_lt _ (by decide)
theorem dig_inj {a b : W} (h : ∀ k, k < 16 → dig a k = dig b k) : a = b := by
  have hn : ∀ p, p < 16 → nib a p = nib b p := fun p hp => by
    have := h (15 - p) (by omega)
    unfold dig at this
    rwa [show 15 - (15 - p) = p by omega] at this
  apply BitVec.eq_of_getLsbD_eq
  intro i hi
  have e := hn (i / 4) (by omega)
  unfold nib at e
  have t := congrArg (fun n : Nat => n.testBit (i % 4)) e
  simp only [show 16 = 2 ^ 4 from rfl, Nat.testBit_mod_two_pow, BitVec.toNat_ushiftRight, Nat.testBit_shiftRight, show i % 4 < 4 by omega, show 4 * (i / 4) + i % 4 = i by omega, decide_true, Bool.true_and] at t
  exact t
/-- the complement of the first k digits -/
def compTo (d : W) : Nat → Nat
  | 0 => 0
  | k + 1 => compTo d k + (15 - dig d k)
def comp (d : W) : Nat := compTo d 16
theorem compTo_le (d : W) (k : Nat) : compTo d k ≤ 15 * k := by
  induction k with
  | zero => exact Nat.le_refl _
  | succ k ih => show compTo d k + (15 - dig d k) ≤ _; omega
theorem comp_le (d : W) : comp d ≤ 240 := compTo_le d 16
theorem compTo_mono {a b : W} (k : Nat) (h : ∀ j, j < k → dig b j ≤ dig a j) : compTo a k ≤ compTo b k := by
  induction k with
  | zero => exact Nat.le_refl _
  | succ k ih =>
    have h1 := ih fun j hj => h j (by omega)
    have h2 := h k (by omega)
    show compTo a k + (15 - dig a k) ≤ compTo b k + (15 - dig b k)
    omega
theorem compTo_lt {a b : W} (k : Nat) (h : ∀ j, j < k → dig b j ≤ dig a j) (hx : ∃ j, j < k ∧ dig b j < dig a j) : compTo a k < compTo b k := by
  induction k with
  | zero => obtain ⟨j, hj, _⟩ := hx; omega
  | succ k ih =>
    have h1 := compTo_mono k fun j hj => h j (by omega)
    have h2 := h k (by omega)
    have ha := dig_lt a k
    show compTo a k + (15 - dig a k) < compTo b k + (15 - dig b k)
    obtain ⟨j, hj, hlt⟩ := hx
    by_cases e : j = k
    · subst e; omega
    · have := ih (fun j hj => h j (by omega)) ⟨j, by omega, hlt⟩
      omega
/-- the digit at place k of 18 -/
def digit (d : W) (k : Nat) : Nat := if k < 16 then dig d k else if k = 16 then comp d / 16 else comp d % 16
theorem digit_lt (d : W) (k : Nat) : digit d k < 16 := by
  have := comp_le d
  unfold digit
  split
  · exact dig_lt d k
  · split <;> omega
def digits (d : W) : List Nat := (List.range 18).map (digit d)
theorem digits_len (d : W) : (digits d).length = 18 := by simp [digits]
theorem digits_at (d : W) (k : Nat) (h : k < 18) : (digits d).getD k 0 = digit d k := by simp [digits, List.getD, h]
/-- of two words the first one has a digit that is less -/
theorem less {a b : W} (h : a ≠ b) : ∃ k, k < 18 ∧ digit a k < digit b k := by
  refine Classical.byContradiction fun hn => ?_
  have hge : ∀ k, k < 18 → digit b k ≤ digit a k := fun k hk => Nat.le_of_not_lt fun hlt => hn ⟨k, hk, hlt⟩
  have hd : ∀ k, k < 16 → dig b k ≤ dig a k := fun k hk => by
    have := hge k (by omega)
    simpa [digit, hk] using this
  have hx : ∃ j, j < 16 ∧ dig b j < dig a j := Classical.byContradiction fun hno => h (dig_inj fun k hk => by
    have h1 := hd k hk
    have h2 : ¬ dig b k < dig a k := fun hlt => hno ⟨k, hk, hlt⟩
    omega)
  have hc : comp a < comp b := compTo_lt 16 hd hx
  have h16 := hge 16 (by omega)
  have h17 := hge 17 (by omega)
  simp only [digit, show ¬ 16 < 16 by omega, show ¬ 17 < 16 by omega, if_false, if_true, show ¬ 17 = 16 by omega] at h16 h17
  omega

/-! ### chains -/
def step (x c p : W) : W := listW [x, c, p]
theorem step_inj {x y c p : W} : step x c p = step y c p ↔ x = y := list_3a x y c p
/-- n steps of the chain c from the position f on -/
def steps (x c : W) (f : Nat) : Nat → W
  | 0 => x
  | n + 1 => step (steps x c f n) c (BitVec.ofNat 64 (f + n))
theorem steps_inj {x y c : W} {f n : Nat} : steps x c f n = steps y c f n ↔ x = y := by
  induction n with
  | zero => rfl
  | succ n ih =>
    show step (steps x c f n) c _ = step (steps y c f n) c _ ↔ _
    rw [step_inj, ih]
theorem steps_add (x c : W) (f n m : Nat) : steps (steps x c f n) c (f + n) m = steps x c f (n + m) := by
  induction m with
  | zero => rfl
  | succ m ih =>
    show step (steps (steps x c f n) c (f + n) m) c _ = step (steps x c f (n + m)) c _
    rw [ih, show f + n + m = f + (n + m) by omega]; rfl

/-! ### keys and signatures -/
def secret (s c : W) : W := listW [s, 7#64, c]
theorem secret_seed {s t c : W} : secret s c = secret t c ↔ s = t := list_3a s t 7#64 c
theorem secret_chain {s c e : W} : secret s c = secret s e ↔ c = e := list_3c s 7#64 c e
def num (c : Nat) : W := BitVec.ofNat 64 c
def ends (s : W) : List W := (List.range 18).map fun c => steps (secret s (num c)) (num c) 0 15
def publicW (s : W) : W := listW (ends s)
def sign (s d : W) : List W := (List.range 18).map fun c => steps (secret s (num c)) (num c) 0 (digit d c)
theorem sign_len (s d : W) : (sign s d).length = 18 := by simp [sign]
theorem sign_at (s d : W) (c : Nat) (h : c < 18) : (sign s d).getD c 0 = steps (secret s (num c)) (num c) 0 (digit d c) := by simp [sign, List.getD, h]
/-- the ends that the elements of a list lead to -/
def lead (d : W) (l : List W) : List W := (List.range 18).map fun c => steps (l.getD c 0) (num c) (digit d c) (15 - digit d c)
def recover (d : W) (l : List W) : W := listW (lead d l)
theorem lead_len (d : W) (l : List W) : (lead d l).length = 18 := by simp [lead]
theorem lead_sign (s d : W) : lead d (sign s d) = ends s := by
  unfold lead ends
  apply List.map_congr_left
  intro c hc
  have hc' : c < 18 := List.mem_range.1 hc
  have hd := digit_lt d c
  rw [sign_at s d c hc']
  have := steps_add (secret s (num c)) (num c) 0 (digit d c) (15 - digit d c)
  rw [Nat.zero_add, show digit d c + (15 - digit d c) = 15 by omega] at this
  exact this
theorem recover_sign (s d : W) : recover d (sign s d) = publicW s := by unfold recover publicW; rw [lead_sign]
theorem lead_set (d : W) (l : List W) (i : Nat) (y : W) (hi : i < 18) (hl : l.length = 18) : lead d (l.set i y) = (lead d l).set i (steps y (num i) (digit d i) (15 - digit d i)) := by
  apply List.ext_getElem (by simp [lead])
  intro k h1 h2
  have hk : k < 18 := by simpa [lead] using h1
  by_cases e : k = i
  · subst e
    simp [lead, List.getD, hl, hk]
  · simp [lead, Ne.symm e, List.getD]
theorem recover_set (d : W) (l : List W) (i : Nat) (y : W) (hi : i < 18) (hl : l.length = 18) : recover d (l.set i y) = recover d l ↔ l.getD i 0 = y := by
  unfold recover
  rw [lead_set d l i y hi hl]
  have e : lead d l = (lead d l).set i (steps (l.getD i 0) (num i) (digit d i) (15 - digit d i)) := by
    apply List.ext_getElem (by simp)
    intro k h1 h2
    by_cases e : k = i
    · subst e; simp [lead]
    · simp [Ne.symm e]
  conv => lhs; rhs; rw [e]
  rw [list_at (by rw [lead_len]; exact hi), steps_inj]
  exact ⟨fun h => h.symm, fun h => h.symm⟩
/-- the signature of 0 shows the secrets of its digits alone -/
theorem digit_zero (c : Nat) (h : c < 18) : digit 0#64 c = if c = 16 then 15 else 0 := by
  have : ∀ c : Fin 18, digit 0#64 c.val = if c.val = 16 then 15 else 0 := by decide
  exact this ⟨c, h⟩
end Go.Proofs.Ythkkjocmglcjnaa.Ot
