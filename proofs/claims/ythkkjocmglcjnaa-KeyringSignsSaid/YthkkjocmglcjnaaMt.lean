/-
  Trees of digests as plain mathematics: the first part of n leaves, the root, the path of a leaf, its depth, where a leaf leads to with a path; each leaf leads to the root with its path; changes are noticed. No condition.
-/
import Derived.Test.YthkkjocmglcjnaaDg
namespace Go.Proofs.Ythkkjocmglcjnaa.Mt
open Dg (W pairW)

/-! ### the first part -/
def part (n : Nat) : Nat := 2 ^ Nat.log2 (n - 1)
theorem part_pos (n : Nat) : 1 ≤ part n := Nat.one_le_two_pow
theorem part_lt {n : Nat} (h : 2 ≤ n) : part n < n := by
  have := Nat.log2_self_le (n := n - 1) (by omega)
  unfold part; omega
theorem part_half {n : Nat} (h : 2 ≤ n) : n ≤ 2 * part n := by
  have := Nat.lt_log2_self (n := n - 1)
  unfold part
  rw [Nat.pow_succ] at this
  omega
theorem pow_between {a b : Nat} (h1 : 2 ^ a < 2 * 2 ^ b) (h2 : 2 ^ b < 2 * 2 ^ a) : a = b := by
  rw [← Nat.pow_succ'] at h1 h2
  have := (Nat.pow_lt_pow_iff_right (by decide : 1 < 2)).1 h1
  have := (Nat.pow_lt_pow_iff_right (by decide : 1 < 2)).1 h2
  omega
theorem part_is {n j : Nat} (h1 : 2 ^ j < n) (h2 : n ≤ 2 * 2 ^ j) : part n = 2 ^ j := by
  have h3 : 2 ≤ n := by have := Nat.one_le_two_pow (n := j); omega
  have h4 := part_lt h3
  have h5 := part_half h3
  unfold part at h4 h5 ⊢
  rw [pow_between (a := Nat.log2 (n - 1)) (b := j) (by omega) (by omega)]

/-! ### the root -/
def root : List W → W
  | [] => 0
  | [x] => x
  | x :: y :: l => pairW (root ((x :: y :: l).take (part (l.length + 2)))) (root ((x :: y :: l).drop (part (l.length + 2))))
termination_by l => l.length
decreasing_by
  · have := part_lt (n := l.length + 2) (by omega); simp; omega
  · have := part_pos (l.length + 2); simp; omega
theorem root_nil : root [] = 0 := by unfold root; rfl
theorem root_one (x : W) : root [x] = x := by unfold root; rfl
theorem root_two {l : List W} (h : 2 ≤ l.length) : root l = pairW (root (l.take (part l.length))) (root (l.drop (part l.length))) := by
  match l, h with
  | x :: y :: l, _ => rw [root]; rfl

/-! ### depth, path, and where a leaf leads to: the path is read from the root down -/
def depth (n i : Nat) : Nat := if _h : 2 ≤ n then (if i < part n then depth (part n) i else depth (n - part n) (i - part n)) + 1 else 0
termination_by n
decreasing_by
  · exact part_lt _h
  · have := part_pos n; omega
theorem depth_one {n : Nat} (h : ¬ 2 ≤ n) (i : Nat) : depth n i = 0 := by rw [depth, dif_neg h]
theorem depth_l {n i : Nat} (h : 2 ≤ n) (hi : i < part n) : depth n i = depth (part n) i + 1 := by rw [depth, dif_pos h, if_pos hi]
theorem depth_r {n i : Nat} (h : 2 ≤ n) (hi : ¬ i < part n) : depth n i = depth (n - part n) (i - part n) + 1 := by rw [depth, dif_pos h, if_neg hi]
/-- the path from the root down -/
def down (l : List W) (i : Nat) : List W :=
  if _h : 2 ≤ l.length then (if i < part l.length then root (l.drop (part l.length)) :: down (l.take (part l.length)) i else root (l.take (part l.length)) :: down (l.drop (part l.length)) (i - part l.length)) else []
termination_by l.length
decreasing_by
  · have := part_lt _h; simp; omega
  · have := part_pos l.length; simp; omega
theorem down_one {l : List W} (h : ¬ 2 ≤ l.length) (i : Nat) : down l i = [] := by rw [down, dif_neg h]
theorem down_l {l : List W} {i : Nat} (h : 2 ≤ l.length) (hi : i < part l.length) : down l i = root (l.drop (part l.length)) :: down (l.take (part l.length)) i := by rw [down, dif_pos h, if_pos hi]
theorem down_r {l : List W} {i : Nat} (h : 2 ≤ l.length) (hi : ¬ i < part l.length) : down l i = root (l.take (part l.length)) :: down (l.drop (part l.length)) (i - part l.length) := by rw [down, dif_pos h, if_neg hi]
/-- the path from the leaf up -/
def path (l : List W) (i : Nat) : List W := (down l i).reverse
def lead (n i : Nat) (x : W) : List W → W
  | [] => x
  | t :: p => if i < part n then pairW (lead (part n) i x p) t else pairW t (lead (n - part n) (i - part n) x p)
def up (n i : Nat) (x : W) (p : List W) : W := lead n i x p.reverse

theorem down_len (l : List W) (i : Nat) : (down l i).length = depth l.length i := by
  generalize hn : l.length = n
  induction n using Nat.strongRecOn generalizing l i with
  | ind n ih =>
    by_cases h : 2 ≤ n
    · by_cases hi : i < part n
      · rw [down_l (by omega) (by rw [hn]; exact hi), depth_l h hi, List.length_cons, hn, ih (part n) (part_lt h) _ _ (by have := part_lt h; simp; omega)]
      · rw [down_r (by omega) (by rw [hn]; exact hi), depth_r h hi, List.length_cons, hn, ih (n - part n) (by have := part_pos n; omega) _ _ (by simp; omega)]
    · rw [down_one (by omega), depth_one h]; rfl
theorem path_len (l : List W) (i : Nat) : (path l i).length = depth l.length i := by rw [path, List.length_reverse, down_len]
theorem lead_down (l : List W) (i : Nat) (hi : i < l.length) : lead l.length i (l.getD i 0) (down l i) = root l := by
  generalize hn : l.length = n
  rw [hn] at hi
  induction n using Nat.strongRecOn generalizing l i with
  | ind n ih =>
    by_cases h : 2 ≤ n
    · have hp := part_lt h
      have hp1 := part_pos n
      by_cases hk : i < part n
      · rw [down_l (by omega) (by rw [hn]; exact hk), lead, if_pos hk, root_two (l := l) (by omega), hn]
        rw [← ih (part n) hp (l.take (part n)) i hk (by simp; omega)]
        congr 2
        simp [List.getD, hk]
      · rw [down_r (by omega) (by rw [hn]; exact hk), lead, if_neg hk, root_two (l := l) (by omega), hn]
        rw [← ih (n - part n) (by omega) (l.drop (part n)) (i - part n) (by omega) (by simp; omega)]
        congr 2
        simp [List.getD, List.getElem?_drop, show part n + (i - part n) = i by omega]
    · rw [down_one (by omega), lead]
      match l, hn with
      | [x], hx =>
        obtain rfl : i = 0 := by have : 1 = n := hx; omega
        rw [root_one]; rfl
      | [], hn => simp at hn; omega
      | _ :: _ :: _, hn => simp at hn; omega
theorem up_path (l : List W) (i : Nat) (hi : i < l.length) : up l.length i (l.getD i 0) (path l i) = root l := by
  rw [up, path, List.reverse_reverse]; exact lead_down l i hi

/-! ### changes -/
theorem lead_inj (n i : Nat) (x y : W) (p : List W) : lead n i x p = lead n i y p ↔ x = y := by
  induction p generalizing n i with
  | nil => rfl
  | cons t p ih =>
    unfold lead
    split
    · rw [Dg.pair_l, ih]
    · rw [Dg.pair_r, ih]
theorem up_inj (n i : Nat) (x y : W) (p : List W) : up n i x p = up n i y p ↔ x = y := lead_inj n i x y _
theorem lead_set (n i : Nat) (x : W) (p : List W) (k : Nat) (y : W) (hk : k < p.length) : lead n i x (p.set k y) = lead n i x p ↔ y = p.getD k 0 := by
  induction p generalizing n i k with
  | nil => simp at hk
  | cons t p ih =>
    cases k with
    | zero =>
      show lead n i x (y :: p) = _ ↔ y = t
      unfold lead
      split
      · rw [Dg.pair_r]
      · rw [Dg.pair_l]
    | succ k =>
      show lead n i x (t :: p.set k y) = _ ↔ y = p.getD k 0
      unfold lead
      have hk' : k < p.length := by simpa using hk
      split
      · rw [Dg.pair_l, ih _ _ _ hk']
      · rw [Dg.pair_r, ih _ _ _ hk']
theorem up_set (n i : Nat) (x : W) (p : List W) (k : Nat) (y : W) (hk : k < p.length) : up n i x (p.set k y) = up n i x p ↔ y = p.getD k 0 := by
  have e : (p.set k y).reverse = p.reverse.set (p.length - 1 - k) y := by
    apply List.ext_getElem?
    intro j
    by_cases hj : j < p.length
    · rw [List.getElem?_reverse (by simpa using hj), List.length_set, List.getElem?_set, List.getElem?_set, List.getElem?_reverse hj]
      by_cases e : k = p.length - 1 - j
      · rw [if_pos e, if_pos (by omega), if_pos (by omega), if_pos (by simp; omega)]
      · rw [if_neg e, if_neg (by omega)]
    · rw [List.getElem?_eq_none (by simp; omega), List.getElem?_eq_none (by simp; omega)]
  have e2 : p.reverse.getD (p.length - 1 - k) 0 = p.getD k 0 := by
    rw [List.getD, List.getD, List.getElem?_reverse (by omega), show p.length - 1 - (p.length - 1 - k) = k by omega]
  unfold up
  rw [e, lead_set _ _ _ _ _ _ (by simp; omega), e2]
/-- the path of a leaf doesn't hang on this leaf -/
theorem down_set (l : List W) (i : Nat) (x : W) (hi : i < l.length) : down (l.set i x) i = down l i := by
  generalize hn : l.length = n
  rw [hn] at hi
  induction n using Nat.strongRecOn generalizing l i with
  | ind n ih =>
    by_cases h : 2 ≤ n
    · have hp := part_lt h
      have hp1 := part_pos n
      have hs : (l.set i x).length = n := by simpa using hn
      by_cases hk : i < part n
      · rw [down_l (l := l.set i x) (by omega) (by rw [hs]; exact hk), down_l (l := l) (by omega) (by rw [hn]; exact hk), hs, hn]
        have e1 : (l.set i x).drop (part n) = l.drop (part n) := List.drop_set_of_lt hk
        have e2 : (l.set i x).take (part n) = (l.take (part n)).set i x := by rw [List.take_set]
        rw [e1, e2, ih (part n) hp _ _ hk (by simp; omega)]
      · rw [down_r (l := l.set i x) (by omega) (by rw [hs]; exact hk), down_r (l := l) (by omega) (by rw [hn]; exact hk), hs, hn]
        have e1 : (l.set i x).take (part n) = l.take (part n) := List.take_set_of_le (by omega)
        have e2 : (l.set i x).drop (part n) = (l.drop (part n)).set (i - part n) x := by rw [List.drop_set, if_neg (by omega)]
        rw [e1, e2, ih (n - part n) (by omega) _ _ (by omega) (by simp; omega)]
    · rw [down_one (by simp; omega), down_one (by omega)]
theorem root_set (l : List W) (i : Nat) (x : W) (hi : i < l.length) : root (l.set i x) = root l ↔ l = l.set i x := by
  have h1 := up_path l i hi
  have h2 := up_path (l.set i x) i (by simpa using hi)
  rw [path, down_set l i x hi, ← path, List.length_set] at h2
  rw [← h1, ← h2, up_inj]
  have e : (l.set i x).getD i 0 = x := by simp [List.getD, hi]
  rw [e]
  constructor
  · intro h; rw [h]; simp [List.getD, hi]
  · intro h
    have := congrArg (fun m : List W => m.getD i 0) h
    simp only [e] at this
    exact this.symm

/-! ### how deep -/
theorem part_pow (j : Nat) : part (2 ^ (j + 1)) = 2 ^ j := part_is (by rw [Nat.pow_succ]; have := Nat.one_le_two_pow (n := j); omega) (by rw [Nat.pow_succ]; omega)
theorem depth_pow (j : Nat) : depth (2 ^ j) 0 = j := by
  induction j with
  | zero => exact depth_one (by decide) 0
  | succ j ih =>
    have h := Nat.one_le_two_pow (n := j)
    rw [depth_l (by rw [Nat.pow_succ]; omega) (by rw [part_pow]; omega), part_pow, ih]
theorem depth_zero {n m : Nat} (h1 : 2 ^ m < n) (h2 : n ≤ 2 ^ (m + 1)) : depth n 0 = m + 1 := by
  have h := Nat.one_le_two_pow (n := m)
  have e : part n = 2 ^ m := part_is h1 (by rw [Nat.pow_succ] at h2; omega)
  rw [depth_l (by omega) (by rw [e]; omega), e, depth_pow]
theorem depth_le {n i m : Nat} (hi : i < n) (h : n ≤ 2 ^ m) : depth n i ≤ m := by
  induction n using Nat.strongRecOn generalizing i m with
  | ind n ih =>
    by_cases h2 : 2 ≤ n
    · have hp := part_lt h2
      have hp1 := part_pos n
      have hh := part_half h2
      cases m with
      | zero => rw [Nat.pow_zero] at h; omega
      | succ m =>
        have hq : part n ≤ 2 ^ m := by
          have h3 : 2 ^ Nat.log2 (n - 1) < 2 ^ (m + 1) := Nat.lt_of_lt_of_le hp h
          have h4 := (Nat.pow_lt_pow_iff_right (by decide : 1 < 2)).1 h3
          exact Nat.pow_le_pow_right (by decide) (by omega)
        by_cases hk : i < part n
        · rw [depth_l h2 hk]
          have := ih (part n) hp hk hq
          omega
        · rw [depth_r h2 hk]
          have := @ih (n - part n) (by omega) (i - part n) m (by omega) (by omega)
          omega
    · rw [depth_one h2]; omega
theorem depth_pos {n i : Nat} (h : 2 ≤ n) : 1 ≤ depth n i := by
  by_cases hk : i < part n
  · rw [depth_l h hk]; omega
  · rw [depth_r h hk]; omega
/-! ### two halves -/
theorem path_first {l : List W} {j i : Nat} (h : l.length = 2 ^ (j + 1)) (hi : i < 2 ^ j) : path l i = path (l.take (2 ^ j)) i ++ [root (l.drop (2 ^ j))] := by
  have h1 := Nat.one_le_two_pow (n := j)
  unfold path
  rw [down_l (l := l) (by rw [h, Nat.pow_succ]; omega) (by rw [h, part_pow]; exact hi), h, part_pow, List.reverse_cons]
theorem path_second {l : List W} {j i : Nat} (h : l.length = 2 ^ (j + 1)) (hi : ¬ i < 2 ^ j) : path l i = path (l.drop (2 ^ j)) (i - 2 ^ j) ++ [root (l.take (2 ^ j))] := by
  have h1 := Nat.one_le_two_pow (n := j)
  unfold path
  rw [down_r (l := l) (by rw [h, Nat.pow_succ]; omega) (by rw [h, part_pow]; exact hi), h, part_pow, List.reverse_cons]
theorem root_halves {l : List W} {j : Nat} (h : l.length = 2 ^ (j + 1)) : root l = pairW (root (l.take (2 ^ j))) (root (l.drop (2 ^ j))) := by
  have h1 := Nat.one_le_two_pow (n := j)
  rw [root_two (l := l) (by rw [h, Nat.pow_succ]; omega), h, part_pow]
/-- leaves of data -/
def leafW (i : W) (d : W) : W := pairW i d
end Go.Proofs.Ythkkjocmglcjnaa.Mt
