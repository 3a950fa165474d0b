/-
  Rings of one-time keys as plain mathematics: the seeds of keys, their leaves, the root, what a signature leads to; a signature leads to the root, a changed one doesn't; the one pair of digests of the sanity check. No condition.
-/
import Derived.Test.YthkkjocmglcjnaaOt
import Derived.Test.YthkkjocmglcjnaaMt
namespace Go.Proofs.Ythkkjocmglcjnaa.Kr
open Dg (W listW pairW)

def seed (s k : W) : W := listW [s, 9#64, k]
def leafOf (k : Nat) (p : W) : W := pairW (Ot.num k) p
def leaf (s : W) (k : Nat) : W := leafOf k (Ot.publicW (seed s (Ot.num k)))
def leaves (s : W) (n : Nat) : List W := (List.range n).map (leaf s)
theorem leaves_len (s : W) (n : Nat) : (leaves s n).length = n := by simp [leaves]
theorem leaves_at (s : W) (n k : Nat) (h : k < n) : (leaves s n).getD k 0 = leaf s k := by simp [leaves, List.getD, h]
theorem leaves_succ (s : W) (n : Nat) : leaves s (n + 1) = leaves s n ++ [leaf s n] := by simp [leaves, List.range_succ]
def root (s : W) (n : Nat) : W := Mt.root (leaves s n)
def path (s : W) (n k : Nat) : List W := Mt.path (leaves s n) k
theorem path_len (s : W) (n k : Nat) : (path s n k).length = Mt.depth n k := by rw [path, Mt.path_len, leaves_len]
def chains (s : W) (k : Nat) (d : W) : List W := Ot.sign (seed s (Ot.num k)) d
/-- what a signature leads to -/
def top (n k : Nat) (d : W) (c p : List W) : W := Mt.up n k (leafOf k (Ot.recover d c)) p
theorem leafOf_inj {k : Nat} {p q : W} : leafOf k p = leafOf k q ↔ p = q := Dg.pair_r
/-- a signature leads to the root -/
theorem top_sign (s : W) (n k : Nat) (d : W) (h : k < n) : top n k d (chains s k d) (path s n k) = root s n := by
  unfold top chains path root
  rw [Ot.recover_sign]
  have := Mt.up_path (leaves s n) k (by rw [leaves_len]; exact h)
  rw [leaves_len, leaves_at s n k h] at this
  exact this
/-- chains lead to the root just if they lead to the public key -/
theorem top_root (s : W) (n k : Nat) (d : W) (c : List W) (h : k < n) : top n k d c (path s n k) = root s n ↔ Ot.recover d c = Ot.publicW (seed s (Ot.num k)) := by
  rw [← top_sign s n k d h]
  unfold top chains
  rw [Mt.up_inj, leafOf_inj, Ot.recover_sign]
/-- with one changed chain -/
theorem top_chain (s : W) (n k : Nat) (d : W) (i : Nat) (y : W) (h : k < n) (hi : i < 18) : top n k d ((chains s k d).set i y) (path s n k) = root s n ↔ (chains s k d).getD i 0 = y := by
  rw [top_root s n k d _ h, ← Ot.recover_sign (seed s (Ot.num k)) d]
  exact Ot.recover_set d _ i y hi (Ot.sign_len _ _)
/-- with one changed element of the path -/
theorem top_path (s : W) (n k : Nat) (d : W) (i : Nat) (y : W) (h : k < n) (hi : i < (path s n k).length) : top n k d (chains s k d) ((path s n k).set i y) = root s n ↔ y = (path s n k).getD i 0 := by
  rw [← top_sign s n k d h]
  exact Mt.up_set _ _ _ _ _ _ hi
/-- one key alone, and two -/
theorem root_1 (s : W) : root s 1 = leaf s 0 := Mt.root_one _
theorem root_2 (s : W) : root s 2 = pairW (leaf s 0) (leaf s 1) := by
  show Mt.root [leaf s 0, leaf s 1] = _
  have e : Mt.part 2 = 1 := by decide
  rw [Mt.root_two (l := [leaf s 0, leaf s 1]) (Nat.le_refl 2)]
  show pairW (Mt.root (List.take (Mt.part 2) _)) (Mt.root (List.drop (Mt.part 2) _)) = _
  rw [e]
  show pairW (Mt.root [leaf s 0]) (Mt.root [leaf s 1]) = _
  rw [Mt.root_one, Mt.root_one]
/-- the pair of digests of the sanity check -/
theorem other : (Ot.recover 8#64 (Ot.sign (seed 3#64 (Ot.num 0)) 9#64) == Ot.publicW (seed 3#64 (Ot.num 0))) = false := by kernel_rfl
theorem top_other : top 2 0 8#64 (chains 3#64 0 9#64) (path 3#64 2 0) ≠ root 3#64 2 := by
  rw [Ne, top_root 3#64 2 0 8#64 _ (by decide)]
  intro h
  have := other
  rw [show chains 3#64 0 9#64 = Ot.sign (seed 3#64 (Ot.num 0)) 9#64 from rfl] at h
  rw [h] at this
  simp at this
end Go.Proofs.Ythkkjocmglcjnaa.Kr
