/-
  What Of of the chapter returns for any slice of bytes: the digest of its bytes; the memory stays as it was. Condition: the slice is shorter than 2^62.
-/
import Derived.Test.YtjhjielenbeoiaaOf
namespace Go.Proofs.Ytjhjielenbeoiaa
open Go.ChangeShapes Go.WideShapes Go.ChangeAt Go.RowKit
open Dg (W B)

def chunk (l : List B) (q : Nat) : List B := (l.drop (8 * q)).take 8
theorem chunk_len (l : List B) (q : Nat) : (chunk l q).length = min 8 (l.length - 8 * q) := by simp [chunk]
def ROfRel (l : List B) (h i : Value) : Prop := ∃ q : Nat, 8 * q < l.length + 8 ∧ i = .int .i64 (8 * q : Nat) ∧ h = .int .u64 (uv (Dg.ofTo l q))
def RWordRel (l : List B) (q : Nat) (x j : Value) : Prop := ∃ k : Nat, k ≤ (chunk l q).length ∧ j = .int .i64 (8 * q + k : Nat) ∧ x = .int .u64 (uv (Dg.wordTo (chunk l q) k))
end Go.Proofs.Ytjhjielenbeoiaa
