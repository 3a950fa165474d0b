/-
  What Of of package digest and of the chapter return for any slice of bytes: the digest of its bytes; the memory stays as it was. Condition: the slice is shorter than 2^62.
-/
import Derived.Test.YtjhjielenbeoiaaMix
import Derived.Deep.LoopGhost
import Derived.Outline
namespace Go.Proofs.Ytjhjielenbeoiaa
open Go.ChangeShapes Go.WideShapes Go.ChangeAt Go.RowKit
open Dg (W B)

/-- a byte as an integer -/
def bv (x : B) : Int := (x.toNat : Int)
theorem bv_lo (x : B) : 0 ≤ bv x := by unfold bv; omega
theorem bv_hi (x : B) : bv x < 256 := by unfold bv; have := x.isLt; omega
theorem bv_shl (x : B) (k : Nat) : IntKind.u64.wrap (bv x * 2 ^ k) = uv (x.setWidth 64 <<< k) := by
  unfold bv uv
  rw [BitVec.toNat_shiftLeft, BitVec.toNat_setWidth, Nat.mod_eq_of_lt (show x.toNat < 2 ^ 64 by have := x.isLt; omega), Nat.shiftLeft_eq, show ((2 : Int) ^ k) = ((2 ^ k : Nat) : Int) by simp, ← Int.natCast_mul, u64_wrap_n]
theorem bv_of (n : Int) (h : (Lit.int .u8 n).wf = true) : ∃ x : B, n = bv x := by
  have := bounds_u8 h
  exact ⟨BitVec.ofNat 8 n.toNat, by unfold bv; rw [BitVec.toNat_ofNat]; omega⟩
theorem bv_inj {x y : B} : bv x = bv y ↔ x = y := by
  unfold bv
  rw [Int.natCast_inj]
  exact ⟨BitVec.eq_of_toNat_eq, fun h => by rw [h]⟩

theorem bv_conv (x : B) : IntKind.u64.wrap (bv x) = bv x := by
  unfold bv; rw [u64_in]; have := x.isLt; omega
theorem word_step (l : List B) (k : Nat) (x : Int) (h : x = bv (l.getD k 0)) (m : Int) (hm : m = (2 : Int) ^ (8 * k)) :
    bits .or .u64 (uv (Dg.wordTo l k)) (IntKind.u64.wrap (IntKind.u64.wrap x * m)) = uv (Dg.wordTo l (k + 1)) := by
  subst h; subst hm
  rw [bv_conv, bv_shl, uv_or]; rfl

def WordRel (l : List B) (v i : Value) : Prop := ∃ k : Nat, k ≤ l.length ∧ i = .int .i64 k ∧ v = .int .u64 (uv (Dg.wordTo l k))

/-- the value v is a slice whose bytes are l, in blocks below N -/
def HasB (w : World) (N : Nat) (v : Value) (l : List B) : Prop :=
  (∃ a cap, v = .slice a 0 cap ∧ l = []) ∨ ∃ b off cap, v = .slice (some ⟨b, off, none⟩) l.length cap ∧ l.length ≤ cap ∧ b < N ∧ ∀ i, i < l.length → w.cell? ⟨b, off + i, none⟩ = some (.int .u8 (bv (l.getD i 0)))

/-- the bytes of the word number j -/
theorem chunk_get (l : List B) (j i : Nat) (h : i < ((l.drop (8 * j)).take 8).length) : ((l.drop (8 * j)).take 8).getD i 0 = l.getD (8 * j + i) 0 := by
  have h' : i < 8 ∧ 8 * j + i < l.length := by simp at h; omega
  simp [List.getD, h'.1, List.getElem?_drop]
def OfRel (l : List B) (b off : Nat) (v h : Value) : Prop :=
  ∃ (j : Nat) (a : Option Addr) (n cap : Nat), n = l.length - 8 * j ∧ 8 * j < l.length + 8 ∧ v = .slice a n cap ∧ n ≤ cap ∧ (0 < n → a = some ⟨b, off + 8 * j, none⟩) ∧ h = .int .u64 (uv (Dg.ofTo l j))
def lenOf (v : Value) : Nat := match v with | .slice _ n _ => n | _ => 0
end Go.Proofs.Ytjhjielenbeoiaa
