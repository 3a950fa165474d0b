/-
  Decimal numerals, texts of messages, strings joined. Each says its own conditions; nothing that was there has changed.
-/
import Derived.Test.YtojomdlbijlgjaaDoorShelf
import Derived.Test.YtojomdlbijlgjaaDoorLmB
import Derived.Test.YtojomdlbijlgjaaDoorRefVal
import Derived.Test.YtojomdlbijlgjaaDoorLmA
namespace Go.Proofs.YtojomdlbijlgjaaDoor
open Go.ChangeShapes Go.WideShapes Go.ChangeAt Go.RowKit
open Dg (W B)
/-- a numeral -/
def istr (n : Int) : ByteArray := ⟨(Lib.itoa n).toArray⟩
theorem nDig_le : ∀ k u, u < 10 ^ (k + 1) → Lib.nDigits u ≤ k + 1
  | 0, u, h => by rw [Lib.nDigits_small (by simpa using h)]; omega
  | k + 1, u, h => by
    by_cases h1 : u < 10
    · rw [Lib.nDigits_small h1]; omega
    · rw [Lib.nDigits_big h1]
      have := nDig_le k (u / 10) (Nat.div_lt_of_lt_mul (by rw [Nat.mul_comm]; exact h))
      omega
theorem istr_size {n : Int} (h : Cd.InR n) : (istr n).size ≤ 30 := by
  have hd : ∀ u, u < 100000000000000000000 → (Lib.decDigits u).length ≤ 20 := fun u hu => by rw [Lib.decDigits_length]; exact nDig_le 19 u hu
  unfold Cd.InR at h
  show ((Lib.itoa n).toArray).size ≤ 30
  rw [List.size_toArray]
  unfold Lib.itoa
  split
  · have := hd n.natAbs (by omega)
    rw [List.length_cons]; omega
  · have := hd n.toNat (by omega)
    omega
theorem itoa_any (n : Int) (w : World) (hn : Cd.InR n) (ht : Tab w) :
    Calls Tryd.prog 39 #[.int .i64 n] w fun e w' => e = .returned (.string (istr n)) ∧ Below w.heap.size w w' := by
  refine (Tryd.strconv_Itoa n hn.1 hn.2 w ht.pow).mono ?_
  rintro e w' ⟨rfl, k, os, rfl⟩
  refine ⟨rfl, ⟨rfl, rfl, rfl, ?_, fun i hi => ?_⟩⟩
  · show w.heap.size ≤ (w.heap ++ os).size
    rw [Array.size_append]; omega
  · show (w.heap ++ os)[i]? = _
    rw [Array.getElem?_append_left (by omega)]
end Go.Proofs.YtojomdlbijlgjaaDoor
namespace Go.Proofs.YtojomdlbijlgjaaDoor
open Go.ChangeShapes Go.WideShapes Go.ChangeAt Go.RowKit
open Dg (W B)
open Ms (Msg)
namespace Ms
end Ms
namespace Ms
def c1 (x : UInt8) : ByteArray := { data := #[x] }
/-- the text up to the instance, and what follows -/
def text0 (kn : Nat) (epoch inst : Int) : ByteArray := name kn ++ { data := #[40] } ++ istr epoch ++ { data := #[44] } ++ istr inst
def more (b : Bool) (s : ByteArray) (n : Int) : ByteArray := bif b then s ++ ({ data := #[44] } ++ istr n) else s
def text (kn : Nat) (epoch inst round bit : Int) : ByteArray := more (fBit kn) (more (fRound kn) (text0 kn epoch inst) round) bit ++ { data := #[41] }
theorem name_size (k : Nat) : (name k).size ≤ 20 := by
  rcases Nat.lt_or_ge k 13 with h | h
  · rcases (show k = 0 ∨ k = 1 ∨ k = 2 ∨ k = 3 ∨ k = 4 ∨ k = 5 ∨ k = 6 ∨ k = 7 ∨ k = 8 ∨ k = 9 ∨ k = 10 ∨ k = 11 ∨ k = 12 by omega) with rfl | rfl | rfl | rfl | rfl | rfl | rfl | rfl | rfl | rfl | rfl | rfl | rfl <;> decide
  · unfold name
    rw [show nameL.getD k [] = [] from by simp [List.getD, nameL, h]]
    decide
end Ms
theorem rfields_any (k : Int) (h : 1 ≤ k ∧ k ≤ 12) (w : World) :
    Calls Tryd.prog 18 #[.int .i64 k] w fun e w' => e = .returned (.tuple #[.bool (Ms.fRound k), .bool (Ms.fBit k), .bool (Ms.fRoot k), .bool (Ms.fLen k), .bool (Ms.fData k), .bool (Ms.fPath k)]) ∧ w = w' := by
  rcases (show k = 1 ∨ k = 2 ∨ k = 3 ∨ k = 12 ∨ k = 4 ∨ k = 5 ∨ k = 6 ∨ k = 7 ∨ k = 8 ∨ k = 9 ∨ k = 10 ∨ k = 11 by omega) with rfl | rfl | rfl | rfl | rfl | rfl | rfl | rfl | rfl | rfl | rfl | rfl
  · exact rfields_d _ (by omega) w
  · exact rfields_d _ (by omega) w
  · exact rfields_d _ (by omega) w
  · exact rfields_d _ (by omega) w
  · exact rfields_p _ (by omega) w
  · exact rfields_p _ (by omega) w
  · exact rfields_l _ (by omega) w
  · exact rfields_v _ (by omega) w
  · exact rfields_v _ (by omega) w
  · exact rfields_c _ (by omega) w
  · exact rfields_n _ (by omega) w
  · exact rfields_t _ (by omega) w
/-- the text of a message -/
def Ms.of (m : Msg) : ByteArray := if m.kind < 1 ∨ 12 < m.kind then ByteArray.empty else Ms.text m.kind.toNat m.epoch m.inst m.round m.bit
end Go.Proofs.YtojomdlbijlgjaaDoor
