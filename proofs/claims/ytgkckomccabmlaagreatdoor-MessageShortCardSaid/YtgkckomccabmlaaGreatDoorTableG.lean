/-
  From what a row of layer 9 lists: the library's table of powers of ten and the program's table of kinds hold what they are laid with; and a world for the witness.
-/
import Derived.Test.YtgkckomccabmlaaGreatDoorCards
import Derived.Test.YtgkckomccabmlaaGreatDoorTie
import Derived.Test.YtgkckomccabmlaaGreatDoorLmE
import Derived.Test.YtgkckomccabmlaaGreatDoorLmA
import Derived.WalkKit
import Derived.ProofKit
import Derived.OpenShut
import Derived.Deep.DeepHandedRow
import Derived.Lib.LaidTab
import Derived.Stop.LaidErr
namespace Go.Proofs.YtgkckomccabmlaaGreatDoor
open Go.ChangeShapes Go.WideShapes Go.ChangeAt Go.RowKit

theorem own : ownKnob Tryz.prog.godebug = none := by kernel_rfl
theorem gPowType : (Tryz.prog.globals[1]?).map (·.type) = some 180 := by kernel_rfl
theorem cellsPow : Tryz.prog.cellsOf 180 = 20 := by kernel_rfl
theorem cellsWord : Tryz.prog.cellsOf 22 = 1 := by kernel_rfl
theorem gKinds : Tryz.prog.globalNamed "asyncbft/message.kinds" = some 0 := by kernel_rfl
theorem gKindsType : (Tryz.prog.globals[0]?).map (·.type) = some 75 := by kernel_rfl
theorem cellsTraits : Tryz.prog.cellsOf 74 = 2 := by kernel_rfl
theorem cellsStr1 : Tryz.prog.cellsOf 9 = 1 := by kernel_rfl
theorem cellsInt1 : Tryz.prog.cellsOf 3 = 1 := by kernel_rfl
def kindRows : List (List UInt8 × Int) := (List.range 13).map fun k => (Ms.nameL.getD k [], Ms.fb k)
theorem kinds_of {W : World} (h : laidMet Tryz.prog [("asyncbft/message.kinds", Rows.laid_asyncbft_message_kinds)] W) : KT W := by
  obtain ⟨ps, ⟨g', t', cs, fuel, p, q, hg', ht', hvar, hd, _, _⟩, _⟩ := h
  obtain rfl := Option.some.inj (gKinds.symm.trans hg')
  obtain rfl := Option.some.inj (gKindsType.symm.trans ht')
  have hp := cells_of_pairs (rows := kindRows) Tryz.underlying75 Tryz.underlying74 rfl rfl cellsStr1 cellsInt1 cellsTraits Tryz.underlying9 Tryz.underlying3 hd
  have hall : ∀ k, k < 13 → W.cell? ⟨0, k * 2, none⟩ = some (.string (Ms.name k)) ∧ W.cell? ⟨0, k * 2 + 1, none⟩ = some (.int .i64 (Ms.fb k)) := by
    intro k hk
    obtain ⟨b, h1, h2, h3⟩ := hp k (Ms.nameL.getD k [], Ms.fb k) hk (by simp [kindRows, hk])
    rw [Nat.mul_comm] at h2 h3
    rw [World.var?_cell gKinds hvar, World.var?_cell gKinds hvar, ← Array.getElem?_toList, ← Array.getElem?_toList, h2, h3]
    refine ⟨?_, rfl⟩
    have e : b = Ms.name k := by
      unfold Ms.name
      cases b with
      | mk d =>
        have h4 : d.toList = Ms.nameL.getD k [] := h1
        rw [← h4]
    rw [e]
  exact ⟨World.block_lt_of_cell? _ _ (hall 0 (by omega)).1, hall⟩
theorem tab_of {W : World} (h : laidMet Tryz.prog [("math/bits.deBruijn32tab", Rows.laid_math_bits_deBruijn32tab), ("math/bits.deBruijn64tab", Rows.laid_math_bits_deBruijn64tab), ("internal/strconv.uint64pow10", Rows.laid_internal_strconv_uint64pow10), ("asyncbft/message.kinds", Rows.laid_asyncbft_message_kinds)] W) : Tab W :=
  ⟨Lib.tabIs_of_head gPow gPowType Tryz.underlying180 Tryz.underlying22 cellsWord cellsPow h.tail.tail, kinds_of h.tail.tail.tail⟩

def tabCells (l : List Nat) : Array Value := (l.map fun (n : Nat) => Value.int .u8 (n : Int)).toArray
def powCells (l : List Nat) : Array Value := (l.map fun (n : Nat) => Value.int .u64 (n : Int)).toArray
def kindCells : Array Value := #[.string ⟨#[]⟩, .int .i64 0, .string ⟨#[105, 110, 105, 116]⟩, .int .i64 8, .string ⟨#[101, 99, 104, 111]⟩, .int .i64 8, .string ⟨#[114, 101, 97, 100, 121]⟩, .int .i64 8, .string ⟨#[115, 104, 97, 114, 100]⟩, .int .i64 30, .string ⟨#[112, 97, 114, 116]⟩, .int .i64 30, .string ⟨#[100, 111, 110, 101]⟩, .int .i64 6, .string ⟨#[118, 97, 108, 117, 101]⟩, .int .i64 1, .string ⟨#[97, 117, 120]⟩, .int .i64 1, .string ⟨#[99, 111, 110, 102]⟩, .int .i64 1, .string ⟨#[99, 111, 105, 110]⟩, .int .i64 9, .string ⟨#[116, 101, 114, 109]⟩, .int .i64 0, .string ⟨#[107, 101, 121]⟩, .int .i64 8]
/-- the block's cells in place of what lies there -/
def put (c : Array Value) : Obj → Obj
  | .cells _ t frozen => .cells c t frozen
  | o => o
/-- A world for the witness: the settled one, the four tables holding what their initialisers lay. -/
noncomputable def laidWorld (os : Os) : World :=
  { World.holding Tryz.prog os ⟨#[], #[], []⟩ with heap := ((((World.holding Tryz.prog os ⟨#[], #[], []⟩).heap.modify 1 (put (powCells [1, 10, 100, 1000, 10000, 100000, 1000000, 10000000, 100000000, 1000000000, 10000000000, 100000000000, 1000000000000, 10000000000000, 100000000000000, 1000000000000000, 10000000000000000, 100000000000000000, 1000000000000000000, 10000000000000000000]))).modify 3 (put (tabCells [0, 1, 28, 2, 29, 14, 24, 3, 30, 22, 20, 15, 25, 17, 4, 8, 31, 27, 13, 23, 21, 19, 16, 7, 26, 12, 18, 6, 11, 5, 10, 9]))).modify 4 (put (tabCells [0, 1, 56, 2, 57, 49, 28, 3, 61, 58, 42, 50, 38, 29, 17, 4, 62, 47, 59, 36, 45, 43, 51, 22, 53, 39, 33, 30, 24, 18, 12, 5, 63, 55, 48, 27, 60, 41, 37, 16, 46, 35, 44, 21, 52, 32, 23, 11, 54, 26, 40, 15, 34, 20, 31, 10, 25, 14, 19, 9, 13, 8, 7, 6]))).modify 0 (put kindCells) }
end Go.Proofs.YtgkckomccabmlaaGreatDoor
