/-
  The element of an array by value. No condition.
-/
import Derived.Test.YthkkjocmglcjnaaArr
namespace Go.Proofs.Ythkkjocmglcjnaa
open Go.ChangeShapes Go.WideShapes Go.ChangeAt Go.RowKit
theorem run_index_row {P : Program} (T E : TypeId) (n : Nat) (hu : P.underlying T = some (.array n E)) (d : TypeDesc) (hd : P.underlying E = some d) (hr : d.isRow = false) (hi : (P.info? E).map (·.size) = some 1)
    (L : List Value) (k : Nat) (hk : k < n) (v : Value) (hv : L[k]? = some v) (w : World) : (Instr.index T (.agg L.toArray) (.int .i64 (k : Int))).run P w = .ok v w := by
  unfold Instr.index
  cases hq : P.info? E with
  | none => simp [hq] at hi
  | some i =>
    have hs : i.size = 1 := by simpa [hq] using hi
    have hagg : (isAgg E).run P w = .ok false w := by
      unfold isAgg
      rw [Sem.run_bind, run_underlying hd]
      cases d <;> simp_all
    simp [Sem.run_bind, asIntOf, run_underlying hu, part, hagg, sizeOf, typeInfo, hq, hs, hk, hv]
end Go.Proofs.Ythkkjocmglcjnaa
