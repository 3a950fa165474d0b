/-
  Arguments that came in: a ring, a signature: what a walk is told of them. No condition.
-/
import Derived.Test.YthkkjocmglcjnaaOpen
import Derived.Deep.Strs
namespace Go.Proofs.Ythkkjocmglcjnaa
open Go.ChangeShapes Go.WideShapes Go.ChangeAt Go.RowKit
open Dg (W B)
section
variable {H : Type} {enc : TypeId × Value → H} {w : World}
theorem three_cells {cs : Array Value} (h : cs.toList.length = 3) : ∃ a b c, cs = #[a, b, c] := by
  obtain ⟨l⟩ := cs
  match l, h with
  | [a, b, c], _ => exact ⟨a, b, c, rfl⟩
theorem cell_int {t : TypeId} {k : IntKind} {n : Nat} {c : Value} {y : DataW H × List MemPlace} (ht : Try.prog.underlying t = some (.int k)) (h : DataW.trod enc Try.prog w 0 (fun _ => true) true n t [c] = some y) : ∃ z, c = .int k z ∧ (Lit.int k z).wf = true := by
  obtain ⟨z, e1, _, e3⟩ := DataW.trod_int ht h
  simp at e1
  exact ⟨z, e1, e3⟩
theorem cell_words {t e : TypeId} {n : Nat} {c : Value} {y : DataW H × List MemPlace} (ht : Try.prog.underlying t = some (.slice e)) (he : Try.prog.underlying e = some (.int .u64)) (hc : Try.prog.cellsOf e = 1)
    (h : DataW.trod enc Try.prog w 0 (fun _ => true) true n t [c] = some y) : ∃ l : List W, l.length ≤ maxLen ∧ HasW w w.heap.size c l := by
  have hs : ∃ a len cap, c = .slice a len cap := by
    rcases open_ints ht he hc h with ⟨hcs, _⟩ | ⟨x, l, c', zs, hcs, _⟩
    · simp at hcs; exact ⟨_, _, _, hcs⟩
    · simp at hcs; exact ⟨_, _, _, hcs⟩
  obtain ⟨a, len, cap, rfl⟩ := hs
  obtain ⟨l, hl, hm, hb⟩ := open_words (d := y.1) (p := y.2) ht he hc ⟨n, by simpa [Value.cells] using h⟩
  exact ⟨l, by rw [hl]; exact hm, hb⟩
theorem open_ring {base : Nat} {v : Value} {d : DataW H} {p : List MemPlace} (hv : Value.okWide Try.prog w .any base 25 v) (h : DataW.Trod enc Try.prog w 0 (fun _ => true) true 25 v d p) :
    ∃ s n u : Int, v = .agg #[.int .u64 s, .int .i64 n, .int .i64 u] ∧ (Lit.int .u64 s).wf = true ∧ (Lit.int .i64 n).wf = true ∧ (Lit.int .i64 u).wf = true := by
  simp only [Value.okWide, Try.underlying25] at hv
  obtain ⟨cs, rfl, h2, _⟩ := hv
  obtain ⟨fuel, hf⟩ := h
  obtain ⟨y0, y1, y2, m, _, hl, g0, g1, g2⟩ := Go.Deep.trod_struct3 Try.underlying25 hf
  have h3 : cs.toList.length = 3 := by simpa [Value.cells, show Try.prog.cellsOf 25 = 3 by kernel_rfl] using hl
  obtain ⟨a, b, c, rfl⟩ := three_cells h3
  obtain ⟨s, rfl, ws⟩ := cell_int Try.underlying23 (by simpa [Value.cells, show Try.prog.cellsOf 23 = 1 by kernel_rfl] using g0)
  obtain ⟨n, rfl, wn⟩ := cell_int Try.underlying3 (by simpa [Value.cells, show Try.prog.cellsOf 3 = 1 by kernel_rfl] using g1)
  obtain ⟨u, rfl, wu⟩ := cell_int Try.underlying3 (by simpa [Value.cells, show Try.prog.cellsOf 3 = 1 by kernel_rfl] using g2)
  exact ⟨s, n, u, rfl, ws, wn, wu⟩
theorem open_sig {base : Nat} {v : Value} {d : DataW H} {p : List MemPlace} (hv : Value.okWide Try.prog w .any base 28 v) (h : DataW.Trod enc Try.prog w 0 (fun _ => true) true 28 v d p) :
    ∃ (k : Int) (cv pv : Value) (C P : List W), v = .agg #[.int .i64 k, cv, pv] ∧ (Lit.int .i64 k).wf = true ∧ C.length ≤ maxLen ∧ HasW w w.heap.size cv C ∧ P.length ≤ maxLen ∧ HasW w w.heap.size pv P := by
  simp only [Value.okWide, Try.underlying28] at hv
  obtain ⟨cs, rfl, h2, _⟩ := hv
  obtain ⟨fuel, hf⟩ := h
  obtain ⟨y0, y1, y2, m, _, hl, g0, g1, g2⟩ := Go.Deep.trod_struct3 Try.underlying28 hf
  have h3 : cs.toList.length = 3 := by simpa [Value.cells, show Try.prog.cellsOf 28 = 3 by kernel_rfl] using hl
  obtain ⟨a, b, c, rfl⟩ := three_cells h3
  obtain ⟨k, rfl, wk⟩ := cell_int Try.underlying3 (by simpa [Value.cells, show Try.prog.cellsOf 3 = 1 by kernel_rfl] using g0)
  obtain ⟨C, lc, hc⟩ := cell_words Try.underlying26 Try.underlying23 (by kernel_rfl) (by simpa [Value.cells, show Try.prog.cellsOf 26 = 1 by kernel_rfl] using g1)
  obtain ⟨P, lp, hp⟩ := cell_words Try.underlying26 Try.underlying23 (by kernel_rfl) (by simpa [Value.cells, show Try.prog.cellsOf 26 = 1 by kernel_rfl] using g2)
  exact ⟨k, b, c, C, P, rfl, wk, lc, hc, lp, hp⟩
end
end Go.Proofs.Ythkkjocmglcjnaa
