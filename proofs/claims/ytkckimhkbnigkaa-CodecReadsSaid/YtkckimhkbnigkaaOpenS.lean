/-
  A list of strings that came in, and what the bound on an input's bulk says of it. No condition.
-/
import Derived.Test.YtkckimhkbnigkaaOpen
import Derived.Test.YtkckimhkbnigkaaStrs
import Derived.SliceStrings
namespace Go.Proofs.Ytkckimhkbnigkaa
open Go.ChangeShapes Go.WideShapes Go.ChangeAt Go.RowKit
open Dg (W B)
/-- the strings' bytes, and one for each -/
def bulkS : List ByteArray → Nat
  | [] => 0
  | s :: l => s.size + 1 + bulkS l
theorem bulkAll_strs {H : Type} : ∀ l : List ByteArray, Rows.uptoBulkAll (strs (H := H) l) = bulkS l
  | [] => by simp [strs, Rows.uptoBulkAll, bulkS]
  | s :: l => by
    have ih := bulkAll_strs (H := H) l
    simp only [strs, List.map_cons, Rows.uptoBulkAll, Rows.uptoBulk, bulkS] at ih ⊢
    rw [ih, Array.length_toList]; rfl
theorem open_strl {H : Type} {enc : TypeId × Value → H} {P : Program} {w : World} {t e : TypeId} {a : Option Addr} {len cap : Nat} {d : DataW H} {p : List MemPlace} (ht : P.underlying t = some (.slice e)) (he : P.underlying e = some .string) (hc : P.cellsOf e = 1)
    (h : DataW.Trod enc P w 0 (fun _ => true) true t (.slice a len cap) d p) : ∃ l : List ByteArray, l.length = len ∧ bulkS l ≤ Rows.uptoBulk d ∧ HasS w w.heap.size (.slice a len cap) l := by
  obtain ⟨fuel, hf⟩ := h
  rcases open_strings ht he hc hf with ⟨hcs, _⟩ | ⟨x, n, c, ss, hcs, _, hl, hm, hz, hd, hcell, _⟩
  · simp [Value.cells] at hcs
    obtain ⟨rfl, rfl, rfl⟩ := hcs
    exact ⟨[], rfl, Nat.zero_le _, .inl ⟨_, _, rfl, rfl⟩⟩
  · simp [Value.cells] at hcs
    obtain ⟨rfl, rfl, rfl⟩ := hcs
    have hz' : ss.length = cap := by simpa using hz
    refine ⟨ss.take len, by simp; omega, ?_, ?_⟩
    · have := congrArg Prod.fst hd
      simp only at this
      rw [this, ← bulkAll_strs (H := H)]
      simp only [Rows.uptoBulk]; omega
    · by_cases h0 : len = 0
      · subst h0; exact .inl ⟨_, _, rfl, by simp⟩
      · obtain ⟨b, off, spot⟩ := x
        have hc0 := hcell 0 (by omega)
        have hspot : spot = none := by simpa [Addr.add] using World.cell?_spot hc0
        subst hspot
        have hlen : (ss.take len).length = len := by simp; omega
        refine .inr ⟨b, off, cap, by rw [hlen], by rw [hlen]; exact hl, World.block_lt_of_cell? w _ hc0, fun i hi => ?_⟩
        rw [hlen] at hi
        rw [← add_plain, hcell i (by omega)]
        simp [List.getD, hi]
theorem bulk_mem {H : Type} {d : DataW H} {l : List (DataW H)} (h : d ∈ l) : Rows.uptoBulk d ≤ Rows.uptoBulkAll l := by
  induction l with
  | nil => cases h
  | cons x r ih =>
    simp only [Rows.uptoBulkAll]
    cases List.mem_cons.1 h with
    | inl e => subst e; omega
    | inr e => have := ih e; omega
/-- the bound, as the frame hands it over -/
theorem bulk_of {H : Type} {l : List (DataW H)} {d : DataW H} (hk : Rows.uptoSmall H l = true) (h : d ∈ l) : Rows.uptoBulk d ≤ 1048576 :=
  Nat.le_trans (bulk_mem h) (by simpa only [Rows.uptoSmall, decide_eq_true_eq] using hk)
end Go.Proofs.Ytkckimhkbnigkaa
