/-
  Arguments that came in: a slice of bytes, a slice of digests, an array of 8 bytes: what a walk is told of them. No condition.
-/
import Derived.Test.YtjhjielenbeoiaaHas
import Derived.WalkKit
import Derived.ProofKit
import Derived.OpenShut
import Derived.Carry
namespace Go.Proofs.Ytjhjielenbeoiaa
open Go.ChangeShapes Go.WideShapes Go.ChangeAt Go.RowKit
open Dg (W B)

theorem laidOut : laidOutB Try.prog = true := by kernel_rfl
def bval (x : B) : Value := .int .u8 (bv x)
section
variable {H : Type} {enc : TypeId × Value → H} {P : Program} {w : World}
theorem ints_at {t e : TypeId} {k : IntKind} {a : Option Addr} {len cap : Nat} {d : DataW H} {p : List MemPlace} (ht : P.underlying t = some (.slice e)) (he : P.underlying e = some (.int k)) (hc : P.cellsOf e = 1)
    (h : DataW.Trod enc P w 0 (fun _ => true) true t (.slice a len cap) d p) :
    len ≤ cap ∧ cap ≤ maxLen ∧ (len = 0 ∨ ∃ b off, ∃ zs : List Int, a = some ⟨b, off, none⟩ ∧ zs.length = len ∧ b < w.heap.size ∧ (∀ i, i < len → w.cell? ⟨b, off + i, none⟩ = some (.int k (zs.getD i 0))) ∧ ∀ n ∈ zs, (Lit.int k n).wf = true) := by
  obtain ⟨fuel, hf⟩ := h
  rcases open_ints ht he hc hf with ⟨hcs, _⟩ | ⟨x, l, c, zs, hcs, _, hl, hm, hz, _, hcell, hwz⟩
  · simp [Value.cells] at hcs
    obtain ⟨rfl, rfl, rfl⟩ := hcs
    exact ⟨Nat.le_refl _, Nat.zero_le _, .inl rfl⟩
  · simp [Value.cells] at hcs
    obtain ⟨rfl, rfl, rfl⟩ := hcs
    refine ⟨hl, hm, ?_⟩
    by_cases h0 : len = 0
    · exact .inl h0
    · right
      have hz' : zs.length = cap := by simpa using hz
      obtain ⟨b, off, spot⟩ := x
      have hc0 := hcell 0 (by omega)
      have hspot : spot = none := by simpa [Addr.add] using World.cell?_spot hc0
      subst hspot
      refine ⟨b, off, zs.take len, rfl, by simp; omega, World.block_lt_of_cell? w _ hc0, fun i hi => ?_, fun n hn => hwz n (List.mem_of_mem_take hn)⟩
      rw [← add_plain, hcell i (by omega)]
      simp [List.getD, hi]
theorem words_of {α : Type} (f : α → Int) {k : IntKind} (hf : ∀ n, (Lit.int k n).wf = true → ∃ x, n = f x) : ∀ {zs : List Int}, (∀ n ∈ zs, (Lit.int k n).wf = true) → ∃ l : List α, zs = l.map f
  | [], _ => ⟨[], rfl⟩
  | z :: zs, h => by
    obtain ⟨x, hx⟩ := hf z (h z (by simp))
    obtain ⟨l, hl⟩ := words_of f hf (zs := zs) fun n hn => h n (by simp [hn])
    exact ⟨x :: l, by rw [hx, hl]; rfl⟩
theorem uv_of_wf (n : Int) (h : (Lit.int .u64 n).wf = true) : ∃ x : W, n = uv x :=
  uv_of n (bounds_u64 h).1 (by have := (bounds_u64 h).2; omega)
theorem open_bytes {t e : TypeId} {a : Option Addr} {len cap : Nat} {d : DataW H} {p : List MemPlace} (ht : P.underlying t = some (.slice e)) (he : P.underlying e = some (.int .u8)) (hc : P.cellsOf e = 1)
    (h : DataW.Trod enc P w 0 (fun _ => true) true t (.slice a len cap) d p) : ∃ l : List B, l.length = len ∧ len ≤ maxLen ∧ HasB w w.heap.size (.slice a len cap) l := by
  obtain ⟨h1, h2, h3⟩ := ints_at ht he hc h
  rcases h3 with rfl | ⟨b, off, zs, rfl, rfl, h4, h5, h6⟩
  · exact ⟨[], rfl, Nat.zero_le _, .inl ⟨a, cap, rfl, rfl⟩⟩
  · obtain ⟨l, rfl⟩ := words_of bv bv_of h6
    refine ⟨l, by simp, by omega, .inr ⟨b, off, cap, by simp, by simpa using h1, h4, fun i hi => ?_⟩⟩
    rw [h5 i (by simpa using hi)]
    simp [List.getD, hi]
theorem open_words {t e : TypeId} {a : Option Addr} {len cap : Nat} {d : DataW H} {p : List MemPlace} (ht : P.underlying t = some (.slice e)) (he : P.underlying e = some (.int .u64)) (hc : P.cellsOf e = 1)
    (h : DataW.Trod enc P w 0 (fun _ => true) true t (.slice a len cap) d p) : ∃ l : List W, l.length = len ∧ len ≤ maxLen ∧ HasW w w.heap.size (.slice a len cap) l := by
  obtain ⟨h1, h2, h3⟩ := ints_at ht he hc h
  rcases h3 with rfl | ⟨b, off, zs, rfl, rfl, h4, h5, h6⟩
  · exact ⟨[], rfl, Nat.zero_le _, .inl ⟨a, cap, rfl, rfl⟩⟩
  · obtain ⟨l, rfl⟩ := words_of uv uv_of_wf h6
    refine ⟨l, by simp, by omega, .inr ⟨b, off, cap, by simp, by simpa using h1, h4, fun i hi => ?_⟩⟩
    rw [h5 i (by simpa using hi)]
    simp [List.getD, hi]
theorem vals_of : ∀ {cs : List Value}, (∀ c ∈ cs, ∃ x : B, c = bval x) → ∃ l : List B, cs = l.map bval
  | [], _ => ⟨[], rfl⟩
  | c :: cs, h => by
    obtain ⟨x, hx⟩ := h c (by simp)
    obtain ⟨l, hl⟩ := vals_of (cs := cs) fun n hn => h n (by simp [hn])
    exact ⟨x :: l, by rw [hx, hl]; rfl⟩
theorem open_array {t e : TypeId} {n : Nat} {base : Nat} {v : Value} {d : DataW H} {p : List MemPlace} (ht : P.underlying t = some (.array n e)) (he : P.underlying e = some (.int .u8)) (hc : P.cellsOf e = 1) (hct : P.cellsOf t = n)
    (hv : Value.okWide P w .any base t v) (h : DataW.Trod enc P w 0 (fun _ => true) true t v d p) : ∃ u : List B, u.length = n ∧ v = .agg (u.map bval).toArray := by
  simp only [Value.okWide, ht] at hv
  obtain ⟨cs, rfl, h2, _⟩ := hv
  obtain ⟨fuel, hf⟩ := h
  obtain ⟨xs, m, rfl, _, hl, hx, hel⟩ := DataW.trod_array ht hf
  rw [hc] at hel
  have hsz : cs.size = n := by rw [h2, hct]
  obtain ⟨u, hu⟩ := vals_of (cs := cs.toList) (by
    intro c hc'
    obtain ⟨i, hi, rfl⟩ := List.mem_iff_getElem.1 hc'
    have hi' : i < n := by simpa [hsz] using hi
    have he2 := hel i hi'
    rw [List.getElem?_eq_getElem (by omega)] at he2
    obtain ⟨z, e1, _, e3⟩ := DataW.trod_int he he2
    obtain ⟨x, hx⟩ := bv_of z e3
    refine ⟨x, ?_⟩
    have e4 := congrArg (·[0]?) e1
    simp [Value.cells, hi', hsz] at e4
    simpa [bval, hx] using e4)
  refine ⟨u, ?_, ?_⟩
  · have := congrArg List.length hu
    simpa [hsz] using this.symm
  · rw [← hu]
end
end Go.Proofs.Ytjhjielenbeoiaa
