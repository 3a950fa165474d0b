/-
  What a call returns of its own: a slice whose cells lie in a block that wasn't there before, and may be written: whatever made it (an append, a literal, an array). No condition.
-/
import Derived.Test.YthkkjocmglcjnaaArr
namespace Go.Proofs.Ythkkjocmglcjnaa
open Go.ChangeShapes Go.WideShapes Go.ChangeAt Go.RowKit
open Dg (W B)
/-- the value v is a slice whose elements are l, in a block from base on; they may be written -/
def My {α : Type} (f : α → Value) (d : α) (base : Nat) (w : World) (v : Value) (l : List α) : Prop :=
  ∃ g cap, v = .slice (some ⟨g, 0, none⟩) l.length cap ∧ base ≤ g ∧ g < w.heap.size ∧ l.length ≤ cap ∧ ∀ i, i < l.length → w.cell? ⟨g, i, none⟩ = some (f (l.getD i d)) ∧ w.frozen? ⟨g, i, none⟩ = false
abbrev MyW := My wval (0 : W)
abbrev MyI := My ival (0 : Int)
section
variable {α : Type} {f : α → Value} {d : α} {base N : Nat} {w w' : World} {v : Value} {l : List α}
theorem My.mono {base' : Nat} (h : My f d base w v l) (hb : base' ≤ base) : My f d base' w v l := by
  obtain ⟨g, cap, h1, h2, h3⟩ := h; exact ⟨g, cap, h1, Nat.le_trans hb h2, h3⟩
theorem My.below {M : Nat} (h : My f d base w v l) (hb : Below M w w') (hm : w.heap.size ≤ M := by exact Nat.le_refl _) : My f d base w' v l := by
  obtain ⟨g, cap, h1, h2, h3, h4, h5⟩ := h
  have hs : g < M := Nat.lt_of_lt_of_le h3 hm
  exact ⟨g, cap, h1, h2, (Array.getElem?_eq_some_iff.1 (by rw [hb.block g hs]; exact Array.getElem?_eq_getElem h3)).1, h4, fun i hi => ⟨by rw [hb.cell (p := ⟨g, i, none⟩) hs]; exact (h5 i hi).1, by rw [hb.frozen (p := ⟨g, i, none⟩) hs]; exact (h5 i hi).2⟩⟩
theorem My.alloc (h : My f d base w v l) (o : Obj) : My f d base (w.alloc o) v l := h.below ((Below.refl w.heap.size w).alloc (Nat.le_refl _) o)
theorem My.drewN (h : My f d base w v l) (n : Nat) : My f d base (w.drewN n) v l := h
theorem My.form (h : My f d base w v l) : ∃ g cap, v = .slice (some ⟨g, 0, none⟩) l.length cap := by
  obtain ⟨g, cap, h1, _⟩ := h; exact ⟨g, cap, h1⟩
theorem Arr.my {n : Nat} (h : Arr f d n w N l) (hl : l.length = n) (hb : base ≤ N) : My f d base w (.slice (some ⟨N, 0, none⟩) n n) l := by
  subst hl; exact ⟨N, l.length, rfl, hb, h.1, Nat.le_refl _, h.2⟩
end
section
variable {base : Nat} {w : World} {v : Value}
theorem MyW.mono {base' : Nat} {l : List W} (h : MyW base w v l) (hb : base' ≤ base) : MyW base' w v l := My.mono h hb
theorem MyW.below {w' : World} {M : Nat} {l : List W} (h : MyW base w v l) (hb : Below M w w') (hm : w.heap.size ≤ M := by exact Nat.le_refl _) : MyW base w' v l := My.below h hb hm
theorem MyW.alloc {l : List W} (h : MyW base w v l) (o : Obj) : MyW base (w.alloc o) v l := My.alloc h o
theorem MyW.drewN {l : List W} (h : MyW base w v l) (n : Nat) : MyW base (w.drewN n) v l := My.drewN h n
theorem MyI.mono {base' : Nat} {l : List Int} (h : MyI base w v l) (hb : base' ≤ base) : MyI base' w v l := My.mono h hb
theorem MyI.below {w' : World} {M : Nat} {l : List Int} (h : MyI base w v l) (hb : Below M w w') (hm : w.heap.size ≤ M := by exact Nat.le_refl _) : MyI base w' v l := My.below h hb hm
theorem MyI.alloc {l : List Int} (h : MyI base w v l) (o : Obj) : MyI base (w.alloc o) v l := My.alloc h o
theorem MyI.drewN {l : List Int} (h : MyI base w v l) (n : Nat) : MyI base (w.drewN n) v l := My.drewN h n
theorem MyW.has {l : List W} (h : MyW base w v l) : HasW w w.heap.size v l := by
  obtain ⟨g, cap, rfl, h2, h3, h4, h5⟩ := h
  exact .inr ⟨g, 0, cap, rfl, h4, h3, fun i hi => by rw [Nat.zero_add]; exact (h5 i hi).1⟩
theorem MyI.has {l : List Int} (h : MyI base w v l) : HasI w w.heap.size v l := by
  obtain ⟨g, cap, rfl, h2, h3, h4, h5⟩ := h
  exact .inr ⟨g, 0, cap, rfl, h4, h3, fun i hi => by rw [Nat.zero_add]; exact (h5 i hi).1⟩
theorem MyW.tail {g cp n : Nat} {a' : Option Addr} {l : List W} (hn : l.length = n) (h : MyW base w (.slice (some ⟨g, 0, none⟩) n cp) l) (h1 : 1 ≤ n) (hcp : n ≤ cp) (ha : 1 < n → a' = some ⟨g, 1, none⟩) :
    HasW w w.heap.size (.slice a' (n - 1) (cp - 1)) (l.drop 1) := by
  subst hn
  obtain ⟨g', cap, e, h2, h3, h4, h5⟩ := h
  simp only [Value.slice.injEq, Option.some.injEq, Addr.mk.injEq] at e
  obtain ⟨⟨rfl, _⟩, _⟩ := e
  by_cases h2 : 1 < l.length
  · obtain rfl := ha h2
    refine .inr ⟨g, 1, cp - 1, by simp, by simp; omega, h3, fun i hi => ?_⟩
    have hi' : 1 + i < l.length := by simp at hi; omega
    rw [(h5 (1 + i) hi').1]
    simp [wval, List.getD, Nat.add_comm i 1]
  · have e : l.length - 1 = 0 := by omega
    refine .inl ⟨a', cp - 1, by rw [e], List.length_eq_zero_iff.1 (by simp; omega)⟩
theorem OwnW.my {l : List W} (h : OwnW base w v l) (hl : 0 < l.length) : MyW base w v l := by
  obtain ⟨hx, h2⟩ := h
  rcases h2 with ⟨_, h0⟩ | ⟨g, cap, cur, rfl, h1, h2, h3, h4, h5, h6⟩
  · omega
  · have own : w.ownsRow base 23 1 (.slice (some ⟨g, 0, none⟩) l.length cap) l.length (l.map wval) := ⟨hx, .inr ⟨g, cap, cur, rfl, h1, h2, h3, h4, h5, h6⟩⟩
    exact ⟨g, cap, rfl, h1, (Array.getElem?_eq_some_iff.1 h2).1, h3, fun i hi => ⟨by rw [own.cellAt i (by omega)]; simp [hi], own.frozenAt i⟩⟩
theorem OwnI.my {l : List Int} (h : OwnI base w v l) (hl : 0 < l.length) : MyI base w v l := by
  obtain ⟨hx, h2⟩ := h
  rcases h2 with ⟨_, h0⟩ | ⟨g, cap, cur, rfl, h1, h2, h3, h4, h5, h6⟩
  · omega
  · have own : w.ownsRow base 3 1 (.slice (some ⟨g, 0, none⟩) l.length cap) l.length (l.map ival) := ⟨hx, .inr ⟨g, cap, cur, rfl, h1, h2, h3, h4, h5, h6⟩⟩
    exact ⟨g, cap, rfl, h1, (Array.getElem?_eq_some_iff.1 h2).1, h3, fun i hi => ⟨by rw [own.cellAt i (by omega)]; simp [hi], own.frozenAt i⟩⟩
end
end Go.Proofs.Ythkkjocmglcjnaa
