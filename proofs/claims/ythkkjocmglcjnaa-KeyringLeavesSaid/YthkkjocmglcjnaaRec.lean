/-
  Three cells of a struct in memory that may be written; stores into other blocks leave what a call owns as it was; three results of which two lie in memory. No condition.
-/
import Derived.Test.YthkkjocmglcjnaaMy
import Derived.Test.YthkkjocmglcjnaaWords
import Derived.Deep.RegionHeld3
namespace Go.Proofs.Ythkkjocmglcjnaa
open Go.ChangeShapes Go.WideShapes Go.ChangeAt Go.RowKit
open Dg (W B)
/-- three results, two of them in memory -/
theorem results_cct {P : Program} {fn : Func} {a b t : Tmp} {A B : TypeId} (h : fn.results = #[.cell a A, .cell b B, .tmp t]) (tmps : Array Value) (w : World) (p q : Addr)
    (hp : tmps.getD a undef = .pointer (some p)) (hq : tmps.getD b undef = .pointer (some q)) {x y : Value}
    (hx : (loadVar A p).run P w = .ok x w) (hy : (loadVar B q).run P w = .ok y w) : (results fn tmps).run P w = .ok (.tuple #[x, y, tmps.getD t undef]) w := by
  have hp' : tmps[a]?.getD undef = .pointer (some p) := by simpa using hp
  have hq' : tmps[b]?.getD undef = .pointer (some q) := by simpa using hq
  simp [results, h, hp', hq', asAddr, hx, hy]
theorem below_three (w : World) (a b c : Obj) : Below w.heap.size w (((w.alloc a).alloc b).alloc c).drew :=
  ((((Below.refl _ _).alloc (Nat.le_refl _) a).alloc (by simp) b).alloc (by simp; omega) c).drew
theorem below_3 (w : World) (a b c : Obj) : Below w.heap.size w (((w.alloc a).alloc b).alloc c) := (((Below.refl _ _).alloc (Nat.le_refl _) a).alloc (by simp) b).alloc (by simp; omega) c
theorem kept {w w' : World} {p : Addr} {v : Value} (hb : Below w.heap.size w w') (h : w.cell? p = some v) : w'.cell? p = some v := (hb.cell (World.block_lt_of_cell? _ _ h)).trans h
theorem kalloc {w : World} {p : Addr} {v : Value} (h : w.cell? p = some v) (o : Obj) : (w.alloc o).cell? p = some v := kept ((Below.refl _ _).alloc (Nat.le_refl _) o) h
theorem kset3 {w : World} {N M j : Nat} {v : Value} (h : w.cell? ⟨N, j, none⟩ = some v) (hn : N ≠ M) (a b c : Value) : (((w.setCell ⟨M, 0, none⟩ a).setCell ⟨M, 1, none⟩ b).setCell ⟨M, 2, none⟩ c).cell? ⟨N, j, none⟩ = some v := by
  rw [World.cell?_setCell_far _ _ _ _ hn.symm, World.cell?_setCell_far _ _ _ _ hn.symm, World.cell?_setCell_far _ _ _ _ hn.symm]; exact h
theorem kallocD {w : World} {p : Addr} {v : Value} (h : w.cell? p = some v) (o : Obj) : (w.alloc o).drew.cell? p = some v := kalloc h o
theorem kset1 {w : World} {N M j i : Nat} {v : Value} (h : w.cell? ⟨N, j, none⟩ = some v) (hn : N ≠ M) (a : Value) : (w.setCell ⟨M, i, none⟩ a).cell? ⟨N, j, none⟩ = some v := by rw [World.cell?_setCell_far _ _ _ _ hn.symm]; exact h
/-- three cells that may be written -/
def Rec3 (w : World) (N : Nat) (a b c : Value) : Prop := N < w.heap.size ∧ (w.cell? ⟨N, 0, none⟩ = some a ∧ w.cell? ⟨N, 1, none⟩ = some b ∧ w.cell? ⟨N, 2, none⟩ = some c) ∧ w.frozen? ⟨N, 0, none⟩ = false ∧ w.frozen? ⟨N, 1, none⟩ = false ∧ w.frozen? ⟨N, 2, none⟩ = false
theorem Rec3.below {w w' : World} {N B : Nat} {a b c : Value} (h : Rec3 w N a b c) (hb : Below B w w') (hn : N < B) : Rec3 w' N a b c := by
  obtain ⟨h1, ⟨h2, h3, h4⟩, h5, h6, h7⟩ := h
  exact ⟨Nat.lt_of_lt_of_le h1 hb.size, ⟨by rw [hb.cell (p := ⟨N, 0, none⟩) hn]; exact h2, by rw [hb.cell (p := ⟨N, 1, none⟩) hn]; exact h3, by rw [hb.cell (p := ⟨N, 2, none⟩) hn]; exact h4⟩, by rw [hb.frozen (p := ⟨N, 0, none⟩) hn]; exact h5, by rw [hb.frozen (p := ⟨N, 1, none⟩) hn]; exact h6, by rw [hb.frozen (p := ⟨N, 2, none⟩) hn]; exact h7⟩
theorem Rec3.drew {w : World} {N : Nat} {a b c : Value} (h : Rec3 w N a b c) : Rec3 w.drew N a b c := h
theorem Rec3.new (w : World) (a b c : Value) (t : TypeId) : Rec3 (w.alloc (.cells #[a, b, c] t)) w.heap.size a b c := ⟨by simp, ⟨by go_simp, by go_simp, by go_simp⟩, by go_simp, by go_simp, by go_simp⟩
theorem Rec3.far {w : World} {N : Nat} {a b c : Value} (h : Rec3 w N a b c) (p : Addr) (hn : p.block ≠ N) (v : Value) : Rec3 (w.setCell p v) N a b c := by
  obtain ⟨h1, ⟨h2, h3, h4⟩, h5, h6, h7⟩ := h
  exact ⟨by simpa using h1, ⟨by rw [World.cell?_setCell_far _ _ _ _ hn]; exact h2, by rw [World.cell?_setCell_far _ _ _ _ hn]; exact h3, by rw [World.cell?_setCell_far _ _ _ _ hn]; exact h4⟩, by rw [World.frozen?_setCell]; exact h5, by rw [World.frozen?_setCell]; exact h6, by rw [World.frozen?_setCell]; exact h7⟩
theorem Rec3.put {w : World} {N : Nat} {a b c : Value} (h : Rec3 w N a b c) (x y z : Value) : Rec3 (((w.setCell ⟨N, 0, none⟩ x).setCell ⟨N, 1, none⟩ y).setCell ⟨N, 2, none⟩ z) N x y z := by
  obtain ⟨h1, ⟨h2, h3, h4⟩, h5, h6, h7⟩ := h
  refine ⟨by simpa using h1, ⟨?_, ?_, ?_⟩, ?_, ?_, ?_⟩
  · rw [World.cell?_setCell_other _ _ _ _ (by simp), World.cell?_setCell_other _ _ _ _ (by simp)]; exact World.cell?_setCell_same _ _ _ h2
  · rw [World.cell?_setCell_other _ _ _ _ (by simp)]; exact World.cell?_setCell_same _ _ _ (by rw [World.cell?_setCell_other _ _ _ _ (by simp)]; exact h3)
  · exact World.cell?_setCell_same _ _ _ (by rw [World.cell?_setCell_other _ _ _ _ (by simp), World.cell?_setCell_other _ _ _ _ (by simp)]; exact h4)
  · simp only [World.frozen?_setCell]; exact h5
  · simp only [World.frozen?_setCell]; exact h6
  · simp only [World.frozen?_setCell]; exact h7
theorem My.far {α : Type} {f : α → Value} {d : α} {base : Nat} {w : World} {v : Value} {l : List α} (h : My f d base w v l) (p : Addr) (hp : p.block < base ∨ w.heap.size ≤ p.block) (x : Value) : My f d base (w.setCell p x) v l := by
  obtain ⟨g, cap, h1, h2, h3, h4, h5⟩ := h
  have hn : p.block ≠ g := by omega
  exact ⟨g, cap, h1, h2, by simpa using h3, h4, fun i hi => ⟨by rw [World.cell?_setCell_far _ _ _ _ hn]; exact (h5 i hi).1, by rw [World.frozen?_setCell]; exact (h5 i hi).2⟩⟩
theorem My.farNe {α : Type} {f : α → Value} {d : α} {base : Nat} {w : World} {v : Value} {l : List α} (h : My f d base w v l) (p : Addr) (hp : ∀ g n cap, v = .slice (some ⟨g, 0, none⟩) n cap → g ≠ p.block) (x : Value) : My f d base (w.setCell p x) v l := by
  obtain ⟨g, cap, h1, h2, h3, h4, h5⟩ := h
  have hn : p.block ≠ g := (hp _ _ _ h1).symm
  exact ⟨g, cap, h1, h2, by simpa using h3, h4, fun i hi => ⟨by rw [World.cell?_setCell_far _ _ _ _ hn]; exact (h5 i hi).1, by rw [World.frozen?_setCell]; exact (h5 i hi).2⟩⟩
theorem Rec3.third {w : World} {N : Nat} {a b c : Value} (h : Rec3 w N a b c) (x : Value) : Rec3 (w.setCell ⟨N, 2, none⟩ x) N a b x := by
  obtain ⟨h1, ⟨h2, h3, h4⟩, h5, h6, h7⟩ := h
  exact ⟨by simpa using h1, ⟨by rw [World.cell?_setCell_other _ _ _ _ (by simp)]; exact h2, by rw [World.cell?_setCell_other _ _ _ _ (by simp)]; exact h3, World.cell?_setCell_same _ _ _ h4⟩, by rw [World.frozen?_setCell]; exact h5, by rw [World.frozen?_setCell]; exact h6, by rw [World.frozen?_setCell]; exact h7⟩
theorem OwnW.far {base : Nat} {w : World} {v : Value} {l : List W} (h : OwnW base w v l) (p : Addr) (hp : p.block < base) (x : Value) : OwnW base (w.setCell p x) v l := by
  obtain ⟨h1, h2⟩ := h
  refine ⟨h1, h2.imp id ?_⟩
  rintro ⟨g, cap, cur, e1, e2, e3, e4⟩
  exact ⟨g, cap, cur, e1, e2, by rw [Below.heap_setCell _ _ _ _ (by omega)]; exact e3, e4⟩
theorem MyW.drew {base : Nat} {w : World} {v : Value} {l : List W} (h : MyW base w v l) : MyW base w.drew v l := h
theorem OwnW.drew {base : Nat} {w : World} {v : Value} {l : List W} (h : OwnW base w v l) : OwnW base w.drew v l := h
theorem MyW.six {base : Nat} {w : World} {v : Value} {l : List W} (h : MyW base w v l) {N M : Nat} (hn : N < base) (hm : M < base) (a b c x y z : Value) :
    MyW base ((((((w.setCell ⟨N, 0, none⟩ a).setCell ⟨N, 1, none⟩ b).setCell ⟨N, 2, none⟩ c).setCell ⟨M, 0, none⟩ x).setCell ⟨M, 1, none⟩ y).setCell ⟨M, 2, none⟩ z).drew v l :=
  MyW.drew (My.far (My.far (My.far (My.far (My.far (My.far h ⟨N, 0, none⟩ (.inl hn) a) ⟨N, 1, none⟩ (.inl hn) b) ⟨N, 2, none⟩ (.inl hn) c) ⟨M, 0, none⟩ (.inl hm) x) ⟨M, 1, none⟩ (.inl hm) y) ⟨M, 2, none⟩ (.inl hm) z)
theorem OwnW.six {base : Nat} {w : World} {v : Value} {l : List W} (h : OwnW base w v l) {N M : Nat} (hn : N < base) (hm : M < base) (a b c x y z : Value) :
    OwnW base ((((((w.setCell ⟨N, 0, none⟩ a).setCell ⟨N, 1, none⟩ b).setCell ⟨N, 2, none⟩ c).setCell ⟨M, 0, none⟩ x).setCell ⟨M, 1, none⟩ y).setCell ⟨M, 2, none⟩ z).drew v l :=
  OwnW.drew (OwnW.far (OwnW.far (OwnW.far (OwnW.far (OwnW.far (OwnW.far h ⟨N, 0, none⟩ hn a) ⟨N, 1, none⟩ hn b) ⟨N, 2, none⟩ hn c) ⟨M, 0, none⟩ hm x) ⟨M, 1, none⟩ hm y) ⟨M, 2, none⟩ hm z)
theorem below_six {base : Nat} {u w : World} (h : Below base u w) {N M : Nat} (hn : base ≤ N) (hm : base ≤ M) (a b c x y z : Value) :
    Below base u ((((((w.setCell ⟨N, 0, none⟩ a).setCell ⟨N, 1, none⟩ b).setCell ⟨N, 2, none⟩ c).setCell ⟨M, 0, none⟩ x).setCell ⟨M, 1, none⟩ y).setCell ⟨M, 2, none⟩ z).drew :=
  ((((((h.setCell (p := ⟨N, 0, none⟩) hn a).setCell (p := ⟨N, 1, none⟩) hn b).setCell (p := ⟨N, 2, none⟩) hn c).setCell (p := ⟨M, 0, none⟩) hm x).setCell (p := ⟨M, 1, none⟩) hm y).setCell (p := ⟨M, 2, none⟩) hm z).drew
end Go.Proofs.Ythkkjocmglcjnaa
