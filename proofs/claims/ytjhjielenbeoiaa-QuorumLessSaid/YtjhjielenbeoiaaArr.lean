/-
  Local arrays in memory: zero at first, stored to one after the other, read as a slice. No condition.
-/
import Derived.Test.YtjhjielenbeoiaaInts
import Derived.Deep.MidRow
namespace Go.Proofs.Ytjhjielenbeoiaa
open Go.ChangeShapes Go.WideShapes Go.ChangeAt Go.RowKit
open Dg (W B)
/-- in the block N lie n cells: those of l first, then the default -/
def Arr {α : Type} (f : α → Value) (d : α) (n : Nat) (w : World) (N : Nat) (l : List α) : Prop := N < w.heap.size ∧ ∀ j, j < n → w.cell? ⟨N, j, none⟩ = some (f (l.getD j d)) ∧ w.frozen? ⟨N, j, none⟩ = false
section
variable {α : Type} {f : α → Value} {d : α} {n N : Nat} {w w' : World} {l : List α}
theorem Arr.zero (w : World) (t : TypeId) (cs : Array Value) (hc : cs = Array.replicate n (f d)) : Arr f d n (w.alloc (.cells cs t)) w.heap.size [] := by
  subst hc
  refine ⟨by simp, fun j hj => ⟨?_, World.frozen?_alloc_new _ _ _ _⟩⟩
  rw [World.cell?_alloc_new, Array.getElem?_replicate, if_pos hj]; rfl
theorem Arr.made (w : World) (t : TypeId) (cs : Array Value) (hc : cs = (l.map f).toArray) (hl : l.length = n) : Arr f d n (w.alloc (.cells cs t)) w.heap.size l := by
  subst hc; subst hl
  refine ⟨by simp, fun j hj => ⟨?_, World.frozen?_alloc_new _ _ _ _⟩⟩
  rw [World.cell?_alloc_new]; simp [hj]
theorem Arr.below {M : Nat} (h : Arr f d n w N l) (hb : Below M w w') (hm : N < M) : Arr f d n w' N l :=
  ⟨Nat.lt_of_lt_of_le h.1 hb.size, fun j hj => ⟨by rw [hb.cell (p := ⟨N, j, none⟩) hm]; exact (h.2 j hj).1, by rw [hb.frozen (p := ⟨N, j, none⟩) hm]; exact (h.2 j hj).2⟩⟩
theorem Arr.drewN (h : Arr f d n w N l) (m : Nat) : Arr f d n (w.drewN m) N l := h
theorem Arr.set (h : Arr f d n w N l) {k : Nat} (hk : k < n) (x : α) (m : List α) (hm : ∀ j, j < n → m.getD j d = if j = k then x else l.getD j d) : Arr f d n (w.setCell ⟨N, k, none⟩ (f x)) N m := by
  refine ⟨by simpa using h.1, fun j hj => ⟨?_, by rw [World.frozen?_setCell]; exact (h.2 j hj).2⟩⟩
  rw [hm j hj]
  by_cases e : j = k
  · subst e
    rw [if_pos rfl, World.cell?_setCell_same _ _ _ (h.2 j hj).1]
  · rw [if_neg e, World.cell?_setCell_other _ _ _ _ (by intro h; have := congrArg Addr.off h; simp only at this; omega)]
    exact (h.2 j hj).1
theorem Arr.push (h : Arr f d n w N l) {k : Nat} (hl : l.length = k) (hk : k < n) (x : α) : Arr f d n (w.setCell ⟨N, k, none⟩ (f x)) N (l ++ [x]) := by
  refine h.set hk x _ fun j hj => ?_
  subst hl
  by_cases e : j = l.length
  · subst e; rw [if_pos rfl]; simp [List.getD]
  · rw [if_neg e]
    by_cases e2 : j < l.length
    · simp [List.getD, List.getElem?_append_left e2]
    · rw [List.getD, List.getD, List.getElem?_eq_none (by simp; omega), List.getElem?_eq_none (by omega)]
theorem Arr.other (h : Arr f d n w N l) (p : Addr) (v : Value) (hp : p.block ≠ N) : Arr f d n (w.setCell p v) N l :=
  ⟨by simpa using h.1, fun j hj => ⟨by rw [World.cell?_setCell_other _ _ _ _ (by intro e; exact hp (congrArg Addr.block e))]; exact (h.2 j hj).1, by rw [World.frozen?_setCell]; exact (h.2 j hj).2⟩⟩
theorem Arr.there (h : Arr f d n w N l) : w.there N 0 n := fun j hj => by
  rw [Nat.zero_add, (h.2 j hj).1]
  exact ⟨rfl, (h.2 j hj).2⟩
theorem Arr.range (h : Arr f d n w N l) (hl : l.length ≤ n) : w.rangeAt N 0 (l.map f) := by
  intro j v hv
  rw [List.getElem?_map] at hv
  obtain ⟨z, hz, rfl⟩ := Option.map_eq_some_iff.1 hv
  obtain ⟨hj, e⟩ := List.getElem?_eq_some_iff.1 hz
  rw [Nat.zero_add, (h.2 j (by omega)).1, ← e]
  simp [List.getD, hj]
end
theorem below_setCells {B : Nat} {a : World} (b : Nat) (hb : B ≤ b) : ∀ (vs : List Value) (o : Nat) (w : World), Below B a w → Below B a (w.setCells b o vs)
  | [], _, _, h => h
  | v :: vs, o, w, h => below_setCells b hb vs (o + 1) (w.setCell ⟨b, o, none⟩ v) (h.setCell hb v)
/-- one result, in memory -/
theorem results_cell {P : Program} {fn : Func} {t : Tmp} {ty : TypeId} (h : fn.results = #[.cell t ty]) (tmps : Array Value) (w : World) (p : Addr) (hp : tmps.getD t undef = .pointer (some p)) {v : Value} {w' : World}
    (hv : (loadVar ty p).run P w = .ok v w') : (results fn tmps).run P w = .ok v w' := by
  have hp' : tmps[t]?.getD undef = .pointer (some p) := by simpa using hp
  rw [← hv]; simp [results, h, hp', asAddr]
theorem Arr.hasW {n N : Nat} {w : World} {l : List W} (h : Arr wval 0 n w N l) (hl : l.length = n) : HasW w w.heap.size (.slice (some ⟨N, 0, none⟩) n n) l := by
  subst hl
  exact .inr ⟨N, 0, l.length, rfl, Nat.le_refl _, h.1, fun i hi => by rw [Nat.zero_add]; exact (h.2 i hi).1⟩
theorem Arr.hasI {n N : Nat} {w : World} {l : List Int} (h : Arr ival 0 n w N l) (hl : l.length = n) : HasI w w.heap.size (.slice (some ⟨N, 0, none⟩) n n) l := by
  subst hl
  exact .inr ⟨N, 0, l.length, rfl, Nat.le_refl _, h.1, fun i hi => by rw [Nat.zero_add]; exact (h.2 i hi).1⟩
end Go.Proofs.Ytjhjielenbeoiaa
