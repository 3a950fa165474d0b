/-
  Slices of digests: parts of a slice, what a call owns, what keeps it, appends to it, copies, slice literals. No condition.
-/
import Derived.Test.YtkckimhkbnigkaaGen
import Derived.Deep.Onto
import Derived.Deep.AppendLies
import Derived.ArgAppend
namespace Go.Proofs.Ytkckimhkbnigkaa
open Go.ChangeShapes Go.WideShapes Go.ChangeAt Go.RowKit
open Dg (W B)

theorem wrap_word (i : Int) : IntKind.u64.wrap i = uv (BitVec.ofInt 64 i) := by
  unfold uv
  rw [BitVec.toNat_ofInt, IntKind.wrap_u64]
  omega
theorem take_cells {w : World} {b off : Nat} {l : List W} (k : Nat) (hc : ∀ i, i < l.length → w.cell? ⟨b, off + i, none⟩ = some (.int .u64 (uv (l.getD i 0)))) (i : Nat) (hi : i < (l.take k).length) : w.cell? ⟨b, off + i, none⟩ = some (.int .u64 (uv ((l.take k).getD i 0))) := by
  have h : i < k ∧ i < l.length := by simp at hi; omega
  rw [hc i h.2]
  simp [List.getD, h.1]
theorem drop_cells {w : World} {b off : Nat} {l : List W} (k : Nat) (hc : ∀ i, i < l.length → w.cell? ⟨b, off + i, none⟩ = some (.int .u64 (uv (l.getD i 0)))) (i : Nat) (hi : i < (l.drop k).length) : w.cell? ⟨b, off + k + i, none⟩ = some (.int .u64 (uv ((l.drop k).getD i 0))) := by
  have h : k + i < l.length := by simp at hi; omega
  rw [Nat.add_assoc, hc (k + i) h]
  simp [List.getD, List.getElem?_drop]
/-- the value v is a slice of the call's own, its digests are l -/
def OwnW (base : Nat) (w : World) (v : Value) (l : List W) : Prop := w.ownsRow base 34 1 v l.length (l.map wval)
theorem below_cell {w w' : World} {b off : Nat} {l : List W} (hb : b < w.heap.size) (h : Below w.heap.size w w') (hc : ∀ i, i < l.length → w.cell? ⟨b, off + i, none⟩ = some (.int .u64 (uv (l.getD i 0)))) (i : Nat) (hi : i < l.length) :
    w'.cell? ⟨b, off + i, none⟩ = some (.int .u64 (uv (l.getD i 0))) := by
  rw [h.cell (p := ⟨b, off + i, none⟩) hb]; exact hc i hi
theorem below_drewN {B : Nat} {a w : World} (h : Below B a w) (n : Nat) : Below B a (w.drewN n) := ⟨h.os, h.tape, h.output, h.size, h.block⟩
theorem own_snoc {base : Nat} {w : World} {v : Value} {l : List W} {r : W} (h : w.ownsRow base 34 1 v (l.length + 1) (l.map wval ++ [wval r])) : OwnW base w v (l ++ [r]) := by
  unfold OwnW
  rw [List.length_append, List.map_append]; exact h
theorem news_one (w : World) (n : Nat) (x : W) (t : TypeId) : ∀ j u, [wval x][j]? = some u → ((w.drewN n).alloc (.cells #[.int .u64 (uv x)] t)).cell? ((⟨w.heap.size, 0, none⟩ : Addr).add j) = some u :=
  World.news_of_block (w := (w.drewN n).alloc (.cells #[.int .u64 (uv x)] t)) (heap_alloc_new (w.drewN n) _)
theorem one_one (x : W) : ∀ u ∈ [wval x], u.oneCell' = true := fun u hu => by
  obtain rfl : u = wval x := by simpa using hu
  rfl
theorem HasW.below {w w' : World} {N M : Nat} {v : Value} {l : List W} (h : HasW w N v l) (hb : Below M w w') (hm : N ≤ M) : HasW w' N v l := by
  rcases h with ⟨a, cap, rfl, rfl⟩ | ⟨b, off, cap, rfl, h2, h3, h4⟩
  · exact .inl ⟨a, cap, rfl, rfl⟩
  · refine .inr ⟨b, off, cap, rfl, h2, h3, fun i hi => ?_⟩
    rw [hb.cell (p := ⟨b, off + i, none⟩) (Nat.lt_of_lt_of_le h3 hm)]; exact h4 i hi
theorem HasW.wide {w : World} {N M : Nat} {v : Value} {l : List W} (h : HasW w N v l) (hm : N ≤ M) : HasW w M v l := by
  rcases h with ⟨a, cap, rfl, rfl⟩ | ⟨b, off, cap, rfl, h2, h3, h4⟩
  · exact .inl ⟨a, cap, rfl, rfl⟩
  · exact .inr ⟨b, off, cap, rfl, h2, Nat.lt_of_lt_of_le h3 hm, h4⟩
theorem OwnW.has {base : Nat} {w : World} {v : Value} {l : List W} (h : OwnW base w v l) : HasW w w.heap.size v l := by
  rcases h.2 with ⟨rfl, h0⟩ | ⟨g, cap, cur, rfl, h1, h2, h3, h4, h5, h6⟩
  · exact .inl ⟨none, 0, rfl, List.length_eq_zero_iff.1 h0⟩
  · refine .inr ⟨g, 0, cap, rfl, h3, (Array.getElem?_eq_some_iff.1 h2).1, fun i hi => ?_⟩
    rw [Nat.zero_add, cell_of_row w g i _ _ _ h2]
    have e := congrArg (fun L : List Value => L[i]?) h6
    simp only [Nat.mul_one, List.getElem?_take, if_pos hi, List.getElem?_map] at e
    rw [← Array.getElem?_toList, e]
    simp [hi, wval]
/-- a slice that is built of words -/
theorem built_has (w : World) (l : List W) (t : TypeId) (cs : Array Value) (hc : cs = (l.map wval).toArray) : HasW (w.alloc (.cells cs t)) (w.heap.size + 1) (.slice (some ⟨w.heap.size, 0, none⟩) l.length l.length) l := by
  subst hc
  refine .inr ⟨w.heap.size, 0, l.length, rfl, Nat.le_refl _, by omega, fun i hi => ?_⟩
  rw [Nat.zero_add, World.cell?_alloc_new]
  simp [hi, wval]
theorem clone_facts {w0 w w4 : World} {t : TypeId} {vals : List Value} {n cap1 g1 : Nat} (hb : Below w0.heap.size w0 w)
    (own : w4.ownsRow w0.heap.size t 1 (.slice (some ⟨g1, 0, none⟩) n cap1) n vals) (grow : w.grownBy w4 (Value.slice none 0 0).ownBlock) :
    Below w0.heap.size w0 w4 ∧ w0.heap.size ≤ g1 ∧ g1 < w4.heap.size ∧ n ≤ cap1 ∧ (∀ i, i < n → w4.cell? ⟨g1, i, none⟩ = vals[i]?) ∧ ∀ i, w4.frozen? ⟨g1, i, none⟩ = false := by
  have h1 := own.lt g1 rfl
  refine ⟨hb.grown grow hb.size (fun k hk => by simp [Value.ownBlock] at hk), h1.1, h1.2, ?_, fun i hi => own.cellAt i (by omega), fun i => own.frozenAt i⟩
  rcases own.2 with ⟨hv, _⟩ | ⟨g, c, cur, hv, hgb, hg, hle, hmx, hsz, htake⟩
  · cases hv
  · simp only [Value.slice.injEq] at hv
    omega
theorem OwnW.below {base : Nat} {w w' : World} {v : Value} {l : List W} (h : OwnW base w v l) (hb : Below w.heap.size w w') : OwnW base w' v l := by
  obtain ⟨h1, h2⟩ := h
  refine ⟨h1, ?_⟩
  rcases h2 with h2 | ⟨g, cap, cur, hv, hg, hh, r⟩
  · exact .inl h2
  · exact .inr ⟨g, cap, cur, hv, hg, by rw [hb.block g (Array.getElem?_eq_some_iff.1 hh).1]; exact hh, r⟩
theorem OwnW.drewN {base : Nat} {w : World} {v : Value} {l : List W} (h : OwnW base w v l) (n : Nat) : OwnW base (w.drewN n) v l := h
theorem OwnW.alloc {base : Nat} {w : World} {v : Value} {l : List W} (h : OwnW base w v l) (o : Obj) : OwnW base (w.alloc o) v l := World.ownsRow.alloc h o
theorem OwnW.mono {base base' : Nat} {w : World} {v : Value} {l : List W} (h : OwnW base w v l) (hb : base' ≤ base) : OwnW base' w v l := World.ownsRow.mono h hb
theorem own_apart {b1 b2 : Nat} {w1 w2 : World} {v u : Value} {l m : List W} (h1 : OwnW b1 w1 v l) (h2 : OwnW b2 w2 u m) (hb : w1.heap.size ≤ b2) : u.ownBlock = none ∨ u.ownBlock ≠ v.ownBlock := by
  cases hu : u.ownBlock with
  | none => exact .inl rfl
  | some k =>
    right
    intro e
    have g1 := (h1.lt k e.symm).2
    have g2 := (h2.lt k hu).1
    omega
theorem own_apart2 {b1 b2 : Nat} {w1 w2 : World} {v u : Value} {l m : List W} (h1 : OwnW b1 w1 v l) (h2 : OwnW b2 w2 u m) (hb : w1.heap.size ≤ b2) : v.ownBlock = none ∨ v.ownBlock ≠ u.ownBlock := by
  rcases own_apart h1 h2 hb with h | h
  · cases hv : v.ownBlock with
    | none => exact .inl rfl
    | some k => right; rw [h]; exact fun e => by cases e
  · exact .inr h.symm
theorem OwnW.kept {base : Nat} {w w' : World} {v : Value} {l : List W} {row : Option Nat} (h : OwnW base w v l) (hg : w.grownBy w' row) (hne : v.ownBlock = none ∨ v.ownBlock ≠ row) : OwnW base w' v l := World.ownsRow.kept h hg hne
theorem alloc_word (w : World) (y : W) (t : TypeId) : (w.alloc (.cells #[.int .u64 (uv y)] t)).cell? ⟨w.heap.size, 0, none⟩ = some (wval y) := by
  rw [World.cell?_alloc_new]; rfl
theorem below_grown {base : Nat} {w0 w w3 : World} {v : Value} {l : List W} (hb : Below base w0 w) (hs : base ≤ w.heap.size) (own1 : OwnW base w v l) (grow : w.grownBy w3 v.ownBlock) : Below base w0 w3 :=
  hb.grown grow hs (fun k hk => (own1.lt k hk).1)
/-- a copy in which one word is changed -/
theorem set_has {w4 : World} {g n cap : Nat} {L : List W} {k : Nat} {y : W} (hn : n = L.length) (hcap : n ≤ cap) (hg : g < w4.heap.size) (hk : k < n)
    (hc : ∀ i, i < n → w4.cell? ⟨g, i, none⟩ = (L.map wval)[i]?) : HasW (w4.setCell ⟨g, k, none⟩ (.int .u64 (uv y))) w4.heap.size (.slice (some ⟨g, 0, none⟩) n cap) (L.set k y) := by
  subst hn
  refine .inr ⟨g, 0, cap, by simp, by simpa using hcap, hg, fun i hi => ?_⟩
  have hi' : i < L.length := by simpa using hi
  rw [Nat.zero_add]
  by_cases e : i = k
  · subst e
    rw [World.cell?_setCell_same (u := wval (L.getD i 0)) _ _ _ (by rw [hc i hi']; simp [hi'])]
    simp [hi']
  · rw [World.cell?_setCell_other _ _ _ _ (by intro h; have := congrArg Addr.off h; simp only at this; omega), hc i hi']
    simp [List.getD, Ne.symm e, hi', wval]
theorem own_parts {base : Nat} {w : World} {v : Value} {l : List W} (h : OwnW base w v l) :
    ∃ ao cp, v = .slice ao l.length cp ∧ l.length ≤ cp ∧ (ao = none → l.length = 0) ∧ (∀ A, ao = some A → ∃ g, A = ⟨g, 0, none⟩ ∧ g < w.heap.size) ∧ ∀ A, ao = some A → ∀ j u, (l.map wval)[j]? = some u → w.cell? (A.add j) = some u := by
  rcases h.2 with ⟨rfl, h0⟩ | ⟨g, cap, cur, rfl, h1, h2, h3, h4, h5, h6⟩
  · exact ⟨none, 0, by rw [h0], by omega, fun _ => h0, fun A e => (by cases e), fun A e => (by cases e)⟩
  · refine ⟨some ⟨g, 0, none⟩, cap, rfl, h3, fun e => (by cases e), fun A e => ⟨g, (Option.some.inj e).symm, (Array.getElem?_eq_some_iff.1 h2).1⟩, fun A e j u hu => ?_⟩
    obtain rfl := Option.some.inj e
    have hj : j < l.length := by have := (List.getElem?_eq_some_iff.1 hu).1; simpa using this
    rw [add_plain', Nat.zero_add, h.cellAt j (by omega)]; exact hu
theorem tail_has {base : Nat} {w : World} {g cp n : Nat} {a' : Option Addr} {l : List W} (hn : l.length = n) (h : OwnW base w (.slice (some ⟨g, 0, none⟩) n cp) l) (h1 : 1 ≤ n) (hcp : n ≤ cp) (ha : 1 < n → a' = some ⟨g, 1, none⟩) :
    HasW w w.heap.size (.slice a' (n - 1) (cp - 1)) (l.drop 1) := by
  subst hn
  by_cases h2 : 1 < l.length
  · obtain rfl := ha h2
    refine .inr ⟨g, 1, cp - 1, by simp, by simp; omega, (h.lt g rfl).2, fun i hi => ?_⟩
    have hi' : 1 + i < l.length := by simp at hi; omega
    rw [h.cellAt (1 + i) (by omega)]
    simp [hi', wval, List.getD, Nat.add_comm i 1]
  · have e : l.length - 1 = 0 := by omega
    refine .inl ⟨a', cp - 1, by rw [e], List.length_eq_zero_iff.1 (by simp; omega)⟩
theorem kept_none {base : Nat} {w w' : World} {v : Value} {l : List W} (h : OwnW base w v l) (hg : w.grownBy w' none) : OwnW base w' v l := by
  refine h.kept hg ?_
  cases v.ownBlock with
  | none => exact .inl rfl
  | some k => exact .inr (fun e => by cases e)
theorem below_none {base : Nat} {w0 w w3 : World} (hb : Below base w0 w) (hs : base ≤ w.heap.size) (grow : w.grownBy w3 none) : Below base w0 w3 :=
  hb.grown grow hs (fun k hk => by cases hk)
theorem HasB.below {w w' : World} {N M : Nat} {v : Value} {l : List B} (h : HasB w N v l) (hb : Below M w w') (hm : N ≤ M) : HasB w' N v l := by
  rcases h with ⟨a, cap, rfl, rfl⟩ | ⟨b, off, cap, rfl, h2, h3, h4⟩
  · exact .inl ⟨a, cap, rfl, rfl⟩
  · refine .inr ⟨b, off, cap, rfl, h2, h3, fun i hi => ?_⟩
    rw [hb.cell (p := ⟨b, off + i, none⟩) (Nat.lt_of_lt_of_le h3 hm)]; exact h4 i hi
/-- three numbers that are laid in memory -/
theorem three_at (w : World) (x0 x1 x2 : Int) (t : TypeId) (k : Nat) (hk : k < 3) : ∃ x, (w.alloc (.cells #[.int .i64 x0, .int .i64 x1, .int .i64 x2] t)).cell? ⟨w.heap.size, k, none⟩ = some (.int .i64 x) := by
  have : k = 0 ∨ k = 1 ∨ k = 2 := by omega
  rcases this with rfl | rfl | rfl
  · exact ⟨x0, by rw [World.cell?_alloc_new]; rfl⟩
  · exact ⟨x1, by rw [World.cell?_alloc_new]; rfl⟩
  · exact ⟨x2, by rw [World.cell?_alloc_new]; rfl⟩
theorem three_below {w w0 wr : World} {x0 x1 x2 : Int} {t : TypeId} (h0 : w0 = w.alloc (.cells #[.int .i64 x0, .int .i64 x1, .int .i64 x2] t)) (hb : Below w0.heap.size w0 wr) (k : Nat) (hk : k < 3) :
    ∃ x, wr.cell? ⟨w.heap.size, k, none⟩ = some (.int .i64 x) := by
  obtain ⟨x, hx⟩ := three_at w x0 x1 x2 t k hk
  refine ⟨x, ?_⟩
  rw [hb.cell (p := ⟨w.heap.size, k, none⟩) (by rw [h0]; simp), h0]; exact hx
theorem leaves_cell {w : World} {N : Nat} {ao : Option Addr} {n cap : Nat} {l : List W} (h : HasW w N (.slice ao n cap) l) (k : Nat) (hk : k < n) : ∃ b off, ao = some ⟨b, off, none⟩ ∧ w.cell? ⟨b, off + k, none⟩ = some (.int .u64 (uv (l.getD k 0))) := by
  rcases h with ⟨a, c, e, rfl⟩ | ⟨b, off, c, e, _, _, h4⟩
  · simp only [Value.slice.injEq] at e; omega
  · simp only [Value.slice.injEq] at e
    exact ⟨b, off, e.1, h4 k (by omega)⟩
end Go.Proofs.Ytkckimhkbnigkaa
