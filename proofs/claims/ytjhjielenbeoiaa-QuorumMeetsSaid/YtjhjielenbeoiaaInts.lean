/-
  Slices of numbers: what a call owns, what keeps it, appends of one and of two numbers; slice literals. No condition.
-/
import Derived.Test.YtjhjielenbeoiaaGen
namespace Go.Proofs.Ytjhjielenbeoiaa
open Go.ChangeShapes Go.WideShapes Go.ChangeAt Go.RowKit
open Dg (W B)
theorem infoInt : (Try.prog.info? 3).map (fun i => (i.zero, i.size, i.bytes)) = some (some (.int .i64 0), 1, 8) := by kernel_rfl
def ival (x : Int) : Value := .int .i64 x
/-- the value v is a slice whose numbers are l, in blocks below N -/
def HasI (w : World) (N : Nat) (v : Value) (l : List Int) : Prop :=
  (∃ a cap, v = .slice a 0 cap ∧ l = []) ∨ ∃ b off cap, v = .slice (some ⟨b, off, none⟩) l.length cap ∧ l.length ≤ cap ∧ b < N ∧ ∀ i, i < l.length → w.cell? ⟨b, off + i, none⟩ = some (.int .i64 (l.getD i 0))
/-- the value v is a slice of the call's own, its numbers are l -/
def OwnI (base : Nat) (w : World) (v : Value) (l : List Int) : Prop := w.ownsRow base 3 1 v l.length (l.map ival)
theorem HasI.form {w : World} {N : Nat} {v : Value} {l : List Int} (h : HasI w N v l) : ∃ a cap, v = .slice a l.length cap := by
  rcases h with ⟨a, cap, rfl, rfl⟩ | ⟨b, off, cap, rfl, _⟩
  · exact ⟨a, cap, rfl⟩
  · exact ⟨_, cap, rfl⟩
theorem HasI.below {w w' : World} {N M : Nat} {v : Value} {l : List Int} (h : HasI w N v l) (hb : Below M w w') (hm : N ≤ M) : HasI w' N v l := by
  rcases h with ⟨a, cap, rfl, rfl⟩ | ⟨b, off, cap, rfl, h2, h3, h4⟩
  · exact .inl ⟨a, cap, rfl, rfl⟩
  · refine .inr ⟨b, off, cap, rfl, h2, h3, fun i hi => ?_⟩
    rw [hb.cell (p := ⟨b, off + i, none⟩) (Nat.lt_of_lt_of_le h3 hm)]; exact h4 i hi
theorem HasI.at {w : World} {N : Nat} {a : Option Addr} {n cap : Nat} {l : List Int} (h : HasI w N (.slice a n cap) l) (k : Nat) (hk : k < n) : ∃ b off, a = some ⟨b, off, none⟩ ∧ w.cell? ⟨b, off + k, none⟩ = some (.int .i64 (l.getD k 0)) := by
  rcases h with ⟨a, c, e, rfl⟩ | ⟨b, off, c, e, _, _, h4⟩
  · simp only [Value.slice.injEq] at e; omega
  · simp only [Value.slice.injEq] at e
    exact ⟨b, off, e.1, h4 k (by omega)⟩
theorem OwnI.has {base : Nat} {w : World} {v : Value} {l : List Int} (h : OwnI base w v l) : HasI w w.heap.size v l := by
  rcases h.2 with ⟨rfl, h0⟩ | ⟨g, cap, cur, rfl, h1, h2, h3, h4, h5, h6⟩
  · exact .inl ⟨none, 0, rfl, List.length_eq_zero_iff.1 h0⟩
  · refine .inr ⟨g, 0, cap, rfl, h3, (Array.getElem?_eq_some_iff.1 h2).1, fun i hi => ?_⟩
    rw [Nat.zero_add, cell_of_row w g i _ _ _ h2]
    have e := congrArg (fun L : List Value => L[i]?) h6
    simp only [Nat.mul_one, List.getElem?_take, if_pos hi, List.getElem?_map] at e
    rw [← Array.getElem?_toList, e]
    simp [hi, ival]
theorem OwnI.below {base : Nat} {w w' : World} {v : Value} {l : List Int} (h : OwnI base w v l) (hb : Below w.heap.size w w') : OwnI base w' v l := by
  obtain ⟨h1, h2⟩ := h
  refine ⟨h1, ?_⟩
  rcases h2 with h2 | ⟨g, cap, cur, hv, hg, hh, r⟩
  · exact .inl h2
  · exact .inr ⟨g, cap, cur, hv, hg, by rw [hb.block g (Array.getElem?_eq_some_iff.1 hh).1]; exact hh, r⟩
/-- a slice of numbers that is built -/
theorem built_ints (w : World) (l : List Int) (t : TypeId) (cs : Array Value) (hc : cs = (l.map ival).toArray) : HasI (w.alloc (.cells cs t)) (w.heap.size + 1) (.slice (some ⟨w.heap.size, 0, none⟩) l.length l.length) l := by
  subst hc
  refine .inr ⟨w.heap.size, 0, l.length, rfl, Nat.le_refl _, by omega, fun i hi => ?_⟩
  rw [Nat.zero_add, World.cell?_alloc_new]
  simp [hi, ival]
/-- an append of some numbers to an owned slice, at an operation that is wanted (guarded or not) -/
theorem wpList_append_ints {ops : Array Oper} {rest : List Oper} {o : Oper} {a : Act} {Q : Exit → Act → World → Prop} {w : World} (hw : Region.wanted o (yielded ops a.tmps) = true) (s x : Operand)
    (ho : o.op = .call { callee := .builtin .append, args := #[s, x], argTypes := #[34, 34] })
    (base : Nat) (v : Value) (l ys : List Int) (b m c : Nat) (hs : a.eval s = v) (own : OwnI base w v l) (hx : a.eval x = .slice (some ⟨b, 0, none⟩) m c) (hm : m = ys.length) (hm0 : 0 < m)
    (hy : ∀ j, j < ys.length → w.cell? ⟨b, j, none⟩ = some (.int .i64 (ys.getD j 0))) (hl : l.length + m ≤ 1000000) (hbase : base ≤ w.heap.size)
    (h : ∀ g cap w', OwnI base w' (.slice (some ⟨g, 0, none⟩) (l.length + m) cap) (l ++ ys) → w.grownBy w' v.ownBlock → wpList Try.prog ops Q rest (a.put o.dst (.slice (some ⟨g, 0, none⟩) (l.length + m) cap)) w') :
    wpList Try.prog ops Q (o :: rest) a w := by
  subst hm
  obtain ⟨i0, hi, hz0, hz1, hz2⟩ := info_parts infoInt
  refine wpList_step fun K hK => ?_
  rw [if_pos hw]
  refine wp_append_lies w s x _ ho base 3 i0 _ 1 8 Try.underlying34 hi hz0 hz1 hz2 rfl (by omega) v l.length (l.map ival) hs own ⟨b, 0, none⟩ ys.length c (ys.map ival) hx (by simp) ?_ ?_ hm0 (by unfold maxLen; omega) (by omega) hbase _ rfl ?_
  · intro j u hu
    rw [List.getElem?_map] at hu
    obtain ⟨z, hz, rfl⟩ := Option.map_eq_some_iff.1 hu
    obtain ⟨hj, e⟩ := List.getElem?_eq_some_iff.1 hz
    rw [add_plain', Nat.zero_add, hy j hj, ← e]
    simp [hj, ival]
  · intro u hu
    obtain ⟨z, _, rfl⟩ := List.mem_map.1 hu
    rfl
  · intro g cap w' h2 h3 _ _
    refine hK _ _ (h g cap w' ?_ h3)
    unfold OwnI
    rw [List.length_append, List.map_append]; exact h2
theorem below_grownI {base : Nat} {w0 w w3 : World} {v : Value} {l : List Int} (hb : Below base w0 w) (hs : base ≤ w.heap.size) (own1 : OwnI base w v l) (grow : w.grownBy w3 v.ownBlock) : Below base w0 w3 :=
  hb.grown grow hs (fun k hk => (own1.lt k hk).1)
end Go.Proofs.Ytjhjielenbeoiaa
