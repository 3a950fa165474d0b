/-
  Slices of digests that a call owns: what becomes of them while others are made and appended to. No condition.
-/
import Derived.Test.YtekghohjjecenaaClone
import Derived.Deep.AppendLies
namespace Go.Proofs.Ytekghohjjecenaa
open Go.ChangeShapes Go.WideShapes Go.ChangeAt Go.RowKit
open Dg (W B)
theorem OwnW.below {base : Nat} {w w' : World} {v : Value} {l : List W} (h : OwnW base w v l) (hb : Below w.heap.size w w') : OwnW base w' v l := by
  obtain ⟨h1, h2⟩ := h
  refine ⟨h1, ?_⟩
  rcases h2 with h2 | ⟨g, cap, cur, hv, hg, hh, r⟩
  · exact .inl h2
  · exact .inr ⟨g, cap, cur, hv, hg, by rw [hb.block g (Array.getElem?_eq_some_iff.1 hh).1]; exact hh, r⟩
theorem OwnW.drewN {base : Nat} {w : World} {v : Value} {l : List W} (h : OwnW base w v l) (n : Nat) : OwnW base (w.drewN n) v l := h
theorem OwnW.alloc {base : Nat} {w : World} {v : Value} {l : List W} (h : OwnW base w v l) (o : Obj) : OwnW base (w.alloc o) v l := World.ownsRow.alloc h o
theorem OwnW.mono {base base' : Nat} {w : World} {v : Value} {l : List W} (h : OwnW base w v l) (hb : base' ≤ base) : OwnW base' w v l := World.ownsRow.mono h hb
theorem own_apart {b1 b2 : Nat} {w1 w2 : World} {v u : Value} {l m : List W} (h1 : OwnW b1 w1 v l) (h2 : OwnW b2 w2 u m) (hb : w1.heap.size ≤ b2) : u.ownBlock = none ∨ u.ownBlock ≠ v.ownBlock := by
  cases hu : u.ownBlock with
  | none => exact .inl rfl
  | some k =>
    right
    intro e
    have g1 := (h1.lt k e.symm).2
    have g2 := (h2.lt k hu).1
    omega
theorem own_apart2 {b1 b2 : Nat} {w1 w2 : World} {v u : Value} {l m : List W} (h1 : OwnW b1 w1 v l) (h2 : OwnW b2 w2 u m) (hb : w1.heap.size ≤ b2) : v.ownBlock = none ∨ v.ownBlock ≠ u.ownBlock := by
  rcases own_apart h1 h2 hb with h | h
  · cases hv : v.ownBlock with
    | none => exact .inl rfl
    | some k => right; rw [h]; exact fun e => by cases e
  · exact .inr h.symm
theorem OwnW.kept {base : Nat} {w w' : World} {v : Value} {l : List W} {row : Option Nat} (h : OwnW base w v l) (hg : w.grownBy w' row) (hne : v.ownBlock = none ∨ v.ownBlock ≠ row) : OwnW base w' v l := World.ownsRow.kept h hg hne
/-- an append of one word to an owned slice, at an operation that is wanted (guarded or not) -/
theorem wpList_append_word {ops : Array Oper} {rest : List Oper} {o : Oper} {a : Act} {Q : Exit → Act → World → Prop} {w : World} (hw : Region.wanted o (yielded ops a.tmps) = true) (s x : Operand)
    (ho : o.op = .call { callee := .builtin .append, args := #[s, x], argTypes := #[22, 22] })
    (base : Nat) (v : Value) (l : List W) (y : W) (b c : Nat) (hs : a.eval s = v) (own : OwnW base w v l) (hx : a.eval x = .slice (some ⟨b, 0, none⟩) 1 c)
    (hy : w.cell? ⟨b, 0, none⟩ = some (wval y)) (hl : l.length ≤ 1000000) (hbase : base ≤ w.heap.size)
    (h : ∀ g cap w', OwnW base w' (.slice (some ⟨g, 0, none⟩) (l.length + 1) cap) (l ++ [y]) → w.grownBy w' v.ownBlock → wpList Try.prog ops Q rest (a.put o.dst (.slice (some ⟨g, 0, none⟩) (l.length + 1) cap)) w') :
    wpList Try.prog ops Q (o :: rest) a w := by
  obtain ⟨i0, hi, hz0, hz1, hz2⟩ := info_parts infoWord
  refine wpList_step fun K hK => ?_
  rw [if_pos hw]
  refine wp_append_lies w s x _ ho base 25 i0 _ 1 8 Try.underlying22 hi hz0 hz1 hz2 rfl (by omega) v l.length (l.map wval) hs own ⟨b, 0, none⟩ 1 c [wval y] hx rfl ?_ (one_one y) (by omega) (by unfold maxLen; omega) (by omega) hbase _ rfl ?_
  · intro j u hu
    obtain ⟨hj, e⟩ := List.getElem?_eq_some_iff.1 hu
    obtain rfl : j = 0 := by simp at hj; omega
    rw [add_plain', Nat.add_zero, hy, ← e]; rfl
  · intro g cap w' h2 h3 _ _
    exact hK _ _ (h g cap w' (own_snoc h2) h3)
theorem alloc_word (w : World) (y : W) (t : TypeId) : (w.alloc (.cells #[.int .u64 (uv y)] t)).cell? ⟨w.heap.size, 0, none⟩ = some (wval y) := by
  rw [World.cell?_alloc_new]; rfl
theorem below_grown {base : Nat} {w0 w w3 : World} {v : Value} {l : List W} (hb : Below base w0 w) (hs : base ≤ w.heap.size) (own1 : OwnW base w v l) (grow : w.grownBy w3 v.ownBlock) : Below base w0 w3 :=
  hb.grown grow hs (fun k hk => (own1.lt k hk).1)
end Go.Proofs.Ytekghohjjecenaa
