/-
  Slices of bytes: what a call owns, what keeps it, an append of any bytes to an owned slice; slice literals. No condition.
-/
import Derived.Test.YtkckimhkbnigkaaWords
import Derived.Test.YtkckimhkbnigkaaOpen
namespace Go.Proofs.Ytkckimhkbnigkaa
open Go.ChangeShapes Go.WideShapes Go.ChangeAt Go.RowKit
open Dg (W B)
theorem infoU8 : (Try.prog.info? 5).map (fun i => (i.zero, i.size, i.bytes)) = some (some (.int .u8 0), 1, 1) := by kernel_rfl
/-- the value v is a slice of the call's own, its numbers are l -/
def OwnB (base : Nat) (w : World) (v : Value) (l : List B) : Prop := w.ownsRow base 5 1 v l.length (l.map bval)
theorem HasB.at {w : World} {N : Nat} {a : Option Addr} {n cap : Nat} {l : List B} (h : HasB w N (.slice a n cap) l) (k : Nat) (hk : k < n) : ∃ b off, a = some ⟨b, off, none⟩ ∧ w.cell? ⟨b, off + k, none⟩ = some (.int .u8 (bv (l.getD k 0))) := by
  rcases h with ⟨a, c, e, rfl⟩ | ⟨b, off, c, e, _, _, h4⟩
  · simp only [Value.slice.injEq] at e; omega
  · simp only [Value.slice.injEq] at e
    exact ⟨b, off, e.1, h4 k (by omega)⟩
theorem OwnB.has {base : Nat} {w : World} {v : Value} {l : List B} (h : OwnB base w v l) : HasB w w.heap.size v l := by
  rcases h.2 with ⟨rfl, h0⟩ | ⟨g, cap, cur, rfl, h1, h2, h3, h4, h5, h6⟩
  · exact .inl ⟨none, 0, rfl, List.length_eq_zero_iff.1 h0⟩
  · refine .inr ⟨g, 0, cap, rfl, h3, (Array.getElem?_eq_some_iff.1 h2).1, fun i hi => ?_⟩
    rw [Nat.zero_add, cell_of_row w g i _ _ _ h2]
    have e := congrArg (fun L : List Value => L[i]?) h6
    simp only [Nat.mul_one, List.getElem?_take, if_pos hi, List.getElem?_map] at e
    rw [← Array.getElem?_toList, e]
    simp [hi, bval]
theorem OwnB.below {base : Nat} {w w' : World} {v : Value} {l : List B} (h : OwnB base w v l) (hb : Below w.heap.size w w') : OwnB base w' v l := by
  obtain ⟨h1, h2⟩ := h
  refine ⟨h1, ?_⟩
  rcases h2 with h2 | ⟨g, cap, cur, hv, hg, hh, r⟩
  · exact .inl h2
  · exact .inr ⟨g, cap, cur, hv, hg, by rw [hb.block g (Array.getElem?_eq_some_iff.1 hh).1]; exact hh, r⟩
/-- a slice of numbers that is built -/
theorem built_bytes (w : World) (l : List B) (t : TypeId) (cs : Array Value) (hc : cs = (l.map bval).toArray) : HasB (w.alloc (.cells cs t)) (w.heap.size + 1) (.slice (some ⟨w.heap.size, 0, none⟩) l.length l.length) l := by
  subst hc
  refine .inr ⟨w.heap.size, 0, l.length, rfl, Nat.le_refl _, by omega, fun i hi => ?_⟩
  rw [Nat.zero_add, World.cell?_alloc_new]
  simp [hi, bval]
theorem HasB.wide {w : World} {N M : Nat} {v : Value} {l : List B} (h : HasB w N v l) (hm : N ≤ M) : HasB w M v l := by
  rcases h with ⟨a, cap, rfl, rfl⟩ | ⟨b, off, cap, rfl, h2, h3, h4⟩
  · exact .inl ⟨a, cap, rfl, rfl⟩
  · exact .inr ⟨b, off, cap, rfl, h2, Nat.lt_of_lt_of_le h3 hm, h4⟩
theorem OwnB.mono {base base' : Nat} {w : World} {v : Value} {l : List B} (h : OwnB base w v l) (hb : base' ≤ base) : OwnB base' w v l := World.ownsRow.mono h hb
theorem OwnB.alloc {base : Nat} {w : World} {v : Value} {l : List B} (h : OwnB base w v l) (o : Obj) : OwnB base (w.alloc o) v l := World.ownsRow.alloc h o
theorem OwnB.drewN {base : Nat} {w : World} {v : Value} {l : List B} (h : OwnB base w v l) (n : Nat) : OwnB base (w.drewN n) v l := h
theorem OwnB.nil (w : World) (base : Nat) : OwnB base w (.slice none 0 0) [] := World.ownsRow_nil _ _ _ _
theorem OwnB.form {base : Nat} {w : World} {v : Value} {l : List B} (h : OwnB base w v l) : ∃ a cap, v = .slice a l.length cap := h.has.form
/-- an append of some bytes (there may be none) to an owned slice -/
theorem run_append_bytes (w : World) (ty : TypeId) (base : Nat) (v x : Value) (l ys : List B) (own : OwnB base w v l) (N : Nat) (hx : HasB w N x ys) (hl : l.length + ys.length ≤ 1000000000) (hbase : base ≤ w.heap.size) :
    ∃ a cap w', (Builtin.append_ #[22, 22] ty #[v, x]).run Try.prog w = .ok (.slice a (l.length + ys.length) cap) w' ∧ OwnB base w' (.slice a (l.length + ys.length) cap) (l ++ ys) ∧ w.grownBy w' v.ownBlock := by
  obtain ⟨i0, hi, hz0, hz1, hz2⟩ := info_parts infoU8
  have key : ∀ (ad : Addr) (m c : Nat), m = ys.length → (∀ j u, (ys.map bval)[j]? = some u → w.cell? (ad.add j) = some u) →
      ∃ a cap w', (Builtin.append_ #[22, 22] ty #[v, .slice (some ad) m c]).run Try.prog w = .ok (.slice a (l.length + ys.length) cap) w' ∧ OwnB base w' (.slice a (l.length + ys.length) cap) (l ++ ys) ∧ w.grownBy w' v.ownBlock := by
    intro ad m c hm hc
    subst hm
    obtain ⟨v', w', h1, h2, h3, _⟩ := run_append_own_at (P := Try.prog) w base 22 ty 5 i0 _ 1 1 Try.underlying22 hi hz0 hz1 hz2 rfl (by omega) v l.length (l.map bval) own ad ys.length c (ys.map bval) (by simp) hc
      (fun u hu => by obtain ⟨z, _, rfl⟩ := List.mem_map.1 hu; rfl) (by unfold maxLen; omega) (by omega) hbase
    have h2' : OwnB base w' v' (l ++ ys) := by unfold OwnB; rw [List.length_append, List.map_append]; exact h2
    obtain ⟨a, cap, rfl⟩ := h2'.form
    rw [List.length_append] at h1 h2'
    exact ⟨a, cap, w', h1, h2', h3⟩
  rcases hx with ⟨a, c, rfl, rfl⟩ | ⟨b, off, c, rfl, h2, h3, h4⟩
  · cases a with
    | some ad => exact key ad 0 c rfl (fun j u hu => by simp at hu)
    | none =>
      obtain ⟨a', cap', rfl⟩ := own.form
      have hcap : l.length ≤ cap' := by
        rcases own.2 with ⟨e, h0⟩ | ⟨g, cap, cur, e, _, _, h5, _⟩
        · simp only [Value.slice.injEq] at e; omega
        · simp only [Value.slice.injEq] at e; omega
      refine ⟨a', cap', w, ?_, by simpa using own, ⟨rfl, rfl, rfl, Nat.le_refl _, fun _ _ _ => rfl⟩⟩
      cases a' with
      | none => simp [Builtin.append_, run_underlying Try.underlying22, sizeOf, typeInfo, hi, Builtin.lenOf, Builtin.firstCells, hcap]
      | some ad => simp [Builtin.append_, run_underlying Try.underlying22, sizeOf, typeInfo, hi, Builtin.lenOf, Builtin.firstCells, hcap, storeCells]
  · refine key ⟨b, off, none⟩ _ c rfl fun j u hu => ?_
    rw [List.getElem?_map] at hu
    obtain ⟨z, hz, rfl⟩ := Option.map_eq_some_iff.1 hu
    obtain ⟨hj, e⟩ := List.getElem?_eq_some_iff.1 hz
    rw [add_plain', h4 j hj, ← e]
    simp [hj, bval]
/-- the same at an operation that is wanted (guarded or not) -/
theorem wpList_append_bytes {ops : Array Oper} {rest : List Oper} {o : Oper} {a : Act} {Q : Exit → Act → World → Prop} {w : World} (hw : Region.wanted o (yielded ops a.tmps) = true) (s x : Operand)
    (ho : o.op = .call { callee := .builtin .append, args := #[s, x], argTypes := #[22, 22] })
    (base : Nat) (v xv : Value) (l ys : List B) (hs : a.eval s = v) (own : OwnB base w v l) (hx : a.eval x = xv) (N : Nat) (hy : HasB w N xv ys) (hl : l.length + ys.length ≤ 1000000000) (hbase : base ≤ w.heap.size) (n : Nat) (hn : l.length + ys.length = n)
    (h : ∀ b cap w', OwnB base w' (.slice b n cap) (l ++ ys) → w.grownBy w' v.ownBlock → wpList Try.prog ops Q rest (a.put o.dst (.slice b n cap)) w') :
    wpList Try.prog ops Q (o :: rest) a w := by
  subst hn
  refine wpList_step fun K hK => ?_
  rw [if_pos hw]
  obtain ⟨b, cap, w', h1, h2, h3⟩ := run_append_bytes w o.type base v xv l ys own N hy hl hbase
  unfold Oper.wp execOp
  simp only [ho, resolve, invoke, builtin, Sem.run_bind, Sem.run_pure, Result.andThen_ok, List.map_toArray, List.map_cons, List.map_nil, hs, hx, h1]
  exact hK _ _ (h b cap w' h2 h3)
theorem below_grownB {base : Nat} {w0 w w3 : World} {v : Value} {l : List B} (hb : Below base w0 w) (hs : base ≤ w.heap.size) (own1 : OwnB base w v l) (grow : w.grownBy w3 v.ownBlock) : Below base w0 w3 :=
  hb.grown grow hs (fun k hk => (World.ownsRow.lt own1 k hk).1)
end Go.Proofs.Ytkckimhkbnigkaa
