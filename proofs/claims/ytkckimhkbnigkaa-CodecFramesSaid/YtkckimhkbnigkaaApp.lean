/-
  Slices of bytes that may be appended to without a caller's memory being written: the call's own, and those without room. Condition: the bytes are fewer than a thousand millions.
-/
import Derived.Test.YtkckimhkbnigkaaStrs
import Derived.ArgAppend
import Derived.Lib.AppendStr
namespace Go.Proofs.Ytkckimhkbnigkaa
open Go.ChangeShapes Go.WideShapes Go.ChangeAt Go.RowKit
open Dg (W B)
/-- the value may be appended to: it is the call's own, or has no room -/
def AppB (base : Nat) (w : World) (v : Value) (l : List B) : Prop := OwnB base w v l ∨ ∃ a, v = .slice a l.length l.length ∧ HasB w w.heap.size v l
theorem AppB.form {base : Nat} {w : World} {v : Value} {l : List B} (h : AppB base w v l) : ∃ a cap, v = .slice a l.length cap := by
  rcases h with h | ⟨a, rfl, _⟩
  · exact h.form
  · exact ⟨a, _, rfl⟩
theorem AppB.has {base : Nat} {w : World} {v : Value} {l : List B} (h : AppB base w v l) : HasB w w.heap.size v l := by
  rcases h with h | ⟨a, rfl, h⟩
  · exact h.has
  · exact h
theorem AppB.alloc {base : Nat} {w : World} {v : Value} {l : List B} (h : AppB base w v l) (o : Obj) : AppB base (w.alloc o) v l := by
  rcases h with h | ⟨a, rfl, h⟩
  · exact .inl (h.alloc o)
  · exact .inr ⟨a, rfl, (h.below ((Below.refl w.heap.size w).alloc (Nat.le_refl _) o) (Nat.le_refl _)).wide (by simp)⟩
theorem AppB.below {base : Nat} {w w' : World} {v : Value} {l : List B} (h : AppB base w v l) (hb : Below w.heap.size w w') : AppB base w' v l := by
  rcases h with h | ⟨a, rfl, h⟩
  · exact .inl (h.below hb)
  · exact .inr ⟨a, rfl, (h.below hb (Nat.le_refl _)).wide hb.size⟩
theorem AppB.nil (w : World) (base : Nat) : AppB base w (.slice none 0 0) [] := .inl (OwnB.nil w base)
theorem run_append_app (w : World) (ty : TypeId) (base : Nat) (v x : Value) (l ys : List B) (h : AppB base w v l) (N : Nat) (hx : HasB w N x ys) (hpos : 0 < ys.length) (hl : l.length + ys.length ≤ 1000000000) (hbase : base ≤ w.heap.size) :
    ∃ a cap w', (Builtin.append_ #[22, 22] ty #[v, x]).run Try.prog w = .ok (.slice a (l.length + ys.length) cap) w' ∧ OwnB base w' (.slice a (l.length + ys.length) cap) (l ++ ys) ∧ Below base w w' := by
  rcases h with own | ⟨a, rfl, hv⟩
  · obtain ⟨a, cap, w', h1, h2, h3⟩ := run_append_bytes w ty base v x l ys own N hx hl hbase
    exact ⟨a, cap, w', h1, h2, below_grownB (Below.refl _ _) hbase own h3⟩
  · obtain ⟨i0, hi, hz0, hz1, hz2⟩ := info_parts infoU8
    rcases hx with ⟨ax, c, rfl, rfl⟩ | ⟨b, off, c, rfl, h2, h3, h4⟩
    · simp at hpos
    · have hnews : ∀ j u, (ys.map bval)[j]? = some u → w.cell? ((⟨b, off, none⟩ : Addr).add j) = some u := by
        intro j u hu
        rw [List.getElem?_map] at hu
        obtain ⟨z, hz, rfl⟩ := Option.map_eq_some_iff.1 hu
        obtain ⟨hj, e⟩ := List.getElem?_eq_some_iff.1 hz
        rw [add_plain', h4 j hj, ← e]
        simp [hj, bval]
      have fin : ∀ v' w', OwnB w.heap.size w' v' (l ++ ys) → w.grownBy w' none → ∃ a' cap, v' = .slice a' (l.length + ys.length) cap ∧ OwnB base w' (.slice a' (l.length + ys.length) cap) (l ++ ys) ∧ Below base w w' := by
        intro v' w' own grow
        obtain ⟨a', cap, rfl⟩ := own.form
        have e : (l ++ ys).length = l.length + ys.length := by rw [List.length_append]
        rw [e] at own ⊢
        exact ⟨a', cap, rfl, own.mono hbase, ((Below.refl w.heap.size w).grown grow (Nat.le_refl _) (fun k hk => by cases hk)).mono hbase⟩
      cases a with
      | none =>
        have hl0 : l = [] := by
          rcases hv with ⟨_, _, _, e⟩ | ⟨_, _, _, e, _⟩
          · exact e
          · simp at e
        subst hl0
        obtain ⟨a', cap, w', h5, h6, h7⟩ := run_append_bytes w ty w.heap.size _ _ [] ys (OwnB.nil w _) w.heap.size (.inr ⟨b, off, c, rfl, h2, World.block_lt_of_cell? _ _ (h4 0 hpos), h4⟩) (by simpa using hl) (Nat.le_refl _)
        obtain ⟨a2, cap2, e, h8, h9⟩ := fin _ _ h6 h7
        exact ⟨a2, cap2, w', by rw [← e]; exact h5, h8, h9⟩
      | some A =>
        have hcells : ∀ j u, (l.map bval)[j]? = some u → w.cell? (A.add j) = some u := by
          intro j u hu
          rw [List.getElem?_map] at hu
          obtain ⟨z, hz, rfl⟩ := Option.map_eq_some_iff.1 hu
          obtain ⟨hj, e⟩ := List.getElem?_eq_some_iff.1 hz
          rcases hv with ⟨_, _, _, e2⟩ | ⟨b2, off2, c2, e2, g1, g2, g3⟩
          · subst e2; simp at hj
          · simp only [Value.slice.injEq, Option.some.injEq] at e2
            obtain ⟨rfl, _, _⟩ := e2
            rw [add_plain', g3 j hj, ← e]
            simp [hj, bval]
        obtain ⟨v', w', hrun, r1, r2⟩ := run_append_arg_grows (P := Try.prog) w 22 ty 5 i0 _ 1 1 Try.underlying22 hi hz0 hz1 hz2 rfl (by omega) A l.length l.length (l.map bval) (by simp) hcells ⟨b, off, none⟩ ys.length c (ys.map bval) (by simp) hnews (by omega) (by unfold maxLen; omega) (by omega)
        have own : OwnB w.heap.size w' v' (l ++ ys) := by unfold OwnB; rw [List.length_append, List.map_append]; exact r1
        obtain ⟨a2, cap2, e, h8, h9⟩ := fin _ _ own r2
        exact ⟨a2, cap2, w', by rw [← e]; exact hrun, h8, h9⟩
/-- the same at an operation that is wanted -/
theorem wpList_append_app {ops : Array Oper} {rest : List Oper} {o : Oper} {a : Act} {Q : Exit → Act → World → Prop} {w : World} (hw : Region.wanted o (yielded ops a.tmps) = true) (s x : Operand)
    (ho : o.op = .call { callee := .builtin .append, args := #[s, x], argTypes := #[22, 22] })
    (base : Nat) (v xv : Value) (l ys : List B) (hs : a.eval s = v) (h0 : AppB base w v l) (hx : a.eval x = xv) (N : Nat) (hy : HasB w N xv ys) (hpos : 0 < ys.length) (hl : l.length + ys.length ≤ 1000000000) (hbase : base ≤ w.heap.size) (n : Nat) (hn : l.length + ys.length = n)
    (h : ∀ b cap w', OwnB base w' (.slice b n cap) (l ++ ys) → Below base w w' → wpList Try.prog ops Q rest (a.put o.dst (.slice b n cap)) w') :
    wpList Try.prog ops Q (o :: rest) a w := by
  subst hn
  refine wpList_step fun K hK => ?_
  rw [if_pos hw]
  obtain ⟨b, cap, w', h1, h2, h3⟩ := run_append_app w o.type base v xv l ys h0 N hy hpos hl hbase
  unfold Oper.wp execOp
  simp only [ho, resolve, invoke, builtin, Sem.run_bind, Sem.run_pure, Result.andThen_ok, List.map_toArray, List.map_cons, List.map_nil, hs, hx, h1]
  exact hK _ _ (h b cap w' h2 h3)
theorem strCells_eq (s : ByteArray) : Lib.strCells s = (strB s).map bval := by
  unfold strB
  rw [List.map_map]
  rfl
/-- an append of a string's bytes to an owned slice -/
theorem wpList_append_text {ops : Array Oper} {rest : List Oper} {o : Oper} {a : Act} {Q : Exit → Act → World → Prop} {w : World} (hw : Region.wanted o (yielded ops a.tmps) = true) (s x : Operand)
    (ho : o.op = .call { callee := .builtin .append, args := #[s, x], argTypes := #[22, 9] })
    (base : Nat) (v : Value) (l : List B) (t : ByteArray) (hs : a.eval s = v) (own : OwnB base w v l) (hx : a.eval x = .string t) (hl : l.length + (strB t).length ≤ 1000000000) (hbase : base ≤ w.heap.size) (n : Nat) (hn : l.length + (strB t).length = n)
    (h : ∀ b cap w', OwnB base w' (.slice b n cap) (l ++ strB t) → Below base w w' → wpList Try.prog ops Q rest (a.put o.dst (.slice b n cap)) w') :
    wpList Try.prog ops Q (o :: rest) a w := by
  subst hn
  obtain ⟨i0, hi, hz0, hz1, hz2⟩ := info_parts infoU8
  refine wpList_step fun K hK => ?_
  rw [if_pos hw]
  rw [strB_len] at hl h
  obtain ⟨v', w', h1, h2, h3, _⟩ := Lib.run_append_own_string (P := Try.prog) w base 22 9 o.type 5 i0 Try.underlying22 Try.underlying9 hi hz0 hz1 hz2 v l.length (l.map bval) own t (by unfold maxLen; omega) (by omega) hbase
  have own2 : OwnB base w' v' (l ++ strB t) := by unfold OwnB; rw [List.length_append, List.map_append, strB_len, ← strCells_eq]; exact h2
  have bel := below_grownB (Below.refl base w) hbase own h3
  obtain ⟨b, cap, rfl⟩ := own2.form
  rw [List.length_append, strB_len] at own2 h1
  unfold Oper.wp execOp
  simp only [ho, resolve, invoke, builtin, Sem.run_bind, Sem.run_pure, Result.andThen_ok, List.map_toArray, List.map_cons, List.map_nil, hs, hx, h1]
  exact hK _ _ (h b cap w' own2 bel)
end Go.Proofs.Ytkckimhkbnigkaa
