/-
  An append of bytes (there may be none) to a slice of bytes that has no room behind its length; such a slice cut out of another one. Condition: the bytes are fewer than a thousand millions.
-/
import Derived.Test.YtkckimhkbnigkaaSub
import Derived.Test.YtkckimhkbnigkaaSeq
import Derived.ArgAppend
namespace Go.Proofs.Ytkckimhkbnigkaa
open Go.ChangeShapes Go.WideShapes Go.ChangeAt Go.RowKit
open Dg (W B)
/-- b[:k:m] -/
theorem run_bfull (a : Option Addr) (len cap k : Nat) (x y : Int) (w : World) (h : k ≤ cap) (hn : a = none → cap = 0) (hx : x = k) (hy : y = k) :
    (Instr.slice 22 (.slice a len cap) none (some (.int .i64 x)) (some (.int .i64 y))).run Try.prog w = .ok (.slice a k k) w := by
  subst hx; subst hy
  cases a with
  | none =>
    obtain rfl := hn rfl
    obtain rfl : k = 0 := by omega
    simp [Instr.slice, go_sem]
  | some ad => simp [Instr.slice, go_sem, h]
theorem HasB.full {w : World} {N : Nat} {a : Option Addr} {m cap : Nat} {l : List B} (h : HasB w N (.slice a m cap) l) (hm : m = l.length) : HasB w N (.slice a m m) l := by
  subst hm
  rcases h with ⟨a', c, e, rfl⟩ | ⟨b, off, c, e, h1, h2, h3⟩
  · exact .inl ⟨a, 0, rfl, rfl⟩
  · simp only [Value.slice.injEq] at e
    obtain ⟨rfl, -, rfl⟩ := e
    exact .inr ⟨b, off, _, rfl, Nat.le_refl _, h2, h3⟩
theorem run_append_full (w : World) (ty : TypeId) (a : Option Addr) (n : Nat) (x : Value) (l ys : List B) (N : Nat) (hv : HasB w N (.slice a n n) l) (hn : n = l.length) (hx : HasB w N x ys) (hN : N = w.heap.size) (hl : l.length + ys.length ≤ 1000000000) :
    ∃ a' cap w', (Builtin.append_ #[22, 22] ty #[.slice a n n, x]).run Try.prog w = .ok (.slice a' (n + ys.length) cap) w' ∧ HasB w' w'.heap.size (.slice a' (n + ys.length) cap) (l ++ ys) ∧ Below w.heap.size w w' := by
  subst hN
  obtain ⟨i0, hi, hz0, hz1, hz2⟩ := info_parts infoU8
  rcases hx with ⟨ax, c, rfl, rfl⟩ | ⟨b, off, c, rfl, h2, h3, h4⟩
  · refine ⟨a, n, w, ?_, by simpa using hv, Below.refl _ _⟩
    cases ax <;> cases a <;> simp [Builtin.append_, run_underlying Try.underlying22, sizeOf, typeInfo, hi, Builtin.lenOf, Builtin.firstCells, storeCells, loadCells, loadCellsFrom]
  · by_cases h0 : ys = []
    · subst h0
      refine ⟨a, n, w, ?_, by simpa using hv, Below.refl _ _⟩
      cases a <;> simp [Builtin.append_, run_underlying Try.underlying22, sizeOf, typeInfo, hi, Builtin.lenOf, Builtin.firstCells, storeCells, loadCells, loadCellsFrom]
    · have hpos : 0 < ys.length := List.length_pos_iff.2 h0
      have hnews : ∀ j u, (ys.map bval)[j]? = some u → w.cell? ((⟨b, off, none⟩ : Addr).add j) = some u := by
        intro j u hu
        rw [List.getElem?_map] at hu
        obtain ⟨z, hz, rfl⟩ := Option.map_eq_some_iff.1 hu
        obtain ⟨hj, e⟩ := List.getElem?_eq_some_iff.1 hz
        rw [add_plain', h4 j hj, ← e]
        simp [hj, bval]
      have fin : ∀ v' w', OwnB w.heap.size w' v' (l ++ ys) → w.grownBy w' none → ∃ a' cap, v' = .slice a' (n + ys.length) cap ∧ HasB w' w'.heap.size (.slice a' (n + ys.length) cap) (l ++ ys) ∧ Below w.heap.size w w' := by
        intro v' w' own grow
        obtain ⟨a', cap, rfl⟩ := own.form
        have e : (l ++ ys).length = n + ys.length := by rw [List.length_append, hn]
        rw [e] at own ⊢
        exact ⟨a', cap, rfl, own.has, (Below.refl w.heap.size w).grown grow (Nat.le_refl _) (fun k hk => by cases hk)⟩
      cases a with
      | none =>
        have hl0 : l = [] := by
          rcases hv with ⟨_, _, _, e⟩ | ⟨_, _, _, e, _⟩
          · exact e
          · simp at e
        subst hl0
        obtain rfl : n = 0 := hn
        obtain ⟨a', cap, w', h5, h6, h7⟩ := run_append_bytes w ty w.heap.size _ _ [] ys (OwnB.nil w _) w.heap.size (.inr ⟨b, off, c, rfl, h2, h3, h4⟩) (by simpa using hl) (Nat.le_refl _)
        obtain ⟨a2, cap2, e, h8, h9⟩ := fin _ _ h6 h7
        exact ⟨a2, cap2, w', by rw [← e]; exact h5, h8, h9⟩
      | some A =>
        have hcells : ∀ j u, (l.map bval)[j]? = some u → w.cell? (A.add j) = some u := by
          intro j u hu
          rw [List.getElem?_map] at hu
          obtain ⟨z, hz, rfl⟩ := Option.map_eq_some_iff.1 hu
          obtain ⟨hj, e⟩ := List.getElem?_eq_some_iff.1 hz
          rcases hv with ⟨_, _, _, e2⟩ | ⟨b2, off2, c2, e2, g1, g2, g3⟩
          · subst e2; simp at hj
          · simp only [Value.slice.injEq, Option.some.injEq] at e2
            obtain ⟨rfl, _, _⟩ := e2
            rw [add_plain', g3 j hj, ← e]
            simp [hj, bval]
        obtain ⟨v', w', hrun, r1, r2⟩ := run_append_arg_grows (P := Try.prog) w 22 ty 5 i0 _ 1 1 Try.underlying22 hi hz0 hz1 hz2 rfl (by omega) A n n (l.map bval) (by simp [hn]) hcells ⟨b, off, none⟩ ys.length c (ys.map bval) (by simp) hnews (by omega) (by unfold maxLen; omega) (by omega)
        have own : OwnB w.heap.size w' v' (l ++ ys) := by unfold OwnB; rw [List.length_append, List.map_append, ← hn]; exact r1
        obtain ⟨a2, cap2, e, h8, h9⟩ := fin _ _ own r2
        exact ⟨a2, cap2, w', by rw [← e]; exact hrun, h8, h9⟩
theorem wpList_append_fullb {ops : Array Oper} {rest : List Oper} {o : Oper} {a : Act} {Q : Exit → Act → World → Prop} {w : World} (hw : Region.wanted o (yielded ops a.tmps) = true) (s x : Operand)
    (ho : o.op = .call { callee := .builtin .append, args := #[s, x], argTypes := #[22, 22] })
    (ao : Option Addr) (n : Nat) (xv : Value) (l ys : List B) (hs : a.eval s = .slice ao n n) (hv : HasB w w.heap.size (.slice ao n n) l) (hn : n = l.length) (hx : a.eval x = xv) (hy : HasB w w.heap.size xv ys) (hl : l.length + ys.length ≤ 1000000000) (m : Nat) (hm : n + ys.length = m)
    (h : ∀ b cap w', HasB w' w'.heap.size (.slice b m cap) (l ++ ys) → Below w.heap.size w w' → wpList Try.prog ops Q rest (a.put o.dst (.slice b m cap)) w') :
    wpList Try.prog ops Q (o :: rest) a w := by
  subst hm
  refine wpList_step fun K hK => ?_
  rw [if_pos hw]
  obtain ⟨b, cap, w', h1, h2, h3⟩ := run_append_full w o.type ao n xv l ys w.heap.size hv hn hy rfl hl
  unfold Oper.wp execOp
  simp only [ho, resolve, invoke, builtin, Sem.run_bind, Sem.run_pure, Result.andThen_ok, List.map_toArray, List.map_cons, List.map_nil, hs, hx, h1]
  exact hK _ _ (h b cap w' h2 h3)
/-- the same in a region that draws -/
theorem wpSeq_append_fullb {lops : List Oper} {i : Nat} {is : List (Nat × Bool)} {o : Oper} {a : Act} {Q : Exit → Act → World → Prop} {w : World} (hi : lops[i]? = some o) (hw : Region.wanted o (yielded lops.toArray a.tmps) = true) (s x : Operand)
    (ho : o.op = .call { callee := .builtin .append, args := #[s, x], argTypes := #[22, 22] })
    (ao : Option Addr) (n : Nat) (xv : Value) (l ys : List B) (hs : a.eval s = .slice ao n n) (hv : HasB w w.heap.size (.slice ao n n) l) (hn : n = l.length) (hx : a.eval x = xv) (hy : HasB w w.heap.size xv ys) (hl : l.length + ys.length ≤ 1000000000) (m : Nat) (hm : n + ys.length = m)
    (h : ∀ b cap w', HasB w' w'.heap.size (.slice b m cap) (l ++ ys) → Below w.heap.size w w' → wpSeq Try.prog lops Q is (a.put o.dst (.slice b m cap)) w') :
    wpSeq Try.prog lops Q ((i, false) :: is) a w := by
  subst hm
  refine wpSeq_call hi fun K' hK => ?_
  rw [if_pos hw]
  obtain ⟨b, cap, w', h1, h2, h3⟩ := run_append_full w o.type ao n xv l ys w.heap.size hv hn hy rfl hl
  unfold Oper.wp execOp
  simp only [ho, resolve, invoke, builtin, Sem.run_bind, Sem.run_pure, Result.andThen_ok, List.map_toArray, List.map_cons, List.map_nil, hs, hx, h1]
  exact hK.out _ _ h3 (h b cap w' h2 h3)
theorem HasB.named {w : World} {N : Nat} {a : Option Addr} {m cap : Nat} {l : List B} (h : HasB w N (.slice a m cap) l) (hl : 0 < l.length) : a = none → cap = 0 := by
  rintro rfl
  rcases h with ⟨_, _, _, rfl⟩ | ⟨_, _, _, e, _⟩
  · simp at hl
  · simp at e
theorem GotI.ok {n : Int} {k p q : Nat} {w : World} {e : Ending} {w' : World} (h : GotI (.ok n k) p w e w') (hq : p + k = q) : e = .returned (.tuple #[.int .i64 n, .int .i64 (q : Int), .int .i64 0]) ∧ Below w.heap.size w w' := by
  subst hq
  exact ⟨by rw [h.1]; unfold numRes; rw [Int.natCast_add], h.2⟩
theorem GotB.ok {D : List B} {k p q : Nat} {w : World} {e : Ending} {w' : World} (h : GotB (.ok D k) p w e w') (hq : p + k = q) : ∃ v, e = .returned (.tuple #[v, .int .i64 (q : Int), .int .i64 0]) ∧ HasB w' w'.heap.size v D ∧ Below w.heap.size w w' := by
  subst hq
  rcases h with ⟨c, e5, _⟩ | ⟨D', k', v, e5, h1, h2, h3⟩
  · cases e5
  · simp only [Cd.R.ok.injEq] at e5
    obtain ⟨rfl, rfl⟩ := e5
    exact ⟨v, h1, h2, h3⟩
theorem GotD.ok {d : W} {k p q : Nat} {w : World} {e : Ending} {w' : World} (h : GotD (.ok d k) p w e w') (hq : p + k = q) : e = .returned (.tuple #[.int .u64 (uv d), .int .i64 (q : Int), .int .i64 0]) ∧ Below w.heap.size w w' := by
  subst hq
  rcases h with ⟨c, e5, _⟩ | ⟨D', k', e5, h1, h3⟩
  · cases e5
  · simp only [Cd.R.ok.injEq] at e5
    obtain ⟨rfl, rfl⟩ := e5
    exact ⟨h1, h3⟩
theorem GotL.ok {l : List (List B)} {k p q : Nat} {w : World} {e : Ending} {w' : World} (h : GotL (.ok l k) p w e w') (hq : p + k = q) : ∃ v, e = .returned (.tuple #[v, .int .i64 (q : Int), .int .i64 0]) ∧ HasS w' w'.heap.size v (l.map bstr) ∧ Below w.heap.size w w' := by
  subst hq
  rcases h with ⟨c, e5, _⟩ | ⟨D', k', v, e5, h1, h2, h3⟩
  · cases e5
  · simp only [Cd.R.ok.injEq] at e5
    obtain ⟨rfl, rfl⟩ := e5
    exact ⟨v, h1, h2, h3⟩
theorem bstr_strB (s : ByteArray) : bstr (strB s) = s := by
  unfold bstr strB
  rw [List.map_map]
  have e : s.data.toList.map (UInt8.ofBitVec ∘ UInt8.toBitVec) = s.data.toList := by
    conv => rhs; rw [← List.map_id s.data.toList]
    exact List.map_congr_left fun x _ => rfl
  rw [e]
theorem bstr_map (l : List ByteArray) : (l.map strB).map bstr = l := by
  rw [List.map_map]
  conv => rhs; rw [← List.map_id l]
  exact List.map_congr_left fun x _ => bstr_strB x
theorem drop_mid (L X A : List B) : (L ++ X ++ A).drop L.length = X ++ A := by rw [List.append_assoc, List.drop_left]
end Go.Proofs.Ytkckimhkbnigkaa
