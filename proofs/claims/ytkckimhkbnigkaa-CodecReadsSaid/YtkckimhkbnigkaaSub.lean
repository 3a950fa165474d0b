/-
  Parts of a slice of bytes that begin at its head; an argument's nil slice has no room; what is read within. No condition.
-/
import Derived.Test.YtkckimhkbnigkaaAll
import Derived.Test.YtkckimhkbnigkaaOpen
namespace Go.Proofs.Ytkckimhkbnigkaa
open Go.ChangeShapes Go.WideShapes Go.ChangeAt Go.RowKit
open Dg (W B)
theorem run_bto (a : Option Addr) (len cap k : Nat) (x : Int) (w : World) (h : k ≤ cap) (hn : a = none → cap = 0) (hx : x = k) :
    (Instr.slice 22 (.slice a len cap) none (some (.int .i64 x)) none).run Try.prog w = .ok (.slice a k cap) w := by
  subst hx
  cases a with
  | none =>
    obtain rfl := hn rfl
    obtain rfl : k = 0 := by omega
    simp [Instr.slice, go_sem]
  | some ad => simp [Instr.slice, go_sem, h]
theorem HasB.take {w : World} {N : Nat} {a : Option Addr} {m cap : Nat} {l : List B} (h : HasB w N (.slice a m cap) l) (k : Nat) (hk : k ≤ l.length) : HasB w N (.slice a k cap) (l.take k) := by
  rcases h with ⟨a', c, e, rfl⟩ | ⟨b, off, c, e, h1, h2, h3⟩
  · simp only [Value.slice.injEq] at e
    obtain rfl : k = 0 := by simpa using hk
    exact .inl ⟨a, cap, rfl, rfl⟩
  · simp only [Value.slice.injEq] at e
    obtain ⟨rfl, rfl, rfl⟩ := e
    have hl : (l.take k).length = k := by simp; omega
    refine .inr ⟨b, off, cap, by rw [hl], by omega, h2, fun i hi => ?_⟩
    rw [hl] at hi
    rw [h3 i (by omega)]
    simp [List.getD, hi]
theorem HasB.room {w : World} {N : Nat} {a : Option Addr} {m cap : Nat} {l : List B} (h : HasB w N (.slice a m cap) l) : l.length ≤ cap := by
  rcases h with ⟨a', c, e, rfl⟩ | ⟨b, off, c, e, h1, h2, h3⟩
  · simp
  · simp only [Value.slice.injEq] at e; omega
theorem open_room {H : Type} {enc : TypeId × Value → H} {P : Program} {w : World} {t e : TypeId} {k : IntKind} {a : Option Addr} {len cap : Nat} {d : DataW H} {p : List MemPlace} (ht : P.underlying t = some (.slice e)) (he : P.underlying e = some (.int k)) (hc : P.cellsOf e = 1)
    (h : DataW.Trod enc P w 0 (fun _ => true) true t (.slice a len cap) d p) : ∀ n c, Value.slice a len cap = .slice none n c → c = 0 := by
  intro n c e1
  simp only [Value.slice.injEq] at e1
  obtain ⟨rfl, rfl, rfl⟩ := e1
  obtain ⟨fuel, hf⟩ := h
  rcases open_ints ht he hc hf with ⟨hcs, _⟩ | ⟨x, l, c, zs, hcs, _⟩
  · simp [Value.cells] at hcs
    exact hcs.2
  · simp [Value.cells] at hcs
/-- what is read, its parts as letters -/
theorem AllI.letters {r : Cd.R Int} {p : Int} {w : World} {e : Ending} {w' : World} (h : AllI r p w e w') : ∃ x y z : Int, e = .returned (.tuple #[.int .i64 x, .int .i64 y, .int .i64 z]) ∧ Hid (x = Cd.val 0 r) ∧ Hid (y = Cd.pos p r) ∧ Hid (z = Cd.code r) ∧ Below w.heap.size w w' :=
  ⟨_, _, _, h.1, Lib.hid rfl, Lib.hid rfl, Lib.hid rfl, h.2⟩
theorem AllD.letters {r : Cd.R W} {p : Int} {w : World} {e : Ending} {w' : World} (h : AllD r p w e w') : ∃ x y z : Int, e = .returned (.tuple #[.int .u64 x, .int .i64 y, .int .i64 z]) ∧ Hid (x = uv (Cd.val 0 r)) ∧ Hid (y = Cd.pos p r) ∧ Hid (z = Cd.code r) ∧ Below w.heap.size w w' :=
  ⟨_, _, _, h.1, Lib.hid rfl, Lib.hid rfl, Lib.hid rfl, h.2⟩
theorem AllB.letters {r : Cd.R (List B)} {p : Int} {w : World} {e : Ending} {w' : World} (h : AllB r p w e w') : ∃ (a : Option Addr) (m c : Nat) (y z : Int), e = .returned (.tuple #[.slice a m c, .int .i64 y, .int .i64 z]) ∧ HasB w' w'.heap.size (.slice a m c) (Cd.val [] r) ∧ Hid (y = Cd.pos p r) ∧ Hid (z = Cd.code r) ∧ Below w.heap.size w w' := by
  obtain ⟨a, m, c, h1, _, h2, h3⟩ := h
  exact ⟨a, m, c, _, _, h1, h2, Lib.hid rfl, Lib.hid rfl, h3⟩
theorem AllL.letters {r : Cd.R (List (List B))} {p : Int} {w : World} {e : Ending} {w' : World} (h : AllL r p w e w') : ∃ (a : Option Addr) (m c : Nat) (y z : Int), e = .returned (.tuple #[.slice a m c, .int .i64 y, .int .i64 z]) ∧ HasS w' w'.heap.size (.slice a m c) ((Cd.val [] r).map bstr) ∧ Hid (y = Cd.pos p r) ∧ Hid (z = Cd.code r) ∧ Below w.heap.size w w' := by
  obtain ⟨a, m, c, h1, _, h2, h3⟩ := h
  exact ⟨a, m, c, _, _, h1, h2, Lib.hid rfl, Lib.hid rfl, h3⟩
namespace Cd
theorem resAt_in {α : Type} (L : List B) (i : Nat) (h : i ≤ L.length) (f : List B → R α) : resAt L (i : Int) f = f (L.drop i) := by
  unfold resAt; rw [if_neg (by omega), Int.toNat_natCast]
theorem rd_bad : ∀ (b : List B) (i acc c : Nat), rd i acc b = .bad c → c = 4 ∨ c = 5
  | [], i, acc, c, h => by simp only [rd, R.bad.injEq] at h; omega
  | x :: t, i, acc, c, h => by
    rw [rd] at h
    split at h
    · simp only [R.bad.injEq] at h; omega
    · split at h
      · cases h
      · exact rd_bad t _ _ c h
theorem getI_bad {b : List B} {c : Nat} (h : getI b = .bad c) : c ≠ 0 := by
  unfold getI at h
  split at h
  · cases h
  · rename_i hr
    simp only [R.bad.injEq] at h
    subst h
    rcases rd_bad _ _ _ _ hr with h | h <;> omega
theorem getB_bad {b : List B} {c : Nat} (h : getB b = .bad c) : c ≠ 0 := by
  unfold getB at h
  split at h
  · rename_i hr
    simp only [R.bad.injEq] at h; subst h; exact getI_bad hr
  · split at h
    · simp only [R.bad.injEq] at h; omega
    · split at h
      · simp only [R.bad.injEq] at h; omega
      · cases h
theorem getD_bad {b : List B} {c : Nat} (h : getD b = .bad c) : c ≠ 0 := by
  unfold getD at h
  split at h
  · simp only [R.bad.injEq] at h; omega
  · cases h
theorem rdL_bad : ∀ (m : Nat) (b : List B) (p c : Nat), rdL m b p = .bad c → c ≠ 0
  | 0, b, p, c, h => by simp [rdL] at h
  | m + 1, b, p, c, h => by
    rw [rdL] at h
    split at h
    · rename_i hr
      simp only [R.bad.injEq] at h; subst h; exact getB_bad hr
    · split at h
      · rename_i hr
        simp only [R.bad.injEq] at h; subst h; exact rdL_bad _ _ _ _ hr
      · cases h
theorem getL_bad {b : List B} {c : Nat} (h : getL b = .bad c) : c ≠ 0 := by
  unfold getL at h
  split at h
  · rename_i hr
    simp only [R.bad.injEq] at h; subst h; exact getI_bad hr
  · split at h
    · simp only [R.bad.injEq] at h; omega
    · exact rdL_bad _ _ _ _ h
theorem take_join (L : List B) (i k : Nat) (p : List B) (h : (L.drop i).take k = p) : L.take i ++ p = L.take (i + k) := by
  subst h
  rw [List.take_add]
end Cd
end Go.Proofs.Ytkckimhkbnigkaa
