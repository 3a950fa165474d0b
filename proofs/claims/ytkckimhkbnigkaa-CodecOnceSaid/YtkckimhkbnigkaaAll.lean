/-
  Reading at any position, in one form without cases: the value, the position and the error as functions of the bytes. No condition but that the bytes are fewer than three hundred millions.
-/
import Derived.Test.YtkckimhkbnigkaaCAwake
namespace Go.Proofs.Ytkckimhkbnigkaa
open Go.ChangeShapes Go.WideShapes Go.ChangeAt Go.RowKit
open Dg (W B)
namespace Cd
/-- reading at a position -/
def resAt {α : Type} (L : List B) (p : Int) (f : List B → R α) : R α := if p < 0 ∨ (L.length : Int) < p then .bad 2 else f (L.drop p.toNat)
def pos {α : Type} (p : Int) : R α → Int
  | .ok _ k => p + k
  | .bad _ => p
def code {α : Type} : R α → Int
  | .ok _ _ => 0
  | .bad c => c
def val {α : Type} (z : α) : R α → α
  | .ok x _ => x
  | .bad _ => z
end Cd
def AllI (r : Cd.R Int) (p : Int) (w : World) (e : Ending) (w' : World) : Prop := e = .returned (.tuple #[.int .i64 (Cd.val 0 r), .int .i64 (Cd.pos p r), .int .i64 (Cd.code r)]) ∧ Below w.heap.size w w'
def AllD (r : Cd.R W) (p : Int) (w : World) (e : Ending) (w' : World) : Prop := e = .returned (.tuple #[.int .u64 (uv (Cd.val 0 r)), .int .i64 (Cd.pos p r), .int .i64 (Cd.code r)]) ∧ Below w.heap.size w w'
def AllB (r : Cd.R (List B)) (p : Int) (w : World) (e : Ending) (w' : World) : Prop := ∃ a m c, e = .returned (.tuple #[.slice a m c, .int .i64 (Cd.pos p r), .int .i64 (Cd.code r)]) ∧ Hid (m = (Cd.val [] r).length) ∧ HasB w' w'.heap.size (.slice a m c) (Cd.val [] r) ∧ Below w.heap.size w w'
def AllL (r : Cd.R (List (List B))) (p : Int) (w : World) (e : Ending) (w' : World) : Prop := ∃ a m c, e = .returned (.tuple #[.slice a m c, .int .i64 (Cd.pos p r), .int .i64 (Cd.code r)]) ∧ Hid (m = ((Cd.val [] r).map bstr).length) ∧ HasS w' w'.heap.size (.slice a m c) ((Cd.val [] r).map bstr) ∧ Below w.heap.size w w'
theorem nilB (w : World) : HasB w w.heap.size (.slice none 0 0) [] := .inl ⟨none, 0, rfl, rfl⟩
theorem nilS (w : World) : HasS w w.heap.size (.slice none 0 0) [] := .inl ⟨none, 0, rfl, rfl⟩
theorem allI_out {p : Int} {w w' : World} {e : Ending} (h : Out3 (.int .i64 0) p w e w') : AllI (.bad 2) p w e w' := ⟨h.1, h.2⟩
theorem allD_out {p : Int} {w w' : World} {e : Ending} (h : Out3 (.int .u64 0) p w e w') : AllD (.bad 2) p w e w' := ⟨by rw [h.1]; rfl, h.2⟩
theorem allB_out {p : Int} {w w' : World} {e : Ending} (h : Out3 (.slice none 0 0) p w e w') : AllB (.bad 2) p w e w' := ⟨none, 0, 0, h.1, Lib.hid rfl, nilB _, h.2⟩
theorem allL_out {p : Int} {w w' : World} {e : Ending} (h : Out3 (.slice none 0 0) p w e w') : AllL (.bad 2) p w e w' := ⟨none, 0, 0, h.1, Lib.hid rfl, nilS _, h.2⟩
theorem allI_in {r : Cd.R Int} {p : Nat} {w w' : World} {e : Ending} (h : GotI r p w e w') : AllI r p w e w' := by
  refine ⟨?_, h.2⟩
  rw [h.1]
  cases r <;> rfl
theorem allD_in {r : Cd.R W} {p : Nat} {w w' : World} {e : Ending} (h : GotD r p w e w') : AllD r p w e w' := by
  rcases h with ⟨c, rfl, rfl, h3⟩ | ⟨d, k, rfl, rfl, h3⟩
  · exact ⟨rfl, h3⟩
  · exact ⟨rfl, h3⟩
theorem allB_in {r : Cd.R (List B)} {p : Nat} {w w' : World} {e : Ending} (h : GotB r p w e w') : AllB r p w e w' := by
  rcases h with ⟨c, rfl, rfl, h3⟩ | ⟨D, k, v, rfl, rfl, h2, h3⟩
  · exact ⟨none, 0, 0, rfl, Lib.hid rfl, nilB _, h3⟩
  · obtain ⟨a, c, rfl⟩ := h2.form
    exact ⟨a, D.length, c, rfl, Lib.hid rfl, h2, h3⟩
theorem allL_in {r : Cd.R (List (List B))} {p : Nat} {w w' : World} {e : Ending} (h : GotL r p w e w') : AllL r p w e w' := by
  rcases h with ⟨c, rfl, rfl, h3⟩ | ⟨l, k, v, rfl, rfl, h2, h3⟩
  · exact ⟨none, 0, 0, rfl, Lib.hid rfl, nilS _, h3⟩
  · obtain ⟨a, c, rfl⟩ := h2.form
    exact ⟨a, _, c, rfl, Lib.hid rfl, h2, h3⟩
theorem cint_all (L : List B) (p : Int) (v : Value) (w : World) (hL : L.length ≤ 300000000) (h : HasB w w.heap.size v L) :
    Calls Try.prog 22 #[v, .int .i64 p] w (AllI (Cd.resAt L p Cd.getI) p w) := by
  unfold Cd.resAt
  by_cases hp : p < 0 ∨ (L.length : Int) < p
  · rw [if_pos hp]
    exact (cint_out L p v w hp h).mono fun e w' g => allI_out g
  · rw [if_neg hp]
    obtain ⟨q, rfl⟩ : ∃ q : Nat, p = q := ⟨p.toNat, by omega⟩
    rw [Int.toNat_natCast]
    exact (cint_got L q v w (by omega) hL h).mono fun e w' g => allI_in g
theorem cbytes_all (L : List B) (p : Int) (v : Value) (w : World) (hL : L.length ≤ 300000000) (h : HasB w w.heap.size v L) :
    Calls Try.prog 23 #[v, .int .i64 p] w (AllB (Cd.resAt L p Cd.getB) p w) := by
  unfold Cd.resAt
  by_cases hp : p < 0 ∨ (L.length : Int) < p
  · rw [if_pos hp]
    exact (cbytes_out L p v w hp h).mono fun e w' g => allB_out g
  · rw [if_neg hp]
    obtain ⟨q, rfl⟩ : ∃ q : Nat, p = q := ⟨p.toNat, by omega⟩
    rw [Int.toNat_natCast]
    exact (cbytes_got L q v w (by omega) hL h).mono fun e w' g => allB_in g
theorem cdgt_all (L : List B) (p : Int) (v : Value) (w : World) (hL : L.length ≤ 300000000) (h : HasB w w.heap.size v L) :
    Calls Try.prog 24 #[v, .int .i64 p] w (AllD (Cd.resAt L p Cd.getD) p w) := by
  unfold Cd.resAt
  by_cases hp : p < 0 ∨ (L.length : Int) < p
  · rw [if_pos hp]
    exact (cdgt_out L p v w hp h).mono fun e w' g => allD_out g
  · rw [if_neg hp]
    obtain ⟨q, rfl⟩ : ∃ q : Nat, p = q := ⟨p.toNat, by omega⟩
    rw [Int.toNat_natCast]
    exact (cdgt_got L q v w (by omega) hL h).mono fun e w' g => allD_in g
theorem clist_all (L : List B) (p : Int) (v : Value) (w : World) (hL : L.length ≤ 300000000) (h : HasB w w.heap.size v L) :
    Calls Try.prog 25 #[v, .int .i64 p] w (AllL (Cd.resAt L p Cd.getL) p w) := by
  unfold Cd.resAt
  by_cases hp : p < 0 ∨ (L.length : Int) < p
  · rw [if_pos hp]
    exact (clist_out L p v w hp h).mono fun e w' g => allL_out g
  · rw [if_neg hp]
    obtain ⟨q, rfl⟩ : ∃ q : Nat, p = q := ⟨p.toNat, by omega⟩
    rw [Int.toNat_natCast]
    exact (clist_got L q v w (by omega) hL h).mono fun e w' g => allL_in g
theorem cunframe_all (L : List B) (p : Int) (v : Value) (w : World) (hL : L.length ≤ 300000000) (h : HasB w w.heap.size v L) :
    Calls Try.prog 27 #[v, .int .i64 p] w (AllB (Cd.resAt L p Cd.unframe) p w) := by
  unfold Cd.resAt
  by_cases hp : p < 0 ∨ (L.length : Int) < p
  · rw [if_pos hp]
    exact (cunframe_out L p v w hp h).mono fun e w' g => allB_out g
  · rw [if_neg hp]
    obtain ⟨q, rfl⟩ : ∃ q : Nat, p = q := ⟨p.toNat, by omega⟩
    rw [Int.toNat_natCast]
    exact (cunframe_got L q v w (by omega) hL h).mono fun e w' g => allB_in g
theorem rint_all (L : List B) (p : Int) (v : Value) (w : World) (hL : L.length ≤ 300000000) (h : HasB w w.heap.size v L) :
    Calls Try.prog 29 #[v, .int .i64 p] w (AllI (Cd.resAt L p Cd.getI) p w) := by
  unfold Cd.resAt
  by_cases hp : p < 0 ∨ (L.length : Int) < p
  · rw [if_pos hp]
    exact (rint_out L p v w hp h).mono fun e w' g => allI_out ⟨g.1, by rw [← g.2]; exact Below.refl _ _⟩
  · rw [if_neg hp]
    obtain ⟨q, rfl⟩ : ∃ q : Nat, p = q := ⟨p.toNat, by omega⟩
    rw [Int.toNat_natCast]
    exact (rint_got L q v w (by omega) hL h).mono fun e w' g => allI_in g
theorem rbytes_all (L : List B) (p : Int) (v : Value) (w : World) (hL : L.length ≤ 300000000) (h : HasB w w.heap.size v L) :
    Calls Try.prog 30 #[v, .int .i64 p] w (AllB (Cd.resAt L p Cd.getB) p w) := by
  unfold Cd.resAt
  by_cases hp : p < 0 ∨ (L.length : Int) < p
  · rw [if_pos hp]
    exact (rbytes_out L p v w hp h).mono fun e w' g => allB_out ⟨g.1, by rw [← g.2]; exact Below.refl _ _⟩
  · rw [if_neg hp]
    obtain ⟨q, rfl⟩ : ∃ q : Nat, p = q := ⟨p.toNat, by omega⟩
    rw [Int.toNat_natCast]
    exact (rbytes_got L q v w (by omega) hL h).mono fun e w' g => allB_in g
theorem rdgt_all (L : List B) (p : Int) (v : Value) (w : World) (hL : L.length ≤ 300000000) (h : HasB w w.heap.size v L) :
    Calls Try.prog 31 #[v, .int .i64 p] w (AllD (Cd.resAt L p Cd.getD) p w) := by
  unfold Cd.resAt
  by_cases hp : p < 0 ∨ (L.length : Int) < p
  · rw [if_pos hp]
    exact (rdgt_out L p v w hp h).mono fun e w' g => allD_out ⟨g.1, by rw [← g.2]; exact Below.refl _ _⟩
  · rw [if_neg hp]
    obtain ⟨q, rfl⟩ : ∃ q : Nat, p = q := ⟨p.toNat, by omega⟩
    rw [Int.toNat_natCast]
    exact (rdgt_got L q v w (by omega) hL h).mono fun e w' g => allD_in g
theorem rlist_all (L : List B) (p : Int) (v : Value) (w : World) (hL : L.length ≤ 300000000) (h : HasB w w.heap.size v L) :
    Calls Try.prog 32 #[v, .int .i64 p] w (AllL (Cd.resAt L p Cd.getL) p w) := by
  unfold Cd.resAt
  by_cases hp : p < 0 ∨ (L.length : Int) < p
  · rw [if_pos hp]
    exact (rlist_out L p v w hp h).mono fun e w' g => allL_out ⟨g.1, by rw [← g.2]; exact Below.refl _ _⟩
  · rw [if_neg hp]
    obtain ⟨q, rfl⟩ : ∃ q : Nat, p = q := ⟨p.toNat, by omega⟩
    rw [Int.toNat_natCast]
    exact (rlist_got L q v w (by omega) hL h).mono fun e w' g => allL_in g
theorem runframe_all (L : List B) (p : Int) (v : Value) (w : World) (hL : L.length ≤ 300000000) (h : HasB w w.heap.size v L) :
    Calls Try.prog 33 #[v, .int .i64 p] w (AllB (Cd.resAt L p Cd.unframe) p w) := by
  unfold Cd.resAt
  by_cases hp : p < 0 ∨ (L.length : Int) < p
  · rw [if_pos hp]
    exact (runframe_out L p v w hp h).mono fun e w' g => allB_out ⟨g.1, by rw [← g.2]; exact Below.refl _ _⟩
  · rw [if_neg hp]
    obtain ⟨q, rfl⟩ : ∃ q : Nat, p = q := ⟨p.toNat, by omega⟩
    rw [Int.toNat_natCast]
    exact (runframe_got L q v w (by omega) hL h).mono fun e w' g => allB_in g
end Go.Proofs.Ytkckimhkbnigkaa
