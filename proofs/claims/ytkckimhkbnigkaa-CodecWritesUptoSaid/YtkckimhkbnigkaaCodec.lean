/-
  The contracts of package codec, over a stand-in that hands on to the chapter (to be proved anew on the landed code, in the same forms). Nothing that was there has changed. Condition: the bytes are fewer than some millions.
-/
import Derived.Test.YtkckimhkbnigkaaRefLst
namespace Go.Proofs.Ytkckimhkbnigkaa
open Go.ChangeShapes Go.WideShapes Go.ChangeAt Go.RowKit
open Dg (W B)
/-- a call has returned these bytes -/
def Gives (l : List B) (w : World) (e : Ending) (w' : World) : Prop := ∃ v, e = .returned v ∧ HasB w' w'.heap.size v l ∧ Below w.heap.size w w'
theorem Gives.of {l : List B} {w w' : World} {e : Ending} (h : ∃ v, e = .returned v ∧ OwnB w.heap.size w' v l ∧ Below w.heap.size w w') : Gives l w e w' := by
  obtain ⟨v, h1, h2, h3⟩ := h; exact ⟨v, h1, h2.has, h3⟩
/-- a number has been read, or an error -/
def GotI (r : Cd.R Int) (p : Nat) (w : World) (e : Ending) (w' : World) : Prop := e = .returned (numRes p r) ∧ Below w.heap.size w w'
/-- a string of bytes has been read, or an error -/
def GotB (r : Cd.R (List B)) (p : Nat) (w : World) (e : Ending) (w' : World) : Prop :=
  (∃ c : Nat, r = .bad c ∧ e = .returned (.tuple #[.slice none 0 0, .int .i64 (p : Int), .int .i64 (c : Int)]) ∧ Below w.heap.size w w') ∨
  ∃ D k v, r = .ok D k ∧ e = .returned (.tuple #[v, .int .i64 ((p + k : Nat) : Int), .int .i64 0]) ∧ HasB w' w'.heap.size v D ∧ Below w.heap.size w w'
/-- a digest has been read, or an error -/
def GotD (r : Cd.R W) (p : Nat) (w : World) (e : Ending) (w' : World) : Prop :=
  (∃ c : Nat, r = .bad c ∧ e = .returned (.tuple #[.int .u64 0, .int .i64 (p : Int), .int .i64 (c : Int)]) ∧ Below w.heap.size w w') ∨
  ∃ d k, r = .ok d k ∧ e = .returned (.tuple #[.int .u64 (uv d), .int .i64 ((p + k : Nat) : Int), .int .i64 0]) ∧ Below w.heap.size w w'
/-- a list has been read, or an error -/
def GotL (r : Cd.R (List (List B))) (p : Nat) (w : World) (e : Ending) (w' : World) : Prop :=
  (∃ c : Nat, r = .bad c ∧ e = .returned (.tuple #[.slice none 0 0, .int .i64 (p : Int), .int .i64 (c : Int)]) ∧ Below w.heap.size w w') ∨
  ∃ l k v, r = .ok l k ∧ e = .returned (.tuple #[v, .int .i64 ((p + k : Nat) : Int), .int .i64 0]) ∧ HasS w' w'.heap.size v (l.map bstr) ∧ Below w.heap.size w w'
/-- a position that is not there -/
def Out3 (z : Value) (p : Int) (w : World) (e : Ending) (w' : World) : Prop := e = .returned (.tuple #[z, .int .i64 p, .int .i64 2]) ∧ Below w.heap.size w w'
/-! ### the chapter's, in these forms -/
theorem rbytes_got (L : List B) (p : Nat) (v : Value) (w : World) (hp : p ≤ L.length) (hL : L.length ≤ 300000000) (h : HasB w w.heap.size v L) : Calls Try.prog 30 #[v, .int .i64 (p : Int)] w (GotB (Cd.getB (L.drop p)) p w) := by
  cases hr : Cd.getB (L.drop p) with
  | bad c => exact (rbytes_bad L p c v w hp hL h hr).mono fun e w' g => .inl ⟨c, rfl, g.1, by rw [← g.2]; exact Below.refl _ _⟩
  | ok D k => exact (rbytes_ok L D p k v w hp hL h hr).mono fun e w' ⟨dv, g1, g2, g3⟩ => .inr ⟨D, k, dv, rfl, g1, g2.has, g3⟩
theorem rdgt_got (L : List B) (p : Nat) (v : Value) (w : World) (hp : p ≤ L.length) (hL : L.length ≤ 300000000) (h : HasB w w.heap.size v L) : Calls Try.prog 31 #[v, .int .i64 (p : Int)] w (GotD (Cd.getD (L.drop p)) p w) := by
  cases hr : Cd.getD (L.drop p) with
  | bad c => exact (rdgt_bad L p c v w hp h hr).mono fun e w' g => .inl ⟨c, rfl, g.1, by rw [← g.2]; exact Below.refl _ _⟩
  | ok d k =>
    obtain ⟨rfl, -, -⟩ := Cd.getD_inv hr
    exact (rdgt_ok L p 8 d v w hp hL h hr).mono fun e w' g => .inr ⟨d, 8, rfl, g.1, by rw [← g.2]; exact Below.refl _ _⟩
theorem rint_got (L : List B) (p : Nat) (v : Value) (w : World) (hp : p ≤ L.length) (hL : L.length ≤ 300000000) (h : HasB w w.heap.size v L) : Calls Try.prog 29 #[v, .int .i64 (p : Int)] w (GotI (Cd.getI (L.drop p)) p w) :=
  (rint_in L p v w hp hL h).mono fun e w' g => ⟨g.1, by rw [← g.2]; exact Below.refl _ _⟩
theorem rlist_got (L : List B) (p : Nat) (v : Value) (w : World) (hp : p ≤ L.length) (hL : L.length ≤ 300000000) (h : HasB w w.heap.size v L) : Calls Try.prog 32 #[v, .int .i64 (p : Int)] w (GotL (Cd.getL (L.drop p)) p w) := by
  refine (rlist_in L p v w hp hL h).mono fun e w' g => ?_
  rcases g with ⟨c, g1, g2, g3⟩ | ⟨l, k, v, g1, g2, g3, g4⟩
  · exact .inl ⟨c, g1, g2, g3⟩
  · exact .inr ⟨l, k, v, g1, g2, g3.has, g4⟩
theorem runframe_got (L : List B) (p : Nat) (v : Value) (w : World) (hp : p ≤ L.length) (hL : L.length ≤ 300000000) (h : HasB w w.heap.size v L) : Calls Try.prog 33 #[v, .int .i64 (p : Int)] w (GotB (Cd.unframe (L.drop p)) p w) := by
  refine (runframe_in L p v w hp hL h).mono fun e w' g => ?_
  unfold UPost at g
  cases hr : Cd.unframe (L.drop p) with
  | bad c => rw [hr] at g; exact .inl ⟨c, rfl, g.1, g.2⟩
  | ok D k => rw [hr] at g; obtain ⟨dv, g1, g2, g3⟩ := g; exact .inr ⟨D, k, dv, rfl, g1, g2.has, g3⟩
end Go.Proofs.Ytkckimhkbnigkaa
