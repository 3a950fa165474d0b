/-
  What Sign returns with any ring, by the package and by the chapter, in one form. No condition.
-/
import Derived.Test.YthkkjocmglcjnaaKAwake
namespace Go.Proofs.Ythkkjocmglcjnaa
open Go.ChangeShapes Go.WideShapes Go.ChangeAt Go.RowKit
open Dg (W B)
namespace Sg
def ok (n u : Int) : Prop := 1 ≤ n ∧ n ≤ 64 ∧ 0 ≤ u ∧ u < n
instance (n u : Int) : Decidable (ok n u) := by unfold ok; infer_instance
def key (n u : Int) : Int := if ok n u then u else 0
def used (n u : Int) : Int := if ok n u then u + 1 else u
def code (n u : Int) : Int := if n < 1 ∨ 64 < n ∨ u < 0 then 2 else if n ≤ u then 10 else 0
def ch (s : W) (n u : Int) (d : W) : List W := if ok n u then Kr.chains s u.toNat d else []
def pa (s : W) (n u : Int) : List W := if ok n u then Kr.path s n.toNat u.toNat else []
theorem ch_len (s : W) (n u : Int) (d : W) : (ch s n u d).length ≤ 64 := by
  unfold ch; split
  · rw [Kr.chains_len]; omega
  · simp
theorem pa_len (s : W) (n u : Int) : (pa s n u).length ≤ 64 := by
  unfold pa; split
  · rename_i h
    unfold ok at h
    rw [Kr.path_len]
    have := depth_lt (n := n.toNat) (i := u.toNat) (by omega) (by omega)
    omega
  · simp
end Sg
/-- what Sign returns -/
def SgPost (s : W) (n u : Int) (d : W) (w : World) (e : Ending) (w' : World) : Prop :=
  ∃ a1 m1 c1 a2 m2 c2, e = .returned (.tuple #[.agg #[.int .i64 (Sg.key n u), .slice a1 m1 c1, .slice a2 m2 c2], .agg #[.int .u64 (uv s), .int .i64 n, .int .i64 (Sg.used n u)], .int .i64 (Sg.code n u)])
    ∧ HasW w' w'.heap.size (.slice a1 m1 c1) (Sg.ch s n u d) ∧ HasW w' w'.heap.size (.slice a2 m2 c2) (Sg.pa s n u) ∧ Below w.heap.size w w'
theorem hasW_nil (w : World) (N : Nat) : HasW w N (.slice none 0 0) [] := .inl ⟨none, 0, rfl, rfl⟩
theorem sg_none {s : W} {n u c : Int} {d : W} {w w' : World} {e : Ending} (h : ¬ Sg.ok n u) (hc : Sg.code n u = c) (g : SignNone s n u c w e w') : SgPost s n u d w e w' := by
  obtain ⟨rfl, hb⟩ := g
  refine ⟨none, 0, 0, none, 0, 0, ?_, ?_, ?_, hb⟩
  · unfold Sg.key Sg.used
    rw [if_neg h, if_neg h, hc]; rfl
  · unfold Sg.ch; rw [if_neg h]; exact hasW_nil _ _
  · unfold Sg.pa; rw [if_neg h]; exact hasW_nil _ _
theorem sg_good {s : W} {n k : Nat} {d : W} {w w' : World} {e : Ending} (hk : k < n) (hn : n ≤ 64)
    (g : ∃ cv pv, e = .returned (.tuple #[sigV k cv pv, ringV s n ((k + 1 : Nat) : Int), .int .i64 0]) ∧ HasW w' w'.heap.size cv (Kr.chains s k d) ∧ HasW w' w'.heap.size pv (Kr.path s n k) ∧ Below w.heap.size w w') : SgPost s n k d w e w' := by
  obtain ⟨cv, pv, rfl, hc, hp, hb⟩ := g
  obtain ⟨a1, c1, rfl⟩ := hc.form
  obtain ⟨a2, c2, rfl⟩ := hp.form
  have h : Sg.ok (n : Int) (k : Int) := by unfold Sg.ok; omega
  refine ⟨a1, (Kr.chains s k d).length, c1, a2, (Kr.path s n k).length, c2, ?_, ?_, ?_, hb⟩
  · unfold Sg.key Sg.used Sg.code
    rw [if_pos h, if_pos h, if_neg (by omega), if_neg (by omega)]; rfl
  · unfold Sg.ch; rw [if_pos h]; exact hc
  · unfold Sg.pa; rw [if_pos h]; exact hp
theorem ksign_any (s : W) (n u : Int) (d : W) (x y : Int) (hx : x = uv s) (hy : y = uv d) (w : World) : Calls Try.prog 9 #[.agg #[.int .u64 x, .int .i64 n, .int .i64 u], .int .u64 y] w (SgPost s n u d w) := by
  subst hx; subst hy
  by_cases h1 : n < 1 ∨ 64 < n ∨ u < 0
  · exact (ksign_range s n u d w h1).mono fun e w' g => sg_none (by unfold Sg.ok; omega) (by unfold Sg.code; rw [if_pos h1]) g
  · by_cases h2 : n ≤ u
    · exact (ksign_used s n u d w (by omega)).mono fun e w' g => sg_none (by unfold Sg.ok; omega) (by unfold Sg.code; rw [if_neg h1, if_pos h2]) g
    · obtain ⟨m, rfl⟩ : ∃ m : Nat, n = m := ⟨n.toNat, by omega⟩
      obtain ⟨k, rfl⟩ : ∃ k : Nat, u = k := ⟨u.toNat, by omega⟩
      exact (ksign_good s m k d w (by omega) (by omega)).mono fun e w' g => sg_good (by omega) (by omega) g
theorem rksign_any (s : W) (n u : Int) (d : W) (x y : Int) (hx : x = uv s) (hy : y = uv d) (w : World) : Calls Try.prog 10 #[.agg #[.int .u64 x, .int .i64 n, .int .i64 u], .int .u64 y] w (SgPost s n u d w) := by
  subst hx; subst hy
  by_cases h1 : n < 1 ∨ 64 < n ∨ u < 0
  · exact (rksign_range s n u d w h1).mono fun e w' g => sg_none (by unfold Sg.ok; omega) (by unfold Sg.code; rw [if_pos h1]) g
  · by_cases h2 : n ≤ u
    · exact (rksign_used s n u d w (by omega)).mono fun e w' g => sg_none (by unfold Sg.ok; omega) (by unfold Sg.code; rw [if_neg h1, if_pos h2]) g
    · obtain ⟨m, rfl⟩ : ∃ m : Nat, n = m := ⟨n.toNat, by omega⟩
      obtain ⟨k, rfl⟩ : ∃ k : Nat, u = k := ⟨u.toNat, by omega⟩
      refine (rksign_good s m k d w (by omega) (by omega)).mono fun e w' g => sg_good (by omega) (by omega) ?_
      obtain ⟨cv, pv, he, hc, hp, hb⟩ := g
      exact ⟨cv, pv, he, MyW.has hc, OwnW.has hp, hb⟩
end Go.Proofs.Ythkkjocmglcjnaa
