/-
  What Same of the chapter of rings returns. Nothing that was there has changed. No condition.
-/
import Derived.Test.YthkkjocmglcjnaaRefVer
import Derived.Test.YthkkjocmglcjnaaSame
namespace Go.Proofs.Ythkkjocmglcjnaa
open Go.ChangeShapes Go.WideShapes Go.ChangeAt Go.RowKit
open Dg (W B)
set_option maxHeartbeats 1000000 in
theorem rksame_any (k1 k2 : Int) (c1 p1 c2 p2 : List W) (u1 v1 u2 v2 : Value) (w : World) (lc : c1.length ≤ 1000000) (lp : p1.length ≤ 1000000)
    (hc1 : HasW w w.heap.size u1 c1) (hp1 : HasW w w.heap.size v1 p1) (hc2 : HasW w w.heap.size u2 c2) (hp2 : HasW w w.heap.size v2 p2) :
    Calls Try.prog 11 #[.agg #[.int .i64 k1, u1, v1], .agg #[.int .i64 k2, u2, v2]] w fun e w' => e = .returned (.bool (decide (k1 = k2) && (decide (c1 = c2) && decide (p1 = p2)))) ∧ Below w.heap.size w w' := by
  obtain ⟨w0, hw0⟩ : ∃ w0, w0 = (w.alloc (.cells #[.int .i64 k1, u1, v1] 28)).alloc (.cells #[.int .i64 k2, u2, v2] 28) := ⟨_, rfl⟩
  have b0 : Below w.heap.size w w0 := by rw [hw0]; exact ((Below.refl _ _).alloc (Nat.le_refl _) _).alloc (by simp) _
  have SC := Lib.hid (same_any c1 c2 _ _ u1 u2 w0 (by omega) (hc1.below b0 (Nat.le_refl _)) (hc2.below b0 (Nat.le_refl _)))
  have SP := Lib.hid (same_any p1 p2 _ _ v1 v2 w0 (by omega) (hp1.below b0 (Nat.le_refl _)) (hp2.below b0 (Nat.le_refl _)))
  have W0 := Lib.hid hw0; have B0 := Lib.hid b0
  clear hw0 b0 hc1 hp1 hc2 hp2 lc lp
  by_cases hk : k1 = k2
  · have q : (k1 == k2) = true := beq_iff_eq.2 hk
    have e1 : decide (k1 = k2) = true := decide_eq_true hk
    rw [e1]
    clear hk e1
    by_cases he : c1 = c2
    · have e2 : decide (c1 = c2) = true := decide_eq_true he
      rw [e2] at SC ⊢
      clear he e2
      go_enter Try.func11, Try.ntmps11
      go_wp2_with fail
      rw [← W0.out]
      refine (SC.out).mono ?_; rintro e w' ⟨rfl, rfl⟩
      rw [W0.out]
      go_wp2_with fail
      rw [← W0.out]
      refine (SP.out).mono ?_; rintro e w' ⟨rfl, rfl⟩
      go_wp2_with fail
      go_ret
      exact ⟨rfl, B0.out⟩
    · have e2 : decide (c1 = c2) = false := decide_eq_false he
      rw [e2] at SC ⊢
      clear he e2 SP
      go_enter Try.func11, Try.ntmps11
      go_wp2_with fail
      rw [← W0.out]
      refine (SC.out).mono ?_; rintro e w' ⟨rfl, rfl⟩
      go_wp2_with fail
      go_ret
      exact ⟨rfl, B0.out⟩
  · have q : (k1 == k2) = false := beq_eq_false_iff_ne.2 hk
    have e1 : decide (k1 = k2) = false := decide_eq_false hk
    rw [e1]
    clear hk e1 SC SP
    go_enter Try.func11, Try.ntmps11
    go_wp2_with fail
    go_ret
    exact ⟨rfl, by rw [← W0.out]; exact B0.out⟩
end Go.Proofs.Ythkkjocmglcjnaa
