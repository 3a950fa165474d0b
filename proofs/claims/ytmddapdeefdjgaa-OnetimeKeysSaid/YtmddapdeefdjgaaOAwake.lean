/-
  The contracts of layer 6 with the lengths written out; and that the sanity check of layer 6 returns true and nothing that was there has changed. No condition.
-/
import Derived.Test.YtmddapdeefdjgaaOnetime
import Derived.Test.YtmddapdeefdjgaaSame
import Derived.Test.YtmddapdeefdjgaaMy
namespace Go.Proofs.Ytmddapdeefdjgaa
open Go.ChangeShapes Go.WideShapes Go.ChangeAt Go.RowKit
open Dg (W B)
def SignPost (s d : W) (w : World) (e : Ending) (w' : World) : Prop := ∃ a cap, e = .returned (.slice a 18 cap) ∧ MyW w.heap.size w' (.slice a 18 cap) (Ot.sign s d) ∧ Below w.heap.size w w'
theorem sign_to (s d : W) (x y : Int) (hx : x = uv s) (hy : y = uv d) (w : World) : Calls Try.prog 20 #[.int .u64 x, .int .u64 y] w (SignPost s d w) := by
  subst hx; subst hy
  refine (sign_any s d w).mono ?_
  rintro e w' ⟨v, rfl, ho, hb⟩
  obtain ⟨a, cap, rfl⟩ := ho.has.form
  rw [Ot.sign_len] at ho
  exact ⟨a, cap, by rw [Ot.sign_len], ho, hb⟩
theorem rsign_to (s d : W) (w : World) : Calls Try.prog 18 #[.int .u64 (uv s), .int .u64 (uv d)] w (SignPost s d w) := by
  refine (rsign_any s d w).mono ?_
  rintro e w' ⟨v, rfl, ho, hb⟩
  obtain ⟨a, cap, rfl⟩ := ho.has.form
  have ho := ho.my (by rw [Ot.sign_len]; omega)
  rw [Ot.sign_len] at ho
  exact ⟨a, cap, by rw [Ot.sign_len], ho, hb⟩
def DigitsPost (d : W) (w : World) (e : Ending) (w' : World) : Prop := ∃ a cap, e = .returned (.slice a 18 cap) ∧ MyI w.heap.size w' (.slice a 18 cap) (digI d 18) ∧ Below w.heap.size w w'
theorem digits_to (d : W) (x : Int) (hx : x = uv d) (w : World) : Calls Try.prog 10 #[.int .u64 x] w (DigitsPost d w) := by
  subst hx
  refine (digits_any d w).mono ?_
  rintro e w' ⟨v, rfl, ho, hb⟩
  obtain ⟨a, cap, rfl⟩ := ho.has.form
  rw [digI_len] at ho
  exact ⟨a, cap, by rw [digI_len], ho, hb⟩
theorem rdigits_to (d : W) (w : World) : Calls Try.prog 11 #[.int .u64 (uv d)] w (DigitsPost d w) := by
  refine (rdigits_any d w).mono ?_
  rintro e w' ⟨v, rfl, ho, hb⟩
  obtain ⟨a, cap, rfl⟩ := ho.has.form
  have ho := ho.my (by rw [digI_len]; omega)
  rw [digI_len] at ho
  exact ⟨a, cap, by rw [digI_len], ho, hb⟩
theorem public_to (s : W) (x : Int) (hx : x = uv s) (w : World) :
    Calls Try.prog 16 #[.int .u64 x] w fun e w' => e = .returned (.int .u64 (uv (Ot.publicW s))) ∧ Below w.heap.size w w' := by
  subst hx; exact public_any s w
theorem recover_to (d : W) (l : List W) (x : Int) (hx : x = uv d) (v : Value) (w : World) (hl : l.length = 18) (h : HasW w w.heap.size v l) :
    Calls Try.prog 21 #[.int .u64 x, v] w fun e w' => e = .returned (.tuple #[.int .u64 (uv (Ot.recover d l)), .int .i64 0]) ∧ Below w.heap.size w w' := by
  subst hx; exact recover_18 d l v w hl h
theorem awake_any (w : World) :
    Calls Try.prog 8 #[] w fun e w' => e = .returned (.bool true) ∧ Below w.heap.size w w' := by
  have t1 : (uv (Ot.recover 77#64 (Ot.sign 5#64 77#64)) == uv (Ot.publicW 5#64)) = true := by rw [Ot.recover_sign, beq_iff_eq]
  have h18 := Ot.sign_len 5#64 77#64
  generalize hS : Ot.sign 5#64 77#64 = S at t1 h18
  have HS := Lib.hid hS; clear hS
  generalize hP : Ot.publicW 5#64 = P at t1
  have HP := Lib.hid hP; clear hP
  generalize hR : Ot.recover 77#64 S = R at t1
  have HR := Lib.hid hR; clear hR
  have H18 := Lib.hid h18; clear h18
  go_enter Try.func8, Try.ntmps8
  go_wp2_with fail
  refine (sign_to 5#64 77#64 _ _ (by decide) (by decide) _).mono ?_; rintro e w1 ⟨a1, cap1, rfl, o1, b1⟩
  rw [HS.out] at o1
  have O1 := Lib.hid o1; have B1 := Lib.hid b1
  clear o1 b1
  go_wp2_with fail
  refine (recover_to 77#64 S _ (by decide) _ _ H18.out O1.out.has).mono ?_; rintro e w2 ⟨rfl, b2⟩
  have B2 := Lib.hid (B1.out.trans (b2.mono B1.out.size)); clear b2
  rw [HR.out]
  go_wp2_with fail
  refine (public_to 5#64 _ (by decide) _).mono ?_; rintro e w3 ⟨rfl, b3⟩
  have B3 := Lib.hid (B2.out.trans (b3.mono B2.out.size)); clear b3
  rw [HP.out]
  go_wp2_with fail
  refine (digits_to 0#64 _ (by decide) _).mono ?_; rintro e w4 ⟨a4, cap4, rfl, o4, b4⟩
  have B4 := Lib.hid (B3.out.trans (b4.mono B3.out.size)); clear b4 o4
  go_wp2_with fail
  go_ret
  exact ⟨rfl, B4.out⟩
end Go.Proofs.Ytmddapdeefdjgaa
