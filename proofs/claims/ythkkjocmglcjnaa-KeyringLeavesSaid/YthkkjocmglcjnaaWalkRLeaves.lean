/-
  The walk of KeyringLeaves: it returns true. No condition.
-/
import Derived.Test.YthkkjocmglcjnaaKAwake
import Derived.Test.YthkkjocmglcjnaaFlip
namespace Go.Proofs.Ythkkjocmglcjnaa.keyringLeaves
open Go.ChangeShapes Go.WideShapes Go.ChangeAt Go.RowKit
open Dg (W B)
theorem rpair_to (a b : W) (x y : Int) (hx : x = uv a) (hy : y = uv b) (w : World) :
    Calls Try.prog 18 #[.int .u64 x, .int .u64 y] w fun e w' => e = .returned (.int .u64 (uv (Dg.pairW a b))) ∧ w = w' := by
  subst hx; subst hy; exact rpair_any a b w
theorem facts (s : W) : Kr.root s 1 = Dg.pairW 0#64 (Ot.publicW (Kr.seed s (Ot.num 0))) ∧ Kr.root s 2 = Dg.pairW (Dg.pairW 0#64 (Ot.publicW (Kr.seed s (Ot.num 0)))) (Dg.pairW 1#64 (Ot.publicW (Kr.seed s (Ot.num 1)))) := ⟨Kr.root_1 s, Kr.root_2 s⟩
set_option maxHeartbeats 1000000 in
theorem walk (w : World) (a0 : Int) (w0 : (Lit.int .u64 a0).wf = true) :
    Calls Try.prog 6 #[.int .u64 a0] w fun e w' => e = .returned (.bool true) ∧ Below w.heap.size w w' := by
  obtain ⟨s, rfl⟩ := uv_of_wf a0 w0
  clear w0
  obtain ⟨f1, f2⟩ := facts s
  generalize hA : Dg.pairW 0#64 (Ot.publicW (Kr.seed s (Ot.num 0))) = A at f1 f2
  generalize hB : Dg.pairW 1#64 (Ot.publicW (Kr.seed s (Ot.num 1))) = B at f2
  have F1 := Lib.hid f1; have F2 := Lib.hid f2; have HA := Lib.hid hA; have HB := Lib.hid hB
  clear f1 f2 hA hB
  go_enter Try.func6, Try.ntmps6
  go_wp2_with fail
  refine (kroot_to s 1 _ _ rfl rfl (by decide) (by decide) _).mono ?_; rintro e w1 ⟨rfl, b1⟩
  rw [F1.out]
  have B1 := Lib.hid b1; clear b1
  go_wp2_with fail
  refine (kroot_to s 2 _ _ rfl rfl (by decide) (by decide) _).mono ?_; rintro e w2 ⟨rfl, b2⟩
  rw [F2.out]
  have B2 := Lib.hid (B1.out.trans (b2.mono B1.out.size)); clear b2
  go_wp2_with fail
  refine (kseed_to s 0 _).mono ?_; rintro e w3 ⟨rfl, b3⟩
  have B3 := Lib.hid (B2.out.trans (b3.mono B2.out.size)); clear b3
  go_wp2_with fail
  refine (rpublic_any (Kr.seed s (Ot.num 0)) _).mono ?_; rintro e w4 ⟨rfl, b4⟩
  have B4 := Lib.hid (B3.out.trans (b4.mono B3.out.size)); clear b4
  go_wp2_with fail
  refine (rpair_to 0#64 _ _ _ (by decide) rfl _).mono ?_; rintro e w' ⟨rfl, rfl⟩
  rw [HA.out]
  go_wp2_with fail
  refine (kseed_to s 1 _).mono ?_; rintro e w5 ⟨rfl, b5⟩
  have B5 := Lib.hid (B4.out.trans (b5.mono B4.out.size)); clear b5
  go_wp2_with fail
  refine (rpublic_any (Kr.seed s (Ot.num 1)) _).mono ?_; rintro e w6 ⟨rfl, b6⟩
  have B6 := Lib.hid (B5.out.trans (b6.mono B5.out.size)); clear b6
  go_wp2_with fail
  refine (rpair_to 1#64 _ _ _ (by decide) rfl _).mono ?_; rintro e w' ⟨rfl, rfl⟩
  rw [HB.out]
  go_wp2_with fail
  refine (rpair_to A B _ _ rfl rfl _).mono ?_; rintro e w' ⟨rfl, rfl⟩
  go_wp2_with fail
  refine (awake_any _).mono ?_; rintro e w7 ⟨rfl, b7⟩
  have B7 := Lib.hid (B6.out.trans (b7.mono B6.out.size)); clear b7
  go_wp2_with fail
  go_ret
  exact ⟨rfl, B7.out⟩
end Go.Proofs.Ythkkjocmglcjnaa.keyringLeaves
