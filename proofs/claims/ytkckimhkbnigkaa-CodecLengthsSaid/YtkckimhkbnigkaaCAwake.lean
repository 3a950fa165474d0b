/-
  The sanity check of layer 8 returns true and nothing that was there has changed. No condition.
-/
import Derived.Test.YtkckimhkbnigkaaCodecF
namespace Go.Proofs.Ytkckimhkbnigkaa
open Go.ChangeShapes Go.WideShapes Go.ChangeAt Go.RowKit
open Dg (W B)
theorem put_64 : [] ++ Cd.putI 64 = [128#8, 1#8] := by
  unfold Cd.putI
  rw [show Cd.zig 64 = 128 by decide, Cd.put_big (by decide), Cd.put_small (by decide)]
  rfl
theorem put_m1 : [] ++ Cd.putI (-1) = [1#8] := by
  unfold Cd.putI
  rw [show Cd.zig (-1) = 1 by decide, Cd.put_small (by decide)]
  rfl
theorem frame_nil : (Cd.frame []).length = 9 := by
  unfold Cd.frame Cd.putB Cd.putI
  rw [show Cd.zig (([] : List B).length : Int) = 0 by decide, Cd.put_small (by decide)]
  rfl
set_option maxRecDepth 100000 in
theorem awake_any (w : World) :
    Calls Try.prog 9 #[] w fun e w' => e = .returned (.bool true) ∧ Below w.heap.size w w' := by
  have hnil : ∀ w : World, HasB w w.heap.size (.slice none 0 0) [] := fun w => .inl ⟨none, 0, rfl, rfl⟩
  have C1 := Lib.hid fun w => cputint_any 64 [] (.slice none 0 0) w (by decide) (by simp) (hnil w)
  have C2 := Lib.hid fun w => cputint_any (-1) [] (.slice none 0 0) w (by decide) (by simp) (hnil w)
  have C3 := Lib.hid fun w => cframe_any [] (.slice none 0 0) w (by simp) (hnil w)
  rw [put_64] at C1
  rw [put_m1] at C2
  have e1 : (bstr [128#8, 1#8]).toList = [128, 1] := by rw [ByteArray.toList_eq]; rfl
  have e2 : (bstr [1#8]).toList = [1] := by rw [ByteArray.toList_eq]; rfl
  clear hnil
  go_enter Try.func9, Try.ntmps9
  go_wp2_with fail
  refine (C1.out _).mono ?_; rintro e w1 ⟨v1, rfl, o1, b1⟩
  have k1 := conv_any _ _ _ o1
  have B1 := Lib.hid b1
  clear o1 b1
  go_wp2_with fail
  refine (C2.out _).mono ?_; rintro e w2 ⟨v2, rfl, o2, b2⟩
  have k2 := conv_any _ _ _ o2
  have B2 := Lib.hid (B1.out.trans (b2.mono B1.out.size))
  clear o2 b2
  go_wp2_with fail
  refine (C3.out _).mono ?_; rintro e w3 ⟨v3, rfl, o3, b3⟩
  have B3 := Lib.hid (B2.out.trans (b3.mono B2.out.size))
  obtain ⟨a3, c3, rfl⟩ := o3.form
  rw [frame_nil]
  clear o3 b3
  go_wp2_with fail
  go_ret
  exact ⟨rfl, B3.out⟩
end Go.Proofs.Ytkckimhkbnigkaa
