/-
  The sanity check of layer 4 returns true, and nothing that was there has changed. Condition: the library's table math/bits.deBruijn64tab holds what it is laid with.
-/
import Derived.Test.YtbgkcelihemmjaaDoorText
import Derived.Test.YtbgkcelihemmjaaDoorRefOf
namespace Go.Proofs.YtbgkcelihemmjaaDoor
open Go.ChangeShapes Go.WideShapes Go.ChangeAt Go.RowKit
open Dg (W B)

theorem text_to (x : W) (n : Int) (hn : n = uv x) (w : World) (h : Tab w) :
    Calls Tryd.prog 16 #[.int .u64 n] w (TextPost x w) := by
  subst hn; exact text_any x w h
theorem awake_any (w : World) (h : Tab w) :
    Calls Tryd.prog 7 #[] w fun e w' => e = .returned (.bool true) ∧ Below w.heap.size w w' := by
  have H := Lib.hid h; clear h
  have e1 : (str (Dg.text 31#64)).toList = [48, 48, 48, 48, 48, 48, 48, 48, 48, 48, 48, 48, 48, 48, 49, 102] := by kernel_rfl
  have e2 : (uv (Dg.mix 1#64) != 1) = true := by decide
  go_enter Tryd.func7, Tryd.ntmps7
  go_wp2_with fail
  refine (text_to 31#64 _ (by decide) _ H.out).mono ?_; rintro e w' ⟨rfl, hb⟩
  have HB := Lib.hid hb; clear hb
  go_wp2_with fail
  refine (of_none _ _ _).mono ?_; rintro e w' ⟨rfl, rfl⟩
  go_wp2_with fail
  refine (rof_none _ _ _).mono ?_; rintro e w' ⟨rfl, rfl⟩
  go_wp2_with fail
  refine (mix_to 1#64 _ (by decide) _).mono ?_; rintro e w' ⟨rfl, rfl⟩
  go_wp2
  go_ret
  exact ⟨rfl, HB.out⟩
end Go.Proofs.YtbgkcelihemmjaaDoor
