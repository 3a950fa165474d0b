/-
  The law of what all functions of layer 4 return (DigestActs) returns true. Condition: the library's table math/bits.deBruijn64tab holds what it is laid with.
-/
import Derived.Test.YtbgkcelihemmjaaDoorWalkWords
namespace Go.Proofs.YtbgkcelihemmjaaDoor
open Go.ChangeShapes Go.WideShapes Go.ChangeAt Go.RowKit
open Dg (W B)
theorem HasB.form {w : World} {N : Nat} {v : Value} {l : List B} (h : HasB w N v l) : ∃ a cap, v = .slice a l.length cap := by
  rcases h with ⟨a, cap, rfl, rfl⟩ | ⟨b, off, cap, rfl, _⟩
  · exact ⟨a, cap, rfl⟩
  · exact ⟨_, cap, rfl⟩
theorem HasW.form {w : World} {N : Nat} {v : Value} {l : List W} (h : HasW w N v l) : ∃ a cap, v = .slice a l.length cap := by
  rcases h with ⟨a, cap, rfl, rfl⟩ | ⟨b, off, cap, rfl, _⟩
  · exact ⟨a, cap, rfl⟩
  · exact ⟨_, cap, rfl⟩
theorem text_same (x : W) : ((str (Dg.text x)).toList == (str (Dg.text x)).toList) = true := by simp
namespace digestActs
theorem walk (w : World) (h : Tab w) (v0 : Value) (l0 : List B) (m0 : l0.length ≤ maxLen) (b0 : HasB w w.heap.size v0 l0) (a1 : Int) (w1 : (Lit.int .u64 a1).wf = true) (a2 : Int) (w2 : (Lit.int .u64 a2).wf = true) (a3 : Int) (w3 : (Lit.int .u64 a3).wf = true) (v4 : Value) (l4 : List W) (m4 : l4.length ≤ maxLen) (b4 : HasW w w.heap.size v4 l4) :
    Calls Tryd.prog 3 #[v0, .int .u64 a1, .int .u64 a2, .int .u64 a3, v4] w fun e w' => e = .returned (.bool true) ∧ Below w.heap.size w w' := by
  obtain ⟨x, rfl⟩ := uv_of_wf a1 w1
  obtain ⟨a, rfl⟩ := uv_of_wf a2 w2
  obtain ⟨c, rfl⟩ := uv_of_wf a3 w3
  clear w1 w2 w3
  obtain ⟨p0, c0, rfl⟩ := b0.form
  obtain ⟨p4, c4, rfl⟩ := b4.form
  unfold maxLen at m0 m4
  have H := Lib.hid h; clear h
  have B0 := Lib.hid b0; clear b0
  have B4 := Lib.hid b4; clear b4
  by_cases h1 : 2000 < l0.length
  · have e : (2000 : Int) < l0.length := by omega
    clear h1
    go_enter Tryd.func3, Tryd.ntmps3
    go_wp2_with fail
    refine (awake_any _ H.out).mono ?_; rintro e w' ⟨rfl, hb⟩
    have HB := Lib.hid hb; clear hb
    go_wp2
    go_ret
    exact ⟨rfl, HB.out⟩
  · have e : ¬ (2000 : Int) < l0.length := by omega
    by_cases h2 : 200 < l4.length
    · have e2 : (200 : Int) < l4.length := by omega
      clear h1 h2
      go_enter Tryd.func3, Tryd.ntmps3
      go_wp2_with fail
      refine (awake_any _ H.out).mono ?_; rintro e w' ⟨rfl, hb⟩
      have HB := Lib.hid hb; clear hb
      go_wp2
      go_ret
      exact ⟨rfl, HB.out⟩
    · have e2 : ¬ (200 : Int) < l4.length := by omega
      go_enter Tryd.func3, Tryd.ntmps3
      go_wp2_with (first
        | (go_at_call 8; refine (mix_any _ _).mono ?_; rintro e w' ⟨rfl, rfl⟩)
        | (go_at_call 9; refine (rmix_any _ _).mono ?_; rintro e w' ⟨rfl, rfl⟩)
        | (go_at_call 12; refine (pair_any _ _ _).mono ?_; rintro e w' ⟨rfl, rfl⟩)
        | (go_at_call 13; refine (rpair_any _ _ _).mono ?_; rintro e w' ⟨rfl, rfl⟩)
        | (go_at_call 10; refine (of_any l0 _ _ _ (by omega) B0.out).mono ?_; rintro e w' ⟨rfl, rfl⟩)
        | (go_at_call 11; refine (rof_any l0 _ _ _ (by omega) B0.out).mono ?_; rintro e w' ⟨rfl, rfl⟩)
        | (go_at_call 14; refine (list_any l4 _ _ _ (by omega) B4.out).mono ?_; rintro e w' ⟨rfl, rfl⟩)
        | (go_at_call 15; refine (rlist_any l4 _ _ _ (by omega) B4.out).mono ?_; rintro e w' ⟨rfl, rfl⟩))
      refine (text_any a _ H.out).mono ?_; rintro e w1 ⟨rfl, hb1⟩
      have T1 := Lib.hid (tab_below H.out hb1)
      have HB1 := Lib.hid hb1; clear hb1
      go_wp2_with fail
      refine (rtext_any a _).mono ?_; rintro e w' ⟨rfl, rfl⟩
      go_wp2_with fail
      refine (awake_any _ T1.out).mono ?_; rintro e w6 ⟨rfl, hb6⟩
      have HB6 := Lib.hid (HB1.out.trans (hb6.mono HB1.out.size)); clear hb6
      go_wp2
      go_ret
      exact ⟨rfl, HB6.out⟩
end digestActs
end Go.Proofs.YtbgkcelihemmjaaDoor
