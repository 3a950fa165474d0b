/-
  The functions of package codec (those that write stand in the text before this one). Nothing that was there has changed. Condition: the bytes are fewer than some millions.
-/
import Derived.Test.YtkckimhkbnigkaaCdE
import Derived.Test.YtkckimhkbnigkaaCdP
namespace Go.Proofs.Ytkckimhkbnigkaa
open Go.ChangeShapes Go.WideShapes Go.ChangeAt Go.RowKit
open Dg (W B)
theorem clone_nil (w : World) : Calls Try.prog 44 #[.slice none 0 0] w fun e w' => e = .returned (.slice none 0 0) ∧ w = w' := by
  have heq := fun (w : World) (a : Option Addr) (l c : Nat) => Lib.run_eql_slice_nil (P := Try.prog) w 22 5 a l c 0 0 Try.underlying22
  go_enter Try.func44, Try.ntmps44
  go_wp2_with fail
  go_ret
  exact ⟨rfl, rfl⟩
theorem getB_len {L D : List B} {p k : Nat} (h : Cd.getB (L.drop p) = .ok D k) (hL : L.length ≤ 300000000) : D.length ≤ 300000000 := by
  obtain ⟨f1, f2, f3, f4⟩ := Cd.getB_inv h
  have := congrArg List.length f4
  rw [Cd.putB_len, List.length_take, List.length_drop] at this
  omega
theorem unframe_len {L D : List B} {p k : Nat} (h : Cd.unframe (L.drop p) = .ok D k) (hL : L.length ≤ 300000000) : D.length ≤ 300000000 := by
  unfold Cd.unframe at h
  split at h
  · cases h
  · rename_i d k' hB
    split at h
    · cases h
    · split at h
      · simp only [Cd.R.ok.injEq] at h
        obtain ⟨rfl, -⟩ := h
        exact getB_len hB hL
      · cases h
theorem cint_got (L : List B) (p : Nat) (v : Value) (w : World) (hp : p ≤ L.length) (hL : L.length ≤ 300000000) (h : HasB w w.heap.size v L) :
    Calls Try.prog 22 #[v, .int .i64 (p : Int)] w (GotI (Cd.getI (L.drop p)) p w) := by
  have C := Lib.hid (rat_num_in L p v w hp hL h)
  obtain ⟨a, cap, rfl⟩ := h.form
  clear h hp
  go_enter Try.func22, Try.ntmps22
  go_wp2_with fail
  refine (C.out).mono ?_
  rintro e w1 ⟨rfl, g2⟩
  have G2 := Lib.hid g2; clear g2
  cases hr : Cd.getI (L.drop p) with
  | bad c =>
    unfold numRes
    go_wp2_with fail
    go_ret3
    exact ⟨by rw [hr]; rfl, G2.out⟩
  | ok n k =>
    unfold numRes
    go_wp2_with fail
    go_ret3
    exact ⟨by rw [hr]; rfl, G2.out⟩
theorem cint_out (L : List B) (p : Int) (v : Value) (w : World) (hp : p < 0 ∨ (L.length : Int) < p) (h : HasB w w.heap.size v L) :
    Calls Try.prog 22 #[v, .int .i64 p] w (Out3 (.int .i64 0) p w) := by
  have C := Lib.hid (rat_num_out L p v w hp h)
  obtain ⟨a, cap, rfl⟩ := h.form
  clear h hp
  go_enter Try.func22, Try.ntmps22
  go_wp2_with fail
  refine (C.out).mono ?_; rintro e w' ⟨rfl, rfl⟩
  go_wp2_with fail
  go_ret3
  exact ⟨rfl, Below.refl _ _⟩
theorem cbytes_got (L : List B) (p : Nat) (v : Value) (w : World) (hp : p ≤ L.length) (hL : L.length ≤ 300000000) (h : HasB w w.heap.size v L) :
    Calls Try.prog 23 #[v, .int .i64 (p : Int)] w (GotB (Cd.getB (L.drop p)) p w) := by
  have C := Lib.hid (rat_piece_in L p v w hp hL h)
  have HLL := Lib.hid hL
  obtain ⟨a, cap, rfl⟩ := h.form
  clear h hp hL
  go_enter Try.func23, Try.ntmps23
  go_wp2_with fail
  refine (C.out).mono ?_
  rintro e w1 (⟨c, g1, rfl, rfl⟩ | ⟨x, k, a1, n1, c1, g0, rfl, g2, rfl⟩)
  · have G1 := Lib.hid g1
    clear g1
    go_wp2_with fail
    refine (clone_nil w).mono ?_; rintro e w' ⟨rfl, rfl⟩
    go_wp2_with fail
    go_ret3
    exact .inl ⟨c, G1.out, rfl, Below.refl _ _⟩
  · have G0 := Lib.hid g0
    have C2 := Lib.hid (clone_any x w.heap.size _ _ (getB_len g0 HLL.out) (Nat.le_refl _) g2)
    clear g0 g2
    go_wp2_with fail
    refine (C2.out).mono ?_
    rintro e w2 ⟨v2, rfl, h2, b2⟩
    have H2 := Lib.hid h2; have B2 := Lib.hid b2
    clear h2 b2
    go_wp2_with fail
    go_ret3
    exact .inr ⟨x, k, _, G0.out, rfl, H2.out, B2.out⟩
theorem cbytes_out (L : List B) (p : Int) (v : Value) (w : World) (hp : p < 0 ∨ (L.length : Int) < p) (h : HasB w w.heap.size v L) :
    Calls Try.prog 23 #[v, .int .i64 p] w (Out3 (.slice none 0 0) p w) := by
  have C := Lib.hid (rat_piece_out L p v w hp h)
  obtain ⟨a, cap, rfl⟩ := h.form
  clear h hp
  go_enter Try.func23, Try.ntmps23
  go_wp2_with fail
  refine (C.out).mono ?_; rintro e w' ⟨rfl, rfl⟩
  go_wp2_with fail
  refine (clone_nil w).mono ?_; rintro e w' ⟨rfl, rfl⟩
  go_wp2_with fail
  go_ret3
  exact ⟨rfl, Below.refl _ _⟩
theorem cdgt_got (L : List B) (p : Nat) (v : Value) (w : World) (hp : p ≤ L.length) (hL : L.length ≤ 300000000) (h : HasB w w.heap.size v L) :
    Calls Try.prog 24 #[v, .int .i64 (p : Int)] w (GotD (Cd.getD (L.drop p)) p w) := by
  have C := Lib.hid (rat_dig_in L p v w hp hL h)
  obtain ⟨a, cap, rfl⟩ := h.form
  clear h hp
  go_enter Try.func24, Try.ntmps24
  go_wp2_with fail
  refine (C.out).mono ?_
  rintro e w1 (⟨c, g1, rfl, g2⟩ | ⟨x, k, g0, rfl, g3⟩)
  · have G1 := Lib.hid g1; have G2 := Lib.hid g2
    clear g1 g2
    go_wp2_with fail
    go_ret3
    exact .inl ⟨c, G1.out, rfl, G2.out⟩
  · have G3 := Lib.hid g3; have G0 := Lib.hid g0
    clear g3 g0
    go_wp2_with fail
    go_ret3
    exact .inr ⟨x, k, G0.out, rfl, G3.out⟩
theorem cdgt_out (L : List B) (p : Int) (v : Value) (w : World) (hp : p < 0 ∨ (L.length : Int) < p) (h : HasB w w.heap.size v L) :
    Calls Try.prog 24 #[v, .int .i64 p] w (Out3 (.int .u64 0) p w) := by
  have C := Lib.hid (rat_dig_out L p v w hp h)
  obtain ⟨a, cap, rfl⟩ := h.form
  clear h hp
  go_enter Try.func24, Try.ntmps24
  go_wp2_with fail
  refine (C.out).mono ?_; rintro e w' ⟨rfl, rfl⟩
  go_wp2_with fail
  go_ret3
  exact ⟨rfl, Below.refl _ _⟩
theorem clist_got (L : List B) (p : Nat) (v : Value) (w : World) (hp : p ≤ L.length) (hL : L.length ≤ 300000000) (h : HasB w w.heap.size v L) :
    Calls Try.prog 25 #[v, .int .i64 (p : Int)] w (GotL (Cd.getL (L.drop p)) p w) := by
  have C := Lib.hid (rat_list_in L p v w hp hL h)
  obtain ⟨a, cap, rfl⟩ := h.form
  clear h hp
  go_enter Try.func25, Try.ntmps25
  go_wp2_with fail
  refine (C.out).mono ?_
  rintro e w1 (⟨c, g1, rfl, g2⟩ | ⟨x, k, dv, g0, rfl, g2, g3⟩)
  · have G1 := Lib.hid g1; have G2 := Lib.hid g2
    clear g1 g2
    go_wp2_with fail
    go_ret3
    exact .inl ⟨c, G1.out, rfl, G2.out⟩
  · have G3 := Lib.hid g3; have G0 := Lib.hid g0; have G2 := Lib.hid g2
    clear g3 g0 g2
    go_wp2_with fail
    go_ret3
    exact .inr ⟨x, k, _, G0.out, rfl, G2.out, G3.out⟩
theorem clist_out (L : List B) (p : Int) (v : Value) (w : World) (hp : p < 0 ∨ (L.length : Int) < p) (h : HasB w w.heap.size v L) :
    Calls Try.prog 25 #[v, .int .i64 p] w (Out3 (.slice none 0 0) p w) := by
  have C := Lib.hid (rat_list_out L p v w hp h)
  obtain ⟨a, cap, rfl⟩ := h.form
  clear h hp
  go_enter Try.func25, Try.ntmps25
  go_wp2_with fail
  refine (C.out).mono ?_; rintro e w' ⟨rfl, rfl⟩
  go_wp2_with fail
  go_ret3
  exact ⟨rfl, Below.refl _ _⟩
theorem cunframe_got (L : List B) (p : Nat) (v : Value) (w : World) (hp : p ≤ L.length) (hL : L.length ≤ 300000000) (h : HasB w w.heap.size v L) :
    Calls Try.prog 27 #[v, .int .i64 (p : Int)] w (GotB (Cd.unframe (L.drop p)) p w) := by
  have C := Lib.hid (rat_frame_in L p v w hp hL h)
  have HLL := Lib.hid hL
  obtain ⟨a, cap, rfl⟩ := h.form
  clear h hp hL
  go_enter Try.func27, Try.ntmps27
  go_wp2_with fail
  refine (C.out).mono ?_
  rintro e w1 (⟨c, g1, rfl, rfl⟩ | ⟨x, k, a1, n1, c1, g0, rfl, g2, rfl⟩)
  · have G1 := Lib.hid g1
    clear g1
    go_wp2_with fail
    refine (clone_nil w).mono ?_; rintro e w' ⟨rfl, rfl⟩
    go_wp2_with fail
    go_ret3
    exact .inl ⟨c, G1.out, rfl, Below.refl _ _⟩
  · have G0 := Lib.hid g0
    have C2 := Lib.hid (clone_any x w.heap.size _ _ (unframe_len g0 HLL.out) (Nat.le_refl _) g2)
    clear g0 g2
    go_wp2_with fail
    refine (C2.out).mono ?_
    rintro e w2 ⟨v2, rfl, h2, b2⟩
    have H2 := Lib.hid h2; have B2 := Lib.hid b2
    clear h2 b2
    go_wp2_with fail
    go_ret3
    exact .inr ⟨x, k, _, G0.out, rfl, H2.out, B2.out⟩
theorem cunframe_out (L : List B) (p : Int) (v : Value) (w : World) (hp : p < 0 ∨ (L.length : Int) < p) (h : HasB w w.heap.size v L) :
    Calls Try.prog 27 #[v, .int .i64 p] w (Out3 (.slice none 0 0) p w) := by
  have C := Lib.hid (rat_frame_out L p v w hp h)
  obtain ⟨a, cap, rfl⟩ := h.form
  clear h hp
  go_enter Try.func27, Try.ntmps27
  go_wp2_with fail
  refine (C.out).mono ?_; rintro e w' ⟨rfl, rfl⟩
  go_wp2_with fail
  refine (clone_nil w).mono ?_; rintro e w' ⟨rfl, rfl⟩
  go_wp2_with fail
  go_ret3
  exact ⟨rfl, Below.refl _ _⟩
end Go.Proofs.Ytkckimhkbnigkaa
