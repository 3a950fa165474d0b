/-
  The walk of QuorumLess: it returns true, and nothing that was there has changed. No condition.
-/
import Derived.Test.YtjhjielenbeoiaaQuorumF
import Derived.Test.YtjhjielenbeoiaaSeq
import Derived.Test.YtjhjielenbeoiaaOpen
namespace Go.Proofs.Ytjhjielenbeoiaa.quorumLess
open Go.ChangeShapes Go.WideShapes Go.ChangeAt Go.RowKit
open Dg (W B)
set_option maxRecDepth 100000 in
set_option maxHeartbeats 2000000 in
theorem walk (w : World) (n : Int) (hn : (Lit.int .i64 n).wf = true) (f : Int) (hf : (Lit.int .i64 f).wf = true) :
    Calls Try.prog 5 #[.int .i64 n, .int .i64 f] w fun e w' => e = .returned (.bool true) ∧ Below w.heap.size w w' := by
  have C0 := Lib.hid (config_any n f hn hf w)
  clear hn hf
  go_enter Try.func5, Try.ntmps5
  go_wp2_with fail
  refine (C0.out).mono ?_; rintro e wa ⟨N, F, rfl, g1, g2, g3, b⟩
  obtain ⟨m, hm⟩ : ∃ m : Nat, m = (N - 1) / 3 := ⟨_, rfl⟩
  have n1 : (1 : Int) ≤ (N : Int) := by omega
  have n16 : (N : Int) ≤ 16 := by omega
  have f5 : (F : Int) ≤ 5 := by omega
  have m5 : (m : Int) ≤ 5 := by omega
  have tw1 : IntKind.i64.wrap ((N : Int) + 1) = (N : Int) + 1 := by rw [IntKind.wrap_i64]; omega
  have C1 := Lib.hid fun w' => qmost_in (N : Int) (by omega) w'
  rw [show ((N : Int) - 1) / 3 = (m : Int) by omega] at C1
  have V1 := Lib.hid fun w' => qvalid_any (N : Int) (m : Int) w'
  rw [show validB (N : Int) (m : Int) = true by unfold validB; exact decide_eq_true (by omega)] at V1
  have V2 := Lib.hid fun w' => qvalid_any (N : Int) ((m : Int) + 1) w'
  rw [show validB (N : Int) ((m : Int) + 1) = false by unfold validB; exact decide_eq_false (by omega)] at V2
  have V3 := Lib.hid fun w' (h : 0 < F) => (by have := qvalid_any (N : Int) ((F : Int) - 1) w'; rw [show validB (N : Int) ((F : Int) - 1) = true by unfold validB; exact decide_eq_true (by omega)] at this; exact this : Calls Try.prog 8 #[cfg (N : Int) ((F : Int) - 1)] w' fun e w'' => e = .returned (.bool true) ∧ Below w'.heap.size w' w'')
  have V4 := Lib.hid fun w' => qvalid_any ((N : Int) + 1) (F : Int) w'
  rw [show validB ((N : Int) + 1) (F : Int) = decide ((N : Int) < 16) by unfold validB; rw [decide_eq_decide]; omega] at V4
  have V5 := Lib.hid fun w' => qvalid_any (N : Int) (-1) w'
  rw [show validB (N : Int) (-1) = false by unfold validB; exact decide_eq_false (by omega)] at V5
  unfold cfg at *
  obtain ⟨w0, hw0⟩ : ∃ w0, w0 = wa.alloc (.cells #[.int .i64 (N : Int), .int .i64 (F : Int)] 23) := ⟨_, rfl⟩
  have x0 : w0.cell? ⟨wa.heap.size, 0, none⟩ = some (.int .i64 (N : Int)) := by rw [hw0, World.cell?_alloc_new]; rfl
  have x1 : w0.cell? ⟨wa.heap.size, 1, none⟩ = some (.int .i64 (F : Int)) := by rw [hw0, World.cell?_alloc_new]; rfl
  have B0 : Hid (Below w.heap.size w w0) := Lib.hid (by rw [hw0]; exact b.alloc b.size _)
  have HW := Lib.hid hw0
  obtain ⟨p, hp⟩ : ∃ p, p = wa.heap.size := ⟨_, rfl⟩
  have HP := Lib.hid hp
  rw [← hp] at x0 x1
  clear g1 g2 g3 hm b hw0 hp C0
  go_wp2_with fail
  rw [← HW.out, ← HP.out]
  refine (C1.out _).mono ?_; rintro e w' ⟨rfl, rfl⟩
  go_wp2_with fail
  refine (V1.out _).mono ?_; rintro e w1 ⟨rfl, b⟩
  replace x0 := qkept b x0; replace x1 := qkept b x1; have B1 := Lib.hid (B0.out.trans (b.mono B0.out.size)); clear b
  go_wp2_with fail
  refine (V2.out _).mono ?_; rintro e w2 ⟨rfl, b⟩
  replace x0 := qkept b x0; replace x1 := qkept b x1; have B2 := Lib.hid (B1.out.trans (b.mono B1.out.size)); clear b
  have hF : (0 < F ∧ decide (0 < F) = true) ∨ decide (0 < F) = false := by
    by_cases h : 0 < F
    · exact .inl ⟨h, decide_eq_true (by omega)⟩
    · exact .inr (decide_eq_false (by omega))
  rcases hF with ⟨hF, t1⟩ | t1
  · have V3' := Lib.hid fun w' => V3.out w' hF
    have HFF := Lib.hid hF; clear hF V3
    unfold cfg at V3'
    go_wp2_with fail
    refine (V3'.out _).mono ?_; rintro e w3 ⟨rfl, b⟩
    replace x0 := qkept b x0; replace x1 := qkept b x1; have B3 := Lib.hid (B2.out.trans (b.mono B2.out.size)); clear b
    go_wp2_with fail
    refine wp_region_seq [(0, true), (1, true), (2, true), (3, true), (4, true), (5, true), (7, true), (8, true), (9, true), (6, false), (10, true), (11, true), (12, true), (13, true), (14, true), (15, false), (16, true), (17, true), (18, true), (19, false), (20, true), (21, true)] (by kernel_rfl) (by kernel_rfl) (by kernel_rfl) (by kernel_rfl) ?_
    iterate 9 (refine wpSeq_pure (v := ?_) rfl (by rfl) (fun w' hw' => ?_) ?_; rotate_left; (focus (have y0 := qkept hw' x0; have y1 := qkept hw' x1; go_simp; try with_reducible rfl)); try simp only [Act.put, List.setIfInBounds_toArray, List.set_cons_zero, List.set_cons_succ])
    refine wpSeq_call rfl (fun K' hK => ?_)
    go_simp
    go_at_call 8
    refine (V4.out _).mono ?_; rintro e w4 ⟨rfl, b⟩
    refine hK.out _ _ b ?_
    clear hK K'
    try simp only [Act.put, List.setIfInBounds_toArray, List.set_cons_zero, List.set_cons_succ]
    replace x0 := qkept b x0; replace x1 := qkept b x1; have B4 := Lib.hid (B3.out.drew.trans (b.mono B3.out.drew.size)); clear b
    iterate 5 (refine wpSeq_pure (v := ?_) rfl (by rfl) (fun w' hw' => ?_) ?_; rotate_left; (focus (have y0 := qkept hw' x0; have y1 := qkept hw' x1; go_simp; try with_reducible rfl)); try simp only [Act.put, List.setIfInBounds_toArray, List.set_cons_zero, List.set_cons_succ])
    refine wpSeq_call rfl (fun K' hK => ?_)
    go_simp
    go_at_call 8
    refine (V5.out _).mono ?_; rintro e w5 ⟨rfl, b⟩
    refine hK.out _ _ b ?_
    clear hK K'
    try simp only [Act.put, List.setIfInBounds_toArray, List.set_cons_zero, List.set_cons_succ]
    replace x0 := qkept b x0; replace x1 := qkept b x1; have B5 := Lib.hid (B4.out.trans (b.mono B4.out.size)); clear b
    iterate 3 (refine wpSeq_pure (v := ?_) rfl (by rfl) (fun w' hw' => ?_) ?_; rotate_left; (focus (have y0 := qkept hw' x0; have y1 := qkept hw' x1; go_simp; try with_reducible rfl)); try simp only [Act.put, List.setIfInBounds_toArray, List.set_cons_zero, List.set_cons_succ])
    refine wpSeq_call rfl (fun K' hK => ?_)
    go_simp
    go_at_call 16
    refine (awake_any _).mono ?_; rintro e w6 ⟨rfl, b⟩
    refine hK.out _ _ b ?_
    clear hK K'
    try simp only [Act.put, List.setIfInBounds_toArray, List.set_cons_zero, List.set_cons_succ]
    replace x0 := qkept b x0; replace x1 := qkept b x1; have B6 := Lib.hid (B5.out.trans (b.mono B5.out.size)); clear b
    iterate 2 (refine wpSeq_pure (v := ?_) rfl (by rfl) (fun w' hw' => ?_) ?_; rotate_left; (focus (have y0 := qkept hw' x0; have y1 := qkept hw' x1; go_simp; try with_reducible rfl)); try simp only [Act.put, List.setIfInBounds_toArray, List.set_cons_zero, List.set_cons_succ])
    refine wpSeq_nil ?_
    go_wp2_with fail
    go_ret
    exact ⟨rfl, B6.out⟩
  · clear V3
    go_wp2_with fail
    refine wp_region_seq [(0, true), (1, true), (2, true), (3, true), (4, true), (5, true), (7, true), (8, true), (9, true), (6, false), (10, true), (11, true), (12, true), (13, true), (14, true), (15, false), (16, true), (17, true), (18, true), (19, false), (20, true), (21, true)] (by kernel_rfl) (by kernel_rfl) (by kernel_rfl) (by kernel_rfl) ?_
    iterate 9 (refine wpSeq_pure (v := ?_) rfl (by rfl) (fun w' hw' => ?_) ?_; rotate_left; (focus (have y0 := qkept hw' x0; have y1 := qkept hw' x1; go_simp; try with_reducible rfl)); try simp only [Act.put, List.setIfInBounds_toArray, List.set_cons_zero, List.set_cons_succ])
    refine wpSeq_call rfl (fun K' hK => ?_)
    go_simp
    go_at_call 8
    refine (V4.out _).mono ?_; rintro e w4 ⟨rfl, b⟩
    refine hK.out _ _ b ?_
    clear hK K'
    try simp only [Act.put, List.setIfInBounds_toArray, List.set_cons_zero, List.set_cons_succ]
    replace x0 := qkept b x0; replace x1 := qkept b x1; have B4 := Lib.hid (B2.out.drew.trans (b.mono B2.out.drew.size)); clear b
    iterate 5 (refine wpSeq_pure (v := ?_) rfl (by rfl) (fun w' hw' => ?_) ?_; rotate_left; (focus (have y0 := qkept hw' x0; have y1 := qkept hw' x1; go_simp; try with_reducible rfl)); try simp only [Act.put, List.setIfInBounds_toArray, List.set_cons_zero, List.set_cons_succ])
    refine wpSeq_call rfl (fun K' hK => ?_)
    go_simp
    go_at_call 8
    refine (V5.out _).mono ?_; rintro e w5 ⟨rfl, b⟩
    refine hK.out _ _ b ?_
    clear hK K'
    try simp only [Act.put, List.setIfInBounds_toArray, List.set_cons_zero, List.set_cons_succ]
    replace x0 := qkept b x0; replace x1 := qkept b x1; have B5 := Lib.hid (B4.out.trans (b.mono B4.out.size)); clear b
    iterate 3 (refine wpSeq_pure (v := ?_) rfl (by rfl) (fun w' hw' => ?_) ?_; rotate_left; (focus (have y0 := qkept hw' x0; have y1 := qkept hw' x1; go_simp; try with_reducible rfl)); try simp only [Act.put, List.setIfInBounds_toArray, List.set_cons_zero, List.set_cons_succ])
    refine wpSeq_call rfl (fun K' hK => ?_)
    go_simp
    go_at_call 16
    refine (awake_any _).mono ?_; rintro e w6 ⟨rfl, b⟩
    refine hK.out _ _ b ?_
    clear hK K'
    try simp only [Act.put, List.setIfInBounds_toArray, List.set_cons_zero, List.set_cons_succ]
    replace x0 := qkept b x0; replace x1 := qkept b x1; have B6 := Lib.hid (B5.out.trans (b.mono B5.out.size)); clear b
    iterate 2 (refine wpSeq_pure (v := ?_) rfl (by rfl) (fun w' hw' => ?_) ?_; rotate_left; (focus (have y0 := qkept hw' x0; have y1 := qkept hw' x1; go_simp; try with_reducible rfl)); try simp only [Act.put, List.setIfInBounds_toArray, List.set_cons_zero, List.set_cons_succ])
    refine wpSeq_nil ?_
    go_wp2_with fail
    go_ret
    exact ⟨rfl, B6.out⟩
end Go.Proofs.Ytjhjielenbeoiaa.quorumLess
