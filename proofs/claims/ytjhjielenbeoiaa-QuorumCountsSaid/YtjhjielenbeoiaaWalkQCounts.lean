/-
  The walk of QuorumCounts: it returns true, and nothing that was there has changed. No condition.
-/
import Derived.Test.YtjhjielenbeoiaaQuorumF
import Derived.Test.YtjhjielenbeoiaaSeq
import Derived.Test.YtjhjielenbeoiaaOpen
namespace Go.Proofs.Ytjhjielenbeoiaa.quorumCounts
open Go.ChangeShapes Go.WideShapes Go.ChangeAt Go.RowKit
open Dg (W B)
set_option maxRecDepth 100000 in
set_option maxHeartbeats 2000000 in
theorem walk (w : World) (n : Int) (hn : (Lit.int .i64 n).wf = true) (f : Int) (hf : (Lit.int .i64 f).wf = true) :
    Calls Try.prog 6 #[.int .i64 n, .int .i64 f] w fun e w' => e = .returned (.bool true) ∧ Below w.heap.size w w' := by
  have C0 := Lib.hid (config_any n f hn hf w)
  clear hn hf
  go_enter Try.func6, Try.ntmps6
  go_wp2_with fail
  refine (C0.out).mono ?_; rintro e wa ⟨N, F, rfl, g1, g2, g3, b⟩
  have hs : small (N : Int) (F : Int) := by unfold small; omega
  obtain ⟨h, hh⟩ : ∃ h : Nat, h = N - F := ⟨_, rfl⟩
  obtain ⟨s, hs2⟩ : ∃ s : Nat, s = 2 * F + 1 := ⟨_, rfl⟩
  obtain ⟨u, hu⟩ : ∃ u : Nat, u = F + 1 := ⟨_, rfl⟩
  obtain ⟨v, hv⟩ : ∃ v : Nat, v = (N + F) / 2 + 1 := ⟨_, rfl⟩
  obtain ⟨a2, ha2⟩ : ∃ a : Nat, a = 2 * u := ⟨_, rfl⟩
  obtain ⟨a3, ha3⟩ : ∃ a : Nat, a = 2 * u - 1 := ⟨_, rfl⟩
  obtain ⟨b2, hb2⟩ : ∃ a : Nat, a = 2 * v := ⟨_, rfl⟩
  obtain ⟨c2, hc2⟩ : ∃ a : Nat, a = N + F := ⟨_, rfl⟩
  have D1 := Lib.hid fun w' => qenough_in (N : Int) (F : Int) hs w'
  rw [show (N : Int) - (F : Int) = (h : Int) by omega] at D1
  have D2 := Lib.hid fun w' => qstrong_in (N : Int) (F : Int) hs w'
  rw [show 2 * (F : Int) + 1 = (s : Int) by omega] at D2
  have D3 := Lib.hid fun w' => qhalf_in (N : Int) (F : Int) hs w'
  rw [show ((N : Int) + (F : Int)) / 2 + 1 = (v : Int) by omega] at D3
  have D4 := Lib.hid fun w' => qweak_in (N : Int) (F : Int) hs w'
  rw [show (F : Int) + 1 = (u : Int) by omega] at D4
  have D5 := Lib.hid fun w' => qall_in N (F : Int) g2 w'
  have D6 := Lib.hid fun w' => qsize_any (uv (Qm.all N)) w'
  rw [Qm.qw_uv, Qm.cnt_all N g2] at D6
  have t0 : (N : Int) - (F : Int) = (h : Int) := by omega
  have k2 : s ≤ h := by omega
  have k3 : v ≤ h := by omega
  have k4 : F < u := by omega
  have k5 : u ≤ s := by omega
  have k6 : s ≤ a3 := by omega
  have k7 : c2 < b2 := by omega
  have w1 : IntKind.i64.wrap (2 * (u : Int)) = (a2 : Int) := by rw [IntKind.wrap_i64]; omega
  have w2 : IntKind.i64.wrap ((a2 : Int) - 1) = (a3 : Int) := by rw [IntKind.wrap_i64]; omega
  have w3 : IntKind.i64.wrap (2 * (v : Int)) = (b2 : Int) := by rw [IntKind.wrap_i64]; omega
  have w4 : IntKind.i64.wrap ((N : Int) + (F : Int)) = (c2 : Int) := by rw [IntKind.wrap_i64]; omega
  have n16 : (N : Int) ≤ 16 := by omega
  have f5 : (F : Int) ≤ 5 := by omega
  have f0 : (F : Int) ≤ (N : Int) := by omega
  unfold cfg at *
  obtain ⟨w0, hw0⟩ : ∃ w0, w0 = wa.alloc (.cells #[.int .i64 (N : Int), .int .i64 (F : Int)] 23) := ⟨_, rfl⟩
  have x0 : w0.cell? ⟨wa.heap.size, 0, none⟩ = some (.int .i64 (N : Int)) := by rw [hw0, World.cell?_alloc_new]; rfl
  have x1 : w0.cell? ⟨wa.heap.size, 1, none⟩ = some (.int .i64 (F : Int)) := by rw [hw0, World.cell?_alloc_new]; rfl
  have B0 : Hid (Below w.heap.size w w0) := Lib.hid (by rw [hw0]; exact b.alloc b.size _)
  have HW := Lib.hid hw0
  obtain ⟨p, hp⟩ : ∃ p, p = wa.heap.size := ⟨_, rfl⟩
  have HP := Lib.hid hp
  rw [← hp] at x0 x1
  clear g1 g2 g3 hs hh hs2 hu hv ha2 ha3 hb2 hc2 b hw0 hp C0
  go_wp2_with fail
  rw [← HW.out, ← HP.out]
  refine wp_region_seq [(0, true), (1, true), (2, false), (3, true), (4, true), (5, true), (6, true), (7, false), (8, true), (9, true), (10, true), (11, true), (12, true), (13, false), (14, true), (15, true), (16, true), (17, true), (18, true), (19, true), (20, false), (21, true), (22, true), (23, true), (24, true), (26, true), (25, false), (27, false), (28, true), (29, true), (30, true), (31, true), (33, true), (32, false), (34, false), (35, true), (36, true), (37, true), (38, true), (39, true), (40, true), (43, true), (44, true), (45, true), (46, true), (47, true), (41, false), (42, true), (48, true), (49, true), (50, true), (51, true), (54, true), (55, true), (52, false), (53, false), (56, true), (57, true), (58, true), (59, false), (60, true), (61, true)] (by kernel_rfl) (by kernel_rfl) (by kernel_rfl) (by kernel_rfl) ?_
  iterate 2 (refine wpSeq_pure (v := ?_) rfl (by rfl) (fun w' hw' => ?_) ?_; rotate_left; (focus (have y0 := qkept hw' x0; have y1 := qkept hw' x1; go_simp; try with_reducible rfl)); try simp only [Act.put, List.setIfInBounds_toArray, List.set_cons_zero, List.set_cons_succ])
  refine wpSeq_call rfl (fun K' hK => ?_)
  go_simp
  go_at_call 9
  refine (D1.out _).mono ?_; rintro e v1 ⟨rfl, b⟩
  refine hK.out _ _ b ?_
  clear hK K'
  try simp only [Act.put, List.setIfInBounds_toArray, List.set_cons_zero, List.set_cons_succ]
  replace x0 := qkept b x0; replace x1 := qkept b x1; have B1 := Lib.hid (B0.out.drew.trans (b.mono B0.out.drew.size)); clear b
  iterate 4 (refine wpSeq_pure (v := ?_) rfl (by rfl) (fun w' hw' => ?_) ?_; rotate_left; (focus (have y0 := qkept hw' x0; have y1 := qkept hw' x1; go_simp; try with_reducible rfl)); try simp only [Act.put, List.setIfInBounds_toArray, List.set_cons_zero, List.set_cons_succ])
  refine wpSeq_call rfl (fun K' hK => ?_)
  go_simp
  go_at_call 10
  refine (D2.out _).mono ?_; rintro e v2 ⟨rfl, b⟩
  refine hK.out _ _ b ?_
  clear hK K'
  try simp only [Act.put, List.setIfInBounds_toArray, List.set_cons_zero, List.set_cons_succ]
  replace x0 := qkept b x0; replace x1 := qkept b x1; have B2 := Lib.hid (B1.out.trans (b.mono B1.out.size)); clear b
  iterate 5 (refine wpSeq_pure (v := ?_) rfl (by rfl) (fun w' hw' => ?_) ?_; rotate_left; (focus (have y0 := qkept hw' x0; have y1 := qkept hw' x1; go_simp; try with_reducible rfl)); try simp only [Act.put, List.setIfInBounds_toArray, List.set_cons_zero, List.set_cons_succ])
  refine wpSeq_call rfl (fun K' hK => ?_)
  go_simp
  go_at_call 15
  refine (D3.out _).mono ?_; rintro e v3 ⟨rfl, b⟩
  refine hK.out _ _ b ?_
  clear hK K'
  try simp only [Act.put, List.setIfInBounds_toArray, List.set_cons_zero, List.set_cons_succ]
  replace x0 := qkept b x0; replace x1 := qkept b x1; have B3 := Lib.hid (B2.out.trans (b.mono B2.out.size)); clear b
  iterate 6 (refine wpSeq_pure (v := ?_) rfl (by rfl) (fun w' hw' => ?_) ?_; rotate_left; (focus (have y0 := qkept hw' x0; have y1 := qkept hw' x1; go_simp; try with_reducible rfl)); try simp only [Act.put, List.setIfInBounds_toArray, List.set_cons_zero, List.set_cons_succ])
  refine wpSeq_call rfl (fun K' hK => ?_)
  go_simp
  go_at_call 11
  refine (D4.out _).mono ?_; rintro e v4 ⟨rfl, b⟩
  refine hK.out _ _ b ?_
  clear hK K'
  try simp only [Act.put, List.setIfInBounds_toArray, List.set_cons_zero, List.set_cons_succ]
  replace x0 := qkept b x0; replace x1 := qkept b x1; have B4 := Lib.hid (B3.out.trans (b.mono B3.out.size)); clear b
  iterate 5 (refine wpSeq_pure (v := ?_) rfl (by rfl) (fun w' hw' => ?_) ?_; rotate_left; (focus (have y0 := qkept hw' x0; have y1 := qkept hw' x1; go_simp; try with_reducible rfl)); try simp only [Act.put, List.setIfInBounds_toArray, List.set_cons_zero, List.set_cons_succ])
  refine wpSeq_call rfl (fun K' hK => ?_)
  go_simp
  go_at_call 11
  refine (D4.out _).mono ?_; rintro e v5 ⟨rfl, b⟩
  refine hK.out _ _ b ?_
  clear hK K'
  try simp only [Act.put, List.setIfInBounds_toArray, List.set_cons_zero, List.set_cons_succ]
  replace x0 := qkept b x0; replace x1 := qkept b x1; have B5 := Lib.hid (B4.out.trans (b.mono B4.out.size)); clear b
  refine wpSeq_call rfl (fun K' hK => ?_)
  go_simp
  go_at_call 10
  refine (D2.out _).mono ?_; rintro e v6 ⟨rfl, b⟩
  refine hK.out _ _ b ?_
  clear hK K'
  try simp only [Act.put, List.setIfInBounds_toArray, List.set_cons_zero, List.set_cons_succ]
  replace x0 := qkept b x0; replace x1 := qkept b x1; have B6 := Lib.hid (B5.out.trans (b.mono B5.out.size)); clear b
  iterate 5 (refine wpSeq_pure (v := ?_) rfl (by rfl) (fun w' hw' => ?_) ?_; rotate_left; (focus (have y0 := qkept hw' x0; have y1 := qkept hw' x1; go_simp; try with_reducible rfl)); try simp only [Act.put, List.setIfInBounds_toArray, List.set_cons_zero, List.set_cons_succ])
  refine wpSeq_call rfl (fun K' hK => ?_)
  go_simp
  go_at_call 10
  refine (D2.out _).mono ?_; rintro e v7 ⟨rfl, b⟩
  refine hK.out _ _ b ?_
  clear hK K'
  try simp only [Act.put, List.setIfInBounds_toArray, List.set_cons_zero, List.set_cons_succ]
  replace x0 := qkept b x0; replace x1 := qkept b x1; have B7 := Lib.hid (B6.out.trans (b.mono B6.out.size)); clear b
  refine wpSeq_call rfl (fun K' hK => ?_)
  go_simp
  go_at_call 11
  refine (D4.out _).mono ?_; rintro e v8 ⟨rfl, b⟩
  refine hK.out _ _ b ?_
  clear hK K'
  try simp only [Act.put, List.setIfInBounds_toArray, List.set_cons_zero, List.set_cons_succ]
  replace x0 := qkept b x0; replace x1 := qkept b x1; have B8 := Lib.hid (B7.out.trans (b.mono B7.out.size)); clear b
  iterate 11 (refine wpSeq_pure (v := ?_) rfl (by rfl) (fun w' hw' => ?_) ?_; rotate_left; (focus (have y0 := qkept hw' x0; have y1 := qkept hw' x1; go_simp; try with_reducible rfl)); try simp only [Act.put, List.setIfInBounds_toArray, List.set_cons_zero, List.set_cons_succ])
  refine wpSeq_call rfl (fun K' hK => ?_)
  go_simp
  go_at_call 15
  refine (D3.out _).mono ?_; rintro e v9 ⟨rfl, b⟩
  refine hK.out _ _ b ?_
  clear hK K'
  try simp only [Act.put, List.setIfInBounds_toArray, List.set_cons_zero, List.set_cons_succ]
  replace x0 := qkept b x0; replace x1 := qkept b x1; have B9 := Lib.hid (B8.out.trans (b.mono B8.out.size)); clear b
  iterate 7 (refine wpSeq_pure (v := ?_) rfl (by rfl) (fun w' hw' => ?_) ?_; rotate_left; (focus (have y0 := qkept hw' x0; have y1 := qkept hw' x1; go_simp; try with_reducible rfl)); try simp only [Act.put, List.setIfInBounds_toArray, List.set_cons_zero, List.set_cons_succ])
  refine wpSeq_call rfl (fun K' hK => ?_)
  go_simp
  go_at_call 13
  refine (D5.out _).mono ?_; rintro e v10 ⟨rfl, b⟩
  refine hK.out _ _ b ?_
  clear hK K'
  try simp only [Act.put, List.setIfInBounds_toArray, List.set_cons_zero, List.set_cons_succ]
  replace x0 := qkept b x0; replace x1 := qkept b x1; have B10 := Lib.hid (B9.out.trans (b.mono B9.out.size)); clear b
  refine wpSeq_call rfl (fun K' hK => ?_)
  go_simp
  go_at_call 14
  refine (D6.out _).mono ?_; rintro e v11 ⟨rfl, b⟩
  refine hK.out _ _ b ?_
  clear hK K'
  try simp only [Act.put, List.setIfInBounds_toArray, List.set_cons_zero, List.set_cons_succ]
  replace x0 := qkept b x0; replace x1 := qkept b x1; have B11 := Lib.hid (B10.out.trans (b.mono B10.out.size)); clear b
  iterate 3 (refine wpSeq_pure (v := ?_) rfl (by rfl) (fun w' hw' => ?_) ?_; rotate_left; (focus (have y0 := qkept hw' x0; have y1 := qkept hw' x1; go_simp; try with_reducible rfl)); try simp only [Act.put, List.setIfInBounds_toArray, List.set_cons_zero, List.set_cons_succ])
  refine wpSeq_call rfl (fun K' hK => ?_)
  go_simp
  go_at_call 16
  refine (awake_any _).mono ?_; rintro e v12 ⟨rfl, b⟩
  refine hK.out _ _ b ?_
  clear hK K'
  try simp only [Act.put, List.setIfInBounds_toArray, List.set_cons_zero, List.set_cons_succ]
  replace x0 := qkept b x0; replace x1 := qkept b x1; have B12 := Lib.hid (B11.out.trans (b.mono B11.out.size)); clear b
  iterate 2 (refine wpSeq_pure (v := ?_) rfl (by rfl) (fun w' hw' => ?_) ?_; rotate_left; (focus (have y0 := qkept hw' x0; have y1 := qkept hw' x1; go_simp; try with_reducible rfl)); try simp only [Act.put, List.setIfInBounds_toArray, List.set_cons_zero, List.set_cons_succ])
  refine wpSeq_nil ?_
  go_wp2_with fail
  go_ret
  exact ⟨rfl, B12.out⟩
end Go.Proofs.Ytjhjielenbeoiaa.quorumCounts
