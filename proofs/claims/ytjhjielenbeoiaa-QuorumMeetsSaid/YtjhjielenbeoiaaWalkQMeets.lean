/-
  The walk of QuorumMeets: it returns true, and nothing that was there has changed. No condition.
-/
import Derived.Test.YtjhjielenbeoiaaQuorumF
import Derived.Test.YtjhjielenbeoiaaSeq
import Derived.Test.YtjhjielenbeoiaaOpen
import Derived.Deep.DeepCutAuto
namespace Go.Proofs.Ytjhjielenbeoiaa.quorumMeets
open Go.ChangeShapes Go.WideShapes Go.ChangeAt Go.RowKit
open Dg (W B)
theorem andNot_i64 (x y : W) (hx : x.toNat < 9223372036854775808) : bits .andNot .i64 (uv x) (uv y) = uv (x &&& ~~~ y) := by
  show IntKind.i64.wrap ((BitVec.ofInt 64 (uv x) &&& ~~~ (BitVec.ofInt 64 (uv y))).toNat : Int) = _
  rw [show BitVec.ofInt 64 (uv x) = x from Qm.qw_uv x, show BitVec.ofInt 64 (uv y) = y from Qm.qw_uv y]
  have : (x &&& ~~~ y).toNat ≤ x.toNat := by rw [BitVec.toNat_and]; exact Nat.and_le_left
  show IntKind.i64.wrap (((x &&& ~~~ y).toNat : Nat) : Int) = ((x &&& ~~~ y).toNat : Int)
  rw [IntKind.wrap_i64]
  omega
theorem all_lt (n : Nat) (h : n ≤ 16) : (Qm.all n).toNat < 65536 := by
  have h1 := (all_uv n h).1
  unfold uv at h1
  have h2 : (2 : Nat) ^ n ≤ 2 ^ 16 := Nat.pow_le_pow_right (by omega) h
  have h3 : ((2 : Int) ^ n) = (((2 : Nat) ^ n : Nat) : Int) := by simp
  rw [h3] at h1
  omega
theorem low_in (a : W) (n : Nat) (h : n ≤ 16) : (a &&& Qm.all n).toNat < 65536 := by
  rw [BitVec.toNat_and]
  exact Nat.lt_of_le_of_lt Nat.and_le_right (all_lt n h)
def Cut (w : World) (p N F : Nat) (s : Value) (wx : World) : Prop := s = .bool false ∧ wx.cell? ⟨p, 0, none⟩ = some (.int .i64 (N : Int)) ∧ wx.cell? ⟨p, 1, none⟩ = some (.int .i64 (F : Int)) ∧ Below w.heap.size w wx
set_option maxRecDepth 100000 in
set_option maxHeartbeats 4000000 in
theorem walk (w : World) (n : Int) (hn : (Lit.int .i64 n).wf = true) (f : Int) (hf : (Lit.int .i64 f).wf = true) (a : Int) (_ : (Lit.int .i64 a).wf = true) (b : Int) (_ : (Lit.int .i64 b).wf = true) (l : Int) (_ : (Lit.int .i64 l).wf = true) :
    Calls Try.prog 3 #[.int .i64 n, .int .i64 f, .int .i64 a, .int .i64 b, .int .i64 l] w fun e w' => e = .returned (.bool true) ∧ Below w.heap.size w w' := by
  have C0 := Lib.hid (config_any n f hn hf w)
  clear hn hf
  go_enter Try.func3, Try.ntmps3
  go_wp2_with fail
  refine (C0.out).mono ?_; rintro e wa ⟨N, F, rfl, g1, g2, g3, hb⟩
  have hs : small (N : Int) (F : Int) := by unfold small; omega
  obtain ⟨h, hh⟩ : ∃ h : Nat, h = N - F := ⟨_, rfl⟩
  obtain ⟨s, hs2⟩ : ∃ s : Nat, s = 2 * F + 1 := ⟨_, rfl⟩
  obtain ⟨u, hu⟩ : ∃ u : Nat, u = F + 1 := ⟨_, rfl⟩
  obtain ⟨v, hv⟩ : ∃ v : Nat, v = (N + F) / 2 + 1 := ⟨_, rfl⟩
  obtain ⟨m, hm⟩ : ∃ m : Nat, m = (N - 1) / 3 := ⟨_, rfl⟩
  have D0 := Lib.hid fun w' => qvalid_any (N : Int) (F : Int) w'
  rw [show validB (N : Int) (F : Int) = true by unfold validB; exact decide_eq_true (by omega)] at D0
  have D1 := Lib.hid fun w' => qenough_in (N : Int) (F : Int) hs w'
  rw [show (N : Int) - (F : Int) = (h : Int) by omega] at D1
  have D2 := Lib.hid fun w' => qstrong_in (N : Int) (F : Int) hs w'
  rw [show 2 * (F : Int) + 1 = (s : Int) by omega] at D2
  have D3 := Lib.hid fun w' => qhalf_in (N : Int) (F : Int) hs w'
  rw [show ((N : Int) + (F : Int)) / 2 + 1 = (v : Int) by omega] at D3
  have D4 := Lib.hid fun w' => qweak_in (N : Int) (F : Int) hs w'
  rw [show (F : Int) + 1 = (u : Int) by omega] at D4
  have D5 := Lib.hid fun w' => qall_in N (F : Int) g2 w'
  have D6 := Lib.hid fun w' => qmost_in (N : Int) (by omega) w'
  rw [show ((N : Int) - 1) / 3 = (m : Int) by omega] at D6
  have k1 : ¬ h < s := by omega
  have k2 : ¬ s < u := by omega
  have k3 : ¬ m < F := by omega
  have ea : bits .and .i64 a (uv (Qm.all N)) = uv (Qm.qw a &&& Qm.all N) := Qm.and_i64 a _ (by have := all_lt N g2; omega)
  have eb : bits .and .i64 b (uv (Qm.all N)) = uv (Qm.qw b &&& Qm.all N) := Qm.and_i64 b _ (by have := all_lt N g2; omega)
  have el : bits .and .i64 l (uv (Qm.all N)) = uv (Qm.qw l &&& Qm.all N) := Qm.and_i64 l _ (by have := all_lt N g2; omega)
  have meet := Qm.cnt_meet (Qm.qw a) (Qm.qw b) N g2
  have less := Qm.cnt_less (Qm.qw a) (Qm.qw l) N
  have lesa := Qm.cnt_less (Qm.all N) (Qm.qw l) N
  rw [BitVec.and_self, Qm.cnt_all N g2] at lesa
  have la := low_in (Qm.qw a) N g2
  have lb := low_in (Qm.qw b) N g2
  have lN := all_lt N g2
  generalize Qm.qw a &&& Qm.all N = A at ea meet less la
  generalize Qm.qw b &&& Qm.all N = B at eb meet lb
  generalize Qm.qw l &&& Qm.all N = X at el less lesa
  have eab : bits .and .i64 (uv A) (uv B) = uv (A &&& B) := by have := Qm.and_i64 (uv A) B (by omega); rw [Qm.qw_uv] at this; exact this
  have eal := andNot_i64 A X (by omega)
  have enl := andNot_i64 (Qm.all N) X (by omega)
  have SA := Lib.hid fun w' => qsize_any (uv A) w'
  have SB := Lib.hid fun w' => qsize_any (uv B) w'
  have SX := Lib.hid fun w' => qsize_any (uv X) w'
  have SAB := Lib.hid fun w' => qsize_any (uv (A &&& B)) w'
  have SAX := Lib.hid fun w' => qsize_any (uv (A &&& ~~~ X)) w'
  have SNX := Lib.hid fun w' => qsize_any (uv (Qm.all N &&& ~~~ X)) w'
  rw [Qm.qw_uv] at SA SB SX SAB SAX SNX
  generalize Qm.cnt A = sA at *
  generalize Qm.cnt B = sB at *
  generalize Qm.cnt X = sX at *
  generalize Qm.cnt (A &&& B) = sAB at *
  generalize Qm.cnt (A &&& ~~~ X) = sAX at *
  generalize Qm.cnt (Qm.all N &&& ~~~ X) = sNX at *
  have M1 := Lib.hid (show h ≤ sA → h ≤ sB → ¬ sAB ≤ F by omega)
  have M2 := Lib.hid (show v ≤ sA → v ≤ sB → ¬ sAB ≤ F by omega)
  have M3 := Lib.hid (show sX ≤ F → s ≤ sA → ¬ sAX < u by omega)
  have M4 := Lib.hid (show sX ≤ F → ¬ sNX < h by omega)
  unfold cfg at *
  obtain ⟨w0, hw0⟩ : ∃ w0, w0 = wa.alloc (.cells #[.int .i64 (N : Int), .int .i64 (F : Int)] 23) := ⟨_, rfl⟩
  have x0 : w0.cell? ⟨wa.heap.size, 0, none⟩ = some (.int .i64 (N : Int)) := by rw [hw0, World.cell?_alloc_new]; rfl
  have x1 : w0.cell? ⟨wa.heap.size, 1, none⟩ = some (.int .i64 (F : Int)) := by rw [hw0, World.cell?_alloc_new]; rfl
  have B0 : Hid (Below w.heap.size w w0) := Lib.hid (by rw [hw0]; exact hb.alloc hb.size _)
  have HW := Lib.hid hw0
  obtain ⟨p, hp⟩ : ∃ p, p = wa.heap.size := ⟨_, rfl⟩
  have HP := Lib.hid hp
  rw [← hp] at x0 x1
  clear g1 g2 g3 hs hh hs2 hu hv hm hb hw0 hp C0 meet less lesa la lb lN
  go_wp2_with fail
  rw [← HW.out, ← HP.out]
  refine wp_region_seq [(0, true), (1, false), (2, true), (3, true), (4, true), (6, true), (5, false), (7, false), (8, true), (9, true), (10, true), (11, true), (13, true), (12, false), (14, false), (15, true), (16, true), (17, true), (18, true), (19, true), (21, true), (22, true), (20, false), (23, true), (24, true)] (by kernel_rfl) (by kernel_rfl) (by kernel_rfl) (by kernel_rfl) ?_
  (refine wpSeq_pure (v := ?_) rfl (by rfl) (fun w' hw' => ?_) ?_; rotate_left; (focus (have y0 := qkept hw' x0; have y1 := qkept hw' x1; go_simp; try with_reducible rfl)); try simp only [Act.put, List.setIfInBounds_toArray, List.set_cons_zero, List.set_cons_succ])
  refine wpSeq_call rfl (fun K' hK => ?_)
  go_simp
  go_at_call 8
  refine (D0.out _).mono ?_; rintro e r1 ⟨rfl, b⟩
  refine hK.out _ _ b ?_
  clear hK K'
  try simp only [Act.put, List.setIfInBounds_toArray, List.set_cons_zero, List.set_cons_succ]
  replace x0 := qkept b x0; replace x1 := qkept b x1; have Br1 := Lib.hid (B0.out.drew.trans (b.mono B0.out.drew.size)); clear b
  iterate 4 (refine wpSeq_pure (v := ?_) rfl (by rfl) (fun w' hw' => ?_) ?_; rotate_left; (focus (have y0 := qkept hw' x0; have y1 := qkept hw' x1; go_simp; try with_reducible rfl)); try simp only [Act.put, List.setIfInBounds_toArray, List.set_cons_zero, List.set_cons_succ])
  refine wpSeq_call rfl (fun K' hK => ?_)
  go_simp
  go_at_call 9
  refine (D1.out _).mono ?_; rintro e r2 ⟨rfl, b⟩
  refine hK.out _ _ b ?_
  clear hK K'
  try simp only [Act.put, List.setIfInBounds_toArray, List.set_cons_zero, List.set_cons_succ]
  replace x0 := qkept b x0; replace x1 := qkept b x1; have Br2 := Lib.hid (Br1.out.trans (b.mono Br1.out.size)); clear b
  refine wpSeq_call rfl (fun K' hK => ?_)
  go_simp
  go_at_call 10
  refine (D2.out _).mono ?_; rintro e r3 ⟨rfl, b⟩
  refine hK.out _ _ b ?_
  clear hK K'
  try simp only [Act.put, List.setIfInBounds_toArray, List.set_cons_zero, List.set_cons_succ]
  replace x0 := qkept b x0; replace x1 := qkept b x1; have Br3 := Lib.hid (Br2.out.trans (b.mono Br2.out.size)); clear b
  iterate 5 (refine wpSeq_pure (v := ?_) rfl (by rfl) (fun w' hw' => ?_) ?_; rotate_left; (focus (have y0 := qkept hw' x0; have y1 := qkept hw' x1; go_simp; try with_reducible rfl)); try simp only [Act.put, List.setIfInBounds_toArray, List.set_cons_zero, List.set_cons_succ])
  refine wpSeq_call rfl (fun K' hK => ?_)
  go_simp
  go_at_call 10
  refine (D2.out _).mono ?_; rintro e r4 ⟨rfl, b⟩
  refine hK.out _ _ b ?_
  clear hK K'
  try simp only [Act.put, List.setIfInBounds_toArray, List.set_cons_zero, List.set_cons_succ]
  replace x0 := qkept b x0; replace x1 := qkept b x1; have Br4 := Lib.hid (Br3.out.trans (b.mono Br3.out.size)); clear b
  refine wpSeq_call rfl (fun K' hK => ?_)
  go_simp
  go_at_call 11
  refine (D4.out _).mono ?_; rintro e r5 ⟨rfl, b⟩
  refine hK.out _ _ b ?_
  clear hK K'
  try simp only [Act.put, List.setIfInBounds_toArray, List.set_cons_zero, List.set_cons_succ]
  replace x0 := qkept b x0; replace x1 := qkept b x1; have Br5 := Lib.hid (Br4.out.trans (b.mono Br4.out.size)); clear b
  iterate 7 (refine wpSeq_pure (v := ?_) rfl (by rfl) (fun w' hw' => ?_) ?_; rotate_left; (focus (have y0 := qkept hw' x0; have y1 := qkept hw' x1; go_simp; try with_reducible rfl)); try simp only [Act.put, List.setIfInBounds_toArray, List.set_cons_zero, List.set_cons_succ])
  refine wpSeq_call rfl (fun K' hK => ?_)
  go_simp
  go_at_call 12
  refine (D6.out _).mono ?_; rintro e w' ⟨rfl, rfl⟩
  refine hK.out _ _ (Below.refl _ _) ?_
  clear hK K'
  try simp only [Act.put, List.setIfInBounds_toArray, List.set_cons_zero, List.set_cons_succ]
  iterate 2 (refine wpSeq_pure (v := ?_) rfl (by rfl) (fun w' hw' => ?_) ?_; rotate_left; (focus (have y0 := qkept hw' x0; have y1 := qkept hw' x1; go_simp; try with_reducible rfl)); try simp only [Act.put, List.setIfInBounds_toArray, List.set_cons_zero, List.set_cons_succ])
  refine wpSeq_nil ?_
  go_wp2_with fail
  refine (D5.out _).mono ?_; rintro e w1 ⟨rfl, b1⟩
  replace x0 := qkept b1 x0; replace x1 := qkept b1 x1; have B1 := Lib.hid (Br5.out.trans (b1.mono Br5.out.size)); clear b1
  go_wp2_with fail
  refine (SAB.out _).mono ?_; rintro e w2 ⟨rfl, b1⟩
  replace x0 := qkept b1 x0; replace x1 := qkept b1 x1; have B2 := Lib.hid (B1.out.trans (b1.mono B1.out.size)); clear b1 k1 k2 k3
  go_wp2_with fail
  go_cut [94] (fun s wx => Cut w p N F s wx)
  case first =>
    by_cases h1 : h ≤ sA
    · skip
      by_cases h2 : h ≤ sB
      · skip
        by_cases h3 : v ≤ sA
        · skip
          by_cases h4 : v ≤ sB
          · skip
            have k1 := M1.out h1 h2
            have k2 := M2.out h3 h4
            refine wp_region_seq [(0, true), (2, true), (1, false), (3, false), (4, true), (5, true), (6, true), (8, true), (7, false), (9, false), (10, true), (11, true), (12, true), (13, true), (14, true), (15, true), (16, true), (17, true), (18, true), (19, true), (21, true), (20, false), (22, false), (23, true), (24, true), (25, true), (27, true), (26, false), (28, false), (29, true), (30, true), (31, true), (32, true), (33, true), (34, true), (35, true), (36, true), (37, true)] (by kernel_rfl) (by kernel_rfl) (by kernel_rfl) (by kernel_rfl) ?_
            iterate 2 (refine wpSeq_pure (v := ?_) rfl (by rfl) (fun w' hw' => ?_) ?_; rotate_left; (focus (have y0 := qkept hw' x0; have y1 := qkept hw' x1; go_simp; try with_reducible rfl)); try simp only [Act.put, List.setIfInBounds_toArray, List.set_cons_zero, List.set_cons_succ])
            refine wpSeq_call rfl (fun K' hK => ?_)
            go_simp
            go_at_call 14
            refine (SA.out _).mono ?_; rintro e j1 ⟨rfl, b⟩
            refine hK.out _ _ b ?_
            clear hK K'
            try simp only [Act.put, List.setIfInBounds_toArray, List.set_cons_zero, List.set_cons_succ]
            replace x0 := qkept b x0; replace x1 := qkept b x1; have Bj1 := Lib.hid (B2.out.drew.trans (b.mono B2.out.drew.size)); clear b
            refine wpSeq_call rfl (fun K' hK => ?_)
            go_simp
            go_at_call 9
            refine (D1.out _).mono ?_; rintro e j2 ⟨rfl, b⟩
            refine hK.out _ _ b ?_
            clear hK K'
            try simp only [Act.put, List.setIfInBounds_toArray, List.set_cons_zero, List.set_cons_succ]
            replace x0 := qkept b x0; replace x1 := qkept b x1; have Bj2 := Lib.hid (Bj1.out.trans (b.mono Bj1.out.size)); clear b
            iterate 4 (refine wpSeq_pure (v := ?_) rfl (by rfl) (fun w' hw' => ?_) ?_; rotate_left; (focus (have y0 := qkept hw' x0; have y1 := qkept hw' x1; go_simp; try with_reducible rfl)); try simp only [Act.put, List.setIfInBounds_toArray, List.set_cons_zero, List.set_cons_succ])
            refine wpSeq_call rfl (fun K' hK => ?_)
            go_simp
            go_at_call 14
            refine (SB.out _).mono ?_; rintro e j3 ⟨rfl, b⟩
            refine hK.out _ _ b ?_
            clear hK K'
            try simp only [Act.put, List.setIfInBounds_toArray, List.set_cons_zero, List.set_cons_succ]
            replace x0 := qkept b x0; replace x1 := qkept b x1; have Bj3 := Lib.hid (Bj2.out.trans (b.mono Bj2.out.size)); clear b
            refine wpSeq_call rfl (fun K' hK => ?_)
            go_simp
            go_at_call 9
            refine (D1.out _).mono ?_; rintro e j4 ⟨rfl, b⟩
            refine hK.out _ _ b ?_
            clear hK K'
            try simp only [Act.put, List.setIfInBounds_toArray, List.set_cons_zero, List.set_cons_succ]
            replace x0 := qkept b x0; replace x1 := qkept b x1; have Bj4 := Lib.hid (Bj3.out.trans (b.mono Bj3.out.size)); clear b
            iterate 11 (refine wpSeq_pure (v := ?_) rfl (by rfl) (fun w' hw' => ?_) ?_; rotate_left; (focus (have y0 := qkept hw' x0; have y1 := qkept hw' x1; go_simp; try with_reducible rfl)); try simp only [Act.put, List.setIfInBounds_toArray, List.set_cons_zero, List.set_cons_succ])
            refine wpSeq_call rfl (fun K' hK => ?_)
            go_simp
            go_at_call 14
            refine (SA.out _).mono ?_; rintro e j5 ⟨rfl, b⟩
            refine hK.out _ _ b ?_
            clear hK K'
            try simp only [Act.put, List.setIfInBounds_toArray, List.set_cons_zero, List.set_cons_succ]
            replace x0 := qkept b x0; replace x1 := qkept b x1; have Bj5 := Lib.hid (Bj4.out.trans (b.mono Bj4.out.size)); clear b
            refine wpSeq_call rfl (fun K' hK => ?_)
            go_simp
            go_at_call 15
            refine (D3.out _).mono ?_; rintro e j6 ⟨rfl, b⟩
            refine hK.out _ _ b ?_
            clear hK K'
            try simp only [Act.put, List.setIfInBounds_toArray, List.set_cons_zero, List.set_cons_succ]
            replace x0 := qkept b x0; replace x1 := qkept b x1; have Bj6 := Lib.hid (Bj5.out.trans (b.mono Bj5.out.size)); clear b
            iterate 4 (refine wpSeq_pure (v := ?_) rfl (by rfl) (fun w' hw' => ?_) ?_; rotate_left; (focus (have y0 := qkept hw' x0; have y1 := qkept hw' x1; go_simp; try with_reducible rfl)); try simp only [Act.put, List.setIfInBounds_toArray, List.set_cons_zero, List.set_cons_succ])
            refine wpSeq_call rfl (fun K' hK => ?_)
            go_simp
            go_at_call 14
            refine (SB.out _).mono ?_; rintro e j7 ⟨rfl, b⟩
            refine hK.out _ _ b ?_
            clear hK K'
            try simp only [Act.put, List.setIfInBounds_toArray, List.set_cons_zero, List.set_cons_succ]
            replace x0 := qkept b x0; replace x1 := qkept b x1; have Bj7 := Lib.hid (Bj6.out.trans (b.mono Bj6.out.size)); clear b
            refine wpSeq_call rfl (fun K' hK => ?_)
            go_simp
            go_at_call 15
            refine (D3.out _).mono ?_; rintro e j8 ⟨rfl, b⟩
            refine hK.out _ _ b ?_
            clear hK K'
            try simp only [Act.put, List.setIfInBounds_toArray, List.set_cons_zero, List.set_cons_succ]
            replace x0 := qkept b x0; replace x1 := qkept b x1; have Bj8 := Lib.hid (Bj7.out.trans (b.mono Bj7.out.size)); clear b
            iterate 9 (refine wpSeq_pure (v := ?_) rfl (by rfl) (fun w' hw' => ?_) ?_; rotate_left; (focus (have y0 := qkept hw' x0; have y1 := qkept hw' x1; go_simp; try with_reducible rfl)); try simp only [Act.put, List.setIfInBounds_toArray, List.set_cons_zero, List.set_cons_succ])
            refine wpSeq_nil ?_
            go_wp2_with fail
            go_meet
            exact ⟨rfl, x0, x1, Bj8.out⟩
          · skip
            have k1 := M1.out h1 h2
            refine wp_region_seq [(0, true), (2, true), (1, false), (3, false), (4, true), (5, true), (6, true), (8, true), (7, false), (9, false), (10, true), (11, true), (12, true), (13, true), (14, true), (15, true), (16, true), (17, true), (18, true), (19, true), (21, true), (20, false), (22, false), (23, true), (24, true), (25, true), (27, true), (26, false), (28, false), (29, true), (30, true), (31, true), (32, true), (33, true), (34, true), (35, true), (36, true), (37, true)] (by kernel_rfl) (by kernel_rfl) (by kernel_rfl) (by kernel_rfl) ?_
            iterate 2 (refine wpSeq_pure (v := ?_) rfl (by rfl) (fun w' hw' => ?_) ?_; rotate_left; (focus (have y0 := qkept hw' x0; have y1 := qkept hw' x1; go_simp; try with_reducible rfl)); try simp only [Act.put, List.setIfInBounds_toArray, List.set_cons_zero, List.set_cons_succ])
            refine wpSeq_call rfl (fun K' hK => ?_)
            go_simp
            go_at_call 14
            refine (SA.out _).mono ?_; rintro e j1 ⟨rfl, b⟩
            refine hK.out _ _ b ?_
            clear hK K'
            try simp only [Act.put, List.setIfInBounds_toArray, List.set_cons_zero, List.set_cons_succ]
            replace x0 := qkept b x0; replace x1 := qkept b x1; have Bj1 := Lib.hid (B2.out.drew.trans (b.mono B2.out.drew.size)); clear b
            refine wpSeq_call rfl (fun K' hK => ?_)
            go_simp
            go_at_call 9
            refine (D1.out _).mono ?_; rintro e j2 ⟨rfl, b⟩
            refine hK.out _ _ b ?_
            clear hK K'
            try simp only [Act.put, List.setIfInBounds_toArray, List.set_cons_zero, List.set_cons_succ]
            replace x0 := qkept b x0; replace x1 := qkept b x1; have Bj2 := Lib.hid (Bj1.out.trans (b.mono Bj1.out.size)); clear b
            iterate 4 (refine wpSeq_pure (v := ?_) rfl (by rfl) (fun w' hw' => ?_) ?_; rotate_left; (focus (have y0 := qkept hw' x0; have y1 := qkept hw' x1; go_simp; try with_reducible rfl)); try simp only [Act.put, List.setIfInBounds_toArray, List.set_cons_zero, List.set_cons_succ])
            refine wpSeq_call rfl (fun K' hK => ?_)
            go_simp
            go_at_call 14
            refine (SB.out _).mono ?_; rintro e j3 ⟨rfl, b⟩
            refine hK.out _ _ b ?_
            clear hK K'
            try simp only [Act.put, List.setIfInBounds_toArray, List.set_cons_zero, List.set_cons_succ]
            replace x0 := qkept b x0; replace x1 := qkept b x1; have Bj3 := Lib.hid (Bj2.out.trans (b.mono Bj2.out.size)); clear b
            refine wpSeq_call rfl (fun K' hK => ?_)
            go_simp
            go_at_call 9
            refine (D1.out _).mono ?_; rintro e j4 ⟨rfl, b⟩
            refine hK.out _ _ b ?_
            clear hK K'
            try simp only [Act.put, List.setIfInBounds_toArray, List.set_cons_zero, List.set_cons_succ]
            replace x0 := qkept b x0; replace x1 := qkept b x1; have Bj4 := Lib.hid (Bj3.out.trans (b.mono Bj3.out.size)); clear b
            iterate 11 (refine wpSeq_pure (v := ?_) rfl (by rfl) (fun w' hw' => ?_) ?_; rotate_left; (focus (have y0 := qkept hw' x0; have y1 := qkept hw' x1; go_simp; try with_reducible rfl)); try simp only [Act.put, List.setIfInBounds_toArray, List.set_cons_zero, List.set_cons_succ])
            refine wpSeq_call rfl (fun K' hK => ?_)
            go_simp
            go_at_call 14
            refine (SA.out _).mono ?_; rintro e j5 ⟨rfl, b⟩
            refine hK.out _ _ b ?_
            clear hK K'
            try simp only [Act.put, List.setIfInBounds_toArray, List.set_cons_zero, List.set_cons_succ]
            replace x0 := qkept b x0; replace x1 := qkept b x1; have Bj5 := Lib.hid (Bj4.out.trans (b.mono Bj4.out.size)); clear b
            refine wpSeq_call rfl (fun K' hK => ?_)
            go_simp
            go_at_call 15
            refine (D3.out _).mono ?_; rintro e j6 ⟨rfl, b⟩
            refine hK.out _ _ b ?_
            clear hK K'
            try simp only [Act.put, List.setIfInBounds_toArray, List.set_cons_zero, List.set_cons_succ]
            replace x0 := qkept b x0; replace x1 := qkept b x1; have Bj6 := Lib.hid (Bj5.out.trans (b.mono Bj5.out.size)); clear b
            iterate 4 (refine wpSeq_pure (v := ?_) rfl (by rfl) (fun w' hw' => ?_) ?_; rotate_left; (focus (have y0 := qkept hw' x0; have y1 := qkept hw' x1; go_simp; try with_reducible rfl)); try simp only [Act.put, List.setIfInBounds_toArray, List.set_cons_zero, List.set_cons_succ])
            refine wpSeq_call rfl (fun K' hK => ?_)
            go_simp
            go_at_call 14
            refine (SB.out _).mono ?_; rintro e j7 ⟨rfl, b⟩
            refine hK.out _ _ b ?_
            clear hK K'
            try simp only [Act.put, List.setIfInBounds_toArray, List.set_cons_zero, List.set_cons_succ]
            replace x0 := qkept b x0; replace x1 := qkept b x1; have Bj7 := Lib.hid (Bj6.out.trans (b.mono Bj6.out.size)); clear b
            refine wpSeq_call rfl (fun K' hK => ?_)
            go_simp
            go_at_call 15
            refine (D3.out _).mono ?_; rintro e j8 ⟨rfl, b⟩
            refine hK.out _ _ b ?_
            clear hK K'
            try simp only [Act.put, List.setIfInBounds_toArray, List.set_cons_zero, List.set_cons_succ]
            replace x0 := qkept b x0; replace x1 := qkept b x1; have Bj8 := Lib.hid (Bj7.out.trans (b.mono Bj7.out.size)); clear b
            iterate 3 (refine wpSeq_pure (v := ?_) rfl (by rfl) (fun w' hw' => ?_) ?_; rotate_left; (focus (have y0 := qkept hw' x0; have y1 := qkept hw' x1; go_simp; try with_reducible rfl)); try simp only [Act.put, List.setIfInBounds_toArray, List.set_cons_zero, List.set_cons_succ])
            iterate 4 (refine wpSeq_skip rfl (by rfl) ?_; try simp only [Act.put, List.setIfInBounds_toArray, List.set_cons_zero, List.set_cons_succ])
            iterate 2 (refine wpSeq_pure (v := ?_) rfl (by rfl) (fun w' hw' => ?_) ?_; rotate_left; (focus (have y0 := qkept hw' x0; have y1 := qkept hw' x1; go_simp; try with_reducible rfl)); try simp only [Act.put, List.setIfInBounds_toArray, List.set_cons_zero, List.set_cons_succ])
            refine wpSeq_nil ?_
            go_wp2_with fail
            go_meet
            exact ⟨rfl, x0, x1, Bj8.out⟩
        · skip
          have k1 := M1.out h1 h2
          refine wp_region_seq [(0, true), (2, true), (1, false), (3, false), (4, true), (5, true), (6, true), (8, true), (7, false), (9, false), (10, true), (11, true), (12, true), (13, true), (14, true), (15, true), (16, true), (17, true), (18, true), (19, true), (21, true), (20, false), (22, false), (23, true), (24, true), (25, true), (27, true), (26, false), (28, false), (29, true), (30, true), (31, true), (32, true), (33, true), (34, true), (35, true), (36, true), (37, true)] (by kernel_rfl) (by kernel_rfl) (by kernel_rfl) (by kernel_rfl) ?_
          iterate 2 (refine wpSeq_pure (v := ?_) rfl (by rfl) (fun w' hw' => ?_) ?_; rotate_left; (focus (have y0 := qkept hw' x0; have y1 := qkept hw' x1; go_simp; try with_reducible rfl)); try simp only [Act.put, List.setIfInBounds_toArray, List.set_cons_zero, List.set_cons_succ])
          refine wpSeq_call rfl (fun K' hK => ?_)
          go_simp
          go_at_call 14
          refine (SA.out _).mono ?_; rintro e j1 ⟨rfl, b⟩
          refine hK.out _ _ b ?_
          clear hK K'
          try simp only [Act.put, List.setIfInBounds_toArray, List.set_cons_zero, List.set_cons_succ]
          replace x0 := qkept b x0; replace x1 := qkept b x1; have Bj1 := Lib.hid (B2.out.drew.trans (b.mono B2.out.drew.size)); clear b
          refine wpSeq_call rfl (fun K' hK => ?_)
          go_simp
          go_at_call 9
          refine (D1.out _).mono ?_; rintro e j2 ⟨rfl, b⟩
          refine hK.out _ _ b ?_
          clear hK K'
          try simp only [Act.put, List.setIfInBounds_toArray, List.set_cons_zero, List.set_cons_succ]
          replace x0 := qkept b x0; replace x1 := qkept b x1; have Bj2 := Lib.hid (Bj1.out.trans (b.mono Bj1.out.size)); clear b
          iterate 4 (refine wpSeq_pure (v := ?_) rfl (by rfl) (fun w' hw' => ?_) ?_; rotate_left; (focus (have y0 := qkept hw' x0; have y1 := qkept hw' x1; go_simp; try with_reducible rfl)); try simp only [Act.put, List.setIfInBounds_toArray, List.set_cons_zero, List.set_cons_succ])
          refine wpSeq_call rfl (fun K' hK => ?_)
          go_simp
          go_at_call 14
          refine (SB.out _).mono ?_; rintro e j3 ⟨rfl, b⟩
          refine hK.out _ _ b ?_
          clear hK K'
          try simp only [Act.put, List.setIfInBounds_toArray, List.set_cons_zero, List.set_cons_succ]
          replace x0 := qkept b x0; replace x1 := qkept b x1; have Bj3 := Lib.hid (Bj2.out.trans (b.mono Bj2.out.size)); clear b
          refine wpSeq_call rfl (fun K' hK => ?_)
          go_simp
          go_at_call 9
          refine (D1.out _).mono ?_; rintro e j4 ⟨rfl, b⟩
          refine hK.out _ _ b ?_
          clear hK K'
          try simp only [Act.put, List.setIfInBounds_toArray, List.set_cons_zero, List.set_cons_succ]
          replace x0 := qkept b x0; replace x1 := qkept b x1; have Bj4 := Lib.hid (Bj3.out.trans (b.mono Bj3.out.size)); clear b
          iterate 11 (refine wpSeq_pure (v := ?_) rfl (by rfl) (fun w' hw' => ?_) ?_; rotate_left; (focus (have y0 := qkept hw' x0; have y1 := qkept hw' x1; go_simp; try with_reducible rfl)); try simp only [Act.put, List.setIfInBounds_toArray, List.set_cons_zero, List.set_cons_succ])
          refine wpSeq_call rfl (fun K' hK => ?_)
          go_simp
          go_at_call 14
          refine (SA.out _).mono ?_; rintro e j5 ⟨rfl, b⟩
          refine hK.out _ _ b ?_
          clear hK K'
          try simp only [Act.put, List.setIfInBounds_toArray, List.set_cons_zero, List.set_cons_succ]
          replace x0 := qkept b x0; replace x1 := qkept b x1; have Bj5 := Lib.hid (Bj4.out.trans (b.mono Bj4.out.size)); clear b
          refine wpSeq_call rfl (fun K' hK => ?_)
          go_simp
          go_at_call 15
          refine (D3.out _).mono ?_; rintro e j6 ⟨rfl, b⟩
          refine hK.out _ _ b ?_
          clear hK K'
          try simp only [Act.put, List.setIfInBounds_toArray, List.set_cons_zero, List.set_cons_succ]
          replace x0 := qkept b x0; replace x1 := qkept b x1; have Bj6 := Lib.hid (Bj5.out.trans (b.mono Bj5.out.size)); clear b
          iterate 2 (refine wpSeq_pure (v := ?_) rfl (by rfl) (fun w' hw' => ?_) ?_; rotate_left; (focus (have y0 := qkept hw' x0; have y1 := qkept hw' x1; go_simp; try with_reducible rfl)); try simp only [Act.put, List.setIfInBounds_toArray, List.set_cons_zero, List.set_cons_succ])
          iterate 2 (refine wpSeq_skip rfl (by rfl) ?_; try simp only [Act.put, List.setIfInBounds_toArray, List.set_cons_zero, List.set_cons_succ])
          refine wpSeq_call rfl (fun K' hK => ?_)
          go_simp
          refine hK.out _ _ (Below.refl _ _) ?_
          clear hK K'
          try simp only [Act.put, List.setIfInBounds_toArray, List.set_cons_zero, List.set_cons_succ]
          refine wpSeq_call rfl (fun K' hK => ?_)
          go_simp
          refine hK.out _ _ (Below.refl _ _) ?_
          clear hK K'
          try simp only [Act.put, List.setIfInBounds_toArray, List.set_cons_zero, List.set_cons_succ]
          (refine wpSeq_skip rfl (by rfl) ?_; try simp only [Act.put, List.setIfInBounds_toArray, List.set_cons_zero, List.set_cons_succ])
          iterate 2 (refine wpSeq_pure (v := ?_) rfl (by rfl) (fun w' hw' => ?_) ?_; rotate_left; (focus (have y0 := qkept hw' x0; have y1 := qkept hw' x1; go_simp; try with_reducible rfl)); try simp only [Act.put, List.setIfInBounds_toArray, List.set_cons_zero, List.set_cons_succ])
          iterate 4 (refine wpSeq_skip rfl (by rfl) ?_; try simp only [Act.put, List.setIfInBounds_toArray, List.set_cons_zero, List.set_cons_succ])
          iterate 2 (refine wpSeq_pure (v := ?_) rfl (by rfl) (fun w' hw' => ?_) ?_; rotate_left; (focus (have y0 := qkept hw' x0; have y1 := qkept hw' x1; go_simp; try with_reducible rfl)); try simp only [Act.put, List.setIfInBounds_toArray, List.set_cons_zero, List.set_cons_succ])
          refine wpSeq_nil ?_
          go_wp2_with fail
          go_meet
          exact ⟨rfl, x0, x1, Bj6.out⟩
      · skip
        by_cases h3 : v ≤ sA
        · skip
          by_cases h4 : v ≤ sB
          · skip
            have k2 := M2.out h3 h4
            refine wp_region_seq [(0, true), (2, true), (1, false), (3, false), (4, true), (5, true), (6, true), (8, true), (7, false), (9, false), (10, true), (11, true), (12, true), (13, true), (14, true), (15, true), (16, true), (17, true), (18, true), (19, true), (21, true), (20, false), (22, false), (23, true), (24, true), (25, true), (27, true), (26, false), (28, false), (29, true), (30, true), (31, true), (32, true), (33, true), (34, true), (35, true), (36, true), (37, true)] (by kernel_rfl) (by kernel_rfl) (by kernel_rfl) (by kernel_rfl) ?_
            iterate 2 (refine wpSeq_pure (v := ?_) rfl (by rfl) (fun w' hw' => ?_) ?_; rotate_left; (focus (have y0 := qkept hw' x0; have y1 := qkept hw' x1; go_simp; try with_reducible rfl)); try simp only [Act.put, List.setIfInBounds_toArray, List.set_cons_zero, List.set_cons_succ])
            refine wpSeq_call rfl (fun K' hK => ?_)
            go_simp
            go_at_call 14
            refine (SA.out _).mono ?_; rintro e j1 ⟨rfl, b⟩
            refine hK.out _ _ b ?_
            clear hK K'
            try simp only [Act.put, List.setIfInBounds_toArray, List.set_cons_zero, List.set_cons_succ]
            replace x0 := qkept b x0; replace x1 := qkept b x1; have Bj1 := Lib.hid (B2.out.drew.trans (b.mono B2.out.drew.size)); clear b
            refine wpSeq_call rfl (fun K' hK => ?_)
            go_simp
            go_at_call 9
            refine (D1.out _).mono ?_; rintro e j2 ⟨rfl, b⟩
            refine hK.out _ _ b ?_
            clear hK K'
            try simp only [Act.put, List.setIfInBounds_toArray, List.set_cons_zero, List.set_cons_succ]
            replace x0 := qkept b x0; replace x1 := qkept b x1; have Bj2 := Lib.hid (Bj1.out.trans (b.mono Bj1.out.size)); clear b
            iterate 4 (refine wpSeq_pure (v := ?_) rfl (by rfl) (fun w' hw' => ?_) ?_; rotate_left; (focus (have y0 := qkept hw' x0; have y1 := qkept hw' x1; go_simp; try with_reducible rfl)); try simp only [Act.put, List.setIfInBounds_toArray, List.set_cons_zero, List.set_cons_succ])
            refine wpSeq_call rfl (fun K' hK => ?_)
            go_simp
            go_at_call 14
            refine (SB.out _).mono ?_; rintro e j3 ⟨rfl, b⟩
            refine hK.out _ _ b ?_
            clear hK K'
            try simp only [Act.put, List.setIfInBounds_toArray, List.set_cons_zero, List.set_cons_succ]
            replace x0 := qkept b x0; replace x1 := qkept b x1; have Bj3 := Lib.hid (Bj2.out.trans (b.mono Bj2.out.size)); clear b
            refine wpSeq_call rfl (fun K' hK => ?_)
            go_simp
            go_at_call 9
            refine (D1.out _).mono ?_; rintro e j4 ⟨rfl, b⟩
            refine hK.out _ _ b ?_
            clear hK K'
            try simp only [Act.put, List.setIfInBounds_toArray, List.set_cons_zero, List.set_cons_succ]
            replace x0 := qkept b x0; replace x1 := qkept b x1; have Bj4 := Lib.hid (Bj3.out.trans (b.mono Bj3.out.size)); clear b
            iterate 3 (refine wpSeq_pure (v := ?_) rfl (by rfl) (fun w' hw' => ?_) ?_; rotate_left; (focus (have y0 := qkept hw' x0; have y1 := qkept hw' x1; go_simp; try with_reducible rfl)); try simp only [Act.put, List.setIfInBounds_toArray, List.set_cons_zero, List.set_cons_succ])
            iterate 4 (refine wpSeq_skip rfl (by rfl) ?_; try simp only [Act.put, List.setIfInBounds_toArray, List.set_cons_zero, List.set_cons_succ])
            iterate 4 (refine wpSeq_pure (v := ?_) rfl (by rfl) (fun w' hw' => ?_) ?_; rotate_left; (focus (have y0 := qkept hw' x0; have y1 := qkept hw' x1; go_simp; try with_reducible rfl)); try simp only [Act.put, List.setIfInBounds_toArray, List.set_cons_zero, List.set_cons_succ])
            refine wpSeq_call rfl (fun K' hK => ?_)
            go_simp
            go_at_call 14
            refine (SA.out _).mono ?_; rintro e j5 ⟨rfl, b⟩
            refine hK.out _ _ b ?_
            clear hK K'
            try simp only [Act.put, List.setIfInBounds_toArray, List.set_cons_zero, List.set_cons_succ]
            replace x0 := qkept b x0; replace x1 := qkept b x1; have Bj5 := Lib.hid (Bj4.out.trans (b.mono Bj4.out.size)); clear b
            refine wpSeq_call rfl (fun K' hK => ?_)
            go_simp
            go_at_call 15
            refine (D3.out _).mono ?_; rintro e j6 ⟨rfl, b⟩
            refine hK.out _ _ b ?_
            clear hK K'
            try simp only [Act.put, List.setIfInBounds_toArray, List.set_cons_zero, List.set_cons_succ]
            replace x0 := qkept b x0; replace x1 := qkept b x1; have Bj6 := Lib.hid (Bj5.out.trans (b.mono Bj5.out.size)); clear b
            iterate 4 (refine wpSeq_pure (v := ?_) rfl (by rfl) (fun w' hw' => ?_) ?_; rotate_left; (focus (have y0 := qkept hw' x0; have y1 := qkept hw' x1; go_simp; try with_reducible rfl)); try simp only [Act.put, List.setIfInBounds_toArray, List.set_cons_zero, List.set_cons_succ])
            refine wpSeq_call rfl (fun K' hK => ?_)
            go_simp
            go_at_call 14
            refine (SB.out _).mono ?_; rintro e j7 ⟨rfl, b⟩
            refine hK.out _ _ b ?_
            clear hK K'
            try simp only [Act.put, List.setIfInBounds_toArray, List.set_cons_zero, List.set_cons_succ]
            replace x0 := qkept b x0; replace x1 := qkept b x1; have Bj7 := Lib.hid (Bj6.out.trans (b.mono Bj6.out.size)); clear b
            refine wpSeq_call rfl (fun K' hK => ?_)
            go_simp
            go_at_call 15
            refine (D3.out _).mono ?_; rintro e j8 ⟨rfl, b⟩
            refine hK.out _ _ b ?_
            clear hK K'
            try simp only [Act.put, List.setIfInBounds_toArray, List.set_cons_zero, List.set_cons_succ]
            replace x0 := qkept b x0; replace x1 := qkept b x1; have Bj8 := Lib.hid (Bj7.out.trans (b.mono Bj7.out.size)); clear b
            iterate 9 (refine wpSeq_pure (v := ?_) rfl (by rfl) (fun w' hw' => ?_) ?_; rotate_left; (focus (have y0 := qkept hw' x0; have y1 := qkept hw' x1; go_simp; try with_reducible rfl)); try simp only [Act.put, List.setIfInBounds_toArray, List.set_cons_zero, List.set_cons_succ])
            refine wpSeq_nil ?_
            go_wp2_with fail
            go_meet
            exact ⟨rfl, x0, x1, Bj8.out⟩
          · skip
            refine wp_region_seq [(0, true), (2, true), (1, false), (3, false), (4, true), (5, true), (6, true), (8, true), (7, false), (9, false), (10, true), (11, true), (12, true), (13, true), (14, true), (15, true), (16, true), (17, true), (18, true), (19, true), (21, true), (20, false), (22, false), (23, true), (24, true), (25, true), (27, true), (26, false), (28, false), (29, true), (30, true), (31, true), (32, true), (33, true), (34, true), (35, true), (36, true), (37, true)] (by kernel_rfl) (by kernel_rfl) (by kernel_rfl) (by kernel_rfl) ?_
            iterate 2 (refine wpSeq_pure (v := ?_) rfl (by rfl) (fun w' hw' => ?_) ?_; rotate_left; (focus (have y0 := qkept hw' x0; have y1 := qkept hw' x1; go_simp; try with_reducible rfl)); try simp only [Act.put, List.setIfInBounds_toArray, List.set_cons_zero, List.set_cons_succ])
            refine wpSeq_call rfl (fun K' hK => ?_)
            go_simp
            go_at_call 14
            refine (SA.out _).mono ?_; rintro e j1 ⟨rfl, b⟩
            refine hK.out _ _ b ?_
            clear hK K'
            try simp only [Act.put, List.setIfInBounds_toArray, List.set_cons_zero, List.set_cons_succ]
            replace x0 := qkept b x0; replace x1 := qkept b x1; have Bj1 := Lib.hid (B2.out.drew.trans (b.mono B2.out.drew.size)); clear b
            refine wpSeq_call rfl (fun K' hK => ?_)
            go_simp
            go_at_call 9
            refine (D1.out _).mono ?_; rintro e j2 ⟨rfl, b⟩
            refine hK.out _ _ b ?_
            clear hK K'
            try simp only [Act.put, List.setIfInBounds_toArray, List.set_cons_zero, List.set_cons_succ]
            replace x0 := qkept b x0; replace x1 := qkept b x1; have Bj2 := Lib.hid (Bj1.out.trans (b.mono Bj1.out.size)); clear b
            iterate 4 (refine wpSeq_pure (v := ?_) rfl (by rfl) (fun w' hw' => ?_) ?_; rotate_left; (focus (have y0 := qkept hw' x0; have y1 := qkept hw' x1; go_simp; try with_reducible rfl)); try simp only [Act.put, List.setIfInBounds_toArray, List.set_cons_zero, List.set_cons_succ])
            refine wpSeq_call rfl (fun K' hK => ?_)
            go_simp
            go_at_call 14
            refine (SB.out _).mono ?_; rintro e j3 ⟨rfl, b⟩
            refine hK.out _ _ b ?_
            clear hK K'
            try simp only [Act.put, List.setIfInBounds_toArray, List.set_cons_zero, List.set_cons_succ]
            replace x0 := qkept b x0; replace x1 := qkept b x1; have Bj3 := Lib.hid (Bj2.out.trans (b.mono Bj2.out.size)); clear b
            refine wpSeq_call rfl (fun K' hK => ?_)
            go_simp
            go_at_call 9
            refine (D1.out _).mono ?_; rintro e j4 ⟨rfl, b⟩
            refine hK.out _ _ b ?_
            clear hK K'
            try simp only [Act.put, List.setIfInBounds_toArray, List.set_cons_zero, List.set_cons_succ]
            replace x0 := qkept b x0; replace x1 := qkept b x1; have Bj4 := Lib.hid (Bj3.out.trans (b.mono Bj3.out.size)); clear b
            iterate 3 (refine wpSeq_pure (v := ?_) rfl (by rfl) (fun w' hw' => ?_) ?_; rotate_left; (focus (have y0 := qkept hw' x0; have y1 := qkept hw' x1; go_simp; try with_reducible rfl)); try simp only [Act.put, List.setIfInBounds_toArray, List.set_cons_zero, List.set_cons_succ])
            iterate 4 (refine wpSeq_skip rfl (by rfl) ?_; try simp only [Act.put, List.setIfInBounds_toArray, List.set_cons_zero, List.set_cons_succ])
            iterate 4 (refine wpSeq_pure (v := ?_) rfl (by rfl) (fun w' hw' => ?_) ?_; rotate_left; (focus (have y0 := qkept hw' x0; have y1 := qkept hw' x1; go_simp; try with_reducible rfl)); try simp only [Act.put, List.setIfInBounds_toArray, List.set_cons_zero, List.set_cons_succ])
            refine wpSeq_call rfl (fun K' hK => ?_)
            go_simp
            go_at_call 14
            refine (SA.out _).mono ?_; rintro e j5 ⟨rfl, b⟩
            refine hK.out _ _ b ?_
            clear hK K'
            try simp only [Act.put, List.setIfInBounds_toArray, List.set_cons_zero, List.set_cons_succ]
            replace x0 := qkept b x0; replace x1 := qkept b x1; have Bj5 := Lib.hid (Bj4.out.trans (b.mono Bj4.out.size)); clear b
            refine wpSeq_call rfl (fun K' hK => ?_)
            go_simp
            go_at_call 15
            refine (D3.out _).mono ?_; rintro e j6 ⟨rfl, b⟩
            refine hK.out _ _ b ?_
            clear hK K'
            try simp only [Act.put, List.setIfInBounds_toArray, List.set_cons_zero, List.set_cons_succ]
            replace x0 := qkept b x0; replace x1 := qkept b x1; have Bj6 := Lib.hid (Bj5.out.trans (b.mono Bj5.out.size)); clear b
            iterate 4 (refine wpSeq_pure (v := ?_) rfl (by rfl) (fun w' hw' => ?_) ?_; rotate_left; (focus (have y0 := qkept hw' x0; have y1 := qkept hw' x1; go_simp; try with_reducible rfl)); try simp only [Act.put, List.setIfInBounds_toArray, List.set_cons_zero, List.set_cons_succ])
            refine wpSeq_call rfl (fun K' hK => ?_)
            go_simp
            go_at_call 14
            refine (SB.out _).mono ?_; rintro e j7 ⟨rfl, b⟩
            refine hK.out _ _ b ?_
            clear hK K'
            try simp only [Act.put, List.setIfInBounds_toArray, List.set_cons_zero, List.set_cons_succ]
            replace x0 := qkept b x0; replace x1 := qkept b x1; have Bj7 := Lib.hid (Bj6.out.trans (b.mono Bj6.out.size)); clear b
            refine wpSeq_call rfl (fun K' hK => ?_)
            go_simp
            go_at_call 15
            refine (D3.out _).mono ?_; rintro e j8 ⟨rfl, b⟩
            refine hK.out _ _ b ?_
            clear hK K'
            try simp only [Act.put, List.setIfInBounds_toArray, List.set_cons_zero, List.set_cons_succ]
            replace x0 := qkept b x0; replace x1 := qkept b x1; have Bj8 := Lib.hid (Bj7.out.trans (b.mono Bj7.out.size)); clear b
            iterate 3 (refine wpSeq_pure (v := ?_) rfl (by rfl) (fun w' hw' => ?_) ?_; rotate_left; (focus (have y0 := qkept hw' x0; have y1 := qkept hw' x1; go_simp; try with_reducible rfl)); try simp only [Act.put, List.setIfInBounds_toArray, List.set_cons_zero, List.set_cons_succ])
            iterate 4 (refine wpSeq_skip rfl (by rfl) ?_; try simp only [Act.put, List.setIfInBounds_toArray, List.set_cons_zero, List.set_cons_succ])
            iterate 2 (refine wpSeq_pure (v := ?_) rfl (by rfl) (fun w' hw' => ?_) ?_; rotate_left; (focus (have y0 := qkept hw' x0; have y1 := qkept hw' x1; go_simp; try with_reducible rfl)); try simp only [Act.put, List.setIfInBounds_toArray, List.set_cons_zero, List.set_cons_succ])
            refine wpSeq_nil ?_
            go_wp2_with fail
            go_meet
            exact ⟨rfl, x0, x1, Bj8.out⟩
        · skip
          refine wp_region_seq [(0, true), (2, true), (1, false), (3, false), (4, true), (5, true), (6, true), (8, true), (7, false), (9, false), (10, true), (11, true), (12, true), (13, true), (14, true), (15, true), (16, true), (17, true), (18, true), (19, true), (21, true), (20, false), (22, false), (23, true), (24, true), (25, true), (27, true), (26, false), (28, false), (29, true), (30, true), (31, true), (32, true), (33, true), (34, true), (35, true), (36, true), (37, true)] (by kernel_rfl) (by kernel_rfl) (by kernel_rfl) (by kernel_rfl) ?_
          iterate 2 (refine wpSeq_pure (v := ?_) rfl (by rfl) (fun w' hw' => ?_) ?_; rotate_left; (focus (have y0 := qkept hw' x0; have y1 := qkept hw' x1; go_simp; try with_reducible rfl)); try simp only [Act.put, List.setIfInBounds_toArray, List.set_cons_zero, List.set_cons_succ])
          refine wpSeq_call rfl (fun K' hK => ?_)
          go_simp
          go_at_call 14
          refine (SA.out _).mono ?_; rintro e j1 ⟨rfl, b⟩
          refine hK.out _ _ b ?_
          clear hK K'
          try simp only [Act.put, List.setIfInBounds_toArray, List.set_cons_zero, List.set_cons_succ]
          replace x0 := qkept b x0; replace x1 := qkept b x1; have Bj1 := Lib.hid (B2.out.drew.trans (b.mono B2.out.drew.size)); clear b
          refine wpSeq_call rfl (fun K' hK => ?_)
          go_simp
          go_at_call 9
          refine (D1.out _).mono ?_; rintro e j2 ⟨rfl, b⟩
          refine hK.out _ _ b ?_
          clear hK K'
          try simp only [Act.put, List.setIfInBounds_toArray, List.set_cons_zero, List.set_cons_succ]
          replace x0 := qkept b x0; replace x1 := qkept b x1; have Bj2 := Lib.hid (Bj1.out.trans (b.mono Bj1.out.size)); clear b
          iterate 4 (refine wpSeq_pure (v := ?_) rfl (by rfl) (fun w' hw' => ?_) ?_; rotate_left; (focus (have y0 := qkept hw' x0; have y1 := qkept hw' x1; go_simp; try with_reducible rfl)); try simp only [Act.put, List.setIfInBounds_toArray, List.set_cons_zero, List.set_cons_succ])
          refine wpSeq_call rfl (fun K' hK => ?_)
          go_simp
          go_at_call 14
          refine (SB.out _).mono ?_; rintro e j3 ⟨rfl, b⟩
          refine hK.out _ _ b ?_
          clear hK K'
          try simp only [Act.put, List.setIfInBounds_toArray, List.set_cons_zero, List.set_cons_succ]
          replace x0 := qkept b x0; replace x1 := qkept b x1; have Bj3 := Lib.hid (Bj2.out.trans (b.mono Bj2.out.size)); clear b
          refine wpSeq_call rfl (fun K' hK => ?_)
          go_simp
          go_at_call 9
          refine (D1.out _).mono ?_; rintro e j4 ⟨rfl, b⟩
          refine hK.out _ _ b ?_
          clear hK K'
          try simp only [Act.put, List.setIfInBounds_toArray, List.set_cons_zero, List.set_cons_succ]
          replace x0 := qkept b x0; replace x1 := qkept b x1; have Bj4 := Lib.hid (Bj3.out.trans (b.mono Bj3.out.size)); clear b
          iterate 3 (refine wpSeq_pure (v := ?_) rfl (by rfl) (fun w' hw' => ?_) ?_; rotate_left; (focus (have y0 := qkept hw' x0; have y1 := qkept hw' x1; go_simp; try with_reducible rfl)); try simp only [Act.put, List.setIfInBounds_toArray, List.set_cons_zero, List.set_cons_succ])
          iterate 4 (refine wpSeq_skip rfl (by rfl) ?_; try simp only [Act.put, List.setIfInBounds_toArray, List.set_cons_zero, List.set_cons_succ])
          iterate 4 (refine wpSeq_pure (v := ?_) rfl (by rfl) (fun w' hw' => ?_) ?_; rotate_left; (focus (have y0 := qkept hw' x0; have y1 := qkept hw' x1; go_simp; try with_reducible rfl)); try simp only [Act.put, List.setIfInBounds_toArray, List.set_cons_zero, List.set_cons_succ])
          refine wpSeq_call rfl (fun K' hK => ?_)
          go_simp
          go_at_call 14
          refine (SA.out _).mono ?_; rintro e j5 ⟨rfl, b⟩
          refine hK.out _ _ b ?_
          clear hK K'
          try simp only [Act.put, List.setIfInBounds_toArray, List.set_cons_zero, List.set_cons_succ]
          replace x0 := qkept b x0; replace x1 := qkept b x1; have Bj5 := Lib.hid (Bj4.out.trans (b.mono Bj4.out.size)); clear b
          refine wpSeq_call rfl (fun K' hK => ?_)
          go_simp
          go_at_call 15
          refine (D3.out _).mono ?_; rintro e j6 ⟨rfl, b⟩
          refine hK.out _ _ b ?_
          clear hK K'
          try simp only [Act.put, List.setIfInBounds_toArray, List.set_cons_zero, List.set_cons_succ]
          replace x0 := qkept b x0; replace x1 := qkept b x1; have Bj6 := Lib.hid (Bj5.out.trans (b.mono Bj5.out.size)); clear b
          iterate 2 (refine wpSeq_pure (v := ?_) rfl (by rfl) (fun w' hw' => ?_) ?_; rotate_left; (focus (have y0 := qkept hw' x0; have y1 := qkept hw' x1; go_simp; try with_reducible rfl)); try simp only [Act.put, List.setIfInBounds_toArray, List.set_cons_zero, List.set_cons_succ])
          iterate 2 (refine wpSeq_skip rfl (by rfl) ?_; try simp only [Act.put, List.setIfInBounds_toArray, List.set_cons_zero, List.set_cons_succ])
          refine wpSeq_call rfl (fun K' hK => ?_)
          go_simp
          refine hK.out _ _ (Below.refl _ _) ?_
          clear hK K'
          try simp only [Act.put, List.setIfInBounds_toArray, List.set_cons_zero, List.set_cons_succ]
          refine wpSeq_call rfl (fun K' hK => ?_)
          go_simp
          refine hK.out _ _ (Below.refl _ _) ?_
          clear hK K'
          try simp only [Act.put, List.setIfInBounds_toArray, List.set_cons_zero, List.set_cons_succ]
          (refine wpSeq_skip rfl (by rfl) ?_; try simp only [Act.put, List.setIfInBounds_toArray, List.set_cons_zero, List.set_cons_succ])
          iterate 2 (refine wpSeq_pure (v := ?_) rfl (by rfl) (fun w' hw' => ?_) ?_; rotate_left; (focus (have y0 := qkept hw' x0; have y1 := qkept hw' x1; go_simp; try with_reducible rfl)); try simp only [Act.put, List.setIfInBounds_toArray, List.set_cons_zero, List.set_cons_succ])
          iterate 4 (refine wpSeq_skip rfl (by rfl) ?_; try simp only [Act.put, List.setIfInBounds_toArray, List.set_cons_zero, List.set_cons_succ])
          iterate 2 (refine wpSeq_pure (v := ?_) rfl (by rfl) (fun w' hw' => ?_) ?_; rotate_left; (focus (have y0 := qkept hw' x0; have y1 := qkept hw' x1; go_simp; try with_reducible rfl)); try simp only [Act.put, List.setIfInBounds_toArray, List.set_cons_zero, List.set_cons_succ])
          refine wpSeq_nil ?_
          go_wp2_with fail
          go_meet
          exact ⟨rfl, x0, x1, Bj6.out⟩
    · skip
      by_cases h3 : v ≤ sA
      · skip
        by_cases h4 : v ≤ sB
        · skip
          have k2 := M2.out h3 h4
          refine wp_region_seq [(0, true), (2, true), (1, false), (3, false), (4, true), (5, true), (6, true), (8, true), (7, false), (9, false), (10, true), (11, true), (12, true), (13, true), (14, true), (15, true), (16, true), (17, true), (18, true), (19, true), (21, true), (20, false), (22, false), (23, true), (24, true), (25, true), (27, true), (26, false), (28, false), (29, true), (30, true), (31, true), (32, true), (33, true), (34, true), (35, true), (36, true), (37, true)] (by kernel_rfl) (by kernel_rfl) (by kernel_rfl) (by kernel_rfl) ?_
          iterate 2 (refine wpSeq_pure (v := ?_) rfl (by rfl) (fun w' hw' => ?_) ?_; rotate_left; (focus (have y0 := qkept hw' x0; have y1 := qkept hw' x1; go_simp; try with_reducible rfl)); try simp only [Act.put, List.setIfInBounds_toArray, List.set_cons_zero, List.set_cons_succ])
          refine wpSeq_call rfl (fun K' hK => ?_)
          go_simp
          go_at_call 14
          refine (SA.out _).mono ?_; rintro e j1 ⟨rfl, b⟩
          refine hK.out _ _ b ?_
          clear hK K'
          try simp only [Act.put, List.setIfInBounds_toArray, List.set_cons_zero, List.set_cons_succ]
          replace x0 := qkept b x0; replace x1 := qkept b x1; have Bj1 := Lib.hid (B2.out.drew.trans (b.mono B2.out.drew.size)); clear b
          refine wpSeq_call rfl (fun K' hK => ?_)
          go_simp
          go_at_call 9
          refine (D1.out _).mono ?_; rintro e j2 ⟨rfl, b⟩
          refine hK.out _ _ b ?_
          clear hK K'
          try simp only [Act.put, List.setIfInBounds_toArray, List.set_cons_zero, List.set_cons_succ]
          replace x0 := qkept b x0; replace x1 := qkept b x1; have Bj2 := Lib.hid (Bj1.out.trans (b.mono Bj1.out.size)); clear b
          iterate 2 (refine wpSeq_pure (v := ?_) rfl (by rfl) (fun w' hw' => ?_) ?_; rotate_left; (focus (have y0 := qkept hw' x0; have y1 := qkept hw' x1; go_simp; try with_reducible rfl)); try simp only [Act.put, List.setIfInBounds_toArray, List.set_cons_zero, List.set_cons_succ])
          iterate 2 (refine wpSeq_skip rfl (by rfl) ?_; try simp only [Act.put, List.setIfInBounds_toArray, List.set_cons_zero, List.set_cons_succ])
          refine wpSeq_call rfl (fun K' hK => ?_)
          go_simp
          refine hK.out _ _ (Below.refl _ _) ?_
          clear hK K'
          try simp only [Act.put, List.setIfInBounds_toArray, List.set_cons_zero, List.set_cons_succ]
          refine wpSeq_call rfl (fun K' hK => ?_)
          go_simp
          refine hK.out _ _ (Below.refl _ _) ?_
          clear hK K'
          try simp only [Act.put, List.setIfInBounds_toArray, List.set_cons_zero, List.set_cons_succ]
          (refine wpSeq_skip rfl (by rfl) ?_; try simp only [Act.put, List.setIfInBounds_toArray, List.set_cons_zero, List.set_cons_succ])
          iterate 2 (refine wpSeq_pure (v := ?_) rfl (by rfl) (fun w' hw' => ?_) ?_; rotate_left; (focus (have y0 := qkept hw' x0; have y1 := qkept hw' x1; go_simp; try with_reducible rfl)); try simp only [Act.put, List.setIfInBounds_toArray, List.set_cons_zero, List.set_cons_succ])
          iterate 4 (refine wpSeq_skip rfl (by rfl) ?_; try simp only [Act.put, List.setIfInBounds_toArray, List.set_cons_zero, List.set_cons_succ])
          iterate 4 (refine wpSeq_pure (v := ?_) rfl (by rfl) (fun w' hw' => ?_) ?_; rotate_left; (focus (have y0 := qkept hw' x0; have y1 := qkept hw' x1; go_simp; try with_reducible rfl)); try simp only [Act.put, List.setIfInBounds_toArray, List.set_cons_zero, List.set_cons_succ])
          refine wpSeq_call rfl (fun K' hK => ?_)
          go_simp
          go_at_call 14
          refine (SA.out _).mono ?_; rintro e j3 ⟨rfl, b⟩
          refine hK.out _ _ b ?_
          clear hK K'
          try simp only [Act.put, List.setIfInBounds_toArray, List.set_cons_zero, List.set_cons_succ]
          replace x0 := qkept b x0; replace x1 := qkept b x1; have Bj3 := Lib.hid (Bj2.out.trans (b.mono Bj2.out.size)); clear b
          refine wpSeq_call rfl (fun K' hK => ?_)
          go_simp
          go_at_call 15
          refine (D3.out _).mono ?_; rintro e j4 ⟨rfl, b⟩
          refine hK.out _ _ b ?_
          clear hK K'
          try simp only [Act.put, List.setIfInBounds_toArray, List.set_cons_zero, List.set_cons_succ]
          replace x0 := qkept b x0; replace x1 := qkept b x1; have Bj4 := Lib.hid (Bj3.out.trans (b.mono Bj3.out.size)); clear b
          iterate 4 (refine wpSeq_pure (v := ?_) rfl (by rfl) (fun w' hw' => ?_) ?_; rotate_left; (focus (have y0 := qkept hw' x0; have y1 := qkept hw' x1; go_simp; try with_reducible rfl)); try simp only [Act.put, List.setIfInBounds_toArray, List.set_cons_zero, List.set_cons_succ])
          refine wpSeq_call rfl (fun K' hK => ?_)
          go_simp
          go_at_call 14
          refine (SB.out _).mono ?_; rintro e j5 ⟨rfl, b⟩
          refine hK.out _ _ b ?_
          clear hK K'
          try simp only [Act.put, List.setIfInBounds_toArray, List.set_cons_zero, List.set_cons_succ]
          replace x0 := qkept b x0; replace x1 := qkept b x1; have Bj5 := Lib.hid (Bj4.out.trans (b.mono Bj4.out.size)); clear b
          refine wpSeq_call rfl (fun K' hK => ?_)
          go_simp
          go_at_call 15
          refine (D3.out _).mono ?_; rintro e j6 ⟨rfl, b⟩
          refine hK.out _ _ b ?_
          clear hK K'
          try simp only [Act.put, List.setIfInBounds_toArray, List.set_cons_zero, List.set_cons_succ]
          replace x0 := qkept b x0; replace x1 := qkept b x1; have Bj6 := Lib.hid (Bj5.out.trans (b.mono Bj5.out.size)); clear b
          iterate 9 (refine wpSeq_pure (v := ?_) rfl (by rfl) (fun w' hw' => ?_) ?_; rotate_left; (focus (have y0 := qkept hw' x0; have y1 := qkept hw' x1; go_simp; try with_reducible rfl)); try simp only [Act.put, List.setIfInBounds_toArray, List.set_cons_zero, List.set_cons_succ])
          refine wpSeq_nil ?_
          go_wp2_with fail
          go_meet
          exact ⟨rfl, x0, x1, Bj6.out⟩
        · skip
          refine wp_region_seq [(0, true), (2, true), (1, false), (3, false), (4, true), (5, true), (6, true), (8, true), (7, false), (9, false), (10, true), (11, true), (12, true), (13, true), (14, true), (15, true), (16, true), (17, true), (18, true), (19, true), (21, true), (20, false), (22, false), (23, true), (24, true), (25, true), (27, true), (26, false), (28, false), (29, true), (30, true), (31, true), (32, true), (33, true), (34, true), (35, true), (36, true), (37, true)] (by kernel_rfl) (by kernel_rfl) (by kernel_rfl) (by kernel_rfl) ?_
          iterate 2 (refine wpSeq_pure (v := ?_) rfl (by rfl) (fun w' hw' => ?_) ?_; rotate_left; (focus (have y0 := qkept hw' x0; have y1 := qkept hw' x1; go_simp; try with_reducible rfl)); try simp only [Act.put, List.setIfInBounds_toArray, List.set_cons_zero, List.set_cons_succ])
          refine wpSeq_call rfl (fun K' hK => ?_)
          go_simp
          go_at_call 14
          refine (SA.out _).mono ?_; rintro e j1 ⟨rfl, b⟩
          refine hK.out _ _ b ?_
          clear hK K'
          try simp only [Act.put, List.setIfInBounds_toArray, List.set_cons_zero, List.set_cons_succ]
          replace x0 := qkept b x0; replace x1 := qkept b x1; have Bj1 := Lib.hid (B2.out.drew.trans (b.mono B2.out.drew.size)); clear b
          refine wpSeq_call rfl (fun K' hK => ?_)
          go_simp
          go_at_call 9
          refine (D1.out _).mono ?_; rintro e j2 ⟨rfl, b⟩
          refine hK.out _ _ b ?_
          clear hK K'
          try simp only [Act.put, List.setIfInBounds_toArray, List.set_cons_zero, List.set_cons_succ]
          replace x0 := qkept b x0; replace x1 := qkept b x1; have Bj2 := Lib.hid (Bj1.out.trans (b.mono Bj1.out.size)); clear b
          iterate 2 (refine wpSeq_pure (v := ?_) rfl (by rfl) (fun w' hw' => ?_) ?_; rotate_left; (focus (have y0 := qkept hw' x0; have y1 := qkept hw' x1; go_simp; try with_reducible rfl)); try simp only [Act.put, List.setIfInBounds_toArray, List.set_cons_zero, List.set_cons_succ])
          iterate 2 (refine wpSeq_skip rfl (by rfl) ?_; try simp only [Act.put, List.setIfInBounds_toArray, List.set_cons_zero, List.set_cons_succ])
          refine wpSeq_call rfl (fun K' hK => ?_)
          go_simp
          refine hK.out _ _ (Below.refl _ _) ?_
          clear hK K'
          try simp only [Act.put, List.setIfInBounds_toArray, List.set_cons_zero, List.set_cons_succ]
          refine wpSeq_call rfl (fun K' hK => ?_)
          go_simp
          refine hK.out _ _ (Below.refl _ _) ?_
          clear hK K'
          try simp only [Act.put, List.setIfInBounds_toArray, List.set_cons_zero, List.set_cons_succ]
          (refine wpSeq_skip rfl (by rfl) ?_; try simp only [Act.put, List.setIfInBounds_toArray, List.set_cons_zero, List.set_cons_succ])
          iterate 2 (refine wpSeq_pure (v := ?_) rfl (by rfl) (fun w' hw' => ?_) ?_; rotate_left; (focus (have y0 := qkept hw' x0; have y1 := qkept hw' x1; go_simp; try with_reducible rfl)); try simp only [Act.put, List.setIfInBounds_toArray, List.set_cons_zero, List.set_cons_succ])
          iterate 4 (refine wpSeq_skip rfl (by rfl) ?_; try simp only [Act.put, List.setIfInBounds_toArray, List.set_cons_zero, List.set_cons_succ])
          iterate 4 (refine wpSeq_pure (v := ?_) rfl (by rfl) (fun w' hw' => ?_) ?_; rotate_left; (focus (have y0 := qkept hw' x0; have y1 := qkept hw' x1; go_simp; try with_reducible rfl)); try simp only [Act.put, List.setIfInBounds_toArray, List.set_cons_zero, List.set_cons_succ])
          refine wpSeq_call rfl (fun K' hK => ?_)
          go_simp
          go_at_call 14
          refine (SA.out _).mono ?_; rintro e j3 ⟨rfl, b⟩
          refine hK.out _ _ b ?_
          clear hK K'
          try simp only [Act.put, List.setIfInBounds_toArray, List.set_cons_zero, List.set_cons_succ]
          replace x0 := qkept b x0; replace x1 := qkept b x1; have Bj3 := Lib.hid (Bj2.out.trans (b.mono Bj2.out.size)); clear b
          refine wpSeq_call rfl (fun K' hK => ?_)
          go_simp
          go_at_call 15
          refine (D3.out _).mono ?_; rintro e j4 ⟨rfl, b⟩
          refine hK.out _ _ b ?_
          clear hK K'
          try simp only [Act.put, List.setIfInBounds_toArray, List.set_cons_zero, List.set_cons_succ]
          replace x0 := qkept b x0; replace x1 := qkept b x1; have Bj4 := Lib.hid (Bj3.out.trans (b.mono Bj3.out.size)); clear b
          iterate 4 (refine wpSeq_pure (v := ?_) rfl (by rfl) (fun w' hw' => ?_) ?_; rotate_left; (focus (have y0 := qkept hw' x0; have y1 := qkept hw' x1; go_simp; try with_reducible rfl)); try simp only [Act.put, List.setIfInBounds_toArray, List.set_cons_zero, List.set_cons_succ])
          refine wpSeq_call rfl (fun K' hK => ?_)
          go_simp
          go_at_call 14
          refine (SB.out _).mono ?_; rintro e j5 ⟨rfl, b⟩
          refine hK.out _ _ b ?_
          clear hK K'
          try simp only [Act.put, List.setIfInBounds_toArray, List.set_cons_zero, List.set_cons_succ]
          replace x0 := qkept b x0; replace x1 := qkept b x1; have Bj5 := Lib.hid (Bj4.out.trans (b.mono Bj4.out.size)); clear b
          refine wpSeq_call rfl (fun K' hK => ?_)
          go_simp
          go_at_call 15
          refine (D3.out _).mono ?_; rintro e j6 ⟨rfl, b⟩
          refine hK.out _ _ b ?_
          clear hK K'
          try simp only [Act.put, List.setIfInBounds_toArray, List.set_cons_zero, List.set_cons_succ]
          replace x0 := qkept b x0; replace x1 := qkept b x1; have Bj6 := Lib.hid (Bj5.out.trans (b.mono Bj5.out.size)); clear b
          iterate 3 (refine wpSeq_pure (v := ?_) rfl (by rfl) (fun w' hw' => ?_) ?_; rotate_left; (focus (have y0 := qkept hw' x0; have y1 := qkept hw' x1; go_simp; try with_reducible rfl)); try simp only [Act.put, List.setIfInBounds_toArray, List.set_cons_zero, List.set_cons_succ])
          iterate 4 (refine wpSeq_skip rfl (by rfl) ?_; try simp only [Act.put, List.setIfInBounds_toArray, List.set_cons_zero, List.set_cons_succ])
          iterate 2 (refine wpSeq_pure (v := ?_) rfl (by rfl) (fun w' hw' => ?_) ?_; rotate_left; (focus (have y0 := qkept hw' x0; have y1 := qkept hw' x1; go_simp; try with_reducible rfl)); try simp only [Act.put, List.setIfInBounds_toArray, List.set_cons_zero, List.set_cons_succ])
          refine wpSeq_nil ?_
          go_wp2_with fail
          go_meet
          exact ⟨rfl, x0, x1, Bj6.out⟩
      · skip
        refine wp_region_seq [(0, true), (2, true), (1, false), (3, false), (4, true), (5, true), (6, true), (8, true), (7, false), (9, false), (10, true), (11, true), (12, true), (13, true), (14, true), (15, true), (16, true), (17, true), (18, true), (19, true), (21, true), (20, false), (22, false), (23, true), (24, true), (25, true), (27, true), (26, false), (28, false), (29, true), (30, true), (31, true), (32, true), (33, true), (34, true), (35, true), (36, true), (37, true)] (by kernel_rfl) (by kernel_rfl) (by kernel_rfl) (by kernel_rfl) ?_
        iterate 2 (refine wpSeq_pure (v := ?_) rfl (by rfl) (fun w' hw' => ?_) ?_; rotate_left; (focus (have y0 := qkept hw' x0; have y1 := qkept hw' x1; go_simp; try with_reducible rfl)); try simp only [Act.put, List.setIfInBounds_toArray, List.set_cons_zero, List.set_cons_succ])
        refine wpSeq_call rfl (fun K' hK => ?_)
        go_simp
        go_at_call 14
        refine (SA.out _).mono ?_; rintro e j1 ⟨rfl, b⟩
        refine hK.out _ _ b ?_
        clear hK K'
        try simp only [Act.put, List.setIfInBounds_toArray, List.set_cons_zero, List.set_cons_succ]
        replace x0 := qkept b x0; replace x1 := qkept b x1; have Bj1 := Lib.hid (B2.out.drew.trans (b.mono B2.out.drew.size)); clear b
        refine wpSeq_call rfl (fun K' hK => ?_)
        go_simp
        go_at_call 9
        refine (D1.out _).mono ?_; rintro e j2 ⟨rfl, b⟩
        refine hK.out _ _ b ?_
        clear hK K'
        try simp only [Act.put, List.setIfInBounds_toArray, List.set_cons_zero, List.set_cons_succ]
        replace x0 := qkept b x0; replace x1 := qkept b x1; have Bj2 := Lib.hid (Bj1.out.trans (b.mono Bj1.out.size)); clear b
        iterate 2 (refine wpSeq_pure (v := ?_) rfl (by rfl) (fun w' hw' => ?_) ?_; rotate_left; (focus (have y0 := qkept hw' x0; have y1 := qkept hw' x1; go_simp; try with_reducible rfl)); try simp only [Act.put, List.setIfInBounds_toArray, List.set_cons_zero, List.set_cons_succ])
        iterate 2 (refine wpSeq_skip rfl (by rfl) ?_; try simp only [Act.put, List.setIfInBounds_toArray, List.set_cons_zero, List.set_cons_succ])
        refine wpSeq_call rfl (fun K' hK => ?_)
        go_simp
        refine hK.out _ _ (Below.refl _ _) ?_
        clear hK K'
        try simp only [Act.put, List.setIfInBounds_toArray, List.set_cons_zero, List.set_cons_succ]
        refine wpSeq_call rfl (fun K' hK => ?_)
        go_simp
        refine hK.out _ _ (Below.refl _ _) ?_
        clear hK K'
        try simp only [Act.put, List.setIfInBounds_toArray, List.set_cons_zero, List.set_cons_succ]
        (refine wpSeq_skip rfl (by rfl) ?_; try simp only [Act.put, List.setIfInBounds_toArray, List.set_cons_zero, List.set_cons_succ])
        iterate 2 (refine wpSeq_pure (v := ?_) rfl (by rfl) (fun w' hw' => ?_) ?_; rotate_left; (focus (have y0 := qkept hw' x0; have y1 := qkept hw' x1; go_simp; try with_reducible rfl)); try simp only [Act.put, List.setIfInBounds_toArray, List.set_cons_zero, List.set_cons_succ])
        iterate 4 (refine wpSeq_skip rfl (by rfl) ?_; try simp only [Act.put, List.setIfInBounds_toArray, List.set_cons_zero, List.set_cons_succ])
        iterate 4 (refine wpSeq_pure (v := ?_) rfl (by rfl) (fun w' hw' => ?_) ?_; rotate_left; (focus (have y0 := qkept hw' x0; have y1 := qkept hw' x1; go_simp; try with_reducible rfl)); try simp only [Act.put, List.setIfInBounds_toArray, List.set_cons_zero, List.set_cons_succ])
        refine wpSeq_call rfl (fun K' hK => ?_)
        go_simp
        go_at_call 14
        refine (SA.out _).mono ?_; rintro e j3 ⟨rfl, b⟩
        refine hK.out _ _ b ?_
        clear hK K'
        try simp only [Act.put, List.setIfInBounds_toArray, List.set_cons_zero, List.set_cons_succ]
        replace x0 := qkept b x0; replace x1 := qkept b x1; have Bj3 := Lib.hid (Bj2.out.trans (b.mono Bj2.out.size)); clear b
        refine wpSeq_call rfl (fun K' hK => ?_)
        go_simp
        go_at_call 15
        refine (D3.out _).mono ?_; rintro e j4 ⟨rfl, b⟩
        refine hK.out _ _ b ?_
        clear hK K'
        try simp only [Act.put, List.setIfInBounds_toArray, List.set_cons_zero, List.set_cons_succ]
        replace x0 := qkept b x0; replace x1 := qkept b x1; have Bj4 := Lib.hid (Bj3.out.trans (b.mono Bj3.out.size)); clear b
        iterate 2 (refine wpSeq_pure (v := ?_) rfl (by rfl) (fun w' hw' => ?_) ?_; rotate_left; (focus (have y0 := qkept hw' x0; have y1 := qkept hw' x1; go_simp; try with_reducible rfl)); try simp only [Act.put, List.setIfInBounds_toArray, List.set_cons_zero, List.set_cons_succ])
        iterate 2 (refine wpSeq_skip rfl (by rfl) ?_; try simp only [Act.put, List.setIfInBounds_toArray, List.set_cons_zero, List.set_cons_succ])
        refine wpSeq_call rfl (fun K' hK => ?_)
        go_simp
        refine hK.out _ _ (Below.refl _ _) ?_
        clear hK K'
        try simp only [Act.put, List.setIfInBounds_toArray, List.set_cons_zero, List.set_cons_succ]
        refine wpSeq_call rfl (fun K' hK => ?_)
        go_simp
        refine hK.out _ _ (Below.refl _ _) ?_
        clear hK K'
        try simp only [Act.put, List.setIfInBounds_toArray, List.set_cons_zero, List.set_cons_succ]
        (refine wpSeq_skip rfl (by rfl) ?_; try simp only [Act.put, List.setIfInBounds_toArray, List.set_cons_zero, List.set_cons_succ])
        iterate 2 (refine wpSeq_pure (v := ?_) rfl (by rfl) (fun w' hw' => ?_) ?_; rotate_left; (focus (have y0 := qkept hw' x0; have y1 := qkept hw' x1; go_simp; try with_reducible rfl)); try simp only [Act.put, List.setIfInBounds_toArray, List.set_cons_zero, List.set_cons_succ])
        iterate 4 (refine wpSeq_skip rfl (by rfl) ?_; try simp only [Act.put, List.setIfInBounds_toArray, List.set_cons_zero, List.set_cons_succ])
        iterate 2 (refine wpSeq_pure (v := ?_) rfl (by rfl) (fun w' hw' => ?_) ?_; rotate_left; (focus (have y0 := qkept hw' x0; have y1 := qkept hw' x1; go_simp; try with_reducible rfl)); try simp only [Act.put, List.setIfInBounds_toArray, List.set_cons_zero, List.set_cons_succ])
        refine wpSeq_nil ?_
        go_wp2_with fail
        go_meet
        exact ⟨rfl, x0, x1, Bj4.out⟩
  obtain ⟨rfl, x0, x1, hb⟩ := hcut
  have B3 := Lib.hid hb
  clear hb
  go_wp2_with fail
  go_cut [124] (fun s wx => Cut w p N F s wx)
  case first =>
    by_cases h1 : sX ≤ F
    · skip
      by_cases h2 : s ≤ sA
      · skip
        have k2 := M4.out h1
        have k1 := M3.out h1 h2
        refine wp_region_seq [(0, true), (2, true), (3, true), (1, false), (4, true), (5, true), (6, true), (8, true), (7, false), (9, false), (10, true), (11, true), (12, true), (13, true), (14, true), (16, true), (15, false), (17, false), (18, true), (19, true), (20, true), (21, true), (22, true), (23, true), (25, true), (24, false), (26, false), (27, true), (28, true), (29, true)] (by kernel_rfl) (by kernel_rfl) (by kernel_rfl) (by kernel_rfl) ?_
        iterate 3 (refine wpSeq_pure (v := ?_) rfl (by rfl) (fun w' hw' => ?_) ?_; rotate_left; (focus (have y0 := qkept hw' x0; have y1 := qkept hw' x1; go_simp; try with_reducible rfl)); try simp only [Act.put, List.setIfInBounds_toArray, List.set_cons_zero, List.set_cons_succ])
        refine wpSeq_call rfl (fun K' hK => ?_)
        go_simp
        go_at_call 14
        refine (SX.out _).mono ?_; rintro e i1 ⟨rfl, b⟩
        refine hK.out _ _ b ?_
        clear hK K'
        try simp only [Act.put, List.setIfInBounds_toArray, List.set_cons_zero, List.set_cons_succ]
        replace x0 := qkept b x0; replace x1 := qkept b x1; have Bi1 := Lib.hid (B3.out.drew.trans (b.mono B3.out.drew.size)); clear b
        iterate 4 (refine wpSeq_pure (v := ?_) rfl (by rfl) (fun w' hw' => ?_) ?_; rotate_left; (focus (have y0 := qkept hw' x0; have y1 := qkept hw' x1; go_simp; try with_reducible rfl)); try simp only [Act.put, List.setIfInBounds_toArray, List.set_cons_zero, List.set_cons_succ])
        refine wpSeq_call rfl (fun K' hK => ?_)
        go_simp
        go_at_call 14
        refine (SA.out _).mono ?_; rintro e i2 ⟨rfl, b⟩
        refine hK.out _ _ b ?_
        clear hK K'
        try simp only [Act.put, List.setIfInBounds_toArray, List.set_cons_zero, List.set_cons_succ]
        replace x0 := qkept b x0; replace x1 := qkept b x1; have Bi2 := Lib.hid (Bi1.out.trans (b.mono Bi1.out.size)); clear b
        refine wpSeq_call rfl (fun K' hK => ?_)
        go_simp
        go_at_call 10
        refine (D2.out _).mono ?_; rintro e i3 ⟨rfl, b⟩
        refine hK.out _ _ b ?_
        clear hK K'
        try simp only [Act.put, List.setIfInBounds_toArray, List.set_cons_zero, List.set_cons_succ]
        replace x0 := qkept b x0; replace x1 := qkept b x1; have Bi3 := Lib.hid (Bi2.out.trans (b.mono Bi2.out.size)); clear b
        iterate 6 (refine wpSeq_pure (v := ?_) rfl (by rfl) (fun w' hw' => ?_) ?_; rotate_left; (focus (have y0 := qkept hw' x0; have y1 := qkept hw' x1; go_simp; try with_reducible rfl)); try simp only [Act.put, List.setIfInBounds_toArray, List.set_cons_zero, List.set_cons_succ])
        refine wpSeq_call rfl (fun K' hK => ?_)
        go_simp
        go_at_call 14
        refine (SAX.out _).mono ?_; rintro e i4 ⟨rfl, b⟩
        refine hK.out _ _ b ?_
        clear hK K'
        try simp only [Act.put, List.setIfInBounds_toArray, List.set_cons_zero, List.set_cons_succ]
        replace x0 := qkept b x0; replace x1 := qkept b x1; have Bi4 := Lib.hid (Bi3.out.trans (b.mono Bi3.out.size)); clear b
        refine wpSeq_call rfl (fun K' hK => ?_)
        go_simp
        go_at_call 11
        refine (D4.out _).mono ?_; rintro e i5 ⟨rfl, b⟩
        refine hK.out _ _ b ?_
        clear hK K'
        try simp only [Act.put, List.setIfInBounds_toArray, List.set_cons_zero, List.set_cons_succ]
        replace x0 := qkept b x0; replace x1 := qkept b x1; have Bi5 := Lib.hid (Bi4.out.trans (b.mono Bi4.out.size)); clear b
        iterate 7 (refine wpSeq_pure (v := ?_) rfl (by rfl) (fun w' hw' => ?_) ?_; rotate_left; (focus (have y0 := qkept hw' x0; have y1 := qkept hw' x1; go_simp; try with_reducible rfl)); try simp only [Act.put, List.setIfInBounds_toArray, List.set_cons_zero, List.set_cons_succ])
        refine wpSeq_call rfl (fun K' hK => ?_)
        go_simp
        go_at_call 14
        refine (SNX.out _).mono ?_; rintro e i6 ⟨rfl, b⟩
        refine hK.out _ _ b ?_
        clear hK K'
        try simp only [Act.put, List.setIfInBounds_toArray, List.set_cons_zero, List.set_cons_succ]
        replace x0 := qkept b x0; replace x1 := qkept b x1; have Bi6 := Lib.hid (Bi5.out.trans (b.mono Bi5.out.size)); clear b
        refine wpSeq_call rfl (fun K' hK => ?_)
        go_simp
        go_at_call 9
        refine (D1.out _).mono ?_; rintro e i7 ⟨rfl, b⟩
        refine hK.out _ _ b ?_
        clear hK K'
        try simp only [Act.put, List.setIfInBounds_toArray, List.set_cons_zero, List.set_cons_succ]
        replace x0 := qkept b x0; replace x1 := qkept b x1; have Bi7 := Lib.hid (Bi6.out.trans (b.mono Bi6.out.size)); clear b
        iterate 3 (refine wpSeq_pure (v := ?_) rfl (by rfl) (fun w' hw' => ?_) ?_; rotate_left; (focus (have y0 := qkept hw' x0; have y1 := qkept hw' x1; go_simp; try with_reducible rfl)); try simp only [Act.put, List.setIfInBounds_toArray, List.set_cons_zero, List.set_cons_succ])
        refine wpSeq_nil ?_
        go_wp2_with fail
        go_meet
        exact ⟨rfl, x0, x1, Bi7.out⟩
      · skip
        have k2 := M4.out h1
        refine wp_region_seq [(0, true), (2, true), (3, true), (1, false), (4, true), (5, true), (6, true), (8, true), (7, false), (9, false), (10, true), (11, true), (12, true), (13, true), (14, true), (16, true), (15, false), (17, false), (18, true), (19, true), (20, true), (21, true), (22, true), (23, true), (25, true), (24, false), (26, false), (27, true), (28, true), (29, true)] (by kernel_rfl) (by kernel_rfl) (by kernel_rfl) (by kernel_rfl) ?_
        iterate 3 (refine wpSeq_pure (v := ?_) rfl (by rfl) (fun w' hw' => ?_) ?_; rotate_left; (focus (have y0 := qkept hw' x0; have y1 := qkept hw' x1; go_simp; try with_reducible rfl)); try simp only [Act.put, List.setIfInBounds_toArray, List.set_cons_zero, List.set_cons_succ])
        refine wpSeq_call rfl (fun K' hK => ?_)
        go_simp
        go_at_call 14
        refine (SX.out _).mono ?_; rintro e i1 ⟨rfl, b⟩
        refine hK.out _ _ b ?_
        clear hK K'
        try simp only [Act.put, List.setIfInBounds_toArray, List.set_cons_zero, List.set_cons_succ]
        replace x0 := qkept b x0; replace x1 := qkept b x1; have Bi1 := Lib.hid (B3.out.drew.trans (b.mono B3.out.drew.size)); clear b
        iterate 4 (refine wpSeq_pure (v := ?_) rfl (by rfl) (fun w' hw' => ?_) ?_; rotate_left; (focus (have y0 := qkept hw' x0; have y1 := qkept hw' x1; go_simp; try with_reducible rfl)); try simp only [Act.put, List.setIfInBounds_toArray, List.set_cons_zero, List.set_cons_succ])
        refine wpSeq_call rfl (fun K' hK => ?_)
        go_simp
        go_at_call 14
        refine (SA.out _).mono ?_; rintro e i2 ⟨rfl, b⟩
        refine hK.out _ _ b ?_
        clear hK K'
        try simp only [Act.put, List.setIfInBounds_toArray, List.set_cons_zero, List.set_cons_succ]
        replace x0 := qkept b x0; replace x1 := qkept b x1; have Bi2 := Lib.hid (Bi1.out.trans (b.mono Bi1.out.size)); clear b
        refine wpSeq_call rfl (fun K' hK => ?_)
        go_simp
        go_at_call 10
        refine (D2.out _).mono ?_; rintro e i3 ⟨rfl, b⟩
        refine hK.out _ _ b ?_
        clear hK K'
        try simp only [Act.put, List.setIfInBounds_toArray, List.set_cons_zero, List.set_cons_succ]
        replace x0 := qkept b x0; replace x1 := qkept b x1; have Bi3 := Lib.hid (Bi2.out.trans (b.mono Bi2.out.size)); clear b
        iterate 2 (refine wpSeq_pure (v := ?_) rfl (by rfl) (fun w' hw' => ?_) ?_; rotate_left; (focus (have y0 := qkept hw' x0; have y1 := qkept hw' x1; go_simp; try with_reducible rfl)); try simp only [Act.put, List.setIfInBounds_toArray, List.set_cons_zero, List.set_cons_succ])
        iterate 4 (refine wpSeq_skip rfl (by rfl) ?_; try simp only [Act.put, List.setIfInBounds_toArray, List.set_cons_zero, List.set_cons_succ])
        refine wpSeq_call rfl (fun K' hK => ?_)
        go_simp
        refine hK.out _ _ (Below.refl _ _) ?_
        clear hK K'
        try simp only [Act.put, List.setIfInBounds_toArray, List.set_cons_zero, List.set_cons_succ]
        refine wpSeq_call rfl (fun K' hK => ?_)
        go_simp
        refine hK.out _ _ (Below.refl _ _) ?_
        clear hK K'
        try simp only [Act.put, List.setIfInBounds_toArray, List.set_cons_zero, List.set_cons_succ]
        (refine wpSeq_skip rfl (by rfl) ?_; try simp only [Act.put, List.setIfInBounds_toArray, List.set_cons_zero, List.set_cons_succ])
        iterate 6 (refine wpSeq_pure (v := ?_) rfl (by rfl) (fun w' hw' => ?_) ?_; rotate_left; (focus (have y0 := qkept hw' x0; have y1 := qkept hw' x1; go_simp; try with_reducible rfl)); try simp only [Act.put, List.setIfInBounds_toArray, List.set_cons_zero, List.set_cons_succ])
        refine wpSeq_call rfl (fun K' hK => ?_)
        go_simp
        go_at_call 14
        refine (SNX.out _).mono ?_; rintro e i4 ⟨rfl, b⟩
        refine hK.out _ _ b ?_
        clear hK K'
        try simp only [Act.put, List.setIfInBounds_toArray, List.set_cons_zero, List.set_cons_succ]
        replace x0 := qkept b x0; replace x1 := qkept b x1; have Bi4 := Lib.hid (Bi3.out.trans (b.mono Bi3.out.size)); clear b
        refine wpSeq_call rfl (fun K' hK => ?_)
        go_simp
        go_at_call 9
        refine (D1.out _).mono ?_; rintro e i5 ⟨rfl, b⟩
        refine hK.out _ _ b ?_
        clear hK K'
        try simp only [Act.put, List.setIfInBounds_toArray, List.set_cons_zero, List.set_cons_succ]
        replace x0 := qkept b x0; replace x1 := qkept b x1; have Bi5 := Lib.hid (Bi4.out.trans (b.mono Bi4.out.size)); clear b
        iterate 3 (refine wpSeq_pure (v := ?_) rfl (by rfl) (fun w' hw' => ?_) ?_; rotate_left; (focus (have y0 := qkept hw' x0; have y1 := qkept hw' x1; go_simp; try with_reducible rfl)); try simp only [Act.put, List.setIfInBounds_toArray, List.set_cons_zero, List.set_cons_succ])
        refine wpSeq_nil ?_
        go_wp2_with fail
        go_meet
        exact ⟨rfl, x0, x1, Bi5.out⟩
    · skip
      refine wp_region_seq [(0, true), (2, true), (3, true), (1, false), (4, true), (5, true), (6, true), (8, true), (7, false), (9, false), (10, true), (11, true), (12, true), (13, true), (14, true), (16, true), (15, false), (17, false), (18, true), (19, true), (20, true), (21, true), (22, true), (23, true), (25, true), (24, false), (26, false), (27, true), (28, true), (29, true)] (by kernel_rfl) (by kernel_rfl) (by kernel_rfl) (by kernel_rfl) ?_
      iterate 3 (refine wpSeq_pure (v := ?_) rfl (by rfl) (fun w' hw' => ?_) ?_; rotate_left; (focus (have y0 := qkept hw' x0; have y1 := qkept hw' x1; go_simp; try with_reducible rfl)); try simp only [Act.put, List.setIfInBounds_toArray, List.set_cons_zero, List.set_cons_succ])
      refine wpSeq_call rfl (fun K' hK => ?_)
      go_simp
      go_at_call 14
      refine (SX.out _).mono ?_; rintro e i1 ⟨rfl, b⟩
      refine hK.out _ _ b ?_
      clear hK K'
      try simp only [Act.put, List.setIfInBounds_toArray, List.set_cons_zero, List.set_cons_succ]
      replace x0 := qkept b x0; replace x1 := qkept b x1; have Bi1 := Lib.hid (B3.out.drew.trans (b.mono B3.out.drew.size)); clear b
      iterate 2 (refine wpSeq_pure (v := ?_) rfl (by rfl) (fun w' hw' => ?_) ?_; rotate_left; (focus (have y0 := qkept hw' x0; have y1 := qkept hw' x1; go_simp; try with_reducible rfl)); try simp only [Act.put, List.setIfInBounds_toArray, List.set_cons_zero, List.set_cons_succ])
      iterate 2 (refine wpSeq_skip rfl (by rfl) ?_; try simp only [Act.put, List.setIfInBounds_toArray, List.set_cons_zero, List.set_cons_succ])
      refine wpSeq_call rfl (fun K' hK => ?_)
      go_simp
      refine hK.out _ _ (Below.refl _ _) ?_
      clear hK K'
      try simp only [Act.put, List.setIfInBounds_toArray, List.set_cons_zero, List.set_cons_succ]
      refine wpSeq_call rfl (fun K' hK => ?_)
      go_simp
      refine hK.out _ _ (Below.refl _ _) ?_
      clear hK K'
      try simp only [Act.put, List.setIfInBounds_toArray, List.set_cons_zero, List.set_cons_succ]
      iterate 6 (refine wpSeq_skip rfl (by rfl) ?_; try simp only [Act.put, List.setIfInBounds_toArray, List.set_cons_zero, List.set_cons_succ])
      refine wpSeq_call rfl (fun K' hK => ?_)
      go_simp
      refine hK.out _ _ (Below.refl _ _) ?_
      clear hK K'
      try simp only [Act.put, List.setIfInBounds_toArray, List.set_cons_zero, List.set_cons_succ]
      refine wpSeq_call rfl (fun K' hK => ?_)
      go_simp
      refine hK.out _ _ (Below.refl _ _) ?_
      clear hK K'
      try simp only [Act.put, List.setIfInBounds_toArray, List.set_cons_zero, List.set_cons_succ]
      iterate 7 (refine wpSeq_skip rfl (by rfl) ?_; try simp only [Act.put, List.setIfInBounds_toArray, List.set_cons_zero, List.set_cons_succ])
      refine wpSeq_call rfl (fun K' hK => ?_)
      go_simp
      refine hK.out _ _ (Below.refl _ _) ?_
      clear hK K'
      try simp only [Act.put, List.setIfInBounds_toArray, List.set_cons_zero, List.set_cons_succ]
      refine wpSeq_call rfl (fun K' hK => ?_)
      go_simp
      refine hK.out _ _ (Below.refl _ _) ?_
      clear hK K'
      try simp only [Act.put, List.setIfInBounds_toArray, List.set_cons_zero, List.set_cons_succ]
      iterate 2 (refine wpSeq_skip rfl (by rfl) ?_; try simp only [Act.put, List.setIfInBounds_toArray, List.set_cons_zero, List.set_cons_succ])
      (refine wpSeq_pure (v := ?_) rfl (by rfl) (fun w' hw' => ?_) ?_; rotate_left; (focus (have y0 := qkept hw' x0; have y1 := qkept hw' x1; go_simp; try with_reducible rfl)); try simp only [Act.put, List.setIfInBounds_toArray, List.set_cons_zero, List.set_cons_succ])
      refine wpSeq_nil ?_
      go_wp2_with fail
      go_meet
      exact ⟨rfl, x0, x1, Bi1.out⟩
  obtain ⟨rfl, -, -, hb⟩ := hcut
  have B4 := Lib.hid hb
  clear hb
  go_wp2_with fail
  refine (awake_any _).mono ?_; rintro e w9 ⟨rfl, b⟩
  have B9 := Lib.hid (B4.out.trans (b.mono B4.out.size))
  clear b
  go_wp2_with fail
  go_ret
  exact ⟨rfl, B9.out⟩
end Go.Proofs.Ytjhjielenbeoiaa.quorumMeets
