/-
  The walk of CodecWrites: it returns true, and nothing that was there has changed. Condition: the strings have fewer than some millions of bytes in all.
-/
import Derived.Test.YtkckimhkbnigkaaCAwake
import Derived.Test.YtkckimhkbnigkaaSeq
import Derived.Test.YtkckimhkbnigkaaOpenS
namespace Go.Proofs.Ytkckimhkbnigkaa
open Go.ChangeShapes Go.WideShapes Go.ChangeAt Go.RowKit
open Dg (W B)
theorem putI_ten (n : Int) (h : Cd.InR n) : (Cd.putI n).length ≤ 10 := by
  unfold Cd.putI
  rw [Cd.put_len]; exact Cd.need_le (Cd.zig_lt h)
theorem putAll_bulk : ∀ l : List ByteArray, bulkS l ≤ 1048576 → (Cd.putAll (l.map strB)).length ≤ 11 * bulkS l
  | [], _ => by simp [Cd.putAll]
  | s :: l, h => by
    simp only [bulkS] at h ⊢
    have ih := putAll_bulk l (by omega)
    have h1 := putI_ten ((strB s).length : Int) (by unfold Cd.InR; rw [strB_len]; omega)
    simp only [List.map_cons, Cd.putAll, List.length_append, Cd.putB_len]
    rw [strB_len] at h1 ⊢
    omega
theorem putL_bulk (l : List ByteArray) (h : bulkS l ≤ 1048576) (hl : l.length ≤ 1000) : (Cd.putL (l.map strB)).length ≤ 40000000 := by
  have h1 := putAll_bulk l h
  have h2 := putI_ten ((l.map strB).length : Int) (by unfold Cd.InR; rw [List.length_map]; omega)
  unfold Cd.putL
  rw [List.length_append]
  omega
theorem writes_out (bv0 dv lv : Value) (L D : List B) (l : List ByteArray) (n : Int) (d : W) (w : World) (hb : HasB w w.heap.size bv0 L) (hd : HasB w w.heap.size dv D) (hs : HasS w w.heap.size lv l)
    (h : 200 < L.length ∨ 500 < D.length ∨ 30 < l.length) :
    Calls Try.prog 4 #[bv0, dv, .int .i64 n, .int .u64 (uv d), lv] w fun e w' => e = .returned (.bool true) ∧ Below w.heap.size w w' := by
  obtain ⟨a, cap, rfl⟩ := hb.form
  obtain ⟨a', cap', rfl⟩ := hd.form
  obtain ⟨a'', cap'', rfl⟩ := hs.form
  generalize L.length = m1 at *
  generalize D.length = m2 at *
  generalize l.length = m3 at *
  clear hb hd hs
  by_cases h1 : 200 < m1
  · have t1 : decide ((200 : Int) < (m1 : Int)) = true := decide_eq_true (by omega)
    clear h h1
    go_enter Try.func4, Try.ntmps4
    go_wp2_with fail
    refine (awake_any _).mono ?_; rintro e w1 ⟨rfl, b1⟩
    go_wp2_with fail
    go_ret
    exact ⟨rfl, b1⟩
  · have t1 : decide ((200 : Int) < (m1 : Int)) = false := decide_eq_false (by omega)
    by_cases h2 : 500 < m2
    · have t2 : decide ((500 : Int) < (m2 : Int)) = true := decide_eq_true (by omega)
      clear h h1 h2
      go_enter Try.func4, Try.ntmps4
      go_wp2_with fail
      refine (awake_any _).mono ?_; rintro e w1 ⟨rfl, b1⟩
      go_wp2_with fail
      go_ret
      exact ⟨rfl, b1⟩
    · have t2 : decide ((500 : Int) < (m2 : Int)) = false := decide_eq_false (by omega)
      have t3 : decide ((30 : Int) < (m3 : Int)) = true := decide_eq_true (by omega)
      clear h h1 h2
      go_enter Try.func4, Try.ntmps4
      go_wp2_with fail
      refine (awake_any _).mono ?_; rintro e w1 ⟨rfl, b1⟩
      go_wp2_with fail
      go_ret
      exact ⟨rfl, b1⟩
set_option maxRecDepth 100000 in
set_option maxHeartbeats 2000000 in
theorem writes_in (bv0 dv lv : Value) (L D : List B) (l : List ByteArray) (n : Int) (d : W) (w : World) (hb : HasB w w.heap.size bv0 L) (hd : HasB w w.heap.size dv D) (hs : HasS w w.heap.size lv l) (hn : (Lit.int .i64 n).wf = true)
    (h1 : L.length ≤ 200) (h2 : D.length ≤ 500) (h3 : l.length ≤ 30) (hp : (Cd.putL (l.map strB)).length ≤ 40000000) :
    Calls Try.prog 4 #[bv0, dv, .int .i64 n, .int .u64 (uv d), lv] w fun e w' => e = .returned (.bool true) ∧ Below w.heap.size w w' := by
  obtain ⟨a, cap, rfl⟩ := hb.form
  obtain ⟨a', cap', rfl⟩ := hd.form
  obtain ⟨a'', cap'', rfl⟩ := hs.form
  have ib : ∀ w', Below w.heap.size w w' → HasB w' w'.heap.size (.slice a L.length cap) L := fun w' g => (hb.below g (Nat.le_refl _)).wide g.size
  have id : ∀ w', Below w.heap.size w w' → HasB w' w'.heap.size (.slice a' D.length cap') D := fun w' g => (hd.below g (Nat.le_refl _)).wide g.size
  have is : ∀ w', Below w.heap.size w w' → HasS w' w'.heap.size (.slice a'' l.length cap'') l := fun w' g => (hs.below g (Nat.le_refl _)).wide g.size
  have C1 := Lib.hid fun w' g => cputint_any n L _ w' hn (by omega) (ib w' g)
  have R1 := Lib.hid fun w' g => rputint_any n L _ w' hn (by omega) (ib w' g)
  have C2 := Lib.hid fun w' g => cputbytes_any L D _ _ w' (by omega) (by omega) (ib w' g) (id w' g)
  have R2 := Lib.hid fun w' g => rputbytes_any L D _ _ w' (by omega) (by omega) (ib w' g) (id w' g)
  have C3 := Lib.hid fun w' g => cputdigest_any d L _ w' (by omega) (ib w' g)
  have R3 := Lib.hid fun w' g => rputdigest_any d L _ w' (by omega) (ib w' g)
  have C4 := Lib.hid fun w' g => cputlist_any L l _ _ w' (by omega) (by omega) (ib w' g) (is w' g)
  have R4 := Lib.hid fun w' g => rputlist_any L l _ _ w' (by omega) (by omega) (ib w' g) (is w' g)
  have C5 := Lib.hid fun w' g => cframe_any D _ w' (by omega) (id w' g)
  have R5 := Lib.hid fun w' g => rframe_any D _ w' (by omega) (id w' g)
  have t1 : decide ((200 : Int) < (L.length : Int)) = false := decide_eq_false (by omega)
  have t2 : decide ((500 : Int) < (D.length : Int)) = false := decide_eq_false (by omega)
  have t3 : decide ((30 : Int) < (l.length : Int)) = false := decide_eq_false (by omega)
  generalize L.length = m1 at *
  generalize D.length = m2 at *
  generalize l.length = m3 at *
  clear hb hd hs ib id is h1 h2 h3 hp hn
  have B0 := Lib.hid (Below.refl w.heap.size w).drew
  go_enter Try.func4, Try.ntmps4
  go_wp2_with fail
  refine wp_region_seq [(0, true), (1, true), (4, true), (5, true), (2, false), (3, true), (6, false), (7, true), (8, true), (9, true), (10, true), (11, true), (14, true), (15, true), (12, false), (13, true), (16, false), (17, true), (18, true), (19, true), (20, true), (21, true), (22, true), (25, true), (26, true), (23, false), (24, true), (27, false), (28, true), (29, true), (30, true), (31, true), (32, true), (33, true), (36, true), (37, true), (34, false), (35, true), (38, false), (39, true), (40, true), (41, true), (42, true), (43, true), (46, true), (44, false), (45, true), (47, false), (48, true), (49, true), (50, true), (51, true), (52, false), (53, true), (54, true)] (by kernel_rfl) (by kernel_rfl) (by kernel_rfl) (by kernel_rfl) ?_
  iterate 4 (refine wpSeq_pure (v := ?_) rfl (by rfl) (fun w' hw' => ?_) ?_; rotate_left; (focus (go_simp; try with_reducible rfl)); try simp only [Act.put, List.setIfInBounds_toArray, List.set_cons_zero, List.set_cons_succ])
  refine wpSeq_call rfl (fun K' hK => ?_)
  go_simp
  go_at_call 15
  refine (C1.out _ B0.out).mono ?_; rintro e w1 ⟨v1, rfl, o, b⟩
  refine hK.out _ _ b ?_
  clear hK K'
  try simp only [Act.put, List.setIfInBounds_toArray, List.set_cons_zero, List.set_cons_succ]
  have O1 := Lib.hid o; have B1 := Lib.hid (B0.out.trans (b.mono B0.out.size)); clear o b
  (refine wpSeq_pure (v := ?_) rfl (by rfl) (fun w' hw' => ?_) ?_; rotate_left; (focus (have kk := conv_any _ _ _ ((O1.out.below hw' (Nat.le_refl _)).wide hw'.size); go_simp; try with_reducible rfl)); try simp only [Act.put, List.setIfInBounds_toArray, List.set_cons_zero, List.set_cons_succ])
  refine wpSeq_call rfl (fun K' hK => ?_)
  go_simp
  go_at_call 12
  refine (R1.out _ B1.out).mono ?_; rintro e w2 ⟨v2, rfl, o, b⟩
  refine hK.out _ _ b ?_
  clear hK K'
  try simp only [Act.put, List.setIfInBounds_toArray, List.set_cons_zero, List.set_cons_succ]
  have O2 := Lib.hid o.has; have B2 := Lib.hid (B1.out.trans (b.mono B1.out.size)); clear o b
  (refine wpSeq_pure (v := ?_) rfl (by rfl) (fun w' hw' => ?_) ?_; rotate_left; (focus (have kk := conv_any _ _ _ ((O2.out.below hw' (Nat.le_refl _)).wide hw'.size); go_simp; try with_reducible rfl)); try simp only [Act.put, List.setIfInBounds_toArray, List.set_cons_zero, List.set_cons_succ])
  iterate 6 (refine wpSeq_pure (v := ?_) rfl (by rfl) (fun w' hw' => ?_) ?_; rotate_left; (focus (go_simp; try with_reducible rfl)); try simp only [Act.put, List.setIfInBounds_toArray, List.set_cons_zero, List.set_cons_succ])
  refine wpSeq_call rfl (fun K' hK => ?_)
  go_simp
  go_at_call 16
  refine (C2.out _ B2.out).mono ?_; rintro e w3 ⟨v3, rfl, o, b⟩
  refine hK.out _ _ b ?_
  clear hK K'
  try simp only [Act.put, List.setIfInBounds_toArray, List.set_cons_zero, List.set_cons_succ]
  have O3 := Lib.hid o; have B3 := Lib.hid (B2.out.trans (b.mono B2.out.size)); clear o b
  (refine wpSeq_pure (v := ?_) rfl (by rfl) (fun w' hw' => ?_) ?_; rotate_left; (focus (have kk := conv_any _ _ _ ((O3.out.below hw' (Nat.le_refl _)).wide hw'.size); go_simp; try with_reducible rfl)); try simp only [Act.put, List.setIfInBounds_toArray, List.set_cons_zero, List.set_cons_succ])
  refine wpSeq_call rfl (fun K' hK => ?_)
  go_simp
  go_at_call 17
  refine (R2.out _ B3.out).mono ?_; rintro e w4 ⟨v4, rfl, o, b⟩
  refine hK.out _ _ b ?_
  clear hK K'
  try simp only [Act.put, List.setIfInBounds_toArray, List.set_cons_zero, List.set_cons_succ]
  have O4 := Lib.hid o.has; have B4 := Lib.hid (B3.out.trans (b.mono B3.out.size)); clear o b
  (refine wpSeq_pure (v := ?_) rfl (by rfl) (fun w' hw' => ?_) ?_; rotate_left; (focus (have kk := conv_any _ _ _ ((O4.out.below hw' (Nat.le_refl _)).wide hw'.size); go_simp; try with_reducible rfl)); try simp only [Act.put, List.setIfInBounds_toArray, List.set_cons_zero, List.set_cons_succ])
  iterate 7 (refine wpSeq_pure (v := ?_) rfl (by rfl) (fun w' hw' => ?_) ?_; rotate_left; (focus (go_simp; try with_reducible rfl)); try simp only [Act.put, List.setIfInBounds_toArray, List.set_cons_zero, List.set_cons_succ])
  refine wpSeq_call rfl (fun K' hK => ?_)
  go_simp
  go_at_call 18
  refine (C3.out _ B4.out).mono ?_; rintro e w5 ⟨v5, rfl, o, b⟩
  refine hK.out _ _ b ?_
  clear hK K'
  try simp only [Act.put, List.setIfInBounds_toArray, List.set_cons_zero, List.set_cons_succ]
  have O5 := Lib.hid o; have B5 := Lib.hid (B4.out.trans (b.mono B4.out.size)); clear o b
  (refine wpSeq_pure (v := ?_) rfl (by rfl) (fun w' hw' => ?_) ?_; rotate_left; (focus (have kk := conv_any _ _ _ ((O5.out.below hw' (Nat.le_refl _)).wide hw'.size); go_simp; try with_reducible rfl)); try simp only [Act.put, List.setIfInBounds_toArray, List.set_cons_zero, List.set_cons_succ])
  refine wpSeq_call rfl (fun K' hK => ?_)
  go_simp
  go_at_call 19
  refine (R3.out _ B5.out).mono ?_; rintro e w6 ⟨v6, rfl, o, b⟩
  refine hK.out _ _ b ?_
  clear hK K'
  try simp only [Act.put, List.setIfInBounds_toArray, List.set_cons_zero, List.set_cons_succ]
  have O6 := Lib.hid o.has; have B6 := Lib.hid (B5.out.trans (b.mono B5.out.size)); clear o b
  (refine wpSeq_pure (v := ?_) rfl (by rfl) (fun w' hw' => ?_) ?_; rotate_left; (focus (have kk := conv_any _ _ _ ((O6.out.below hw' (Nat.le_refl _)).wide hw'.size); go_simp; try with_reducible rfl)); try simp only [Act.put, List.setIfInBounds_toArray, List.set_cons_zero, List.set_cons_succ])
  iterate 7 (refine wpSeq_pure (v := ?_) rfl (by rfl) (fun w' hw' => ?_) ?_; rotate_left; (focus (go_simp; try with_reducible rfl)); try simp only [Act.put, List.setIfInBounds_toArray, List.set_cons_zero, List.set_cons_succ])
  refine wpSeq_call rfl (fun K' hK => ?_)
  go_simp
  go_at_call 20
  refine (C4.out _ B6.out).mono ?_; rintro e w7 ⟨v7, rfl, o, b⟩
  refine hK.out _ _ b ?_
  clear hK K'
  try simp only [Act.put, List.setIfInBounds_toArray, List.set_cons_zero, List.set_cons_succ]
  have O7 := Lib.hid o; have B7 := Lib.hid (B6.out.trans (b.mono B6.out.size)); clear o b
  (refine wpSeq_pure (v := ?_) rfl (by rfl) (fun w' hw' => ?_) ?_; rotate_left; (focus (have kk := conv_any _ _ _ ((O7.out.below hw' (Nat.le_refl _)).wide hw'.size); go_simp; try with_reducible rfl)); try simp only [Act.put, List.setIfInBounds_toArray, List.set_cons_zero, List.set_cons_succ])
  refine wpSeq_call rfl (fun K' hK => ?_)
  go_simp
  go_at_call 10
  refine (R4.out _ B7.out).mono ?_; rintro e w8 ⟨v8, rfl, o, b⟩
  refine hK.out _ _ b ?_
  clear hK K'
  try simp only [Act.put, List.setIfInBounds_toArray, List.set_cons_zero, List.set_cons_succ]
  have O8 := Lib.hid o.has; have B8 := Lib.hid (B7.out.trans (b.mono B7.out.size)); clear o b
  (refine wpSeq_pure (v := ?_) rfl (by rfl) (fun w' hw' => ?_) ?_; rotate_left; (focus (have kk := conv_any _ _ _ ((O8.out.below hw' (Nat.le_refl _)).wide hw'.size); go_simp; try with_reducible rfl)); try simp only [Act.put, List.setIfInBounds_toArray, List.set_cons_zero, List.set_cons_succ])
  iterate 5 (refine wpSeq_pure (v := ?_) rfl (by rfl) (fun w' hw' => ?_) ?_; rotate_left; (focus (go_simp; try with_reducible rfl)); try simp only [Act.put, List.setIfInBounds_toArray, List.set_cons_zero, List.set_cons_succ])
  refine wpSeq_call rfl (fun K' hK => ?_)
  go_simp
  go_at_call 21
  refine (C5.out _ B8.out).mono ?_; rintro e w9 ⟨v9, rfl, o, b⟩
  refine hK.out _ _ b ?_
  clear hK K'
  try simp only [Act.put, List.setIfInBounds_toArray, List.set_cons_zero, List.set_cons_succ]
  have O9 := Lib.hid o; have B9 := Lib.hid (B8.out.trans (b.mono B8.out.size)); clear o b
  (refine wpSeq_pure (v := ?_) rfl (by rfl) (fun w' hw' => ?_) ?_; rotate_left; (focus (have kk := conv_any _ _ _ ((O9.out.below hw' (Nat.le_refl _)).wide hw'.size); go_simp; try with_reducible rfl)); try simp only [Act.put, List.setIfInBounds_toArray, List.set_cons_zero, List.set_cons_succ])
  refine wpSeq_call rfl (fun K' hK => ?_)
  go_simp
  go_at_call 11
  refine (R5.out _ B9.out).mono ?_; rintro e w10 ⟨v10, rfl, o, b⟩
  refine hK.out _ _ b ?_
  clear hK K'
  try simp only [Act.put, List.setIfInBounds_toArray, List.set_cons_zero, List.set_cons_succ]
  have O10 := Lib.hid o.has; have B10 := Lib.hid (B9.out.trans (b.mono B9.out.size)); clear o b
  (refine wpSeq_pure (v := ?_) rfl (by rfl) (fun w' hw' => ?_) ?_; rotate_left; (focus (have kk := conv_any _ _ _ ((O10.out.below hw' (Nat.le_refl _)).wide hw'.size); go_simp; try with_reducible rfl)); try simp only [Act.put, List.setIfInBounds_toArray, List.set_cons_zero, List.set_cons_succ])
  iterate 3 (refine wpSeq_pure (v := ?_) rfl (by rfl) (fun w' hw' => ?_) ?_; rotate_left; (focus (go_simp; try with_reducible rfl)); try simp only [Act.put, List.setIfInBounds_toArray, List.set_cons_zero, List.set_cons_succ])
  refine wpSeq_call rfl (fun K' hK => ?_)
  go_simp
  go_at_call 9
  refine (awake_any _).mono ?_; rintro e w11 ⟨rfl, b⟩
  refine hK.out _ _ b ?_
  clear hK K'
  try simp only [Act.put, List.setIfInBounds_toArray, List.set_cons_zero, List.set_cons_succ]
  have B11 := Lib.hid (B10.out.trans (b.mono B10.out.size)); clear b
  iterate 2 (refine wpSeq_pure (v := ?_) rfl (by rfl) (fun w' hw' => ?_) ?_; rotate_left; (focus (go_simp; try with_reducible rfl)); try simp only [Act.put, List.setIfInBounds_toArray, List.set_cons_zero, List.set_cons_succ])
  refine wpSeq_nil ?_
  go_wp2_with fail
  go_ret
  exact ⟨rfl, B11.out⟩
end Go.Proofs.Ytkckimhkbnigkaa
