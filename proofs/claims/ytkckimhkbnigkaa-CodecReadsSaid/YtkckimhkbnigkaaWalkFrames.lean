/-
  The walk of CodecFrames: it returns true, and nothing that was there has changed. No condition.
-/
import Derived.Test.YtkckimhkbnigkaaCAwake
import Derived.Test.YtkckimhkbnigkaaSub
import Derived.StillTailTactics
namespace Go.Proofs.Ytkckimhkbnigkaa
open Go.ChangeShapes Go.WideShapes Go.ChangeAt Go.RowKit
open Dg (W B)
theorem bv_add (x : B) (n : Nat) : IntKind.u8.wrap (bv x + (n : Int)) = bv (x + BitVec.ofNat 8 n) := by
  unfold bv
  rw [IntKind.wrap_u8, BitVec.toNat_add, BitVec.toNat_ofNat]
  omega
theorem add_ne (x : B) (n : Nat) (h1 : 1 ≤ n) (h2 : n ≤ 255) : x + BitVec.ofNat 8 n ≠ x := by
  intro e
  have := congrArg BitVec.toNat e
  rw [BitVec.toNat_add, BitVec.toNat_ofNat] at this
  have := x.isLt
  omega
theorem OwnB.cells {base : Nat} {w : World} {v : Value} {l : List B} (h : OwnB base w v l) (hl : 0 < l.length) : ∃ g cap, v = .slice (some ⟨g, 0, none⟩) l.length cap ∧ base ≤ g ∧ g < w.heap.size ∧ l.length ≤ cap ∧ ∀ i, i < l.length → w.cell? ⟨g, i, none⟩ = some (.int .u8 (bv (l.getD i 0))) ∧ w.frozen? ⟨g, i, none⟩ = false := by
  obtain ⟨hx, h2⟩ := h
  rcases h2 with ⟨_, h0⟩ | ⟨g, cap, cur, rfl, h1, h2, h3, h4, h5, h6⟩
  · omega
  · have own : w.ownsRow base 5 1 (.slice (some ⟨g, 0, none⟩) l.length cap) l.length (l.map bval) := ⟨hx, .inr ⟨g, cap, cur, rfl, h1, h2, h3, h4, h5, h6⟩⟩
    exact ⟨g, cap, rfl, h1, (Array.getElem?_eq_some_iff.1 h2).1, h3, fun i hi => ⟨by rw [own.cellAt i (by omega)]; simp [hi, bval], own.frozenAt i⟩⟩
/-- a byte of a slice, stored anew -/
theorem cells_set {w : World} {g n cap j : Nat} {l : List B} (hn : n = l.length) (hc : l.length ≤ cap) (hg : g < w.heap.size) (h : ∀ i, i < l.length → w.cell? ⟨g, i, none⟩ = some (.int .u8 (bv (l.getD i 0)))) (hj : j < l.length) (y : B) :
    HasB (w.setCell ⟨g, j, none⟩ (.int .u8 (bv y))) w.heap.size (.slice (some ⟨g, 0, none⟩) n cap) (l.set j y) := by
  subst hn
  have hl : (l.set j y).length = l.length := List.length_set
  refine .inr ⟨g, 0, cap, by rw [hl], by rw [hl]; exact hc, hg, fun i hi => ?_⟩
  rw [hl] at hi
  rw [Nat.zero_add]
  by_cases e : i = j
  · subst e
    rw [World.cell?_setCell_same _ _ _ (h i hj)]
    simp [List.getD, hj]
  · rw [World.cell?_setCell_other _ _ _ _ (by intro h; have := congrArg Addr.off h; simp only at this; omega), h i hi]
    simp [List.getD, List.getElem?_set_ne (Ne.symm e)]
theorem frames_out (v : Value) (D : List B) (x y z : Int) (w : World) (h : HasB w w.heap.size v D) (hl : D.length = 0 ∨ 100 < D.length) :
    Calls Try.prog 7 #[v, .int .i64 x, .int .i64 y, .int .i64 z] w fun e w' => e = .returned (.bool true) ∧ Below w.heap.size w w' := by
  obtain ⟨a, cap, rfl⟩ := h.form
  generalize D.length = n at *
  clear h
  by_cases h0 : n = 0
  · have t1 : ((n : Int) == 0) = true := by simp [h0]
    have H0 := Lib.hid h0
    clear hl h0
    go_enter Try.func7, Try.ntmps7
    go_wp2_with fail
    refine (awake_any _).mono ?_; rintro e w1 ⟨rfl, b1⟩
    go_wp2_with fail
    go_ret
    exact ⟨rfl, b1⟩
  · have t1 : ((n : Int) == 0) = false := by simp; omega
    have t2 : (100 : Int) < (n : Int) := by omega
    clear hl h0
    go_enter Try.func7, Try.ntmps7
    go_wp2_with fail
    refine (awake_any _).mono ?_; rintro e w1 ⟨rfl, b1⟩
    go_wp2_with fail
    go_ret
    exact ⟨rfl, b1⟩
namespace Cd
theorem frame_len (d : List B) : (frame d).length = (putI d.length).length + d.length + 8 := by
  unfold frame; rw [List.length_append, putB_len, putD_len]
theorem frame_at (d : List B) (q : Nat) (h : q < d.length) : (frame d).getD ((putI d.length).length + q) 0 = d.getD q 0 := by
  unfold frame putB
  rw [List.append_assoc, List.getD_eq_getElem?_getD, List.getD_eq_getElem?_getD, List.getElem?_append_right (by omega), Nat.add_sub_cancel_left, List.getElem?_append_left h]
theorem frame_set (d : List B) (q : Nat) (y : B) (h : q < d.length) : (frame d).set ((putI d.length).length + q) y = putI d.length ++ d.set q y ++ putD (Dg.ofB d) := by
  unfold frame putB
  rw [List.append_assoc, List.set_append_right _ _ (by omega), Nat.add_sub_cancel_left, List.set_append_left _ _ h, List.append_assoc]
end Cd
set_option maxRecDepth 100000 in
set_option maxHeartbeats 2000000 in
theorem frames_in (v : Value) (D : List B) (x y z : Int) (w : World) (h : HasB w w.heap.size v D) (h1 : 0 < D.length) (h2 : D.length ≤ 100) (hx : (Lit.int .i64 x).wf = true) (hy : (Lit.int .i64 y).wf = true) (hz : (Lit.int .i64 z).wf = true) :
    Calls Try.prog 7 #[v, .int .i64 x, .int .i64 y, .int .i64 z] w fun e w' => e = .returned (.bool true) ∧ Below w.heap.size w w' := by
  obtain ⟨a, cap, rfl⟩ := h.form
  obtain ⟨q, hq, hq1⟩ := mod_nat x D.length (by omega)
  obtain ⟨q2, hq2, hq3⟩ := mod_nat y 255 (by omega)
  obtain ⟨P, hP⟩ : ∃ P, P = (Cd.putI (D.length : Int)).length := ⟨_, rfl⟩
  have hP1 : 1 ≤ P := by rw [hP]; unfold Cd.putI; exact Cd.put_len_pos _
  have hP2 : P ≤ 10 := by rw [hP]; exact putI_len _ (by omega)
  obtain ⟨F, hF⟩ : ∃ F, F = (Cd.frame D).length := ⟨_, rfl⟩
  have hF1 : F = P + D.length + 8 := by rw [hF, hP]; exact Cd.frame_len D
  obtain ⟨r, hr, hr1⟩ := mod_nat z F (by omega)
  have M1 := Lib.hid fun w' => mod_to x (D.length : Int) q hq w' hx (by omega) (by omega)
  have M2 := Lib.hid fun w' => mod_to y 255 q2 hq2 w' hy (by omega) (by omega)
  have M3 := Lib.hid fun w' => mod_to z (F : Int) r hr w' hz (by omega) (by omega)
  have C1 := Lib.hid (cframe_any D _ w (by omega) h)
  obtain ⟨j, hj⟩ : ∃ j, j = P + q := ⟨_, rfl⟩
  have hjF : j < F := by omega
  obtain ⟨c, hc⟩ : ∃ c, c = 1 + q2 := ⟨_, rfl⟩
  have E1 := Lib.hid (show (Cd.frame D).getD j 0 = D.getD q 0 by rw [hj, hP]; exact Cd.frame_at D q hq1)
  have hne := add_ne (D.getD q 0) c (by omega) (by omega)
  have E2 := Lib.hid (show Cd.unframe ((Cd.frame D).set j (D.getD q 0 + BitVec.ofNat 8 c)) = .bad 9 by rw [hj, hP, Cd.frame_set D q _ hq1]; exact Cd.unframe_changed (by omega) q _ hq1 hne)
  have E3 := Lib.hid (show Cd.unframe ((Cd.frame D).take r) = .bad 5 from Cd.unframe_cut (by omega) (by rw [← hF]; exact hr1))
  obtain ⟨m, hm⟩ : ∃ m, m = D.length := ⟨_, rfl⟩
  rw [← hm] at hF1 h1 h2 M1 C1 ⊢
  have t1 : ((m : Int) == 0) = false := by simp; omega
  have t2 : ¬ (100 : Int) < (m : Int) := by omega
  have t3 : ¬ (F : Int) < (m : Int) + 9 := by omega
  have t4 : (F : Int) - 8 - (m : Int) + (q : Int) = (j : Int) := by omega
  have t5 : (1 : Int) + (q2 : Int) = (c : Int) := by omega
  have t6 : IntKind.u8.wrap (c : Int) = (c : Int) := by rw [IntKind.wrap_u8]; omega
  have t7 : (bv (D.getD q 0) + (c : Int)) % 256 = bv (D.getD q 0 + BitVec.ofNat 8 c) := by rw [← bv_add, IntKind.wrap_u8]
  generalize D.getD q 0 = x0 at E1 E2 t7
  generalize x0 + BitVec.ofNat 8 c = y0 at E2 t7
  have f118 : F ≤ 118 := by omega
  have f8 : 8 ≤ F := by omega
  have fm : m ≤ F - 8 := by omega
  have m100 : m ≤ 100 := h2
  have q99 : q < m := by rw [hm]; exact hq1
  have HF := Lib.hid hF
  have HR1 := Lib.hid hr1
  have HJF := Lib.hid hjF
  clear hq hq2 hP hP1 hP2 hF hF1 hr hj hc hne hm h h1 h2 hx hy hz hq1
  go_enter Try.func7, Try.ntmps7
  go_wp2_with fail
  refine (C1.out).mono ?_; rintro e w1 ⟨v1, rfl, o1, b1⟩
  obtain ⟨af, cf, rfl⟩ := o1.form
  rw [← HF.out] at o1 ⊢
  have hcf := o1.room
  have haf : af = none → cf = 0 := by
    rintro rfl
    rcases o1 with ⟨_, _, e, e2⟩ | ⟨_, _, _, e, _⟩
    · have := congrArg List.length e2; rw [← HF.out] at this; simp at this; omega
    · simp at e
  have SR := fun w' => run_bto af F cf r (r : Int) w' (by have := HR1.out; have := HF.out; omega) haf rfl
  have O1 := Lib.hid o1; have B1 := Lib.hid b1
  clear o1 b1 hcf haf
  go_wp2_with fail
  refine (M1.out _).mono ?_; rintro e w' ⟨rfl, rfl⟩
  go_wp2_with (at_builtin; refine wpList_append_bytes rfl (.const (.slice none 0 0)) (.tmp 46) rfl w1.heap.size _ _ [] (Cd.frame D) rfl (OwnB.nil w1 _) rfl w1.heap.size O1.out (by have := HF.out; simp; omega) (Nat.le_refl _) F (by have := HF.out; simp; omega) ?_)
  intro a1 cap1 w2 own2 grow2
  have B2 := Lib.hid (below_grownB (Below.refl _ _) (Nat.le_refl _) (OwnB.nil w1 w1.heap.size) grow2)
  obtain ⟨g, cg, hg, hg1, hg2, hg3, hcells⟩ := own2.cells (by have := HF.out; omega)
  simp only [Value.slice.injEq] at hg
  obtain ⟨rfl, -, rfl⟩ := hg
  have hj2 := hcells j (by rw [← HF.out]; exact HJF.out)
  rw [E1.out] at hj2
  obtain ⟨hcell, hfz⟩ := hj2
  have SET := Lib.hid (cells_set (n := F) (j := j) HF.out hg3 hg2 (fun i hi => (hcells i hi).1) (by rw [← HF.out]; exact HJF.out) y0)
  have B3 := Lib.hid (B2.out.setCell (p := ⟨g, j, none⟩) hg1 (.int .u8 (bv y0)))
  clear own2 grow2 hcells hg1 hg2 hg3
  have jF : (j : Int) < (F : Int) := by have := HJF.out; omega
  go_wp2_with fail
  refine wp_region_still_tail 10 (by kernel_rfl) (by kernel_rfl) ?_
  simp only [List.take_succ_cons, List.take_zero, List.drop_succ_cons, List.drop_zero]
  repeat still_step
  still_call ((M2.out w2.drew).mono fun _ _ h => ⟨h.1, h.2.symm⟩)
  repeat still_step
  refine wpStill_nil ?_
  change wpList _ _ _ _ _ w2.drew
  go_wp2_with fail
  obtain ⟨w4, hw4⟩ : ∃ w4, w4 = (w2.setCell ⟨g, j, none⟩ (.int .u8 (bv y0))).drew := ⟨_, rfl⟩
  have S4 : Hid (HasB w4 w4.heap.size (.slice (some ⟨g, 0, none⟩) F cap1) ((Cd.frame D).set j y0)) := Lib.hid (by rw [hw4]; have := SET.out; exact this.wide (by simp))
  have O4 : Hid (HasB w4 w4.heap.size (.slice af F cf) (Cd.frame D)) := Lib.hid (by rw [hw4]; exact (O1.out.below B3.out.drew (Nat.le_refl _)).wide B3.out.drew.size)
  have B4 : Hid (Below w.heap.size w w4) := Lib.hid (by rw [hw4]; exact B1.out.trans (B3.out.drew.mono B1.out.size))
  have D1 := Lib.hid (cunframe_got ((Cd.frame D).set j y0) 0 _ w4 (Nat.zero_le _) (by rw [List.length_set, ← HF.out]; omega) S4.out)
  rw [List.drop_zero, E2.out] at D1
  rw [← hw4]
  clear hw4 S4 SET
  refine (D1.out).mono ?_; rintro e w5 h5
  rcases h5 with ⟨c5, e5, rfl, b5⟩ | ⟨_, _, _, e5, _⟩
  · obtain rfl : 9 = c5 := by simpa using e5
    have B5 := Lib.hid (B4.out.trans (b5.mono B4.out.size))
    have O5 := Lib.hid ((O4.out.below b5 (Nat.le_refl _)).wide b5.size)
    clear b5 e5
    go_wp2_with fail
    refine (M3.out _).mono ?_; rintro e w' ⟨rfl, rfl⟩
    have D2 := Lib.hid (cunframe_got ((Cd.frame D).take r) 0 _ w5 (Nat.zero_le _) (by rw [List.length_take]; have := HF.out; omega) (O5.out.take r (by have := HR1.out; have := HF.out; omega)))
    rw [List.drop_zero, E3.out] at D2
    go_wp2_with fail
    refine (D2.out).mono ?_; rintro e w6 h6
    rcases h6 with ⟨c6, e6, rfl, b6⟩ | ⟨_, _, _, e6, _⟩
    · obtain rfl : 5 = c6 := by simpa using e6
      have B6 := Lib.hid (B5.out.trans (b6.mono B5.out.size))
      clear b6 e6
      go_wp2_with fail
      refine (awake_any _).mono ?_; rintro e w7 ⟨rfl, b7⟩
      have B7 := Lib.hid (B6.out.trans (b7.mono B6.out.size))
      clear b7
      go_wp2_with fail
      go_ret
      exact ⟨rfl, B7.out⟩
    · cases e6
  · cases e5
end Go.Proofs.Ytkckimhkbnigkaa
