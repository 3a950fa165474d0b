/-
  The walk of CodecOnce: it returns true, and nothing that was there has changed. No condition.
-/
import Derived.Test.YtkckimhkbnigkaaCAwake
import Derived.Test.YtkckimhkbnigkaaSeq
import Derived.Test.YtkckimhkbnigkaaSub
import Derived.Test.YtkckimhkbnigkaaReads
import Derived.Deep.DeepCutAuto
namespace Go.Proofs.Ytkckimhkbnigkaa
open Go.ChangeShapes Go.WideShapes Go.ChangeAt Go.RowKit
open Dg (W B)
theorem strB_map (l : List (List B)) : (l.map bstr).map strB = l := by
  rw [List.map_map]; conv => rhs; rw [← List.map_id l]
  exact List.map_congr_left fun x _ => strB_bstr x
theorem once_out (v : Value) (L : List B) (x : Int) (w : World) (h : HasB w w.heap.size v L) (hl : 100 < L.length) :
    Calls Try.prog 6 #[v, .int .i64 x] w fun e w' => e = .returned (.bool true) ∧ Below w.heap.size w w' := by
  obtain ⟨a, cap, rfl⟩ := h.form
  generalize L.length = n at *
  have t1 : (100 : Int) < (n : Int) := by omega
  clear h hl
  go_enter Try.func6, Try.ntmps6
  go_wp2_with fail
  refine (awake_any _).mono ?_; rintro e w1 ⟨rfl, b1⟩
  go_wp2_with fail
  go_ret
  exact ⟨rfl, b1⟩
set_option maxRecDepth 100000 in
set_option maxHeartbeats 4000000 in
theorem once_in (v : Value) (L : List B) (x : Int) (w : World) (h : HasB w w.heap.size v L) (hz : ∀ n c, v = .slice none n c → c = 0) (hl : L.length ≤ 100) (hx : (Lit.int .i64 x).wf = true) :
    Calls Try.prog 6 #[v, .int .i64 x] w fun e w' => e = .returned (.bool true) ∧ Below w.heap.size w w' := by
  obtain ⟨a, cap, rfl⟩ := h.form
  have hcap := h.room
  have hz' : a = none → cap = 0 := fun e => hz _ _ (by rw [e])
  obtain ⟨i, hi, hil⟩ := mod_nat x (L.length + 1) (by omega)
  have M1 := Lib.hid fun w' => mod_to x ((L.length : Int) + 1) i (by rw [← hi]; simp) w' hx (by omega) (by omega)
  have SL := Lib.hid fun (k : Nat) (y : Int) (hk : k ≤ L.length) (hy : y = k) w' => run_bto a L.length cap k y w' (by omega) hz' hy
  have HB0 := Lib.hid fun (w' : World) (g : Below w.heap.size w w') => (h.below g (Nat.le_refl _)).wide g.size
  have hiL : i ≤ L.length := by omega
  have HL := Lib.hid hl
  have C1 := Lib.hid fun (w' : World) (g : Below w.heap.size w w') => cint_all L i _ w' (by omega) (HB0.out w' g)
  have C2 := Lib.hid fun (w' : World) (g : Below w.heap.size w w') => cbytes_all L i _ w' (by omega) (HB0.out w' g)
  have C3 := Lib.hid fun (w' : World) (g : Below w.heap.size w w') => clist_all L i _ w' (by omega) (HB0.out w' g)
  have C4 := Lib.hid fun (w' : World) (g : Below w.heap.size w w') => cdgt_all L i _ w' (by omega) (HB0.out w' g)
  simp only [Cd.resAt_in L i hiL] at C1 C2 C3 C4
  have IL := Lib.hid hiL
  have SI := fun w' => SL.out i (i : Int) hiL rfl w'
  obtain ⟨r1, hr1⟩ : ∃ r, r = Cd.getI (L.drop i) := ⟨_, rfl⟩
  obtain ⟨r2, hr2⟩ : ∃ r, r = Cd.getB (L.drop i) := ⟨_, rfl⟩
  obtain ⟨r3, hr3⟩ : ∃ r, r = Cd.getL (L.drop i) := ⟨_, rfl⟩
  obtain ⟨r4, hr4⟩ : ∃ r, r = Cd.getD (L.drop i) := ⟨_, rfl⟩
  rw [← hr1] at C1; rw [← hr2] at C2; rw [← hr3] at C3; rw [← hr4] at C4
  have R1 := Lib.hid hr1; have R2 := Lib.hid hr2; have R3 := Lib.hid hr3; have R4 := Lib.hid hr4
  have HT := Lib.hid fun (w' : World) (g : Below w.heap.size w w') (k : Nat) (hk : k ≤ L.length) => (((h.take k hk).below g (Nat.le_refl _)).wide g.size : HasB w' w'.heap.size (.slice a k cap) (L.take k))
  obtain ⟨m, hm⟩ : ∃ m, m = L.length := ⟨_, rfl⟩
  rw [← hm] at M1 SI SL hl C1 C2 C3 C4 ⊢
  have HM := Lib.hid hm
  have t1 : ¬ (100 : Int) < (m : Int) := by omega
  have B0 := Lib.hid (Below.refl w.heap.size w)
  clear h hz hcap hz' hi hil hx hiL hr1 hr2 hr3 hr4 hm
  go_enter Try.func6, Try.ntmps6
  go_wp2_with fail
  refine (M1.out _).mono ?_; rintro e w' ⟨rfl, rfl⟩
  go_wp2_with fail
  refine (C1.out _ B0.out).mono ?_; rintro e w1 h
  obtain ⟨x1, y, z, rfl, HX, HY, HZ, b⟩ := h.letters
  have B1 := Lib.hid (B0.out.trans (b.mono B0.out.size)); clear b h
  go_wp2_with fail
  go_cut [48] (fun s wx => s = .bool false ∧ Below w.heap.size w wx)
  case first =>
    cases r1 with
    | bad c =>
      have hc := Cd.getI_bad R1.out.symm
      have t2 : (z == 0) = false := by rw [HZ.out]; show ((c : Int) == 0) = false; simp; omega
      clear hc
      refine wp_region_seq [(0, true), (1, true), (2, true), (3, true), (4, true), (5, true), (6, true), (9, true), (10, true), (11, true), (12, true), (7, false), (8, true), (13, true), (14, true)] (by kernel_rfl) (by kernel_rfl) (by kernel_rfl) (by kernel_rfl) ?_
      iterate 3 (refine wpSeq_pure (v := ?_) rfl (by rfl) (fun w' hw' => ?_) ?_; rotate_left; (focus (go_simp; try with_reducible rfl)); try simp only [Act.put, List.setIfInBounds_toArray, List.set_cons_zero, List.set_cons_succ])
      iterate 8 (refine wpSeq_skip rfl (by rfl) ?_; try simp only [Act.put, List.setIfInBounds_toArray, List.set_cons_zero, List.set_cons_succ])
      refine wpSeq_call rfl (fun K' hK => ?_)
      go_simp
      refine hK.out _ _ (Below.refl _ _) ?_
      clear hK K'
      try simp only [Act.put, List.setIfInBounds_toArray, List.set_cons_zero, List.set_cons_succ]
      iterate 2 (refine wpSeq_skip rfl (by rfl) ?_; try simp only [Act.put, List.setIfInBounds_toArray, List.set_cons_zero, List.set_cons_succ])
      (refine wpSeq_pure (v := ?_) rfl (by rfl) (fun w' hw' => ?_) ?_; rotate_left; (focus (go_simp; try with_reducible rfl)); try simp only [Act.put, List.setIfInBounds_toArray, List.set_cons_zero, List.set_cons_succ])
      refine wpSeq_nil ?_
      go_wp2_with fail
      go_meet
      exact ⟨rfl, B1.out.drew⟩
    | ok n k =>
      have hLL := HL.out
      obtain ⟨hin, hk0, hkl, htk⟩ := Cd.getI_inv R1.out.symm
      obtain rfl := show x1 = n from HX.out
      skip
      rw [List.length_drop] at hkl
      have hjm : i + k ≤ L.length := by have := IL.out; omega
      have hj := Cd.take_join L i k _ htk
      obtain ⟨q, hq⟩ : ∃ q, q = i + k := ⟨_, rfl⟩
      rw [← hq] at hj hjm
      have hqi : (i : Int) + (k : Int) = (q : Int) := by omega
      have SQ := fun w' => SL.out q y (by rw [HM.out]; exact hjm) (by rw [HY.out]; exact hqi) w'
      obtain rfl : z = 0 := HZ.out
      have HJ := Lib.hid hj; have HJM := Lib.hid hjm
      have hwf : (Lit.int .i64 x1).wf = true := WalkArith.wf_i64 (by unfold Cd.InR at hin; omega)
      have P := Lib.hid (fun (w' : World) (g : Below w.heap.size w w')  => cputint_any x1 (L.take i) _ _ hwf (by rw [List.length_take]; omega) (HT.out w' g i IL.out))
      skip
      rw [hj] at P
      clear htk hkl hk0 hj hjm hq hqi hLL hin  
      refine wp_region_seq [(0, true), (1, true), (2, true), (3, true), (4, true), (5, true), (6, true), (9, true), (10, true), (11, true), (12, true), (7, false), (8, true), (13, true), (14, true)] (by kernel_rfl) (by kernel_rfl) (by kernel_rfl) (by kernel_rfl) ?_
      iterate 10 (refine wpSeq_pure (v := ?_) rfl (by rfl) (fun w' hw' => ?_) ?_; rotate_left; (focus (go_simp; try with_reducible rfl)); try simp only [Act.put, List.setIfInBounds_toArray, List.set_cons_zero, List.set_cons_succ])
      (refine wpSeq_pure (v := ?_) rfl (by rfl) (fun w' hw' => ?_) ?_; rotate_left; (focus (have kk := conv_any _ _ _ (HT.out w' (B1.out.trans ((Below.refl _ _).drew.trans hw' |>.mono B1.out.size)) q HJM.out); go_simp; try with_reducible rfl)); try simp only [Act.put, List.setIfInBounds_toArray, List.set_cons_zero, List.set_cons_succ])
      refine wpSeq_call rfl (fun K' hK => ?_)
      go_simp
      go_at_call 15
      refine (P.out _ (B1.out.drew)).mono ?_; rintro e wp ⟨vp, rfl, op, bp⟩
      refine hK.out _ _ bp ?_
      clear hK K'
      try simp only [Act.put, List.setIfInBounds_toArray, List.set_cons_zero, List.set_cons_succ]
      have OP := Lib.hid op; have BP := Lib.hid (B1.out.drew.trans (bp.mono B1.out.drew.size)); clear op bp
      (refine wpSeq_pure (v := ?_) rfl (by rfl) (fun w' hw' => ?_) ?_; rotate_left; (focus (have kk := conv_any _ _ _ ((OP.out.below hw' (Nat.le_refl _)).wide hw'.size); go_simp; try with_reducible rfl)); try simp only [Act.put, List.setIfInBounds_toArray, List.set_cons_zero, List.set_cons_succ])
      iterate 2 (refine wpSeq_pure (v := ?_) rfl (by rfl) (fun w' hw' => ?_) ?_; rotate_left; (focus (go_simp; try with_reducible rfl)); try simp only [Act.put, List.setIfInBounds_toArray, List.set_cons_zero, List.set_cons_succ])
      refine wpSeq_nil ?_
      go_wp2_with fail
      go_meet
      exact ⟨rfl, BP.out⟩
  obtain ⟨rfl, hb⟩ := hcut
  have B1 := Lib.hid hb
  clear hb
  go_wp2_with fail
  refine (C2.out _ B1.out).mono ?_; rintro e w2 h
  obtain ⟨ad, md, cd, y, z, rfl, od, HY, HZ, b⟩ := h.letters
  have B2 := Lib.hid (B1.out.trans (b.mono B1.out.size)); have OD := Lib.hid od; clear b od h
  go_wp2_with fail
  go_cut [70] (fun s wx => s = .bool false ∧ Below w.heap.size w wx)
  case first =>
    cases r2 with
    | bad c =>
      have hc := Cd.getB_bad R2.out.symm
      have t2 : (z == 0) = false := by rw [HZ.out]; show ((c : Int) == 0) = false; simp; omega
      clear hc
      refine wp_region_seq [(0, true), (1, true), (2, true), (3, true), (4, true), (5, true), (6, true), (9, true), (10, true), (11, true), (12, true), (7, false), (8, true), (13, true), (14, true)] (by kernel_rfl) (by kernel_rfl) (by kernel_rfl) (by kernel_rfl) ?_
      iterate 3 (refine wpSeq_pure (v := ?_) rfl (by rfl) (fun w' hw' => ?_) ?_; rotate_left; (focus (go_simp; try with_reducible rfl)); try simp only [Act.put, List.setIfInBounds_toArray, List.set_cons_zero, List.set_cons_succ])
      iterate 8 (refine wpSeq_skip rfl (by rfl) ?_; try simp only [Act.put, List.setIfInBounds_toArray, List.set_cons_zero, List.set_cons_succ])
      refine wpSeq_call rfl (fun K' hK => ?_)
      go_simp
      refine hK.out _ _ (Below.refl _ _) ?_
      clear hK K'
      try simp only [Act.put, List.setIfInBounds_toArray, List.set_cons_zero, List.set_cons_succ]
      iterate 2 (refine wpSeq_skip rfl (by rfl) ?_; try simp only [Act.put, List.setIfInBounds_toArray, List.set_cons_zero, List.set_cons_succ])
      (refine wpSeq_pure (v := ?_) rfl (by rfl) (fun w' hw' => ?_) ?_; rotate_left; (focus (go_simp; try with_reducible rfl)); try simp only [Act.put, List.setIfInBounds_toArray, List.set_cons_zero, List.set_cons_succ])
      refine wpSeq_nil ?_
      go_wp2_with fail
      go_meet
      exact ⟨rfl, B2.out.drew⟩
    | ok n k =>
      have hLL := HL.out
      obtain ⟨hin, hk0, hkl, htk⟩ := Cd.getB_inv R2.out.symm
      skip
      have hnl : n.length ≤ 100 := by have := congrArg List.length htk; rw [List.length_take, Cd.putB_len, List.length_drop] at this; omega
      rw [List.length_drop] at hkl
      have hjm : i + k ≤ L.length := by have := IL.out; omega
      have hj := Cd.take_join L i k _ htk
      obtain ⟨q, hq⟩ : ∃ q, q = i + k := ⟨_, rfl⟩
      rw [← hq] at hj hjm
      have hqi : (i : Int) + (k : Int) = (q : Int) := by omega
      have SQ := fun w' => SL.out q y (by rw [HM.out]; exact hjm) (by rw [HY.out]; exact hqi) w'
      obtain rfl : z = 0 := HZ.out
      have HJ := Lib.hid hj; have HJM := Lib.hid hjm
      have od2f := Lib.hid fun (w' : World) (g : Below w2.heap.size w2 w') => (OD.out.below g (Nat.le_refl _)).wide g.size
      have P := Lib.hid (fun (w' : World) (g : Below w.heap.size w w') (g2 : Below w2.heap.size w2 w') => cputbytes_any (L.take i) n _ _ _ (by rw [List.length_take]; omega) (by omega) (HT.out w' g i IL.out) (od2f.out w' g2))
      skip
      rw [hj] at P
      clear htk hkl hk0 hj hjm hq hqi hLL hin hnl 
      refine wp_region_seq [(0, true), (1, true), (2, true), (3, true), (4, true), (5, true), (6, true), (9, true), (10, true), (11, true), (12, true), (7, false), (8, true), (13, true), (14, true)] (by kernel_rfl) (by kernel_rfl) (by kernel_rfl) (by kernel_rfl) ?_
      iterate 10 (refine wpSeq_pure (v := ?_) rfl (by rfl) (fun w' hw' => ?_) ?_; rotate_left; (focus (go_simp; try with_reducible rfl)); try simp only [Act.put, List.setIfInBounds_toArray, List.set_cons_zero, List.set_cons_succ])
      (refine wpSeq_pure (v := ?_) rfl (by rfl) (fun w' hw' => ?_) ?_; rotate_left; (focus (have kk := conv_any _ _ _ (HT.out w' (B2.out.trans ((Below.refl _ _).drew.trans hw' |>.mono B2.out.size)) q HJM.out); go_simp; try with_reducible rfl)); try simp only [Act.put, List.setIfInBounds_toArray, List.set_cons_zero, List.set_cons_succ])
      refine wpSeq_call rfl (fun K' hK => ?_)
      go_simp
      go_at_call 16
      refine (P.out _ (B2.out.drew) ((Below.refl _ _).drew)).mono ?_; rintro e wp ⟨vp, rfl, op, bp⟩
      refine hK.out _ _ bp ?_
      clear hK K'
      try simp only [Act.put, List.setIfInBounds_toArray, List.set_cons_zero, List.set_cons_succ]
      have OP := Lib.hid op; have BP := Lib.hid (B2.out.drew.trans (bp.mono B2.out.drew.size)); clear op bp
      (refine wpSeq_pure (v := ?_) rfl (by rfl) (fun w' hw' => ?_) ?_; rotate_left; (focus (have kk := conv_any _ _ _ ((OP.out.below hw' (Nat.le_refl _)).wide hw'.size); go_simp; try with_reducible rfl)); try simp only [Act.put, List.setIfInBounds_toArray, List.set_cons_zero, List.set_cons_succ])
      iterate 2 (refine wpSeq_pure (v := ?_) rfl (by rfl) (fun w' hw' => ?_) ?_; rotate_left; (focus (go_simp; try with_reducible rfl)); try simp only [Act.put, List.setIfInBounds_toArray, List.set_cons_zero, List.set_cons_succ])
      refine wpSeq_nil ?_
      go_wp2_with fail
      go_meet
      exact ⟨rfl, BP.out⟩
  obtain ⟨rfl, hb⟩ := hcut
  have B2 := Lib.hid hb
  clear hb
  go_wp2_with fail
  refine (C3.out _ B2.out).mono ?_; rintro e w3 h
  obtain ⟨ad, md, cd, y, z, rfl, od, HY, HZ, b⟩ := h.letters
  have B3 := Lib.hid (B2.out.trans (b.mono B2.out.size)); have OD := Lib.hid od; clear b od h
  go_wp2_with fail
  go_cut [92] (fun s wx => s = .bool false ∧ Below w.heap.size w wx)
  case first =>
    cases r3 with
    | bad c =>
      have hc := Cd.getL_bad R3.out.symm
      have t2 : (z == 0) = false := by rw [HZ.out]; show ((c : Int) == 0) = false; simp; omega
      clear hc
      refine wp_region_seq [(0, true), (1, true), (2, true), (3, true), (4, true), (5, true), (6, true), (9, true), (10, true), (11, true), (12, true), (7, false), (8, true), (13, true), (14, true)] (by kernel_rfl) (by kernel_rfl) (by kernel_rfl) (by kernel_rfl) ?_
      iterate 3 (refine wpSeq_pure (v := ?_) rfl (by rfl) (fun w' hw' => ?_) ?_; rotate_left; (focus (go_simp; try with_reducible rfl)); try simp only [Act.put, List.setIfInBounds_toArray, List.set_cons_zero, List.set_cons_succ])
      iterate 8 (refine wpSeq_skip rfl (by rfl) ?_; try simp only [Act.put, List.setIfInBounds_toArray, List.set_cons_zero, List.set_cons_succ])
      refine wpSeq_call rfl (fun K' hK => ?_)
      go_simp
      refine hK.out _ _ (Below.refl _ _) ?_
      clear hK K'
      try simp only [Act.put, List.setIfInBounds_toArray, List.set_cons_zero, List.set_cons_succ]
      iterate 2 (refine wpSeq_skip rfl (by rfl) ?_; try simp only [Act.put, List.setIfInBounds_toArray, List.set_cons_zero, List.set_cons_succ])
      (refine wpSeq_pure (v := ?_) rfl (by rfl) (fun w' hw' => ?_) ?_; rotate_left; (focus (go_simp; try with_reducible rfl)); try simp only [Act.put, List.setIfInBounds_toArray, List.set_cons_zero, List.set_cons_succ])
      refine wpSeq_nil ?_
      go_wp2_with fail
      go_meet
      exact ⟨rfl, B3.out.drew⟩
    | ok n k =>
      have hLL := HL.out
      obtain ⟨hk0, hkl, htk, -, -⟩ := Cd.getL_inv R3.out.symm
      skip
      have hnl : n.length ≤ 100 := by (have := getL_many R3.out.symm; rw [List.length_drop] at this; omega)
      have hsb : (n.map bstr).map strB = n := strB_map n
      rw [List.length_drop] at hkl
      have hjm : i + k ≤ L.length := by have := IL.out; omega
      have hj := Cd.take_join L i k _ htk
      obtain ⟨q, hq⟩ : ∃ q, q = i + k := ⟨_, rfl⟩
      rw [← hq] at hj hjm
      have hqi : (i : Int) + (k : Int) = (q : Int) := by omega
      have SQ := fun w' => SL.out q y (by rw [HM.out]; exact hjm) (by rw [HY.out]; exact hqi) w'
      obtain rfl : z = 0 := HZ.out
      have HJ := Lib.hid hj; have HJM := Lib.hid hjm
      have od2f := Lib.hid fun (w' : World) (g : Below w3.heap.size w3 w') => (OD.out.below g (Nat.le_refl _)).wide g.size
      have P := Lib.hid (fun (w' : World) (g : Below w.heap.size w w') (g2 : Below w3.heap.size w3 w') => cputlist_any (L.take i) (n.map bstr) _ _ _ (by rw [List.length_map]; omega) (by rw [hsb, ← htk, List.length_take, List.length_take, List.length_drop]; omega) (HT.out w' g i IL.out) (od2f.out w' g2))
      simp only [hsb] at P
      rw [hj] at P
      clear htk hkl hk0 hj hjm hq hqi hLL  hnl hsb
      refine wp_region_seq [(0, true), (1, true), (2, true), (3, true), (4, true), (5, true), (6, true), (9, true), (10, true), (11, true), (12, true), (7, false), (8, true), (13, true), (14, true)] (by kernel_rfl) (by kernel_rfl) (by kernel_rfl) (by kernel_rfl) ?_
      iterate 10 (refine wpSeq_pure (v := ?_) rfl (by rfl) (fun w' hw' => ?_) ?_; rotate_left; (focus (go_simp; try with_reducible rfl)); try simp only [Act.put, List.setIfInBounds_toArray, List.set_cons_zero, List.set_cons_succ])
      (refine wpSeq_pure (v := ?_) rfl (by rfl) (fun w' hw' => ?_) ?_; rotate_left; (focus (have kk := conv_any _ _ _ (HT.out w' (B3.out.trans ((Below.refl _ _).drew.trans hw' |>.mono B3.out.size)) q HJM.out); go_simp; try with_reducible rfl)); try simp only [Act.put, List.setIfInBounds_toArray, List.set_cons_zero, List.set_cons_succ])
      refine wpSeq_call rfl (fun K' hK => ?_)
      go_simp
      go_at_call 20
      refine (P.out _ (B3.out.drew) ((Below.refl _ _).drew)).mono ?_; rintro e wp ⟨vp, rfl, op, bp⟩
      refine hK.out _ _ bp ?_
      clear hK K'
      try simp only [Act.put, List.setIfInBounds_toArray, List.set_cons_zero, List.set_cons_succ]
      have OP := Lib.hid op; have BP := Lib.hid (B3.out.drew.trans (bp.mono B3.out.drew.size)); clear op bp
      (refine wpSeq_pure (v := ?_) rfl (by rfl) (fun w' hw' => ?_) ?_; rotate_left; (focus (have kk := conv_any _ _ _ ((OP.out.below hw' (Nat.le_refl _)).wide hw'.size); go_simp; try with_reducible rfl)); try simp only [Act.put, List.setIfInBounds_toArray, List.set_cons_zero, List.set_cons_succ])
      iterate 2 (refine wpSeq_pure (v := ?_) rfl (by rfl) (fun w' hw' => ?_) ?_; rotate_left; (focus (go_simp; try with_reducible rfl)); try simp only [Act.put, List.setIfInBounds_toArray, List.set_cons_zero, List.set_cons_succ])
      refine wpSeq_nil ?_
      go_wp2_with fail
      go_meet
      exact ⟨rfl, BP.out⟩
  obtain ⟨rfl, hb⟩ := hcut
  have B3 := Lib.hid hb
  clear hb
  go_wp2_with fail
  refine (C4.out _ B3.out).mono ?_; rintro e w4 h
  obtain ⟨x1, y, z, rfl, HX, HY, HZ, b⟩ := h.letters
  have B4 := Lib.hid (B3.out.trans (b.mono B3.out.size)); clear b h
  go_wp2_with fail
  go_cut [114] (fun s wx => s = .bool false ∧ Below w.heap.size w wx)
  case first =>
    cases r4 with
    | bad c =>
      have hc := Cd.getD_bad R4.out.symm
      have t2 : (z == 0) = false := by rw [HZ.out]; show ((c : Int) == 0) = false; simp; omega
      clear hc
      refine wp_region_seq [(0, true), (1, true), (2, true), (3, true), (4, true), (5, true), (6, true), (9, true), (10, true), (11, true), (12, true), (7, false), (8, true), (13, true), (14, true)] (by kernel_rfl) (by kernel_rfl) (by kernel_rfl) (by kernel_rfl) ?_
      iterate 3 (refine wpSeq_pure (v := ?_) rfl (by rfl) (fun w' hw' => ?_) ?_; rotate_left; (focus (go_simp; try with_reducible rfl)); try simp only [Act.put, List.setIfInBounds_toArray, List.set_cons_zero, List.set_cons_succ])
      iterate 8 (refine wpSeq_skip rfl (by rfl) ?_; try simp only [Act.put, List.setIfInBounds_toArray, List.set_cons_zero, List.set_cons_succ])
      refine wpSeq_call rfl (fun K' hK => ?_)
      go_simp
      refine hK.out _ _ (Below.refl _ _) ?_
      clear hK K'
      try simp only [Act.put, List.setIfInBounds_toArray, List.set_cons_zero, List.set_cons_succ]
      iterate 2 (refine wpSeq_skip rfl (by rfl) ?_; try simp only [Act.put, List.setIfInBounds_toArray, List.set_cons_zero, List.set_cons_succ])
      (refine wpSeq_pure (v := ?_) rfl (by rfl) (fun w' hw' => ?_) ?_; rotate_left; (focus (go_simp; try with_reducible rfl)); try simp only [Act.put, List.setIfInBounds_toArray, List.set_cons_zero, List.set_cons_succ])
      refine wpSeq_nil ?_
      go_wp2_with fail
      go_meet
      exact ⟨rfl, B4.out.drew⟩
    | ok n k =>
      have hLL := HL.out
      obtain ⟨rfl, hkl, htk⟩ := Cd.getD_inv R4.out.symm
      have hk0 : 0 < 8 := by omega
      obtain rfl := show x1 = uv n from HX.out
      skip
      rw [List.length_drop] at hkl
      have hjm : i + 8 ≤ L.length := by have := IL.out; omega
      have hj := Cd.take_join L i 8 _ htk
      obtain ⟨q, hq⟩ : ∃ q, q = i + 8 := ⟨_, rfl⟩
      rw [← hq] at hj hjm
      have hqi : (i : Int) + ((8 : Nat) : Int) = (q : Int) := by omega
      have SQ := fun w' => SL.out q y (by rw [HM.out]; exact hjm) (by rw [HY.out]; exact hqi) w'
      obtain rfl : z = 0 := HZ.out
      have HJ := Lib.hid hj; have HJM := Lib.hid hjm
      have P := Lib.hid (fun (w' : World) (g : Below w.heap.size w w')  => cputdigest_any n (L.take i) _ _ (by rw [List.length_take]; omega) (HT.out w' g i IL.out))
      skip
      rw [hj] at P
      clear htk hkl hk0 hj hjm hq hqi hLL   
      refine wp_region_seq [(0, true), (1, true), (2, true), (3, true), (4, true), (5, true), (6, true), (9, true), (10, true), (11, true), (12, true), (7, false), (8, true), (13, true), (14, true)] (by kernel_rfl) (by kernel_rfl) (by kernel_rfl) (by kernel_rfl) ?_
      iterate 10 (refine wpSeq_pure (v := ?_) rfl (by rfl) (fun w' hw' => ?_) ?_; rotate_left; (focus (go_simp; try with_reducible rfl)); try simp only [Act.put, List.setIfInBounds_toArray, List.set_cons_zero, List.set_cons_succ])
      (refine wpSeq_pure (v := ?_) rfl (by rfl) (fun w' hw' => ?_) ?_; rotate_left; (focus (have kk := conv_any _ _ _ (HT.out w' (B4.out.trans ((Below.refl _ _).drew.trans hw' |>.mono B4.out.size)) q HJM.out); go_simp; try with_reducible rfl)); try simp only [Act.put, List.setIfInBounds_toArray, List.set_cons_zero, List.set_cons_succ])
      refine wpSeq_call rfl (fun K' hK => ?_)
      go_simp
      go_at_call 18
      refine (P.out _ (B4.out.drew)).mono ?_; rintro e wp ⟨vp, rfl, op, bp⟩
      refine hK.out _ _ bp ?_
      clear hK K'
      try simp only [Act.put, List.setIfInBounds_toArray, List.set_cons_zero, List.set_cons_succ]
      have OP := Lib.hid op; have BP := Lib.hid (B4.out.drew.trans (bp.mono B4.out.drew.size)); clear op bp
      (refine wpSeq_pure (v := ?_) rfl (by rfl) (fun w' hw' => ?_) ?_; rotate_left; (focus (have kk := conv_any _ _ _ ((OP.out.below hw' (Nat.le_refl _)).wide hw'.size); go_simp; try with_reducible rfl)); try simp only [Act.put, List.setIfInBounds_toArray, List.set_cons_zero, List.set_cons_succ])
      iterate 2 (refine wpSeq_pure (v := ?_) rfl (by rfl) (fun w' hw' => ?_) ?_; rotate_left; (focus (go_simp; try with_reducible rfl)); try simp only [Act.put, List.setIfInBounds_toArray, List.set_cons_zero, List.set_cons_succ])
      refine wpSeq_nil ?_
      go_wp2_with fail
      go_meet
      exact ⟨rfl, BP.out⟩
  obtain ⟨rfl, hb⟩ := hcut
  have B4 := Lib.hid hb
  clear hb
  go_wp2_with fail
  refine (awake_any _).mono ?_; rintro e w9 ⟨rfl, b⟩
  have B9 := Lib.hid (B4.out.trans (b.mono B4.out.size))
  clear b
  go_wp2_with fail
  go_ret
  exact ⟨rfl, B9.out⟩
end Go.Proofs.Ytkckimhkbnigkaa
