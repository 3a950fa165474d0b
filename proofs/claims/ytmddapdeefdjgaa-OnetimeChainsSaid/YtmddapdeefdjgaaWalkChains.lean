/-
  The laws of chains (OnetimeChains) and of signatures (OnetimeSigns) return true. No condition.
-/
import Derived.Test.YtmddapdeefdjgaaWalkKeys
namespace Go.Proofs.Ytmddapdeefdjgaa
open Go.ChangeShapes Go.WideShapes Go.ChangeAt Go.RowKit
open Dg (W B)
theorem recover_one (s d z : W) (q : Nat) (hq : q < 18) : (uv (Ot.recover d ((Ot.sign s d).set q z)) == uv (Ot.publicW s)) = decide ((Ot.sign s d).getD q 0 = z) := by
  rw [word_eq, decide_eq_decide, ← Ot.recover_sign s d, Ot.recover_set d _ q z hq (Ot.sign_len s d)]
namespace onetimeChains
set_option maxRecDepth 100000 in
set_option maxHeartbeats 1000000 in
theorem walk (w : World) (a0 : Int) (w0 : (Lit.int .u64 a0).wf = true) (a1 : Int) (w1 : (Lit.int .u64 a1).wf = true) (a2 : Int) (w2 : (Lit.int .u64 a2).wf = true) (a3 : Int) (w3 : (Lit.int .i64 a3).wf = true) (a4 : Int) (w4 : (Lit.int .i64 a4).wf = true) (a5 : Int) (w5 : (Lit.int .i64 a5).wf = true) :
    Calls Try.prog 6 #[.int .u64 a0, .int .u64 a1, .int .u64 a2, .int .i64 a3, .int .i64 a4, .int .i64 a5] w fun e w' => e = .returned (.bool true) ∧ Below w.heap.size w w' := by
  obtain ⟨s, rfl⟩ := uv_of_wf a0 w0
  obtain ⟨d, rfl⟩ := uv_of_wf a1 w1
  obtain ⟨z, rfl⟩ := uv_of_wf a2 w2
  obtain ⟨q, hq, hq2⟩ := mod_nat a3 18 (by omega)
  obtain ⟨n, hn, hn2⟩ := mod_nat a4 8 (by omega)
  obtain ⟨m, hm, hm2⟩ := mod_nat a5 8 (by omega)
  have HQ := Lib.hid hq; have HN := Lib.hid hn; have HM := Lib.hid hm
  clear hq hn hm
  have he := Ot.steps_add d (Ot.num q) 0 n m
  rw [Nat.zero_add] at he
  have HE := Lib.hid he; clear he
  have r1 := recover_one s d z q hq2
  have h18 := Ot.sign_len s d
  generalize hS : Ot.sign s d = S at r1 h18
  generalize hP : Ot.publicW s = P at r1
  generalize hR : Ot.recover d (S.set q z) = R at r1
  have HS := Lib.hid hS; have HP := Lib.hid hP; have HR := Lib.hid hR; have H18 := Lib.hid h18
  clear hS hP hR h18
  go_enter Try.func6, Try.ntmps6
  go_wp2_with fail
  refine (mod_to _ _ q HQ.out _ w3 (by omega) (by omega)).mono ?_; rintro e w' ⟨rfl, rfl⟩
  go_wp2_with fail
  refine (mod_to _ _ n HN.out _ w4 (by omega) (by omega)).mono ?_; rintro e w' ⟨rfl, rfl⟩
  go_wp2_with fail
  refine (mod_to _ _ m HM.out _ w5 (by omega) (by omega)).mono ?_; rintro e w' ⟨rfl, rfl⟩
  go_wp2_with fail
  refine (step_num d q 0 n 0 n rfl (by omega) rfl (by omega) _).mono ?_; rintro e wa ⟨rfl, ba⟩
  have BA := Lib.hid ba; clear ba
  go_wp2_with fail
  refine (step_num _ q n m n m rfl (by omega) rfl (by omega) _).mono ?_; rintro e wb ⟨rfl, bb⟩
  have BB := Lib.hid (BA.out.trans (bb.mono BA.out.size)); clear bb
  rw [HE.out]
  go_wp2_with fail
  refine (step_num d q 0 ((n : Int) + m) 0 (n + m) rfl (by omega) (by omega) (by omega) _).mono ?_; rintro e wc ⟨rfl, bc⟩
  have BC := Lib.hid (BB.out.trans (bc.mono BB.out.size)); clear bc
  go_wp2_with fail
  refine (sign_to s d _ _ rfl rfl _).mono ?_; rintro e wd ⟨pd, cap, rfl, od, bd⟩
  rw [HS.out] at od
  have BD := Lib.hid (BC.out.trans (bd.mono BC.out.size))
  obtain ⟨g, cap', hv, hg1, hg2, hcap', hcl⟩ := od
  have hS18 := H18.out
  simp only [Value.slice.injEq] at hv
  obtain ⟨rfl, hx, rfl⟩ := hv
  clear hx
  have hcap : 18 ≤ cap := by omega
  have hcell : ∀ i, i < 18 → wd.cell? ⟨g, i, none⟩ = (S.map wval)[i]? := fun i hi => by rw [(hcl i (by omega)).1]; simp [show i < S.length by omega]
  have hfz := (hcl q (by omega)).2
  clear hcl hcap'
  have hq4 : wd.cell? ⟨g, q, none⟩ = some (.int .u64 (uv (S.getD q 0))) := by rw [hcell q hq2]; have := H18.out; simp [wval, List.getD, show q < S.length by omega]
  obtain ⟨we, hwe⟩ : ∃ we, we = wd.setCell ⟨g, q, none⟩ (.int .u64 (uv z)) := ⟨_, rfl⟩
  have hset : HasW we wd.heap.size (.slice (some ⟨g, 0, none⟩) 18 cap) (S.set q z) := by rw [hwe]; exact set_has H18.out.symm hcap hg2 hq2 hcell
  have be : Below w.heap.size w we := by rw [hwe]; exact BD.out.setCell (by have := BC.out.size; exact Nat.le_trans this hg1) _
  have hsz : we.heap.size = wd.heap.size := by rw [hwe]; simp
  have RC := Lib.hid (recover_to d (S.set q z) _ rfl _ we (by rw [List.length_set]; exact H18.out) (hset.wide (by rw [hsz]; exact Nat.le_refl _)))
  have BE := Lib.hid be; have WE := Lib.hid hwe
  have t1 := word_eq (S.getD q 0) z
  generalize S.getD q 0 = y at hq4 r1 t1
  generalize decide (y = z) = c at r1 t1
  clear bd hcell hset be hwe hsz hS18
  go_wp2_with fail
  rw [← WE.out]
  refine (RC.out).mono ?_; rintro e wf ⟨rfl, bf⟩
  rw [HR.out]
  have BF := Lib.hid (BE.out.trans (bf.mono BE.out.size)); clear bf
  go_wp2_with fail
  refine (public_to s _ rfl _).mono ?_; rintro e wg ⟨rfl, bg⟩
  rw [HP.out]
  have BG := Lib.hid (BF.out.trans (bg.mono BF.out.size)); clear bg
  go_wp2_with fail
  refine (awake_any _).mono ?_; rintro e w6 ⟨rfl, hb6⟩
  have B6 := Lib.hid (BG.out.trans (hb6.mono BG.out.size)); clear hb6
  go_wp2_with fail
  go_ret
  exact ⟨rfl, B6.out⟩
end onetimeChains
namespace onetimeSigns
set_option maxRecDepth 100000 in
set_option maxHeartbeats 1000000 in
theorem walk (w : World) (a0 : Int) (w0 : (Lit.int .u64 a0).wf = true) (a1 : Int) (w1 : (Lit.int .u64 a1).wf = true) (a2 : Int) (w2 : (Lit.int .u8 a2).wf = true) :
    Calls Try.prog 4 #[.int .u64 a0, .int .u64 a1, .int .u8 a2] w fun e w' => e = .returned (.bool true) ∧ Below w.heap.size w w' := by
  obtain ⟨s, rfl⟩ := uv_of_wf a0 w0
  obtain ⟨d, rfl⟩ := uv_of_wf a1 w1
  have hb8 := bounds_u8 w2
  obtain ⟨b, hb, hb2⟩ := bit_of a2 w2
  have hf := flip_int d b hb2
  obtain ⟨y, hy⟩ : ∃ y, flip d b = y := ⟨_, rfl⟩
  rw [hy] at hf
  clear hy
  have R1 := Lib.hid (Ot.recover_sign s d)
  have R2 := Lib.hid (Ot.recover_sign s y)
  have L1 := Lib.hid (Ot.sign_len s d)
  have L2 := Lib.hid (Ot.sign_len s y)
  go_enter Try.func4, Try.ntmps4
  go_wp2_with fail
  refine (sign_to s d _ _ rfl rfl _).mono ?_; rintro e wa ⟨pa, ca, rfl, oa, ba⟩
  have OA := Lib.hid oa; have BA := Lib.hid ba; clear oa ba
  go_wp2_with fail
  refine (recover_to d _ _ rfl _ _ L1.out OA.out.has).mono ?_; rintro e wb ⟨rfl, bb⟩
  rw [R1.out]
  have BB := Lib.hid (BA.out.trans (bb.mono BA.out.size)); have OB := Lib.hid (OA.out.below bb); clear bb
  go_wp2_with fail
  refine (public_to s _ rfl _).mono ?_; rintro e wc ⟨rfl, bc⟩
  have BC := Lib.hid (BB.out.trans (bc.mono BB.out.size)); have OC := Lib.hid (OB.out.below bc); clear bc
  go_wp2_with fail
  refine (sign_to s y _ _ rfl rfl _).mono ?_; rintro e wd ⟨pd, cd, rfl, od, bd⟩
  have BD := Lib.hid (BC.out.trans (bd.mono BC.out.size)); have OD := Lib.hid (OC.out.below bd); have QD := Lib.hid od; clear bd od
  go_wp2_with fail
  refine (recover_to y _ _ rfl _ _ L2.out QD.out.has).mono ?_; rintro e we ⟨rfl, be⟩
  rw [R2.out]
  have BE := Lib.hid (BD.out.trans (be.mono BD.out.size)); have OE := Lib.hid (OD.out.below be); have QE := Lib.hid (QD.out.below be); clear be
  go_wp2_with fail
  refine (same_any (Ot.sign s d) (Ot.sign s y) _ _ _ _ _ (by rw [L1.out]; omega) OE.out.has QE.out.has).mono ?_; rintro e w' ⟨rfl, rfl⟩
  obtain ⟨c, hc⟩ : ∃ c, decide (Ot.sign s d = Ot.sign s y) = c := ⟨_, rfl⟩
  rw [hc]
  have HC := Lib.hid hc; clear hc
  go_wp2_with fail
  refine (rsign_to s d _).mono ?_; rintro e wf ⟨pf, cf, rfl, of, bf⟩
  have BF := Lib.hid (BE.out.trans (bf.mono BE.out.size)); have OF := Lib.hid of; clear bf of
  go_wp2_with fail
  refine (rsign_to s y _).mono ?_; rintro e wg ⟨pg, cg, rfl, og, bg⟩
  have BG := Lib.hid (BF.out.trans (bg.mono BF.out.size)); have OG := Lib.hid og; have OFG := Lib.hid (OF.out.below bg); clear bg og
  go_wp2_with fail
  refine (same_any (Ot.sign s d) (Ot.sign s y) _ _ _ _ _ (by rw [L1.out]; omega) OFG.out.has OG.out.has).mono ?_; rintro e w' ⟨rfl, rfl⟩
  rw [HC.out]
  go_wp2_with fail
  refine (awake_any _).mono ?_; rintro e w6 ⟨rfl, hb6⟩
  have B6 := Lib.hid (BG.out.trans (hb6.mono BG.out.size)); clear hb6
  go_wp2_with fail
  go_ret
  exact ⟨rfl, B6.out⟩
end onetimeSigns
end Go.Proofs.Ytmddapdeefdjgaa
