/-
  The texts of messages, by package message. Nothing that was there has changed. Condition: the tables hold what their initialisers lay.
-/
import Derived.Test.YtgkckomccabmlaaGreatDoorMvOa
namespace Go.Proofs.YtgkckomccabmlaaGreatDoor
open Go.ChangeShapes Go.WideShapes Go.ChangeAt Go.RowKit
open Dg (W B)
open Ms (Msg)
set_option linter.unusedVariables false
set_option maxRecDepth 100000 in
set_option maxHeartbeats 8000000 in
theorem mof_some (kn : Nat) (hk : 1 ≤ kn ∧ kn ≤ 12) (epoch inst round bit : Int) (root : W) (len : Int) (dv pv : Value) (w : World) (h1 : Cd.InR epoch) (h2 : Cd.InR inst) (h3 : Cd.InR round) (h4 : Cd.InR bit) (ht : Tab w) :
    Calls Tryz.prog 15 #[.agg #[.int .i64 (kn : Int), .int .i64 epoch, .int .i64 inst, .int .i64 round, .int .i64 bit, .int .u64 (uv root), .int .i64 len, dv, pv]] w fun e w' => e = .returned (.string (Ms.text kn epoch inst round bit)) ∧ Below w.heap.size w w' := by
  have b0 : Below w.heap.size w (w.alloc (.cells #[.int .i64 (kn : Int), .int .i64 epoch, .int .i64 inst, .int .i64 round, .int .i64 bit, .int .u64 (uv root), .int .i64 len, dv, pv] 27)) := (Below.refl _ _).alloc (Nat.le_refl _) _
  have R := Lib.hid (RecN.new w #[.int .i64 (kn : Int), .int .i64 epoch, .int .i64 inst, .int .i64 round, .int .i64 bit, .int .u64 (uv root), .int .i64 len, dv, pv] 27)
  have TT := Lib.hid (ht.below b0)
  have BB := Lib.hid b0
  have BT := Lib.hid (show 1 < w.heap.size + 1 ∧ 0 < w.heap.size + 1 from ⟨Nat.lt_succ_of_lt ht.pow.lt, Nat.lt_succ_of_lt ht.kinds.1⟩)
  have CK := Lib.hid (show ∀ w', Calls Tryz.prog 28 #[.int .i64 (kn : Int)] w' fun e w'' => e = .returned (.bool true) ∧ w' = w'' by
    intro w'
    have := iskind_any (kn : Int) w'
    rw [show btw (kn : Int) 1 12 = true by unfold btw; rw [decide_eq_true (by omega), decide_eq_true (by omega)]; rfl] at this
    exact this)
  have CR := Lib.hid fun (w' : World) (h : Tab w') => has_any kn hk epoch inst round bit root len dv pv 1 w' h
  rw [hasF_round hk] at CR
  have C1 := Lib.hid fun w' (h : Tab w') => itoa_any epoch w' h1 h
  have C2 := Lib.hid fun w' (h : Tab w') => itoa_any inst w' h2 h
  have C3 := Lib.hid fun w' (h : Tab w') => itoa_any round w' h3 h
  have C4 := Lib.hid fun w' (h : Tab w') => itoa_any bit w' h4 h
  have sz1 := istr_size h1; have sz2 := istr_size h2; have sz3 := istr_size h3; have sz4 := istr_size h4
  have sz0 := Ms.name_size kn
  have PS := Lib.hid fun fr fb => parts_size fr fb (istr epoch) (istr inst) (istr round) (istr bit) sz1 sz2 sz3 sz4
  have HTX := Lib.hid (text_parts kn epoch inst round bit)
  obtain ⟨TX, hTX⟩ : ∃ TX, TX = Ms.text kn epoch inst round bit := ⟨_, rfl⟩
  rw [← hTX] at HTX ⊢
  generalize istr epoch = E at C1 PS HTX sz1
  generalize istr inst = I at C2 PS HTX sz2
  generalize istr round = Rn at C3 PS HTX sz3
  generalize istr bit = Bt at C4 PS HTX sz4
  have HN := Lib.hid fun (w' : World) (h : Tab w') => (h.kinds.2 kn (by omega)).1
  obtain ⟨A0, hA0⟩ : ∃ A, A = Ms.name kn := ⟨_, rfl⟩
  rw [← hA0] at HN HTX sz0
  obtain ⟨l, hlo⟩ : ∃ l, lo kn = l := ⟨_, rfl⟩
  obtain ⟨g, hhi⟩ : ∃ g, hi kn = g := ⟨_, rfl⟩
  obtain ⟨fb, hfb⟩ : ∃ b, Ms.fBit kn = b := ⟨_, rfl⟩
  rw [hfb] at HTX
  generalize Ms.fRound kn = fr at CR HTX
  have k13I : (kn : Int) < 13 := by omega
  have k0I : (0 : Int) ≤ (kn : Int) := by omega
  have k13 : kn < 13 := by omega
  clear hTX hA0 ht b0 h1 h2 h3 h4 sz1 sz2 sz3 sz4
  have x0 := R.out.c 0 rfl
  go_enter Tryz.func15, Tryz.ntmps15
  go_wp2_with fail
  refine (CK.out _).mono ?_; rintro e w' ⟨rfl, rfl⟩
  go_wp2_with fail
  have x1 : (w.alloc (.cells #[.int .i64 (kn : Int), .int .i64 epoch, .int .i64 inst, .int .i64 round, .int .i64 bit, .int .u64 (uv root), .int .i64 len, dv, pv] 27)).drew.cell? _ = some _ := R.out.c 1 rfl
  have x2 : (w.alloc (.cells #[.int .i64 (kn : Int), .int .i64 epoch, .int .i64 inst, .int .i64 round, .int .i64 bit, .int .u64 (uv root), .int .i64 len, dv, pv] 27)).drew.cell? _ = some _ := R.out.c 2 rfl
  refine wp_region_seq [(0, true), (1, true), (3, true), (4, true), (2, false), (5, false), (6, false), (7, true)] (by kernel_rfl) (by kernel_rfl) (by kernel_rfl) (by kernel_rfl) ?_
  iterate 4 (refine wpSeq_pure (v := ?_) rfl (by rfl) (fun w' hw' => ?_) ?_; rotate_left; (focus (have y1 := kept hw' x1; have y2 := kept hw' x2; go_simp; try with_reducible rfl)); try simp only [Act.put, List.setIfInBounds_toArray, List.set_cons_zero, List.set_cons_succ])
  refine wpSeq_call rfl (fun K' hK => ?_)
  go_simp
  go_at_call 32
  refine (C1.out _ TT.out.drew).mono ?_; rintro e w1 ⟨rfl, b1⟩
  refine hK.out _ _ b1 ?_
  clear hK K'
  try simp only [Act.put, List.setIfInBounds_toArray, List.set_cons_zero, List.set_cons_succ]
  have R1 := Lib.hid ((show RecN (w.alloc (.cells #[.int .i64 (kn : Int), .int .i64 epoch, .int .i64 inst, .int .i64 round, .int .i64 bit, .int .u64 (uv root), .int .i64 len, dv, pv] 27)).drew w.heap.size _ from R.out).below b1 R.out.1); have T1 := Lib.hid (TT.out.drew.below b1); have B1 := Lib.hid (BB.out.drew.trans (b1.mono BB.out.size))
  clear b1 R TT BB x0 x1 x2
  refine wpSeq_call rfl (fun K' hK => ?_)
  go_simp
  go_at_call 32
  refine (C2.out _ T1.out).mono ?_; rintro e w2 ⟨rfl, b2⟩
  refine hK.out _ _ b2 ?_
  clear hK K'
  try simp only [Act.put, List.setIfInBounds_toArray, List.set_cons_zero, List.set_cons_succ]
  have R2 := Lib.hid (R1.out.below b2 R1.out.1); have T2 := Lib.hid (T1.out.below b2); have B2 := Lib.hid (B1.out.trans (b2.mono B1.out.size))
  clear b2 R1 T1 B1
  have OS0 := Lib.hid (built_ownS w2 (w.heap.size + 1) [E, I] #[.string E, .string I] rfl (by have := R2.out.1; omega) (by simp))
  have bw3 : Below w2.heap.size w2 (w2.alloc (.cells #[.string E, .string I] 9)) := (Below.refl _ _).alloc (Nat.le_refl _) _
  refine wpSeq_call rfl (fun K' hK => ?_)
  go_simp
  refine hK.out _ _ bw3 ?_
  clear hK K'
  try simp only [Act.put, List.setIfInBounds_toArray, List.set_cons_zero, List.set_cons_succ]
  have R3 := Lib.hid (R2.out.below bw3 R2.out.1); have T3 := Lib.hid (T2.out.below bw3); have B3 := Lib.hid (B2.out.trans (bw3.mono B2.out.size))
  obtain ⟨w3, hw3⟩ : ∃ w3, w3 = w2.alloc (.cells #[.string E, .string I] 9) := ⟨_, rfl⟩
  rw [← hw3] at OS0 R3 T3 B3 ⊢
  clear bw3 R2 T2 B2
  obtain ⟨n3, hn3⟩ : ∃ n, n = w2.heap.size := ⟨_, rfl⟩
  rw [← hn3] at OS0 ⊢
  clear hn3 hw3
  (refine wpSeq_pure (v := ?_) rfl (by rfl) (fun w' hw' => ?_) ?_; rotate_left; (focus (go_simp; try with_reducible rfl)); try simp only [Act.put, List.setIfInBounds_toArray, List.set_cons_zero, List.set_cons_succ])
  refine wpSeq_nil ?_
  have x0 := R3.out.c 0 rfl; have x1 := R3.out.c 1 rfl; have x2 := R3.out.c 2 rfl; have x3 := R3.out.c 3 rfl; have x4 := R3.out.c 4 rfl; have x5 := R3.out.c 5 rfl; have x6 := R3.out.c 6 rfl; have x7 := R3.out.c 7 rfl; have x8 := R3.out.c 8 rfl
  go_wp2_with fail
  refine (CR.out _ T3.out).mono ?_; rintro e w4 ⟨rfl, b4⟩
  have R4 := Lib.hid (R3.out.below b4 R3.out.1); have T4 := Lib.hid (T3.out.below b4); have B4 := Lib.hid (B3.out.trans (b4.mono B3.out.size)); have OS4 := Lib.hid (OS0.out.below b4)
  clear b4 R3 T3 B3 OS0 x0 x1 x2 x3 x4 x5 x6 x7 x8
  cases fr
  · skip
    have x0 := R4.out.c 0 rfl
    have hlt0 := R4.out.1
    go_upto_region 6 with fail
    go_cut [4, 5] (fun p b wx => b = .bool fb ∧ Below w4.heap.size w4 wx)
    case first =>
      refine wp_region_tree (R := Below w4.heap.size) ⟨fun _ => Below.refl _ _, fun h k => h.trans k⟩ (.read 1 (.read 2 (.two 0 (.two 3 (.read 4 (.read 5 (.read 6 (.call 7 (.call 8 (.read 9 .done)))))) 7 (.call 3 (.read 4 (.read 5 (.read 6 (.call 8 (.read 9 .done))))))) 7 (.call 0 (.call 3 (.read 4 (.read 5 (.read 6 (.call 8 (.read 9 .done)))))))))) (by kernel_rfl) (by kernel_rfl) (by kernel_rfl) (by kernel_rfl) ?_
      iterate 2 (refine wpTree_read (v := ?_) rfl (by rfl) (fun w' hw' => ?_) ?_; rotate_left; (focus (have z0 : w'.cell? _ = some _ := (hw'.cell (p := ⟨w.heap.size, 0, none⟩) hlt0).trans x0; go_simp; try with_reducible rfl)); try simp only [Act.put, List.setIfInBounds_toArray, List.set_cons_zero, List.set_cons_succ])
      refine wpTree_two ?_ ?_
      · skip
        refine wpTree_call rfl (fun K' hK => ?_)
        go_simp
        go_at_call 34
        refine (bits_any _).mono ?_; rintro e v1 ⟨mb, rfl, om, b1⟩
        refine hK.out _ _ (b1.mono (Nat.le_refl _)) ?_
        clear hK K'
        try simp only [Act.put, List.setIfInBounds_toArray, List.set_cons_zero, List.set_cons_succ]
        have OM := Lib.hid om; have C1 := Lib.hid (show Below w4.heap.size _ _ from b1.mono (Nat.le_refl _)); clear om b1
        have hs1 : w4.heap.size ≤ v1.heap.size := C1.out.size
        refine wpTree_two ?_ ?_
        · skip
          refine wpTree_call rfl (fun K' hK => ?_)
          have hrun := look_bits v1 mb OM.out kn hk l g fb hlo hhi hfb
          go_simp
          refine hK.out _ _ (Below.refl _ _) ?_
          clear hK K'
          try simp only [Act.put, List.setIfInBounds_toArray, List.set_cons_zero, List.set_cons_succ]
          iterate 3 (refine wpTree_read (v := ?_) rfl (by rfl) (fun w' hw' => ?_) ?_; rotate_left; (focus (go_simp; try with_reducible rfl)); try simp only [Act.put, List.setIfInBounds_toArray, List.set_cons_zero, List.set_cons_succ])
          refine wpTree_call rfl (fun K' hK => ?_)
          go_simp
          refine hK.out _ _ ((Below.refl _ _).alloc hs1 _) ?_
          clear hK K'
          try simp only [Act.put, List.setIfInBounds_toArray, List.set_cons_zero, List.set_cons_succ]
          refine wpTree_call rfl (fun K' hK => ?_)
          go_simp
          refine hK.out _ _ (below_pair v1 _ _ hs1) ?_
          clear hK K'
          try simp only [Act.put, List.setIfInBounds_toArray, List.set_cons_zero, List.set_cons_succ]
          (refine wpTree_read (v := ?_) rfl (by rfl) (fun w' hw' => ?_) ?_; rotate_left; (focus (go_simp; try with_reducible rfl)); try simp only [Act.put, List.setIfInBounds_toArray, List.set_cons_zero, List.set_cons_succ])
          refine wpTree_nil ?_
          go_wp2_with fail
          go_meet
          exact ⟨rfl, ((Below.refl _ _).drew.trans C1.out).alloc hs1 _⟩
        · skip
          refine wpTree_call rfl (fun K' hK => ?_)
          go_simp
          refine hK.out _ _ ((Below.refl _ _).alloc hs1 _) ?_
          clear hK K'
          try simp only [Act.put, List.setIfInBounds_toArray, List.set_cons_zero, List.set_cons_succ]
          refine wpTree_call rfl (fun K' hK => ?_)
          have hrun := look_bits _ mb (ownsKept OM.out ((Below.refl _ _).alloc (Nat.le_refl _) (.cells #[.int .i64 0, .int .i64 0] 69))) kn hk l g fb hlo hhi hfb
          go_simp
          refine hK.out _ _ (Below.refl _ _) ?_
          clear hK K'
          try simp only [Act.put, List.setIfInBounds_toArray, List.set_cons_zero, List.set_cons_succ]
          iterate 3 (refine wpTree_read (v := ?_) rfl (by rfl) (fun w' hw' => ?_) ?_; rotate_left; (focus (go_simp; try with_reducible rfl)); try simp only [Act.put, List.setIfInBounds_toArray, List.set_cons_zero, List.set_cons_succ])
          refine wpTree_call rfl (fun K' hK => ?_)
          go_simp
          refine hK.out _ _ (below_pair v1 _ _ hs1) ?_
          clear hK K'
          try simp only [Act.put, List.setIfInBounds_toArray, List.set_cons_zero, List.set_cons_succ]
          (refine wpTree_read (v := ?_) rfl (by rfl) (fun w' hw' => ?_) ?_; rotate_left; (focus (go_simp; try with_reducible rfl)); try simp only [Act.put, List.setIfInBounds_toArray, List.set_cons_zero, List.set_cons_succ])
          refine wpTree_nil ?_
          go_wp2_with fail
          go_meet
          exact ⟨rfl, ((Below.refl _ _).drew.trans C1.out).alloc hs1 _⟩
      · skip
        have RZ := Lib.hid (RecN.new w4.drew #[.int .i64 0, .int .i64 0] 69)
        have HSZ := Lib.hid (show w4.heap.size ≤ (w4.drew.alloc (.cells #[.int .i64 0, .int .i64 0] 69)).heap.size from ((Below.refl w4.drew.heap.size w4.drew).alloc (Nat.le_refl _) (.cells #[.int .i64 0, .int .i64 0] 69)).size)
        refine wpTree_call rfl (fun K' hK => ?_)
        go_simp
        refine hK.out _ _ (show Below w4.heap.size w4.drew (w4.drew.alloc (.cells #[.int .i64 0, .int .i64 0] 69)) from (Below.refl w4.drew.heap.size w4.drew).alloc (Nat.le_refl _) _) ?_
        clear hK K'
        try simp only [Act.put, List.setIfInBounds_toArray, List.set_cons_zero, List.set_cons_succ]
        refine wpTree_call rfl (fun K' hK => ?_)
        go_simp
        go_at_call 34
        refine (bits_any _).mono ?_; rintro e v1 ⟨mb, rfl, om, b1⟩
        refine hK.out _ _ (b1.mono HSZ.out) ?_
        clear hK K'
        try simp only [Act.put, List.setIfInBounds_toArray, List.set_cons_zero, List.set_cons_succ]
        have OM := Lib.hid om; have RT1 := Lib.hid (show RecN v1 w4.heap.size _ from RZ.out.below b1 RZ.out.1)
        have C1 := Lib.hid ((((Below.refl w4.heap.size w4).drew.alloc (Nat.le_refl _) (.cells #[.int .i64 0, .int .i64 0] 69))).trans (b1.mono HSZ.out))
        clear om b1 RZ
        refine wpTree_call rfl (fun K' hK => ?_)
        have hrun := look_bits v1 mb OM.out kn hk l g fb hlo hhi hfb
        go_simp
        refine hK.out _ _ (Below.refl _ _) ?_
        clear hK K'
        try simp only [Act.put, List.setIfInBounds_toArray, List.set_cons_zero, List.set_cons_succ]
        iterate 3 (refine wpTree_read (v := ?_) rfl (by rfl) (fun w' hw' => ?_) ?_; rotate_left; (focus (go_simp; try with_reducible rfl)); try simp only [Act.put, List.setIfInBounds_toArray, List.set_cons_zero, List.set_cons_succ])
        have c0 := RT1.out.c 0 rfl; have c1x := RT1.out.c 1 rfl; have f0 := RT1.out.f 0 (by simp); have f1 := RT1.out.f 1 (by simp)
        refine wpTree_call rfl (fun K' hK => ?_)
        go_simp
        refine hK.out _ _ (((Below.refl _ _).setCell (p := ⟨w4.heap.size, 0, none⟩) (Nat.le_refl _) _).setCell (p := ⟨w4.heap.size, 1, none⟩) (Nat.le_refl _) _) ?_
        clear hK K'
        try simp only [Act.put, List.setIfInBounds_toArray, List.set_cons_zero, List.set_cons_succ]
        (refine wpTree_read (v := ?_) rfl (by rfl) (fun w' hw' => ?_) ?_; rotate_left; (focus (go_simp; try with_reducible rfl)); try simp only [Act.put, List.setIfInBounds_toArray, List.set_cons_zero, List.set_cons_succ])
        refine wpTree_nil ?_
        go_wp2_with fail
        go_meet
        exact ⟨rfl, (C1.out.setCell (p := ⟨w4.heap.size, 0, none⟩) (Nat.le_refl _) _).setCell (p := ⟨w4.heap.size, 1, none⟩) (Nat.le_refl _) _⟩
    case rest =>
      obtain ⟨rfl, bt⟩ := hcut
      have Rx := Lib.hid (R4.out.below bt R4.out.1); have Tx := Lib.hid (T4.out.below bt); have Bx := Lib.hid (B4.out.trans (bt.mono B4.out.size)); have OSx := Lib.hid (OS4.out.below bt)
      clear bt R4 T4 B4 OS4 x0 hlt0 hlo hhi hfb
      cases fb
      · skip
        have JL := Lib.hid (PS.out false false)
        have JS := Lib.hid (show (jstr ([E, I])).size ≤ 200 by rw [jstr_size]; exact JL.out)
        have JC := Lib.hid (join_any ([E, I]) _ wc.drew (show HasS wc.drew wc.drew.heap.size _ _ from OSx.out.has) (by simp) (by simp) JL.out)
        have HF := Lib.hid (show TX = A0 ++ { data := #[40] } ++ jstr ([E, I]) ++ { data := #[41] } from HTX.out)
        have x0 : wc.drew.cell? _ = some _ := Rx.out.c 0 rfl
        have xn : wc.drew.cell? _ = some _ := HN.out wc Tx.out
        obtain ⟨J, hJ⟩ : ∃ J, J = jstr ([E, I]) := ⟨_, rfl⟩
        rw [← hJ] at JS JC HF
        obtain ⟨A1, hA1⟩ : ∃ A, A = A0 ++ { data := #[40] } := ⟨_, rfl⟩
        obtain ⟨A2, hA2⟩ : ∃ A, A = A1 ++ J := ⟨_, rfl⟩
        have zA1 : A1.size = A0.size + 1 := by rw [hA1, ByteArray.size_append]; rfl
        have zA2 : A2.size = A1.size + J.size := by rw [hA2, ByteArray.size_append]
        have zJ := JS.out
        have k1 : ¬ 9223372036854775807 < A0.size + 1 := by omega
        have k2 : ¬ 9223372036854775807 < A1.size + J.size := by omega
        have k3 : ¬ 9223372036854775807 < A2.size + 1 := by omega
        rw [← hA1, ← hA2] at HF
        have r1 := hA1.symm; have r2 := hA2.symm
        clear zA1 zA2 zJ hJ hA1 hA2 JL JS
        go_wp2_with fail
        refine wp_region_seq [(0, true), (1, true), (2, true), (3, true), (4, true), (5, true), (6, true), (7, false), (8, true), (9, true), (10, true)] (by kernel_rfl) (by kernel_rfl) (by kernel_rfl) (by kernel_rfl) ?_
        iterate 7 (refine wpSeq_pure (v := ?_) rfl (by rfl) (fun w' hw' => ?_) ?_; rotate_left; (focus (have y0 := kept hw' x0; have yn := kept hw' xn; go_simp; try with_reducible rfl)); try simp only [Act.put, List.setIfInBounds_toArray, List.set_cons_zero, List.set_cons_succ])
        refine wpSeq_call rfl (fun K' hK => ?_)
        go_simp
        go_at_call 35
        refine (JC.out).mono ?_; rintro e wz ⟨rfl, bz⟩
        refine hK.out _ _ bz ?_
        clear hK K'
        try simp only [Act.put, List.setIfInBounds_toArray, List.set_cons_zero, List.set_cons_succ]
        have BZ := Lib.hid (Bx.out.drew.trans (bz.mono Bx.out.size)); clear bz
        iterate 3 (refine wpSeq_pure (v := ?_) rfl (by rfl) (fun w' hw' => ?_) ?_; rotate_left; (focus (go_simp; try with_reducible rfl)); try simp only [Act.put, List.setIfInBounds_toArray, List.set_cons_zero, List.set_cons_succ])
        refine wpSeq_nil ?_
        go_wp2_with fail
        go_ret
        exact ⟨by rw [HF.out]; rfl, BZ.out⟩
      · skip
        have y3 := Rx.out.c 4 rfl
        go_wp2_with fail
        refine (C4.out _ Tx.out).mono ?_; rintro e va9 ⟨rfl, ba9⟩
        have OSa := Lib.hid (OSx.out.below ba9); have BBa := Lib.hid (Bx.out.trans (ba9.mono Bx.out.size)); have Ra := Lib.hid (Rx.out.below ba9 Rx.out.1); have TTa := Lib.hid (Tx.out.below ba9)
        have hlit : (va9.alloc (.cells #[.string Bt] 9)).cell? ⟨va9.heap.size, 0, none⟩ = some (.string Bt) := by first | (go_simp; done) | (go_simp; rfl)
        have hsza : w.heap.size ≤ va9.heap.size := BBa.out.size
        clear y3 ba9
        go_wp2_with (at_builtin; refine wpList_append_str rfl (.tmp 33) (.tmp 37) rfl (w.heap.size + 1) _ [E, I] Bt va9.heap.size 1 rfl (OSa.out.alloc _) rfl hlit (by simp) (by have := Ra.out.1; simp; omega) ?_)
        intro g9 cap9 w9 own9 grow9
        have hb9 := below_grownS (Below.refl (w.heap.size + 1) _) (by have := Ra.out.1; simp; omega) (OSa.out.alloc (.cells #[.string Bt] 9)) grow9
        have BL9 := Lib.hid ((((Below.refl (w.heap.size + 1) va9).alloc (by have := Ra.out.1; omega) (.cells #[.string Bt] 9))).trans hb9)
        have OS9 := Lib.hid own9; have R9 := Lib.hid (Ra.out.below BL9.out (Nat.lt_succ_self _)); have BB9 := Lib.hid (BBa.out.trans (BL9.out.mono (Nat.le_succ _))); have TT9 := Lib.hid (TTa.out.under BL9.out BT.out)
        clear own9 grow9 hlit hb9 OSa BBa Ra TTa BL9 hsza
        have JL := Lib.hid (PS.out false true)
        have JS := Lib.hid (show (jstr ([E, I] ++ [Bt])).size ≤ 200 by rw [jstr_size]; exact JL.out)
        have JC := Lib.hid (join_any ([E, I] ++ [Bt]) _ w9.drew (show HasS w9.drew w9.drew.heap.size _ _ from OS9.out.has) (by simp) (by simp) JL.out)
        have HF := Lib.hid (show TX = A0 ++ { data := #[40] } ++ jstr ([E, I] ++ [Bt]) ++ { data := #[41] } from HTX.out)
        have x0 : w9.drew.cell? _ = some _ := R9.out.c 0 rfl
        have xn : w9.drew.cell? _ = some _ := HN.out w9 TT9.out
        obtain ⟨J, hJ⟩ : ∃ J, J = jstr ([E, I] ++ [Bt]) := ⟨_, rfl⟩
        rw [← hJ] at JS JC HF
        obtain ⟨A1, hA1⟩ : ∃ A, A = A0 ++ { data := #[40] } := ⟨_, rfl⟩
        obtain ⟨A2, hA2⟩ : ∃ A, A = A1 ++ J := ⟨_, rfl⟩
        have zA1 : A1.size = A0.size + 1 := by rw [hA1, ByteArray.size_append]; rfl
        have zA2 : A2.size = A1.size + J.size := by rw [hA2, ByteArray.size_append]
        have zJ := JS.out
        have k1 : ¬ 9223372036854775807 < A0.size + 1 := by omega
        have k2 : ¬ 9223372036854775807 < A1.size + J.size := by omega
        have k3 : ¬ 9223372036854775807 < A2.size + 1 := by omega
        rw [← hA1, ← hA2] at HF
        have r1 := hA1.symm; have r2 := hA2.symm
        clear zA1 zA2 zJ hJ hA1 hA2 JL JS
        go_wp2_with fail
        refine wp_region_seq [(0, true), (1, true), (2, true), (3, true), (4, true), (5, true), (6, true), (7, false), (8, true), (9, true), (10, true)] (by kernel_rfl) (by kernel_rfl) (by kernel_rfl) (by kernel_rfl) ?_
        iterate 7 (refine wpSeq_pure (v := ?_) rfl (by rfl) (fun w' hw' => ?_) ?_; rotate_left; (focus (have y0 := kept hw' x0; have yn := kept hw' xn; go_simp; try with_reducible rfl)); try simp only [Act.put, List.setIfInBounds_toArray, List.set_cons_zero, List.set_cons_succ])
        refine wpSeq_call rfl (fun K' hK => ?_)
        go_simp
        go_at_call 35
        refine (JC.out).mono ?_; rintro e wz ⟨rfl, bz⟩
        refine hK.out _ _ bz ?_
        clear hK K'
        try simp only [Act.put, List.setIfInBounds_toArray, List.set_cons_zero, List.set_cons_succ]
        have BZ := Lib.hid (BB9.out.drew.trans (bz.mono BB9.out.size)); clear bz
        iterate 3 (refine wpSeq_pure (v := ?_) rfl (by rfl) (fun w' hw' => ?_) ?_; rotate_left; (focus (go_simp; try with_reducible rfl)); try simp only [Act.put, List.setIfInBounds_toArray, List.set_cons_zero, List.set_cons_succ])
        refine wpSeq_nil ?_
        go_wp2_with fail
        go_ret
        exact ⟨by rw [HF.out]; rfl, BZ.out⟩
  · skip
    have y3 := R4.out.c 3 rfl
    go_wp2_with fail
    refine (C3.out _ T4.out).mono ?_; rintro e va7 ⟨rfl, ba7⟩
    have OSa := Lib.hid (OS4.out.below ba7); have BBa := Lib.hid (B4.out.trans (ba7.mono B4.out.size)); have Ra := Lib.hid (R4.out.below ba7 R4.out.1); have TTa := Lib.hid (T4.out.below ba7)
    have hlit : (va7.alloc (.cells #[.string Rn] 9)).cell? ⟨va7.heap.size, 0, none⟩ = some (.string Rn) := by first | (go_simp; done) | (go_simp; rfl)
    have hsza : w.heap.size ≤ va7.heap.size := BBa.out.size
    clear y3 ba7
    go_wp2_with (at_builtin; refine wpList_append_str rfl (.tmp 19) (.tmp 23) rfl (w.heap.size + 1) _ [E, I] Rn va7.heap.size 1 rfl (OSa.out.alloc _) rfl hlit (by simp) (by have := Ra.out.1; simp; omega) ?_)
    intro g7 cap7 w7 own7 grow7
    have hb7 := below_grownS (Below.refl (w.heap.size + 1) _) (by have := Ra.out.1; simp; omega) (OSa.out.alloc (.cells #[.string Rn] 9)) grow7
    have BL7 := Lib.hid ((((Below.refl (w.heap.size + 1) va7).alloc (by have := Ra.out.1; omega) (.cells #[.string Rn] 9))).trans hb7)
    have OS7 := Lib.hid own7; have R7 := Lib.hid (Ra.out.below BL7.out (Nat.lt_succ_self _)); have BB7 := Lib.hid (BBa.out.trans (BL7.out.mono (Nat.le_succ _))); have TT7 := Lib.hid (TTa.out.under BL7.out BT.out)
    clear own7 grow7 hlit hb7 OSa BBa Ra TTa BL7 hsza
    have x0 := R7.out.c 0 rfl
    have hlt0 := R7.out.1
    go_upto_region 6 with fail
    go_cut [4, 5] (fun p b wx => b = .bool fb ∧ Below w7.heap.size w7 wx)
    case first =>
      refine wp_region_tree (R := Below w7.heap.size) ⟨fun _ => Below.refl _ _, fun h k => h.trans k⟩ (.read 1 (.read 2 (.two 0 (.two 3 (.read 4 (.read 5 (.read 6 (.call 7 (.call 8 (.read 9 .done)))))) 7 (.call 3 (.read 4 (.read 5 (.read 6 (.call 8 (.read 9 .done))))))) 7 (.call 0 (.call 3 (.read 4 (.read 5 (.read 6 (.call 8 (.read 9 .done)))))))))) (by kernel_rfl) (by kernel_rfl) (by kernel_rfl) (by kernel_rfl) ?_
      iterate 2 (refine wpTree_read (v := ?_) rfl (by rfl) (fun w' hw' => ?_) ?_; rotate_left; (focus (have z0 : w'.cell? _ = some _ := (hw'.cell (p := ⟨w.heap.size, 0, none⟩) hlt0).trans x0; go_simp; try with_reducible rfl)); try simp only [Act.put, List.setIfInBounds_toArray, List.set_cons_zero, List.set_cons_succ])
      refine wpTree_two ?_ ?_
      · skip
        refine wpTree_call rfl (fun K' hK => ?_)
        go_simp
        go_at_call 34
        refine (bits_any _).mono ?_; rintro e v1 ⟨mb, rfl, om, b1⟩
        refine hK.out _ _ (b1.mono (Nat.le_refl _)) ?_
        clear hK K'
        try simp only [Act.put, List.setIfInBounds_toArray, List.set_cons_zero, List.set_cons_succ]
        have OM := Lib.hid om; have C1 := Lib.hid (show Below w7.heap.size _ _ from b1.mono (Nat.le_refl _)); clear om b1
        have hs1 : w7.heap.size ≤ v1.heap.size := C1.out.size
        refine wpTree_two ?_ ?_
        · skip
          refine wpTree_call rfl (fun K' hK => ?_)
          have hrun := look_bits v1 mb OM.out kn hk l g fb hlo hhi hfb
          go_simp
          refine hK.out _ _ (Below.refl _ _) ?_
          clear hK K'
          try simp only [Act.put, List.setIfInBounds_toArray, List.set_cons_zero, List.set_cons_succ]
          iterate 3 (refine wpTree_read (v := ?_) rfl (by rfl) (fun w' hw' => ?_) ?_; rotate_left; (focus (go_simp; try with_reducible rfl)); try simp only [Act.put, List.setIfInBounds_toArray, List.set_cons_zero, List.set_cons_succ])
          refine wpTree_call rfl (fun K' hK => ?_)
          go_simp
          refine hK.out _ _ ((Below.refl _ _).alloc hs1 _) ?_
          clear hK K'
          try simp only [Act.put, List.setIfInBounds_toArray, List.set_cons_zero, List.set_cons_succ]
          refine wpTree_call rfl (fun K' hK => ?_)
          go_simp
          refine hK.out _ _ (below_pair v1 _ _ hs1) ?_
          clear hK K'
          try simp only [Act.put, List.setIfInBounds_toArray, List.set_cons_zero, List.set_cons_succ]
          (refine wpTree_read (v := ?_) rfl (by rfl) (fun w' hw' => ?_) ?_; rotate_left; (focus (go_simp; try with_reducible rfl)); try simp only [Act.put, List.setIfInBounds_toArray, List.set_cons_zero, List.set_cons_succ])
          refine wpTree_nil ?_
          go_wp2_with fail
          go_meet
          exact ⟨rfl, ((Below.refl _ _).drew.trans C1.out).alloc hs1 _⟩
        · skip
          refine wpTree_call rfl (fun K' hK => ?_)
          go_simp
          refine hK.out _ _ ((Below.refl _ _).alloc hs1 _) ?_
          clear hK K'
          try simp only [Act.put, List.setIfInBounds_toArray, List.set_cons_zero, List.set_cons_succ]
          refine wpTree_call rfl (fun K' hK => ?_)
          have hrun := look_bits _ mb (ownsKept OM.out ((Below.refl _ _).alloc (Nat.le_refl _) (.cells #[.int .i64 0, .int .i64 0] 69))) kn hk l g fb hlo hhi hfb
          go_simp
          refine hK.out _ _ (Below.refl _ _) ?_
          clear hK K'
          try simp only [Act.put, List.setIfInBounds_toArray, List.set_cons_zero, List.set_cons_succ]
          iterate 3 (refine wpTree_read (v := ?_) rfl (by rfl) (fun w' hw' => ?_) ?_; rotate_left; (focus (go_simp; try with_reducible rfl)); try simp only [Act.put, List.setIfInBounds_toArray, List.set_cons_zero, List.set_cons_succ])
          refine wpTree_call rfl (fun K' hK => ?_)
          go_simp
          refine hK.out _ _ (below_pair v1 _ _ hs1) ?_
          clear hK K'
          try simp only [Act.put, List.setIfInBounds_toArray, List.set_cons_zero, List.set_cons_succ]
          (refine wpTree_read (v := ?_) rfl (by rfl) (fun w' hw' => ?_) ?_; rotate_left; (focus (go_simp; try with_reducible rfl)); try simp only [Act.put, List.setIfInBounds_toArray, List.set_cons_zero, List.set_cons_succ])
          refine wpTree_nil ?_
          go_wp2_with fail
          go_meet
          exact ⟨rfl, ((Below.refl _ _).drew.trans C1.out).alloc hs1 _⟩
      · skip
        have RZ := Lib.hid (RecN.new w7.drew #[.int .i64 0, .int .i64 0] 69)
        have HSZ := Lib.hid (show w7.heap.size ≤ (w7.drew.alloc (.cells #[.int .i64 0, .int .i64 0] 69)).heap.size from ((Below.refl w7.drew.heap.size w7.drew).alloc (Nat.le_refl _) (.cells #[.int .i64 0, .int .i64 0] 69)).size)
        refine wpTree_call rfl (fun K' hK => ?_)
        go_simp
        refine hK.out _ _ (show Below w7.heap.size w7.drew (w7.drew.alloc (.cells #[.int .i64 0, .int .i64 0] 69)) from (Below.refl w7.drew.heap.size w7.drew).alloc (Nat.le_refl _) _) ?_
        clear hK K'
        try simp only [Act.put, List.setIfInBounds_toArray, List.set_cons_zero, List.set_cons_succ]
        refine wpTree_call rfl (fun K' hK => ?_)
        go_simp
        go_at_call 34
        refine (bits_any _).mono ?_; rintro e v1 ⟨mb, rfl, om, b1⟩
        refine hK.out _ _ (b1.mono HSZ.out) ?_
        clear hK K'
        try simp only [Act.put, List.setIfInBounds_toArray, List.set_cons_zero, List.set_cons_succ]
        have OM := Lib.hid om; have RT1 := Lib.hid (show RecN v1 w7.heap.size _ from RZ.out.below b1 RZ.out.1)
        have C1 := Lib.hid ((((Below.refl w7.heap.size w7).drew.alloc (Nat.le_refl _) (.cells #[.int .i64 0, .int .i64 0] 69))).trans (b1.mono HSZ.out))
        clear om b1 RZ
        refine wpTree_call rfl (fun K' hK => ?_)
        have hrun := look_bits v1 mb OM.out kn hk l g fb hlo hhi hfb
        go_simp
        refine hK.out _ _ (Below.refl _ _) ?_
        clear hK K'
        try simp only [Act.put, List.setIfInBounds_toArray, List.set_cons_zero, List.set_cons_succ]
        iterate 3 (refine wpTree_read (v := ?_) rfl (by rfl) (fun w' hw' => ?_) ?_; rotate_left; (focus (go_simp; try with_reducible rfl)); try simp only [Act.put, List.setIfInBounds_toArray, List.set_cons_zero, List.set_cons_succ])
        have c0 := RT1.out.c 0 rfl; have c1x := RT1.out.c 1 rfl; have f0 := RT1.out.f 0 (by simp); have f1 := RT1.out.f 1 (by simp)
        refine wpTree_call rfl (fun K' hK => ?_)
        go_simp
        refine hK.out _ _ (((Below.refl _ _).setCell (p := ⟨w7.heap.size, 0, none⟩) (Nat.le_refl _) _).setCell (p := ⟨w7.heap.size, 1, none⟩) (Nat.le_refl _) _) ?_
        clear hK K'
        try simp only [Act.put, List.setIfInBounds_toArray, List.set_cons_zero, List.set_cons_succ]
        (refine wpTree_read (v := ?_) rfl (by rfl) (fun w' hw' => ?_) ?_; rotate_left; (focus (go_simp; try with_reducible rfl)); try simp only [Act.put, List.setIfInBounds_toArray, List.set_cons_zero, List.set_cons_succ])
        refine wpTree_nil ?_
        go_wp2_with fail
        go_meet
        exact ⟨rfl, (C1.out.setCell (p := ⟨w7.heap.size, 0, none⟩) (Nat.le_refl _) _).setCell (p := ⟨w7.heap.size, 1, none⟩) (Nat.le_refl _) _⟩
    case rest =>
      obtain ⟨rfl, bt⟩ := hcut
      have Rx := Lib.hid (R7.out.below bt R7.out.1); have Tx := Lib.hid (TT7.out.below bt); have Bx := Lib.hid (BB7.out.trans (bt.mono BB7.out.size)); have OSx := Lib.hid (OS7.out.below bt)
      clear bt R7 TT7 BB7 OS7 x0 hlt0 hlo hhi hfb
      cases fb
      · skip
        have JL := Lib.hid (PS.out true false)
        have JS := Lib.hid (show (jstr ([E, I] ++ [Rn])).size ≤ 200 by rw [jstr_size]; exact JL.out)
        have JC := Lib.hid (join_any ([E, I] ++ [Rn]) _ wc.drew (show HasS wc.drew wc.drew.heap.size _ _ from OSx.out.has) (by simp) (by simp) JL.out)
        have HF := Lib.hid (show TX = A0 ++ { data := #[40] } ++ jstr ([E, I] ++ [Rn]) ++ { data := #[41] } from HTX.out)
        have x0 : wc.drew.cell? _ = some _ := Rx.out.c 0 rfl
        have xn : wc.drew.cell? _ = some _ := HN.out wc Tx.out
        obtain ⟨J, hJ⟩ : ∃ J, J = jstr ([E, I] ++ [Rn]) := ⟨_, rfl⟩
        rw [← hJ] at JS JC HF
        obtain ⟨A1, hA1⟩ : ∃ A, A = A0 ++ { data := #[40] } := ⟨_, rfl⟩
        obtain ⟨A2, hA2⟩ : ∃ A, A = A1 ++ J := ⟨_, rfl⟩
        have zA1 : A1.size = A0.size + 1 := by rw [hA1, ByteArray.size_append]; rfl
        have zA2 : A2.size = A1.size + J.size := by rw [hA2, ByteArray.size_append]
        have zJ := JS.out
        have k1 : ¬ 9223372036854775807 < A0.size + 1 := by omega
        have k2 : ¬ 9223372036854775807 < A1.size + J.size := by omega
        have k3 : ¬ 9223372036854775807 < A2.size + 1 := by omega
        rw [← hA1, ← hA2] at HF
        have r1 := hA1.symm; have r2 := hA2.symm
        clear zA1 zA2 zJ hJ hA1 hA2 JL JS
        go_wp2_with fail
        refine wp_region_seq [(0, true), (1, true), (2, true), (3, true), (4, true), (5, true), (6, true), (7, false), (8, true), (9, true), (10, true)] (by kernel_rfl) (by kernel_rfl) (by kernel_rfl) (by kernel_rfl) ?_
        iterate 7 (refine wpSeq_pure (v := ?_) rfl (by rfl) (fun w' hw' => ?_) ?_; rotate_left; (focus (have y0 := kept hw' x0; have yn := kept hw' xn; go_simp; try with_reducible rfl)); try simp only [Act.put, List.setIfInBounds_toArray, List.set_cons_zero, List.set_cons_succ])
        refine wpSeq_call rfl (fun K' hK => ?_)
        go_simp
        go_at_call 35
        refine (JC.out).mono ?_; rintro e wz ⟨rfl, bz⟩
        refine hK.out _ _ bz ?_
        clear hK K'
        try simp only [Act.put, List.setIfInBounds_toArray, List.set_cons_zero, List.set_cons_succ]
        have BZ := Lib.hid (Bx.out.drew.trans (bz.mono Bx.out.size)); clear bz
        iterate 3 (refine wpSeq_pure (v := ?_) rfl (by rfl) (fun w' hw' => ?_) ?_; rotate_left; (focus (go_simp; try with_reducible rfl)); try simp only [Act.put, List.setIfInBounds_toArray, List.set_cons_zero, List.set_cons_succ])
        refine wpSeq_nil ?_
        go_wp2_with fail
        go_ret
        exact ⟨by rw [HF.out]; rfl, BZ.out⟩
      · skip
        have y3 := Rx.out.c 4 rfl
        go_wp2_with fail
        refine (C4.out _ Tx.out).mono ?_; rintro e va9 ⟨rfl, ba9⟩
        have OSa := Lib.hid (OSx.out.below ba9); have BBa := Lib.hid (Bx.out.trans (ba9.mono Bx.out.size)); have Ra := Lib.hid (Rx.out.below ba9 Rx.out.1); have TTa := Lib.hid (Tx.out.below ba9)
        have hlit : (va9.alloc (.cells #[.string Bt] 9)).cell? ⟨va9.heap.size, 0, none⟩ = some (.string Bt) := by first | (go_simp; done) | (go_simp; rfl)
        have hsza : w.heap.size ≤ va9.heap.size := BBa.out.size
        clear y3 ba9
        go_wp2_with (at_builtin; refine wpList_append_str rfl (.tmp 33) (.tmp 37) rfl (w.heap.size + 1) _ ([E, I] ++ [Rn]) Bt va9.heap.size 1 rfl (OSa.out.alloc _) rfl hlit (by simp) (by have := Ra.out.1; simp; omega) ?_)
        intro g9 cap9 w9 own9 grow9
        have hb9 := below_grownS (Below.refl (w.heap.size + 1) _) (by have := Ra.out.1; simp; omega) (OSa.out.alloc (.cells #[.string Bt] 9)) grow9
        have BL9 := Lib.hid ((((Below.refl (w.heap.size + 1) va9).alloc (by have := Ra.out.1; omega) (.cells #[.string Bt] 9))).trans hb9)
        have OS9 := Lib.hid own9; have R9 := Lib.hid (Ra.out.below BL9.out (Nat.lt_succ_self _)); have BB9 := Lib.hid (BBa.out.trans (BL9.out.mono (Nat.le_succ _))); have TT9 := Lib.hid (TTa.out.under BL9.out BT.out)
        clear own9 grow9 hlit hb9 OSa BBa Ra TTa BL9 hsza
        have JL := Lib.hid (PS.out true true)
        have JS := Lib.hid (show (jstr ([E, I] ++ [Rn] ++ [Bt])).size ≤ 200 by rw [jstr_size]; exact JL.out)
        have JC := Lib.hid (join_any ([E, I] ++ [Rn] ++ [Bt]) _ w9.drew (show HasS w9.drew w9.drew.heap.size _ _ from OS9.out.has) (by simp) (by simp) JL.out)
        have HF := Lib.hid (show TX = A0 ++ { data := #[40] } ++ jstr ([E, I] ++ [Rn] ++ [Bt]) ++ { data := #[41] } from HTX.out)
        have x0 : w9.drew.cell? _ = some _ := R9.out.c 0 rfl
        have xn : w9.drew.cell? _ = some _ := HN.out w9 TT9.out
        obtain ⟨J, hJ⟩ : ∃ J, J = jstr ([E, I] ++ [Rn] ++ [Bt]) := ⟨_, rfl⟩
        rw [← hJ] at JS JC HF
        obtain ⟨A1, hA1⟩ : ∃ A, A = A0 ++ { data := #[40] } := ⟨_, rfl⟩
        obtain ⟨A2, hA2⟩ : ∃ A, A = A1 ++ J := ⟨_, rfl⟩
        have zA1 : A1.size = A0.size + 1 := by rw [hA1, ByteArray.size_append]; rfl
        have zA2 : A2.size = A1.size + J.size := by rw [hA2, ByteArray.size_append]
        have zJ := JS.out
        have k1 : ¬ 9223372036854775807 < A0.size + 1 := by omega
        have k2 : ¬ 9223372036854775807 < A1.size + J.size := by omega
        have k3 : ¬ 9223372036854775807 < A2.size + 1 := by omega
        rw [← hA1, ← hA2] at HF
        have r1 := hA1.symm; have r2 := hA2.symm
        clear zA1 zA2 zJ hJ hA1 hA2 JL JS
        go_wp2_with fail
        refine wp_region_seq [(0, true), (1, true), (2, true), (3, true), (4, true), (5, true), (6, true), (7, false), (8, true), (9, true), (10, true)] (by kernel_rfl) (by kernel_rfl) (by kernel_rfl) (by kernel_rfl) ?_
        iterate 7 (refine wpSeq_pure (v := ?_) rfl (by rfl) (fun w' hw' => ?_) ?_; rotate_left; (focus (have y0 := kept hw' x0; have yn := kept hw' xn; go_simp; try with_reducible rfl)); try simp only [Act.put, List.setIfInBounds_toArray, List.set_cons_zero, List.set_cons_succ])
        refine wpSeq_call rfl (fun K' hK => ?_)
        go_simp
        go_at_call 35
        refine (JC.out).mono ?_; rintro e wz ⟨rfl, bz⟩
        refine hK.out _ _ bz ?_
        clear hK K'
        try simp only [Act.put, List.setIfInBounds_toArray, List.set_cons_zero, List.set_cons_succ]
        have BZ := Lib.hid (BB9.out.drew.trans (bz.mono BB9.out.size)); clear bz
        iterate 3 (refine wpSeq_pure (v := ?_) rfl (by rfl) (fun w' hw' => ?_) ?_; rotate_left; (focus (go_simp; try with_reducible rfl)); try simp only [Act.put, List.setIfInBounds_toArray, List.set_cons_zero, List.set_cons_succ])
        refine wpSeq_nil ?_
        go_wp2_with fail
        go_ret
        exact ⟨by rw [HF.out]; rfl, BZ.out⟩
theorem mof_none (m : Msg) (dv pv : Value) (w : World) (hk : m.kind < 1 ∨ 12 < m.kind) :
    Calls Tryz.prog 15 #[msgV m dv pv] w fun e w' => e = .returned (.string ByteArray.empty) ∧ Below w.heap.size w w' := by
  unfold msgV
  have B0 := Lib.hid fun c => (Below.refl w.heap.size w).alloc (Nat.le_refl _) (.cells c 27)
  have CK := Lib.hid (show ∀ w', Calls Tryz.prog 28 #[.int .i64 m.kind] w' fun e w'' => e = .returned (.bool false) ∧ w' = w'' by
    intro w'
    have := iskind_any m.kind w'
    rw [show btw m.kind 1 12 = false by unfold btw; rw [Bool.and_eq_false_iff, decide_eq_false_iff_not, decide_eq_false_iff_not]; omega] at this
    exact this)
  clear hk
  go_enter Tryz.func15, Tryz.ntmps15
  go_wp2_with fail
  refine (CK.out _).mono ?_; rintro e w' ⟨rfl, rfl⟩
  go_wp2_with fail
  go_ret
  exact ⟨rfl, B0.out _⟩
theorem mof_any (m : Msg) (dv pv : Value) (w : World) (hw : m.Wf) (ht : Tab w) :
    Calls Tryz.prog 15 #[msgV m dv pv] w fun e w' => e = .returned (.string (Ms.of m)) ∧ Below w.heap.size w w' := by
  unfold Ms.of
  by_cases h : m.kind < 1 ∨ 12 < m.kind
  · rw [if_pos h]
    exact mof_none m dv pv w h
  · rw [if_neg h]
    obtain ⟨kind, epoch, inst, round, bit, root, len, data, path⟩ := m
    obtain ⟨kn, rfl⟩ : ∃ kn : Nat, kind = (kn : Int) := ⟨kind.toNat, by simp at h; omega⟩
    simp at h
    exact mof_some kn (by omega) epoch inst round bit root len dv pv w hw.epoch hw.inst hw.round hw.bit ht
end Go.Proofs.YtgkckomccabmlaaGreatDoor
