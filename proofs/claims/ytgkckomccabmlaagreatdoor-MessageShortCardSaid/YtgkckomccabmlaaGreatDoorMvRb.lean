/-
  Which messages are valid, by package message: their ranges. Nothing that was there has changed. Condition: the tables hold what their initialisers lay.
-/
import Derived.Test.YtgkckomccabmlaaGreatDoorLmF
namespace Go.Proofs.YtgkckomccabmlaaGreatDoor
open Go.ChangeShapes Go.WideShapes Go.ChangeAt Go.RowKit
open Go.Maps (Keyed has IsMap)
open Dg (W B)
open Ms (Msg)
set_option linter.unusedVariables false
set_option maxRecDepth 100000 in
set_option maxHeartbeats 4000000 in
theorem inrange_any (kn : Nat) (hk : 1 ≤ kn ∧ kn ≤ 12) (epoch inst round bit : Int) (root : W) (len : Int) (ad : Option Addr) (nd cd : Nat) (ap : Option Addr) (np cp : Nat) (w : World) (ht : Tab w) :
    Calls Tryz.prog 29 #[.agg #[.int .i64 (kn : Int), .int .i64 epoch, .int .i64 inst, .int .i64 round, .int .i64 bit, .int .u64 (uv root), .int .i64 len, .slice ad nd cd, .slice ap np cp]] w fun e w' => e = .returned (.bool (btw epoch 0 1048576 && (btw inst 0 15 && ((!Ms.fRound kn || btw round 0 63) && ((!Ms.fLen kn || btw len 0 4096) && (!Ms.fBit kn || btw bit (lo kn) (hi kn))))))) ∧ Below w.heap.size w w' := by
  have b0 : Below w.heap.size w (w.alloc (.cells #[.int .i64 (kn : Int), .int .i64 epoch, .int .i64 inst, .int .i64 round, .int .i64 bit, .int .u64 (uv root), .int .i64 len, .slice ad nd cd, .slice ap np cp] 27)) := (Below.refl _ _).alloc (Nat.le_refl _) _
  have R := Lib.hid (RecN.new w #[.int .i64 (kn : Int), .int .i64 epoch, .int .i64 inst, .int .i64 round, .int .i64 bit, .int .u64 (uv root), .int .i64 len, .slice ad nd cd, .slice ap np cp] 27)
  have TT := Lib.hid (ht.below b0)
  have BB := Lib.hid b0
  have CR := Lib.hid fun (w' : World) (h : Tab w') => has_any kn hk epoch inst round bit root len (.slice ad nd cd) (.slice ap np cp) 1 w' h
  have CL := Lib.hid fun (w' : World) (h : Tab w') => has_any kn hk epoch inst round bit root len (.slice ad nd cd) (.slice ap np cp) 4 w' h
  rw [hasF_round hk] at CR
  rw [hasF_len hk] at CL
  obtain ⟨l, hlo⟩ : ∃ l, lo kn = l := ⟨_, rfl⟩
  obtain ⟨g, hhi⟩ : ∃ g, hi kn = g := ⟨_, rfl⟩
  obtain ⟨fb, hfb⟩ : ∃ b, Ms.fBit kn = b := ⟨_, rfl⟩
  have D1 := Lib.hid fun w' => between_any epoch 0 1048576 w'
  have D2 := Lib.hid fun w' => between_any inst 0 15 w'
  have D3 := Lib.hid fun w' => between_any round 0 63 w'
  have D4 := Lib.hid fun w' => between_any len 0 4096 w'
  have D5 := Lib.hid fun w' => between_any bit l g w'
  rw [hlo, hhi, hfb]
  generalize btw epoch 0 1048576 = c1 at D1 ⊢
  generalize btw inst 0 15 = c2 at D2 ⊢
  generalize btw round 0 63 = c3 at D3 ⊢
  generalize btw len 0 4096 = c4 at D4 ⊢
  generalize btw bit l g = c5 at D5 ⊢
  generalize Ms.fRound kn = fr at CR ⊢
  generalize Ms.fLen kn = fl at CL ⊢
  clear ht b0
  have x0 := R.out.c 0 rfl
  go_enter Tryz.func29, Tryz.ntmps29
  go_upto_region 1 with fail
  go_cut [3, 4] (fun p b wx => ∃ t, p = .pointer (some ⟨t, 0, none⟩) ∧ b = .bool fb ∧ RecN wx t [.int .i64 l, .int .i64 g] ∧ Below (w.heap.size + 1) (w.alloc (.cells #[.int .i64 (kn : Int), .int .i64 epoch, .int .i64 inst, .int .i64 round, .int .i64 bit, .int .u64 (uv root), .int .i64 len, .slice ad nd cd, .slice ap np cp] 27)) wx)
  case first =>
    refine wp_region_tree (R := Below (w.heap.size + 1)) ⟨fun _ => Below.refl _ _, fun h k => h.trans k⟩ (.read 1 (.read 2 (.two 0 (.two 3 (.read 4 (.read 5 (.read 6 (.call 7 (.call 8 (.read 9 .done)))))) 7 (.call 3 (.read 4 (.read 5 (.read 6 (.call 8 (.read 9 .done))))))) 7 (.call 0 (.call 3 (.read 4 (.read 5 (.read 6 (.call 8 (.read 9 .done)))))))))) (by kernel_rfl) (by kernel_rfl) (by kernel_rfl) (by kernel_rfl) ?_
    iterate 2 (refine wpTree_read (v := ?_) rfl (by rfl) (fun w' hw' => ?_) ?_; rotate_left; (focus (have z0 : w'.cell? _ = some _ := (hw'.cell (p := ⟨w.heap.size, 0, none⟩) (Nat.lt_succ_self _)).trans x0; go_simp; try with_reducible rfl)); try simp only [Act.put, List.setIfInBounds_toArray, List.set_cons_zero, List.set_cons_succ])
    refine wpTree_two ?_ ?_
    · skip
      refine wpTree_call rfl (fun K' hK => ?_)
      go_simp
      go_at_call 34
      refine (bits_any _).mono ?_; rintro e w1 ⟨mb, rfl, om, b1⟩
      refine hK.out _ _ (b1.mono (by simp [World.drew])) ?_
      clear hK K'
      try simp only [Act.put, List.setIfInBounds_toArray, List.set_cons_zero, List.set_cons_succ]
      have OM := Lib.hid om; have B1 := Lib.hid (show Below (w.heap.size + 1) _ _ from b1.mono (by simp [World.drew])); clear om b1
      have hs1 : w.heap.size + 1 ≤ w1.heap.size := Nat.le_trans (by simp [World.drew]) B1.out.size
      refine wpTree_two ?_ ?_
      · skip
        refine wpTree_call rfl (fun K' hK => ?_)
        have hrun := look_bits w1 mb OM.out kn hk l g fb hlo hhi hfb
        go_simp
        refine hK.out _ _ (Below.refl _ _) ?_
        clear hK K'
        try simp only [Act.put, List.setIfInBounds_toArray, List.set_cons_zero, List.set_cons_succ]
        iterate 3 (refine wpTree_read (v := ?_) rfl (by rfl) (fun w' hw' => ?_) ?_; rotate_left; (focus (go_simp; try with_reducible rfl)); try simp only [Act.put, List.setIfInBounds_toArray, List.set_cons_zero, List.set_cons_succ])
        refine wpTree_call rfl (fun K' hK => ?_)
        go_simp
        refine hK.out _ _ ((Below.refl _ _).alloc hs1 _) ?_
        clear hK K'
        try simp only [Act.put, List.setIfInBounds_toArray, List.set_cons_zero, List.set_cons_succ]
        refine wpTree_call rfl (fun K' hK => ?_)
        go_simp
        refine hK.out _ _ (below_pair w1 _ _ hs1) ?_
        clear hK K'
        try simp only [Act.put, List.setIfInBounds_toArray, List.set_cons_zero, List.set_cons_succ]
        (refine wpTree_read (v := ?_) rfl (by rfl) (fun w' hw' => ?_) ?_; rotate_left; (focus (go_simp; try with_reducible rfl)); try simp only [Act.put, List.setIfInBounds_toArray, List.set_cons_zero, List.set_cons_succ])
        refine wpTree_nil ?_
        go_wp2_with fail
        go_meet
        exact ⟨w1.heap.size, rfl, rfl, RecN.new w1 #[.int .i64 l, .int .i64 g] _, ((Below.refl _ _).drew.trans B1.out).alloc hs1 _⟩
      · skip
        refine wpTree_call rfl (fun K' hK => ?_)
        go_simp
        refine hK.out _ _ ((Below.refl _ _).alloc hs1 _) ?_
        clear hK K'
        try simp only [Act.put, List.setIfInBounds_toArray, List.set_cons_zero, List.set_cons_succ]
        refine wpTree_call rfl (fun K' hK => ?_)
        have hrun := look_bits _ mb (ownsKept OM.out ((Below.refl _ _).alloc (Nat.le_refl _) (.cells #[.int .i64 0, .int .i64 0] 69))) kn hk l g fb hlo hhi hfb
        go_simp
        refine hK.out _ _ (Below.refl _ _) ?_
        clear hK K'
        try simp only [Act.put, List.setIfInBounds_toArray, List.set_cons_zero, List.set_cons_succ]
        iterate 3 (refine wpTree_read (v := ?_) rfl (by rfl) (fun w' hw' => ?_) ?_; rotate_left; (focus (go_simp; try with_reducible rfl)); try simp only [Act.put, List.setIfInBounds_toArray, List.set_cons_zero, List.set_cons_succ])
        refine wpTree_call rfl (fun K' hK => ?_)
        go_simp
        refine hK.out _ _ (below_pair w1 _ _ hs1) ?_
        clear hK K'
        try simp only [Act.put, List.setIfInBounds_toArray, List.set_cons_zero, List.set_cons_succ]
        (refine wpTree_read (v := ?_) rfl (by rfl) (fun w' hw' => ?_) ?_; rotate_left; (focus (go_simp; try with_reducible rfl)); try simp only [Act.put, List.setIfInBounds_toArray, List.set_cons_zero, List.set_cons_succ])
        refine wpTree_nil ?_
        go_wp2_with fail
        go_meet
        exact ⟨w1.heap.size, rfl, rfl, RecN.new w1 #[.int .i64 l, .int .i64 g] _, ((Below.refl _ _).drew.trans B1.out).alloc hs1 _⟩
    · skip
      have hsz : (w.alloc (.cells #[.int .i64 (kn : Int), .int .i64 epoch, .int .i64 inst, .int .i64 round, .int .i64 bit, .int .u64 (uv root), .int .i64 len, .slice ad nd cd, .slice ap np cp] 27)).heap.size = w.heap.size + 1 := by simp
      have rz := RecN.new (w.alloc (.cells #[.int .i64 (kn : Int), .int .i64 epoch, .int .i64 inst, .int .i64 round, .int .i64 bit, .int .u64 (uv root), .int .i64 len, .slice ad nd cd, .slice ap np cp] 27)) #[.int .i64 0, .int .i64 0] 69
      rw [hsz] at rz
      have RZ := Lib.hid rz; clear rz
      refine wpTree_call rfl (fun K' hK => ?_)
      go_simp
      refine hK.out _ _ ((Below.refl _ _).alloc (by simp [World.drew]) _) ?_
      clear hK K'
      try simp only [Act.put, List.setIfInBounds_toArray, List.set_cons_zero, List.set_cons_succ]
      refine wpTree_call rfl (fun K' hK => ?_)
      go_simp
      go_at_call 34
      refine (bits_any _).mono ?_; rintro e w1 ⟨mb, rfl, om, b1⟩
      refine hK.out _ _ (b1.mono (by simp [World.drew])) ?_
      clear hK K'
      try simp only [Act.put, List.setIfInBounds_toArray, List.set_cons_zero, List.set_cons_succ]
      have OM := Lib.hid om; have RT1 := Lib.hid (RZ.out.drew.below b1 RZ.out.1)
      have B1 := Lib.hid ((((Below.refl (w.heap.size + 1) (w.alloc (.cells #[.int .i64 (kn : Int), .int .i64 epoch, .int .i64 inst, .int .i64 round, .int .i64 bit, .int .u64 (uv root), .int .i64 len, .slice ad nd cd, .slice ap np cp] 27))).alloc (by simp) (.cells #[.int .i64 0, .int .i64 0] 69)).drew).trans (b1.mono (by simp [World.drew])))
      clear om b1 RZ
      refine wpTree_call rfl (fun K' hK => ?_)
      have hrun := look_bits w1 mb OM.out kn hk l g fb hlo hhi hfb
      go_simp
      refine hK.out _ _ (Below.refl _ _) ?_
      clear hK K'
      try simp only [Act.put, List.setIfInBounds_toArray, List.set_cons_zero, List.set_cons_succ]
      iterate 3 (refine wpTree_read (v := ?_) rfl (by rfl) (fun w' hw' => ?_) ?_; rotate_left; (focus (go_simp; try with_reducible rfl)); try simp only [Act.put, List.setIfInBounds_toArray, List.set_cons_zero, List.set_cons_succ])
      have c0 := RT1.out.c 0 rfl; have c1x := RT1.out.c 1 rfl; have f0 := RT1.out.f 0 (by simp); have f1 := RT1.out.f 1 (by simp)
      refine wpTree_call rfl (fun K' hK => ?_)
      go_simp
      refine hK.out _ _ (((Below.refl _ _).setCell (p := ⟨w.heap.size + 1, 0, none⟩) (Nat.le_refl _) _).setCell (p := ⟨w.heap.size + 1, 1, none⟩) (Nat.le_refl _) _) ?_
      clear hK K'
      try simp only [Act.put, List.setIfInBounds_toArray, List.set_cons_zero, List.set_cons_succ]
      (refine wpTree_read (v := ?_) rfl (by rfl) (fun w' hw' => ?_) ?_; rotate_left; (focus (go_simp; try with_reducible rfl)); try simp only [Act.put, List.setIfInBounds_toArray, List.set_cons_zero, List.set_cons_succ])
      refine wpTree_nil ?_
      go_wp2_with fail
      go_meet
      exact ⟨w.heap.size + 1, rfl, rfl, (RT1.out.set 0 (by simp) (.int .i64 l)).set 1 (by simp) (.int .i64 g), (B1.out.setCell (p := ⟨w.heap.size + 1, 0, none⟩) (Nat.le_refl _) _).setCell (p := ⟨w.heap.size + 1, 1, none⟩) (Nat.le_refl _) _⟩
  case rest =>
    obtain ⟨t, rfl, rfl, rt, bt⟩ := hcut
    have R2 := Lib.hid (R.out.below bt (Nat.lt_succ_self _)); have TT2 := Lib.hid (TT.out.below (bt.mono (by simp))); have BB2 := Lib.hid (BB.out.trans (bt.mono (Nat.le_succ _))); have RT := Lib.hid rt
    clear R TT BB x0 rt bt hlo hhi hfb
    have R := R2; have TT := TT2; have BB := BB2
    clear R2 TT2 BB2
    have x0 := R.out.c 0 rfl; have x1 := R.out.c 1 rfl; have x2 := R.out.c 2 rfl; have x3 := R.out.c 3 rfl; have x4 := R.out.c 4 rfl; have x5 := R.out.c 5 rfl; have x6 := R.out.c 6 rfl; have x7 := R.out.c 7 rfl; have x8 := R.out.c 8 rfl
    have y0 := RT.out.c 0 rfl; have y1 := RT.out.c 1 rfl
    cases fr <;> cases fl <;> cases fb
    all_goals
      go_wp2_with (first
        | (go_at_call 61; (first | with_reducible refine (D1.out _).mono ?_ | with_reducible refine (D2.out _).mono ?_ | with_reducible refine (D3.out _).mono ?_ | with_reducible refine (D4.out _).mono ?_ | with_reducible refine (D5.out _).mono ?_); rintro e w' ⟨rfl, rfl⟩)
        | (go_at_call 33; (first | with_reducible refine (CR.out _ TT.out).mono ?_ | with_reducible refine (CL.out _ TT.out).mono ?_); rintro e wz ⟨rfl, bz⟩; have Rz := Lib.hid (R.out.below bz R.out.1); have RTz := Lib.hid (RT.out.below bz RT.out.1); have Tz := Lib.hid (TT.out.below bz); have Bz := Lib.hid (BB.out.trans (bz.mono BB.out.size)); clear R RT TT BB bz x0 x1 x2 x3 x4 x5 x6 x7 x8 y0 y1; have R := Rz; have RT := RTz; have TT := Tz; have BB := Bz; clear Rz RTz Tz Bz; have x0 := R.out.c 0 rfl; have x1 := R.out.c 1 rfl; have x2 := R.out.c 2 rfl; have x3 := R.out.c 3 rfl; have x4 := R.out.c 4 rfl; have x5 := R.out.c 5 rfl; have x6 := R.out.c 6 rfl; have x7 := R.out.c 7 rfl; have x8 := R.out.c 8 rfl; have y0 := RT.out.c 0 rfl; have y1 := RT.out.c 1 rfl))
      all_goals
        go_ret
        refine ⟨?_, BB.out⟩
        simp_all
        done

end Go.Proofs.YtgkckomccabmlaaGreatDoor
