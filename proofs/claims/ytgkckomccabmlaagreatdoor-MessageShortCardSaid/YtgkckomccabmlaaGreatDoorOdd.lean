/-
  What dice change of a message. At most the block of the dice has turned. Condition: the message has fewer than a million bytes and digests.
-/
import Derived.Test.YtgkckomccabmlaaGreatDoorLmB
import Derived.Test.YtgkckomccabmlaaGreatDoorCoins
namespace Go.Proofs.YtgkckomccabmlaaGreatDoor
open Go.ChangeShapes Go.WideShapes Go.ChangeAt Go.RowKit
open Dg (W B)
open Ms (Msg)
/-- a message has come, with dice -/
def GotM (g : Nat) (l : List Int) (s : Nat) (D P lo hi : Nat) (w : World) (e : Ending) (w' : World) : Prop :=
  ∃ (m : Msg) (dv pv : Value) (t : Nat), e = .returned (msgV m dv pv) ∧ MsgIn w' m dv pv ∧ Off g dv ∧ Off g pv ∧ m.data.length ≤ D ∧ m.path.length ≤ P ∧ lo ≤ t ∧ t ≤ hi ∧ Dy g l s t w w'
theorem GotM.fin {g : Nat} {l : List Int} {s t D P lo hi N : Nat} {w w1 : World} {m : Msg} {dv pv : Value} (hm : MsgIn w1 m dv pv) (hd : Off g dv) (hp : Off g pv) (nd : Off N dv) (np : Off N pv) (hD : m.data.length ≤ D) (hP : m.path.length ≤ P) (h1 : lo ≤ t) (h2 : t ≤ hi) (hN : w.heap.size ≤ N) (dy : Dy g l s t w w1) (a b c d e f g' h i : Value) :
    GotM g l s D P lo hi w (.returned (msgV m dv pv)) (put9 w1 N a b c d e f g' h i) :=
  ⟨m, dv, pv, t, rfl, hm.but (but_put9 _ _ _ _ _ _ _ _ _ _ _) nd np, hd, hp, hD, hP, h1, h2, dy.later ((below_put9 _ _ _ _ _ _ _ _ _ _ _).mono hN)⟩
theorem OwnW.off {base g : Nat} {w : World} {v : Value} {l : List W} (h : OwnW base w v l) (hg : g < base) : Off g v := by
  rcases h.2 with ⟨rfl, h0⟩ | ⟨b, cap, cur, rfl, h1, _⟩
  · exact Off.none _ _ _
  · exact Off.some (by omega)
theorem InR.wrap (x : Int) : Cd.InR (wrap64 x) := by unfold Cd.InR wrap64; omega
theorem InR.wrapI (x : Int) : Cd.InR (IntKind.i64.wrap x) := by rw [IntKind.wrap_i64]; unfold Cd.InR; omega
theorem InR.nat {x : Nat} (h : x ≤ 1000000) : Cd.InR (x : Int) := by unfold Cd.InR; omega
set_option maxRecDepth 100000 in
set_option maxHeartbeats 4000000 in
theorem odd_any (m : Msg) (dv pv : Value) (g : Nat) (l : List Int) (s D P : Nat) (w : World) (hd : IsDice w g l s) (hm : MsgIn w m dv pv) (od : Off g dv) (op : Off g pv) (hD : m.data.length ≤ D) (hP : m.path.length ≤ P) (hD2 : D ≤ 1000000) (hP2 : P ≤ 1000000) :
    Calls Tryz.prog 12 #[.pointer (some ⟨g, 0, none⟩), msgV m dv pv] w (GotM g l s (D + 1) (P + 1) (s + 1) (s + 2) w) := by
  obtain ⟨kind, epoch, inst, round, bit, root, len, data, path⟩ := m
  have hg : g < w.heap.size := hd.lt
  obtain ⟨nd, hnd⟩ : ∃ n, n = data.length := ⟨_, rfl⟩
  obtain ⟨np, hnp⟩ : ∃ n, n = path.length := ⟨_, rfl⟩
  obtain ⟨ad, cd, rfl⟩ : ∃ a c, dv = .slice a nd c := by rw [hnd]; exact hm.data.form
  obtain ⟨ap, cp, rfl⟩ : ∃ a c, pv = .slice a np c := by rw [hnp]; exact hm.path.form
  unfold msgV
  have D0 := Lib.hid (((Dy.new hd).alloc (.cells #[.int .i64 kind, .int .i64 epoch, .int .i64 inst, .int .i64 round, .int .i64 bit, .int .u64 (uv root), .int .i64 len, .slice ad nd cd, .slice ap np cp] 27)).alloc (.cells #[.int .i64 0, .int .i64 0, .int .i64 0, .int .i64 0, .int .i64 0, .int .u64 0, .int .i64 0, .slice none 0 0, .slice none 0 0] 27))
  have R0 := Lib.hid ((RecN.new w #[.int .i64 kind, .int .i64 epoch, .int .i64 inst, .int .i64 round, .int .i64 bit, .int .u64 (uv root), .int .i64 len, .slice ad nd cd, .slice ap np cp] 27).alloc (.cells #[.int .i64 0, .int .i64 0, .int .i64 0, .int .i64 0, .int .i64 0, .int .u64 0, .int .i64 0, .slice none 0 0, .slice none 0 0] 27))
  have R1 := Lib.hid (RecN.new (w.alloc (.cells #[.int .i64 kind, .int .i64 epoch, .int .i64 inst, .int .i64 round, .int .i64 bit, .int .u64 (uv root), .int .i64 len, .slice ad nd cd, .slice ap np cp] 27)) #[.int .i64 0, .int .i64 0, .int .i64 0, .int .i64 0, .int .i64 0, .int .u64 0, .int .i64 0, .slice none 0 0, .slice none 0 0] 27)
  have M0 := Lib.hid ((hm.alloc (.cells #[.int .i64 kind, .int .i64 epoch, .int .i64 inst, .int .i64 round, .int .i64 bit, .int .u64 (uv root), .int .i64 len, .slice ad nd cd, .slice ap np cp] 27)).alloc (.cells #[.int .i64 0, .int .i64 0, .int .i64 0, .int .i64 0, .int .i64 0, .int .u64 0, .int .i64 0, .slice none 0 0, .slice none 0 0] 27))
  have hN1 : (w.alloc (.cells #[.int .i64 kind, .int .i64 epoch, .int .i64 inst, .int .i64 round, .int .i64 bit, .int .u64 (uv root), .int .i64 len, .slice ad nd cd, .slice ap np cp] 27)).heap.size = w.heap.size + 1 := by simp
  rw [hN1] at R1
  have HD0 := Lib.hid (hm.data.below (((Below.refl w.heap.size w).alloc (Nat.le_refl _) (.cells #[.int .i64 kind, .int .i64 epoch, .int .i64 inst, .int .i64 round, .int .i64 bit, .int .u64 (uv root), .int .i64 len, .slice ad nd cd, .slice ap np cp] 27)).alloc (by simp) (.cells #[.int .i64 0, .int .i64 0, .int .i64 0, .int .i64 0, .int .i64 0, .int .u64 0, .int .i64 0, .slice none 0 0, .slice none 0 0] 27)) (Nat.le_refl _))
  have HP0 := Lib.hid (hm.path.below (((Below.refl w.heap.size w).alloc (Nat.le_refl _) (.cells #[.int .i64 kind, .int .i64 epoch, .int .i64 inst, .int .i64 round, .int .i64 bit, .int .u64 (uv root), .int .i64 len, .slice ad nd cd, .slice ap np cp] 27)).alloc (by simp) (.cells #[.int .i64 0, .int .i64 0, .int .i64 0, .int .i64 0, .int .i64 0, .int .u64 0, .int .i64 0, .slice none 0 0, .slice none 0 0] 27)) (Nat.le_refl _))
  obtain ⟨n0d, n0p⟩ := hm.off w.heap.size (Nat.le_refl _)
  obtain ⟨n1d, n1p⟩ := hm.off (w.heap.size + 1) (by omega)
  have C := Lib.hid (next_dy 9 g l s _ (by omega) (by omega) D0.out.dice)
  have OD := Lib.hid od; have OP := Lib.hid op; have N0D := Lib.hid n0d; have N0P := Lib.hid n0p; have N1D := Lib.hid n1d; have N1P := Lib.hid n1p
  have WF := Lib.hid hm.wf
  have HDL := Lib.hid (And.intro hD hP)
  have hnd2 : nd ≤ 1000000 := by rw [hnd]; exact Nat.le_trans hD hD2
  have hnp2 : np ≤ 1000000 := by rw [hnp]; exact Nat.le_trans hP hP2
  have HND := Lib.hid hnd; have HNP := Lib.hid hnp
  clear hd hm od op n0d n0p n1d n1p hD hP hnd hnp hN1 hD2 hP2
  have hn01 : w.heap.size ≠ w.heap.size + 1 := by omega
  go_enter Tryz.func12, Tryz.ntmps12
  go_wp2_with fail
  refine (C.out).mono ?_; rintro e w1 ⟨r, rfl, hr, -, d1⟩
  have D1 := Lib.hid (D0.out.trans d1)
  have Q0 := Lib.hid (R0.out.but d1.but (by omega))
  have Q1 := Lib.hid (R1.out.but d1.but (by omega))
  have M1 := Lib.hid (M0.out.but d1.but OD.out OP.out)
  have HD1 := Lib.hid (HD0.out.but OD.out d1.but); have HP1 := Lib.hid (HP0.out.but OP.out d1.but)
  clear d1
  rcases (show r = 0 ∨ r = 1 ∨ r = 2 ∨ r = 3 ∨ r = 4 ∨ r = 5 ∨ r = 6 ∨ r = 7 ∨ r = 8 by omega) with rfl | rfl | rfl | rfl | rfl | rfl | rfl | rfl | rfl
  · have y1 := Q0.out.c 1 rfl
    have C2 := Lib.hid (next_dy 3 g l (s + 1) w1.drew (by omega) (by omega) D1.out.dice.drew)
    go_wp2_with fail
    go_region_law (go_simp; go_at_call 24; refine (C2.out).mono ?_; rintro e w2 ⟨r2, rfl, hr2, -, d2⟩; have y1b := d2.cell (p := ⟨w.heap.size, 1, none⟩) (by show w.heap.size ≠ g; omega) y1; have D2 := Lib.hid (D1.out.drew.trans d2); have P0 := Lib.hid (Q0.out.drew.but d2.but (by omega)); have P1 := Lib.hid (Q1.out.drew.but d2.but (by omega)); have M2 := Lib.hid (M1.out.drew.but d2.but OD.out OP.out); have g1 := P0.out.f 1 (by simp))
    all_goals
      obtain ⟨z, hz⟩ : ∃ z, z = IntKind.i64.wrap (epoch + IntKind.i64.wrap ((r2 : Int) - 1)) := ⟨_, rfl⟩
      rw [← hz]
      have HZ := Lib.hid (show Cd.InR z by rw [hz]; exact InR.wrapI _)
      clear y1 hz
      have y0 := P0.out.c 0 rfl
      have y2 := P0.out.c 2 rfl
      have y3 := P0.out.c 3 rfl
      have y4 := P0.out.c 4 rfl
      have y5 := P0.out.c 5 rfl
      have y6 := P0.out.c 6 rfl
      have y7 := P0.out.c 7 rfl
      have y8 := P0.out.c 8 rfl
      have x0 := P1.out.c 0 rfl; have f0 := P1.out.f 0 (by simp)
      have x1 := P1.out.c 1 rfl; have f1 := P1.out.f 1 (by simp)
      have x2 := P1.out.c 2 rfl; have f2 := P1.out.f 2 (by simp)
      have x3 := P1.out.c 3 rfl; have f3 := P1.out.f 3 (by simp)
      have x4 := P1.out.c 4 rfl; have f4 := P1.out.f 4 (by simp)
      have x5 := P1.out.c 5 rfl; have f5 := P1.out.f 5 (by simp)
      have x6 := P1.out.c 6 rfl; have f6 := P1.out.f 6 (by simp)
      have x7 := P1.out.c 7 rfl; have f7 := P1.out.f 7 (by simp)
      have x8 := P1.out.c 8 rfl; have f8 := P1.out.f 8 (by simp)
      go_wp2_with fail
      refine bodyPost_ret (results_cell rfl _ _ ⟨w.heap.size + 1, 0, none⟩ rfl (load_msg _ _ ⟨kind, z, inst, round, bit, root, len, data, path⟩ (.slice ad nd cd) (.slice ap np cp) (by go_simp) (by go_simp) (by go_simp) (by go_simp) (by go_simp) (by go_simp) (by go_simp) (by go_simp) (by go_simp))) rfl ?_
      exact GotM.fin (N := w.heap.size + 1) (w1 := _) (m := ⟨kind, z, inst, round, bit, root, len, data, path⟩) (show MsgIn _ ⟨kind, z, inst, round, bit, root, len, data, path⟩ _ _ from ⟨⟨WF.out.kind, HZ.out, WF.out.inst, WF.out.round, WF.out.bit, WF.out.len⟩, (M2.out.set w.heap.size 1 _ N0D.out N0P.out).data, (M2.out.set w.heap.size 1 _ N0D.out N0P.out).path⟩) OD.out OP.out N1D.out N1P.out (by have := HDL.out; exact Nat.le_succ_of_le this.1) (by have := HDL.out; exact Nat.le_succ_of_le this.2) (by omega) (by omega) (by omega) (D2.out.setCell (p := ⟨w.heap.size, 1, none⟩) (Nat.le_refl _) _) _ _ _ _ _ _ _ _ _
  · have y2 := Q0.out.c 2 rfl
    have C2 := Lib.hid (next_dy 3 g l (s + 1) w1.drew (by omega) (by omega) D1.out.dice.drew)
    go_wp2_with fail
    go_region_law (go_simp; go_at_call 24; refine (C2.out).mono ?_; rintro e w2 ⟨r2, rfl, hr2, -, d2⟩; have y2b := d2.cell (p := ⟨w.heap.size, 2, none⟩) (by show w.heap.size ≠ g; omega) y2; have D2 := Lib.hid (D1.out.drew.trans d2); have P0 := Lib.hid (Q0.out.drew.but d2.but (by omega)); have P1 := Lib.hid (Q1.out.drew.but d2.but (by omega)); have M2 := Lib.hid (M1.out.drew.but d2.but OD.out OP.out); have g2 := P0.out.f 2 (by simp))
    all_goals
      obtain ⟨z, hz⟩ : ∃ z, z = IntKind.i64.wrap (inst + IntKind.i64.wrap ((r2 : Int) - 1)) := ⟨_, rfl⟩
      rw [← hz]
      have HZ := Lib.hid (show Cd.InR z by rw [hz]; exact InR.wrapI _)
      clear y2 hz
      have y0 := P0.out.c 0 rfl
      have y1 := P0.out.c 1 rfl
      have y3 := P0.out.c 3 rfl
      have y4 := P0.out.c 4 rfl
      have y5 := P0.out.c 5 rfl
      have y6 := P0.out.c 6 rfl
      have y7 := P0.out.c 7 rfl
      have y8 := P0.out.c 8 rfl
      have x0 := P1.out.c 0 rfl; have f0 := P1.out.f 0 (by simp)
      have x1 := P1.out.c 1 rfl; have f1 := P1.out.f 1 (by simp)
      have x2 := P1.out.c 2 rfl; have f2 := P1.out.f 2 (by simp)
      have x3 := P1.out.c 3 rfl; have f3 := P1.out.f 3 (by simp)
      have x4 := P1.out.c 4 rfl; have f4 := P1.out.f 4 (by simp)
      have x5 := P1.out.c 5 rfl; have f5 := P1.out.f 5 (by simp)
      have x6 := P1.out.c 6 rfl; have f6 := P1.out.f 6 (by simp)
      have x7 := P1.out.c 7 rfl; have f7 := P1.out.f 7 (by simp)
      have x8 := P1.out.c 8 rfl; have f8 := P1.out.f 8 (by simp)
      go_wp2_with fail
      refine bodyPost_ret (results_cell rfl _ _ ⟨w.heap.size + 1, 0, none⟩ rfl (load_msg _ _ ⟨kind, epoch, z, round, bit, root, len, data, path⟩ (.slice ad nd cd) (.slice ap np cp) (by go_simp) (by go_simp) (by go_simp) (by go_simp) (by go_simp) (by go_simp) (by go_simp) (by go_simp) (by go_simp))) rfl ?_
      exact GotM.fin (N := w.heap.size + 1) (w1 := _) (m := ⟨kind, epoch, z, round, bit, root, len, data, path⟩) (show MsgIn _ ⟨kind, epoch, z, round, bit, root, len, data, path⟩ _ _ from ⟨⟨WF.out.kind, WF.out.epoch, HZ.out, WF.out.round, WF.out.bit, WF.out.len⟩, (M2.out.set w.heap.size 2 _ N0D.out N0P.out).data, (M2.out.set w.heap.size 2 _ N0D.out N0P.out).path⟩) OD.out OP.out N1D.out N1P.out (by have := HDL.out; exact Nat.le_succ_of_le this.1) (by have := HDL.out; exact Nat.le_succ_of_le this.2) (by omega) (by omega) (by omega) (D2.out.setCell (p := ⟨w.heap.size, 2, none⟩) (Nat.le_refl _) _) _ _ _ _ _ _ _ _ _
  · have y3 := Q0.out.c 3 rfl
    have C2 := Lib.hid (next_dy 70 g l (s + 1) w1.drew (by omega) (by omega) D1.out.dice.drew)
    go_wp2_with fail
    go_region_law (go_simp; go_at_call 24; refine (C2.out).mono ?_; rintro e w2 ⟨r2, rfl, hr2, -, d2⟩; have y3b := d2.cell (p := ⟨w.heap.size, 3, none⟩) (by show w.heap.size ≠ g; omega) y3; have D2 := Lib.hid (D1.out.drew.trans d2); have P0 := Lib.hid (Q0.out.drew.but d2.but (by omega)); have P1 := Lib.hid (Q1.out.drew.but d2.but (by omega)); have M2 := Lib.hid (M1.out.drew.but d2.but OD.out OP.out); have g3 := P0.out.f 3 (by simp))
    all_goals
      obtain ⟨z, hz⟩ : ∃ z, z = IntKind.i64.wrap (round + IntKind.i64.wrap ((r2 : Int) - 3)) := ⟨_, rfl⟩
      rw [← hz]
      have HZ := Lib.hid (show Cd.InR z by rw [hz]; exact InR.wrapI _)
      clear y3 hz
      have y0 := P0.out.c 0 rfl
      have y1 := P0.out.c 1 rfl
      have y2 := P0.out.c 2 rfl
      have y4 := P0.out.c 4 rfl
      have y5 := P0.out.c 5 rfl
      have y6 := P0.out.c 6 rfl
      have y7 := P0.out.c 7 rfl
      have y8 := P0.out.c 8 rfl
      have x0 := P1.out.c 0 rfl; have f0 := P1.out.f 0 (by simp)
      have x1 := P1.out.c 1 rfl; have f1 := P1.out.f 1 (by simp)
      have x2 := P1.out.c 2 rfl; have f2 := P1.out.f 2 (by simp)
      have x3 := P1.out.c 3 rfl; have f3 := P1.out.f 3 (by simp)
      have x4 := P1.out.c 4 rfl; have f4 := P1.out.f 4 (by simp)
      have x5 := P1.out.c 5 rfl; have f5 := P1.out.f 5 (by simp)
      have x6 := P1.out.c 6 rfl; have f6 := P1.out.f 6 (by simp)
      have x7 := P1.out.c 7 rfl; have f7 := P1.out.f 7 (by simp)
      have x8 := P1.out.c 8 rfl; have f8 := P1.out.f 8 (by simp)
      go_wp2_with fail
      refine bodyPost_ret (results_cell rfl _ _ ⟨w.heap.size + 1, 0, none⟩ rfl (load_msg _ _ ⟨kind, epoch, inst, z, bit, root, len, data, path⟩ (.slice ad nd cd) (.slice ap np cp) (by go_simp) (by go_simp) (by go_simp) (by go_simp) (by go_simp) (by go_simp) (by go_simp) (by go_simp) (by go_simp))) rfl ?_
      exact GotM.fin (N := w.heap.size + 1) (w1 := _) (m := ⟨kind, epoch, inst, z, bit, root, len, data, path⟩) (show MsgIn _ ⟨kind, epoch, inst, z, bit, root, len, data, path⟩ _ _ from ⟨⟨WF.out.kind, WF.out.epoch, WF.out.inst, HZ.out, WF.out.bit, WF.out.len⟩, (M2.out.set w.heap.size 3 _ N0D.out N0P.out).data, (M2.out.set w.heap.size 3 _ N0D.out N0P.out).path⟩) OD.out OP.out N1D.out N1P.out (by have := HDL.out; exact Nat.le_succ_of_le this.1) (by have := HDL.out; exact Nat.le_succ_of_le this.2) (by omega) (by omega) (by omega) (D2.out.setCell (p := ⟨w.heap.size, 3, none⟩) (Nat.le_refl _) _) _ _ _ _ _ _ _ _ _
  · have y4 := Q0.out.c 4 rfl
    have C2 := Lib.hid (next_dy 4 g l (s + 1) w1.drew (by omega) (by omega) D1.out.dice.drew)
    go_wp2_with fail
    go_region_law (go_simp; go_at_call 24; refine (C2.out).mono ?_; rintro e w2 ⟨r2, rfl, hr2, -, d2⟩; have y4b := d2.cell (p := ⟨w.heap.size, 4, none⟩) (by show w.heap.size ≠ g; omega) y4; have D2 := Lib.hid (D1.out.drew.trans d2); have P0 := Lib.hid (Q0.out.drew.but d2.but (by omega)); have P1 := Lib.hid (Q1.out.drew.but d2.but (by omega)); have M2 := Lib.hid (M1.out.drew.but d2.but OD.out OP.out); have g4 := P0.out.f 4 (by simp))
    all_goals
      obtain ⟨z, hz⟩ : ∃ z, z = IntKind.i64.wrap (bit + IntKind.i64.wrap ((r2 : Int) - 1)) := ⟨_, rfl⟩
      rw [← hz]
      have HZ := Lib.hid (show Cd.InR z by rw [hz]; exact InR.wrapI _)
      clear y4 hz
      have y0 := P0.out.c 0 rfl
      have y1 := P0.out.c 1 rfl
      have y2 := P0.out.c 2 rfl
      have y3 := P0.out.c 3 rfl
      have y5 := P0.out.c 5 rfl
      have y6 := P0.out.c 6 rfl
      have y7 := P0.out.c 7 rfl
      have y8 := P0.out.c 8 rfl
      have x0 := P1.out.c 0 rfl; have f0 := P1.out.f 0 (by simp)
      have x1 := P1.out.c 1 rfl; have f1 := P1.out.f 1 (by simp)
      have x2 := P1.out.c 2 rfl; have f2 := P1.out.f 2 (by simp)
      have x3 := P1.out.c 3 rfl; have f3 := P1.out.f 3 (by simp)
      have x4 := P1.out.c 4 rfl; have f4 := P1.out.f 4 (by simp)
      have x5 := P1.out.c 5 rfl; have f5 := P1.out.f 5 (by simp)
      have x6 := P1.out.c 6 rfl; have f6 := P1.out.f 6 (by simp)
      have x7 := P1.out.c 7 rfl; have f7 := P1.out.f 7 (by simp)
      have x8 := P1.out.c 8 rfl; have f8 := P1.out.f 8 (by simp)
      go_wp2_with fail
      refine bodyPost_ret (results_cell rfl _ _ ⟨w.heap.size + 1, 0, none⟩ rfl (load_msg _ _ ⟨kind, epoch, inst, round, z, root, len, data, path⟩ (.slice ad nd cd) (.slice ap np cp) (by go_simp) (by go_simp) (by go_simp) (by go_simp) (by go_simp) (by go_simp) (by go_simp) (by go_simp) (by go_simp))) rfl ?_
      exact GotM.fin (N := w.heap.size + 1) (w1 := _) (m := ⟨kind, epoch, inst, round, z, root, len, data, path⟩) (show MsgIn _ ⟨kind, epoch, inst, round, z, root, len, data, path⟩ _ _ from ⟨⟨WF.out.kind, WF.out.epoch, WF.out.inst, WF.out.round, HZ.out, WF.out.len⟩, (M2.out.set w.heap.size 4 _ N0D.out N0P.out).data, (M2.out.set w.heap.size 4 _ N0D.out N0P.out).path⟩) OD.out OP.out N1D.out N1P.out (by have := HDL.out; exact Nat.le_succ_of_le this.1) (by have := HDL.out; exact Nat.le_succ_of_le this.2) (by omega) (by omega) (by omega) (D2.out.setCell (p := ⟨w.heap.size, 4, none⟩) (Nat.le_refl _) _) _ _ _ _ _ _ _ _ _
  · have C2 := Lib.hid (next_dy 14 g l (s + 1) w1 (by omega) (by omega) D1.out.dice)
    go_wp2_with fail
    refine (C2.out).mono ?_; rintro e w2 ⟨r2, rfl, hr2, -, d2⟩
    have D2 := Lib.hid (D1.out.trans d2); have P0 := Lib.hid (Q0.out.but d2.but (by omega)); have P1 := Lib.hid (Q1.out.but d2.but (by omega)); have M2 := Lib.hid (M1.out.but d2.but OD.out OP.out)
    have g0 := P0.out.f 0 (by simp)
    have HZ := Lib.hid (show Cd.InR (r2 : Int) from InR.nat (by omega))
    clear d2
    have y0 := P0.out.c 0 rfl
    have y1 := P0.out.c 1 rfl
    have y2 := P0.out.c 2 rfl
    have y3 := P0.out.c 3 rfl
    have y4 := P0.out.c 4 rfl
    have y5 := P0.out.c 5 rfl
    have y6 := P0.out.c 6 rfl
    have y7 := P0.out.c 7 rfl
    have y8 := P0.out.c 8 rfl
    have x0 := P1.out.c 0 rfl; have f0 := P1.out.f 0 (by simp)
    have x1 := P1.out.c 1 rfl; have f1 := P1.out.f 1 (by simp)
    have x2 := P1.out.c 2 rfl; have f2 := P1.out.f 2 (by simp)
    have x3 := P1.out.c 3 rfl; have f3 := P1.out.f 3 (by simp)
    have x4 := P1.out.c 4 rfl; have f4 := P1.out.f 4 (by simp)
    have x5 := P1.out.c 5 rfl; have f5 := P1.out.f 5 (by simp)
    have x6 := P1.out.c 6 rfl; have f6 := P1.out.f 6 (by simp)
    have x7 := P1.out.c 7 rfl; have f7 := P1.out.f 7 (by simp)
    have x8 := P1.out.c 8 rfl; have f8 := P1.out.f 8 (by simp)
    go_wp2_with fail
    refine bodyPost_ret (results_cell rfl _ _ ⟨w.heap.size + 1, 0, none⟩ rfl (load_msg _ _ ⟨(r2 : Int), epoch, inst, round, bit, root, len, data, path⟩ (.slice ad nd cd) (.slice ap np cp) (by go_simp) (by go_simp) (by go_simp) (by go_simp) (by go_simp) (by go_simp) (by go_simp) (by go_simp) (by go_simp))) rfl ?_
    exact GotM.fin (N := w.heap.size + 1) (w1 := _) (m := ⟨(r2 : Int), epoch, inst, round, bit, root, len, data, path⟩) (show MsgIn _ ⟨(r2 : Int), epoch, inst, round, bit, root, len, data, path⟩ _ _ from ⟨⟨HZ.out, WF.out.epoch, WF.out.inst, WF.out.round, WF.out.bit, WF.out.len⟩, (M2.out.set w.heap.size 0 _ N0D.out N0P.out).data, (M2.out.set w.heap.size 0 _ N0D.out N0P.out).path⟩) OD.out OP.out N1D.out N1P.out (by have := HDL.out; exact Nat.le_succ_of_le this.1) (by have := HDL.out; exact Nat.le_succ_of_le this.2) (by omega) (by omega) (by omega) (D2.out.setCell (p := ⟨w.heap.size, 0, none⟩) (Nat.le_refl _) _) _ _ _ _ _ _ _ _ _
  · have hclip := run_clip ad nd cd w1 M1.out.data.cap_le
    have AP := Lib.hid (M1.out.data.app rfl (w.heap.size + 2))
    have S1 := Lib.hid (show w.heap.size + 2 ≤ w1.heap.size by have := Q1.out.1; omega)
    have y7 := Q0.out.c 7 rfl
    go_wp2_with (at_builtin; refine wpList_append_app rfl (.tmp 58) (.tmp 59) rfl (w.heap.size + 2) _ _ data [7#8] rfl (AP.out.alloc _) rfl (w1.heap.size + 1) (one_byte w1 7#8 7 rfl) (by simp) (by have := HND.out; simp; omega) (by have := S1.out; simp; omega) (nd + 1) (by have := HND.out; simp; omega) ?_)
    intro a3 cap3 w3 own3 bel3
    have B3 := Lib.hid (((Below.refl (w.heap.size + 2) w1).alloc S1.out (.cells #[.int .u8 7] 5)).trans bel3)
    have P0 := Lib.hid (Q0.out.below B3.out (by omega)); have P1 := Lib.hid (Q1.out.below B3.out (by omega)); have D2 := Lib.hid (D1.out.later (B3.out.mono (by omega)))
    have P3 := Lib.hid (HP1.out.below B3.out (by omega))
    have O3 := Lib.hid own3
    have g7 := P0.out.f 7 (by simp)
    have L3 := Lib.hid (show (data ++ [7#8]).length ≤ D + 1 by have := HDL.out; simp; omega)
    clear own3 bel3 hclip y7
    have y0 := P0.out.c 0 rfl
    have y1 := P0.out.c 1 rfl
    have y2 := P0.out.c 2 rfl
    have y3 := P0.out.c 3 rfl
    have y4 := P0.out.c 4 rfl
    have y5 := P0.out.c 5 rfl
    have y6 := P0.out.c 6 rfl
    have y7 := P0.out.c 7 rfl
    have y8 := P0.out.c 8 rfl
    have x0 := P1.out.c 0 rfl; have f0 := P1.out.f 0 (by simp)
    have x1 := P1.out.c 1 rfl; have f1 := P1.out.f 1 (by simp)
    have x2 := P1.out.c 2 rfl; have f2 := P1.out.f 2 (by simp)
    have x3 := P1.out.c 3 rfl; have f3 := P1.out.f 3 (by simp)
    have x4 := P1.out.c 4 rfl; have f4 := P1.out.f 4 (by simp)
    have x5 := P1.out.c 5 rfl; have f5 := P1.out.f 5 (by simp)
    have x6 := P1.out.c 6 rfl; have f6 := P1.out.f 6 (by simp)
    have x7 := P1.out.c 7 rfl; have f7 := P1.out.f 7 (by simp)
    have x8 := P1.out.c 8 rfl; have f8 := P1.out.f 8 (by simp)
    go_wp2_with fail
    refine bodyPost_ret (results_cell rfl _ _ ⟨w.heap.size + 1, 0, none⟩ rfl (load_msg _ _ ⟨kind, epoch, inst, round, bit, root, len, (data ++ [7#8]), path⟩ (.slice a3 (nd + 1) cap3) (.slice ap np cp) (by go_simp) (by go_simp) (by go_simp) (by go_simp) (by go_simp) (by go_simp) (by go_simp) (by go_simp) (by go_simp))) rfl ?_
    exact GotM.fin (N := w.heap.size + 1) (w1 := _) (m := ⟨kind, epoch, inst, round, bit, root, len, (data ++ [7#8]), path⟩) (show MsgIn _ ⟨kind, epoch, inst, round, bit, root, len, (data ++ [7#8]), path⟩ _ _ from ⟨⟨WF.out.kind, WF.out.epoch, WF.out.inst, WF.out.round, WF.out.bit, WF.out.len⟩, (O3.out.has.but (O3.out.off (by omega)) ((But.refl w.heap.size w3).setCell 7 _)).wide (by simp), (P3.out.but N0P.out ((But.refl w.heap.size w3).setCell 7 _)).wide (by have := D2.out.size; simp; omega)⟩) (O3.out.off (by omega)) OP.out (O3.out.off (by omega)) N1P.out (L3.out) (by have := HDL.out; exact Nat.le_succ_of_le this.2) (by omega) (by omega) (by omega) (D2.out.setCell (p := ⟨w.heap.size, 7, none⟩) (Nat.le_refl _) _) _ _ _ _ _ _ _ _ _
  · have hclip := words_max ap np cp np w1 M1.out.path.cap_le (np : Int) rfl
    have F1 := Lib.hid ((M1.out.path.full.below ((Below.refl w1.heap.size w1).alloc (Nat.le_refl _) (.cells #[.int .u64 9] 23)) (Nat.le_refl _)).wide (show w1.heap.size ≤ w1.heap.size + 1 by omega))
    have S1 := Lib.hid (show w.heap.size + 2 ≤ w1.heap.size by have := Q1.out.1; omega)
    have y8 := Q0.out.c 8 rfl
    have hnine : (w1.alloc (.cells #[.int .u64 9] 23)).cell? ⟨w1.heap.size, 0, none⟩ = some (wval 9#64) := by go_simp; rfl
    go_wp2_with (at_builtin; refine wpList_append_fullw rfl (.tmp 72) (.tmp 73) rfl ap np path 9#64 w1.heap.size 1 rfl HNP.out (w1.heap.size + 1) F1.out rfl hnine (by have := HNP.out; omega) ?_)
    intro v3 w3 own3 bel3
    have hown : OwnW (w.heap.size + 2) w3 v3 (path ++ [9#64]) := own3.mono (by have := S1.out; simp; omega)
    obtain ⟨a3, cap3, rfl⟩ : ∃ a c, v3 = .slice a (np + 1) c := by obtain ⟨a, c, h⟩ := hown.has.form; exact ⟨a, c, by rw [h, HNP.out]; simp⟩
    have B3 := Lib.hid (((Below.refl (w.heap.size + 2) w1).alloc S1.out (.cells #[.int .u64 9] 23)).trans (bel3.mono (by have := S1.out; simp; omega)))
    have P0 := Lib.hid (Q0.out.below B3.out (by omega)); have P1 := Lib.hid (Q1.out.below B3.out (by omega)); have D2 := Lib.hid (D1.out.later (B3.out.mono (by omega)))
    have P3 := Lib.hid (HD1.out.below B3.out (by omega))
    have O3 := Lib.hid hown
    have g8 := P0.out.f 8 (by simp)
    have L3 := Lib.hid (show (path ++ [9#64]).length ≤ P + 1 by have := HDL.out; simp; omega)
    clear own3 bel3 hclip y8 hown hnine
    have y0 := P0.out.c 0 rfl
    have y1 := P0.out.c 1 rfl
    have y2 := P0.out.c 2 rfl
    have y3 := P0.out.c 3 rfl
    have y4 := P0.out.c 4 rfl
    have y5 := P0.out.c 5 rfl
    have y6 := P0.out.c 6 rfl
    have y7 := P0.out.c 7 rfl
    have y8 := P0.out.c 8 rfl
    have x0 := P1.out.c 0 rfl; have f0 := P1.out.f 0 (by simp)
    have x1 := P1.out.c 1 rfl; have f1 := P1.out.f 1 (by simp)
    have x2 := P1.out.c 2 rfl; have f2 := P1.out.f 2 (by simp)
    have x3 := P1.out.c 3 rfl; have f3 := P1.out.f 3 (by simp)
    have x4 := P1.out.c 4 rfl; have f4 := P1.out.f 4 (by simp)
    have x5 := P1.out.c 5 rfl; have f5 := P1.out.f 5 (by simp)
    have x6 := P1.out.c 6 rfl; have f6 := P1.out.f 6 (by simp)
    have x7 := P1.out.c 7 rfl; have f7 := P1.out.f 7 (by simp)
    have x8 := P1.out.c 8 rfl; have f8 := P1.out.f 8 (by simp)
    go_wp2_with fail
    refine bodyPost_ret (results_cell rfl _ _ ⟨w.heap.size + 1, 0, none⟩ rfl (load_msg _ _ ⟨kind, epoch, inst, round, bit, root, len, data, (path ++ [9#64])⟩ (.slice ad nd cd) (.slice a3 (np + 1) cap3) (by go_simp) (by go_simp) (by go_simp) (by go_simp) (by go_simp) (by go_simp) (by go_simp) (by go_simp) (by go_simp))) rfl ?_
    exact GotM.fin (N := w.heap.size + 1) (w1 := _) (m := ⟨kind, epoch, inst, round, bit, root, len, data, (path ++ [9#64])⟩) (show MsgIn _ ⟨kind, epoch, inst, round, bit, root, len, data, (path ++ [9#64])⟩ _ _ from ⟨⟨WF.out.kind, WF.out.epoch, WF.out.inst, WF.out.round, WF.out.bit, WF.out.len⟩, (P3.out.but N0D.out ((But.refl w.heap.size w3).setCell 8 _)).wide (by have := D2.out.size; simp; omega), (O3.out.has.but (O3.out.off (by omega)) ((But.refl w.heap.size w3).setCell 8 _)).wide (by simp)⟩) OD.out (O3.out.off (by omega)) N1D.out (O3.out.off (by omega)) (by have := HDL.out; exact Nat.le_succ_of_le this.1) (L3.out) (by omega) (by omega) (by omega) (D2.out.setCell (p := ⟨w.heap.size, 8, none⟩) (Nat.le_refl _) _) _ _ _ _ _ _ _ _ _
  · have g5 := Q0.out.f 5 (by simp)
    have hroot : IntKind.u64.wrap (uv root + 1) = uv (root + 1#64) := by rw [← uv_add]; rfl
    generalize root + 1#64 = z at hroot
    have y0 := Q0.out.c 0 rfl
    have y1 := Q0.out.c 1 rfl
    have y2 := Q0.out.c 2 rfl
    have y3 := Q0.out.c 3 rfl
    have y4 := Q0.out.c 4 rfl
    have y5 := Q0.out.c 5 rfl
    have y6 := Q0.out.c 6 rfl
    have y7 := Q0.out.c 7 rfl
    have y8 := Q0.out.c 8 rfl
    have x0 := Q1.out.c 0 rfl; have f0 := Q1.out.f 0 (by simp)
    have x1 := Q1.out.c 1 rfl; have f1 := Q1.out.f 1 (by simp)
    have x2 := Q1.out.c 2 rfl; have f2 := Q1.out.f 2 (by simp)
    have x3 := Q1.out.c 3 rfl; have f3 := Q1.out.f 3 (by simp)
    have x4 := Q1.out.c 4 rfl; have f4 := Q1.out.f 4 (by simp)
    have x5 := Q1.out.c 5 rfl; have f5 := Q1.out.f 5 (by simp)
    have x6 := Q1.out.c 6 rfl; have f6 := Q1.out.f 6 (by simp)
    have x7 := Q1.out.c 7 rfl; have f7 := Q1.out.f 7 (by simp)
    have x8 := Q1.out.c 8 rfl; have f8 := Q1.out.f 8 (by simp)
    go_wp2_with fail
    refine bodyPost_ret (results_cell rfl _ _ ⟨w.heap.size + 1, 0, none⟩ rfl (load_msg _ _ ⟨kind, epoch, inst, round, bit, z, len, data, path⟩ (.slice ad nd cd) (.slice ap np cp) (by go_simp) (by go_simp) (by go_simp) (by go_simp) (by go_simp) (by go_simp) (by go_simp) (by go_simp) (by go_simp))) rfl ?_
    exact GotM.fin (N := w.heap.size + 1) (w1 := _) (m := ⟨kind, epoch, inst, round, bit, z, len, data, path⟩) (show MsgIn _ ⟨kind, epoch, inst, round, bit, z, len, data, path⟩ _ _ from ⟨⟨WF.out.kind, WF.out.epoch, WF.out.inst, WF.out.round, WF.out.bit, WF.out.len⟩, (M1.out.set w.heap.size 5 _ N0D.out N0P.out).data, (M1.out.set w.heap.size 5 _ N0D.out N0P.out).path⟩) OD.out OP.out N1D.out N1P.out (by have := HDL.out; exact Nat.le_succ_of_le this.1) (by have := HDL.out; exact Nat.le_succ_of_le this.2) (by omega) (by omega) (by omega) (D1.out.setCell (p := ⟨w.heap.size, 5, none⟩) (Nat.le_refl _) _) _ _ _ _ _ _ _ _ _
  · skip
    have y0 := Q0.out.c 0 rfl
    have y1 := Q0.out.c 1 rfl
    have y2 := Q0.out.c 2 rfl
    have y3 := Q0.out.c 3 rfl
    have y4 := Q0.out.c 4 rfl
    have y5 := Q0.out.c 5 rfl
    have y6 := Q0.out.c 6 rfl
    have y7 := Q0.out.c 7 rfl
    have y8 := Q0.out.c 8 rfl
    have x0 := Q1.out.c 0 rfl; have f0 := Q1.out.f 0 (by simp)
    have x1 := Q1.out.c 1 rfl; have f1 := Q1.out.f 1 (by simp)
    have x2 := Q1.out.c 2 rfl; have f2 := Q1.out.f 2 (by simp)
    have x3 := Q1.out.c 3 rfl; have f3 := Q1.out.f 3 (by simp)
    have x4 := Q1.out.c 4 rfl; have f4 := Q1.out.f 4 (by simp)
    have x5 := Q1.out.c 5 rfl; have f5 := Q1.out.f 5 (by simp)
    have x6 := Q1.out.c 6 rfl; have f6 := Q1.out.f 6 (by simp)
    have x7 := Q1.out.c 7 rfl; have f7 := Q1.out.f 7 (by simp)
    have x8 := Q1.out.c 8 rfl; have f8 := Q1.out.f 8 (by simp)
    go_wp2_with fail
    refine bodyPost_ret (results_cell rfl _ _ ⟨w.heap.size + 1, 0, none⟩ rfl (load_msg _ _ ⟨kind, epoch, inst, round, bit, root, len, data, path⟩ (.slice ad nd cd) (.slice ap np cp) (by go_simp) (by go_simp) (by go_simp) (by go_simp) (by go_simp) (by go_simp) (by go_simp) (by go_simp) (by go_simp))) rfl ?_
    exact GotM.fin (N := w.heap.size + 1) (w1 := _) (m := ⟨kind, epoch, inst, round, bit, root, len, data, path⟩) (show MsgIn _ ⟨kind, epoch, inst, round, bit, root, len, data, path⟩ _ _ from ⟨⟨WF.out.kind, WF.out.epoch, WF.out.inst, WF.out.round, WF.out.bit, WF.out.len⟩, M1.out.data, M1.out.path⟩) OD.out OP.out N1D.out N1P.out (by have := HDL.out; exact Nat.le_succ_of_le this.1) (by have := HDL.out; exact Nat.le_succ_of_le this.2) (by omega) (by omega) (by omega) D1.out _ _ _ _ _ _ _ _ _
end Go.Proofs.YtgkckomccabmlaaGreatDoor
