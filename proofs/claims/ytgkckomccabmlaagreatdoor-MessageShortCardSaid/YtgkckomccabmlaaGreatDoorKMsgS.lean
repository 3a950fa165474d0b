/-
  What a message of the kinds 7, 8 and 9 is, as the kit makes it. At most the block of the dice has turned. No condition.
-/
import Derived.Test.YtgkckomccabmlaaGreatDoorOdd
namespace Go.Proofs.YtgkckomccabmlaaGreatDoor
open Go.ChangeShapes Go.WideShapes Go.ChangeAt Go.RowKit
open Dg (W B)
open Ms (Msg)
def ShortM (kind epoch inst : Int) (g : Nat) (l : List Int) (s : Nat) (w : World) (e : Ending) (w' : World) : Prop :=
  ∃ r b t : Nat, e = .returned (msgV ⟨kind, epoch, inst, (r : Int), (b : Int), 0#64, 0, [], []⟩ (.slice none 0 0) (.slice none 0 0)) ∧ r < 3 ∧ b ≤ 3 ∧ t ≤ s + 2 ∧ Dy g l s t w w'
theorem ShortM.fin {kind epoch inst : Int} {g : Nat} {l : List Int} {s t r b N : Nat} {w w1 : World} {bi : Int} (hr : r < 3) (hb : b ≤ 3) (hbi : bi = (b : Int)) (ht : t ≤ s + 2) (dy : Dy g l s t w w1) (hN : w.heap.size ≤ N) (a b' c d e f g' h i u v : Value) :
    ShortM kind epoch inst g l s w (.returned (msgV ⟨kind, epoch, inst, (r : Int), bi, 0#64, 0, [], []⟩ (.slice none 0 0) (.slice none 0 0))) (put9 ((w1.setCell ⟨N + 1, 3, none⟩ u).setCell ⟨N + 1, 4, none⟩ v) N a b' c d e f g' h i) := by
  subst hbi
  exact ⟨r, b, t, rfl, hr, hb, ht, ((dy.setCell (p := ⟨N + 1, 3, none⟩) (by show w.heap.size ≤ N + 1; omega) u).setCell (p := ⟨N + 1, 4, none⟩) (by show w.heap.size ≤ N + 1; omega) v).later ((below_put9 _ _ _ _ _ _ _ _ _ _ _).mono hN)⟩
set_option maxRecDepth 100000 in
set_option maxHeartbeats 4000000 in
theorem kmsg_short (kind : Int) (hk : kind = 7 ∨ kind = 8 ∨ kind = 9) (cn cf : Int) (x : W) (bv : Value) (sd : Int) (frm epoch inst : Int) (g : Nat) (l : List Int) (s : Nat) (w : World) (hd : IsDice w g l s) :
    Calls Tryz.prog 26 #[.pointer (some ⟨g, 0, none⟩), cfg cn cf, coinsV x bv, .int .u64 sd, .int .i64 frm, .int .i64 kind, .int .i64 epoch, .int .i64 inst] w (ShortM kind epoch inst g l s w) := by
  obtain ⟨A1, hA1⟩ : ∃ A1, A1 = w.alloc (.cells #[.int .i64 cn, .int .i64 cf] 51) := ⟨_, rfl⟩
  obtain ⟨A2, hA2⟩ : ∃ A2, A2 = A1.alloc (.cells #[.int .u64 (uv x), bv] 56) := ⟨_, rfl⟩
  have s1 : A1.heap.size = w.heap.size + 1 := by rw [hA1]; simp
  have s2 : A2.heap.size = w.heap.size + 2 := by rw [hA2]; simp; omega
  obtain ⟨A3, hA3⟩ : ∃ A3, A3 = A2.alloc (.cells #[.int .i64 0, .int .i64 0, .int .i64 0, .int .i64 0, .int .i64 0, .int .u64 0, .int .i64 0, .slice none 0 0, .slice none 0 0] 27) := ⟨_, rfl⟩
  have s3 : A3.heap.size = w.heap.size + 3 := by rw [hA3]; simp; omega
  have hd3 : Dy g l s s w A3 := by rw [hA3, hA2, hA1]; exact (((Dy.new hd).alloc _).alloc _).alloc _
  have R0 := Lib.hid ((RecN.new A2 #[.int .i64 0, .int .i64 0, .int .i64 0, .int .i64 0, .int .i64 0, .int .u64 0, .int .i64 0, .slice none 0 0, .slice none 0 0] 27).alloc (.cells #[.int .i64 kind, .int .i64 epoch, .int .i64 inst, .int .i64 0, .int .i64 0, .int .u64 0, .int .i64 0, .slice none 0 0, .slice none 0 0] 27))
  have R1 := Lib.hid (RecN.new A3 #[.int .i64 kind, .int .i64 epoch, .int .i64 inst, .int .i64 0, .int .i64 0, .int .u64 0, .int .i64 0, .slice none 0 0, .slice none 0 0] 27)
  rw [← hA3, s2] at R0
  rw [s3] at R1
  have D0 := Lib.hid (hd3.alloc (.cells #[.int .i64 kind, .int .i64 epoch, .int .i64 inst, .int .i64 0, .int .i64 0, .int .u64 0, .int .i64 0, .slice none 0 0, .slice none 0 0] 27))
  have hg : g < w.heap.size := hd.lt
  have C := Lib.hid (next_dy 3 g l s _ (by omega) (by omega) D0.out.dice)
  rw [hA3, hA2, hA1] at R0 R1 D0 C
  clear hd hd3 s1 s2 s3 hA3 A3 hA2 A2 hA1 A1
  unfold cfg coinsV
  have hn1 : w.heap.size + 2 ≠ w.heap.size + 3 := by omega
  have hn2 : w.heap.size + 2 ≠ g := by omega
  have hn3 : w.heap.size + 3 ≠ g := by omega
  rcases hk with rfl | rfl | rfl
  · go_enter Tryz.func26, Tryz.ntmps26
    go_wp2_with fail
    refine (C.out).mono ?_; rintro e w1 ⟨r, rfl, hr, -, d1⟩
    have D1 := Lib.hid (D0.out.trans d1)
    have Q0 := Lib.hid (R0.out.but d1.but hn2)
    have Q1 := Lib.hid (R1.out.but d1.but hn3)
    have C2 := Lib.hid (next_dy 2 g l (s + 1) w1 (by omega) (by omega) D1.out.dice)
    clear d1
    go_wp2_with fail
    refine (C2.out).mono ?_; rintro e w2 ⟨b, rfl, hb, -, d2⟩
    have D2 := Lib.hid (D1.out.trans d2)
    have P0 := Lib.hid (Q0.out.but d2.but hn2)
    have P1 := Lib.hid (Q1.out.but d2.but hn3)
    clear d2
    have x0 := P0.out.c 0 rfl; have f0 := P0.out.f 0 (by simp)
    have y0 := P1.out.c 0 rfl; have g0 := P1.out.f 0 (by simp)
    have x1 := P0.out.c 1 rfl; have f1 := P0.out.f 1 (by simp)
    have y1 := P1.out.c 1 rfl; have g1 := P1.out.f 1 (by simp)
    have x2 := P0.out.c 2 rfl; have f2 := P0.out.f 2 (by simp)
    have y2 := P1.out.c 2 rfl; have g2 := P1.out.f 2 (by simp)
    have x3 := P0.out.c 3 rfl; have f3 := P0.out.f 3 (by simp)
    have y3 := P1.out.c 3 rfl; have g3 := P1.out.f 3 (by simp)
    have x4 := P0.out.c 4 rfl; have f4 := P0.out.f 4 (by simp)
    have y4 := P1.out.c 4 rfl; have g4 := P1.out.f 4 (by simp)
    have x5 := P0.out.c 5 rfl; have f5 := P0.out.f 5 (by simp)
    have y5 := P1.out.c 5 rfl; have g5 := P1.out.f 5 (by simp)
    have x6 := P0.out.c 6 rfl; have f6 := P0.out.f 6 (by simp)
    have y6 := P1.out.c 6 rfl; have g6 := P1.out.f 6 (by simp)
    have x7 := P0.out.c 7 rfl; have f7 := P0.out.f 7 (by simp)
    have y7 := P1.out.c 7 rfl; have g7 := P1.out.f 7 (by simp)
    have x8 := P0.out.c 8 rfl; have f8 := P0.out.f 8 (by simp)
    have y8 := P1.out.c 8 rfl; have g8 := P1.out.f 8 (by simp)
    go_wp2_with fail
    refine bodyPost_ret (results_cell rfl _ _ ⟨w.heap.size + 2, 0, none⟩ rfl (load_msg _ _ ⟨7, epoch, inst, (r : Int), (b : Int), 0#64, 0, [], []⟩ (.slice none 0 0) (.slice none 0 0) (by go_simp) (by go_simp) (by go_simp) (by go_simp) (by go_simp) (by go_simp; rfl) (by go_simp) (by go_simp) (by go_simp))) rfl ?_
    exact ShortM.fin (N := w.heap.size + 2) (b := b) (t := s + 1 + 1) hr (by omega) rfl (by omega) D2.out (by omega) _ _ _ _ _ _ _ _ _ _ _
  · go_enter Tryz.func26, Tryz.ntmps26
    go_wp2_with fail
    refine (C.out).mono ?_; rintro e w1 ⟨r, rfl, hr, -, d1⟩
    have D1 := Lib.hid (D0.out.trans d1)
    have Q0 := Lib.hid (R0.out.but d1.but hn2)
    have Q1 := Lib.hid (R1.out.but d1.but hn3)
    have C2 := Lib.hid (next_dy 2 g l (s + 1) w1 (by omega) (by omega) D1.out.dice)
    clear d1
    go_wp2_with fail
    refine (C2.out).mono ?_; rintro e w2 ⟨b, rfl, hb, -, d2⟩
    have D2 := Lib.hid (D1.out.trans d2)
    have P0 := Lib.hid (Q0.out.but d2.but hn2)
    have P1 := Lib.hid (Q1.out.but d2.but hn3)
    clear d2
    have x0 := P0.out.c 0 rfl; have f0 := P0.out.f 0 (by simp)
    have y0 := P1.out.c 0 rfl; have g0 := P1.out.f 0 (by simp)
    have x1 := P0.out.c 1 rfl; have f1 := P0.out.f 1 (by simp)
    have y1 := P1.out.c 1 rfl; have g1 := P1.out.f 1 (by simp)
    have x2 := P0.out.c 2 rfl; have f2 := P0.out.f 2 (by simp)
    have y2 := P1.out.c 2 rfl; have g2 := P1.out.f 2 (by simp)
    have x3 := P0.out.c 3 rfl; have f3 := P0.out.f 3 (by simp)
    have y3 := P1.out.c 3 rfl; have g3 := P1.out.f 3 (by simp)
    have x4 := P0.out.c 4 rfl; have f4 := P0.out.f 4 (by simp)
    have y4 := P1.out.c 4 rfl; have g4 := P1.out.f 4 (by simp)
    have x5 := P0.out.c 5 rfl; have f5 := P0.out.f 5 (by simp)
    have y5 := P1.out.c 5 rfl; have g5 := P1.out.f 5 (by simp)
    have x6 := P0.out.c 6 rfl; have f6 := P0.out.f 6 (by simp)
    have y6 := P1.out.c 6 rfl; have g6 := P1.out.f 6 (by simp)
    have x7 := P0.out.c 7 rfl; have f7 := P0.out.f 7 (by simp)
    have y7 := P1.out.c 7 rfl; have g7 := P1.out.f 7 (by simp)
    have x8 := P0.out.c 8 rfl; have f8 := P0.out.f 8 (by simp)
    have y8 := P1.out.c 8 rfl; have g8 := P1.out.f 8 (by simp)
    go_wp2_with fail
    refine bodyPost_ret (results_cell rfl _ _ ⟨w.heap.size + 2, 0, none⟩ rfl (load_msg _ _ ⟨8, epoch, inst, (r : Int), (b : Int), 0#64, 0, [], []⟩ (.slice none 0 0) (.slice none 0 0) (by go_simp) (by go_simp) (by go_simp) (by go_simp) (by go_simp) (by go_simp; rfl) (by go_simp) (by go_simp) (by go_simp))) rfl ?_
    exact ShortM.fin (N := w.heap.size + 2) (b := b) (t := s + 1 + 1) hr (by omega) rfl (by omega) D2.out (by omega) _ _ _ _ _ _ _ _ _ _ _
  · go_enter Tryz.func26, Tryz.ntmps26
    go_wp2_with fail
    refine (C.out).mono ?_; rintro e w1 ⟨r, rfl, hr, -, d1⟩
    have D1 := Lib.hid (D0.out.trans d1)
    have Q0 := Lib.hid (R0.out.but d1.but hn2)
    have Q1 := Lib.hid (R1.out.but d1.but hn3)
    have C2 := Lib.hid (next_dy 3 g l (s + 1) w1 (by omega) (by omega) D1.out.dice)
    clear d1
    go_wp2_with fail
    refine (C2.out).mono ?_; rintro e w2 ⟨b, rfl, hb, -, d2⟩
    have D2 := Lib.hid (D1.out.trans d2)
    have P0 := Lib.hid (Q0.out.but d2.but hn2)
    have P1 := Lib.hid (Q1.out.but d2.but hn3)
    clear d2
    have hw1 : IntKind.i64.wrap (1 + (b : Int)) = ((b + 1 : Nat) : Int) := by rw [IntKind.wrap_i64]; omega
    have x0 := P0.out.c 0 rfl; have f0 := P0.out.f 0 (by simp)
    have y0 := P1.out.c 0 rfl; have g0 := P1.out.f 0 (by simp)
    have x1 := P0.out.c 1 rfl; have f1 := P0.out.f 1 (by simp)
    have y1 := P1.out.c 1 rfl; have g1 := P1.out.f 1 (by simp)
    have x2 := P0.out.c 2 rfl; have f2 := P0.out.f 2 (by simp)
    have y2 := P1.out.c 2 rfl; have g2 := P1.out.f 2 (by simp)
    have x3 := P0.out.c 3 rfl; have f3 := P0.out.f 3 (by simp)
    have y3 := P1.out.c 3 rfl; have g3 := P1.out.f 3 (by simp)
    have x4 := P0.out.c 4 rfl; have f4 := P0.out.f 4 (by simp)
    have y4 := P1.out.c 4 rfl; have g4 := P1.out.f 4 (by simp)
    have x5 := P0.out.c 5 rfl; have f5 := P0.out.f 5 (by simp)
    have y5 := P1.out.c 5 rfl; have g5 := P1.out.f 5 (by simp)
    have x6 := P0.out.c 6 rfl; have f6 := P0.out.f 6 (by simp)
    have y6 := P1.out.c 6 rfl; have g6 := P1.out.f 6 (by simp)
    have x7 := P0.out.c 7 rfl; have f7 := P0.out.f 7 (by simp)
    have y7 := P1.out.c 7 rfl; have g7 := P1.out.f 7 (by simp)
    have x8 := P0.out.c 8 rfl; have f8 := P0.out.f 8 (by simp)
    have y8 := P1.out.c 8 rfl; have g8 := P1.out.f 8 (by simp)
    go_wp2_with fail
    refine bodyPost_ret (results_cell rfl _ _ ⟨w.heap.size + 2, 0, none⟩ rfl (load_msg _ _ ⟨9, epoch, inst, (r : Int), ((b + 1 : Nat) : Int), 0#64, 0, [], []⟩ (.slice none 0 0) (.slice none 0 0) (by go_simp) (by go_simp) (by go_simp) (by go_simp) (by go_simp) (by go_simp; rfl) (by go_simp) (by go_simp) (by go_simp))) rfl ?_
    exact ShortM.fin (N := w.heap.size + 2) (b := b + 1) (t := s + 1 + 1) hr (by omega) rfl (by omega) D2.out (by omega) _ _ _ _ _ _ _ _ _ _ _
end Go.Proofs.YtgkckomccabmlaaGreatDoor
