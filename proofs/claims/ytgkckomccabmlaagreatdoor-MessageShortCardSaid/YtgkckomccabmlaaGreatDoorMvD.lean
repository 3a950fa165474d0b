/-
  What Decode of package message returns. Nothing that was there has changed. Condition: the tables hold what their initialisers lay; the bytes are fewer than nine millions.
-/
import Derived.Test.YtgkckomccabmlaaGreatDoorMvP
import Derived.Test.YtgkckomccabmlaaGreatDoorLmG
import Derived.Test.YtgkckomccabmlaaGreatDoorMvV
namespace Go.Proofs.YtgkckomccabmlaaGreatDoor
open Go.ChangeShapes Go.WideShapes Go.ChangeAt Go.RowKit
open Dg (W B)
open Ms (Msg)
set_option linter.unusedVariables false
theorem wf_of {xs : List Int} {root : W} {data : List B} {ds : List W} (hx : ∀ x ∈ xs, Cd.InR x) (hl : xs.length = 6) : Msg.Wf ⟨xs.getD 0 0, xs.getD 1 0, xs.getD 2 0, xs.getD 3 0, xs.getD 4 0, root, xs.getD 5 0, data, ds⟩ := by
  match xs, hl with
  | [a, b, c, d, e, g], _ => exact ⟨hx a (by simp), hx b (by simp), hx c (by simp), hx d (by simp), hx e (by simp), hx g (by simp)⟩
/-- so many numbers have been read -/
def DecRel (L : List B) (v : Value) (w : World) (i : Value) (wr : World) : Prop :=
  ∃ (k q : Nat) (f : Bool) (xs : List Int), k ≤ 6 ∧ i = .int .i64 (k : Int) ∧ xs.length = k ∧ q ≤ L.length ∧ (∀ x ∈ xs, Cd.InR x) ∧ RecN wr w.heap.size (mcells [] 0#64 (.slice none 0 0) (.slice none 0 0)) ∧ RecN wr (w.heap.size + 1) (mcells xs 0#64 (.slice none 0 0) (.slice none 0 0)) ∧
    RecN wr (w.heap.size + 2) [v, .int .i64 (q : Int), .bool f] ∧ Below w.heap.size w wr ∧ ((f = false ∧ Ms.rdMsg L = Ms.rdK (6 - k) xs (L.drop q)) ∨ (f = true ∧ Ms.dec L = none))
set_option maxRecDepth 100000 in
set_option maxHeartbeats 8000000 in
theorem mdecode_any (L : List B) (v : Value) (w : World) (hL9 : L.length ≤ 9000000) (h : HasB w w.heap.size v L) (ht : Tab w) :
    Calls Tryz.prog 22 #[v] w (DecPost L w) := by
  have HL9 := Lib.hid hL9
  have hL : L.length ≤ 300000000 := by omega
  clear hL9
  obtain ⟨nL, hnL⟩ : ∃ n, n = L.length := ⟨_, rfl⟩
  obtain ⟨a, cap, rfl⟩ : ∃ a c, v = .slice a nL c := by rw [hnL]; exact h.form
  have H := Lib.hid h; have HNL := Lib.hid hnL; have HLL := Lib.hid hL; have HT := Lib.hid ht
  have hnL3 : nL ≤ 300000000 := by omega
  have S0 := Lib.hid (((RecN.new w #[.int .i64 0, .int .i64 0, .int .i64 0, .int .i64 0, .int .i64 0, .int .u64 0, .int .i64 0, .slice none 0 0, .slice none 0 0] 27).alloc (.cells #[.int .i64 0, .int .i64 0, .int .i64 0, .int .i64 0, .int .i64 0, .int .u64 0, .int .i64 0, .slice none 0 0, .slice none 0 0] 27)).alloc (.cells #[.slice a nL cap, .int .i64 0, .bool false] 89))
  have S1 := Lib.hid ((RecN.new (w.alloc (.cells #[.int .i64 0, .int .i64 0, .int .i64 0, .int .i64 0, .int .i64 0, .int .u64 0, .int .i64 0, .slice none 0 0, .slice none 0 0] 27)) #[.int .i64 0, .int .i64 0, .int .i64 0, .int .i64 0, .int .i64 0, .int .u64 0, .int .i64 0, .slice none 0 0, .slice none 0 0] 27).alloc (.cells #[.slice a nL cap, .int .i64 0, .bool false] 89))
  have S2 := Lib.hid (RecN.new ((w.alloc (.cells #[.int .i64 0, .int .i64 0, .int .i64 0, .int .i64 0, .int .i64 0, .int .u64 0, .int .i64 0, .slice none 0 0, .slice none 0 0] 27)).alloc (.cells #[.int .i64 0, .int .i64 0, .int .i64 0, .int .i64 0, .int .i64 0, .int .u64 0, .int .i64 0, .slice none 0 0, .slice none 0 0] 27)) #[.slice a nL cap, .int .i64 0, .bool false] 89)
  have SB := Lib.hid (((((Below.refl w.heap.size w).alloc (Nat.le_refl _) (.cells #[.int .i64 0, .int .i64 0, .int .i64 0, .int .i64 0, .int .i64 0, .int .u64 0, .int .i64 0, .slice none 0 0, .slice none 0 0] 27)).alloc (by simp) (.cells #[.int .i64 0, .int .i64 0, .int .i64 0, .int .i64 0, .int .i64 0, .int .u64 0, .int .i64 0, .slice none 0 0, .slice none 0 0] 27)).alloc (by simp; omega) (.cells #[.slice a nL cap, .int .i64 0, .bool false] 89)))
  rw [show (w.alloc (.cells #[.int .i64 0, .int .i64 0, .int .i64 0, .int .i64 0, .int .i64 0, .int .u64 0, .int .i64 0, .slice none 0 0, .slice none 0 0] 27)).heap.size = w.heap.size + 1 by simp] at S1
  rw [show ((w.alloc (.cells #[.int .i64 0, .int .i64 0, .int .i64 0, .int .i64 0, .int .i64 0, .int .u64 0, .int .i64 0, .slice none 0 0, .slice none 0 0] 27)).alloc (.cells #[.int .i64 0, .int .i64 0, .int .i64 0, .int .i64 0, .int .i64 0, .int .u64 0, .int .i64 0, .slice none 0 0, .slice none 0 0] 27)).heap.size = w.heap.size + 2 by simp] at S2
  clear h hnL hL ht
  go_enter Tryz.func22, Tryz.ntmps22
  go_wp2_with fail
  refine (numbers_any _ _).mono ?_; rintro e W4 ⟨rfl, b4⟩
  have Q0 := Lib.hid (S0.out.below b4 S0.out.1); have Q1 := Lib.hid (S1.out.below b4 S1.out.1); have Q2 := Lib.hid (S2.out.below b4 S2.out.1); have QB := Lib.hid (SB.out.trans (b4.mono SB.out.size))
  clear S0 S1 S2 SB b4
  unfold sixV
  go_wp2
  go_loopw [11] (DecRel L (.slice a nL cap) w) (fun i _ => 6 - (intOf i).toNat)
  case atStart => exact ⟨0, 0, false, [], by omega, rfl, rfl, by omega, fun x hx => by simp at hx, Q0.out, Q1.out, Q2.out, QB.out, .inl ⟨rfl, rfl⟩⟩
  case round =>
    clear Q0 Q1 Q2 QB
    obtain ⟨k, q, f, xs, hk, rfl, hxs, hqL, hin, r0, r1, r2, hb, st⟩ := hrel
    have R0 := Lib.hid r0; have R1 := Lib.hid r1; have R2 := Lib.hid r2; have BB := Lib.hid hb; have ST := Lib.hid st; have HQ := Lib.hid hqL; have HXS := Lib.hid hxs; have HIN := Lib.hid hin
    have HBr := Lib.hid ((H.out.below hb (Nat.le_refl _)).wide hb.size)
    clear r0 r1 r2 hb st hqL hxs hin
    by_cases hlt : k < 6
    · have C := Lib.hid (next_int L q f (.slice a nL cap) (w.heap.size + 2) wr R2.out HBr.out HQ.out HLL.out)
      obtain ⟨k1, hk1⟩ : ∃ k1, k1 = k + 1 := ⟨_, rfl⟩
      have HK1 := Lib.hid hk1
      clear hk1
      obtain ⟨i0, i1, i2, i3, i4, i5⟩ := six_all (w.heap.size + 1) wr
      rcases (show k = 0 ∨ k = 1 ∨ k = 2 ∨ k = 3 ∨ k = 4 ∨ k = 5 by omega) with rfl | rfl | rfl | rfl | rfl | rfl
      all_goals
        go_wp2_with fail
        refine (C.out).mono ?_; rintro e w3 ⟨x, q3, f3, rfl, hx, hq3, r3, b3, st3⟩
        have V0 := Lib.hid (R0.out.but b3 (by omega)); have V1 := Lib.hid (R1.out.but b3 (by omega)); have V2 := Lib.hid r3; have VB := Lib.hid (BB.out.trans (b3.under (by omega) BB.out.size)); have ST3 := Lib.hid st3; have HX := Lib.hid hx; have HQ3 := Lib.hid hq3
        clear C r3 b3 st3 hx hq3
        have y0 := V1.out.c 0 rfl; have g0 := V1.out.f 0 (by simp [mcells]); have y1 := V1.out.c 1 rfl; have g1 := V1.out.f 1 (by simp [mcells]); have y2 := V1.out.c 2 rfl; have g2 := V1.out.f 2 (by simp [mcells]); have y3 := V1.out.c 3 rfl; have g3 := V1.out.f 3 (by simp [mcells]); have y4 := V1.out.c 4 rfl; have g4 := V1.out.f 4 (by simp [mcells]); have y6 := V1.out.c 6 rfl; have g6 := V1.out.f 6 (by simp [mcells])
        go_wp2_with fail
        go_roundw
        case rel =>
          refine ⟨k1, q3, f3, xs ++ [x], by have := HK1.out; omega, by rw [HK1.out]; go_num, by rw [List.length_append, HXS.out, HK1.out]; rfl, HQ3.out, fun z hz => ?_, V0.out.far _ (by simp) _, ?_, V2.out.far _ (by simp) _, VB.out.setCell (by simp) _, ?_⟩
          · rcases List.mem_append.1 hz with hz | hz
            · exact HIN.out z hz
            · rw [List.mem_singleton.1 hz]; exact HX.out
          · rw [← mcells_set xs x 0#64 (.slice none 0 0) (.slice none 0 0) _ hlt HXS.out]
            exact V1.out.set _ (by simp [mcells]) _
          · rcases ST.out with ⟨e1, s1⟩ | ⟨e1, s1⟩
            · rcases ST3.out with ⟨e3, j, s3, rfl⟩ | ⟨e3, c, s3⟩
              · refine .inl ⟨e3.trans e1, ?_⟩
                rw [s1, HK1.out]
                show Ms.andThen Cd.getI (L.drop q) _ = _
                rw [Ms.andThen_ok s3, List.drop_drop]
              · refine .inr ⟨e3, Ms.dec_none ?_⟩
                rw [s1]
                show Ms.andThen Cd.getI (L.drop q) _ = _
                rw [Ms.andThen_bad s3]
            · rcases ST3.out with ⟨e3, j, s3, rfl⟩ | ⟨e3, c, s3⟩
              · exact .inr ⟨e3.trans e1, s1⟩
              · exact .inr ⟨e3, s1⟩
        case measure => simp [intOf]
    · obtain rfl : k = 6 := by omega
      have C := Lib.hid (next_dig L q f (.slice a nL cap) (w.heap.size + 2) wr R2.out HBr.out HQ.out HLL.out)
      go_wp2_with fail
      refine (C.out).mono ?_; rintro e w1 ⟨root, q1, f1, rfl, hq1, r3, b3, st1⟩
      have A0 := Lib.hid (R0.out.but b3 (by omega)); have A1 := Lib.hid (R1.out.but b3 (by omega)); have A2 := Lib.hid r3; have AB := Lib.hid (BB.out.trans (b3.under (by omega) BB.out.size)); have HQ1 := Lib.hid hq1
      have S1 := Lib.hid (show (f1 = false ∧ Ms.rdMsg L = Ms.tail1 xs root (L.drop q1)) ∨ (f1 = true ∧ Ms.dec L = none) by
        rcases ST.out with ⟨e, g⟩ | ⟨e, g⟩
        · rcases st1 with ⟨e2, k, g2, rfl⟩ | ⟨e2, c, g2⟩
          · refine .inl ⟨e2.trans e, ?_⟩
            rw [g, show (6 - 6 : Nat) = 0 from rfl, Ms.rdK, Ms.tail_one, Ms.andThen_ok g2, List.drop_drop]
          · refine .inr ⟨e2, Ms.dec_none ?_⟩
            rw [g, show (6 - 6 : Nat) = 0 from rfl, Ms.rdK, Ms.tail_one, Ms.andThen_bad g2]
        · rcases st1 with ⟨e2, k, g2, rfl⟩ | ⟨e2, c, g2⟩
          · exact .inr ⟨e2.trans e, g⟩
          · exact .inr ⟨e2, g⟩)
      clear C r3 b3 st1 hq1 R0 R1 R2 BB ST HBr
      have y5 := A1.out.c 5 rfl; have g5 := A1.out.f 5 (by simp [mcells])
      go_wp2_with fail
      have D0 := Lib.hid (A0.out.far ⟨w.heap.size + 1, 5, none⟩ (by simp) (.int .u64 (uv root))); have D1 := Lib.hid (show RecN (w1.setCell ⟨w.heap.size + 1, 5, none⟩ (.int .u64 (uv root))) (w.heap.size + 1) (mcells xs root (.slice none 0 0) (.slice none 0 0)) from A1.out.set 5 (by simp [mcells]) _); have D2 := Lib.hid (A2.out.far ⟨w.heap.size + 1, 5, none⟩ (by simp) (.int .u64 (uv root))); have DB := Lib.hid (AB.out.setCell (p := ⟨w.heap.size + 1, 5, none⟩) (Nat.le_succ _) (.int .u64 (uv root)))
      obtain ⟨u1, hu1⟩ : ∃ u, u = w1.setCell ⟨w.heap.size + 1, 5, none⟩ (.int .u64 (uv root)) := ⟨_, rfl⟩
      rw [← hu1] at D0 D1 D2 DB ⊢
      clear A0 A1 A2 AB y5 g5 hu1
      have C := Lib.hid (next_bytes L q1 f1 (.slice a nL cap) (w.heap.size + 2) u1 D2.out ((H.out.below DB.out (Nat.le_refl _)).wide DB.out.size) HQ1.out HLL.out)
      refine (C.out).mono ?_; rintro e w2 ⟨data, dv, q2, f2, rfl, hd2, of2, hdl, hq2, r3, b3, st2⟩
      have A0 := Lib.hid (D0.out.but b3 (by omega)); have A1 := Lib.hid (D1.out.but b3 (by omega)); have A2 := Lib.hid r3; have AB := Lib.hid (DB.out.trans (b3.under (by omega) DB.out.size)); have HQ2 := Lib.hid hq2; have HDL := Lib.hid hdl
      have O1 := Lib.hid (of2 (w.heap.size + 1) D1.out.1); have O2 := Lib.hid (of2 (w.heap.size + 2) D2.out.1); have O0 := Lib.hid (of2 w.heap.size D0.out.1)
      obtain ⟨nd, hnd⟩ : ∃ n, n = data.length := ⟨_, rfl⟩
      obtain ⟨ad, cd, rfl⟩ : ∃ a c, dv = .slice a nd c := by rw [hnd]; exact hd2.form
      have HD2 := Lib.hid hd2; have HND := Lib.hid hnd
      have S2 := Lib.hid (show (f2 = false ∧ Ms.rdMsg L = Ms.tail2 xs root data (L.drop q2)) ∨ (f2 = true ∧ Ms.dec L = none) by
        rcases S1.out with ⟨e, g⟩ | ⟨e, g⟩
        · rcases st2 with ⟨e2, k, g2, rfl⟩ | ⟨e2, c, g2⟩
          · refine .inl ⟨e2.trans e, ?_⟩
            rw [g, Ms.tail1, Ms.andThen_ok g2, List.drop_drop]
          · refine .inr ⟨e2, Ms.dec_none ?_⟩
            rw [g, Ms.tail1, Ms.andThen_bad g2]
        · rcases st2 with ⟨e2, k, g2, rfl⟩ | ⟨e2, c, g2⟩
          · exact .inr ⟨e2.trans e, g⟩
          · exact .inr ⟨e2, g⟩)
      clear C r3 b3 st2 hq2 hd2 of2 hdl hnd D0 D1 D2 DB S1
      have y7 := A1.out.c 7 rfl; have g7 := A1.out.f 7 (by simp [mcells])
      go_wp2_with fail
      have D0 := Lib.hid (A0.out.far ⟨w.heap.size + 1, 7, none⟩ (by simp) (.slice ad nd cd)); have D1 := Lib.hid (show RecN (w2.setCell ⟨w.heap.size + 1, 7, none⟩ (.slice ad nd cd)) (w.heap.size + 1) (mcells xs root (.slice ad nd cd) (.slice none 0 0)) from A1.out.set 7 (by simp [mcells]) _); have D2 := Lib.hid (A2.out.far ⟨w.heap.size + 1, 7, none⟩ (by simp) (.slice ad nd cd)); have DB := Lib.hid (AB.out.setCell (p := ⟨w.heap.size + 1, 7, none⟩) (Nat.le_succ _) (.slice ad nd cd))
      have DD := Lib.hid ((HD2.out.but O1.out ((But.refl (w.heap.size + 1) w2).setCell 7 (.slice ad nd cd))).wide (show w2.heap.size ≤ (w2.setCell ⟨w.heap.size + 1, 7, none⟩ (.slice ad nd cd)).heap.size by simp))
      obtain ⟨u2, hu2⟩ : ∃ u, u = w2.setCell ⟨w.heap.size + 1, 7, none⟩ (.slice ad nd cd) := ⟨_, rfl⟩
      rw [← hu2] at D0 D1 D2 DB DD ⊢
      clear A0 A1 A2 AB y7 g7 hu2 HD2
      have C := Lib.hid (path_any L q2 f2 (.slice a nL cap) (w.heap.size + 2) u2 D2.out ((H.out.below DB.out (Nat.le_refl _)).wide DB.out.size) (H.out.off (by omega)) HQ2.out HLL.out)
      refine (C.out).mono ?_; rintro e w3 ⟨ds, pv, q3, f3, rfl, hp3, of3, hdl3, hq3, r3, b3, st3⟩
      have A0 := Lib.hid (D0.out.but b3 (by omega)); have A1 := Lib.hid (D1.out.but b3 (by omega)); have A2 := Lib.hid r3; have AB := Lib.hid (DB.out.trans (b3.under (by omega) DB.out.size)); have HQ3 := Lib.hid hq3; have HPL := Lib.hid hdl3
      have P1 := Lib.hid (of3 (w.heap.size + 1) D1.out.1); have P0 := Lib.hid (of3 w.heap.size D0.out.1)
      have HD3 := Lib.hid ((DD.out.but O2.out b3).wide b3.size)
      obtain ⟨np, hnp⟩ : ∃ n, n = ds.length := ⟨_, rfl⟩
      obtain ⟨ap, cp, rfl⟩ : ∃ a c, pv = .slice a np c := by rw [hnp]; exact hp3.form
      have HP3 := Lib.hid hp3; have HNP := Lib.hid hnp
      have S3 := Lib.hid (show (f3 = false ∧ Ms.rdMsg L = some (⟨xs.getD 0 0, xs.getD 1 0, xs.getD 2 0, xs.getD 3 0, xs.getD 4 0, root, xs.getD 5 0, data, ds⟩, L.drop q3)) ∨ (f3 = true ∧ Ms.dec L = none) by
        rcases S2.out with ⟨e, g⟩ | ⟨e, g⟩
        · rcases st3 with ⟨e2, g2⟩ | ⟨e2, g2⟩
          · exact .inl ⟨e2.trans e, by rw [g, g2 xs root data]⟩
          · exact .inr ⟨e2, Ms.dec_none (by rw [g, g2 xs root data])⟩
        · rcases st3 with ⟨e2, g2⟩ | ⟨e2, g2⟩
          · exact .inr ⟨e2.trans e, g⟩
          · exact .inr ⟨e2, g⟩)
      clear C r3 b3 st3 hq3 hp3 of3 hdl3 hnp D0 D1 D2 DB S2 DD
      have hne : w.heap.size ≠ w.heap.size + 1 := by omega
      have hne2 : w.heap.size + 1 ≠ w.heap.size := by omega
      have hne3 : w.heap.size + 1 ≠ w.heap.size + 1 + 1 := by omega
      have hne4 : w.heap.size + 1 + 1 ≠ w.heap.size + 1 := by omega
      have D0 := Lib.hid (A0.out.far ⟨w.heap.size + 1, 8, none⟩ (by simp) (.slice ap np cp)); have D1 := Lib.hid (show RecN (w3.setCell ⟨w.heap.size + 1, 8, none⟩ (.slice ap np cp)) (w.heap.size + 1) (mcells xs root (.slice ad nd cd) (.slice ap np cp)) from A1.out.set 8 (by simp [mcells]) _); have DB := Lib.hid (AB.out.setCell (p := ⟨w.heap.size + 1, 8, none⟩) (Nat.le_succ _) (.slice ap np cp))
      have DD := Lib.hid ((HD3.out.but O1.out ((But.refl (w.heap.size + 1) w3).setCell 8 (.slice ap np cp))).wide (show w3.heap.size ≤ (w3.setCell ⟨w.heap.size + 1, 8, none⟩ (.slice ap np cp)).heap.size by simp))
      have DP := Lib.hid ((HP3.out.but P1.out ((But.refl (w.heap.size + 1) w3).setCell 8 (.slice ap np cp))).wide (show w3.heap.size ≤ (w3.setCell ⟨w.heap.size + 1, 8, none⟩ (.slice ap np cp)).heap.size by simp))
      have z1 : w3.cell? ⟨w.heap.size + 1 + 1, 1, none⟩ = some _ := A2.out.c 1 rfl
      have z2 : w3.cell? ⟨w.heap.size + 1 + 1, 2, none⟩ = some _ := A2.out.c 2 rfl
      have y0 := A1.out.c 0 rfl; have y1 := A1.out.c 1 rfl; have y2 := A1.out.c 2 rfl; have y3 := A1.out.c 3 rfl; have y4 := A1.out.c 4 rfl; have y5 := A1.out.c 5 rfl; have y6 := A1.out.c 6 rfl; have y7 := A1.out.c 7 rfl; have y8 := A1.out.c 8 rfl; have g8 := A1.out.f 8 (by simp [mcells])
      cases f3
      · have HE := Lib.hid (show Ms.rdMsg L = some (⟨xs.getD 0 0, xs.getD 1 0, xs.getD 2 0, xs.getD 3 0, xs.getD 4 0, root, xs.getD 5 0, data, ds⟩, L.drop q3) by rcases S3.out with ⟨-, g⟩ | ⟨g, -⟩; exact g; cases g)
        have HE2 := Lib.hid (Ms.dec_some HE.out)
        clear S3 HE
        have hq33 : q3 ≤ 300000000 := by have := HQ3.out; have := HLL.out; omega
        by_cases hqn : q3 = nL
        · subst hqn
          have hnil : L.drop q3 = [] := List.drop_eq_nil_of_le (by have := HNL.out; omega)
          have C5 := Lib.hid (mvalid_raw ⟨xs.getD 0 0, xs.getD 1 0, xs.getD 2 0, xs.getD 3 0, xs.getD 4 0, root, xs.getD 5 0, data, ds⟩ ad nd cd ap np cp (w3.setCell ⟨w.heap.size + 1, 8, none⟩ (.slice ap np cp)) HND.out HNP.out (HT.out.below DB.out))
          unfold msgV at C5
          have hx : Hid ((Ms.valid ⟨xs.getD 0 0, xs.getD 1 0, xs.getD 2 0, xs.getD 3 0, xs.getD 4 0, root, xs.getD 5 0, data, ds⟩ = 0) → Ms.dec L = some ⟨xs.getD 0 0, xs.getD 1 0, xs.getD 2 0, xs.getD 3 0, xs.getD 4 0, root, xs.getD 5 0, data, ds⟩) := Lib.hid fun h => by rw [HE2.out, if_pos ⟨hnil, h⟩]
          have hx2 : Hid (¬ (Ms.valid ⟨xs.getD 0 0, xs.getD 1 0, xs.getD 2 0, xs.getD 3 0, xs.getD 4 0, root, xs.getD 5 0, data, ds⟩ = 0) → Ms.dec L = none) := Lib.hid fun h => by rw [HE2.out, if_neg fun hh => h hh.2]
          have MI := Lib.hid (show MsgIn (w3.setCell ⟨w.heap.size + 1, 8, none⟩ (.slice ap np cp)) ⟨xs.getD 0 0, xs.getD 1 0, xs.getD 2 0, xs.getD 3 0, xs.getD 4 0, root, xs.getD 5 0, data, ds⟩ (.slice ad nd cd) (.slice ap np cp) from ⟨wf_of HIN.out HXS.out, DD.out, DP.out⟩)
          clear hnil HE2
          have t1 : decide (q3 < q3) = false := by simp
          go_wp2_with fail
          refine (C5.out).mono ?_; rintro e w8 ⟨rfl, b8⟩
          have Z0 := Lib.hid (D0.out.below b8 D0.out.1); have Z1 := Lib.hid (D1.out.below b8 D1.out.1); have ZB := Lib.hid (DB.out.trans (b8.mono DB.out.size)); have MZ := Lib.hid (MI.out.below b8)
          clear b8 y0 y1 y2 y3 y4 y5 y6 y7 y8 g8 z1 z2 D0 D1 DB C5 A0 A1 A2 AB
          by_cases hv : Ms.valid ⟨xs.getD 0 0, xs.getD 1 0, xs.getD 2 0, xs.getD 3 0, xs.getD 4 0, root, xs.getD 5 0, data, ds⟩ = 0
          · have HD := Lib.hid (hx.out hv)
            rw [hv]
            clear hv hx hx2
            have x0 := Z0.out.c 0 rfl; have f0 := Z0.out.f 0 (by simp [mcells])
            have x1 := Z0.out.c 1 rfl; have f1 := Z0.out.f 1 (by simp [mcells])
            have x2 := Z0.out.c 2 rfl; have f2 := Z0.out.f 2 (by simp [mcells])
            have x3 := Z0.out.c 3 rfl; have f3 := Z0.out.f 3 (by simp [mcells])
            have x4 := Z0.out.c 4 rfl; have f4 := Z0.out.f 4 (by simp [mcells])
            have x5 := Z0.out.c 5 rfl; have f5 := Z0.out.f 5 (by simp [mcells])
            have x6 := Z0.out.c 6 rfl; have f6 := Z0.out.f 6 (by simp [mcells])
            have x7 := Z0.out.c 7 rfl; have f7 := Z0.out.f 7 (by simp [mcells])
            have x8 := Z0.out.c 8 rfl; have f8 := Z0.out.f 8 (by simp [mcells])
            have y0 := Z1.out.c 0 rfl
            have y1 := Z1.out.c 1 rfl
            have y2 := Z1.out.c 2 rfl
            have y3 := Z1.out.c 3 rfl
            have y4 := Z1.out.c 4 rfl
            have y5 := Z1.out.c 5 rfl
            have y6 := Z1.out.c 6 rfl
            have y7 := Z1.out.c 7 rfl
            have y8 := Z1.out.c 8 rfl
            go_wp2_with fail
            refine bodyPost_ret (results_ct rfl _ _ ⟨w.heap.size, 0, none⟩ rfl (load_msg _ _ ⟨xs.getD 0 0, xs.getD 1 0, xs.getD 2 0, xs.getD 3 0, xs.getD 4 0, root, xs.getD 5 0, data, ds⟩ (.slice ad nd cd) (.slice ap np cp) (by first | (go_simp; done) | (go_simp; rfl)) (by first | (go_simp; done) | (go_simp; rfl)) (by first | (go_simp; done) | (go_simp; rfl)) (by first | (go_simp; done) | (go_simp; rfl)) (by first | (go_simp; done) | (go_simp; rfl)) (by first | (go_simp; done) | (go_simp; rfl)) (by first | (go_simp; done) | (go_simp; rfl)) (by first | (go_simp; done) | (go_simp; rfl)) (by first | (go_simp; done) | (go_simp; rfl)))) rfl ?_
            exact .inr ⟨⟨xs.getD 0 0, xs.getD 1 0, xs.getD 2 0, xs.getD 3 0, xs.getD 4 0, root, xs.getD 5 0, data, ds⟩, _, _, HD.out, rfl, MZ.out.but (but_put9 _ _ _ _ _ _ _ _ _ _ _) O0.out P0.out, ZB.out.trans (below_put9 _ _ _ _ _ _ _ _ _ _ _)⟩
          · have hN := Lib.hid (hx2.out hv)
            obtain ⟨vc, hvc⟩ : ∃ vc, vc = Ms.valid ⟨xs.getD 0 0, xs.getD 1 0, xs.getD 2 0, xs.getD 3 0, xs.getD 4 0, root, xs.getD 5 0, data, ds⟩ := ⟨_, rfl⟩
            have t1 : (((vc : Nat) : Int) != 0) = true := by rw [bne_iff_ne]; omega
            rw [← hvc]
            clear hv hx hx2 hvc
            have x0 := Z0.out.c 0 rfl; have f0 := Z0.out.f 0 (by simp [mcells])
            have x1 := Z0.out.c 1 rfl; have f1 := Z0.out.f 1 (by simp [mcells])
            have x2 := Z0.out.c 2 rfl; have f2 := Z0.out.f 2 (by simp [mcells])
            have x3 := Z0.out.c 3 rfl; have f3 := Z0.out.f 3 (by simp [mcells])
            have x4 := Z0.out.c 4 rfl; have f4 := Z0.out.f 4 (by simp [mcells])
            have x5 := Z0.out.c 5 rfl; have f5 := Z0.out.f 5 (by simp [mcells])
            have x6 := Z0.out.c 6 rfl; have f6 := Z0.out.f 6 (by simp [mcells])
            have x7 := Z0.out.c 7 rfl; have f7 := Z0.out.f 7 (by simp [mcells])
            have x8 := Z0.out.c 8 rfl; have f8 := Z0.out.f 8 (by simp [mcells])
            go_wp2_with fail
            refine bodyPost_ret (results_ct rfl _ _ ⟨w.heap.size, 0, none⟩ rfl (load_msg _ _ zeroMsg (.slice none 0 0) (.slice none 0 0) (by first | (go_simp; done) | (go_simp; rfl)) (by first | (go_simp; done) | (go_simp; rfl)) (by first | (go_simp; done) | (go_simp; rfl)) (by first | (go_simp; done) | (go_simp; rfl)) (by first | (go_simp; done) | (go_simp; rfl)) (by first | (go_simp; done) | (go_simp; rfl)) (by first | (go_simp; done) | (go_simp; rfl)) (by first | (go_simp; done) | (go_simp; rfl)) (by first | (go_simp; done) | (go_simp; rfl)))) rfl ?_
            exact (DecPost.bad hN.out ZB.out _ _ _ _ _ _ _ _ _).plain
        · have t1 : decide (q3 < nL) = true := decide_eq_true (by have := HQ3.out; have := HNL.out; omega)
          have hN := Lib.hid (show Ms.dec L = none by
            rw [HE2.out, if_neg fun hh => ?_]
            have := List.drop_eq_nil_iff.1 hh.1
            have := HQ3.out; have := HNL.out
            omega)
          clear HE2
          have x0 := A0.out.c 0 rfl; have f0 := A0.out.f 0 (by simp [mcells])
          have x1 := A0.out.c 1 rfl; have f1 := A0.out.f 1 (by simp [mcells])
          have x2 := A0.out.c 2 rfl; have f2 := A0.out.f 2 (by simp [mcells])
          have x3 := A0.out.c 3 rfl; have f3 := A0.out.f 3 (by simp [mcells])
          have x4 := A0.out.c 4 rfl; have f4 := A0.out.f 4 (by simp [mcells])
          have x5 := A0.out.c 5 rfl; have f5 := A0.out.f 5 (by simp [mcells])
          have x6 := A0.out.c 6 rfl; have f6 := A0.out.f 6 (by simp [mcells])
          have x7 := A0.out.c 7 rfl; have f7 := A0.out.f 7 (by simp [mcells])
          have x8 := A0.out.c 8 rfl; have f8 := A0.out.f 8 (by simp [mcells])
          go_wp2_with fail
          refine bodyPost_ret (results_ct rfl _ _ ⟨w.heap.size, 0, none⟩ rfl (load_msg _ _ zeroMsg (.slice none 0 0) (.slice none 0 0) (by first | (go_simp; done) | (go_simp; rfl)) (by first | (go_simp; done) | (go_simp; rfl)) (by first | (go_simp; done) | (go_simp; rfl)) (by first | (go_simp; done) | (go_simp; rfl)) (by first | (go_simp; done) | (go_simp; rfl)) (by first | (go_simp; done) | (go_simp; rfl)) (by first | (go_simp; done) | (go_simp; rfl)) (by first | (go_simp; done) | (go_simp; rfl)) (by first | (go_simp; done) | (go_simp; rfl)))) rfl ?_
          exact (DecPost.bad hN.out DB.out _ _ _ _ _ _ _ _ _).plain
      · have hN := Lib.hid (show Ms.dec L = none by rcases S3.out with ⟨g, -⟩ | ⟨-, g⟩; cases g; exact g)
        clear S3
        have x0 := A0.out.c 0 rfl; have f0 := A0.out.f 0 (by simp [mcells])
        have x1 := A0.out.c 1 rfl; have f1 := A0.out.f 1 (by simp [mcells])
        have x2 := A0.out.c 2 rfl; have f2 := A0.out.f 2 (by simp [mcells])
        have x3 := A0.out.c 3 rfl; have f3 := A0.out.f 3 (by simp [mcells])
        have x4 := A0.out.c 4 rfl; have f4 := A0.out.f 4 (by simp [mcells])
        have x5 := A0.out.c 5 rfl; have f5 := A0.out.f 5 (by simp [mcells])
        have x6 := A0.out.c 6 rfl; have f6 := A0.out.f 6 (by simp [mcells])
        have x7 := A0.out.c 7 rfl; have f7 := A0.out.f 7 (by simp [mcells])
        have x8 := A0.out.c 8 rfl; have f8 := A0.out.f 8 (by simp [mcells])
        go_wp2_with fail
        refine bodyPost_ret (results_ct rfl _ _ ⟨w.heap.size, 0, none⟩ rfl (load_msg _ _ zeroMsg (.slice none 0 0) (.slice none 0 0) (by first | (go_simp; done) | (go_simp; rfl)) (by first | (go_simp; done) | (go_simp; rfl)) (by first | (go_simp; done) | (go_simp; rfl)) (by first | (go_simp; done) | (go_simp; rfl)) (by first | (go_simp; done) | (go_simp; rfl)) (by first | (go_simp; done) | (go_simp; rfl)) (by first | (go_simp; done) | (go_simp; rfl)) (by first | (go_simp; done) | (go_simp; rfl)) (by first | (go_simp; done) | (go_simp; rfl)))) rfl ?_
        exact (DecPost.bad hN.out DB.out _ _ _ _ _ _ _ _ _).plain
end Go.Proofs.YtgkckomccabmlaaGreatDoor
