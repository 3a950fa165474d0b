/-
  Decimal numerals, texts of messages, strings joined. Each says its own conditions; nothing that was there has changed.
-/
import Derived.Test.YtgkckomccabmlaaGreatDoorShelf
import Derived.Test.YtgkckomccabmlaaGreatDoorLmB
import Derived.Test.YtgkckomccabmlaaGreatDoorRefVal
import Derived.Test.YtgkckomccabmlaaGreatDoorLmA
namespace Go.Proofs.YtgkckomccabmlaaGreatDoor
open Go.ChangeShapes Go.WideShapes Go.ChangeAt Go.RowKit
open Dg (W B)
/-- a numeral -/
def istr (n : Int) : ByteArray := ⟨(Lib.itoa n).toArray⟩
theorem nDig_le : ∀ k u, u < 10 ^ (k + 1) → Lib.nDigits u ≤ k + 1
  | 0, u, h => by rw [Lib.nDigits_small (by simpa using h)]; omega
  | k + 1, u, h => by
    by_cases h1 : u < 10
    · rw [Lib.nDigits_small h1]; omega
    · rw [Lib.nDigits_big h1]
      have := nDig_le k (u / 10) (Nat.div_lt_of_lt_mul (by rw [Nat.mul_comm]; exact h))
      omega
theorem istr_size {n : Int} (h : Cd.InR n) : (istr n).size ≤ 30 := by
  have hd : ∀ u, u < 100000000000000000000 → (Lib.decDigits u).length ≤ 20 := fun u hu => by rw [Lib.decDigits_length]; exact nDig_le 19 u hu
  unfold Cd.InR at h
  show ((Lib.itoa n).toArray).size ≤ 30
  rw [List.size_toArray]
  unfold Lib.itoa
  split
  · have := hd n.natAbs (by omega)
    rw [List.length_cons]; omega
  · have := hd n.toNat (by omega)
    omega
theorem itoa_any (n : Int) (w : World) (hn : Cd.InR n) (ht : Tab w) :
    Calls Tryz.prog 32 #[.int .i64 n] w fun e w' => e = .returned (.string (istr n)) ∧ Below w.heap.size w w' := by
  refine (Tryz.strconv_Itoa n hn.1 hn.2 w ht.pow).mono ?_
  rintro e w' ⟨rfl, k, os, rfl⟩
  refine ⟨rfl, ⟨rfl, rfl, rfl, ?_, fun i hi => ?_⟩⟩
  · show w.heap.size ≤ (w.heap ++ os).size
    rw [Array.size_append]; omega
  · show (w.heap ++ os)[i]? = _
    rw [Array.getElem?_append_left (by omega)]
end Go.Proofs.YtgkckomccabmlaaGreatDoor
namespace Go.Proofs.YtgkckomccabmlaaGreatDoor
open Go.ChangeShapes Go.WideShapes Go.ChangeAt Go.RowKit
open Dg (W B)
open Ms (Msg)
namespace Ms
end Ms
namespace Ms
def c1 (x : UInt8) : ByteArray := { data := #[x] }
/-- the text up to the instance, and what follows -/
def text0 (kn : Nat) (epoch inst : Int) : ByteArray := name kn ++ { data := #[40] } ++ istr epoch ++ { data := #[44] } ++ istr inst
def more (b : Bool) (s : ByteArray) (n : Int) : ByteArray := bif b then s ++ ({ data := #[44] } ++ istr n) else s
def text (kn : Nat) (epoch inst round bit : Int) : ByteArray := more (fBit kn) (more (fRound kn) (text0 kn epoch inst) round) bit ++ { data := #[41] }
theorem name_size (k : Nat) : (name k).size ≤ 20 := by
  rcases Nat.lt_or_ge k 13 with h | h
  · rcases (show k = 0 ∨ k = 1 ∨ k = 2 ∨ k = 3 ∨ k = 4 ∨ k = 5 ∨ k = 6 ∨ k = 7 ∨ k = 8 ∨ k = 9 ∨ k = 10 ∨ k = 11 ∨ k = 12 by omega) with rfl | rfl | rfl | rfl | rfl | rfl | rfl | rfl | rfl | rfl | rfl | rfl | rfl <;> decide
  · unfold name
    rw [show nameL.getD k [] = [] from by simp [List.getD, nameL, h]]
    decide
end Ms
theorem rfields_any (k : Int) (h : 1 ≤ k ∧ k ≤ 12) (w : World) :
    Calls Tryz.prog 31 #[.int .i64 k] w fun e w' => e = .returned (.tuple #[.bool (Ms.fRound k), .bool (Ms.fBit k), .bool (Ms.fRoot k), .bool (Ms.fLen k), .bool (Ms.fData k), .bool (Ms.fPath k)]) ∧ w = w' := by
  rcases (show k = 1 ∨ k = 2 ∨ k = 3 ∨ k = 12 ∨ k = 4 ∨ k = 5 ∨ k = 6 ∨ k = 7 ∨ k = 8 ∨ k = 9 ∨ k = 10 ∨ k = 11 by omega) with rfl | rfl | rfl | rfl | rfl | rfl | rfl | rfl | rfl | rfl | rfl | rfl
  · exact rfields_d _ (by omega) w
  · exact rfields_d _ (by omega) w
  · exact rfields_d _ (by omega) w
  · exact rfields_d _ (by omega) w
  · exact rfields_p _ (by omega) w
  · exact rfields_p _ (by omega) w
  · exact rfields_l _ (by omega) w
  · exact rfields_v _ (by omega) w
  · exact rfields_v _ (by omega) w
  · exact rfields_c _ (by omega) w
  · exact rfields_n _ (by omega) w
  · exact rfields_t _ (by omega) w
theorem names_any (w : World) : Calls Tryz.prog 36 #[] w fun e w' => ∃ N, e = .returned (.slice (some ⟨N, 0, none⟩) 13 13) ∧ (∀ k, k < 13 → w'.cell? ⟨N, k, none⟩ = some (.string (Ms.name k))) ∧ Below w.heap.size w w' := by
  go_enter Tryz.func36, Tryz.ntmps36
  go_wp2_with fail
  go_ret
  refine ⟨w.heap.size, rfl, fun k hk => ?_, (Below.refl _ _).alloc (Nat.le_refl _) _⟩
  rw [World.cell?_alloc_new]
  rcases (show k = 0 ∨ k = 1 ∨ k = 2 ∨ k = 3 ∨ k = 4 ∨ k = 5 ∨ k = 6 ∨ k = 7 ∨ k = 8 ∨ k = 9 ∨ k = 10 ∨ k = 11 ∨ k = 12 by omega) with rfl | rfl | rfl | rfl | rfl | rfl | rfl | rfl | rfl | rfl | rfl | rfl | rfl
  all_goals rfl
theorem rof9_none (m : Msg) (dv pv : Value) (w : World) (hk : m.kind < 1 ∨ 12 < m.kind) :
    Calls Tryz.prog 16 #[msgV m dv pv] w fun e w' => e = .returned (.string ByteArray.empty) ∧ Below w.heap.size w w' := by
  unfold msgV
  have B0 := Lib.hid fun c => (Below.refl w.heap.size w).alloc (Nat.le_refl _) (.cells c 27)
  rcases hk with hk | hk
  · have t1 : decide (m.kind < 1) = true := decide_eq_true hk
    clear hk
    go_enter Tryz.func16, Tryz.ntmps16
    go_wp2_with fail
    go_ret
    exact ⟨rfl, B0.out _⟩
  · have t1 : decide (m.kind < 1) = false := decide_eq_false (by omega)
    have t2 : decide (12 < m.kind) = true := decide_eq_true hk
    clear hk
    go_enter Tryz.func16, Tryz.ntmps16
    go_wp2_with fail
    go_ret
    exact ⟨rfl, B0.out _⟩
set_option maxRecDepth 100000 in
set_option maxHeartbeats 2000000 in
theorem rof9_some (kn : Nat) (epoch inst round bit : Int) (root : W) (len : Int) (dv pv : Value) (w : World) (hk : 1 ≤ kn ∧ kn ≤ 12) (h1 : Cd.InR epoch) (h2 : Cd.InR inst) (h3 : Cd.InR round) (h4 : Cd.InR bit) (ht : Tab w) :
    Calls Tryz.prog 16 #[msgV ⟨kn, epoch, inst, round, bit, root, len, [], []⟩ dv pv] w fun e w' => e = .returned (.string (Ms.text kn epoch inst round bit)) ∧ Below w.heap.size w w' := by
  unfold msgV
  obtain ⟨TX, hTX⟩ : ∃ TX, TX = Ms.text kn epoch inst round bit := ⟨_, rfl⟩
  rw [← hTX]
  have HTXT := Lib.hid hTX
  clear hTX
  have R0 := Lib.hid (RecN.new w #[.int .i64 (kn : Int), .int .i64 epoch, .int .i64 inst, .int .i64 round, .int .i64 bit, .int .u64 (uv root), .int .i64 len, dv, pv] 27)
  have B0 := Lib.hid ((Below.refl w.heap.size w).alloc (Nat.le_refl _) (.cells #[.int .i64 (kn : Int), .int .i64 epoch, .int .i64 inst, .int .i64 round, .int .i64 bit, .int .u64 (uv root), .int .i64 len, dv, pv] 27))
  have t1 : decide ((kn : Int) < 1) = false := decide_eq_false (by omega)
  have t2 : decide ((12 : Int) < (kn : Int)) = false := decide_eq_false (by omega)
  have t13 : kn < 13 := by omega
  have t13I : (kn : Int) < 13 := by omega
  have t0I : (0 : Int) ≤ (kn : Int) := by omega
  obtain ⟨W0, hW0⟩ : ∃ W0, W0 = w.alloc (.cells #[.int .i64 (kn : Int), .int .i64 epoch, .int .i64 inst, .int .i64 round, .int .i64 bit, .int .u64 (uv root), .int .i64 len, dv, pv] 27) := ⟨_, rfl⟩
  rw [← hW0] at R0 B0
  have HW0 := Lib.hid hW0
  have HT := Lib.hid ht
  have CN := Lib.hid (names_any W0.drew)
  have C1 := Lib.hid fun w' (h : Tab w') => itoa_any epoch w' h1 h
  have C2 := Lib.hid fun w' (h : Tab w') => itoa_any inst w' h2 h
  have C3 := Lib.hid fun w' (h : Tab w') => itoa_any round w' h3 h
  have C4 := Lib.hid fun w' (h : Tab w') => itoa_any bit w' h4 h
  have z0 := R0.out.c 0 rfl
  have x0 : W0.drew.cell? _ = some _ := R0.out.c 0 rfl
  have x1 : W0.drew.cell? _ = some _ := R0.out.c 1 rfl
  have x2 : W0.drew.cell? _ = some _ := R0.out.c 2 rfl
  have hWs := hW0.symm
  have T0 := Lib.hid (HT.out.below B0.out)
  have CF := Lib.hid fun w' => rfields_any (kn : Int) (by omega) w'
  have sz1 := istr_size h1; have sz2 := istr_size h2; have sz3 := istr_size h3; have sz4 := istr_size h4
  have sz0 := Ms.name_size kn
  obtain ⟨E, hE⟩ : ∃ E, E = istr epoch := ⟨_, rfl⟩
  obtain ⟨I, hI⟩ : ∃ I, I = istr inst := ⟨_, rfl⟩
  obtain ⟨A0, hA0⟩ : ∃ A, A = Ms.name kn := ⟨_, rfl⟩
  obtain ⟨A1, hA1⟩ : ∃ A, A = A0 ++ { data := #[40] } := ⟨_, rfl⟩
  obtain ⟨A2, hA2⟩ : ∃ A, A = A1 ++ E := ⟨_, rfl⟩
  obtain ⟨A3, hA3⟩ : ∃ A, A = A2 ++ { data := #[44] } := ⟨_, rfl⟩
  obtain ⟨A4, hA4⟩ : ∃ A, A = A3 ++ I := ⟨_, rfl⟩
  have zA1 : A1.size = A0.size + 1 := by rw [hA1, ByteArray.size_append]; rfl
  have zA2 : A2.size = A1.size + E.size := by rw [hA2, ByteArray.size_append]
  have zA3 : A3.size = A2.size + 1 := by rw [hA3, ByteArray.size_append]; rfl
  have zA4 : A4.size = A3.size + I.size := by rw [hA4, ByteArray.size_append]
  rw [← hE] at sz1 C1; rw [← hI] at sz2 C2; rw [← hA0] at sz0
  have hT0 := Lib.hid (show Ms.text0 kn epoch inst = A4 by rw [hA4, hA3, hA2, hA1, hA0, hE, hI]; rfl)
  have HSZ4 := Lib.hid (show A4.size ≤ 100 by omega)
  have k1 : ¬ 9223372036854775807 < A0.size + 1 := by omega
  have k2 : ¬ 9223372036854775807 < A1.size + E.size := by omega
  have k3 : ¬ 9223372036854775807 < A2.size + 1 := by omega
  have k4 : ¬ 9223372036854775807 < A3.size + I.size := by omega
  have r0 := hA0.symm; have r1 := hA1.symm; have r2 := hA2.symm; have r3 := hA3.symm; have r4 := hA4.symm
  have HSR := Lib.hid (And.intro sz3 sz4)
  clear hW0 ht hk h1 h2 h3 h4 zA1 zA2 zA3 zA4 hE hI hA0 hA1 hA2 hA3 hA4 sz0 sz1 sz2 sz3 sz4
  go_enter Tryz.func16, Tryz.ntmps16
  go_wp2_with fail
  refine wp_region_seq [(1, true), (2, true), (6, true), (7, true), (11, true), (12, true), (0, false), (3, true), (4, true), (5, true), (8, false), (9, true), (10, true), (13, false), (14, true), (15, true)] (by kernel_rfl) (by kernel_rfl) (by kernel_rfl) (by kernel_rfl) ?_
  iterate 6 (refine wpSeq_pure (v := ?_) rfl (by rfl) (fun w' hw' => ?_) ?_; rotate_left; (focus (have y0 := kept hw' x0; have y1 := kept hw' x1; have y2 := kept hw' x2; go_simp; try with_reducible rfl)); try simp only [Act.put, List.setIfInBounds_toArray, List.set_cons_zero, List.set_cons_succ])
  refine wpSeq_call rfl (fun K' hK => ?_)
  go_simp
  go_at_call 36
  refine (CN.out).mono ?_; rintro e w1 ⟨N1, rfl, hn1, b1⟩
  refine hK.out _ _ b1 ?_
  clear hK K'
  try simp only [Act.put, List.setIfInBounds_toArray, List.set_cons_zero, List.set_cons_succ]
  have hnk := hn1 kn t13
  rw [r0] at hnk
  have B1 := Lib.hid b1
  clear hn1 b1
  iterate 3 (refine wpSeq_pure (v := ?_) rfl (by rfl) (fun w' hw' => ?_) ?_; rotate_left; (focus (have y0 := kept hw' hnk; go_simp; try with_reducible rfl)); try simp only [Act.put, List.setIfInBounds_toArray, List.set_cons_zero, List.set_cons_succ])
  refine wpSeq_call rfl (fun K' hK => ?_)
  go_simp
  go_at_call 32
  refine (C1.out _ (T0.out.drew.below B1.out)).mono ?_; rintro e w2 ⟨rfl, b2⟩
  refine hK.out _ _ b2 ?_
  clear hK K'
  try simp only [Act.put, List.setIfInBounds_toArray, List.set_cons_zero, List.set_cons_succ]
  have B2 := Lib.hid (B1.out.trans (b2.mono B1.out.size))
  clear b2 hnk
  iterate 2 (refine wpSeq_pure (v := ?_) rfl (by rfl) (fun w' hw' => ?_) ?_; rotate_left; (focus (go_simp; try with_reducible rfl)); try simp only [Act.put, List.setIfInBounds_toArray, List.set_cons_zero, List.set_cons_succ])
  refine wpSeq_call rfl (fun K' hK => ?_)
  go_simp
  go_at_call 32
  refine (C2.out _ (T0.out.drew.below B2.out)).mono ?_; rintro e w3 ⟨rfl, b3⟩
  refine hK.out _ _ b3 ?_
  clear hK K'
  try simp only [Act.put, List.setIfInBounds_toArray, List.set_cons_zero, List.set_cons_succ]
  have B3 := Lib.hid (B2.out.trans (b3.mono B2.out.size))
  clear b3
  iterate 2 (refine wpSeq_pure (v := ?_) rfl (by rfl) (fun w' hw' => ?_) ?_; rotate_left; (focus (go_simp; try with_reducible rfl)); try simp only [Act.put, List.setIfInBounds_toArray, List.set_cons_zero, List.set_cons_succ])
  refine wpSeq_nil ?_
  have R3 := Lib.hid (R0.out.drew.below B3.out (by have := R0.out.1; exact this))
  have BW3 := Lib.hid (B0.out.drew.trans (B3.out.mono (show w.heap.size ≤ W0.drew.heap.size from B0.out.size)))
  have T3 := Lib.hid (T0.out.drew.below B3.out)
  clear x0 x1 x2 z0
  have z0 := R3.out.c 0 rfl; have z3 := R3.out.c 3 rfl; have z4 := R3.out.c 4 rfl
  obtain ⟨R, hR⟩ : ∃ R, R = istr round := ⟨_, rfl⟩
  obtain ⟨T, hT⟩ : ∃ T, T = istr bit := ⟨_, rfl⟩
  rw [← hR, ← hT] at HSR
  have C3' := C3.out; rw [← hR] at C3'; have C3 := Lib.hid C3'
  have C4' := C4.out; rw [← hT] at C4'; have C4 := Lib.hid C4'
  obtain ⟨P1, hP1⟩ : ∃ P : ByteArray, P = { data := #[44] } ++ R := ⟨_, rfl⟩
  obtain ⟨P2, hP2⟩ : ∃ P : ByteArray, P = { data := #[44] } ++ T := ⟨_, rfl⟩
  obtain ⟨X1, hX1⟩ : ∃ X : ByteArray, X = A4 ++ P1 := ⟨_, rfl⟩
  obtain ⟨X2, hX2⟩ : ∃ X : ByteArray, X = A4 ++ P2 := ⟨_, rfl⟩
  obtain ⟨X3, hX3⟩ : ∃ X : ByteArray, X = X1 ++ P2 := ⟨_, rfl⟩
  have sP1 : P1.size = 1 + R.size := by rw [hP1, ByteArray.size_append]; rfl
  have sP2 : P2.size = 1 + T.size := by rw [hP2, ByteArray.size_append]; rfl
  have sX1 : X1.size = A4.size + P1.size := by rw [hX1, ByteArray.size_append]
  have sX2 : X2.size = A4.size + P2.size := by rw [hX2, ByteArray.size_append]
  have sX3 : X3.size = X1.size + P2.size := by rw [hX3, ByteArray.size_append]
  have q0 := HSR.out; have q1 := HSZ4.out
  have j1 : ¬ 9223372036854775807 < 1 + R.size := by omega
  have j2 : ¬ 9223372036854775807 < 1 + T.size := by omega
  have j3 : ¬ 9223372036854775807 < A4.size + P1.size := by omega
  have j4 : ¬ 9223372036854775807 < A4.size + P2.size := by omega
  have j5 : ¬ 9223372036854775807 < X1.size + P2.size := by omega
  have j6 : ¬ 9223372036854775807 < A4.size + 1 := by omega
  have j7 : ¬ 9223372036854775807 < X1.size + 1 := by omega
  have j8 : ¬ 9223372036854775807 < X2.size + 1 := by omega
  have j9 : ¬ 9223372036854775807 < X3.size + 1 := by omega
  have HTX := Lib.hid (show ∀ b1 b2 : Bool, Ms.more b2 (Ms.more b1 A4 round) bit = bif b2 then (bif b1 then X3 else X2) else (bif b1 then X1 else A4) by
    rintro (_ | _) (_ | _)
    · rfl
    · rw [hX2, hP2, hT]; rfl
    · rw [hX1, hP1, hR]; rfl
    · rw [hX3, hX1, hP2, hP1, hT, hR]; rfl)
  have u1 := hP1.symm; have u2 := hP2.symm; have u3 := hX1.symm; have u4 := hX2.symm; have u5 := hX3.symm
  clear sP1 sP2 sX1 sX2 sX3 q0 q1 hP1 hP2 hX1 hX2 hX3 hR hT C3' C4' r0 r1 r2 r3 r4 k1 k2 k3 k4
  have HTE := Lib.hid (show Ms.text kn epoch inst round bit = Ms.more (Ms.fBit kn) (Ms.more (Ms.fRound kn) A4 round) bit ++ { data := #[41] } by unfold Ms.text; rw [hT0.out])
  have HF := Lib.hid (show TX = (bif Ms.fBit kn then (bif Ms.fRound kn then X3 else X2) else (bif Ms.fRound kn then X1 else A4)) ++ { data := #[41] } by rw [HTXT.out, HTE.out, HTX.out])
  clear HTE HTX
  go_wp2_with fail
  refine (CF.out _).mono ?_; rintro e w' ⟨rfl, rfl⟩
  generalize Ms.fRound (kn : Int) = f1 at HF
  generalize Ms.fBit (kn : Int) = f2 at HF
  cases f1
  all_goals cases f2
  · go_wp2_with fail
    go_ret
    exact ⟨by rw [HF.out]; rfl, BW3.out⟩
  · go_wp2_with fail
    refine (C4.out _ T3.out).mono ?_; rintro e w4 ⟨rfl, b4⟩
    have B4 := Lib.hid (BW3.out.trans (b4.mono BW3.out.size)); clear b4
    go_wp2_with fail
    go_ret
    exact ⟨by rw [HF.out]; rfl, B4.out⟩
  · go_wp2_with fail
    refine (C3.out _ T3.out).mono ?_; rintro e w4 ⟨rfl, b4⟩
    have B4 := Lib.hid (BW3.out.trans (b4.mono BW3.out.size)); clear b4
    go_wp2_with fail
    go_ret
    exact ⟨by rw [HF.out]; rfl, B4.out⟩
  · go_wp2_with fail
    refine (C3.out _ T3.out).mono ?_; rintro e w4 ⟨rfl, b4⟩
    have B4 := Lib.hid (BW3.out.trans (b4.mono BW3.out.size)); have T4 := Lib.hid (T3.out.below b4)
    have z4b := kept b4 z4
    clear b4
    go_wp2_with fail
    refine (C4.out _ T4.out).mono ?_; rintro e w5 ⟨rfl, b5⟩
    have B5 := Lib.hid (B4.out.trans (b5.mono B4.out.size)); clear b5
    go_wp2_with fail
    go_ret
    exact ⟨by rw [HF.out]; rfl, B5.out⟩
/-- the text of a message -/
def Ms.of (m : Msg) : ByteArray := if m.kind < 1 ∨ 12 < m.kind then ByteArray.empty else Ms.text m.kind.toNat m.epoch m.inst m.round m.bit
theorem rof9_any (m : Msg) (dv pv : Value) (w : World) (hw : m.Wf) (ht : Tab w) :
    Calls Tryz.prog 16 #[msgV m dv pv] w fun e w' => e = .returned (.string (Ms.of m)) ∧ Below w.heap.size w w' := by
  unfold Ms.of
  by_cases h : m.kind < 1 ∨ 12 < m.kind
  · rw [if_pos h]
    exact rof9_none m dv pv w h
  · rw [if_neg h]
    obtain ⟨kind, epoch, inst, round, bit, root, len, data, path⟩ := m
    obtain ⟨kn, rfl⟩ : ∃ kn : Nat, kind = kn := ⟨kind.toNat, by simp at h; omega⟩
    rw [Int.toNat_natCast]
    exact rof9_some kn epoch inst round bit root len dv pv w (by simp at h; omega) hw.epoch hw.inst hw.round hw.bit ht
end Go.Proofs.YtgkckomccabmlaaGreatDoor
