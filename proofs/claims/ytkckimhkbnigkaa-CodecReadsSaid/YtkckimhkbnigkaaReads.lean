/-
  The law's own comparison of what is read (reads) returns true wherever both sides read alike. Nothing that was there has changed. Condition: the bytes are fewer than three hundred millions.
-/
import Derived.Test.YtkckimhkbnigkaaAll
namespace Go.Proofs.Ytkckimhkbnigkaa
open Go.ChangeShapes Go.WideShapes Go.ChangeAt Go.RowKit
open Dg (W B)
theorem str_same (s : ByteArray) : (s.toList == s.toList) = true := by simp
theorem rdL_many : ∀ (m : Nat) (b : List B) (p : Nat) (l : List (List B)) (q : Nat), Cd.rdL m b p = .ok l q → l.length + p ≤ q
  | 0, b, p, l, q, h => by
    simp only [Cd.rdL, Cd.R.ok.injEq] at h
    obtain ⟨rfl, rfl⟩ := h
    simp
  | m + 1, b, p, l, q, h => by
    rw [Cd.rdL] at h
    split at h
    · cases h
    · rename_i d k hb
      obtain ⟨g1, g2, g3, g4⟩ := Cd.getB_inv hb
      split at h
      · cases h
      · rename_i l' q' hl
        simp only [Cd.R.ok.injEq] at h
        obtain ⟨rfl, rfl⟩ := h
        have := rdL_many m (b.drop k) (p + k) l' q' hl
        simp; omega
theorem getL_many {b : List B} {l : List (List B)} {k : Nat} (h : Cd.getL b = .ok l k) : l.length ≤ b.length := by
  have h2 := (Cd.getL_inv h).2.1
  unfold Cd.getL at h
  split at h
  · cases h
  · split at h
    · cases h
    · have := rdL_many _ _ _ _ _ h
      omega
theorem val_many (L : List B) (p : Int) : (Cd.val [] (Cd.resAt L p Cd.getL)).length ≤ L.length := by
  unfold Cd.resAt
  split
  · simp [Cd.val]
  · cases hr : Cd.getL (L.drop p.toNat) with
    | bad c => simp [Cd.val]
    | ok l k =>
      have := getL_many hr
      rw [List.length_drop] at this
      show l.length ≤ _
      omega
set_option maxRecDepth 100000 in
set_option maxHeartbeats 2000000 in
theorem reads_any (L : List B) (p : Int) (v : Value) (w : World) (hL : L.length ≤ 300000000) (h : HasB w w.heap.size v L) :
    Calls Try.prog 14 #[v, .int .i64 p] w fun e w' => e = .returned (.bool true) ∧ Below w.heap.size w w' := by
  have H := Lib.hid h; have HL := Lib.hid hL
  obtain ⟨a, cap, rfl⟩ := h.form
  obtain ⟨m, hm⟩ : ∃ m, m = L.length := ⟨_, rfl⟩
  rw [← hm] at H ⊢
  clear h hL hm
  obtain ⟨r1, h1⟩ : ∃ r, r = Cd.resAt L p Cd.getI := ⟨_, rfl⟩
  obtain ⟨r2, h2⟩ : ∃ r, r = Cd.resAt L p Cd.getB := ⟨_, rfl⟩
  obtain ⟨r3, h3⟩ : ∃ r, r = Cd.resAt L p Cd.getD := ⟨_, rfl⟩
  obtain ⟨r4, h4⟩ : ∃ r, r = Cd.resAt L p Cd.getL := ⟨_, rfl⟩
  obtain ⟨r5, h5⟩ : ∃ r, r = Cd.resAt L p Cd.unframe := ⟨_, rfl⟩
  have C1 := Lib.hid fun (w' : World) (hw : Below w.heap.size w w') => cint_all L p _ w' HL.out ((H.out.below hw (Nat.le_refl _)).wide hw.size)
  have R1 := Lib.hid fun (w' : World) (hw : Below w.heap.size w w') => rint_all L p _ w' HL.out ((H.out.below hw (Nat.le_refl _)).wide hw.size)
  have C2 := Lib.hid fun (w' : World) (hw : Below w.heap.size w w') => cbytes_all L p _ w' HL.out ((H.out.below hw (Nat.le_refl _)).wide hw.size)
  have R2 := Lib.hid fun (w' : World) (hw : Below w.heap.size w w') => rbytes_all L p _ w' HL.out ((H.out.below hw (Nat.le_refl _)).wide hw.size)
  have C3 := Lib.hid fun (w' : World) (hw : Below w.heap.size w w') => cdgt_all L p _ w' HL.out ((H.out.below hw (Nat.le_refl _)).wide hw.size)
  have R3 := Lib.hid fun (w' : World) (hw : Below w.heap.size w w') => rdgt_all L p _ w' HL.out ((H.out.below hw (Nat.le_refl _)).wide hw.size)
  have C4 := Lib.hid fun (w' : World) (hw : Below w.heap.size w w') => clist_all L p _ w' HL.out ((H.out.below hw (Nat.le_refl _)).wide hw.size)
  have R4 := Lib.hid fun (w' : World) (hw : Below w.heap.size w w') => rlist_all L p _ w' HL.out ((H.out.below hw (Nat.le_refl _)).wide hw.size)
  have C5 := Lib.hid fun (w' : World) (hw : Below w.heap.size w w') => cunframe_all L p _ w' HL.out ((H.out.below hw (Nat.le_refl _)).wide hw.size)
  have R5 := Lib.hid fun (w' : World) (hw : Below w.heap.size w w') => runframe_all L p _ w' HL.out ((H.out.below hw (Nat.le_refl _)).wide hw.size)
  have hmany := val_many L p
  rw [← h4] at hmany
  have HMANY := Lib.hid hmany; clear hmany
  rw [← h1] at C1 R1
  rw [← h2] at C2 R2
  rw [← h3] at C3 R3
  rw [← h4] at C4 R4
  rw [← h5] at C5 R5
  clear h1 h2 h3 h4 h5
  go_enter Try.func14, Try.ntmps14
  go_wp2_with fail
  refine (C1.out _ (Below.refl _ _)).mono ?_; rintro e w1 ⟨rfl, b1⟩
  have B1 := Lib.hid b1; clear b1
  go_wp2_with fail
  refine (R1.out _ B1.out).mono ?_; rintro e w2 ⟨rfl, b2⟩
  have B2 := Lib.hid (B1.out.trans (b2.mono B1.out.size)); clear b2
  go_wp2_with fail
  refine (C2.out _ B2.out).mono ?_; rintro e w3 ⟨a3, m3, c3, rfl, -, o3, b3⟩
  have B3 := Lib.hid (B2.out.trans (b3.mono B2.out.size)); have O3 := Lib.hid o3; clear b3 o3
  go_wp2_with fail
  refine (R2.out _ B3.out).mono ?_; rintro e w4 ⟨a4, m4, c4, rfl, -, o4, b4⟩
  have k3 := conv_any _ _ _ ((O3.out.below b4 (Nat.le_refl _)).wide b4.size)
  have k4 := conv_any _ _ _ o4
  have B4 := Lib.hid (B3.out.trans (b4.mono B3.out.size)); clear b4 o4
  go_wp2_with fail
  clear k3 k4
  refine (C3.out _ B4.out).mono ?_; rintro e w5 ⟨rfl, b5⟩
  have B5 := Lib.hid (B4.out.trans (b5.mono B4.out.size)); clear b5
  go_wp2_with fail
  refine (R3.out _ B5.out).mono ?_; rintro e w6 ⟨rfl, b6⟩
  have B6 := Lib.hid (B5.out.trans (b6.mono B5.out.size)); clear b6
  go_wp2_with fail
  refine (C4.out _ B6.out).mono ?_; rintro e w7 ⟨a7, m7, c7, rfl, -, o7, b7⟩
  have B7 := Lib.hid (B6.out.trans (b7.mono B6.out.size)); have O7 := Lib.hid o7; clear b7 o7
  go_wp2_with fail
  refine (R4.out _ B7.out).mono ?_; rintro e w8 ⟨a8, m8, c8, rfl, -, o8, b8⟩
  have B8 := Lib.hid (B7.out.trans (b8.mono B7.out.size))
  have SS := Lib.hid (same_strs _ _ _ _ w8 (by rw [List.length_map]; have := HMANY.out; have := HL.out; omega) ((O7.out.below b8 (Nat.le_refl _)).wide b8.size) o8)
  clear b8 o8
  go_wp2_with fail
  refine (SS.out).mono ?_; rintro e w' ⟨rfl, rfl⟩
  rw [decide_eq_true trivial]
  go_wp2_with fail
  refine (C5.out _ B8.out).mono ?_; rintro e w9 ⟨a9, m9, c9, rfl, -, o9, b9⟩
  have B9 := Lib.hid (B8.out.trans (b9.mono B8.out.size)); have O9 := Lib.hid o9; clear b9 o9
  go_wp2_with fail
  refine (R5.out _ B9.out).mono ?_; rintro e w10 ⟨a10, m10, c10, rfl, -, o10, b10⟩
  have k9 := conv_any _ _ _ ((O9.out.below b10 (Nat.le_refl _)).wide b10.size)
  have k10 := conv_any _ _ _ o10
  have B10 := Lib.hid (B9.out.trans (b10.mono B9.out.size)); clear b10 o10
  go_wp2_with fail
  go_ret
  exact ⟨rfl, B10.out⟩
end Go.Proofs.Ytkckimhkbnigkaa
