/-
  What the inner functions of package codec that read numbers return. Nothing that was there has changed. Condition: the bytes are fewer than three hundred millions.
-/
import Derived.Test.YtkckimhkbnigkaaCodec
namespace Go.Proofs.Ytkckimhkbnigkaa
open Go.ChangeShapes Go.WideShapes Go.ChangeAt Go.RowKit
open Dg (W B)
theorem unfolded_any (u : Nat) (w : World) (hu : u < 18446744073709551616) :
    Calls Try.prog 54 #[.int .u64 (u : Int)] w fun e w' => e = .returned (.int .i64 (Cd.zag u)) ∧ w = w' := by
  obtain ⟨x, hx⟩ : ∃ x, x = u / 2 := ⟨_, rfl⟩
  have hxI : (u : Int) / 2 = (x : Int) := by omega
  have hx63 : x ≤ 9223372036854775807 := by omega
  by_cases h : u % 2 = 1
  · have t1 : (u : Int) % 2 = 1 := by omega
    have hz := Lib.hid (show Cd.zag u = -(x : Int) - 1 by unfold Cd.zag; rw [if_pos h, ← hx])
    clear hx h
    go_enter Try.func54, Try.ntmps54
    go_wp2_with fail
    go_ret
    exact ⟨by rw [hz.out]; rfl, rfl⟩
  · have t1 : (u : Int) % 2 = 0 := by omega
    have hz := Lib.hid (show Cd.zag u = (x : Int) by unfold Cd.zag; rw [if_neg h, ← hx])
    clear hx h
    go_enter Try.func54, Try.ntmps54
    go_wp2_with fail
    go_ret
    exact ⟨by rw [hz.out]; rfl, rfl⟩
/-- what number returns -/
def nRes : Cd.R Int → Value
  | .ok n k => .tuple #[.int .i64 n, .int .i64 (k : Int), .int .i64 0]
  | .bad c => .tuple #[.int .i64 0, .int .i64 0, .int .i64 (c : Int)]
def NRel (L : List B) (w : World) (u i : Value) (wr : World) : Prop :=
  ∃ (k acc : Nat), k ≤ 9 ∧ u = .int .u64 (acc : Int) ∧ i = .int .i64 (k : Int) ∧ acc < 128 ^ k ∧ k ≤ L.length ∧ Cd.rd 0 0 L = Cd.rd k acc (L.drop k) ∧ w = wr
set_option maxRecDepth 100000 in
set_option maxHeartbeats 2000000 in
theorem num_any (L : List B) (N : Nat) (v : Value) (w : World) (hL : L.length ≤ 300000000) (h : HasB w N v L) :
    Calls Try.prog 41 #[v] w fun e w' => e = .returned (nRes (Cd.getI L)) ∧ w = w' := by
  obtain ⟨a, cap, rfl⟩ := h.form
  obtain ⟨m, hm⟩ : ∃ m, m = L.length := ⟨_, rfl⟩
  rw [← hm] at h hL ⊢
  have HM := Lib.hid hm; have H := Lib.hid h
  clear hm h
  go_enter Try.func41, Try.ntmps41
  go_wp2_with fail
  go_loopw [5, 10] (NRel L w) (fun _ i _ => 10 - (intOf i).toNat)
  case atStart => exact ⟨0, 0, by omega, rfl, rfl, by simp, by omega, by simp, rfl⟩
  case round =>
    obtain ⟨k, acc, hk, rfl, rfl, hacc, hpk, hrd, rfl⟩ := hrel
    have HRD := Lib.hid hrd; clear hrd
    have HACC := Lib.hid hacc; clear hacc
    rw [← HM.out] at hpk
    have k9 : k ≤ 9 := hk
    by_cases hend : m ≤ k
    · have hnil : L.drop k = [] := List.drop_eq_nil_of_le (by have := HM.out; omega)
      have hres : Cd.getI L = .bad 5 := by unfold Cd.getI; rw [HRD.out, hnil]; rfl
      have HRES := Lib.hid hres; clear hres hnil
      obtain rfl : k = m := by omega
      go_wp2_with fail
      go_ret3
      exact ⟨by rw [HRES.out]; rfl, rfl⟩
    · have t3 : k < m := by omega
      obtain ⟨b', off', rfl, hcell⟩ := H.out.at k t3
      have hcons := drop_cons (L := L) (j := k) (by have := HM.out; omega)
      generalize L.getD k 0 = c at hcell hcons
      have HC := Lib.hid hcons; clear hcons
      obtain ⟨cv, hcv⟩ : ∃ cv, cv = c.toNat := ⟨_, rfl⟩
      have hbn : bv c = (cv : Int) := by rw [hcv]; rfl
      have c256 : cv < 256 := by rw [hcv]; exact c.isLt
      rw [hbn] at hcell
      have HCV := Lib.hid hcv
      clear hbn hcv
      by_cases hbad : (k = 9 ∧ 1 < cv) ∨ (0 < k ∧ cv = 0)
      · have hres : Cd.getI L = .bad 4 := by unfold Cd.getI; rw [HRD.out, HC.out, Cd.rd, ← HCV.out, if_pos hbad]
        have HRES := Lib.hid hres; clear hres
        rcases hbad with ⟨hb9, hb⟩ | ⟨hb, hc0⟩
        · subst hb9
          have q1 : (1 : Int) < (cv : Int) := by omega
          have q4 : ((cv : Int) == 0) = false := by rw [beq_eq_false_iff_ne]; omega
          go_wp2_with fail
          go_ret3
          exact ⟨by rw [HRES.out]; rfl, rfl⟩
        · subst hc0
          have q2 : (0 : Int) < (k : Int) := by omega
          go_wp2_with fail
          go_ret3
          exact ⟨by rw [HRES.out]; rfl, rfl⟩
      · have hok := rd_step (L.drop (k + 1)) k acc c cv HCV.out hbad
        have HOK := Lib.hid hok; clear hok
        have hor := or_shift acc (cv % 128) k k9 HACC.out (by omega) (by omega)
        obtain ⟨sh, hsh⟩ : ∃ sh : Nat, sh = 7 * k := ⟨_, rfl⟩
        rw [← hsh] at hor
        have hways : (k = 9 ∧ cv = 1) ∨ (k = 0) ∨ (0 < k ∧ k < 9 ∧ 0 < cv) := by omega
        obtain ⟨u, hu⟩ : ∃ u, u = acc + cv % 128 * 128 ^ k := ⟨_, rfl⟩
        have hulo : u < 128 ^ (k + 1) := by
          have h1 : cv % 128 * 128 ^ k ≤ 127 * 128 ^ k := Nat.mul_le_mul_right _ (by omega)
          have := HACC.out
          rw [hu, Nat.pow_succ]; omega
        have hu64 : u < 18446744073709551616 := by
          rcases Nat.lt_or_ge k 9 with h | h
          · have : (128 : Nat) ^ (k + 1) ≤ 128 ^ 9 := Nat.pow_le_pow_right (by decide) (by omega)
            exact Nat.lt_of_lt_of_le hulo (Nat.le_trans this (by decide))
          · obtain rfl : k = 9 := by omega
            have := HACC.out
            have h1 : cv % 128 ≤ 1 := by omega
            rw [hu]
            have h2 : cv % 128 * 128 ^ 9 ≤ 1 * 128 ^ 9 := Nat.mul_le_mul_right _ h1
            have h3 : (128 : Nat) ^ 9 = 9223372036854775808 := by decide
            omega
        rw [← hu] at hor HOK
        have HU := Lib.hid hu; have HULO := Lib.hid hulo
        rw [show ((cv % 128 : Nat) : Int) = (cv : Int) % 128 by omega] at hor
        clear hu hulo
        have CU := Lib.hid (unfolded_any u w hu64)
        clear hu64
        by_cases hsm : cv < 128
        · have hres : Cd.getI L = .ok (Cd.zag u) (k + 1) := by unfold Cd.getI; rw [HRD.out, HC.out, HOK.out, if_pos hsm]
          have HRES := Lib.hid hres; clear hres
          have hsmI : (cv : Int) < 128 := by omega
          have hfin : Hid (((k + 1 : Nat) : Int) = (k : Int) + 1) := Lib.hid (by omega)
          generalize Cd.zag u = zv at CU HRES
          rcases hways with ⟨h9, hc1⟩ | h0 | ⟨h0, h9, hc1⟩
          · subst h9; subst hc1
            have e63 : (2 : Int) ^ sh = 9223372036854775808 := by rw [hsh]; decide
            clear hsh
            rw [e63] at hor
            have hor9 : bits .or .u64 (acc : Int) 9223372036854775808 = (u : Int) := by rw [← hor]; rfl
            clear hor e63
            go_wp2_with fail
            refine (CU.out).mono ?_; rintro e w' ⟨rfl, rfl⟩
            go_wp2_with fail
            go_ret3
            exact ⟨by rw [HRES.out]; rfl, rfl⟩
          · have q3 : ((k : Int) == 9) = false := by rw [beq_eq_false_iff_ne]; omega
            have q2 : ¬ (0 : Int) < (k : Int) := by omega
            have h7 : (7 : Int) * (k : Int) = (sh : Int) := by omega
            have hs60 : sh ≤ 60 := by omega
            clear h0 hsh
            go_wp2_with fail
            refine (CU.out).mono ?_; rintro e w' ⟨rfl, rfl⟩
            go_wp2_with fail
            go_ret3
            exact ⟨by rw [HRES.out, nRes, hfin.out]; rfl, rfl⟩
          · have q3 : ((k : Int) == 9) = false := by rw [beq_eq_false_iff_ne]; omega
            have q2 : (0 : Int) < (k : Int) := by omega
            have q4 : ((cv : Int) == 0) = false := by rw [beq_eq_false_iff_ne]; omega
            have h7 : (7 : Int) * (k : Int) = (sh : Int) := by omega
            have hs60 : sh ≤ 60 := by omega
            clear h0 hc1 hsh
            go_wp2_with fail
            refine (CU.out).mono ?_; rintro e w' ⟨rfl, rfl⟩
            go_wp2_with fail
            go_ret3
            exact ⟨by rw [HRES.out, nRes, hfin.out]; rfl, rfl⟩
        · have hk8 : k ≤ 8 := by omega
          have hsmI : ¬ (cv : Int) < 128 := by omega
          have hnext : Hid (Cd.rd 0 0 L = Cd.rd (k + 1) u (L.drop (k + 1))) := Lib.hid (by rw [HRD.out, HC.out, HOK.out, if_neg hsm])
          by_cases hk0 : k = 0
          · have q3 : ((k : Int) == 9) = false := by rw [beq_eq_false_iff_ne]; omega
            have q2 : ¬ (0 : Int) < (k : Int) := by omega
            have h7 : (7 : Int) * (k : Int) = (sh : Int) := by omega
            have hs60 : sh ≤ 60 := by omega
            clear hk0 hways hsh
            go_wp2_with fail
            go_roundw
            case rel => exact ⟨k + 1, u, by omega, rfl, by go_num, HULO.out, by have := HM.out; omega, hnext.out, rfl⟩
            case measure => simp [intOf]; omega
          · have q3 : ((k : Int) == 9) = false := by rw [beq_eq_false_iff_ne]; omega
            have q2 : (0 : Int) < (k : Int) := by omega
            have q4 : ((cv : Int) == 0) = false := by rw [beq_eq_false_iff_ne]; omega
            have h7 : (7 : Int) * (k : Int) = (sh : Int) := by omega
            have hs60 : sh ≤ 60 := by omega
            clear hk0 hways hsh
            go_wp2_with fail
            go_roundw
            case rel => exact ⟨k + 1, u, by omega, rfl, by go_num, HULO.out, by have := HM.out; omega, hnext.out, rfl⟩
            case measure => simp [intOf]; omega
end Go.Proofs.Ytkckimhkbnigkaa
