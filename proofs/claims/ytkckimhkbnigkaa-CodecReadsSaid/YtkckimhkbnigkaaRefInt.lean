/-
  What Int of the chapter of bytes returns. Nothing that was there has changed. Condition: the bytes are fewer than three hundred millions.
-/
import Derived.Test.YtkckimhkbnigkaaRefDgt
namespace Go.Proofs.Ytkckimhkbnigkaa
open Go.ChangeShapes Go.WideShapes Go.ChangeAt Go.RowKit
open Dg (W B)
namespace Cd
/-- what reading at a position gives: the value, the position behind it, the error -/
def at3 {α : Type} (z : α) (L : List B) (at_ : Int) (f : List B → R α) : α × Int × Int :=
  if at_ < 0 ∨ (L.length : Int) < at_ then (z, at_, 2) else match f (L.drop at_.toNat) with
    | .ok x k => (x, at_ + k, 0)
    | .bad c => (z, at_, c)
end Cd
set_option maxRecDepth 100000 in
theorem and127 (c : B) : IntKind.u64.wrap (bits .and .u8 (bv c) 127) = ((c.toNat % 128 : Nat) : Int) := by
  have h : ∀ c : Fin 256, bits .and .u8 ((c.val : Nat) : Int) 127 = ((c.val % 128 : Nat) : Int) := by decide
  have := h ⟨c.toNat, c.isLt⟩
  unfold bv
  rw [this, IntKind.wrap_u64]
  simp only []
  omega
theorem or_shift (acc x i : Nat) (hi : i ≤ 9) (ha : acc < 128 ^ i) (hx : x < 128) (h9 : i = 9 → x ≤ 1) : bits .or .u64 (acc : Int) (IntKind.u64.wrap ((x : Int) * 2 ^ (7 * i))) = ((acc + x * 128 ^ i : Nat) : Int) := by
  have hp : (128 : Nat) ^ i = 2 ^ (7 * i) := by rw [show (128 : Nat) = 2 ^ 7 by decide, ← Nat.pow_mul]
  have hlt : x * 2 ^ (7 * i) < 18446744073709551616 - 2 ^ (7 * i) + 1 := by
    rcases Nat.lt_or_ge i 9 with h | h
    · have h1 : 2 ^ (7 * i) ≤ 2 ^ 56 := Nat.pow_le_pow_right (by decide) (by omega)
      have h2 : x * 2 ^ (7 * i) ≤ 127 * 2 ^ (7 * i) := Nat.mul_le_mul_right _ (by omega)
      have h3 : (127 : Nat) * 2 ^ (7 * i) ≤ 127 * 2 ^ 56 := Nat.mul_le_mul_left _ h1
      omega
    · obtain rfl : i = 9 := by omega
      have := h9 rfl
      have h2 : x * 2 ^ 63 ≤ 1 * 2 ^ 63 := Nat.mul_le_mul_right _ this
      show x * 2 ^ 63 < _
      omega
  have ha' : acc < 2 ^ (7 * i) := by rw [← hp]; exact ha
  have hpow : (2 : Nat) ^ (7 * i) ≤ 9223372036854775808 := Nat.pow_le_pow_right (n := 2) (by decide) (show 7 * i ≤ 63 by omega)
  have hs : x * 2 ^ (7 * i) + acc < 18446744073709551616 := by omega
  have e1 : IntKind.u64.wrap ((x : Int) * 2 ^ (7 * i)) = uv (BitVec.ofNat 64 (x * 2 ^ (7 * i))) := by
    unfold uv
    rw [IntKind.wrap_u64, BitVec.toNat_ofNat, Nat.mod_eq_of_lt (by omega)]
    have : ((x : Int) * 2 ^ (7 * i)) = ((x * 2 ^ (7 * i) : Nat) : Int) := by push_cast; rfl
    rw [this]; omega
  have e2 : (acc : Int) = uv (BitVec.ofNat 64 acc) := by
    unfold uv
    rw [BitVec.toNat_ofNat, Nat.mod_eq_of_lt (by omega)]
  rw [e1, e2, uv_or]
  unfold uv
  rw [BitVec.toNat_or, BitVec.toNat_ofNat, BitVec.toNat_ofNat, Nat.mod_eq_of_lt (by omega), Nat.mod_eq_of_lt (by omega), Nat.or_comm, Nat.mul_comm x, ← Nat.two_pow_add_eq_or_of_lt ha', hp, Nat.mul_comm x, Nat.add_comm]
theorem zag_odd (u : Nat) (h : u < 18446744073709551616) (h1 : u % 2 = 1) : wrap64 (bits .xor .u64 IntKind.u64.max ((u : Int) / 2)) = Cd.zag u := by
  have e : ((u : Int) / 2) = uv (BitVec.ofNat 64 (u / 2)) := by
    unfold uv
    rw [BitVec.toNat_ofNat, Nat.mod_eq_of_lt (by omega)]
    omega
  rw [e, xor_max, ← e]
  unfold Cd.zag wrap64
  rw [if_pos h1]
  omega
theorem zag_even (u : Nat) (h : u < 18446744073709551616) (h1 : ¬ u % 2 = 1) : wrap64 ((u : Int) / 2) = Cd.zag u := by
  unfold Cd.zag wrap64
  rw [if_neg h1]
  omega
theorem and_one (u : Nat) (h : u < 18446744073709551616) : bits .and .u64 (u : Int) 1 = ((u % 2 : Nat) : Int) := by
  have e : (u : Int) = uv (BitVec.ofNat 64 u) := by
    unfold uv
    rw [BitVec.toNat_ofNat, Nat.mod_eq_of_lt h]
  rw [e, show (1 : Int) = uv 1#64 by decide, uv_and]
  unfold uv
  rw [BitVec.toNat_and, BitVec.toNat_ofNat, Nat.mod_eq_of_lt h, show (1#64).toNat = 2 ^ 1 - 1 by decide, Nat.and_two_pow_sub_one_eq_mod]
def numRes (p : Nat) : Cd.R Int → Value
  | .ok n k => .tuple #[.int .i64 n, .int .i64 ((p : Int) + k), .int .i64 0]
  | .bad c => .tuple #[.int .i64 0, .int .i64 p, .int .i64 c]
def IRel (L : List B) (p : Nat) (w : World) (u i : Value) (wr : World) : Prop :=
  ∃ (k acc : Nat), k ≤ 9 ∧ u = .int .u64 (acc : Int) ∧ i = .int .i64 (k : Int) ∧ acc < 128 ^ k ∧ p + k ≤ L.length ∧ Cd.rd 0 0 (L.drop p) = Cd.rd k acc (L.drop (p + k)) ∧ w = wr
theorem drop_cons {L : List B} {j : Nat} (h : j < L.length) : L.drop j = L.getD j 0 :: L.drop (j + 1) := by
  rw [List.drop_eq_getElem_cons h]
  simp [List.getD, h]
theorem rd_step (t : List B) (i acc : Nat) (c : B) (cv : Nat) (hc : cv = c.toNat) (h : ¬ ((i = 9 ∧ 1 < cv) ∨ (0 < i ∧ cv = 0))) :
    Cd.rd i acc (c :: t) = if cv < 128 then .ok (acc + cv % 128 * 128 ^ i) (i + 1) else Cd.rd (i + 1) (acc + cv % 128 * 128 ^ i) t := by
  subst hc
  have := c.isLt
  rw [Cd.rd, if_neg h]
  split
  · rename_i hs; rw [Nat.mod_eq_of_lt hs]
  · rename_i hs; rw [show c.toNat % 128 = c.toNat - 128 by omega]
set_option maxRecDepth 100000 in
set_option maxHeartbeats 2000000 in
theorem rint_in (L : List B) (p : Nat) (v : Value) (w : World) (hp : p ≤ L.length) (hL : L.length ≤ 300000000) (h : HasB w w.heap.size v L) :
    Calls Try.prog 29 #[v, .int .i64 (p : Int)] w fun e w' => e = .returned (numRes p (Cd.getI (L.drop p))) ∧ w = w' := by
  obtain ⟨a, cap, rfl⟩ := h.form
  obtain ⟨m, hm⟩ : ∃ m, m = L.length := ⟨_, rfl⟩
  rw [← hm] at h hp hL ⊢
  have HM := Lib.hid hm; have H := Lib.hid h
  have t1 : decide ((p : Int) < 0) = false := decide_eq_false (by omega)
  have t2 : decide (m < p) = false := decide_eq_false (by omega)
  clear hm h
  go_enter Try.func29, Try.ntmps29
  go_wp2_with fail
  go_loopw [7, 8] (IRel L p w) (fun _ i _ => 10 - (intOf i).toNat)
  case atStart => exact ⟨0, 0, by omega, rfl, rfl, by simp, by have := HM.out; omega, by simp, rfl⟩
  case round =>
    obtain ⟨k, acc, hk, rfl, rfl, hacc, hpk, hrd, rfl⟩ := hrel
    have HRD := Lib.hid hrd; clear hrd
    have HPK := Lib.hid hpk; clear hpk
    have HACC := Lib.hid hacc; clear hacc
    have k9 : k ≤ 9 := hk
    by_cases hend : m ≤ p + k
    · have hnil : L.drop (p + k) = [] := List.drop_eq_nil_of_le (by have := HM.out; omega)
      have hres : Cd.getI (L.drop p) = .bad 5 := by unfold Cd.getI; rw [HRD.out, hnil]; rfl
      have HRES := Lib.hid hres; clear hres hnil
      have t3 : (m : Int) ≤ (p : Int) + (k : Int) := by omega
      go_wp2_with fail
      go_ret3
      exact ⟨by rw [HRES.out]; rfl, rfl⟩
    · have t3 : ¬ (m : Int) ≤ (p : Int) + (k : Int) := by omega
      obtain ⟨b', off', rfl, hcell⟩ := H.out.at (p + k) (by omega)
      have hcons := drop_cons (L := L) (j := p + k) (by have := HM.out; omega)
      generalize L.getD (p + k) 0 = c at hcell hcons
      have HC := Lib.hid hcons; clear hcons
      obtain ⟨j, hj⟩ : ∃ j, j = p + k := ⟨_, rfl⟩
      have hjI : (p : Int) + (k : Int) = (j : Int) := by omega
      have hjm : j < m := by omega
      rw [← hj] at hcell HC HRD
      have HJ := Lib.hid hj; clear hj
      obtain ⟨cv, hcv⟩ : ∃ cv, cv = c.toNat := ⟨_, rfl⟩
      have hbn : bv c = (cv : Int) := by rw [hcv]; rfl
      have c256 : cv < 256 := by rw [hcv]; exact c.isLt
      rw [hbn] at hcell
      have HCV := Lib.hid hcv
      have HAND : Hid (IntKind.u64.wrap (bits .and .u8 (cv : Int) 127) = ((cv % 128 : Nat) : Int)) := Lib.hid (by have := and127 c; rw [hbn, ← hcv] at this; exact this)
      clear hbn hcv
      by_cases hbad : (k = 9 ∧ 1 < cv) ∨ (0 < k ∧ cv = 0)
      · have hres : Cd.getI (L.drop p) = .bad 4 := by unfold Cd.getI; rw [HRD.out, HC.out, Cd.rd, ← HCV.out, if_pos hbad]
        have HRES := Lib.hid hres; clear hres
        rcases hbad with ⟨hb9, hb⟩ | ⟨hb, hc0⟩
        · subst hb9
          have hj9 : (p : Int) + 9 = (j : Int) := by omega
          have hj3 : ¬ (m : Int) ≤ (j : Int) := by omega
          have q1 : (1 : Int) < (cv : Int) := by omega
          go_wp2_with fail
          go_ret3
          exact ⟨by rw [HRES.out]; rfl, rfl⟩
        · subst hc0
          have q2 : (0 : Int) < (k : Int) := by omega
          by_cases h9 : k = 9
          · subst h9
            have hj9 : (p : Int) + 9 = (j : Int) := by omega
            have hj3 : ¬ (m : Int) ≤ (j : Int) := by omega
            go_wp2_with fail
            go_ret3
            exact ⟨by rw [HRES.out]; rfl, rfl⟩
          · have q3 : ((k : Int) == 9) = false := by rw [beq_eq_false_iff_ne]; omega
            go_wp2_with fail
            go_ret3
            exact ⟨by rw [HRES.out]; rfl, rfl⟩
      · have hok := rd_step (L.drop (j + 1)) k acc c cv HCV.out hbad
        have HOK := Lib.hid hok; clear hok
        have hor := or_shift acc (cv % 128) k k9 HACC.out (by omega) (by omega)
        have hand := HAND.out
        obtain ⟨sh, hsh⟩ : ∃ sh : Nat, sh = 7 * k := ⟨_, rfl⟩
        rw [← hsh] at hor
        have hways : (k = 9 ∧ cv = 1) ∨ (k = 0) ∨ (0 < k ∧ k < 9 ∧ 0 < cv) := by omega
        have hj3 : ¬ (m : Int) ≤ (j : Int) := by omega
        obtain ⟨u, hu⟩ : ∃ u, u = acc + cv % 128 * 128 ^ k := ⟨_, rfl⟩
        have hulo : u < 128 ^ (k + 1) := by
          have h1 : cv % 128 * 128 ^ k ≤ 127 * 128 ^ k := Nat.mul_le_mul_right _ (by omega)
          have := HACC.out
          rw [hu, Nat.pow_succ]; omega
        have hu64 : u < 18446744073709551616 := by
          rcases Nat.lt_or_ge k 9 with h | h
          · have : (128 : Nat) ^ (k + 1) ≤ 128 ^ 9 := Nat.pow_le_pow_right (by decide) (by omega)
            exact Nat.lt_of_lt_of_le hulo (Nat.le_trans this (by decide))
          · obtain rfl : k = 9 := by omega
            have := HACC.out
            have h1 : cv % 128 ≤ 1 := by omega
            rw [hu]
            have h2 : cv % 128 * 128 ^ 9 ≤ 1 * 128 ^ 9 := Nat.mul_le_mul_right _ h1
            have h3 : (128 : Nat) ^ 9 = 9223372036854775808 := by decide
            omega
        rw [← hu] at hor HOK
        have HU := Lib.hid hu; have HULO := Lib.hid hulo
        rw [hand.symm] at hor
        clear hu hulo
        by_cases hsm : cv < 128
        · have hres : Cd.getI (L.drop p) = .ok (Cd.zag u) (k + 1) := by unfold Cd.getI; rw [HRD.out, HC.out, HOK.out, if_pos hsm]
          have HRES := Lib.hid hres; clear hres
          have hsmI : (cv : Int) < 128 := by omega
          have hone := and_one u hu64
          have hfin : Hid ((p : Int) + ((k + 1 : Nat) : Int) = (j : Int) + 1) := Lib.hid (by omega)
          by_cases hodd : u % 2 = 1
          · have hz2 := zag_odd u hu64 hodd
            rw [hodd] at hone
            clear hu64 hodd
            generalize Cd.zag u = zv at hz2 HRES
            rcases hways with ⟨h9, hc1⟩ | h0 | ⟨h0, h9, hc1⟩
            · subst h9; subst hc1
              have hj9 : (p : Int) + 9 = (j : Int) := by omega
              have e63 : (2 : Int) ^ sh = 9223372036854775808 := by rw [hsh]; decide
              clear hsh
              have hor9 : bits .or .u64 (acc : Int) (IntKind.u64.wrap (IntKind.u64.wrap (bits .and .u8 1 127) * 9223372036854775808)) = (u : Int) := by rw [e63] at hor; exact hor
              clear hor hand e63
              go_wp2_with fail
              go_ret3
              exact ⟨by rw [HRES.out, numRes, hfin.out]; rfl, rfl⟩
            · have q3 : ((k : Int) == 9) = false := by rw [beq_eq_false_iff_ne]; omega
              have q2 : ¬ (0 : Int) < (k : Int) := by omega
              have h7 : (7 : Int) * (k : Int) = (sh : Int) := by omega
              have hs60 : sh ≤ 60 := by omega
              clear hand h0 hsh
              go_wp2_with fail
              go_ret3
              exact ⟨by rw [HRES.out, numRes, hfin.out]; rfl, rfl⟩
            · have q3 : ((k : Int) == 9) = false := by rw [beq_eq_false_iff_ne]; omega
              have q2 : (0 : Int) < (k : Int) := by omega
              have q4 : ((cv : Int) == 0) = false := by rw [beq_eq_false_iff_ne]; omega
              have h7 : (7 : Int) * (k : Int) = (sh : Int) := by omega
              have hs60 : sh ≤ 60 := by omega
              clear hand h0 hc1 hsh
              go_wp2_with fail
              go_ret3
              exact ⟨by rw [HRES.out, numRes, hfin.out]; rfl, rfl⟩
          · have hz2 := zag_even u hu64 hodd
            rw [show u % 2 = 0 by omega] at hone
            clear hu64 hodd
            generalize Cd.zag u = zv at hz2 HRES
            rcases hways with ⟨h9, hc1⟩ | h0 | ⟨h0, h9, hc1⟩
            · subst h9; subst hc1
              have hj9 : (p : Int) + 9 = (j : Int) := by omega
              have e63 : (2 : Int) ^ sh = 9223372036854775808 := by rw [hsh]; decide
              clear hsh
              have hor9 : bits .or .u64 (acc : Int) (IntKind.u64.wrap (IntKind.u64.wrap (bits .and .u8 1 127) * 9223372036854775808)) = (u : Int) := by rw [e63] at hor; exact hor
              clear hor hand e63
              go_wp2_with fail
              go_ret3
              exact ⟨by rw [HRES.out, numRes, hfin.out]; rfl, rfl⟩
            · have q3 : ((k : Int) == 9) = false := by rw [beq_eq_false_iff_ne]; omega
              have q2 : ¬ (0 : Int) < (k : Int) := by omega
              have h7 : (7 : Int) * (k : Int) = (sh : Int) := by omega
              have hs60 : sh ≤ 60 := by omega
              clear hand h0 hsh
              go_wp2_with fail
              go_ret3
              exact ⟨by rw [HRES.out, numRes, hfin.out]; rfl, rfl⟩
            · have q3 : ((k : Int) == 9) = false := by rw [beq_eq_false_iff_ne]; omega
              have q2 : (0 : Int) < (k : Int) := by omega
              have q4 : ((cv : Int) == 0) = false := by rw [beq_eq_false_iff_ne]; omega
              have h7 : (7 : Int) * (k : Int) = (sh : Int) := by omega
              have hs60 : sh ≤ 60 := by omega
              clear hand h0 hc1 hsh
              go_wp2_with fail
              go_ret3
              exact ⟨by rw [HRES.out, numRes, hfin.out]; rfl, rfl⟩
        · have hk8 : k ≤ 8 := by omega
          have hsmI : ¬ (cv : Int) < 128 := by omega
          have hnext : Hid (Cd.rd 0 0 (L.drop p) = Cd.rd (k + 1) u (L.drop (j + 1))) := Lib.hid (by rw [HRD.out, HC.out, HOK.out, if_neg hsm])
          have hj1 := HJ.out
          clear hu64
          by_cases hk0 : k = 0
          · have q3 : ((k : Int) == 9) = false := by rw [beq_eq_false_iff_ne]; omega
            have q2 : ¬ (0 : Int) < (k : Int) := by omega
            have h7 : (7 : Int) * (k : Int) = (sh : Int) := by omega
            have hs60 : sh ≤ 60 := by omega
            clear hand hk0 hways hj1 hsh
            go_wp2_with fail
            go_roundw
            case rel => exact ⟨k + 1, u, by omega, rfl, by go_num, HULO.out, by have := HJ.out; have := HM.out; omega, by rw [hnext.out, HJ.out]; rfl, rfl⟩
            case measure => simp [intOf]; omega
          · have q3 : ((k : Int) == 9) = false := by rw [beq_eq_false_iff_ne]; omega
            have q2 : (0 : Int) < (k : Int) := by omega
            have q4 : ((cv : Int) == 0) = false := by rw [beq_eq_false_iff_ne]; omega
            have h7 : (7 : Int) * (k : Int) = (sh : Int) := by omega
            have hs60 : sh ≤ 60 := by omega
            clear hand hk0 hways hj1 hsh
            go_wp2_with fail
            go_roundw
            case rel => exact ⟨k + 1, u, by omega, rfl, by go_num, HULO.out, by have := HJ.out; have := HM.out; omega, by rw [hnext.out, HJ.out]; rfl, rfl⟩
            case measure => simp [intOf]; omega
end Go.Proofs.Ytkckimhkbnigkaa
