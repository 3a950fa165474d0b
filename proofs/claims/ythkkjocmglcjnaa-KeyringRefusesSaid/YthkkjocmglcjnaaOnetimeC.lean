/-
  What Digits, Sign and Recover of package onetime return, as the landed code computes them. Nothing that was there has changed. No condition.
-/
import Derived.Test.YthkkjocmglcjnaaOnetimeA
import Derived.Test.YthkkjocmglcjnaaOnetimeB
import Derived.Test.YthkkjocmglcjnaaMy
import Derived.Test.YthkkjocmglcjnaaIdx
import Derived.Deep.WholeRow
namespace Go.Proofs.Ythkkjocmglcjnaa
open Go.ChangeShapes Go.WideShapes Go.ChangeAt Go.RowKit
open Dg (W B)
theorem digI_cell (d : W) (k : Nat) (h : k < 18) : ((digI d 18).map ival)[k]? = some (.int .i64 (Ot.digit d k : Int)) := by
  rw [List.getElem?_map, List.getElem?_eq_getElem (by rw [digI_len]; exact h)]
  have := digI_at d 18 k h
  simp only [List.getD, List.getElem?_eq_getElem (show k < (digI d 18).length by rw [digI_len]; exact h), Option.getD_some] at this
  rw [this]; rfl
def AKeyRel (s d : W) (N : Nat) (w : World) (i : Value) (wr : World) : Prop := ∃ k : Nat, k ≤ 18 ∧ i = .int .i64 (k : Int) ∧ Arr wval 0 18 wr N (signTo s d k) ∧ Below w.heap.size w wr
set_option maxHeartbeats 1000000 in
theorem sign_any (s d : W) (w : World) :
    Calls Try.prog 23 #[.int .u64 (uv s), .int .u64 (uv d)] w fun e w' => ∃ v, e = .returned v ∧ MyW w.heap.size w' v (Ot.sign s d) ∧ Below w.heap.size w w' := by
  have hz := zero_w18
  obtain ⟨w0, hw0⟩ : ∃ w0, w0 = w.alloc (.cells zeros18 60) := ⟨_, rfl⟩
  have a0 : Arr wval 0 18 w0 w.heap.size (signTo s d 0) := by rw [hw0]; exact Arr.zero w _ _ rfl
  have b0 : Below w.heap.size w w0 := by rw [hw0]; exact (Below.refl _ _).alloc (Nat.le_refl _) _
  have W0 := Lib.hid hw0; have A0 := Lib.hid a0; have B0 := Lib.hid b0
  clear hw0 a0 b0
  go_enter Try.func23, Try.ntmps23
  go_wp2_with fail
  rw [← W0.out]
  clear hz
  refine (adigits_any d _).mono ?_; rintro e w1 ⟨rfl, b1⟩
  have A1 := Lib.hid (A0.out.below b1 A0.out.1); have B1 := Lib.hid (B0.out.trans (b1.mono B0.out.size)); clear b1
  have hat := digI_cell d
  generalize hL : (digI d 18).map ival = L at hat
  have HAT := Lib.hid hat; clear hat hL
  go_wp2
  go_loopw [10] (AKeyRel s d w.heap.size w) (fun i _ => 18 - (intOf i).toNat)
  case atStart => exact ⟨0, by omega, rfl, A1.out, B1.out⟩
  case round =>
    obtain ⟨k, hk, rfl, ha, hb⟩ := hrel
    have HA := Lib.hid ha; have HB := Lib.hid hb
    by_cases hlt : k < 18
    · have hcell := run_index_row 61 3 18 Try.underlying61 _ Try.underlying3 rfl (by kernel_rfl) L k hlt _ (HAT.out k hlt) wr
      have hd15 := Ot.digit_lt d k
      have hsn := signTo_succ s d k
      have hln := signTo_len s d k
      generalize Ot.digit d k = n at hcell hd15 hsn
      have HSN := Lib.hid hsn; have HLN := Lib.hid hln
      clear ha hb hsn hln
      go_wp2_with fail
      refine (secret_num s k _).mono ?_; rintro e w2 ⟨rfl, hb2⟩
      have A2 := Lib.hid (HA.out.below hb2 HA.out.1); have B2 := Lib.hid (HB.out.trans (hb2.mono HB.out.size)); clear hb2
      go_wp2_with fail
      refine (step_num (Ot.secret s (Ot.num k)) k 0 n 0 n rfl (by omega) rfl (by omega) _).mono ?_; rintro e w3 ⟨rfl, hb3⟩
      have A3 := Lib.hid (A2.out.below hb3 A2.out.1); have B3 := Lib.hid (B2.out.trans (hb3.mono B2.out.size)); clear hb3
      obtain ⟨hc, hfz⟩ := A3.out.2 k hlt
      have A4 := Lib.hid (A3.out.push HLN.out hlt (Ot.steps (Ot.secret s (Ot.num k)) (Ot.num k) 0 n))
      have B4 := Lib.hid (B3.out.setCell (p := ⟨w.heap.size, k, none⟩) (Nat.le_refl _) (wval (Ot.steps (Ot.secret s (Ot.num k)) (Ot.num k) 0 n)))
      go_wp2_with fail
      go_roundw
      case rel => exact ⟨k + 1, by omega, by go_num, by rw [HSN.out]; exact A4.out, B4.out⟩
      case measure => simp [intOf]; omega
    · obtain rfl : k = 18 := by omega
      clear ha hb
      go_wp2_with fail
      go_ret
      exact ⟨_, rfl, HA.out.my (signTo_len s d 18) (Nat.le_refl _), HB.out⟩
def ALeadRel (d : W) (l : List W) (N : Nat) (w : World) (i : Value) (wr : World) : Prop := ∃ k : Nat, k ≤ 18 ∧ i = .int .i64 (k : Int) ∧ Arr wval 0 18 wr N (leadTo d l k) ∧ Below w.heap.size w wr
set_option maxHeartbeats 1000000 in
theorem recover_18 (d : W) (l : List W) (v : Value) (w : World) (hl : l.length = 18) (h : HasW w w.heap.size v l) :
    Calls Try.prog 32 #[.int .u64 (uv d), v] w fun e w' => e = .returned (.tuple #[.int .u64 (uv (Ot.recover d l)), .int .i64 0]) ∧ Below w.heap.size w w' := by
  have hz := zero_w18
  obtain ⟨a, cap, rfl⟩ := h.form
  have H := Lib.hid h; clear h
  rw [hl] at H ⊢
  have HL := Lib.hid hl; clear hl
  obtain ⟨w0, hw0⟩ : ∃ w0, w0 = w.alloc (.cells zeros18 60) := ⟨_, rfl⟩
  have a0 : Arr wval 0 18 w0 w.heap.size (leadTo d l 0) := by rw [hw0]; exact Arr.zero w _ _ rfl
  have b0 : Below w.heap.size w w0 := by rw [hw0]; exact (Below.refl _ _).alloc (Nat.le_refl _) _
  have W0 := Lib.hid hw0; have A0 := Lib.hid a0; have B0 := Lib.hid b0
  clear hw0 a0 b0
  go_enter Try.func32, Try.ntmps32
  go_wp2_with fail
  rw [← W0.out]
  clear hz
  refine (adigits_any d _).mono ?_; rintro e w1 ⟨rfl, b1⟩
  have A1 := Lib.hid (A0.out.below b1 A0.out.1); have B1 := Lib.hid (B0.out.trans (b1.mono B0.out.size)); clear b1
  have hat := digI_cell d
  generalize hL : (digI d 18).map ival = L at hat
  have HAT := Lib.hid hat; clear hat hL
  go_wp2
  go_loopw [14] (ALeadRel d l w.heap.size w) (fun i _ => 18 - (intOf i).toNat)
  case atStart => exact ⟨0, by omega, rfl, A1.out, B1.out⟩
  case round =>
    obtain ⟨k, hk, rfl, ha, hb⟩ := hrel
    have HA := Lib.hid ha; have HB := Lib.hid hb
    by_cases hlt : k < 18
    · have hcell := run_index_row 61 3 18 Try.underlying61 _ Try.underlying3 rfl (by kernel_rfl) L k hlt _ (HAT.out k hlt) wr
      obtain ⟨b', off', rfl, hcell'⟩ := leaves_cell (H.out.below hb (Nat.le_refl _)) k hlt
      have hd15 := Ot.digit_lt d k
      have hsn := leadTo_succ d l k
      have hln := leadTo_len d l k
      generalize Ot.digit d k = n at hcell hd15 hsn
      generalize l.getD k 0 = x at hcell' hsn
      have HSN := Lib.hid hsn; have HLN := Lib.hid hln
      clear ha hb hsn hln
      go_wp2_with fail
      refine (step_num x k n (15 - (n : Int)) n (15 - n) rfl (by omega) (by omega) (by omega) _).mono ?_; rintro e w2 ⟨rfl, hb2⟩
      have A2 := Lib.hid (HA.out.below hb2 HA.out.1); have B2 := Lib.hid (HB.out.trans (hb2.mono HB.out.size)); clear hb2
      obtain ⟨hc, hfz⟩ := A2.out.2 k hlt
      have A3 := Lib.hid (A2.out.push HLN.out hlt (Ot.steps x (Ot.num k) n (15 - n)))
      have B3 := Lib.hid (B2.out.setCell (p := ⟨w.heap.size, k, none⟩) (Nat.le_refl _) (wval (Ot.steps x (Ot.num k) n (15 - n))))
      go_wp2_with fail
      go_roundw
      case rel => exact ⟨k + 1, by omega, by go_num, by rw [HSN.out]; exact A3.out, B3.out⟩
      case measure => simp [intOf]; omega
    · obtain rfl : k = 18 := by omega
      have RL := Lib.hid (list_any (leadTo d l 18) _ _ wr (by rw [leadTo_len]; omega) (ha.hasW (leadTo_len d l 18)))
      clear ha hb
      go_wp2_with fail
      refine (RL.out).mono ?_; rintro e w' ⟨rfl, rfl⟩
      go_wp2_with fail
      go_ret2
      exact ⟨rfl, HB.out⟩
theorem recover_bad (d : W) (l : List W) (v : Value) (w : World) (hl : l.length ≠ 18) (h : HasW w w.heap.size v l) :
    Calls Try.prog 32 #[.int .u64 (uv d), v] w fun e w' => e = .returned (.tuple #[.int .u64 0, .int .i64 4]) ∧ Below w.heap.size w w' := by
  obtain ⟨a, cap, rfl⟩ := h.form
  have t1 : ((l.length : Int) != 18) = true := by rw [bne_iff_ne]; omega
  clear h hl
  go_enter Try.func32, Try.ntmps32
  go_wp2_with fail
  go_ret2
  exact ⟨rfl, Below.refl _ _⟩
end Go.Proofs.Ythkkjocmglcjnaa
