/-
  What Secret, Step and Public of package onetime return, as the landed code computes them (at most 16 steps). Nothing that was there has changed. No condition.
-/
import Derived.Test.YthkkjocmglcjnaaRefKeys
import Derived.Test.YthkkjocmglcjnaaArr
namespace Go.Proofs.Ythkkjocmglcjnaa
open Go.ChangeShapes Go.WideShapes Go.ChangeAt Go.RowKit
open Dg (W B)
/-- the digest of a slice literal of three words -/
theorem list_three (x y z : W) (n : Int) (hn : n = uv y) (m : Int) (hm : m = uv z) (w : World) :
    Calls Try.prog 30 #[.slice (some ⟨w.heap.size, 0, none⟩) 3 3] (w.alloc (.cells #[.int .u64 (uv x), .int .u64 n, .int .u64 m] 23)) fun e w' => e = .returned (.int .u64 (uv (Dg.listW [x, y, z]))) ∧ Below w.heap.size w w' := by
  subst hn; subst hm
  refine (list_any [x, y, z] _ _ _ (by simp) (built_has w [x, y, z] _ _ rfl)).mono ?_
  rintro e w' ⟨rfl, rfl⟩
  exact ⟨rfl, (Below.refl _ _).alloc (Nat.le_refl _) _⟩
theorem secret_any (s : W) (c : Int) (w : World) :
    Calls Try.prog 45 #[.int .u64 (uv s), .int .i64 c] w fun e w' => e = .returned (.int .u64 (uv (Ot.secret s (ofI c)))) ∧ Below w.heap.size w w' := by
  have hz := wrap_word c
  go_enter Try.func45, Try.ntmps45
  go_wp2_with fail
  refine (list_three s 7#64 (ofI c) _ (by decide) _ rfl _).mono ?_; rintro e w0 ⟨rfl, b0⟩
  go_wp2_with fail
  go_ret
  exact ⟨rfl, b0⟩
def OStepRel (x c : W) (f n : Nat) (w : World) (v i : Value) (wr : World) : Prop := ∃ k : Nat, k ≤ n ∧ v = .int .u64 (uv (Ot.steps x c f k)) ∧ i = .int .i64 (k : Int) ∧ Below w.heap.size w wr
set_option maxHeartbeats 1000000 in
theorem step_any (x : W) (c : Int) (f : Nat) (t : Int) (n : Nat) (w : World) (hf : f ≤ 1000) (ht : -1000 ≤ t) (ht2 : t ≤ 16) (hn : n = t.toNat) :
    Calls Try.prog 44 #[.int .u64 (uv x), .int .i64 c, .int .i64 (f : Int), .int .i64 t] w fun e w' => e = .returned (.int .u64 (uv (Ot.steps x (ofI c) f n))) ∧ Below w.heap.size w w' := by
  have HN := Lib.hid hn; clear hn
  have hz := wrap_word c
  go_enter Try.func44, Try.ntmps44
  go_wp2
  go_loopw [0, 12] (OStepRel x (ofI c) f n w) (fun _ i _ => n - (intOf i).toNat)
  case atStart => exact ⟨0, by omega, rfl, rfl, Below.refl _ _⟩
  case round =>
    obtain ⟨k, hk, rfl, rfl, hb⟩ := hrel
    have HB := Lib.hid hb; clear hb
    have hn := HN.out
    by_cases hlt : k < n
    · have t1 : (k : Int) < t := by omega
      have k2 : k ≤ 1000 := by omega
      have hz2 : IntKind.u64.wrap ((f : Int) + (k : Int)) = uv (ofI ((f + k : Nat) : Int)) := by rw [show (f : Int) + (k : Int) = ((f + k : Nat) : Int) by omega]; exact wrap_word _
      have SN := Lib.hid (step_next x (ofI c) f k)
      clear hn
      go_wp2_with fail
      refine (list_three (Ot.steps x (ofI c) f k) (ofI c) (ofI ((f + k : Nat) : Int)) _ rfl _ (by first | rfl | exact hz2) _).mono ?_; rintro e w' ⟨rfl, hb⟩
      have HB2 := Lib.hid (HB.out.trans (hb.mono HB.out.size)); clear hb
      go_wp2_with fail
      go_roundw
      case rel => exact ⟨k + 1, by omega, by rw [← SN.out]; rfl, by go_num, HB2.out⟩
      case measure => simp [intOf]; omega
    · obtain rfl : k = n := by omega
      have t1 : ¬ (k : Int) < t := by omega
      clear hn
      go_wp2_with fail
      go_ret
      exact ⟨rfl, HB.out⟩
def zeros18 : Array Value := Array.replicate 18 (.int .u64 0)
theorem zero_w18 (w : World) : (zeroValue 60).run Try.prog w = .ok (.agg zeros18) w := by kernel_rfl
def EndRel (s : W) (N : Nat) (w : World) (i : Value) (wr : World) : Prop := ∃ k : Nat, k ≤ 18 ∧ i = .int .i64 (k : Int) ∧ Arr wval 0 18 wr N (endTo s k) ∧ Below w.heap.size w wr
theorem secret_num (s : W) (k : Nat) (w : World) :
    Calls Try.prog 45 #[.int .u64 (uv s), .int .i64 (k : Int)] w fun e w' => e = .returned (.int .u64 (uv (Ot.secret s (Ot.num k)))) ∧ Below w.heap.size w w' := by
  rw [← ofI_num]; exact secret_any s k w
theorem step_num (x : W) (c : Nat) (f t : Int) (g n : Nat) (hf : f = (g : Int)) (hg : g ≤ 100) (ht : t = (n : Int)) (hn : n ≤ 16) (w : World) :
    Calls Try.prog 44 #[.int .u64 (uv x), .int .i64 (c : Int), .int .i64 f, .int .i64 t] w fun e w' => e = .returned (.int .u64 (uv (Ot.steps x (Ot.num c) g n))) ∧ Below w.heap.size w w' := by
  subst hf; subst ht
  rw [← ofI_num]
  exact step_any x c g n n w (by omega) (by omega) (by omega) (by omega)
set_option maxHeartbeats 1000000 in
theorem public_any (s : W) (w : World) :
    Calls Try.prog 42 #[.int .u64 (uv s)] w fun e w' => e = .returned (.int .u64 (uv (Ot.publicW s))) ∧ Below w.heap.size w w' := by
  have hz := zero_w18
  obtain ⟨w0, hw0⟩ : ∃ w0, w0 = w.alloc (.cells zeros18 60) := ⟨_, rfl⟩
  have a0 : Arr wval 0 18 w0 w.heap.size (endTo s 0) := by rw [hw0]; exact Arr.zero w _ _ rfl
  have b0 : Below w.heap.size w w0 := by rw [hw0]; exact (Below.refl _ _).alloc (Nat.le_refl _) _
  have W0 := Lib.hid hw0; have A0 := Lib.hid a0; have B0 := Lib.hid b0
  clear hw0 a0 b0
  go_enter Try.func42, Try.ntmps42
  go_wp2
  rw [← W0.out]
  clear hz
  go_loopw [5] (EndRel s w.heap.size w) (fun i _ => 18 - (intOf i).toNat)
  case atStart => exact ⟨0, by omega, rfl, A0.out, B0.out⟩
  case round =>
    obtain ⟨k, hk, rfl, ha, hb⟩ := hrel
    have HA := Lib.hid ha; have HB := Lib.hid hb
    by_cases hlt : k < 18
    · have hsn := endTo_succ s k
      have hln := endTo_len s k
      have HSN := Lib.hid hsn; have HLN := Lib.hid hln
      clear ha hb hsn hln
      go_wp2_with fail
      refine (secret_num s k _).mono ?_; rintro e w1 ⟨rfl, hb1⟩
      have A1 := Lib.hid (HA.out.below hb1 HA.out.1); have B1 := Lib.hid (HB.out.trans (hb1.mono HB.out.size)); clear hb1
      go_wp2_with fail
      refine (step_num (Ot.secret s (Ot.num k)) k 0 15 0 15 rfl (by omega) rfl (by omega) _).mono ?_; rintro e w2 ⟨rfl, hb2⟩
      have A2 := Lib.hid (A1.out.below hb2 A1.out.1); have B2 := Lib.hid (B1.out.trans (hb2.mono B1.out.size)); clear hb2
      obtain ⟨hc, hfz⟩ := A2.out.2 k hlt
      have A3 := Lib.hid (A2.out.push HLN.out hlt (Ot.steps (Ot.secret s (Ot.num k)) (Ot.num k) 0 15))
      have B3 := Lib.hid (B2.out.setCell (p := ⟨w.heap.size, k, none⟩) (Nat.le_refl _) (wval (Ot.steps (Ot.secret s (Ot.num k)) (Ot.num k) 0 15)))
      go_wp2_with fail
      go_roundw
      case rel => exact ⟨k + 1, by omega, by go_num, by rw [HSN.out]; exact A3.out, B3.out⟩
      case measure => simp [intOf]; omega
    · obtain rfl : k = 18 := by omega
      have RL := Lib.hid (list_any (endTo s 18) _ _ wr (by rw [endTo_len]; omega) (ha.hasW (endTo_len s 18)))
      clear ha hb
      go_wp2_with fail
      refine (RL.out).mono ?_; rintro e w' ⟨rfl, rfl⟩
      go_wp2_with fail
      go_ret
      exact ⟨rfl, HB.out⟩
end Go.Proofs.Ythkkjocmglcjnaa
