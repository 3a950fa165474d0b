/-
  What Seed, leaf, leavesOf, isCount and Root of package keyring return, as the landed code computes them. Nothing that was there has changed. No condition.
-/
import Derived.Test.YthkkjocmglcjnaaRefRing
import Derived.Test.YthkkjocmglcjnaaOnetime
import Derived.Test.YthkkjocmglcjnaaRoot
import Derived.Laws.MakeOwn
namespace Go.Proofs.Ythkkjocmglcjnaa
open Go.ChangeShapes Go.WideShapes Go.ChangeAt Go.RowKit
open Dg (W B)
theorem kseed_any (s : W) (c : Int) (w : World) :
    Calls Try.prog 14 #[.int .u64 (uv s), .int .i64 c] w fun e w' => e = .returned (.int .u64 (uv (Kr.seed s (ofI c)))) ∧ Below w.heap.size w w' := by
  have hz := wrap_word c
  go_enter Try.func14, Try.ntmps14
  go_wp2_with fail
  refine (list_three s 9#64 (ofI c) _ (by decide) _ rfl _).mono ?_; rintro e w0 ⟨rfl, b0⟩
  go_wp2_with fail
  go_ret
  exact ⟨rfl, b0⟩
theorem kseed_to (s : W) (c : Nat) (w : World) :
    Calls Try.prog 14 #[.int .u64 (uv s), .int .i64 (c : Int)] w fun e w' => e = .returned (.int .u64 (uv (Kr.seed s (Ot.num c)))) ∧ Below w.heap.size w w' := by
  rw [← ofI_num]; exact kseed_any s c w
theorem kleaf_any (k : Nat) (p : W) (w : World) :
    Calls Try.prog 34 #[.int .i64 (k : Int), .int .u64 (uv p)] w fun e w' => e = .returned (.int .u64 (uv (Kr.leafOf k p))) ∧ w = w' := by
  have hz : IntKind.u64.wrap (k : Int) = uv (Ot.num k) := by rw [← ofI_num]; exact wrap_word _
  go_enter Try.func34, Try.ntmps34
  go_wp2_with fail
  refine (pair_any (Ot.num k) p _).mono ?_; rintro e w' ⟨rfl, rfl⟩
  go_wp2_with fail
  go_ret
  exact ⟨rfl, rfl⟩
theorem kcount_yes (n : Int) (w : World) (h : 1 ≤ n ∧ n ≤ 64) :
    Calls Try.prog 20 #[.int .i64 n] w fun e w' => e = .returned (.bool true) ∧ w = w' := by
  have t1 : decide (1 ≤ n) = true := decide_eq_true h.1
  have t2 : decide (n ≤ 64) = true := decide_eq_true h.2
  clear h
  go_enter Try.func20, Try.ntmps20
  go_wp2_with fail
  go_ret
  exact ⟨rfl, rfl⟩
theorem kcount_no (n : Int) (w : World) (h : ¬ (1 ≤ n ∧ n ≤ 64)) :
    Calls Try.prog 20 #[.int .i64 n] w fun e w' => e = .returned (.bool false) ∧ w = w' := by
  by_cases h1 : 1 ≤ n
  · have t1 : decide (1 ≤ n) = true := decide_eq_true h1
    have t2 : decide (n ≤ 64) = false := decide_eq_false (by omega)
    clear h h1
    go_enter Try.func20, Try.ntmps20
    go_wp2_with fail
    go_ret
    exact ⟨rfl, rfl⟩
  · have t1 : decide (1 ≤ n) = false := decide_eq_false h1
    clear h h1
    go_enter Try.func20, Try.ntmps20
    go_wp2_with fail
    go_ret
    exact ⟨rfl, rfl⟩
/-- a slice of n digests, just made -/
theorem make_words (n : Nat) (hn : n ≤ 1000000) (w : World) : ∃ o, (Instr.makeSlice 26 (.int .i64 (n : Int)) (.int .i64 (n : Int))).run Try.prog w = .ok (.slice (some ⟨w.heap.size, 0, none⟩) n n) (w.alloc o) ∧ Arr wval 0 n (w.alloc o) w.heap.size [] := by
  obtain ⟨i, hi, hz, hs, hb⟩ := info_parts infoWord
  have h := run_make (P := Try.prog) w 26 23 i _ Try.underlying26 hi hz .i64 .i64 (n : Int) (n : Int) (by omega) (Int.le_refl _) (by rw [hb]; omega) (by omega)
  rw [hs] at h
  refine ⟨_, h, Arr.zero w _ _ ?_⟩
  apply Array.ext
  · simp [madeCells]
  · intro j h1 h2
    simp only [madeCells, Value.cells, Array.getElem_map, Array.getElem_replicate]
    rw [show ∀ m, m % (#[Value.int .u64 0] : Array Value).size = 0 from fun m => Nat.mod_one m]
    rfl
def KRingRel (s : W) (n N : Nat) (w : World) (i : Value) (wr : World) : Prop := ∃ k : Nat, k ≤ n ∧ i = .int .i64 (k : Int) ∧ Arr wval 0 n wr N (Kr.leaves s k) ∧ Below w.heap.size w wr
set_option maxHeartbeats 1000000 in
theorem kleaves_any (s : W) (n : Nat) (hn : n ≤ 64) (w : World) :
    Calls Try.prog 22 #[.int .u64 (uv s), .int .i64 (n : Int)] w fun e w' => ∃ v, e = .returned v ∧ HasW w' w'.heap.size v (Kr.leaves s n) ∧ Below w.heap.size w w' := by
  obtain ⟨o, hmk, a0⟩ := make_words n (by omega) w
  obtain ⟨w0, hw0⟩ : ∃ w0, w0 = w.alloc o := ⟨_, rfl⟩
  have b0 : Below w.heap.size w w0 := by rw [hw0]; exact (Below.refl _ _).alloc (Nat.le_refl _) _
  rw [← hw0] at hmk a0
  have A0 := Lib.hid a0; have B0 := Lib.hid b0
  clear a0 b0 hw0
  go_enter Try.func22, Try.ntmps22
  go_wp2
  clear hmk
  go_loopw [10] (KRingRel s n w.heap.size w) (fun i _ => n - (intOf i).toNat)
  case atStart => exact ⟨0, by omega, rfl, A0.out, B0.out⟩
  case round =>
    obtain ⟨k, hk, rfl, ho, hb⟩ := hrel
    have HO := Lib.hid ho; have HB := Lib.hid hb
    by_cases hlt : k < n
    · have hln := Kr.leaves_len s k
      have HLN := Lib.hid hln
      clear ho hb hln
      go_wp2_with fail
      refine (kseed_to s k _).mono ?_; rintro e w1 ⟨rfl, hb1⟩
      have O1 := Lib.hid (HO.out.below hb1 HO.out.1); have B1 := Lib.hid (HB.out.trans (hb1.mono HB.out.size)); clear hb1
      go_wp2_with fail
      refine (public_any (Kr.seed s (Ot.num k)) _).mono ?_; rintro e w2 ⟨rfl, hb2⟩
      have O2 := Lib.hid (O1.out.below hb2 O1.out.1); have B2 := Lib.hid (B1.out.trans (hb2.mono B1.out.size)); clear hb2
      go_wp2_with fail
      refine (kleaf_any k (Ot.publicW (Kr.seed s (Ot.num k))) _).mono ?_; rintro e w' ⟨rfl, rfl⟩
      obtain ⟨hc, hfz⟩ := O2.out.2 k hlt
      have A4 := Lib.hid (O2.out.push HLN.out hlt (Kr.leaf s k))
      have B4 := Lib.hid (B2.out.setCell (p := ⟨w.heap.size, k, none⟩) (Nat.le_refl _) (wval (Kr.leaf s k)))
      go_wp2_with fail
      go_roundw
      case rel => exact ⟨k + 1, by omega, by go_num, by rw [Kr.leaves_succ]; exact A4.out, B4.out⟩
      case measure => simp [intOf]; omega
    · obtain rfl : k = n := by omega
      clear ho hb
      go_wp2_with fail
      go_ret
      exact ⟨_, rfl, HO.out.hasW (Kr.leaves_len s k), HB.out⟩
theorem kroot_any (s : W) (n : Int) (w : World) : Calls Try.prog 12 #[.int .u64 (uv s), .int .i64 n] w (RingRoot s n w) := by
  unfold RingRoot
  by_cases h : 1 ≤ n ∧ n ≤ 64
  · simp only [if_pos h]
    have C0 := Lib.hid (kcount_yes n w h)
    obtain ⟨m, rfl⟩ : ∃ m : Nat, n = m := ⟨n.toNat, by omega⟩
    have h64 : m ≤ 64 := by omega
    clear h
    go_enter Try.func12, Try.ntmps12
    go_wp2_with fail
    refine (C0.out).mono ?_; rintro e w' ⟨rfl, rfl⟩
    go_wp2_with fail
    refine (kleaves_any s m h64 _).mono ?_; rintro e w1 ⟨v, rfl, o1, b1⟩
    have B1 := Lib.hid b1; have O1 := Lib.hid o1; clear b1 o1
    go_wp2_with fail
    refine (root_any (Kr.leaves s m) _ _ _ (by rw [Kr.leaves_len]; omega) O1.out).mono ?_; rintro e w' ⟨rfl, k, rfl⟩
    go_wp2_with fail
    go_ret2
    exact ⟨rfl, below_drewN B1.out k⟩
  · simp only [if_neg h]
    have C0 := Lib.hid (kcount_no n w h)
    clear h
    go_enter Try.func12, Try.ntmps12
    go_wp2_with fail
    refine (C0.out).mono ?_; rintro e w' ⟨rfl, rfl⟩
    go_wp2_with fail
    go_ret2
    exact ⟨rfl, Below.refl _ _⟩
end Go.Proofs.Ythkkjocmglcjnaa
