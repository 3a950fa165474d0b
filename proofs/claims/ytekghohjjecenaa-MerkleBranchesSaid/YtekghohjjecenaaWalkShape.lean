/-
  The law that paths are as long as the shape of the tree says (MerkleShape) returns true. No condition.
-/
import Derived.Test.YtekghohjjecenaaMAwake
namespace Go.Proofs.Ytekghohjjecenaa
open Go.ChangeShapes Go.WideShapes Go.ChangeAt Go.RowKit
open Dg (W B)
theorem depth_to (n i r : Int) (h : depthI n i = r) (w : World) :
    Calls Try.prog 16 #[.int .i64 n, .int .i64 i] w fun e w' => e = .returned (.int .i64 r) ∧ w = w' := by
  subst h; exact depth_any n i w
namespace merkleShape
def MostRel (n : Nat) (v : Value) : Prop := ∃ k : Nat, v = .int .i64 (k : Int) ∧ k ≤ 9 ∧ (k = 0 ∨ 2 ^ (k - 1) < n)
theorem most_is {n k : Nat} (h0 : 1 ≤ n) (h : k = 0 ∨ 2 ^ (k - 1) < n) (h2 : n ≤ 2 ^ k) : Mt.depth n 0 = k := by
  cases k with
  | zero => exact Mt.depth_one (by rw [Nat.pow_zero] at h2; omega) 0
  | succ k =>
    rcases h with h | h
    · omega
    · exact Mt.depth_zero h h2
set_option maxHeartbeats 1000000 in
theorem walk (w : World) (a0 : Int) (w0 : (Lit.int .i64 a0).wf = true) (a1 : Int) (w1 : (Lit.int .i64 a1).wf = true) :
    Calls Try.prog 6 #[.int .i64 a0, .int .i64 a1] w fun e w' => e = .returned (.bool true) ∧ Below w.heap.size w w' := by
  obtain ⟨q, hq, hq2⟩ := mod_nat a0 300 (by omega)
  obtain ⟨i, hi, hi2⟩ := mod_nat a1 (q + 1) (by omega)
  have HQ := Lib.hid hq; clear hq
  have HI := Lib.hid hi; clear hi
  go_enter Try.func6, Try.ntmps6
  go_wp2_with fail
  refine (mod_to _ _ q HQ.out _ w0 (by omega) (by omega)).mono ?_; rintro e w' ⟨rfl, rfl⟩
  obtain ⟨n, hn⟩ : ∃ n, q + 1 = n := ⟨_, rfl⟩
  rw [hn] at HI hi2
  have hn1 : (1 : Int) + (q : Int) = (n : Int) := by omega
  have hn2 : 1 ≤ n := by omega
  have hn3 : n ≤ 300 := by omega
  go_wp2_with fail
  refine (mod_to _ _ i HI.out _ w1 (by omega) (by omega)).mono ?_; rintro e w' ⟨rfl, rfl⟩
  clear hn1 hn hq2
  go_wp2
  go_loop [7] (MostRel n) (fun v => 9 - (intOf v).toNat)
  case atStart => exact ⟨0, rfl, by omega, .inl rfl⟩
  case round =>
    obtain ⟨k, rfl, hk, hr⟩ := hrel
    have hc : IntKind.u64.wrap (k : Int) = k := u64_in k (by omega)
    have hs : wrap64 ((2 : Int) ^ k) = ((2 ^ k : Nat) : Int) := by
      have hp := pow_small (k := k) (by omega)
      rw [show ((2 : Int) ^ k) = ((2 ^ k : Nat) : Int) by simp]
      generalize 2 ^ k = p at hp
      unfold wrap64; omega
    obtain ⟨p, hp⟩ : ∃ p, 2 ^ k = p := ⟨_, rfl⟩
    rw [hp] at hs
    have HR := Lib.hid hr; clear hr
    by_cases hlt : p < n
    · have h9 : k ≠ 9 := by rintro rfl; omega
      have HP := Lib.hid hp; clear hp
      go_wp2
      go_round
      case rel => exact ⟨k + 1, by go_num, by omega, .inr (by rw [Nat.add_sub_cancel, HP.out]; exact hlt)⟩
      case measure => simp [intOf]; omega
    · have hm := most_is hn2 HR.out (by omega)
      have d1 := depthI_nat hi2 (by omega)
      have d2 : depthI n (0 : Int) = k := by have := depthI_nat (n := n) (i := 0) (by omega) (by omega); rw [hm] at this; exact this
      have dk : Mt.depth n i ≤ k := Mt.depth_le hi2 (by omega)
      have d4 : depthI n n = -1 := by unfold depthI; rw [if_neg (by omega)]
      have d5 : depthI n (-1) = -1 := by unfold depthI; rw [if_neg (by omega)]
      generalize Mt.depth n i = d at d1 dk
      have D1 := Lib.hid fun w => depth_to _ _ _ d1 w
      have D2 := Lib.hid fun w => depth_to _ _ _ d2 w
      have D4 := Lib.hid fun w => depth_to _ _ _ d4 w
      have D5 := Lib.hid fun w => depth_to _ _ _ d5 w
      by_cases h1 : n = 1
      · subst h1
        clear hp hm d1 d2 d4 d5 hi2
        go_wp2_with fail
        refine (D1.out _).mono ?_; rintro e w' ⟨rfl, rfl⟩
        go_wp2_with fail
        refine (D2.out _).mono ?_; rintro e w' ⟨rfl, rfl⟩
        go_wp2_with fail
        refine (D4.out _).mono ?_; rintro e w' ⟨rfl, rfl⟩
        go_wp2_with fail
        refine (D5.out _).mono ?_; rintro e w' ⟨rfl, rfl⟩
        go_wp2_with fail
        refine (awake_any _).mono ?_; rintro e w' ⟨rfl, hb⟩
        have HB := Lib.hid hb; clear hb
        go_wp2_with fail
        go_ret
        exact ⟨rfl, HB.out⟩
      · have d3 : depthI n ((n : Int) - 1) = (Mt.depth n (n - 1) : Int) := by rw [show (n : Int) - 1 = ((n - 1 : Nat) : Int) by omega, depthI_nat (by omega) (by omega)]
        have de := Mt.depth_pos (n := n) (i := n - 1) (by omega)
        generalize Mt.depth n (n - 1) = f at d3 de
        have D3 := Lib.hid fun w => depth_to _ _ _ d3 w
        have q1 : ((n : Int) == 1) = false := by rw [beq_eq_false_iff_ne]; omega
        clear hp hm d1 d2 d3 d4 d5 hi2
        go_wp2_with fail
        refine (D1.out _).mono ?_; rintro e w' ⟨rfl, rfl⟩
        go_wp2_with fail
        refine (D2.out _).mono ?_; rintro e w' ⟨rfl, rfl⟩
        go_wp2_with fail
        refine (D3.out _).mono ?_; rintro e w' ⟨rfl, rfl⟩
        go_wp2_with fail
        refine (D4.out _).mono ?_; rintro e w' ⟨rfl, rfl⟩
        go_wp2_with fail
        refine (D5.out _).mono ?_; rintro e w' ⟨rfl, rfl⟩
        go_wp2_with fail
        refine (awake_any _).mono ?_; rintro e w' ⟨rfl, hb⟩
        have HB := Lib.hid hb; clear hb
        go_wp2_with fail
        go_ret
        exact ⟨rfl, HB.out⟩
end merkleShape
end Go.Proofs.Ytekghohjjecenaa
