/-
  What Depth of package merkle and of the chapter return for any two numbers: how long the path of the leaf is, -1 without such a leaf or with more than 2^20 leaves. The memory stays as it was. No condition.
-/
import Derived.Test.YthkkjocmglcjnaaPart
namespace Go.Proofs.Ythkkjocmglcjnaa
open Go.ChangeShapes Go.WideShapes Go.ChangeAt Go.RowKit
open Dg (W B)

/-- the length of the path of leaf i of n, or -1 -/
def depthI (n i : Int) : Int := if 0 ≤ i ∧ i < n ∧ n ≤ 1048576 then (Mt.depth n.toNat i.toNat : Int) else -1
theorem depthI_nat {n i : Nat} (h : i < n) (h2 : n ≤ 1048576) : depthI n i = (Mt.depth n i : Int) := by
  unfold depthI
  rw [if_pos (by omega), Int.toNat_natCast, Int.toNat_natCast]
theorem depth_lt {n i : Nat} (h : i < n) (h2 : n ≤ 1048576) : Mt.depth n i ≤ 20 := Mt.depth_le h (by omega)
def DepthRel (n i : Nat) (a b c : Value) : Prop := ∃ m j d : Nat, j < m ∧ m ≤ 1048576 ∧ d + Mt.depth m j = Mt.depth n i ∧ a = .int .i64 (m : Int) ∧ b = .int .i64 (j : Int) ∧ c = .int .i64 (d : Int)
set_option maxHeartbeats 400000 in
theorem depth_some (n i : Nat) (w : World) (h1 : i < n) (h2 : n ≤ 1048576) :
    Calls Try.prog 51 #[.int .i64 (n : Int), .int .i64 (i : Int)] w fun e w' => e = .returned (.int .i64 (Mt.depth n i : Int)) ∧ w = w' := by
  have HD := Lib.hid (depth_lt h1 h2)
  have q1 : decide ((i : Int) < 0) = false := decide_eq_false (by omega)
  have q2 : decide (n ≤ i) = false := decide_eq_false (by omega)
  have q3 : decide ((1048576 : Int) < (n : Int)) = false := decide_eq_false (by omega)
  go_enter Try.func51, Try.ntmps51
  go_wp2
  clear q1 q2 q3
  go_loop [0, 1, 5] (DepthRel n i) (fun a _ _ => (intOf a).toNat)
  case atStart => exact ⟨n, i, 0, h1, h2, by omega, rfl, rfl, rfl⟩
  case round =>
    obtain ⟨m, j, d, hj, hm, hd, rfl, rfl, rfl⟩ := hrel
    have hd20 : d ≤ 20 := by have := HD.out; omega
    have HE := Lib.hid hd; clear hd
    by_cases hlt : 2 ≤ m
    · have hp := Mt.part_lt hlt
      have hp1 := Mt.part_pos m
      by_cases hk : j < Mt.part m
      · have HL := Lib.hid (Mt.depth_l hlt hk)
        generalize hpp : Mt.part m = p at hp hp1 hk HL
        have HP := Lib.hid hpp; clear hpp
        go_wp2_with fail
        refine (first_to m p HP.out _ hlt (by omega)).mono ?_; rintro e w' ⟨rfl, rfl⟩
        go_wp2
        go_round
        case rel => exact ⟨p, j, d + 1, by omega, by omega, by have := HL.out; have := HE.out; omega, rfl, rfl, by go_num⟩
        case measure => simp [intOf]; omega
      · have HL := Lib.hid (Mt.depth_r hlt hk)
        generalize hpp : Mt.part m = p at hp hp1 hk HL
        have HP := Lib.hid hpp; clear hpp
        go_wp2_with fail
        refine (first_to m p HP.out _ hlt (by omega)).mono ?_; rintro e w' ⟨rfl, rfl⟩
        go_wp2
        go_round
        case rel => exact ⟨m - p, j - p, d + 1, by omega, by omega, by have := HL.out; have := HE.out; omega, by go_num, by go_num, by go_num⟩
        case measure => simp [intOf]; omega
    · have h0 := Mt.depth_one hlt j
      have HZ := Lib.hid h0; clear h0
      go_wp2_with fail
      go_ret
      exact ⟨congrArg (fun x => Ending.returned (Value.int .i64 x)) (by have := HZ.out; have := HE.out; omega), rfl⟩
theorem depth_out (n i : Int) (w : World) (h : ¬ (0 ≤ i ∧ i < n ∧ n ≤ 1048576)) :
    Calls Try.prog 51 #[.int .i64 n, .int .i64 i] w fun e w' => e = .returned (.int .i64 (-1)) ∧ w = w' := by
  go_enter Try.func51, Try.ntmps51
  by_cases c1 : i < 0
  · go_wp2_with fail
    go_ret
    exact ⟨rfl, rfl⟩
  · by_cases c2 : n ≤ i
    · go_wp2_with fail
      go_ret
      exact ⟨rfl, rfl⟩
    · have c3 : (1048576 : Int) < n := by omega
      go_wp2_with fail
      go_ret
      exact ⟨rfl, rfl⟩
theorem depth_any (n i : Int) (w : World) :
    Calls Try.prog 51 #[.int .i64 n, .int .i64 i] w fun e w' => e = .returned (.int .i64 (depthI n i)) ∧ w = w' := by
  by_cases h : 0 ≤ i ∧ i < n ∧ n ≤ 1048576
  · obtain ⟨m, rfl⟩ : ∃ m : Nat, n = m := ⟨n.toNat, by omega⟩
    obtain ⟨j, rfl⟩ : ∃ j : Nat, i = j := ⟨i.toNat, by omega⟩
    rw [depthI_nat (by omega) (by omega)]
    exact depth_some m j w (by omega) (by omega)
  · unfold depthI
    rw [if_neg h]
    exact depth_out n i w h
set_option maxHeartbeats 400000 in
theorem rdepth_some (n i : Nat) (w : World) (h1 : i < n) (h2 : n ≤ 1048576) :
    Calls Try.prog 53 #[.int .i64 (n : Int), .int .i64 (i : Int)] w fun e w' => e = .returned (.int .i64 (Mt.depth n i : Int)) ∧ w = w' := by
  have HD := Lib.hid (depth_lt h1 h2)
  have q1 : decide ((i : Int) < 0) = false := decide_eq_false (by omega)
  have q2 : decide (n ≤ i) = false := decide_eq_false (by omega)
  have q3 : decide ((1048576 : Int) < (n : Int)) = false := decide_eq_false (by omega)
  go_enter Try.func53, Try.ntmps53
  go_wp2
  clear q1 q2 q3
  go_loop [0, 1, 5] (DepthRel n i) (fun a _ _ => (intOf a).toNat)
  case atStart => exact ⟨n, i, 0, h1, h2, by omega, rfl, rfl, rfl⟩
  case round =>
    obtain ⟨m, j, d, hj, hm, hd, rfl, rfl, rfl⟩ := hrel
    have hd20 : d ≤ 20 := by have := HD.out; omega
    have HE := Lib.hid hd; clear hd
    by_cases hlt : 2 ≤ m
    · have hp := Mt.part_lt hlt
      have hp1 := Mt.part_pos m
      by_cases hk : j < Mt.part m
      · have HL := Lib.hid (Mt.depth_l hlt hk)
        generalize hpp : Mt.part m = p at hp hp1 hk HL
        have HP := Lib.hid hpp; clear hpp
        go_wp2_with fail
        refine (part_to m p HP.out _ hlt (by omega)).mono ?_; rintro e w' ⟨rfl, rfl⟩
        go_wp2
        go_round
        case rel => exact ⟨p, j, d + 1, by omega, by omega, by have := HL.out; have := HE.out; omega, rfl, rfl, by go_num⟩
        case measure => simp [intOf]; omega
      · have HL := Lib.hid (Mt.depth_r hlt hk)
        generalize hpp : Mt.part m = p at hp hp1 hk HL
        have HP := Lib.hid hpp; clear hpp
        go_wp2_with fail
        refine (part_to m p HP.out _ hlt (by omega)).mono ?_; rintro e w' ⟨rfl, rfl⟩
        go_wp2
        go_round
        case rel => exact ⟨m - p, j - p, d + 1, by omega, by omega, by have := HL.out; have := HE.out; omega, by go_num, by go_num, by go_num⟩
        case measure => simp [intOf]; omega
    · have h0 := Mt.depth_one hlt j
      have HZ := Lib.hid h0; clear h0
      go_wp2_with fail
      go_ret
      exact ⟨congrArg (fun x => Ending.returned (Value.int .i64 x)) (by have := HZ.out; have := HE.out; omega), rfl⟩
theorem rdepth_out (n i : Int) (w : World) (h : ¬ (0 ≤ i ∧ i < n ∧ n ≤ 1048576)) :
    Calls Try.prog 53 #[.int .i64 n, .int .i64 i] w fun e w' => e = .returned (.int .i64 (-1)) ∧ w = w' := by
  go_enter Try.func53, Try.ntmps53
  by_cases c1 : i < 0
  · go_wp2_with fail
    go_ret
    exact ⟨rfl, rfl⟩
  · by_cases c2 : n ≤ i
    · go_wp2_with fail
      go_ret
      exact ⟨rfl, rfl⟩
    · have c3 : (1048576 : Int) < n := by omega
      go_wp2_with fail
      go_ret
      exact ⟨rfl, rfl⟩
theorem rdepth_any (n i : Int) (w : World) :
    Calls Try.prog 53 #[.int .i64 n, .int .i64 i] w fun e w' => e = .returned (.int .i64 (depthI n i)) ∧ w = w' := by
  by_cases h : 0 ≤ i ∧ i < n ∧ n ≤ 1048576
  · obtain ⟨m, rfl⟩ : ∃ m : Nat, n = m := ⟨n.toNat, by omega⟩
    obtain ⟨j, rfl⟩ : ∃ j : Nat, i = j := ⟨i.toNat, by omega⟩
    rw [depthI_nat (by omega) (by omega)]
    exact rdepth_some m j w (by omega) (by omega)
  · unfold depthI
    rw [if_neg h]
    exact rdepth_out n i w h
end Go.Proofs.Ythkkjocmglcjnaa
