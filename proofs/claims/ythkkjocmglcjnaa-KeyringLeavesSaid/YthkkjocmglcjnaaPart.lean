/-
  What firstPart of package merkle and part of the chapter return: the greatest power of two that is less than the count. The memory stays as it was. Condition: the count is at least 2 and at most 2^61.
-/
import Derived.Test.YthkkjocmglcjnaaWords
import Derived.Test.YthkkjocmglcjnaaMt
import Derived.Test.YthkkjocmglcjnaaShelf
import Derived.Laws.MathBits
import Derived.Laws.ShiftsVar
import Derived.Deep.LoopGhost
namespace Go.Proofs.Ythkkjocmglcjnaa
open Go.ChangeShapes Go.WideShapes Go.ChangeAt Go.RowKit
open Dg (W B)

theorem log2_is {n k : Nat} (h1 : 2 ^ k ≤ n) (h2 : n < 2 ^ (k + 1)) : Nat.log2 n = k := by
  have h0 : n ≠ 0 := by have := Nat.one_le_two_pow (n := k); omega
  exact (Nat.log2_eq_iff h0).2 ⟨h1, h2⟩
theorem len_log2 : ∀ (f x : Nat), x < 2 ^ f → x ≠ 0 → Lib.bitLenAux f x = Nat.log2 x + 1
  | 0, x, h, h0 => by simp at h; omega
  | f + 1, x, h, h0 => by
    rw [Lib.bitLenAux, if_neg h0]
    by_cases h2 : x / 2 = 0
    · have h1 : x = 1 := by omega
      subst h1
      have e : Lib.bitLenAux f 0 = 0 := by cases f <;> simp [Lib.bitLenAux]
      have l : Nat.log2 1 = 0 := by decide
      rw [show 1 / 2 = 0 by decide, e, l]
    · have ih := len_log2 f (x / 2) (by rw [Nat.pow_succ] at h; omega) h2
      have a := Nat.log2_self_le h2
      have b := @Nat.lt_log2_self (x / 2)
      have l : Nat.log2 x = Nat.log2 (x / 2) + 1 := log2_is (by rw [Nat.pow_succ]; omega) (by rw [Nat.pow_succ]; omega)
      rw [ih, l]; omega
theorem len_to (x k : Nat) (n : Int) (h : n = (x : Int)) (h1 : 1 ≤ x) (h2 : x < 18446744073709551616) (hk : Nat.log2 x = k) (w : World) :
    Calls Try.prog 55 #[.int .u64 n] w fun e w' => e = .returned (.int .i64 ((k : Int) + 1)) ∧ w = w' := by
  subst h; subst hk
  refine (Try.bits_Len (x : Int) w (by omega) (by omega)).mono ?_
  rintro e w' ⟨rfl, rfl⟩
  refine ⟨?_, rfl⟩
  have e := len_log2 64 x (by omega) (by omega)
  rw [Int.toNat_natCast, Lib.bitLen, e]; rfl
theorem log2_small {n : Nat} (h : n ≤ 2305843009213693952) (h2 : 2 ≤ n) : Nat.log2 (n - 1) < 61 := (Nat.log2_lt (by omega)).2 (by omega)
theorem pow_small {k : Nat} (h : k < 61) : 2 ^ k < 2305843009213693952 := by
  have := (Nat.pow_lt_pow_iff_right (a := 2) (by decide)).2 h
  simpa using this
theorem first_any (n : Nat) (w : World) (h1 : 2 ≤ n) (h2 : n ≤ 2305843009213693952) :
    Calls Try.prog 48 #[.int .i64 (n : Int)] w fun e w' => e = .returned (.int .i64 (Mt.part n : Int)) ∧ w = w' := by
  have hl := log2_small h2 h1
  obtain ⟨k, hk⟩ : ∃ k, Nat.log2 (n - 1) = k := ⟨_, rfl⟩
  rw [hk] at hl
  have HK := Lib.hid hk; clear hk
  have hw : IntKind.u64.wrap ((n : Int) - 1) = ((n - 1 : Nat) : Int) := by rw [show (n : Int) - 1 = ((n - 1 : Nat) : Int) by omega, u64_in _ (by omega)]
  have hs : wrap64 ((2 : Int) ^ k) = ((2 ^ k : Nat) : Int) := by
    have hp := pow_small hl
    rw [show ((2 : Int) ^ k) = ((2 ^ k : Nat) : Int) by simp]
    generalize 2 ^ k = p at hp
    unfold wrap64; omega
  go_enter Try.func48, Try.ntmps48
  go_wp2_with fail
  refine (len_to (n - 1) k _ (by omega) (by omega) (by omega) HK.out _).mono ?_; rintro e w' ⟨rfl, rfl⟩
  go_wp2
  go_ret
  exact ⟨congrArg (fun x => Ending.returned (Value.int .i64 x)) (by rw [Mt.part, HK.out]; exact hs), rfl⟩
/-! ### the chapter's: doubling as long as twice is less -/
def PartRel (n : Nat) (v : Value) : Prop := ∃ j : Nat, 2 ^ j < n ∧ v = .int .i64 ((2 ^ j : Nat) : Int)
theorem part_any (n : Nat) (w : World) (h1 : 2 ≤ n) (h2 : n ≤ 2305843009213693952) :
    Calls Try.prog 47 #[.int .i64 (n : Int)] w fun e w' => e = .returned (.int .i64 (Mt.part n : Int)) ∧ w = w' := by
  go_enter Try.func47, Try.ntmps47
  go_wp2
  go_loop [3] (PartRel n) (fun i => n - (intOf i).toNat)
  case atStart => exact ⟨0, by rw [Nat.pow_zero]; omega, rfl⟩
  case round =>
    obtain ⟨j, hj, rfl⟩ := hrel
    have h0 := Nat.one_le_two_pow (n := j)
    by_cases hlt : 2 * 2 ^ j < n
    · have HJ := Lib.hid (Nat.pow_succ 2 j)
      obtain ⟨p, hp⟩ : ∃ p, 2 ^ j = p := ⟨_, rfl⟩
      rw [hp] at hj h0 hlt ⊢
      have HP := Lib.hid hp; clear hp
      go_wp2
      go_round
      case rel => exact ⟨j + 1, by rw [HJ.out, HP.out]; omega, by rw [HJ.out, HP.out]; go_num⟩
      case measure => simp [intOf]; omega
    · have hp := Mt.part_is hj (by omega)
      have HP := Lib.hid hp; clear hp
      obtain ⟨p, hp⟩ : ∃ p, 2 ^ j = p := ⟨_, rfl⟩
      rw [hp] at hj h0 hlt HP ⊢
      clear hp
      go_wp2
      go_ret
      exact ⟨by rw [HP.out]; rfl, rfl⟩
theorem first_to (n p : Nat) (hp : Mt.part n = p) (w : World) (h1 : 2 ≤ n) (h2 : n ≤ 2305843009213693952) :
    Calls Try.prog 48 #[.int .i64 (n : Int)] w fun e w' => e = .returned (.int .i64 (p : Int)) ∧ w = w' := by
  subst hp; exact first_any n w h1 h2
theorem part_to (n p : Nat) (hp : Mt.part n = p) (w : World) (h1 : 2 ≤ n) (h2 : n ≤ 2305843009213693952) :
    Calls Try.prog 47 #[.int .i64 (n : Int)] w fun e w' => e = .returned (.int .i64 (p : Int)) ∧ w = w' := by
  subst hp; exact part_any n w h1 h2
end Go.Proofs.Ythkkjocmglcjnaa
