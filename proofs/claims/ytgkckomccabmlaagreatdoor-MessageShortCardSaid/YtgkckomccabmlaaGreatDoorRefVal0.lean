/-
  Which messages the chapter of messages calls valid. Nothing that was there has changed. Condition: fewer than some millions of bytes and digests.
-/
import Derived.Test.YtgkckomccabmlaaGreatDoorLmB
namespace Go.Proofs.YtgkckomccabmlaaGreatDoor
open Go.ChangeShapes Go.WideShapes Go.ChangeAt Go.RowKit
open Dg (W B)
open Ms (Msg)
theorem results_tmp6 {P : Program} {fn : Func} {a b c d e f : Tmp} (h : fn.results = #[.tmp a, .tmp b, .tmp c, .tmp d, .tmp e, .tmp f]) (tmps : Array Value) (w : World) :
    (results fn tmps).run P w = .ok (.tuple #[tmps.getD a undef, tmps.getD b undef, tmps.getD c undef, tmps.getD d undef, tmps.getD e undef, tmps.getD f undef]) w := by
  simp [results, h]
theorem rfields_d (k : Int) (h : k = 1 ∨ k = 2 ∨ k = 3 ∨ k = 12) (w : World) :
    Calls Tryz.prog 31 #[.int .i64 k] w fun e w' => e = .returned (.tuple #[.bool false, .bool false, .bool false, .bool false, .bool true, .bool false]) ∧ w = w' := by
  rcases h with rfl | rfl | rfl | rfl
  all_goals
    go_enter Tryz.func31, Tryz.ntmps31
    go_wp2_with fail
    refine bodyPost_ret (results_tmp6 rfl _ _) rfl ?_
    exact ⟨rfl, rfl⟩
theorem rfields_p (k : Int) (h : k = 4 ∨ k = 5) (w : World) :
    Calls Tryz.prog 31 #[.int .i64 k] w fun e w' => e = .returned (.tuple #[.bool false, .bool false, .bool true, .bool true, .bool true, .bool true]) ∧ w = w' := by
  rcases h with rfl | rfl
  all_goals
    go_enter Tryz.func31, Tryz.ntmps31
    go_wp2_with fail
    refine bodyPost_ret (results_tmp6 rfl _ _) rfl ?_
    exact ⟨rfl, rfl⟩
theorem rfields_l (k : Int) (h : k = 6) (w : World) :
    Calls Tryz.prog 31 #[.int .i64 k] w fun e w' => e = .returned (.tuple #[.bool false, .bool false, .bool true, .bool true, .bool false, .bool false]) ∧ w = w' := by
  rcases h with rfl
  all_goals
    go_enter Tryz.func31, Tryz.ntmps31
    go_wp2_with fail
    refine bodyPost_ret (results_tmp6 rfl _ _) rfl ?_
    exact ⟨rfl, rfl⟩
theorem rfields_v (k : Int) (h : k = 7 ∨ k = 8) (w : World) :
    Calls Tryz.prog 31 #[.int .i64 k] w fun e w' => e = .returned (.tuple #[.bool true, .bool true, .bool false, .bool false, .bool false, .bool false]) ∧ w = w' := by
  rcases h with rfl | rfl
  all_goals
    go_enter Tryz.func31, Tryz.ntmps31
    go_wp2_with fail
    refine bodyPost_ret (results_tmp6 rfl _ _) rfl ?_
    exact ⟨rfl, rfl⟩
theorem rfields_c (k : Int) (h : k = 9) (w : World) :
    Calls Tryz.prog 31 #[.int .i64 k] w fun e w' => e = .returned (.tuple #[.bool true, .bool true, .bool false, .bool false, .bool false, .bool false]) ∧ w = w' := by
  rcases h with rfl
  all_goals
    go_enter Tryz.func31, Tryz.ntmps31
    go_wp2_with fail
    refine bodyPost_ret (results_tmp6 rfl _ _) rfl ?_
    exact ⟨rfl, rfl⟩
theorem rfields_n (k : Int) (h : k = 10) (w : World) :
    Calls Tryz.prog 31 #[.int .i64 k] w fun e w' => e = .returned (.tuple #[.bool true, .bool false, .bool false, .bool false, .bool true, .bool false]) ∧ w = w' := by
  rcases h with rfl
  all_goals
    go_enter Tryz.func31, Tryz.ntmps31
    go_wp2_with fail
    refine bodyPost_ret (results_tmp6 rfl _ _) rfl ?_
    exact ⟨rfl, rfl⟩
theorem rfields_t (k : Int) (h : k = 11) (w : World) :
    Calls Tryz.prog 31 #[.int .i64 k] w fun e w' => e = .returned (.tuple #[.bool false, .bool true, .bool false, .bool false, .bool false, .bool false]) ∧ w = w' := by
  rcases h with rfl
  all_goals
    go_enter Tryz.func31, Tryz.ntmps31
    go_wp2_with fail
    refine bodyPost_ret (results_tmp6 rfl _ _) rfl ?_
    exact ⟨rfl, rfl⟩
theorem rvalid_kind (kind epoch inst round bit : Int) (root : W) (len : Int) (dv pv : Value) (w : World) (hk : kind < 1 ∨ 12 < kind) :
    Calls Tryz.prog 14 #[msgV ⟨kind, epoch, inst, round, bit, root, len, [], []⟩ dv pv] w fun e w' => e = .returned (.int .i64 4) ∧ Below w.heap.size w w' := by
  unfold msgV
  have B0 := Lib.hid ((Below.refl w.heap.size w).alloc (Nat.le_refl _) (.cells #[.int .i64 kind, .int .i64 epoch, .int .i64 inst, .int .i64 round, .int .i64 bit, .int .u64 (uv root), .int .i64 len, dv, pv] 27))
  rcases hk with hk | hk
  · have t1 : decide (kind < 1) = true := decide_eq_true hk
    clear hk
    go_enter Tryz.func14, Tryz.ntmps14
    go_wp2_with fail
    go_ret
    exact ⟨rfl, B0.out⟩
  · have t1 : decide (kind < 1) = false := decide_eq_false (by omega)
    have t2 : decide (12 < kind) = true := decide_eq_true hk
    clear hk
    go_enter Tryz.func14, Tryz.ntmps14
    go_wp2_with fail
    go_ret
    exact ⟨rfl, B0.out⟩
end Go.Proofs.YtgkckomccabmlaaGreatDoor
