/-
  Which messages the chapter of messages calls valid. Nothing that was there has changed. Condition: fewer than some millions of bytes and digests.
-/
import Derived.Test.YtgkckomccabmlaaGreatDoorRefVal0
namespace Go.Proofs.YtgkckomccabmlaaGreatDoor
open Go.ChangeShapes Go.WideShapes Go.ChangeAt Go.RowKit
open Dg (W B)
open Ms (Msg)
def vl_c (epoch inst round bit : Int) (root : W) (len : Int) (nd np : Nat) : Int := if epoch < 0 ∨ 1048576 < epoch ∨ inst < 0 ∨ 16 ≤ inst then 2 else if round < 0 ∨ 64 ≤ round ∨ bit < 1 ∨ 3 < bit then 2 else if 4096 < nd ∨ 10 < np then 3 else if ¬ uv root = 0 ∨ ¬ len = 0 ∨ 0 < nd ∨ 0 < np then 1 else 0
set_option maxRecDepth 100000 in
set_option maxHeartbeats 4000000 in
theorem rvalid_c (kind epoch inst round bit : Int) (root : W) (len : Int) (a : Option Addr) (nd c : Nat) (a' : Option Addr) (np c' : Nat) (w : World) (hk : kind = 9) (hnd : nd ≤ 10000000) (hnp : np ≤ 10000000) :
    Calls Tryz.prog 14 #[msgV ⟨kind, epoch, inst, round, bit, root, len, [], []⟩ (.slice a nd c) (.slice a' np c')] w fun e w' => e = .returned (.int .i64 (vl_c epoch inst round bit root len nd np)) ∧ Below w.heap.size w w' := by
  unfold msgV
  have B0 := Lib.hid fun c => (Below.refl w.heap.size w).alloc (Nat.le_refl _) (.cells c 27)
  have C := Lib.hid fun w' => rfields_c kind hk w'
  have t1 : decide (kind < 1) = false := decide_eq_false (by omega)
  have t2 : decide (12 < kind) = false := decide_eq_false (by omega)
  subst hk
  skip
  obtain ⟨V, hV⟩ : ∃ V, V = vl_c epoch inst round bit root len nd np := ⟨_, rfl⟩
  rw [← hV]
  have HV := Lib.hid hV
  clear hV
  go_enter Tryz.func14, Tryz.ntmps14
  go_wp2_with fail
  refine (C.out _).mono ?_; rintro e w' ⟨rfl, rfl⟩
  go_wp2_with fail
  all_goals (go_ret; refine ⟨?_, B0.out _⟩; rw [HV.out]; unfold vl_c; (repeat (first | rw [if_pos (by omega)] | rw [if_neg (by omega)])); rfl)
def vl_n (epoch inst round bit : Int) (root : W) (len : Int) (nd np : Nat) : Int := if epoch < 0 ∨ 1048576 < epoch ∨ inst < 0 ∨ 16 ≤ inst then 2 else if round < 0 ∨ 64 ≤ round then 2 else if 4096 < nd ∨ 10 < np then 3 else if ¬ bit = 0 ∨ ¬ uv root = 0 ∨ ¬ len = 0 ∨ 0 < np then 1 else 0
set_option maxRecDepth 100000 in
set_option maxHeartbeats 4000000 in
theorem rvalid_n (kind epoch inst round bit : Int) (root : W) (len : Int) (a : Option Addr) (nd c : Nat) (a' : Option Addr) (np c' : Nat) (w : World) (hk : kind = 10) (hnd : nd ≤ 10000000) (hnp : np ≤ 10000000) :
    Calls Tryz.prog 14 #[msgV ⟨kind, epoch, inst, round, bit, root, len, [], []⟩ (.slice a nd c) (.slice a' np c')] w fun e w' => e = .returned (.int .i64 (vl_n epoch inst round bit root len nd np)) ∧ Below w.heap.size w w' := by
  unfold msgV
  have B0 := Lib.hid fun c => (Below.refl w.heap.size w).alloc (Nat.le_refl _) (.cells c 27)
  have C := Lib.hid fun w' => rfields_n kind hk w'
  have t1 : decide (kind < 1) = false := decide_eq_false (by omega)
  have t2 : decide (12 < kind) = false := decide_eq_false (by omega)
  have t9 : (kind == 9) = false := by rw [beq_eq_false_iff_ne]; omega
  clear hk
  obtain ⟨V, hV⟩ : ∃ V, V = vl_n epoch inst round bit root len nd np := ⟨_, rfl⟩
  rw [← hV]
  have HV := Lib.hid hV
  clear hV
  go_enter Tryz.func14, Tryz.ntmps14
  go_wp2_with fail
  refine (C.out _).mono ?_; rintro e w' ⟨rfl, rfl⟩
  go_wp2_with fail
  all_goals (go_ret; refine ⟨?_, B0.out _⟩; rw [HV.out]; unfold vl_n; (repeat (first | rw [if_pos (by omega)] | rw [if_neg (by omega)])); rfl)
def vl_t (epoch inst round bit : Int) (root : W) (len : Int) (nd np : Nat) : Int := if epoch < 0 ∨ 1048576 < epoch ∨ inst < 0 ∨ 16 ≤ inst then 2 else if bit < 0 ∨ 1 < bit then 2 else if 4096 < nd ∨ 10 < np then 3 else if ¬ round = 0 ∨ ¬ uv root = 0 ∨ ¬ len = 0 ∨ 0 < nd ∨ 0 < np then 1 else 0
set_option maxRecDepth 100000 in
set_option maxHeartbeats 4000000 in
theorem rvalid_t (kind epoch inst round bit : Int) (root : W) (len : Int) (a : Option Addr) (nd c : Nat) (a' : Option Addr) (np c' : Nat) (w : World) (hk : kind = 11) (hnd : nd ≤ 10000000) (hnp : np ≤ 10000000) :
    Calls Tryz.prog 14 #[msgV ⟨kind, epoch, inst, round, bit, root, len, [], []⟩ (.slice a nd c) (.slice a' np c')] w fun e w' => e = .returned (.int .i64 (vl_t epoch inst round bit root len nd np)) ∧ Below w.heap.size w w' := by
  unfold msgV
  have B0 := Lib.hid fun c => (Below.refl w.heap.size w).alloc (Nat.le_refl _) (.cells c 27)
  have C := Lib.hid fun w' => rfields_t kind hk w'
  have t1 : decide (kind < 1) = false := decide_eq_false (by omega)
  have t2 : decide (12 < kind) = false := decide_eq_false (by omega)
  have t9 : (kind == 9) = false := by rw [beq_eq_false_iff_ne]; omega
  clear hk
  obtain ⟨V, hV⟩ : ∃ V, V = vl_t epoch inst round bit root len nd np := ⟨_, rfl⟩
  rw [← hV]
  have HV := Lib.hid hV
  clear hV
  go_enter Tryz.func14, Tryz.ntmps14
  go_wp2_with fail
  refine (C.out _).mono ?_; rintro e w' ⟨rfl, rfl⟩
  go_wp2_with fail
  all_goals (go_ret; refine ⟨?_, B0.out _⟩; rw [HV.out]; unfold vl_t; (repeat (first | rw [if_pos (by omega)] | rw [if_neg (by omega)])); rfl)
end Go.Proofs.YtgkckomccabmlaaGreatDoor
