/-
  The functions of package quorum. No condition for sets; configurations of small numbers where they are specified for valid ones.
-/
import Derived.Test.YtjhjielenbeoiaaRefQ
import Derived.Test.YtjhjielenbeoiaaArr
import Derived.RangeFuncNested
import Derived.RangeFuncBound
import Derived.RangeFuncCalls
import Derived.RangeFuncLeaves
import Derived.RangeFuncBox
import Derived.RangeFuncWrites
import Derived.RangeFuncFrom
import Derived.Maps.AppendAt
import Derived.Shelf.Abstract
import Derived.Shelf.RegionOpen
import Derived.OwnWalkIn
import Derived.TacticsInMore
import Derived.LoopNIn
import Derived.LoopIn
namespace Go.Proofs.Ytjhjielenbeoiaa
open Go.ChangeShapes Go.WideShapes Go.ChangeAt Go.RowKit
open Dg (W B)

theorem qmost_in (N : Int) (h : 1 ≤ N ∧ N ≤ 1000) (w : World) :
    Calls Try.prog 12 #[.int .i64 N] w fun e w' => e = .returned (.int .i64 ((N - 1) / 3)) ∧ w = w' := by
  obtain ⟨h1, h2⟩ := h
  have t1 : decide (N < 1) = false := decide_eq_false (by omega)
  go_enter Try.func12, Try.ntmps12
  go_wp2_with fail
  go_ret
  exact ⟨rfl, rfl⟩
theorem qweak_in (N F : Int) (h : small N F) (w : World) : Calls Try.prog 11 #[cfg N F] w fun e w' => e = .returned (.int .i64 (F + 1)) ∧ Below w.heap.size w w' := by
  unfold cfg
  obtain ⟨h1, h2, h3, h4⟩ := h
  have B := Lib.hid ((Below.refl w.heap.size w).alloc (Nat.le_refl _) (.cells #[.int .i64 N, .int .i64 F] 23))
  go_enter Try.func11, Try.ntmps11
  go_wp2_with fail
  go_ret
  exact ⟨rfl, B.out⟩
theorem qstrong_in (N F : Int) (h : small N F) (w : World) : Calls Try.prog 10 #[cfg N F] w fun e w' => e = .returned (.int .i64 (2 * F + 1)) ∧ Below w.heap.size w w' := by
  unfold cfg
  obtain ⟨h1, h2, h3, h4⟩ := h
  have B := Lib.hid ((Below.refl w.heap.size w).alloc (Nat.le_refl _) (.cells #[.int .i64 N, .int .i64 F] 23))
  go_enter Try.func10, Try.ntmps10
  go_wp2_with fail
  go_ret
  exact ⟨rfl, B.out⟩
theorem qenough_in (N F : Int) (h : small N F) (w : World) : Calls Try.prog 9 #[cfg N F] w fun e w' => e = .returned (.int .i64 (N - F)) ∧ Below w.heap.size w w' := by
  unfold cfg
  obtain ⟨h1, h2, h3, h4⟩ := h
  have B := Lib.hid ((Below.refl w.heap.size w).alloc (Nat.le_refl _) (.cells #[.int .i64 N, .int .i64 F] 23))
  go_enter Try.func9, Try.ntmps9
  go_wp2_with fail
  go_ret
  exact ⟨rfl, B.out⟩
theorem qhalf_in (N F : Int) (h : small N F) (w : World) : Calls Try.prog 15 #[cfg N F] w fun e w' => e = .returned (.int .i64 ((N + F) / 2 + 1)) ∧ Below w.heap.size w w' := by
  unfold cfg
  obtain ⟨h1, h2, h3, h4⟩ := h
  have B := Lib.hid ((Below.refl w.heap.size w).alloc (Nat.le_refl _) (.cells #[.int .i64 N, .int .i64 F] 23))
  go_enter Try.func15, Try.ntmps15
  go_wp2_with fail
  go_ret
  exact ⟨rfl, B.out⟩
theorem qvalid_any (N F : Int) (w : World) :
    Calls Try.prog 8 #[cfg N F] w fun e w' => e = .returned (.bool (validB N F)) ∧ Below w.heap.size w w' := by
  unfold cfg
  have B := Lib.hid ((Below.refl w.heap.size w).alloc (Nat.le_refl _) (.cells #[.int .i64 N, .int .i64 F] 23))
  by_cases h1 : 1 ≤ N
  · have t1 : decide (1 ≤ N) = true := decide_eq_true h1
    by_cases h2 : N ≤ 16
    · have t2 : decide (N ≤ 16) = true := decide_eq_true h2
      by_cases h3 : 0 ≤ F
      · have t3 : decide (0 ≤ F) = true := decide_eq_true h3
        have e : validB N F = decide (F ≤ (N - 1) / 3) := by unfold validB; rw [decide_eq_decide]; omega
        have C := Lib.hid fun w' => qmost_in N ⟨h1, by omega⟩ w'
        rw [e]
        clear e
        go_enter Try.func8, Try.ntmps8
        go_wp2_with fail
        go_quiet (first | (go_at_call 12; exact Calls.quiet_of_same ((C.out _).mono fun _ _ h => ⟨h.1, h.2.symm⟩)))
        go_wp2_with fail
        go_ret
        exact ⟨rfl, below_drewN B.out _⟩
      · have t3 : decide (0 ≤ F) = false := decide_eq_false h3
        have e : validB N F = false := by unfold validB; exact decide_eq_false (by omega)
        rw [e]
        clear e h1 h2 h3
        go_enter Try.func8, Try.ntmps8
        go_wp2_with fail
        go_quiet (fail)
        go_wp2_with fail
        go_ret
        exact ⟨rfl, below_drewN B.out _⟩
    · have t2 : decide (N ≤ 16) = false := decide_eq_false h2
      have e : validB N F = false := by unfold validB; exact decide_eq_false (by omega)
      rw [e]
      clear e h1 h2
      go_enter Try.func8, Try.ntmps8
      go_wp2_with fail
      go_quiet (fail)
      go_wp2_with fail
      go_ret
      exact ⟨rfl, below_drewN B.out _⟩
  · have t1 : decide (1 ≤ N) = false := decide_eq_false h1
    have e : validB N F = false := by unfold validB; exact decide_eq_false (by omega)
    rw [e]
    clear e h1
    go_enter Try.func8, Try.ntmps8
    go_wp2_with fail
    go_quiet (fail)
    go_wp2_with fail
    go_ret
    exact ⟨rfl, below_drewN B.out _⟩
theorem qis_any (r : Int) (w : World) :
    Calls Try.prog 22 #[.int .i64 r] w fun e w' => e = .returned (.bool (decide (0 ≤ r ∧ r < 16))) ∧ w = w' := by
  by_cases h0 : 0 ≤ r
  · have t1 : decide (0 ≤ r) = true := decide_eq_true h0
    have e : decide (0 ≤ r ∧ r < 16) = decide (r < 16) := by rw [decide_eq_decide]; omega
    rw [e]; clear e
    go_enter Try.func22, Try.ntmps22
    go_wp2_with fail
    go_ret
    exact ⟨rfl, rfl⟩
  · have t1 : decide (0 ≤ r) = false := decide_eq_false h0
    have e : decide (0 ≤ r ∧ r < 16) = false := decide_eq_false (by omega)
    rw [e]; clear e h0
    go_enter Try.func22, Try.ntmps22
    go_wp2_with fail
    go_ret
    exact ⟨rfl, rfl⟩
theorem qhas_any (s r : Int) (w : World) :
    Calls Try.prog 18 #[.int .i64 s, .int .i64 r] w fun e w' => e = .returned (.bool (Qm.hasI s r)) ∧ w = w' := by
  have C := Lib.hid (qis_any r w)
  by_cases h : 0 ≤ r ∧ r < 16
  · rw [decide_eq_true h] at C
    obtain ⟨k, rfl⟩ : ∃ k : Nat, r = k := ⟨r.toNat, by omega⟩
    have hk : k < 16 := by omega
    have e := Qm.bit_i64 s k hk
    have h2 : Qm.hasI s (k : Int) = (Qm.qw s).getLsbD k := by unfold Qm.hasI; rw [decide_eq_true h]; simp
    rw [h2]
    clear h h2
    go_enter Try.func18, Try.ntmps18
    go_wp2_with fail
    refine (C.out).mono ?_; rintro e w1 ⟨rfl, rfl⟩
    go_wp2_with fail
    go_ret
    exact ⟨rfl, rfl⟩
  · rw [decide_eq_false h] at C
    have h2 : Qm.hasI s r = false := by unfold Qm.hasI; rw [decide_eq_false h]; rfl
    rw [h2]
    clear h h2
    go_enter Try.func18, Try.ntmps18
    go_wp2_with fail
    refine (C.out).mono ?_; rintro e w1 ⟨rfl, rfl⟩
    go_wp2_with fail
    go_ret
    exact ⟨rfl, rfl⟩
namespace Qm
theorem qw_or (s : Int) (y : W) : qw (bits .or .i64 s (uv y)) = qw s ||| y := by
  have e : BitVec.ofInt 64 (uv y) = y := qw_uv y
  have e1 : bits .or .i64 s (uv y) = IntKind.i64.wrap (((qw s ||| y).toNat : Nat) : Int) := by
    show IntKind.i64.wrap ((BitVec.ofInt 64 s ||| BitVec.ofInt 64 (uv y)).toNat : Int) = _
    rw [e]; rfl
  rw [e1]
  apply BitVec.eq_of_toNat_eq
  have h := qw_nat (IntKind.i64.wrap (((qw s ||| y).toNat : Nat) : Int))
  have := (qw s ||| y).isLt
  rw [IntKind.wrap_i64] at h ⊢
  omega
theorem pow_low (k : Nat) (hk : k < 16) : BitVec.ofNat 64 (2 ^ k) &&& 65535#64 = BitVec.ofNat 64 (2 ^ k) := by
  rcases sixteen hk with rfl | rfl | rfl | rfl | rfl | rfl | rfl | rfl | rfl | rfl | rfl | rfl | rfl | rfl | rfl | rfl <;> decide
theorem add_i64 (s : Int) (k : Nat) (hk : k < 16) : bits .and .i64 (bits .or .i64 s (wrap64 ((2 : Int) ^ k))) 65535 = uv (add (qw s) (k : Int)) := by
  rw [pow_i64 k hk]
  have h1 : bits .and .i64 (bits .or .i64 s (uv (BitVec.ofNat 64 (2 ^ k)))) 65535 = uv (qw (bits .or .i64 s (uv (BitVec.ofNat 64 (2 ^ k)))) &&& 65535#64) := and_i64 _ 65535#64 (by decide)
  rw [h1, qw_or]
  unfold add low
  rw [if_pos (by omega), Int.toNat_natCast]
  congr 1
  apply BitVec.eq_of_getLsbD_eq
  intro i hi
  have h2 := congrArg (fun v => v.getLsbD i) (pow_low k hk)
  simp only [BitVec.getLsbD_and, BitVec.getLsbD_or] at h2 ⊢
  rw [← h2]
  cases (qw s).getLsbD i <;> cases (BitVec.ofNat 64 (2 ^ k)).getLsbD i <;> cases (65535#64).getLsbD i <;> rfl
theorem add_all (k : Nat) (hk : k < 16) : add (qw (uv (all k))) (k : Int) = all (k + 1) := by
  rw [qw_uv]
  rcases sixteen hk with rfl | rfl | rfl | rfl | rfl | rfl | rfl | rfl | rfl | rfl | rfl | rfl | rfl | rfl | rfl | rfl <;> decide
end Qm
theorem qadd_any (s r : Int) (w : World) :
    Calls Try.prog 17 #[.int .i64 s, .int .i64 r] w fun e w' => e = .returned (.int .i64 (uv (Qm.add (Qm.qw s) r))) ∧ w = w' := by
  have C := Lib.hid (qis_any r w)
  by_cases h : 0 ≤ r ∧ r < 16
  · rw [decide_eq_true h] at C
    obtain ⟨k, rfl⟩ : ∃ k : Nat, r = k := ⟨r.toNat, by omega⟩
    have hk : k < 16 := by omega
    have ea := Qm.add_i64 s k hk
    clear h
    go_enter Try.func17, Try.ntmps17
    go_wp2_with fail
    refine (C.out).mono ?_; rintro e w1 ⟨rfl, rfl⟩
    go_wp2_with fail
    go_ret
    exact ⟨rfl, rfl⟩
  · rw [decide_eq_false h] at C
    have ea : bits .and .i64 s 65535 = uv (Qm.low (Qm.qw s)) := Qm.and_i64 s 65535#64 (by decide)
    have e2 : Qm.add (Qm.qw s) r = Qm.low (Qm.qw s) := by unfold Qm.add; rw [if_neg h]
    rw [e2]
    clear h e2
    go_enter Try.func17, Try.ntmps17
    go_wp2_with fail
    refine (C.out).mono ?_; rintro e w1 ⟨rfl, rfl⟩
    go_wp2_with fail
    go_ret
    exact ⟨rfl, rfl⟩
def QAllRel (n : Nat) (w : World) (s i : Value) (wr : World) : Prop := ∃ k : Nat, k ≤ n ∧ i = .int .i64 (k : Int) ∧ s = .int .i64 (uv (Qm.all k)) ∧ Below w.heap.size w wr
theorem qall_in (n : Nat) (F : Int) (h : n ≤ 16) (w : World) : Calls Try.prog 13 #[cfg (n : Int) F] w fun e w' => e = .returned (.int .i64 (uv (Qm.all n))) ∧ Below w.heap.size w w' := by
  unfold cfg
  have B := Lib.hid ((Below.refl w.heap.size w).alloc (Nat.le_refl _) (.cells #[.int .i64 (n : Int), .int .i64 F] 23))
  have hm : min (n : Int) 16 = (n : Int) := by omega
  go_enter Try.func13, Try.ntmps13
  go_wp2_with fail
  go_loopw [3, 8] (QAllRel n w) (fun _ i _ => 16 - (intOf i).toNat)
  case atStart => exact ⟨0, by omega, rfl, rfl, B.out⟩
  case round =>
    obtain ⟨k, hk, rfl, rfl, hb⟩ := hrel
    have HB := Lib.hid hb
    by_cases hlt : k < n
    · have t1 : decide (k < n) = true := decide_eq_true hlt
      have hk16 : k < 16 := by omega
      have C := Lib.hid (qadd_any (uv (Qm.all k)) (k : Int) wr)
      rw [Qm.add_all k hk16] at C
      clear hb
      go_wp2_with fail
      refine (C.out).mono ?_; rintro e w1 ⟨rfl, rfl⟩
      go_wp2_with fail
      go_roundw
      case rel => exact ⟨k + 1, by omega, by go_num, rfl, HB.out⟩
      case measure => simp [intOf]; omega
    · obtain rfl : k = n := by omega
      have t1 : decide (k < k) = false := by simp
      clear hb
      go_wp2_with fail
      go_ret
      exact ⟨rfl, HB.out⟩
section seqs
attribute [local go_sem] Oper.semAt_some
open Go.Shelf
/-- what lies in the first cell of block Bs stays there -/
def Stays (Bs : Nat) (W W' : World) : Prop := ∀ v, W.cell? ⟨Bs, 0, none⟩ = some v → W'.cell? ⟨Bs, 0, none⟩ = some v
theorem stays_t {Bs : Nat} {A B C : World} (h : Stays Bs A B) (k : Stays Bs B C) : Stays Bs A C := fun v hv => k v (h v hv)
theorem stays_b {Bs : Nat} {w : World} (W : World) (l : Nat) (o o' : Obj) (_ : w.heap.size ≤ l) (h : W.heap[l]? = some o) (ho : o.isCells = false) (_ : o.isWalk = false) : Stays Bs W (W.putObj l o') := fun v hv =>
  cell_kept hv (grownBy_putObj' W l o') (fun r e => by cases e; exact ⟨o, h, ho⟩)
theorem reps_any (s : Int) (w : World) : Calls Try.prog 21 #[.int .i64 s] w fun e w' => e = .returned (.func (.func 24) #[] #[.pointer (some ⟨w.heap.size, 0, none⟩)]) ∧ w' = w.alloc (.cells #[.int .i64 s] 3) := by
  go_enter Try.func21, Try.ntmps21
  go_wp2_with fail
  go_ret
  exact ⟨rfl, rfl⟩
set_option maxRecDepth 100000 in
set_option maxHeartbeats 1000000 in
/-- replicas' closure, for every loop body that keeps the set -/
theorem reps1_in (F : Fence) (n : Nat) (hF : F = Fence.wide) (hn : 1 ≤ n) (l Bs : Nat) (s : Int) (J Jx : List Int → World → Prop)
    (hY : ∀ pre x W, J pre W → pre.length < 16 → YieldAt F (n - 1) Try.prog l #[.int .i64 x] W fun e W' =>
      (e = .returned (.bool true) ∧ J (pre ++ [x]) W' ∧ Stays Bs W W') ∨ (e = .returned (.bool false) ∧ Jx (pre ++ [x]) W'))
    (W : World) (hBs : W.cell? ⟨Bs, 0, none⟩ = some (.int .i64 s)) (h0 : J [] W) :
    CallsIn F n Try.prog 24 #[.func (.yield l) #[] #[], .pointer (some ⟨Bs, 0, none⟩)] W fun e W' => (∃ v, e = .returned v) ∧
      ((∃ ys, ys = Qm.lstI (Qm.qw s) 16 ∧ J ys W') ∨ (∃ pre, True ∧ Jx pre W')) := by
  subst hF
  refine callsIn_of_wp Try.func24 rfl trivial ?_ rfl
  simp only [Try.ntmps24, List.size_toArray, List.length_cons, List.length_nil, Nat.reduceAdd, Nat.reduceSub, Array.replicate_succ, Array.replicate_zero, List.push_toArray, List.append_toArray, List.nil_append, List.cons_append]
  gi_wp2
  gi_loopw [4] (fun i wr => ∃ k : Nat, k ≤ 16 ∧ i = .int .i64 (k : Int) ∧ J (Qm.lstI (Qm.qw s) k) wr ∧ wr.cell? ⟨Bs, 0, none⟩ = some (.int .i64 s))
    (fun i _ => 16 - (intOf i).toNat)
  case atStart => exact ⟨0, by omega, rfl, h0, hBs⟩
  case round =>
    obtain ⟨k, hk, rfl, hJs, hcell⟩ := hrel
    by_cases hlt : k < 16
    · have t1 : (k : Int) < 16 := by omega
      have hle : (Qm.lstI (Qm.qw s) k).length < 16 := by have := Qm.lst_le (Qm.qw s) k; rw [Qm.lstI_len]; omega
      have e2 : Qm.hasI s (k : Int) = (Qm.qw s).getLsbD k := by unfold Qm.hasI; rw [decide_eq_true (show 0 ≤ (k : Int) ∧ (k : Int) < 16 by omega)]; simp
      have hsu := Qm.lstI_succ (Qm.qw s) k
      have C := Lib.hid (callsIn_wide (n := n - 1).2 (qhas_any s (k : Int) wr))
      rw [e2] at C
      cases hbit : (Qm.qw s).getLsbD k
      · rw [hbit] at C hsu
        have HSU := Lib.hid hsu
        clear hle e2 hsu hbit
        gi_wp2
        refine ⟨trivial, (C.out).mono ?_⟩; rintro e w1 ⟨rfl, rfl⟩
        gi_wp2
        refine ⟨fun _ h => (by cases h), ?_⟩
        gi_wp2
        go_roundw
        case rel => exact ⟨k + 1, by omega, by go_num, by rw [HSU.out]; exact hJs, hcell⟩
        case measure => simp [intOf]; omega
      · rw [hbit] at C hsu
        have HSU := Lib.hid hsu
        obtain ⟨fn, tmps, assign, body, hy, hR⟩ := hY _ (k : Int) wr hJs hle
        clear hle e2 hsu hbit
        gi_wp2
        refine ⟨trivial, (C.out).mono ?_⟩; rintro e w1 ⟨rfl, rfl⟩
        gi_wp2
        refine hR.mono ?_
        rintro e W3 (⟨rfl, hJ3, hk3⟩ | ⟨rfl, hJx3⟩)
        · have hc3 := hk3 _ hcell
          gi_wp2
          go_roundw
          case rel => exact ⟨k + 1, by omega, by go_num, by rw [HSU.out]; exact hJ3, hc3⟩
          case measure => simp [intOf]; omega
        · gi_wp2
          refine bodyPost_ret (results_none rfl _ _ _) rfl ?_
          exact ⟨⟨_, rfl⟩, .inr ⟨_, trivial, hJx3⟩⟩
    · obtain rfl : k = 16 := by omega
      gi_wp2
      go_end0
      exact ⟨⟨_, rfl⟩, .inl ⟨_, rfl, hJs⟩⟩
theorem reps_stops (n : Nat) (hn : 1 ≤ n) (Bs : Nat) (s : Int) (w : World) (hBs : Bs < w.heap.size) (hc : w.cell? ⟨Bs, 0, none⟩ = some (.int .i64 s)) :
    SeqStopsK Fence.wide n Try.prog 24 #[.pointer (some ⟨Bs, 0, none⟩)] (fun x : Int => #[Value.int .i64 x]) (Stays Bs) (fun ys => ys = Qm.lstI (Qm.qw s) 16) (fun _ => True) 16 w := fun l J Jx W hW _ _ hY h0 =>
  reps1_in Fence.wide n rfl hn l Bs s J Jx hY W ((hW.cell (p := ⟨Bs, 0, none⟩) hBs).trans hc) h0
set_option maxRecDepth 100000 in
set_option maxHeartbeats 2000000 in
theorem qsize_any (s : Int) (w : World) : Calls Try.prog 14 #[.int .i64 s] w fun e w' => e = .returned (.int .i64 (Qm.cnt (Qm.qw s) : Int)) ∧ Below w.heap.size w w' := by
  refine (callsIn_wide (n := 4)).1 ?_
  refine callsIn_of_wp_marks Try.func14 rfl trivial ?_ rfl
  simp only [Try.ntmps14, List.size_toArray, List.length_cons, List.length_nil, Nat.reduceAdd, Nat.reduceSub, Array.replicate_succ, Array.replicate_zero, List.push_toArray, List.append_toArray, List.nil_append, List.cons_append]
  gi_wp2
  refine ⟨trivial, (callsIn_wide.2 (reps_any s _)).mono ?_⟩; rintro e w' ⟨rfl, rfl⟩
  gi_wp2
  have hs := Boxed.new w 3 (.int .i64 0)
  have hb := Boxed.new (w.alloc (.cells #[.int .i64 0] 3)) 3 (.int .i64 s)
  rw [World.size_alloc] at hb
  have hB0 : Below w.heap.size w ((w.alloc (.cells #[.int .i64 0] 3)).alloc (.cells #[.int .i64 s] 3)) := ((Below.refl _ w).alloc (Nat.le_refl _) _).alloc (by simp) _
  refine wpIn_rangeFunc_ownF rfl (by omega) (gf := 24) (lb := #[.pointer (some ⟨w.heap.size + 1, 0, none⟩)]) rfl trivial (enters_of Try.func24 (by kernel_rfl) rfl)
    (reps_stops _ (by omega) (w.heap.size + 1) s _ (by simp) hb.cell) stays_t stays_b (Below.refl _ _) (fun _ => rfl)
    (fun pre W => (W.cell? ⟨w.heap.size, 0, none⟩ = some (.int .i64 (pre.length : Int)) ∧ W.frozen? ⟨w.heap.size, 0, none⟩ = false) ∧ Below w.heap.size w W)
    (fun _ _ _ => False)
    (OwnFrom.and (Own.from (fun s A B row hs hg hr => ⟨cell_kept hs.1 hg hr, (frozen_kept hs.1 hg hr).trans hs.2⟩) _) (ownFrom_below (Nat.le_refl _) (by simp; omega)))
    (fun _ _ _ _ _ hs _ _ => hs)
    ⟨⟨(hs.alloc _).cell, (hs.alloc _).frozen⟩, hB0⟩
    (fun x => { tmps := #[.int .i64 s, undef, .int .i64 0, .pointer (some ⟨w.heap.size, 0, none⟩), .int .i64 s, .func (.func 24) #[] #[.pointer (some ⟨w.heap.size + 1, 0, none⟩)], .int .i64 x, undef, undef, undef], defers := [] }) ?assign ?body ?done ?stop
  case assign =>
    intro l x W K hK
    gi_wp2
    simpa using hK
  case body =>
    rintro l pre x W ⟨⟨hc, hf⟩, hB⟩ hlt
    have hl : (pre.length : Int) < 16 := by omega
    gi_wp2
    have he : (pre.length : Int) + 1 = ((pre ++ [x]).length : Int) := by simp
    rw [he]
    refine ⟨KeepsOthers.setCell _ _ _, ?_, ⟨World.cell?_setCell_same' _ _ _ (by rw [hc]; rfl), by rw [World.frozen?_setCell]; exact hf⟩, hB.setCell (p := ⟨w.heap.size, 0, none⟩) (Nat.le_refl _) _⟩
    intro v hv
    exact (World.cell?_of_block (Below.heap_setCell W ⟨w.heap.size, 0, none⟩ _ (w.heap.size + 1) (by simp))).trans hv
  case done =>
    rintro D ys W hD rfl ⟨⟨hc, _⟩, hB⟩ hK
    gi_wp2
    refine ⟨by simp, .inl ⟨_, _, rfl, run_takeDeferred hK, ?_⟩⟩
    exact ⟨_, results_tmp rfl _ _ _, by rw [Qm.lstI_len]; rfl, hB.trans (belowK_b (w := w) (Nat.le_refl _) W D _ _ (by simp at hD; omega) hK rfl rfl)⟩
  case stop =>
    rintro D c pre W _ _ h _
    exact h.elim
set_option maxRecDepth 100000 in
set_option maxHeartbeats 2000000 in
theorem qappend_any (s : Int) (Bs : Nat) (w : World) (hBs : Bs < w.heap.size) (hc0 : w.cell? ⟨Bs, 0, none⟩ = some (.int .i64 s)) :
    Calls Try.prog 25 #[.slice none 0 0, .func (.func 24) #[] #[.pointer (some ⟨Bs, 0, none⟩)]] w fun e w' => ∃ v, e = .returned v ∧ OwnI w.heap.size w' v (Qm.lstI (Qm.qw s) 16) ∧ Below w.heap.size w w' := by
  obtain ⟨i0, hi, hz0, hz1, hz2⟩ := info_parts infoInt
  refine (callsIn_wide (n := 4)).1 ?_
  refine callsIn_of_wp_marks Try.func25 rfl trivial ?_ rfl
  simp only [Try.ntmps25, List.size_toArray, List.length_cons, List.length_nil, Nat.reduceAdd, Nat.reduceSub, Array.replicate_succ, Array.replicate_zero, List.push_toArray, List.append_toArray, List.nil_append, List.cons_append]
  gi_wp2
  have bO := Boxed.new w 34 (.slice none 0 0)
  have hB0 : Below w.heap.size w (w.alloc (.cells #[.slice none 0 0] 34)) := (Below.refl _ w).alloc (Nat.le_refl _) _
  refine wpIn_rangeFunc_ownG rfl (by omega) (gf := 24) (lb := #[.pointer (some ⟨Bs, 0, none⟩)]) rfl trivial (enters_of Try.func24 (by kernel_rfl) rfl)
    (reps_stops _ (by omega) Bs s _ (by simp; omega) ((hB0.cell (p := ⟨Bs, 0, none⟩) hBs).trans hc0)) stays_t stays_b (Below.refl _ _) (fun _ => rfl)
    (fun pre W => (∃ v, Boxed W w.heap.size 34 v ∧ W.ownsRow w.heap.size 3 1 v pre.length (pre.map ival) ∧ (v = .slice none 0 0 ↔ pre = [])) ∧ Below w.heap.size w W)
    (fun _ _ _ => False)
    (OwnFrom.and (Own.from (holdsRow_own w.heap.size w.heap.size 34 3 1 (fun pre => pre.length) (fun pre => pre.map ival) (fun pre v => v = .slice none 0 0 ↔ pre = [])) _) (ownFrom_below (Nat.le_refl _) (by simp)))
    (fun _ _ _ _ _ hs _ _ => hs)
    ⟨⟨_, bO, World.ownsRow_nil _ _ _ _, by simp⟩, hB0⟩
    (fun x => { tmps := #[.slice none 0 0, .func (.func 24) #[] #[.pointer (some ⟨Bs, 0, none⟩)], .pointer (some ⟨w.heap.size, 0, none⟩), undef, .slice none 0 0, .int .i64 x, .func (.func 24) #[] #[.pointer (some ⟨Bs, 0, none⟩)], .int .i64 x, undef, undef, undef, undef, undef], defers := [] }) ?assign ?body ?done ?stop
  case assign =>
    intro l x W K hK
    gi_wp2
    exact hK
  case body =>
    rintro l pre x W ⟨⟨v, hv, hrow, hnil⟩, hB⟩ hlt
    have hc := hv.cell
    gi_wp2_with (gi_at_builtin; refine wpListIn_append_own _ rfl _ _ 34 rfl w.heap.size 3 i0 (.int .i64 0) 1 8 Try.underlying34 hi hz0 hz1 hz2 rfl (by decide) _ _ _ rfl (hrow.alloc _) ⟨W.heap.size, 0, none⟩ 1 1 [.int .i64 x] rfl rfl (cell_one_new _ _ _) (by simp [Value.oneCell']) (by unfold maxLen; omega) (by omega) (by have := hB.size; simp; omega) ?_; intro v' w1 hown' hgrow _; obtain ⟨g', cap', rfl⟩ := ownsRow_succ hown'; obtain ⟨hv1, hv2, hr2, hk2, hb2⟩ := hv.appended (by decide) hrow hB.size (Nat.le_refl _) hown' hgrow; have hc1 := hv1.cell; have hf1 := hv1.frozen)
    exact ⟨hk2.from _, fun u hu => (hb2.cell (p := ⟨Bs, 0, none⟩) hBs).trans hu, ⟨_, hv2, by simpa [ival] using hr2, by simp⟩, hB.trans hb2⟩
  case done =>
    rintro D ys W hD rfl ⟨⟨v, hv, hrow, hnil⟩, hB⟩ hK
    have hc := hv.cell
    gi_wp2
    refine ⟨by simp, .inl ⟨_, _, rfl, run_takeDeferred hK, ?_⟩⟩
    exact ⟨_, results_tmp rfl _ _ _, v, rfl, ownsRow_putObj hrow _ hK rfl, hB.trans (belowK_b (w := w) (Nat.le_refl _) W D _ _ (by simp at hD; omega) hK rfl rfl)⟩
  case stop =>
    rintro D c pre W _ _ h _
    exact h.elim
end seqs
theorem qlist_any (s : Int) (w : World) : Calls Try.prog 19 #[.int .i64 s] w fun e w' => ∃ a c, e = .returned (.slice a (Qm.cnt (Qm.qw s)) c) ∧ HasI w' w'.heap.size (.slice a (Qm.cnt (Qm.qw s)) c) (Qm.lstI (Qm.qw s) 16) ∧ Below w.heap.size w w' := by
  have R := Lib.hid (reps_any s w)
  have C : Hid (Calls Try.prog 23 #[.func (.func 24) #[] #[.pointer (some ⟨w.heap.size, 0, none⟩)]] (w.alloc (.cells #[.int .i64 s] 3)) fun e w' => ∃ a c, e = .returned (.slice a (Qm.cnt (Qm.qw s)) c) ∧ HasI w' w'.heap.size (.slice a (Qm.cnt (Qm.qw s)) c) (Qm.lstI (Qm.qw s) 16) ∧ Below w.heap.size w w') := by
    refine Lib.hid ?_
    have K := Lib.hid (qappend_any s w.heap.size (w.alloc (.cells #[.int .i64 s] 3)) (by simp) (by rw [World.cell?_alloc_new]; rfl))
    have B0 := Lib.hid ((Below.refl w.heap.size w).alloc (Nat.le_refl _) (.cells #[.int .i64 s] 3))
    obtain ⟨w0, hw0⟩ : ∃ w0, w0 = w.alloc (.cells #[.int .i64 s] 3) := ⟨_, rfl⟩
    rw [← hw0] at K B0 ⊢
    clear hw0
    go_enter Try.func23, Try.ntmps23
    go_wp2_with fail
    refine (K.out).mono ?_; rintro e w1 ⟨v, rfl, o, b⟩
    obtain ⟨a, c, rfl⟩ := o.has.form
    have e1 : (Qm.lstI (Qm.qw s) 16).length = Qm.cnt (Qm.qw s) := Qm.lstI_len _ _
    have O := Lib.hid o.has
    have B := Lib.hid (B0.out.trans (b.mono B0.out.size))
    rw [e1] at O ⊢
    clear o b e1
    go_wp2_with fail
    go_ret
    exact ⟨_, _, rfl, O.out, B.out⟩
  go_enter Try.func19, Try.ntmps19
  go_wp2_with fail
  refine (R.out).mono ?_; rintro e w1 ⟨rfl, rfl⟩
  go_wp2_with fail
  refine (C.out).mono ?_; rintro e w1 ⟨a, c, rfl, o, b⟩
  have O := Lib.hid o; have B := Lib.hid b
  clear o b
  go_wp2_with fail
  go_ret
  exact ⟨_, _, rfl, O.out, B.out⟩

theorem qkept {w w' : World} {p : Addr} {v : Value} (hb : Below w.heap.size w w') (h : w.cell? p = some v) : w'.cell? p = some v := (hb.cell (World.block_lt_of_cell? _ _ h)).trans h
set_option maxRecDepth 100000 in
theorem awake_any (w : World) : Calls Try.prog 16 #[] w fun e w' => e = .returned (.bool true) ∧ Below w.heap.size w w' := by
  have hs : small 4 1 := by unfold small; omega
  have C1 := Lib.hid fun w => qvalid_any 4 1 w
  have C2 := Lib.hid fun w => qweak_in 4 1 hs w
  have C3 := Lib.hid fun w => qstrong_in 4 1 hs w
  have C4 := Lib.hid fun w => qenough_in 4 1 hs w
  have C5 := Lib.hid fun w => qhalf_in 4 1 hs w
  have C6 := Lib.hid fun w => qmost_in 4 (by omega) w
  rw [show validB 4 1 = true by decide] at C1
  unfold cfg at C1 C2 C3 C4 C5
  obtain ⟨w0, hw0⟩ : ∃ w0, w0 = w.alloc (.cells #[.int .i64 4, .int .i64 1] 23) := ⟨_, rfl⟩
  have x0 : w0.cell? ⟨w.heap.size, 0, none⟩ = some (.int .i64 4) := by rw [hw0, World.cell?_alloc_new]; rfl
  have x1 : w0.cell? ⟨w.heap.size, 1, none⟩ = some (.int .i64 1) := by rw [hw0, World.cell?_alloc_new]; rfl
  have B0 : Hid (Below w.heap.size w w0) := Lib.hid (by rw [hw0]; exact (Below.refl _ _).alloc (Nat.le_refl _) _)
  have HW := Lib.hid hw0
  clear hs hw0
  go_enter Try.func16, Try.ntmps16
  go_wp2_with fail
  rw [← HW.out]
  refine (C1.out _).mono ?_; rintro e w1 ⟨rfl, b⟩
  replace x0 := qkept b x0; replace x1 := qkept b x1; have B1 := Lib.hid (B0.out.trans (b.mono B0.out.size)); clear b
  go_wp2_with fail
  refine (C2.out _).mono ?_; rintro e w2 ⟨rfl, b⟩
  replace x0 := qkept b x0; replace x1 := qkept b x1; have B2 := Lib.hid (B1.out.trans (b.mono B1.out.size)); clear b
  go_wp2_with fail
  refine (C3.out _).mono ?_; rintro e w3 ⟨rfl, b⟩
  replace x0 := qkept b x0; replace x1 := qkept b x1; have B3 := Lib.hid (B2.out.trans (b.mono B2.out.size)); clear b
  go_wp2_with fail
  refine (C4.out _).mono ?_; rintro e w4 ⟨rfl, b⟩
  replace x0 := qkept b x0; replace x1 := qkept b x1; have B4 := Lib.hid (B3.out.trans (b.mono B3.out.size)); clear b
  go_wp2_with fail
  refine (C5.out _).mono ?_; rintro e w5 ⟨rfl, b⟩
  replace x0 := qkept b x0; replace x1 := qkept b x1; have B5 := Lib.hid (B4.out.trans (b.mono B4.out.size)); clear b
  go_wp2_with fail
  refine (C6.out _).mono ?_; rintro e w6 ⟨rfl, rfl⟩
  go_wp2_with fail
  go_ret
  exact ⟨rfl, B5.out⟩
theorem load_cfg (w : World) (N : Nat) (a b : Int) (h0 : w.cell? ⟨N, 0, none⟩ = some (.int .i64 a)) (h1 : w.cell? ⟨N, 1, none⟩ = some (.int .i64 b)) : (loadVar 23 ⟨N, 0, none⟩).run Try.prog w = .ok (cfg a b) w := by
  simp [loadVar, go_sem, h0, h1, cfg]
theorem config_any (n f : Int) (hn : (Lit.int .i64 n).wf = true) (hf : (Lit.int .i64 f).wf = true) (w : World) :
    Calls Try.prog 7 #[.int .i64 n, .int .i64 f] w fun e w' => ∃ N F : Nat, e = .returned (cfg (N : Int) (F : Int)) ∧ 1 ≤ N ∧ N ≤ 16 ∧ 3 * F + 1 ≤ N ∧ Below w.heap.size w w' := by
  obtain ⟨q, hq, hq1⟩ := mod_nat n 16 (by omega)
  obtain ⟨N, hN⟩ : ∃ N, N = 1 + q := ⟨_, rfl⟩
  obtain ⟨t, ht⟩ : ∃ t : Nat, t = (N - 1) / 3 + 1 := ⟨_, rfl⟩
  obtain ⟨F, hF, hF1⟩ := mod_nat f t (by omega)
  have M1 := Lib.hid fun w' => mod_to n 16 q hq w' hn (by omega) (by omega)
  have M2 := Lib.hid fun w' => mod_to f (t : Int) F hF w' hf (by omega) (by omega)
  have t1 : (1 : Int) + (q : Int) = (N : Int) := by omega
  have t2 : ((N : Int) - 1) / 3 + 1 = (t : Int) := by omega
  have hNF : Hid (1 ≤ N ∧ N ≤ 16 ∧ 3 * F + 1 ≤ N) := Lib.hid (by omega)
  have q16 : q < 16 := hq1
  have n1 : (1 : Int) ≤ (N : Int) := by omega
  have n16 : (N : Int) ≤ 16 := by omega
  clear hq hq1 hN ht hF hF1 hn hf
  go_enter Try.func7, Try.ntmps7
  go_wp2_with fail
  refine (M1.out _).mono ?_; rintro e w' ⟨rfl, rfl⟩
  go_wp2_with fail
  refine (M2.out _).mono ?_; rintro e w' ⟨rfl, rfl⟩
  go_wp2_with fail
  obtain ⟨g1, g2, g3⟩ := hNF.out
  exact bodyPost_ret (results_cell rfl _ _ ⟨w.heap.size, 0, none⟩ rfl (load_cfg _ _ (N : Int) (F : Int) (by go_simp) (by go_simp))) rfl ⟨N, F, rfl, g1, g2, g3, ((Below.refl _ _).alloc (Nat.le_refl _) _).alloc (by simp) _⟩
end Go.Proofs.Ytjhjielenbeoiaa
