/-
  What Verify of the chapter of rings returns. Nothing that was there has changed. No condition.
-/
import Derived.Test.YthkkjocmglcjnaaRefRing
import Derived.Test.YthkkjocmglcjnaaCheck
import Derived.BigQuiet
namespace Go.Proofs.Ythkkjocmglcjnaa
open Go.ChangeShapes Go.WideShapes Go.ChangeAt Go.RowKit
open Dg (W B)
def verB (r : W) (n : Int) (d : W) (key : Int) (c p : List W) : Bool :=
  if 1 ≤ n ∧ n ≤ 64 ∧ 0 ≤ key ∧ key < n ∧ c.length = 18 then checkB r n key (Kr.leafOf key.toNat (Ot.recover d c)) p else false
set_option maxHeartbeats 1000000 in
theorem rkverify_good (r : W) (n : Nat) (d : W) (k : Nat) (c p : List W) (cv pv : Value) (w : World) (hn : n ≤ 64) (hk : k < n) (h18 : c.length = 18) (hc : HasW w w.heap.size cv c) (hp : HasW w w.heap.size pv p) :
    Calls Try.prog 17 #[.int .u64 (uv r), .int .i64 (n : Int), .int .u64 (uv d), .agg #[.int .i64 (k : Int), cv, pv]] w fun e w' => e = .returned (.bool (checkB r n k (Kr.leafOf k (Ot.recover d c)) p)) ∧ Below w.heap.size w w' := by
  obtain ⟨ca, ccap, rfl⟩ := hc.form
  obtain ⟨pa, pcap, rfl⟩ := hp.form
  rw [h18] at hc ⊢
  have t1 : decide ((n : Int) < 1) = false := decide_eq_false (by omega)
  have t2 : decide ((64 : Int) < (n : Int)) = false := decide_eq_false (by omega)
  have t3 : decide ((k : Int) < 0) = false := decide_eq_false (by omega)
  have t4 : decide (n ≤ k) = false := decide_eq_false (by omega)
  have hz : IntKind.u64.wrap (k : Int) = uv (Ot.num k) := by rw [← ofI_num]; exact wrap_word _
  have H18 := Lib.hid h18; have HC := Lib.hid hc; have HP := Lib.hid hp
  obtain ⟨m, hm⟩ : ∃ m, m = p.length := ⟨_, rfl⟩
  rw [← hm] at HP ⊢
  clear h18 hc hp hn hk hm
  go_enter Try.func17, Try.ntmps17
  go_wp2_with fail
  obtain ⟨w0, hw0⟩ : ∃ w0, w0 = w.alloc (.cells #[.int .i64 (k : Int), .slice ca 18 ccap, .slice pa m pcap] 28) := ⟨_, rfl⟩
  have b0 : Below w.heap.size w w0 := by rw [hw0]; exact (Below.refl _ _).alloc (Nat.le_refl _) _
  have s0 : w0.heap.size = w.heap.size + 1 := by rw [hw0]; simp
  have x0 : w0.cell? ⟨w.heap.size, 0, none⟩ = some (.int .i64 (k : Int)) := by rw [hw0, World.cell?_alloc_new]; rfl
  have x2 : w0.cell? ⟨w.heap.size, 2, none⟩ = some (.slice pa m pcap) := by rw [hw0, World.cell?_alloc_new]; rfl
  rw [← hw0]
  have RC := Lib.hid (rrecover_18 d c _ w0 H18.out ((HC.out.below b0 (Nat.le_refl _)).wide (by rw [s0]; omega)))
  have X0 := Lib.hid x0; have X2 := Lib.hid x2; have S0 := Lib.hid s0; have B0 := Lib.hid b0
  clear hw0 b0 s0 x0 x2
  refine (RC.out).mono ?_; rintro e w1 ⟨rfl, b1⟩
  have x0 : w1.cell? ⟨w.heap.size, 0, none⟩ = some (.int .i64 (k : Int)) := by rw [b1.cell (p := ⟨w.heap.size, 0, none⟩) (by rw [S0.out]; exact Nat.lt_succ_self _)]; exact X0.out
  have x2 : w1.cell? ⟨w.heap.size, 2, none⟩ = some (.slice pa m pcap) := by rw [b1.cell (p := ⟨w.heap.size, 2, none⟩) (by rw [S0.out]; exact Nat.lt_succ_self _)]; exact X2.out
  have B1 := Lib.hid (B0.out.trans (b1.mono B0.out.size))
  have C1 := Lib.hid fun j => Calls.quiet_of (rcheck_any r n k (Dg.pairW (Ot.num k) (Ot.recover d c)) p w.heap.size (.slice pa m pcap) (w1.drewN j) (HP.out.below (below_drewN B1.out j) (Nat.le_refl _)))
  clear b1
  go_wp2_with fail
  go_quiet (first
    | (go_at_call 36; with_reducible exact C1.out _)
    | (go_at_call 18; exact Calls.quiet_of_same ((rpair_any _ _ _).mono fun _ _ h => ⟨h.1, h.2.symm⟩)))
  go_wp2_with fail
  go_ret
  exact ⟨rfl, below_drewN B1.out _⟩
theorem rkverify_out (r : W) (n : Int) (d : W) (key : Int) (cv pv : Value) (w : World) (h : ¬ (1 ≤ n ∧ n ≤ 64 ∧ 0 ≤ key ∧ key < n)) :
    Calls Try.prog 17 #[.int .u64 (uv r), .int .i64 n, .int .u64 (uv d), .agg #[.int .i64 key, cv, pv]] w fun e w' => e = .returned (.bool false) ∧ Below w.heap.size w w' := by
  have B0 := Lib.hid ((Below.refl w.heap.size w).alloc (Nat.le_refl _) (.cells #[.int .i64 key, cv, pv] 28))
  by_cases h1 : n < 1
  · have t1 : decide (n < 1) = true := decide_eq_true h1
    clear h h1
    go_enter Try.func17, Try.ntmps17
    go_wp2_with fail
    go_ret
    exact ⟨rfl, B0.out⟩
  · have t1 : decide (n < 1) = false := decide_eq_false h1
    by_cases h2 : 64 < n
    · have t2 : decide (64 < n) = true := decide_eq_true h2
      clear h h1 h2
      go_enter Try.func17, Try.ntmps17
      go_wp2_with fail
      go_ret
      exact ⟨rfl, B0.out⟩
    · have t2 : decide (64 < n) = false := decide_eq_false h2
      by_cases h3 : key < 0
      · have t3 : decide (key < 0) = true := decide_eq_true h3
        clear h h1 h2 h3
        go_enter Try.func17, Try.ntmps17
        go_wp2_with fail
        go_ret
        exact ⟨rfl, B0.out⟩
      · have t3 : decide (key < 0) = false := decide_eq_false h3
        have t4 : decide (n ≤ key) = true := decide_eq_true (by omega)
        clear h h1 h2 h3
        go_enter Try.func17, Try.ntmps17
        go_wp2_with fail
        go_ret
        exact ⟨rfl, B0.out⟩
set_option maxHeartbeats 1000000 in
theorem rkverify_short (r : W) (n : Nat) (d : W) (k : Nat) (c : List W) (cv pv : Value) (w : World) (hn : n ≤ 64) (hk : k < n) (h18 : c.length ≠ 18) (hc : HasW w w.heap.size cv c) :
    Calls Try.prog 17 #[.int .u64 (uv r), .int .i64 (n : Int), .int .u64 (uv d), .agg #[.int .i64 (k : Int), cv, pv]] w fun e w' => e = .returned (.bool false) ∧ Below w.heap.size w w' := by
  have t1 : decide ((n : Int) < 1) = false := decide_eq_false (by omega)
  have t2 : decide ((64 : Int) < (n : Int)) = false := decide_eq_false (by omega)
  have t3 : decide ((k : Int) < 0) = false := decide_eq_false (by omega)
  have t4 : decide (n ≤ k) = false := decide_eq_false (by omega)
  have H18 := Lib.hid h18; have HC := Lib.hid hc
  clear h18 hc hn hk
  go_enter Try.func17, Try.ntmps17
  go_wp2_with fail
  obtain ⟨w0, hw0⟩ : ∃ w0, w0 = w.alloc (.cells #[.int .i64 (k : Int), cv, pv] 28) := ⟨_, rfl⟩
  have b0 : Below w.heap.size w w0 := by rw [hw0]; exact (Below.refl _ _).alloc (Nat.le_refl _) _
  have s0 : w0.heap.size = w.heap.size + 1 := by rw [hw0]; simp
  rw [← hw0]
  have RC := Lib.hid (rrecover_bad d c _ w0 H18.out ((HC.out.below b0 (Nat.le_refl _)).wide (by rw [s0]; omega)))
  have B0 := Lib.hid b0
  clear hw0 b0 s0
  refine (RC.out).mono ?_; rintro e w1 ⟨rfl, b1⟩
  have B1 := Lib.hid (B0.out.trans (b1.mono B0.out.size))
  clear b1
  go_wp2_with fail
  go_quiet (fail)
  go_wp2_with fail
  go_ret
  exact ⟨rfl, below_drewN B1.out _⟩
/-- what Verify says -/
theorem rkverify_any (r : W) (n : Int) (d : W) (key : Int) (c p : List W) (cv pv : Value) (w : World) (hc : HasW w w.heap.size cv c) (hp : HasW w w.heap.size pv p) :
    Calls Try.prog 17 #[.int .u64 (uv r), .int .i64 n, .int .u64 (uv d), .agg #[.int .i64 key, cv, pv]] w fun e w' => e = .returned (.bool (verB r n d key c p)) ∧ Below w.heap.size w w' := by
  by_cases h : 1 ≤ n ∧ n ≤ 64 ∧ 0 ≤ key ∧ key < n
  · obtain ⟨m, rfl⟩ : ∃ m : Nat, n = m := ⟨n.toNat, by omega⟩
    obtain ⟨k, rfl⟩ : ∃ k : Nat, key = k := ⟨key.toNat, by omega⟩
    by_cases h18 : c.length = 18
    · have e : verB r m d k c p = checkB r m k (Kr.leafOf k (Ot.recover d c)) p := by unfold verB; rw [if_pos ⟨h.1, h.2.1, h.2.2.1, h.2.2.2, h18⟩, Int.toNat_natCast]
      rw [e]
      exact rkverify_good r m d k c p cv pv w (by omega) (by omega) h18 hc hp
    · have e : verB r m d k c p = false := by unfold verB; rw [if_neg (fun g => h18 g.2.2.2.2)]
      rw [e]
      exact rkverify_short r m d k c cv pv w (by omega) (by omega) h18 hc
  · have e : verB r n d key c p = false := by unfold verB; rw [if_neg (fun g => h ⟨g.1, g.2.1, g.2.2.1, g.2.2.2.1⟩)]
    rw [e]
    exact rkverify_out r n d key cv pv w h
end Go.Proofs.Ythkkjocmglcjnaa
