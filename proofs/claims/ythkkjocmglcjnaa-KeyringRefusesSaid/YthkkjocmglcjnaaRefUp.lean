/-
  What up of the chapter returns for a leaf with a path that is as long as its depth: where they lead to; only draws have passed. Conditions: the index is less than the count, the count is at most 2^20, the path is as long as the depth.
-/
import Derived.Test.YthkkjocmglcjnaaUp
namespace Go.Proofs.Ythkkjocmglcjnaa
open Go.ChangeShapes Go.WideShapes Go.ChangeAt Go.RowKit
open Dg (W B pairW)

theorem rup_any_one (n i : Nat) (a : Option Addr) (m cap : Nat) (x : W) (p : List W) (w : World) (h : ¬ 2 ≤ n) (hp : p.length = Mt.depth n i) (hm : m = p.length) :
    Calls Try.prog 54 #[.int .i64 (n : Int), .int .i64 (i : Int), .int .u64 (uv x), .slice a m cap] w (UpPost n i x p w) := by
  have h0 := Mt.depth_one h i
  obtain rfl : m = 0 := by omega
  clear h0
  have HU := Lib.hid (up_one h i x p hp)
  go_enter Try.func54, Try.ntmps54
  go_wp2_with fail
  go_ret
  exact ⟨by rw [HU.out]; rfl, 0, rfl⟩
set_option maxHeartbeats 1000000 in
theorem rup_some (k : Nat) : ∀ (n i : Nat) (x : W) (p : List W) (b off cap : Nat) (w : World), n ≤ k → i < n → n ≤ 1048576 → p.length = Mt.depth n i → p.length ≤ cap →
    (∀ j, j < p.length → w.cell? ⟨b, off + j, none⟩ = some (.int .u64 (uv (p.getD j 0)))) →
    Calls Try.prog 54 #[.int .i64 (n : Int), .int .i64 (i : Int), .int .u64 (uv x), .slice (some ⟨b, off, none⟩) p.length cap] w (UpPost n i x p w) := by
  induction k with
  | zero => intro n i x p b off cap w h1 h2; omega
  | succ k ih =>
    intro n i x p b off cap w h1 h2 h3 h4 h5 hc
    by_cases h : 2 ≤ n
    · have hd := Mt.depth_pos (i := i) h
      have hl := depth_lt h2 h3
      have hp := Mt.part_lt h
      have hp1 := Mt.part_pos n
      obtain ⟨q, hq⟩ : ∃ q, p.length = q + 1 := ⟨p.length - 1, by omega⟩
      have hlast := hc q (by omega)
      have hqc : q < cap := by omega
      have e1 : (((q + 1 : Nat) : Int) == 0) = false := by rw [beq_eq_false_iff_ne]; omega
      have e2 : ((q : Int) + 1 == 0) = false := by rw [beq_eq_false_iff_ne]; omega
      have hqn : q ≤ 20 := by omega
      have r1 := fun w => words_to b off (q + 1) cap q w (by omega) (q : Int) rfl
      have hu := up_last hq n i x
      have lt : (p.take q).length = q := by simp; omega
      have c0 := fun n' m i' h1 h2 h3 h4 => ih m i' x (p.take q) b off cap (w.drewN n') h1 h2 h3 h4 (by omega) (take_cells q hc)
      rw [lt] at c0
      generalize p.getD q 0 = t at hlast hu
      generalize hpp : Mt.part n = m at hp hp1 hu
      have HP := Lib.hid hpp
      rw [hq]
      by_cases hk : i < m
      · have hdl := Mt.depth_l h (by rw [hpp]; exact hk)
        rw [hpp] at hdl
        rw [if_pos hk] at hu
        have C1 := Lib.hid fun n' => Calls.quiet_of (c0 n' m i (by omega) hk (by omega) (by omega))
        have HU := Lib.hid hu
        clear c0 ih hc hpp hdl hd hl hq lt hu h4 h5
        go_enter Try.func54, Try.ntmps54
        go_wp2_with fail
        refine (part_to n m HP.out _ h (by omega)).mono ?_; rintro e w' ⟨rfl, rfl⟩
        go_wp2_with fail
        go_quiet (first
          | (go_at_call 54; with_reducible exact C1.out _)
          | (go_at_call 18; exact Calls.quiet_of_same ((rpair_any _ _ _).mono fun _ _ h => ⟨h.1, h.2.symm⟩)))
        go_wp2_with fail
        go_ret
        exact ⟨by rw [HU.out]; rfl, nq, rfl⟩
      · have hdl := Mt.depth_r h (by rw [hpp]; exact hk)
        rw [hpp] at hdl
        rw [if_neg hk] at hu
        have c1 := fun n' => c0 n' (n - m) (i - m) (by omega) (by omega) (by omega) (by omega)
        rw [Int.ofNat_sub (by omega), Int.ofNat_sub (by omega)] at c1
        have C1 := Lib.hid fun n' => Calls.quiet_of (c1 n')
        have HU := Lib.hid hu
        clear c0 c1 ih hc hpp hdl hd hl hq lt hu h4 h5
        go_enter Try.func54, Try.ntmps54
        go_wp2_with fail
        refine (part_to n m HP.out _ h (by omega)).mono ?_; rintro e w' ⟨rfl, rfl⟩
        go_wp2_with fail
        go_quiet (first
          | (go_at_call 54; with_reducible exact C1.out _)
          | (go_at_call 18; exact Calls.quiet_of_same ((rpair_any _ _ _).mono fun _ _ h => ⟨h.1, h.2.symm⟩)))
        go_wp2_with fail
        go_ret
        exact ⟨by rw [HU.out]; rfl, nq, rfl⟩
    · exact rup_any_one n i _ _ cap x p w h h4 rfl
theorem rup_any (n i : Nat) (x : W) (p : List W) (N : Nat) (v : Value) (w : World) (h2 : i < n) (h3 : n ≤ 1048576) (h4 : p.length = Mt.depth n i) (h : HasW w N v p) :
    Calls Try.prog 54 #[.int .i64 (n : Int), .int .i64 (i : Int), .int .u64 (uv x), v] w (UpPost n i x p w) := by
  rcases h with ⟨a, cap, rfl, rfl⟩ | ⟨b, off, cap, rfl, g2, g3, g4⟩
  · refine rup_any_one n i a 0 cap x [] w (fun h => ?_) h4 rfl
    have := Mt.depth_pos (i := i) h
    simp at h4; omega
  · exact rup_some n n i x p b off cap w (Nat.le_refl _) h2 h3 h4 g2 g4
end Go.Proofs.Ythkkjocmglcjnaa
