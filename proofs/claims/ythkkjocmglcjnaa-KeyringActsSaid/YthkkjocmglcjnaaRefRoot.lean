/-
  What Root of the chapter returns for any list of at most 2^32 digests: the root of the tree; only draws have passed. Condition: as said.
-/
import Derived.Test.YthkkjocmglcjnaaRoot
namespace Go.Proofs.Ythkkjocmglcjnaa
open Go.ChangeShapes Go.WideShapes Go.ChangeAt Go.RowKit
open Dg (W B)

set_option maxHeartbeats 1000000 in
theorem rroot_some (k : Nat) : ∀ (l : List W) (b off cap : Nat) (w : World), l.length ≤ k → 1 ≤ l.length → l.length ≤ 4294967296 → l.length ≤ cap →
    (∀ i, i < l.length → w.cell? ⟨b, off + i, none⟩ = some (.int .u64 (uv (l.getD i 0)))) →
    Calls Try.prog 29 #[.slice (some ⟨b, off, none⟩) l.length cap] w (RootPost l w) := by
  induction k with
  | zero => intro l b off cap w h1 h2; omega
  | succ k ih =>
    intro l b off cap w h1 h2 h3 h4 hc
    by_cases h5 : 2 ≤ l.length
    · have hp := Mt.part_lt h5
      have hp1 := Mt.part_pos l.length
      have IH := Lib.hid ih; clear ih
      have t1 := words_to b off l.length cap (Mt.part l.length)
      have t2 := words_from b off l.length cap (Mt.part l.length)
      have r1 := fun w => t1 w (by omega) _ rfl
      have r2 := fun w => t2 w (by omega) h4 _ rfl
      have e0 : ((l.length : Int) == 0) = false := by rw [beq_eq_false_iff_ne]; omega
      have e1 : ((l.length : Int) == 1) = false := by rw [beq_eq_false_iff_ne]; omega
      clear t1 t2
      have lt : (l.take (Mt.part l.length)).length = Mt.part l.length := by simp; omega
      have ld : (l.drop (Mt.part l.length)).length = l.length - Mt.part l.length := by simp
      have c1 := fun n => IH.out (l.take (Mt.part l.length)) b off cap (w.drewN n) (by omega) (by omega) (by omega) (by omega) (take_cells (Mt.part l.length) hc)
      have c2 := fun n => IH.out (l.drop (Mt.part l.length)) b (off + Mt.part l.length) (cap - Mt.part l.length) (w.drewN n) (by omega) (by omega) (by omega) (by omega) (drop_cells (Mt.part l.length) hc)
      rw [lt] at c1
      rw [ld] at c2
      have C1 := Lib.hid fun n => Calls.quiet_of (c1 n); clear c1
      have C2 := Lib.hid fun n => Calls.quiet_of (c2 n); clear c2
      have HR := Lib.hid (Mt.root_two h5)
      clear lt ld hc
      go_enter Try.func29, Try.ntmps29
      go_wp2_with fail
      refine (part_any l.length _ h5 (by omega)).mono ?_; rintro e w' ⟨rfl, rfl⟩
      go_wp2_with fail
      go_quiet (first
        | (go_at_call 29; with_reducible exact C1.out _)
        | (go_at_call 29; with_reducible exact C2.out _)
        | (go_at_call 18; exact Calls.quiet_of_same ((rpair_any _ _ _).mono fun _ _ h => ⟨h.1, h.2.symm⟩)))
      go_wp2_with fail
      go_ret
      exact ⟨by rw [HR.out]; rfl, nq, rfl⟩
    · have e0 : ((l.length : Int) == 0) = false := by rw [beq_eq_false_iff_ne]; omega
      have l1 : l.length = 1 := by omega
      have hc0 := hc 0 (by omega)
      have hr := root_one' l1
      rw [Nat.add_zero] at hc0
      generalize l.getD 0 0 = x at hc0 hr
      have HR := Lib.hid hr; clear hr
      rw [l1]
      clear ih hc
      go_enter Try.func29, Try.ntmps29
      go_wp2_with fail
      go_ret
      exact ⟨by rw [HR.out]; rfl, 0, rfl⟩
theorem rroot_none (a : Option Addr) (cap : Nat) (w : World) :
    Calls Try.prog 29 #[.slice a 0 cap] w (RootPost [] w) := by
  go_enter Try.func29, Try.ntmps29
  go_wp2_with fail
  go_ret
  exact ⟨by rw [Mt.root_nil]; rfl, 0, rfl⟩
theorem rroot_any (l : List W) (N : Nat) (v : Value) (w : World) (hl : l.length ≤ 4294967296) (h : HasW w N v l) :
    Calls Try.prog 29 #[v] w (RootPost l w) := by
  rcases h with ⟨a, cap, rfl, rfl⟩ | ⟨b, off, cap, rfl, h2, h3, h4⟩
  · exact rroot_none a cap w
  · by_cases h0 : l.length = 0
    · obtain rfl : l = [] := List.length_eq_zero_iff.1 h0
      exact rroot_none _ cap w
    · exact rroot_some l.length l b off cap w (Nat.le_refl _) (by omega) hl h2 h4
end Go.Proofs.Ythkkjocmglcjnaa
