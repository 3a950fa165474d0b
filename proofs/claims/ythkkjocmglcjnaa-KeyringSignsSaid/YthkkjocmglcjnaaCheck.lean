/-
  What Check of package merkle and of the chapter return for any numbers and any path: whether the path is as long as the depth and the leaf leads to the root with it; only draws have passed. No condition.
-/
import Derived.Test.YthkkjocmglcjnaaRefUp
namespace Go.Proofs.Ythkkjocmglcjnaa
open Go.ChangeShapes Go.WideShapes Go.ChangeAt Go.RowKit
open Dg (W B)

/-- what Check says -/
def checkB (r : W) (n i : Int) (x : W) (p : List W) : Bool := decide ((p.length : Int) = depthI n i ∧ Mt.up n.toNat i.toNat x p = r)
theorem depthI_pos {n i : Int} {k : Nat} (h : (k : Int) = depthI n i) : 0 ≤ i ∧ i < n ∧ n ≤ 1048576 ∧ k = Mt.depth n.toNat i.toNat := by
  unfold depthI at h
  split at h
  · rename_i g; exact ⟨g.1, g.2.1, g.2.2, by omega⟩
  · omega
def CheckPost (r : W) (n i : Int) (x : W) (p : List W) (w : World) (e : Ending) (w' : World) : Prop := e = .returned (.bool (checkB r n i x p)) ∧ ∃ k, w' = w.drewN k
theorem check_any (r : W) (n i : Int) (x : W) (p : List W) (N : Nat) (v : Value) (w : World) (h : HasW w N v p) :
    Calls Try.prog 33 #[.int .u64 (uv r), .int .i64 n, .int .i64 i, .int .u64 (uv x), v] w (CheckPost r n i x p w) := by
  obtain ⟨a, cap, rfl⟩ := h.form
  by_cases hd : (p.length : Int) = depthI n i
  · obtain ⟨g1, g2, g3, g4⟩ := depthI_pos hd
    obtain ⟨m, rfl⟩ : ∃ m : Nat, n = m := ⟨n.toNat, by omega⟩
    obtain ⟨j, rfl⟩ : ∃ j : Nat, i = j := ⟨i.toNat, by omega⟩
    rw [Int.toNat_natCast, Int.toNat_natCast] at g4
    have U := Lib.hid (up_any m j x p N _ w (by omega) (by omega) g4 h)
    have hb : (uv (Mt.up m j x p) == uv r) = checkB r m j x p := by
      rw [word_eq, checkB]
      simp only [hd, true_and, Int.toNat_natCast]
    have q : ((p.length : Int) == depthI m j) = true := by rw [beq_iff_eq]; exact hd
    have q2 : (depthI m j == (p.length : Int)) = true := by rw [beq_iff_eq]; exact hd.symm
    have HB := Lib.hid hb; clear hb
    have HD := Lib.hid hd
    have D := Lib.hid fun w => depth_any (m : Int) (j : Int) w
    clear h hd g1 g2 g3 g4
    generalize depthI m j = d at q q2 HD D
    go_enter Try.func33, Try.ntmps33
    go_wp2_with fail
    refine (D.out _).mono ?_; rintro e w' ⟨rfl, rfl⟩
    go_wp2_with fail
    refine (U.out).mono ?_; rintro e w' ⟨rfl, nr, rfl⟩
    go_wp2_with fail
    go_ret
    exact ⟨congrArg (fun b => Ending.returned (Value.bool b)) HB.out, nr, rfl⟩
  · have q : ((p.length : Int) == depthI n i) = false := by rw [beq_eq_false_iff_ne]; exact hd
    have q2 : (depthI n i == (p.length : Int)) = false := by rw [beq_eq_false_iff_ne]; exact fun e => hd e.symm
    have hb : checkB r n i x p = false := by rw [checkB]; simp [hd]
    have HB := Lib.hid hb; clear hb
    have D := Lib.hid fun w => depth_any n i w
    clear h hd
    generalize depthI n i = d at q q2 D
    go_enter Try.func33, Try.ntmps33
    go_wp2_with fail
    refine (D.out _).mono ?_; rintro e w' ⟨rfl, rfl⟩
    go_wp2_with fail
    go_ret
    exact ⟨by rw [HB.out]; rfl, 0, rfl⟩
theorem rcheck_any (r : W) (n i : Int) (x : W) (p : List W) (N : Nat) (v : Value) (w : World) (h : HasW w N v p) :
    Calls Try.prog 36 #[.int .u64 (uv r), .int .i64 n, .int .i64 i, .int .u64 (uv x), v] w (CheckPost r n i x p w) := by
  obtain ⟨a, cap, rfl⟩ := h.form
  by_cases hd : (p.length : Int) = depthI n i
  · obtain ⟨g1, g2, g3, g4⟩ := depthI_pos hd
    obtain ⟨m, rfl⟩ : ∃ m : Nat, n = m := ⟨n.toNat, by omega⟩
    obtain ⟨j, rfl⟩ : ∃ j : Nat, i = j := ⟨i.toNat, by omega⟩
    rw [Int.toNat_natCast, Int.toNat_natCast] at g4
    have U := Lib.hid (rup_any m j x p N _ w (by omega) (by omega) g4 h)
    have hb : (uv (Mt.up m j x p) == uv r) = checkB r m j x p := by
      rw [word_eq, checkB]
      simp only [hd, true_and, Int.toNat_natCast]
    have q : ((p.length : Int) == depthI m j) = true := by rw [beq_iff_eq]; exact hd
    have q2 : (depthI m j == (p.length : Int)) = true := by rw [beq_iff_eq]; exact hd.symm
    have HB := Lib.hid hb; clear hb
    have HD := Lib.hid hd
    have D := Lib.hid fun w => rdepth_any (m : Int) (j : Int) w
    clear h hd g1 g2 g3 g4
    generalize depthI m j = d at q q2 HD D
    go_enter Try.func36, Try.ntmps36
    go_wp2_with fail
    refine (D.out _).mono ?_; rintro e w' ⟨rfl, rfl⟩
    go_wp2_with fail
    refine (U.out).mono ?_; rintro e w' ⟨rfl, nr, rfl⟩
    go_wp2_with fail
    go_ret
    exact ⟨congrArg (fun b => Ending.returned (Value.bool b)) HB.out, nr, rfl⟩
  · have q : ((p.length : Int) == depthI n i) = false := by rw [beq_eq_false_iff_ne]; exact hd
    have q2 : (depthI n i == (p.length : Int)) = false := by rw [beq_eq_false_iff_ne]; exact fun e => hd e.symm
    have hb : checkB r n i x p = false := by rw [checkB]; simp [hd]
    have HB := Lib.hid hb; clear hb
    have D := Lib.hid fun w => rdepth_any n i w
    clear h hd
    generalize depthI n i = d at q q2 D
    go_enter Try.func36, Try.ntmps36
    go_wp2_with fail
    refine (D.out _).mono ?_; rintro e w' ⟨rfl, rfl⟩
    go_wp2_with fail
    go_ret
    exact ⟨by rw [HB.out]; rfl, 0, rfl⟩
end Go.Proofs.Ythkkjocmglcjnaa
