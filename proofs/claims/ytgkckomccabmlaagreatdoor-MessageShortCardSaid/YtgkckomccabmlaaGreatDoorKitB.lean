/-
  What dice give: configurations and coins. At most the block of the dice has turned. No condition.
-/
import Derived.Test.YtgkckomccabmlaaGreatDoorLmB
namespace Go.Proofs.YtgkckomccabmlaaGreatDoor
open Go.ChangeShapes Go.WideShapes Go.ChangeAt Go.RowKit
open Dg (W B)
def cfg (N F : Int) : Value := .agg #[.int .i64 N, .int .i64 F]
theorem load_cfg (w : World) (N : Nat) (a b : Int) (h0 : w.cell? ⟨N, 0, none⟩ = some (.int .i64 a)) (h1 : w.cell? ⟨N, 1, none⟩ = some (.int .i64 b)) : (loadVar 51 ⟨N, 0, none⟩).run Tryz.prog w = .ok (cfg a b) w := by
  simp [loadVar, go_sem, h0, h1, cfg]
/-- the cells of the eight configurations -/
def cfgCells : Array Value := #[.int .i64 4, .int .i64 1, .int .i64 4, .int .i64 1, .int .i64 1, .int .i64 0, .int .i64 2, .int .i64 0, .int .i64 3, .int .i64 0, .int .i64 5, .int .i64 1, .int .i64 4, .int .i64 0, .int .i64 7, .int .i64 2]
theorem kconfig_any (g : Nat) (l : List Int) (t : Nat) (w : World) (hd : IsDice w g l t) :
    Calls Tryz.prog 25 #[.pointer (some ⟨g, 0, none⟩)] w fun e w' => ∃ N F : Nat, e = .returned (cfg N F) ∧ 1 ≤ N ∧ N ≤ 7 ∧ 3 * F + 1 ≤ N ∧ Dy g l t (t + 1) w w' := by
  have D0 := Lib.hid (((Dy.new hd).alloc (.cells #[.int .i64 0, .int .i64 0] 51)).alloc (.cells cfgCells 51))
  have C := Lib.hid (next_dy 8 g l t _ (by omega) (by omega) D0.out.dice)
  clear hd
  go_enter Tryz.func25, Tryz.ntmps25
  go_wp2_with fail
  refine (C.out).mono ?_; rintro e w1 ⟨r, rfl, hr, -, d1⟩
  have D1 := Lib.hid (D0.out.trans d1)
  have hg : g ≠ w.heap.size := by have := D0.out.lt; omega
  have y0 : w1.cell? ⟨w.heap.size, 0, none⟩ = some (.int .i64 0) := d1.cell (by exact hg.symm) (by go_simp)
  have y1 : w1.cell? ⟨w.heap.size, 1, none⟩ = some (.int .i64 0) := d1.cell (by exact hg.symm) (by go_simp)
  have z0 : w1.frozen? ⟨w.heap.size, 0, none⟩ = false := (d1.but.frozen (p := ⟨w.heap.size, 0, none⟩) (by simp; omega) (by exact hg.symm)).trans (by go_simp)
  have z1 : w1.frozen? ⟨w.heap.size, 1, none⟩ = false := (d1.but.frozen (p := ⟨w.heap.size, 1, none⟩) (by simp; omega) (by exact hg.symm)).trans (by go_simp)
  have hc : ∀ i, i < 16 → w1.cell? ⟨w.heap.size + 1, i, none⟩ = cfgCells[i]? := fun i hi => by
    have h9 : ((w.alloc (.cells #[.int .i64 0, .int .i64 0] 51)).alloc (.cells cfgCells 51)).cell? ⟨w.heap.size + 1, i, none⟩ = cfgCells[i]? := by
      rw [show w.heap.size + 1 = (w.alloc (.cells #[.int .i64 0, .int .i64 0] 51)).heap.size by simp, World.cell?_alloc_new]
    rw [← h9]
    exact d1.but.cell (p := ⟨w.heap.size + 1, i, none⟩) (by simp) (by show w.heap.size + 1 ≠ g; have := D0.out.lt; omega)
  clear d1
  rcases (show r = 0 ∨ r = 1 ∨ r = 2 ∨ r = 3 ∨ r = 4 ∨ r = 5 ∨ r = 6 ∨ r = 7 by omega) with rfl | rfl | rfl | rfl | rfl | rfl | rfl | rfl
  · have x0 : w1.cell? ⟨w.heap.size + 1, 0, none⟩ = some (.int .i64 4) := hc 0 (by omega)
    have x1 : w1.cell? ⟨w.heap.size + 1, 1, none⟩ = some (.int .i64 1) := hc 1 (by omega)
    clear hc
    go_wp2_with fail
    exact bodyPost_ret (results_cell rfl _ _ ⟨w.heap.size, 0, none⟩ rfl (load_cfg _ _ 4 1 (by go_simp) (by go_simp))) rfl ⟨4, 1, rfl, by omega, by omega, by omega, (D1.out.setCell (p := ⟨w.heap.size, 0, none⟩) (Nat.le_refl _) _).setCell (p := ⟨w.heap.size, 1, none⟩) (by simp) _⟩
  · have x0 : w1.cell? ⟨w.heap.size + 1, 2, none⟩ = some (.int .i64 4) := hc 2 (by omega)
    have x1 : w1.cell? ⟨w.heap.size + 1, 3, none⟩ = some (.int .i64 1) := hc 3 (by omega)
    clear hc
    go_wp2_with fail
    exact bodyPost_ret (results_cell rfl _ _ ⟨w.heap.size, 0, none⟩ rfl (load_cfg _ _ 4 1 (by go_simp) (by go_simp))) rfl ⟨4, 1, rfl, by omega, by omega, by omega, (D1.out.setCell (p := ⟨w.heap.size, 0, none⟩) (Nat.le_refl _) _).setCell (p := ⟨w.heap.size, 1, none⟩) (by simp) _⟩
  · have x0 : w1.cell? ⟨w.heap.size + 1, 4, none⟩ = some (.int .i64 1) := hc 4 (by omega)
    have x1 : w1.cell? ⟨w.heap.size + 1, 5, none⟩ = some (.int .i64 0) := hc 5 (by omega)
    clear hc
    go_wp2_with fail
    exact bodyPost_ret (results_cell rfl _ _ ⟨w.heap.size, 0, none⟩ rfl (load_cfg _ _ 1 0 (by go_simp) (by go_simp))) rfl ⟨1, 0, rfl, by omega, by omega, by omega, (D1.out.setCell (p := ⟨w.heap.size, 0, none⟩) (Nat.le_refl _) _).setCell (p := ⟨w.heap.size, 1, none⟩) (by simp) _⟩
  · have x0 : w1.cell? ⟨w.heap.size + 1, 6, none⟩ = some (.int .i64 2) := hc 6 (by omega)
    have x1 : w1.cell? ⟨w.heap.size + 1, 7, none⟩ = some (.int .i64 0) := hc 7 (by omega)
    clear hc
    go_wp2_with fail
    exact bodyPost_ret (results_cell rfl _ _ ⟨w.heap.size, 0, none⟩ rfl (load_cfg _ _ 2 0 (by go_simp) (by go_simp))) rfl ⟨2, 0, rfl, by omega, by omega, by omega, (D1.out.setCell (p := ⟨w.heap.size, 0, none⟩) (Nat.le_refl _) _).setCell (p := ⟨w.heap.size, 1, none⟩) (by simp) _⟩
  · have x0 : w1.cell? ⟨w.heap.size + 1, 8, none⟩ = some (.int .i64 3) := hc 8 (by omega)
    have x1 : w1.cell? ⟨w.heap.size + 1, 9, none⟩ = some (.int .i64 0) := hc 9 (by omega)
    clear hc
    go_wp2_with fail
    exact bodyPost_ret (results_cell rfl _ _ ⟨w.heap.size, 0, none⟩ rfl (load_cfg _ _ 3 0 (by go_simp) (by go_simp))) rfl ⟨3, 0, rfl, by omega, by omega, by omega, (D1.out.setCell (p := ⟨w.heap.size, 0, none⟩) (Nat.le_refl _) _).setCell (p := ⟨w.heap.size, 1, none⟩) (by simp) _⟩
  · have x0 : w1.cell? ⟨w.heap.size + 1, 10, none⟩ = some (.int .i64 5) := hc 10 (by omega)
    have x1 : w1.cell? ⟨w.heap.size + 1, 11, none⟩ = some (.int .i64 1) := hc 11 (by omega)
    clear hc
    go_wp2_with fail
    exact bodyPost_ret (results_cell rfl _ _ ⟨w.heap.size, 0, none⟩ rfl (load_cfg _ _ 5 1 (by go_simp) (by go_simp))) rfl ⟨5, 1, rfl, by omega, by omega, by omega, (D1.out.setCell (p := ⟨w.heap.size, 0, none⟩) (Nat.le_refl _) _).setCell (p := ⟨w.heap.size, 1, none⟩) (by simp) _⟩
  · have x0 : w1.cell? ⟨w.heap.size + 1, 12, none⟩ = some (.int .i64 4) := hc 12 (by omega)
    have x1 : w1.cell? ⟨w.heap.size + 1, 13, none⟩ = some (.int .i64 0) := hc 13 (by omega)
    clear hc
    go_wp2_with fail
    exact bodyPost_ret (results_cell rfl _ _ ⟨w.heap.size, 0, none⟩ rfl (load_cfg _ _ 4 0 (by go_simp) (by go_simp))) rfl ⟨4, 0, rfl, by omega, by omega, by omega, (D1.out.setCell (p := ⟨w.heap.size, 0, none⟩) (Nat.le_refl _) _).setCell (p := ⟨w.heap.size, 1, none⟩) (by simp) _⟩
  · have x0 : w1.cell? ⟨w.heap.size + 1, 14, none⟩ = some (.int .i64 7) := hc 14 (by omega)
    have x1 : w1.cell? ⟨w.heap.size + 1, 15, none⟩ = some (.int .i64 2) := hc 15 (by omega)
    clear hc
    go_wp2_with fail
    exact bodyPost_ret (results_cell rfl _ _ ⟨w.heap.size, 0, none⟩ rfl (load_cfg _ _ 7 2 (by go_simp) (by go_simp))) rfl ⟨7, 2, rfl, by omega, by omega, by omega, (D1.out.setCell (p := ⟨w.heap.size, 0, none⟩) (Nat.le_refl _) _).setCell (p := ⟨w.heap.size, 1, none⟩) (by simp) _⟩
end Go.Proofs.YtgkckomccabmlaaGreatDoor
