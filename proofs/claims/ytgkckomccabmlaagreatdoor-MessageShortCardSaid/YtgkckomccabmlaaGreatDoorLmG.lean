/-
  Where a message has its numbers. Each says its own conditions; nothing that was there has changed.
-/
import Derived.Test.YtgkckomccabmlaaGreatDoorLmA
import Derived.Test.YtgkckomccabmlaaGreatDoorLmB
import Derived.BigQuiet
import Derived.Deep.CutBlock
namespace Go.Proofs.YtgkckomccabmlaaGreatDoor
open Go.ChangeShapes Go.WideShapes Go.ChangeAt Go.RowKit
def sixV (M : Nat) : Value := .agg #[.pointer (some ⟨M, 0, none⟩), .pointer (some ⟨M, 1, none⟩), .pointer (some ⟨M, 2, none⟩), .pointer (some ⟨M, 3, none⟩), .pointer (some ⟨M, 4, none⟩), .pointer (some ⟨M, 6, none⟩)]
theorem load_six (w : World) (M : Nat) (W : World) (hW : W = (w.alloc (.cells #[.pointer (some ⟨M, 0, none⟩), .pointer (some ⟨M, 1, none⟩), .pointer (some ⟨M, 2, none⟩), .pointer (some ⟨M, 3, none⟩), .pointer (some ⟨M, 4, none⟩), .pointer (some ⟨M, 6, none⟩)] 81)).drew) :
    (loadVar 81 ⟨w.heap.size, 0, none⟩).run Tryz.prog W = .ok (sixV M) W := by
  subst hW
  have R := (RecN.new w #[.pointer (some ⟨M, 0, none⟩), .pointer (some ⟨M, 1, none⟩), .pointer (some ⟨M, 2, none⟩), .pointer (some ⟨M, 3, none⟩), .pointer (some ⟨M, 4, none⟩), .pointer (some ⟨M, 6, none⟩)] 81).drew
  have h0 := R.c 0 rfl; have h1 := R.c 1 rfl; have h2 := R.c 2 rfl; have h3 := R.c 3 rfl; have h4 := R.c 4 rfl; have h5 := R.c 5 rfl
  simp [loadVar, go_sem, h0, h1, h2, h3, h4, h5, sixV]
theorem below_two (w : World) (o o' : Obj) : Below w.heap.size (w.alloc o).drew (w.alloc o').drew := by
  have h := (Below.refl w.heap.size w).alloc (Nat.le_refl _) o
  have h' := (Below.refl w.heap.size w).alloc (Nat.le_refl _) o'
  exact ⟨rfl, rfl, rfl, by simp [World.drew], fun k hk => (h'.block k hk).trans (h.block k hk).symm⟩
set_option maxRecDepth 100000 in
set_option maxHeartbeats 1000000 in
theorem numbers_any (M : Nat) (w : World) : Calls Tryz.prog 40 #[.pointer (some ⟨M, 0, none⟩)] w fun e w' => e = .returned (sixV M) ∧ Below w.heap.size w w' := by
  unfold sixV
  have B0 := Lib.hid (fun c => (Below.refl w.heap.size w).alloc (Nat.le_refl _) (.cells c 81))
  go_enter Tryz.func40, Tryz.ntmps40
  go_wp2_with fail
  refine wp_region_seqR (R := Below w.heap.size) ⟨fun _ => Below.refl _ _, fun h k => h.trans k⟩ [(0, true), (1, true), (2, true), (3, true), (4, true), (5, true), (6, true), (7, true), (8, true), (9, true), (10, true), (11, true), (12, true), (13, true), (14, true), (15, true), (16, true), (17, true), (18, true), (19, false)] (by kernel_rfl) (by kernel_rfl) (by kernel_rfl) (by kernel_rfl) ?_
  iterate 19 (refine wpSeqR_pure (v := ?_) rfl (by rfl) (fun w' hw' => ?_) ?_; rotate_left; (focus (go_simp; try with_reducible rfl)); try simp only [Act.put, List.setIfInBounds_toArray, List.set_cons_zero, List.set_cons_succ])
  refine wpSeqR_call rfl (fun K' hK => ?_)
  go_simp
  refine hK.out _ _ (below_two w _ _) ?_
  clear hK K'
  refine wpSeqR_nil ?_
  go_wp2_with fail
  exact bodyPost_ret (results_cell rfl _ _ _ rfl (load_six w M _ rfl)) rfl ⟨rfl, (B0.out _).drew⟩
end Go.Proofs.YtgkckomccabmlaaGreatDoor
namespace Go.Proofs.YtgkckomccabmlaaGreatDoor
open Go.ChangeShapes Go.WideShapes Go.ChangeAt Go.RowKit
def sixL (M : Nat) : List Value := [.pointer (some ⟨M, 0, none⟩), .pointer (some ⟨M, 1, none⟩), .pointer (some ⟨M, 2, none⟩), .pointer (some ⟨M, 3, none⟩), .pointer (some ⟨M, 4, none⟩), .pointer (some ⟨M, 6, none⟩)]
theorem six_at (M : Nat) (k : Nat) (hk : k < 6) (v : Value) (hv : (sixL M)[k]? = some v) (w : World) :
    (Instr.index 81 (.agg #[.pointer (some ⟨M, 0, none⟩), .pointer (some ⟨M, 1, none⟩), .pointer (some ⟨M, 2, none⟩), .pointer (some ⟨M, 3, none⟩), .pointer (some ⟨M, 4, none⟩), .pointer (some ⟨M, 6, none⟩)]) (.int .i64 (k : Int))).run Tryz.prog w = .ok v w :=
  run_index_row 81 80 6 Tryz.underlying81 _ Tryz.underlying80 rfl (by kernel_rfl) (sixL M) k hk v hv w
theorem six_all (M : Nat) (w : World) :
    (Instr.index 81 (.agg #[.pointer (some ⟨M, 0, none⟩), .pointer (some ⟨M, 1, none⟩), .pointer (some ⟨M, 2, none⟩), .pointer (some ⟨M, 3, none⟩), .pointer (some ⟨M, 4, none⟩), .pointer (some ⟨M, 6, none⟩)]) (.int .i64 0)).run Tryz.prog w = .ok (.pointer (some ⟨M, 0, none⟩)) w ∧
    (Instr.index 81 (.agg #[.pointer (some ⟨M, 0, none⟩), .pointer (some ⟨M, 1, none⟩), .pointer (some ⟨M, 2, none⟩), .pointer (some ⟨M, 3, none⟩), .pointer (some ⟨M, 4, none⟩), .pointer (some ⟨M, 6, none⟩)]) (.int .i64 1)).run Tryz.prog w = .ok (.pointer (some ⟨M, 1, none⟩)) w ∧
    (Instr.index 81 (.agg #[.pointer (some ⟨M, 0, none⟩), .pointer (some ⟨M, 1, none⟩), .pointer (some ⟨M, 2, none⟩), .pointer (some ⟨M, 3, none⟩), .pointer (some ⟨M, 4, none⟩), .pointer (some ⟨M, 6, none⟩)]) (.int .i64 2)).run Tryz.prog w = .ok (.pointer (some ⟨M, 2, none⟩)) w ∧
    (Instr.index 81 (.agg #[.pointer (some ⟨M, 0, none⟩), .pointer (some ⟨M, 1, none⟩), .pointer (some ⟨M, 2, none⟩), .pointer (some ⟨M, 3, none⟩), .pointer (some ⟨M, 4, none⟩), .pointer (some ⟨M, 6, none⟩)]) (.int .i64 3)).run Tryz.prog w = .ok (.pointer (some ⟨M, 3, none⟩)) w ∧
    (Instr.index 81 (.agg #[.pointer (some ⟨M, 0, none⟩), .pointer (some ⟨M, 1, none⟩), .pointer (some ⟨M, 2, none⟩), .pointer (some ⟨M, 3, none⟩), .pointer (some ⟨M, 4, none⟩), .pointer (some ⟨M, 6, none⟩)]) (.int .i64 4)).run Tryz.prog w = .ok (.pointer (some ⟨M, 4, none⟩)) w ∧
    (Instr.index 81 (.agg #[.pointer (some ⟨M, 0, none⟩), .pointer (some ⟨M, 1, none⟩), .pointer (some ⟨M, 2, none⟩), .pointer (some ⟨M, 3, none⟩), .pointer (some ⟨M, 4, none⟩), .pointer (some ⟨M, 6, none⟩)]) (.int .i64 5)).run Tryz.prog w = .ok (.pointer (some ⟨M, 6, none⟩)) w :=
  ⟨six_at M 0 (by omega) _ rfl w, six_at M 1 (by omega) _ rfl w, six_at M 2 (by omega) _ rfl w, six_at M 3 (by omega) _ rfl w, six_at M 4 (by omega) _ rfl w, six_at M 5 (by omega) _ rfl w⟩
end Go.Proofs.YtgkckomccabmlaaGreatDoor
