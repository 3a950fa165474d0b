/-
  Which messages the chapter of messages calls valid. Nothing that was there has changed. Condition: fewer than some millions of bytes and digests.
-/
import Derived.Test.YtgkckomccabmlaaGreatDoorRefVal1
import Derived.Test.YtgkckomccabmlaaGreatDoorRefVal2
import Derived.Test.YtgkckomccabmlaaGreatDoorRefVal3
namespace Go.Proofs.YtgkckomccabmlaaGreatDoor
open Go.ChangeShapes Go.WideShapes Go.ChangeAt Go.RowKit
open Dg (W B)
open Ms (Msg)
theorem valid_of (m : Msg) (P R S F : Prop) [Decidable P] [Decidable R] [Decidable S] [Decidable F] (e0 : Ms.badKind m = false) (e1 : Ms.badPlace m = true ↔ P) (e2 : Ms.badRange m = true ↔ R) (e3 : Ms.badSize m = true ↔ S) (e4 : Ms.badField m = true ↔ F) :
    (if P then 2 else if R then 2 else if S then 3 else if F then 1 else 0 : Int) = (Ms.valid m : Int) := by
  unfold Ms.valid
  rw [e0]
  by_cases p : P
  · rw [if_pos p, e1.2 p]; rfl
  · rw [if_neg p, show Ms.badPlace m = false from by cases h : Ms.badPlace m with | true => exact absurd (e1.1 h) p | false => rfl]
    by_cases r : R
    · rw [if_pos r, e2.2 r]; rfl
    · rw [if_neg r, show Ms.badRange m = false from by cases h : Ms.badRange m with | true => exact absurd (e2.1 h) r | false => rfl]
      by_cases t : S
      · rw [if_pos t, e3.2 t]; rfl
      · rw [if_neg t, show Ms.badSize m = false from by cases h : Ms.badSize m with | true => exact absurd (e3.1 h) t | false => rfl]
        by_cases f : F
        · rw [if_pos f, e4.2 f]; rfl
        · rw [if_neg f, show Ms.badField m = false from by cases h : Ms.badField m with | true => exact absurd (e4.1 h) f | false => rfl]; rfl
theorem vl_d_eq (kind epoch inst round bit : Int) (root : W) (len : Int) (data : List B) (path : List W) (hk : kind = 1 ∨ kind = 2 ∨ kind = 3 ∨ kind = 12) : vl_d epoch inst round bit root len data.length path.length = (Ms.valid ⟨kind, epoch, inst, round, bit, root, len, data, path⟩ : Int) := by
  have hu : uv root = 0 ↔ root = 0#64 := ⟨fun h => uv_inj.1 (by rw [h]; rfl), fun h => by rw [h]; rfl⟩
  rcases hk with rfl | rfl | rfl | rfl
  all_goals
    rw [← valid_of _ (epoch < 0 ∨ 1048576 < epoch ∨ inst < 0 ∨ 16 ≤ inst) (False) (4096 < data.length ∨ 10 < path.length) (¬ round = 0 ∨ ¬ bit = 0 ∨ ¬ uv root = 0 ∨ ¬ len = 0 ∨ 0 < path.length) (by simp [Ms.badKind]) (by simp [Ms.badPlace, or_assoc]) (by simp [Ms.badRange, Ms.fRound, Ms.fBit, Ms.fLen, Ms.low, Ms.high]) (by simp [Ms.badSize]) (by simp [Ms.badField, Ms.fRound, Ms.fBit, Ms.fRoot, Ms.fLen, Ms.fData, Ms.fPath, hu, or_assoc])]
    simp [vl_d]
theorem vl_p_eq (kind epoch inst round bit : Int) (root : W) (len : Int) (data : List B) (path : List W) (hk : kind = 4 ∨ kind = 5) : vl_p epoch inst round bit root len data.length path.length = (Ms.valid ⟨kind, epoch, inst, round, bit, root, len, data, path⟩ : Int) := by
  skip
  rcases hk with rfl | rfl
  all_goals
    rw [← valid_of _ (epoch < 0 ∨ 1048576 < epoch ∨ inst < 0 ∨ 16 ≤ inst) (len < 0 ∨ 4096 < len) (4096 < data.length ∨ 10 < path.length) (¬ round = 0 ∨ ¬ bit = 0) (by simp [Ms.badKind]) (by simp [Ms.badPlace, or_assoc]) (by simp [Ms.badRange, Ms.fRound, Ms.fBit, Ms.fLen, Ms.low, Ms.high]) (by simp [Ms.badSize]) (by simp [Ms.badField, Ms.fRound, Ms.fBit, Ms.fRoot, Ms.fLen, Ms.fData, Ms.fPath])]
    simp [vl_p]
theorem vl_l_eq (kind epoch inst round bit : Int) (root : W) (len : Int) (data : List B) (path : List W) (hk : kind = 6) : vl_l epoch inst round bit root len data.length path.length = (Ms.valid ⟨kind, epoch, inst, round, bit, root, len, data, path⟩ : Int) := by
  skip
  rcases hk with rfl
  all_goals
    rw [← valid_of _ (epoch < 0 ∨ 1048576 < epoch ∨ inst < 0 ∨ 16 ≤ inst) (len < 0 ∨ 4096 < len) (4096 < data.length ∨ 10 < path.length) (¬ round = 0 ∨ ¬ bit = 0 ∨ 0 < data.length ∨ 0 < path.length) (by simp [Ms.badKind]) (by simp [Ms.badPlace, or_assoc]) (by simp [Ms.badRange, Ms.fRound, Ms.fBit, Ms.fLen, Ms.low, Ms.high]) (by simp [Ms.badSize]) (by simp [Ms.badField, Ms.fRound, Ms.fBit, Ms.fRoot, Ms.fLen, Ms.fData, Ms.fPath, or_assoc])]
    simp [vl_l]
theorem vl_v_eq (kind epoch inst round bit : Int) (root : W) (len : Int) (data : List B) (path : List W) (hk : kind = 7 ∨ kind = 8) : vl_v epoch inst round bit root len data.length path.length = (Ms.valid ⟨kind, epoch, inst, round, bit, root, len, data, path⟩ : Int) := by
  have hu : uv root = 0 ↔ root = 0#64 := ⟨fun h => uv_inj.1 (by rw [h]; rfl), fun h => by rw [h]; rfl⟩
  rcases hk with rfl | rfl
  all_goals
    rw [← valid_of _ (epoch < 0 ∨ 1048576 < epoch ∨ inst < 0 ∨ 16 ≤ inst) (round < 0 ∨ 64 ≤ round ∨ bit < 0 ∨ 1 < bit) (4096 < data.length ∨ 10 < path.length) (¬ uv root = 0 ∨ ¬ len = 0 ∨ 0 < data.length ∨ 0 < path.length) (by simp [Ms.badKind]) (by simp [Ms.badPlace, or_assoc]) (by simp [Ms.badRange, Ms.fRound, Ms.fBit, Ms.fLen, Ms.low, Ms.high, or_assoc]) (by simp [Ms.badSize]) (by simp [Ms.badField, Ms.fRound, Ms.fBit, Ms.fRoot, Ms.fLen, Ms.fData, Ms.fPath, hu, or_assoc])]
    simp [vl_v]
theorem vl_c_eq (kind epoch inst round bit : Int) (root : W) (len : Int) (data : List B) (path : List W) (hk : kind = 9) : vl_c epoch inst round bit root len data.length path.length = (Ms.valid ⟨kind, epoch, inst, round, bit, root, len, data, path⟩ : Int) := by
  have hu : uv root = 0 ↔ root = 0#64 := ⟨fun h => uv_inj.1 (by rw [h]; rfl), fun h => by rw [h]; rfl⟩
  rcases hk with rfl
  all_goals
    rw [← valid_of _ (epoch < 0 ∨ 1048576 < epoch ∨ inst < 0 ∨ 16 ≤ inst) (round < 0 ∨ 64 ≤ round ∨ bit < 1 ∨ 3 < bit) (4096 < data.length ∨ 10 < path.length) (¬ uv root = 0 ∨ ¬ len = 0 ∨ 0 < data.length ∨ 0 < path.length) (by simp [Ms.badKind]) (by simp [Ms.badPlace, or_assoc]) (by simp [Ms.badRange, Ms.fRound, Ms.fBit, Ms.fLen, Ms.low, Ms.high, or_assoc]) (by simp [Ms.badSize]) (by simp [Ms.badField, Ms.fRound, Ms.fBit, Ms.fRoot, Ms.fLen, Ms.fData, Ms.fPath, hu, or_assoc])]
    simp [vl_c]
theorem vl_n_eq (kind epoch inst round bit : Int) (root : W) (len : Int) (data : List B) (path : List W) (hk : kind = 10) : vl_n epoch inst round bit root len data.length path.length = (Ms.valid ⟨kind, epoch, inst, round, bit, root, len, data, path⟩ : Int) := by
  have hu : uv root = 0 ↔ root = 0#64 := ⟨fun h => uv_inj.1 (by rw [h]; rfl), fun h => by rw [h]; rfl⟩
  rcases hk with rfl
  all_goals
    rw [← valid_of _ (epoch < 0 ∨ 1048576 < epoch ∨ inst < 0 ∨ 16 ≤ inst) (round < 0 ∨ 64 ≤ round) (4096 < data.length ∨ 10 < path.length) (¬ bit = 0 ∨ ¬ uv root = 0 ∨ ¬ len = 0 ∨ 0 < path.length) (by simp [Ms.badKind]) (by simp [Ms.badPlace, or_assoc]) (by simp [Ms.badRange, Ms.fRound, Ms.fBit, Ms.fLen, Ms.low, Ms.high]) (by simp [Ms.badSize]) (by simp [Ms.badField, Ms.fRound, Ms.fBit, Ms.fRoot, Ms.fLen, Ms.fData, Ms.fPath, hu, or_assoc])]
    simp [vl_n]
theorem vl_t_eq (kind epoch inst round bit : Int) (root : W) (len : Int) (data : List B) (path : List W) (hk : kind = 11) : vl_t epoch inst round bit root len data.length path.length = (Ms.valid ⟨kind, epoch, inst, round, bit, root, len, data, path⟩ : Int) := by
  have hu : uv root = 0 ↔ root = 0#64 := ⟨fun h => uv_inj.1 (by rw [h]; rfl), fun h => by rw [h]; rfl⟩
  rcases hk with rfl
  all_goals
    rw [← valid_of _ (epoch < 0 ∨ 1048576 < epoch ∨ inst < 0 ∨ 16 ≤ inst) (bit < 0 ∨ 1 < bit) (4096 < data.length ∨ 10 < path.length) (¬ round = 0 ∨ ¬ uv root = 0 ∨ ¬ len = 0 ∨ 0 < data.length ∨ 0 < path.length) (by simp [Ms.badKind]) (by simp [Ms.badPlace, or_assoc]) (by simp [Ms.badRange, Ms.fRound, Ms.fBit, Ms.fLen, Ms.low, Ms.high]) (by simp [Ms.badSize]) (by simp [Ms.badField, Ms.fRound, Ms.fBit, Ms.fRoot, Ms.fLen, Ms.fData, Ms.fPath, hu, or_assoc])]
    simp [vl_t]
theorem rvalid_any (m : Msg) (a : Option Addr) (nd c : Nat) (a' : Option Addr) (np c' : Nat) (w : World) (hd : nd = m.data.length) (hp : np = m.path.length) (hnd : nd ≤ 10000000) (hnp : np ≤ 10000000) :
    Calls Tryz.prog 14 #[msgV m (.slice a nd c) (.slice a' np c')] w fun e w' => e = .returned (.int .i64 (Ms.valid m : Int)) ∧ Below w.heap.size w w' := by
  obtain ⟨kind, epoch, inst, round, bit, root, len, data, path⟩ := m
  subst hd; subst hp
  by_cases hk : kind < 1 ∨ 12 < kind
  · have e : Ms.valid ⟨kind, epoch, inst, round, bit, root, len, data, path⟩ = 4 := by
      unfold Ms.valid
      rw [show Ms.badKind ⟨kind, epoch, inst, round, bit, root, len, data, path⟩ = true from by unfold Ms.badKind; rw [Bool.or_eq_true, decide_eq_true_iff, decide_eq_true_iff]; exact hk]
      rfl
    rw [e]
    exact rvalid_kind kind epoch inst round bit root len _ _ w hk
  by_cases h_d : kind = 1 ∨ kind = 2 ∨ kind = 3 ∨ kind = 12
  · rw [← vl_d_eq kind epoch inst round bit root len data path h_d]
    exact rvalid_d kind epoch inst round bit root len a _ c a' _ c' w h_d hnd hnp
  by_cases h_p : kind = 4 ∨ kind = 5
  · rw [← vl_p_eq kind epoch inst round bit root len data path h_p]
    exact rvalid_p kind epoch inst round bit root len a _ c a' _ c' w h_p hnd hnp
  by_cases h_l : kind = 6
  · rw [← vl_l_eq kind epoch inst round bit root len data path h_l]
    exact rvalid_l kind epoch inst round bit root len a _ c a' _ c' w h_l hnd hnp
  by_cases h_v : kind = 7 ∨ kind = 8
  · rw [← vl_v_eq kind epoch inst round bit root len data path h_v]
    exact rvalid_v kind epoch inst round bit root len a _ c a' _ c' w h_v hnd hnp
  by_cases h_c : kind = 9
  · rw [← vl_c_eq kind epoch inst round bit root len data path h_c]
    exact rvalid_c kind epoch inst round bit root len a _ c a' _ c' w h_c hnd hnp
  by_cases h_n : kind = 10
  · rw [← vl_n_eq kind epoch inst round bit root len data path h_n]
    exact rvalid_n kind epoch inst round bit root len a _ c a' _ c' w h_n hnd hnp
  by_cases h_t : kind = 11
  · rw [← vl_t_eq kind epoch inst round bit root len data path h_t]
    exact rvalid_t kind epoch inst round bit root len a _ c a' _ c' w h_t hnd hnp
  omega
end Go.Proofs.YtgkckomccabmlaaGreatDoor
