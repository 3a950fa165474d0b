/-
  What List of package digest and of the chapter return for any slice of digests: the digest of the list; the memory stays as it was. Condition: the slices are shorter than 2^62.
-/
import Derived.Test.YthkkjocmglcjnaaHas
namespace Go.Proofs.Ythkkjocmglcjnaa
open Go.ChangeShapes Go.WideShapes Go.ChangeAt Go.RowKit
open Dg (W B)

theorem list_step (l : List W) (k : Nat) (x : Int) (h : x = uv (l.getD k 0)) : bits .xor .u64 (uv (Dg.listTo l k)) x = uv (Dg.listTo l k ^^^ l.getD k 0) := by
  subst h; exact uv_xor _ _
theorem list_start (n : Nat) (h : n < 9223372036854775808) : (n : Int) + 4294967296 = uv (BitVec.ofNat 64 n + 0x100000000#64) := by
  have := uv_add (BitVec.ofNat 64 n) 0x100000000#64 4294967296 (by decide)
  rw [← this, uv_ofNat _ (by omega), show (n : Int) + 4294967296 = ((n + 4294967296 : Nat) : Int) by omega, u64_in _ (by omega)]
def ListRel (l : List W) (v i : Value) : Prop := ∃ k : Nat, k ≤ l.length ∧ i = .int .i64 k ∧ v = .int .u64 (uv (Dg.listTo l k))
set_option maxHeartbeats 400000 in
theorem list_some (l : List W) (b off cap : Nat) (w : World) (hl : l.length ≤ 4611686018427387904)
    (hc : ∀ i, i < l.length → w.cell? ⟨b, off + i, none⟩ = some (.int .u64 (uv (l.getD i 0)))) :
    Calls Try.prog 30 #[.slice (some ⟨b, off, none⟩) l.length cap] w fun e w' => e = .returned (.int .u64 (uv (Dg.listW l))) ∧ w = w' := by
  have HC := Lib.hid hc; clear hc
  go_enter Try.func30, Try.ntmps30
  go_wp2_with fail
  refine (mix_to (BitVec.ofNat 64 l.length + 0x100000000#64) _ (list_start _ (by omega)) _).mono ?_; rintro e w' ⟨rfl, rfl⟩
  go_wp2
  go_loop [3, 13] (ListRel l) (fun _ i => l.length - (intOf i).toNat)
  case atStart => exact ⟨0, by omega, rfl, by rw [Dg.listTo_zero]⟩
  case round =>
    obtain ⟨k, hk, rfl, rfl⟩ := hrel
    by_cases hlt : k < l.length
    · have hck := HC.out k hlt
      go_wp2_with fail
      refine (mix_to (Dg.listTo l k ^^^ l.getD k 0) _ (list_step l k _ (by simp [hlt])) _).mono ?_; rintro e w' ⟨rfl, rfl⟩
      go_wp2
      go_round
      case rel => exact ⟨k + 1, by omega, by go_num, by rw [Dg.listTo_succ]; simp [hlt]⟩
      case measure => simp [intOf]; omega
    · obtain rfl : k = l.length := by omega
      go_wp2
      go_ret
      exact ⟨rfl, rfl⟩
theorem list_none (a : Option Addr) (cap : Nat) (w : World) :
    Calls Try.prog 30 #[.slice a 0 cap] w fun e w' => e = .returned (.int .u64 (uv (Dg.listW []))) ∧ w = w' := by
  go_enter Try.func30, Try.ntmps30
  go_wp2_with fail
  refine (mix_to 0x100000000#64 _ (by decide) _).mono ?_; rintro e w' ⟨rfl, rfl⟩
  go_wp2
  refine wp_loop_rounds 1 ?_
  rw [rounds_succ]
  go_wp2
  go_ret
  exact ⟨by show _ = Ending.returned (.int .u64 (uv (Dg.listTo [] 0))); rw [Dg.listTo_zero]; rfl, rfl⟩
theorem list_any (l : List W) (N : Nat) (v : Value) (w : World) (hl : l.length ≤ 4611686018427387904) (h : HasW w N v l) :
    Calls Try.prog 30 #[v] w fun e w' => e = .returned (.int .u64 (uv (Dg.listW l))) ∧ w = w' := by
  rcases h with ⟨a, cap, rfl, rfl⟩ | ⟨b, off, cap, rfl, h2, h3, h4⟩
  · exact list_none a cap w
  · exact list_some l b off cap w hl h4
/-! ### the chapter's -/
set_option maxHeartbeats 400000 in
theorem rlist_some (l : List W) (b off cap : Nat) (w : World) (hl : l.length ≤ 4611686018427387904)
    (hc : ∀ i, i < l.length → w.cell? ⟨b, off + i, none⟩ = some (.int .u64 (uv (l.getD i 0)))) :
    Calls Try.prog 40 #[.slice (some ⟨b, off, none⟩) l.length cap] w fun e w' => e = .returned (.int .u64 (uv (Dg.listW l))) ∧ w = w' := by
  have HC := Lib.hid hc; clear hc
  go_enter Try.func40, Try.ntmps40
  go_wp2_with fail
  refine (rmix_to (BitVec.ofNat 64 l.length + 0x100000000#64) _ (list_start _ (by omega)) _).mono ?_; rintro e w' ⟨rfl, rfl⟩
  go_wp2
  go_loop [3, 13] (ListRel l) (fun _ i => l.length - (intOf i).toNat)
  case atStart => exact ⟨0, by omega, rfl, by rw [Dg.listTo_zero]⟩
  case round =>
    obtain ⟨k, hk, rfl, rfl⟩ := hrel
    by_cases hlt : k < l.length
    · have hck := HC.out k hlt
      go_wp2_with fail
      refine (rmix_to (Dg.listTo l k ^^^ l.getD k 0) _ (list_step l k _ (by simp [hlt])) _).mono ?_; rintro e w' ⟨rfl, rfl⟩
      go_wp2
      go_round
      case rel => exact ⟨k + 1, by omega, by go_num, by rw [Dg.listTo_succ]; simp [hlt]⟩
      case measure => simp [intOf]; omega
    · obtain rfl : k = l.length := by omega
      go_wp2
      go_ret
      exact ⟨rfl, rfl⟩
theorem rlist_none (a : Option Addr) (cap : Nat) (w : World) :
    Calls Try.prog 40 #[.slice a 0 cap] w fun e w' => e = .returned (.int .u64 (uv (Dg.listW []))) ∧ w = w' := by
  go_enter Try.func40, Try.ntmps40
  go_wp2_with fail
  refine (rmix_to 0x100000000#64 _ (by decide) _).mono ?_; rintro e w' ⟨rfl, rfl⟩
  go_wp2
  refine wp_loop_rounds 1 ?_
  rw [rounds_succ]
  go_wp2
  go_ret
  exact ⟨by show _ = Ending.returned (.int .u64 (uv (Dg.listTo [] 0))); rw [Dg.listTo_zero]; rfl, rfl⟩
theorem rlist_any (l : List W) (N : Nat) (v : Value) (w : World) (hl : l.length ≤ 4611686018427387904) (h : HasW w N v l) :
    Calls Try.prog 40 #[v] w fun e w' => e = .returned (.int .u64 (uv (Dg.listW l))) ∧ w = w' := by
  rcases h with ⟨a, cap, rfl, rfl⟩ | ⟨b, off, cap, rfl, h2, h3, h4⟩
  · exact rlist_none a cap w
  · exact rlist_some l b off cap w hl h4
end Go.Proofs.Ythkkjocmglcjnaa
