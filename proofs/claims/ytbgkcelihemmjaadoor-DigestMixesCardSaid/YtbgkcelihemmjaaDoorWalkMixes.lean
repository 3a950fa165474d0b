/-
  The law of mixes (DigestMixes) returns true. Condition: the library's table math/bits.deBruijn64tab holds what it is laid with.
-/
import Derived.Test.YtbgkcelihemmjaaDoorAwake
namespace Go.Proofs.YtbgkcelihemmjaaDoor.digestMixes
open Go.ChangeShapes Go.WideShapes Go.ChangeAt Go.RowKit
open Dg (W B)

def Rel (i : Value) : Prop := ∃ k : Nat, k ≤ 3 ∧ i = .int .i64 k
theorem mix_test (a c : W) : (uv (Dg.mix a) == uv (Dg.mix c)) = decide (a = c) := by
  rw [uv_eq, Bool.eq_iff_iff, beq_iff_eq, Dg.mix_inj, decide_eq_true_iff]
theorem word_test (a c : W) : (uv a == uv c) = decide (a = c) := by
  rw [uv_eq, Bool.eq_iff_iff, beq_iff_eq, decide_eq_true_iff]
set_option maxRecDepth 100000 in
theorem walk (a0 : Int) (a1 : Int) (a2 : Int) (w0 : (Lit.int .u64 a0).wf = true) (w1 : (Lit.int .u64 a1).wf = true) (w2 : (Lit.int .u8 a2).wf = true) (w : World) (h : Tab w) :
    Calls Tryd.prog 4 #[.int .u64 a0, .int .u64 a1, .int .u8 a2] w fun e w' => e = .returned (.bool true) ∧ Below w.heap.size w w' := by
  obtain ⟨a, rfl⟩ := uv_of a0 (bounds_u64 w0).1 (by have := (bounds_u64 w0).2; omega)
  obtain ⟨b, rfl⟩ := uv_of a1 (bounds_u64 w1).1 (by have := (bounds_u64 w1).2; omega)
  obtain ⟨n, rfl⟩ := bv_of a2 w2
  clear w0 w1 w2
  have lo := bv_lo n
  have hi := bv_hi n
  obtain ⟨c2, h2⟩ : ∃ c2, bits .xor .u64 (uv a) (IntKind.u64.wrap (2 ^ (bv n % 64).toNat)) = uv c2 :=
    ⟨a ^^^ 1#64 <<< (bv n % 64).toNat, by rw [← uv_xor]; congr 1; have := bv_shl 1#8 (bv n % 64).toNat; rw [show bv 1#8 = 1 by decide, Int.one_mul] at this; exact this⟩
  obtain ⟨c3, h3⟩ : ∃ c3, IntKind.u64.wrap (uv a + bv n) = uv c3 := ⟨a + n.setWidth 64, uv_add a _ _ (by unfold bv uv; rw [BitVec.toNat_setWidth, Nat.mod_eq_of_lt]; have := n.isLt; omega)⟩
  have H := Lib.hid (tab_alloc h (.cells #[.int .u64 (uv b), .int .u64 (uv c2), .int .u64 (uv c3)] 23)); clear h
  go_enter Tryd.func4, Tryd.ntmps4
  go_wp2
  go_loop [21] (Rel) (fun i => 3 - (intOf i).toNat)
  case atStart => exact ⟨0, by omega, rfl⟩
  case round =>
    obtain ⟨k, hk, rfl⟩ := hrel
    clear h2 h3
    by_cases hlt : k < 3
    · have key : ∃ c, (w.alloc (.cells #[.int .u64 (uv b), .int .u64 (uv c2), .int .u64 (uv c3)] 23)).cell? ⟨w.heap.size, k, none⟩ = some (.int .u64 (uv c)) := by
        have : k = 0 ∨ k = 1 ∨ k = 2 := by omega
        rcases this with rfl | rfl | rfl
        · exact ⟨b, by simp⟩
        · exact ⟨c2, by simp⟩
        · exact ⟨c3, by simp⟩
      obtain ⟨c, hc⟩ := key
      have t1 := mix_test a c
      have t2 := word_test a c
      by_cases hac : a = c
      · rw [decide_eq_true hac] at t1 t2
        have HA := Lib.hid hac; clear hac
        go_wp2_with (go_at_call 8; refine (mix_any _ _).mono ?_; rintro e w' ⟨rfl, rfl⟩)
        go_round
        case rel => exact ⟨k + 1, by omega, by go_num⟩
        case measure => simp [intOf]; omega
      · rw [decide_eq_false hac] at t1 t2
        have HA := Lib.hid hac; clear hac
        go_wp2_with (go_at_call 8; refine (mix_any _ _).mono ?_; rintro e w' ⟨rfl, rfl⟩)
        go_round
        case rel => exact ⟨k + 1, by omega, by go_num⟩
        case measure => simp [intOf]; omega
    · go_wp2_with fail
      refine (awake_any _ H.out).mono ?_; rintro e w' ⟨rfl, hb⟩
      have HB := Lib.hid hb; clear hb
      go_wp2
      go_ret
      exact ⟨rfl, (((Below.refl _ _).alloc (Nat.le_refl _) _)).trans (HB.out.mono (by simp))⟩
end Go.Proofs.YtbgkcelihemmjaaDoor.digestMixes
