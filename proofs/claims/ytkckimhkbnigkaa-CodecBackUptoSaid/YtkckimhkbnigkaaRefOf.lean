/-
  What Of of the chapter returns for any slice of bytes: the digest of its bytes; the memory stays as it was. Condition: the slice is shorter than 2^62.
-/
import Derived.Test.YtkckimhkbnigkaaOf
namespace Go.Proofs.Ytkckimhkbnigkaa
open Go.ChangeShapes Go.WideShapes Go.ChangeAt Go.RowKit
open Dg (W B)

def chunk (l : List B) (q : Nat) : List B := (l.drop (8 * q)).take 8
theorem chunk_len (l : List B) (q : Nat) : (chunk l q).length = min 8 (l.length - 8 * q) := by simp [chunk]
def ROfRel (l : List B) (h i : Value) : Prop := ∃ q : Nat, 8 * q < l.length + 8 ∧ i = .int .i64 (8 * q : Nat) ∧ h = .int .u64 (uv (Dg.ofTo l q))
def RWordRel (l : List B) (q : Nat) (x j : Value) : Prop := ∃ k : Nat, k ≤ (chunk l q).length ∧ j = .int .i64 (8 * q + k : Nat) ∧ x = .int .u64 (uv (Dg.wordTo (chunk l q) k))
set_option maxHeartbeats 1000000 in
theorem rof_some (l : List B) (b off cap : Nat) (w : World) (hl : l.length ≤ 4611686018427387904)
    (hc : ∀ i, i < l.length → w.cell? ⟨b, off + i, none⟩ = some (.int .u8 (bv (l.getD i 0)))) :
    Calls Try.prog 28 #[.slice (some ⟨b, off, none⟩) l.length cap] w fun e w' => e = .returned (.int .u64 (uv (Dg.ofB l))) ∧ w = w' := by
  have HC := Lib.hid hc; clear hc
  go_enter Try.func28, Try.ntmps28
  go_wp2_with fail
  refine (rmix_to (BitVec.ofNat 64 l.length) _ (by rw [uv_ofNat _ (by omega)]) _).mono ?_; rintro e w' ⟨rfl, rfl⟩
  go_wp2
  go_loop [3, 4] (ROfRel l) (fun _ i => l.length + 8 - (intOf i).toNat)
  case atStart => exact ⟨0, by omega, rfl, rfl⟩
  case round =>
    obtain ⟨q, hq, rfl, rfl⟩ := hrel
    by_cases h0 : 8 * q < l.length
    · go_wp2
      go_loop [5, 6] (RWordRel l q) (fun _ j => l.length - (intOf j).toNat)
      case atStart => exact ⟨0, by omega, rfl, rfl⟩
      case round =>
        obtain ⟨k, hk, rfl, rfl⟩ := hrel
        have hlen := chunk_len l q
        by_cases hlt : k < (chunk l q).length
        · have c1 : 8 * q + k < l.length := by omega
          have c2 : k < 8 := by omega
          have hck := HC.out _ c1
          have g := Lib.hid (chunk_get l q k hlt)
          have HL := Lib.hid hlen; clear hlen
          go_wp2
          go_round
          case rel => exact ⟨k + 1, by omega, by go_num, congrArg (Value.int .u64) (word_step (chunk l q) k _ (by rw [show (chunk l q).getD k 0 = l.getD (8 * q + k) 0 from g.out]; simp [c1]) _ rfl)⟩
          case measure => simp [intOf]; omega
        · have hk8 : k = (chunk l q).length := by omega
          have HK := Lib.hid hk8
          have HL := Lib.hid hlen
          by_cases c1 : 8 * q + k < l.length
          · have c2 : ¬ k < 8 := by omega
            clear hk8 hlen
            go_wp2_with fail
            refine (rmix_to (Dg.ofTo l q ^^^ Dg.word (chunk l q)) _ (by rw [HK.out]; exact uv_xor _ _) _).mono ?_; rintro e w' ⟨rfl, rfl⟩
            go_wp2
            go_round
            case rel => exact ⟨q + 1, by omega, by go_num, rfl⟩
            case measure => simp [intOf]; omega
          · clear hk8 hlen
            go_wp2_with fail
            refine (rmix_to (Dg.ofTo l q ^^^ Dg.word (chunk l q)) _ (by rw [HK.out]; exact uv_xor _ _) _).mono ?_; rintro e w' ⟨rfl, rfl⟩
            go_wp2
            go_round
            case rel => exact ⟨q + 1, by omega, by go_num, rfl⟩
            case measure => simp [intOf]; omega
    · have hj' : q = (l.length + 7) / 8 := by omega
      have HJ := Lib.hid hj'; clear hj'
      go_wp2
      go_ret
      exact ⟨congrArg (fun x => Ending.returned (Value.int .u64 (uv x))) (by rw [HJ.out]; rfl), rfl⟩
theorem rof_none (a : Option Addr) (cap : Nat) (w : World) :
    Calls Try.prog 28 #[.slice a 0 cap] w fun e w' => e = .returned (.int .u64 (uv (Dg.ofB []))) ∧ w = w' := by
  go_enter Try.func28, Try.ntmps28
  go_wp2_with fail
  refine (rmix_to 0 _ rfl _).mono ?_; rintro e w' ⟨rfl, rfl⟩
  go_wp2
  refine wp_loop_rounds 1 ?_
  rw [rounds_succ]
  go_wp2
  go_ret
  exact ⟨rfl, rfl⟩
theorem rof_any (l : List B) (N : Nat) (v : Value) (w : World) (hl : l.length ≤ 4611686018427387904) (h : HasB w N v l) :
    Calls Try.prog 28 #[v] w fun e w' => e = .returned (.int .u64 (uv (Dg.ofB l))) ∧ w = w' := by
  rcases h with ⟨a, cap, rfl, rfl⟩ | ⟨b, off, cap, rfl, h2, h3, h4⟩
  · exact rof_none a cap w
  · exact rof_some l b off cap w hl h4
end Go.Proofs.Ytkckimhkbnigkaa
