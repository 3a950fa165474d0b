/-
  What Of of package digest and of the chapter return for any slice of bytes: the digest of its bytes; the memory stays as it was. Condition: the slice is shorter than 2^62.
-/
import Derived.Test.YtkckimhkbnigkaaMix
import Derived.Deep.LoopGhost
import Derived.Outline
namespace Go.Proofs.Ytkckimhkbnigkaa
open Go.ChangeShapes Go.WideShapes Go.ChangeAt Go.RowKit
open Dg (W B)

/-- a byte as an integer -/
def bv (x : B) : Int := (x.toNat : Int)
theorem bv_lo (x : B) : 0 ≤ bv x := by unfold bv; omega
theorem bv_hi (x : B) : bv x < 256 := by unfold bv; have := x.isLt; omega
theorem bv_shl (x : B) (k : Nat) : IntKind.u64.wrap (bv x * 2 ^ k) = uv (x.setWidth 64 <<< k) := by
  unfold bv uv
  rw [BitVec.toNat_shiftLeft, BitVec.toNat_setWidth, Nat.mod_eq_of_lt (show x.toNat < 2 ^ 64 by have := x.isLt; omega), Nat.shiftLeft_eq, show ((2 : Int) ^ k) = ((2 ^ k : Nat) : Int) by simp, ← Int.natCast_mul, u64_wrap_n]
theorem bv_of (n : Int) (h : (Lit.int .u8 n).wf = true) : ∃ x : B, n = bv x := by
  have := bounds_u8 h
  exact ⟨BitVec.ofNat 8 n.toNat, by unfold bv; rw [BitVec.toNat_ofNat]; omega⟩
theorem bv_inj {x y : B} : bv x = bv y ↔ x = y := by
  unfold bv
  rw [Int.natCast_inj]
  exact ⟨BitVec.eq_of_toNat_eq, fun h => by rw [h]⟩

theorem bv_conv (x : B) : IntKind.u64.wrap (bv x) = bv x := by
  unfold bv; rw [u64_in]; have := x.isLt; omega
theorem word_step (l : List B) (k : Nat) (x : Int) (h : x = bv (l.getD k 0)) (m : Int) (hm : m = (2 : Int) ^ (8 * k)) :
    bits .or .u64 (uv (Dg.wordTo l k)) (IntKind.u64.wrap (IntKind.u64.wrap x * m)) = uv (Dg.wordTo l (k + 1)) := by
  subst h; subst hm
  rw [bv_conv, bv_shl, uv_or]; rfl

def WordRel (l : List B) (v i : Value) : Prop := ∃ k : Nat, k ≤ l.length ∧ i = .int .i64 k ∧ v = .int .u64 (uv (Dg.wordTo l k))
set_option maxHeartbeats 400000 in
theorem word_some (l : List B) (b off cap : Nat) (w : World) (hl : l.length ≤ 8)
    (hc : ∀ i, i < l.length → w.cell? ⟨b, off + i, none⟩ = some (.int .u8 (bv (l.getD i 0)))) :
    Calls Try.prog 53 #[.slice (some ⟨b, off, none⟩) l.length cap] w fun e w' => e = .returned (.int .u64 (uv (Dg.word l))) ∧ w = w' := by
  have HC := Lib.hid hc; clear hc
  go_enter Try.func53, Try.ntmps53
  go_wp2
  go_loop [3, 8] (WordRel l) (fun _ i => l.length - (intOf i).toNat)
  case atStart => exact ⟨0, by omega, rfl, rfl⟩
  case round =>
    obtain ⟨k, hk, rfl, rfl⟩ := hrel
    by_cases hlt : k < l.length
    · have hck := HC.out k hlt
      go_wp2
      go_round
      case rel => exact ⟨k + 1, by omega, by go_num, congrArg (Value.int .u64) (word_step l k _ (by simp [hlt]) _ rfl)⟩
      case measure => simp [intOf]; omega
    · obtain rfl : k = l.length := by omega
      go_wp2
      go_ret
      exact ⟨rfl, rfl⟩

/-- the value v is a slice whose bytes are l, in blocks below N -/
def HasB (w : World) (N : Nat) (v : Value) (l : List B) : Prop :=
  (∃ a cap, v = .slice a 0 cap ∧ l = []) ∨ ∃ b off cap, v = .slice (some ⟨b, off, none⟩) l.length cap ∧ l.length ≤ cap ∧ b < N ∧ ∀ i, i < l.length → w.cell? ⟨b, off + i, none⟩ = some (.int .u8 (bv (l.getD i 0)))

theorem word_to (l : List B) (b off m cap : Nat) (w : World) (hm : m = l.length) (hl : l.length ≤ 8)
    (hc : ∀ i, i < l.length → w.cell? ⟨b, off + i, none⟩ = some (.int .u8 (bv (l.getD i 0)))) :
    Calls Try.prog 53 #[.slice (some ⟨b, off, none⟩) m cap] w fun e w' => e = .returned (.int .u64 (uv (Dg.word l))) ∧ w = w' := by
  subst hm; exact word_some l b off cap w hl hc
/-- the bytes of the word number j -/
theorem chunk_get (l : List B) (j i : Nat) (h : i < ((l.drop (8 * j)).take 8).length) : ((l.drop (8 * j)).take 8).getD i 0 = l.getD (8 * j + i) 0 := by
  have h' : i < 8 ∧ 8 * j + i < l.length := by simp at h; omega
  simp [List.getD, h'.1, List.getElem?_drop]
def OfRel (l : List B) (b off : Nat) (v h : Value) : Prop :=
  ∃ (j : Nat) (a : Option Addr) (n cap : Nat), n = l.length - 8 * j ∧ 8 * j < l.length + 8 ∧ v = .slice a n cap ∧ n ≤ cap ∧ (0 < n → a = some ⟨b, off + 8 * j, none⟩) ∧ h = .int .u64 (uv (Dg.ofTo l j))
def lenOf (v : Value) : Nat := match v with | .slice _ n _ => n | _ => 0
set_option maxHeartbeats 1000000 in
theorem of_some (l : List B) (b off cap : Nat) (w : World) (hl : l.length ≤ 4611686018427387904) (hcap : l.length ≤ cap)
    (hc : ∀ i, i < l.length → w.cell? ⟨b, off + i, none⟩ = some (.int .u8 (bv (l.getD i 0)))) :
    Calls Try.prog 39 #[.slice (some ⟨b, off, none⟩) l.length cap] w fun e w' => e = .returned (.int .u64 (uv (Dg.ofB l))) ∧ w = w' := by
  have HC := Lib.hid hc; clear hc
  go_enter Try.func39, Try.ntmps39
  go_wp2_with fail
  refine (mix_to (BitVec.ofNat 64 l.length) _ (by rw [uv_ofNat _ (by omega)]) _).mono ?_; rintro e w' ⟨rfl, rfl⟩
  go_wp2
  go_loop [0, 3] (OfRel l b off) (fun v _ => lenOf v)
  case atStart => exact ⟨0, _, _, _, by omega, by omega, rfl, hcap, fun _ => rfl, rfl⟩
  case round =>
    obtain ⟨j, a, n, c, hn, hj, rfl, hnc, ha, rfl⟩ := hrel
    have HN := Lib.hid hn; clear hn
    by_cases h0 : 0 < n
    · obtain rfl := ha h0
      clear ha
      by_cases h8 : 8 < n
      · have h8' : (8 : Int) ≤ n := by omega
        go_wp2_with fail
        refine (word_to ((l.drop (8 * j)).take 8) b (off + 8 * j) _ _ _ (by have := HN.out; simp; omega) (by simp; omega) ?_).mono ?_
        · intro i hi
          rw [chunk_get l j i hi, Nat.add_assoc]
          exact HC.out _ (by simp at hi; omega)
        rintro e w' ⟨rfl, rfl⟩
        go_wp2_with fail
        refine (mix_to (Dg.ofTo l j ^^^ Dg.word ((l.drop (8 * j)).take 8)) _ (uv_xor _ _) _).mono ?_; rintro e w' ⟨rfl, rfl⟩
        go_wp2
        go_round
        case rel => exact ⟨j + 1, _, _, _, by have := HN.out; omega, by have := HN.out; omega, rfl, by omega, fun _ => rfl, rfl⟩
        case measure => simp [lenOf]; omega
      · by_cases e8 : n = 8
        · subst e8
          go_wp2_with fail
          refine (word_to ((l.drop (8 * j)).take 8) b (off + 8 * j) _ _ _ (by have := HN.out; simp; omega) (by simp; omega) ?_).mono ?_
          · intro i hi
            rw [chunk_get l j i hi, Nat.add_assoc]
            exact HC.out _ (by simp at hi; omega)
          rintro e w' ⟨rfl, rfl⟩
          go_wp2_with fail
          refine (mix_to (Dg.ofTo l j ^^^ Dg.word ((l.drop (8 * j)).take 8)) _ (uv_xor _ _) _).mono ?_; rintro e w' ⟨rfl, rfl⟩
          go_wp2
          go_round
          case rel => exact ⟨j + 1, _, 0, _, by have := HN.out; omega, by have := HN.out; omega, rfl, by omega, fun h => absurd h (by omega), rfl⟩
          case measure => simp [lenOf]; try omega
        have h8' : ¬ (8 : Int) ≤ n := by omega
        clear e8
        go_wp2_with fail
        refine (word_to ((l.drop (8 * j)).take 8) b (off + 8 * j) _ _ _ (by have := HN.out; simp; omega) (by simp; omega) ?_).mono ?_
        · intro i hi
          rw [chunk_get l j i hi, Nat.add_assoc]
          exact HC.out _ (by simp at hi; omega)
        rintro e w' ⟨rfl, rfl⟩
        go_wp2_with fail
        refine (mix_to (Dg.ofTo l j ^^^ Dg.word ((l.drop (8 * j)).take 8)) _ (uv_xor _ _) _).mono ?_; rintro e w' ⟨rfl, rfl⟩
        go_wp2
        go_round
        case rel => exact ⟨j + 1, _, 0, _, by have := HN.out; omega, by have := HN.out; omega, rfl, by omega, fun h => absurd h (by omega), rfl⟩
        case measure => simp [lenOf]; try omega
    · have hj' : j = (l.length + 7) / 8 := by have := HN.out; omega
      have HJ := Lib.hid hj'; clear hj'
      go_wp2
      go_ret
      exact ⟨congrArg (fun x => Ending.returned (Value.int .u64 (uv x))) (by rw [HJ.out]; rfl), rfl⟩
theorem of_none (a : Option Addr) (cap : Nat) (w : World) :
    Calls Try.prog 39 #[.slice a 0 cap] w fun e w' => e = .returned (.int .u64 (uv (Dg.ofB []))) ∧ w = w' := by
  go_enter Try.func39, Try.ntmps39
  go_wp2_with fail
  refine (mix_to 0 _ rfl _).mono ?_; rintro e w' ⟨rfl, rfl⟩
  go_wp2
  refine wp_loop_rounds 1 ?_
  rw [rounds_succ]
  go_wp2
  go_ret
  exact ⟨rfl, rfl⟩
theorem of_any (l : List B) (N : Nat) (v : Value) (w : World) (hl : l.length ≤ 4611686018427387904) (h : HasB w N v l) :
    Calls Try.prog 39 #[v] w fun e w' => e = .returned (.int .u64 (uv (Dg.ofB l))) ∧ w = w' := by
  rcases h with ⟨a, cap, rfl, rfl⟩ | ⟨b, off, cap, rfl, h2, h3, h4⟩
  · exact of_none a cap w
  · exact of_some l b off cap w hl h2 h4
end Go.Proofs.Ytkckimhkbnigkaa
