/-
  What is added to a set of replicas, its list place by place, and an array of booleans that goes with it. No condition.
-/
import Derived.Test.YtjhjielenbeoiaaQuorumF
namespace Go.Proofs.Ytjhjielenbeoiaa
open Go.ChangeShapes Go.WideShapes Go.ChangeAt Go.RowKit
open Dg (W B)
namespace Qm
def bit (x : Nat) : W := BitVec.ofNat 64 (2 ^ x)
theorem bit_at (x i : Nat) (hi : i < 64) : (bit x).getLsbD i = decide (x = i) := by
  unfold bit
  rw [BitVec.getLsbD_ofNat, Nat.testBit_two_pow]
  simp [hi]
theorem low_bit (S : W) (i : Nat) (hi : i < 64) : (low S).getLsbD i = (decide (i < 16) && S.getLsbD i) := by
  unfold low
  rw [BitVec.getLsbD_and, show (65535#64).getLsbD i = decide (i < 16) from by
    rw [show (65535#64 : W) = BitVec.ofNat 64 (2 ^ 16 - 1) by decide, BitVec.getLsbD_ofNat, Nat.testBit_two_pow_sub_one]; simp [hi], Bool.and_comm]
theorem ext16 {S T : W} (h : ∀ i, i < 64 → S.getLsbD i = T.getLsbD i) : S = T := BitVec.eq_of_getLsbD_eq h
/-- only the sixteen places count -/
def Small (S : W) : Prop := low S = S
theorem Small.high {S : W} (h : Small S) (i : Nat) (hi : 16 ≤ i) : S.getLsbD i = false := by
  by_cases h64 : i < 64
  · rw [← h, low_bit S i h64, decide_eq_false (by omega)]; rfl
  · exact BitVec.getLsbD_of_ge _ _ (by omega)
theorem small_or {S : W} (h : Small S) (x : Nat) (hx : x < 16) : Small (S ||| bit x) := by
  unfold Small
  refine ext16 fun i hi => ?_
  rw [low_bit _ _ hi, BitVec.getLsbD_or, bit_at x i hi]
  by_cases h16 : i < 16
  · simp [h16]
  · rw [h.high i (by omega)]
    have : ¬ x = i := by omega
    simp [this]
theorem add_in {S : W} (h : Small S) (x : Nat) (hx : x < 16) : add S (x : Int) = S ||| bit x := by
  unfold add bit
  rw [if_pos (by omega), Int.toNat_natCast, h]
theorem add_out {S : W} (h : Small S) (x : Nat) (hx : 16 ≤ x) : add S (x : Int) = S := by
  unfold add
  rw [if_neg (by omega), h]
theorem or_old {S : W} {x : Nat} (h : S.getLsbD x = true) : S ||| bit x = S := by
  refine ext16 fun i hi => ?_
  rw [BitVec.getLsbD_or, bit_at x i hi]
  by_cases e : x = i
  · subst e; simp [h]
  · simp [e]
theorem sum_set (S : W) (x : Nat) (h : S.getLsbD x = false) : ∀ k, k ≤ 64 → sumTo (fun i => (S ||| bit x).getLsbD i) k = sumTo (fun i => S.getLsbD i) k + one (decide (x < k))
  | 0, _ => by simp [sumTo, one]
  | k + 1, hk => by
    have ih := sum_set S x h k (by omega)
    unfold sumTo
    rw [ih, BitVec.getLsbD_or, bit_at x k (by omega)]
    by_cases e : x = k
    · subst e; rw [h]; simp [one]
    · by_cases e2 : x < k
      · have e3 : x < k + 1 := by omega
        simp [e, e2, e3, one]; omega
      · have e3 : ¬ x < k + 1 := by omega
        simp [e, e2, e3, one]
theorem cnt_new {S : W} {x : Nat} (hx : x < 16) (h : S.getLsbD x = false) : cnt (S ||| bit x) = cnt S + 1 := by
  rw [cnt_sum, cnt_sum, sum_set S x h 16 (by omega)]
  simp [one, hx]
theorem has_in {S : W} (x : Nat) (hx : x < 16) : hasI (uv S) (x : Int) = S.getLsbD x := by
  unfold hasI
  rw [qw_uv, decide_eq_true (by omega), Int.toNat_natCast]; rfl
theorem has_out {S : W} (x : Nat) (hx : 16 ≤ x) : hasI (uv S) (x : Int) = false := by
  unfold hasI
  rw [decide_eq_false (by omega)]; rfl
/-! ### the list, place by place -/
theorem lst_pre (S : W) (i : Nat) : ∀ m, i ≤ m → ∃ t, lst S m = lst S i ++ t ∧ ∀ y ∈ t, i ≤ y
  | 0, h => by obtain rfl : i = 0 := by omega
               exact ⟨[], by simp, by simp⟩
  | m + 1, h => by
    by_cases e : i = m + 1
    · subst e; exact ⟨[], by simp, by simp⟩
    · obtain ⟨t, h1, h2⟩ := lst_pre S i m (by omega)
      rw [lst]
      by_cases hb : S.getLsbD m
      · rw [if_pos hb, h1]
        exact ⟨t ++ [m], by simp, by intro y hy; rcases List.mem_append.1 hy with h | h; exact h2 y h; (obtain rfl := List.mem_singleton.1 h); omega⟩
      · rw [if_neg hb, h1]
        exact ⟨t, rfl, h2⟩
theorem lst_hit {S : W} {i : Nat} (hi : i < 16) (h : S.getLsbD i = true) : (lst S i).length < cnt S ∧ (lst S 16).getD (lst S i).length 0 = i := by
  obtain ⟨t, h1, _⟩ := lst_pre S (i + 1) 16 (by omega)
  have e : lst S (i + 1) = lst S i ++ [i] := by rw [lst, if_pos h]
  unfold cnt
  rw [h1, e]
  constructor
  · simp
  · simp [List.getD]
theorem lst_miss {S : W} {i : Nat} (hi : i < 16) (h : S.getLsbD i = false) (hl : (lst S i).length < cnt S) : (lst S 16).getD (lst S i).length 0 ≠ i := by
  obtain ⟨t, h1, h2⟩ := lst_pre S (i + 1) 16 (by omega)
  have e : lst S (i + 1) = lst S i := by rw [lst, if_neg (by simp [h])]
  unfold cnt at hl
  rw [h1, e, List.length_append] at hl
  rw [h1, e, List.getD_eq_getElem?_getD, List.getElem?_append_right (Nat.le_refl _), Nat.sub_self]
  cases t with
  | nil => simp at hl
  | cons y t =>
    have := h2 y (by simp)
    simp
    omega
end Qm
/-- an array of 32 booleans that says which places are in the set -/
def InS (w : World) (N : Nat) (S : W) : Prop := N < w.heap.size ∧ ∀ j, j < 32 → w.cell? ⟨N, j, none⟩ = some (.bool (S.getLsbD j)) ∧ w.frozen? ⟨N, j, none⟩ = false
theorem InS.below {w w' : World} {N : Nat} {S : W} (h : InS w N S) (hb : Below w.heap.size w w') : InS w' N S :=
  ⟨Nat.lt_of_lt_of_le h.1 hb.size, fun j hj => ⟨by rw [hb.cell (p := ⟨N, j, none⟩) h.1]; exact (h.2 j hj).1, by rw [hb.frozen (p := ⟨N, j, none⟩) h.1]; exact (h.2 j hj).2⟩⟩
theorem InS.put {w : World} {N : Nat} {S : W} (h : InS w N S) (x : Nat) : InS (w.setCell ⟨N, x, none⟩ (.bool true)) N (S ||| Qm.bit x) := by
  refine ⟨by simpa using h.1, fun j hj => ⟨?_, by rw [World.frozen?_setCell]; exact (h.2 j hj).2⟩⟩
  rw [BitVec.getLsbD_or, Qm.bit_at x j (by omega)]
  by_cases e : x = j
  · subst e
    rw [World.cell?_setCell_same _ _ _ (h.2 x hj).1]; simp
  · rw [World.cell?_setCell_other _ _ _ _ (by intro h; have := congrArg Addr.off h; simp only at this; omega), (h.2 j hj).1]
    simp [e]
def zerosB32 : Array Value := Array.replicate 32 (.bool false)
theorem zero_b32 (w : World) : (zeroValue 31).run Try.prog w = .ok (.agg zerosB32) w := by kernel_rfl
theorem ins_zero (w : World) (t : TypeId) : InS (w.alloc (.cells zerosB32 t)) w.heap.size 0#64 := by
  refine ⟨by simp, fun j hj => ⟨?_, World.frozen?_alloc_new _ _ _ _⟩⟩
  rw [World.cell?_alloc_new]
  unfold zerosB32
  rw [Array.getElem?_replicate, if_pos hj]
  simp
/-- a byte that came in, in a later world -/
theorem byte_later {w w' : World} {a : Option Addr} {n cap : Nat} {l : List B} (h : HasB w w.heap.size (.slice a n cap) l) (hb : Below w.heap.size w w') (k : Nat) (hk : k < n) :
    ∃ b off, a = some ⟨b, off, none⟩ ∧ w'.cell? ⟨b, off + k, none⟩ = some (.int .u8 (bv (l.getD k 0))) := by
  rcases h with ⟨a', c, e, rfl⟩ | ⟨b, off, c, e, _, h3, h4⟩
  · simp only [Value.slice.injEq] at e; omega
  · simp only [Value.slice.injEq] at e
    obtain ⟨rfl, rfl, _⟩ := e
    exact ⟨b, off, rfl, by rw [hb.cell (p := ⟨b, off + k, none⟩) h3]; exact h4 k hk⟩
end Go.Proofs.Ytjhjielenbeoiaa
