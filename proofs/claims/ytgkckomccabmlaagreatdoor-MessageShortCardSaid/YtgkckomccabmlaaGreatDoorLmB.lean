/-
  Bytes of numbers and messages as mathematics, and what the chapter of bytes returns. Each says its own conditions; nothing that was there has changed.
-/
import Derived.Test.YtgkckomccabmlaaGreatDoorLmA
import Derived.Below
import Derived.Laws.IdiomStrings
import Derived.Lib.SlicesS
import Derived.ArgAppend
import Derived.Lib.AppendStr
import Derived.Lib.ItoaNum
namespace Go.Proofs.YtgkckomccabmlaaGreatDoor.Cd
open Dg (W B)

/-- what reading from the beginning of some bytes gives: the value and how many bytes it has, or an error -/
inductive R (α : Type) where
  | ok (x : α) (len : Nat)
  | bad (code : Nat)

/-! ### numbers that are not negative -/
def byte (n : Nat) : B := BitVec.ofNat 8 n
theorem byte_toNat {n : Nat} (h : n < 256) : (byte n).toNat = n := by simp [byte, Nat.mod_eq_of_lt h]
theorem byte_of (c : B) : byte c.toNat = c := by simp [byte]
def put (u : Nat) : List B := if 127 < u then byte (u % 128 + 128) :: put (u / 128) else [byte u]
termination_by u
decreasing_by omega
theorem put_big {u : Nat} (h : 127 < u) : put u = byte (u % 128 + 128) :: put (u / 128) := by rw [put, if_pos h]
theorem put_small {u : Nat} (h : ¬ 127 < u) : put u = [byte u] := by rw [put, if_neg h]
def rd (i acc : Nat) : List B → R Nat
  | [] => .bad 5
  | c :: t => if (i = 9 ∧ 1 < c.toNat) ∨ (0 < i ∧ c.toNat = 0) then .bad 4 else if c.toNat < 128 then .ok (acc + c.toNat * 128 ^ i) (i + 1) else rd (i + 1) (acc + (c.toNat - 128) * 128 ^ i) t
theorem room {i : Nat} (h : i ≤ 8) : 2 ^ (64 - 7 * i) = 128 * 2 ^ (64 - 7 * (i + 1)) := by
  rw [show 64 - 7 * i = 7 + (64 - 7 * (i + 1)) by omega, Nat.pow_add]
theorem room8 {i : Nat} (h : i ≤ 8) : 128 ≤ 2 ^ (64 - 7 * i) := by
  have := Nat.pow_le_pow_right (n := 2) (by omega) (show 7 ≤ 64 - 7 * i by omega)
  simpa using this
theorem join (v acc p : Nat) : acc + (v % 128) * p + (v / 128) * (p * 128) = acc + v * p := by
  have h : v = v / 128 * 128 + v % 128 := by omega
  rw [show (v / 128) * (p * 128) = (v / 128 * 128) * p by rw [Nat.mul_comm p 128, ← Nat.mul_assoc], Nat.add_assoc, ← Nat.add_mul, Nat.add_comm (v % 128), ← h]
theorem rd_put (v : Nat) : ∀ (i acc : Nat) (t : List B), i ≤ 9 → v < 2 ^ (64 - 7 * i) → (0 < i → 0 < v) → rd i acc (put v ++ t) = .ok (acc + v * 128 ^ i) (i + (put v).length) := by
  induction v using Nat.strongRecOn with
  | _ v ih =>
    intro i acc t hi hv h0
    by_cases h : 127 < v
    · have i8 : i ≤ 8 := by
        rcases Nat.lt_or_ge i 9 with h9 | h9
        · omega
        · obtain rfl : i = 9 := by omega
          simp at hv; omega
      have hr := room i8
      have hb : (byte (v % 128 + 128)).toNat = v % 128 + 128 := byte_toNat (by omega)
      rw [put_big h, List.cons_append, rd, hb, if_neg (by omega), if_neg (by omega), ih (v / 128) (by omega) (i + 1) _ t (by omega) (by omega) (by omega)]
      rw [Nat.add_sub_cancel, Nat.pow_succ, join, List.length_cons]
      congr 1
      omega
    · have hb : (byte v).toNat = v := byte_toNat (by omega)
      have h9 : ¬ (i = 9 ∧ 1 < v) := by rintro ⟨rfl, h1⟩; simp at hv; omega
      rw [put_small h, List.singleton_append, rd, hb, if_neg (by omega), if_pos (by omega)]
      rfl
theorem put_len_pos (v : Nat) : 0 < (put v).length := by
  by_cases h : 127 < v
  · rw [put_big h]; simp
  · rw [put_small h]; simp
theorem rd_cut (v : Nat) : ∀ (i acc j : Nat), i ≤ 9 → v < 2 ^ (64 - 7 * i) → (0 < i → 0 < v) → j < (put v).length → rd i acc ((put v).take j) = .bad 5 := by
  induction v using Nat.strongRecOn with
  | _ v ih =>
    intro i acc j hi hv h0 hj
    by_cases h : 127 < v
    · have i8 : i ≤ 8 := by
        rcases Nat.lt_or_ge i 9 with h9 | h9
        · omega
        · obtain rfl : i = 9 := by omega
          simp at hv; omega
      have hr := room i8
      have hb : (byte (v % 128 + 128)).toNat = v % 128 + 128 := byte_toNat (by omega)
      rw [put_big h] at hj ⊢
      match j with
      | 0 => rfl
      | j + 1 =>
        rw [List.take_succ_cons, rd, hb, if_neg (by omega), if_neg (by omega)]
        exact ih (v / 128) (by omega) (i + 1) _ j (by omega) (by omega) (by omega) (by simpa using hj)
    · rw [put_small h] at hj ⊢
      obtain rfl : j = 0 := by simp at hj; omega
      rfl
/-- what is read as a number is written by the same bytes -/
theorem rd_inv : ∀ (l : List B) (i acc u k : Nat), i ≤ 9 → rd i acc l = .ok u k → ∃ v, u = acc + v * 128 ^ i ∧ (0 < i → 0 < v) ∧ v < 2 ^ (64 - 7 * i) ∧ i < k ∧ k - i ≤ l.length ∧ l.take (k - i) = put v
  | [], i, acc, u, k, _, h => by simp [rd] at h
  | c :: t, i, acc, u, k, hi, h => by
    rw [rd] at h
    split at h
    · cases h
    · rename_i hn
      have hc := c.isLt
      split at h
      · rename_i hs
        simp only [R.ok.injEq] at h
        obtain ⟨rfl, rfl⟩ := h
        refine ⟨c.toNat, rfl, by omega, ?_, by omega, by simp <;> omega, ?_⟩
        · rcases Nat.lt_or_ge i 9 with h9 | h9
          · have := room8 (i := i) (by omega); omega
          · obtain rfl : i = 9 := by omega
            simp; omega
        · rw [put_small (by omega), byte_of, Nat.add_sub_cancel_left]; rfl
      · rename_i hs
        have i8 : i ≤ 8 := by
          rcases Nat.lt_or_ge i 9 with h9 | h9
          · omega
          · obtain rfl : i = 9 := by omega
            exact absurd (Or.inl ⟨rfl, by omega⟩) hn
        obtain ⟨v, e1, e2, e3, e4, e5, e6⟩ := rd_inv t (i + 1) _ u k (by omega) h
        have hr := room i8
        have hv : (c.toNat - 128 + 128 * v) % 128 = c.toNat - 128 := by omega
        have hd : (c.toNat - 128 + 128 * v) / 128 = v := by omega
        refine ⟨c.toNat - 128 + 128 * v, ?_, by omega, by omega, by omega, by simp; omega, ?_⟩
        · have := join (c.toNat - 128 + 128 * v) acc (128 ^ i)
          rw [hv, hd] at this
          rw [e1, Nat.pow_succ, this]
        · have e2' := e2 (by omega)
          rw [put_big (by omega), hv, hd, ← e6, Nat.sub_add_cancel (by omega), byte_of, show k - i = (k - (i + 1)) + 1 by omega, List.take_succ_cons]

/-! ### numbers -/
def zig (n : Int) : Nat := if 0 ≤ n then (2 * n).toNat else (-2 * n - 1).toNat
def zag (u : Nat) : Int := if u % 2 = 1 then -((u / 2 : Nat) : Int) - 1 else ((u / 2 : Nat) : Int)
theorem zag_zig (n : Int) : zag (zig n) = n := by
  unfold zag zig
  split <;> split <;> omega
theorem zig_zag (u : Nat) : zig (zag u) = u := by
  unfold zag zig
  split <;> split <;> omega
def InR (n : Int) : Prop := -9223372036854775808 ≤ n ∧ n ≤ 9223372036854775807
theorem zig_lt {n : Int} (h : InR n) : zig n < 18446744073709551616 := by
  unfold InR at h; unfold zig
  split <;> omega
theorem zag_in {u : Nat} (h : u < 18446744073709551616) : InR (zag u) := by
  unfold InR zag
  split <;> omega
def putI (n : Int) : List B := put (zig n)
def getI (b : List B) : R Int := match rd 0 0 b with
  | .ok u k => .ok (zag u) k
  | .bad c => .bad c
theorem getI_put {n : Int} (h : InR n) (t : List B) : getI (putI n ++ t) = .ok n (putI n).length := by
  unfold getI putI
  have hz := zig_lt h
  rw [rd_put (zig n) 0 0 t (by omega) (by simpa using hz) (by omega)]
  simp only [Nat.pow_zero, Nat.mul_one, Nat.zero_add, zag_zig]
theorem getI_inv {b : List B} {n : Int} {k : Nat} (h : getI b = .ok n k) : InR n ∧ 0 < k ∧ k ≤ b.length ∧ b.take k = putI n := by
  unfold getI at h
  split at h
  · rename_i u k' hr
    simp only [R.ok.injEq] at h
    obtain ⟨rfl, rfl⟩ := h
    obtain ⟨v, e1, _, e3, e4, e5, e6⟩ := rd_inv b 0 0 u k' (by omega) hr
    obtain rfl : u = v := by simpa using e1
    refine ⟨zag_in (by simpa using e3), e4, by simpa using e5, ?_⟩
    unfold putI
    rw [zig_zag]; simpa using e6
  · cases h
theorem getI_cut {n : Int} (h : InR n) {j : Nat} (hj : j < (putI n).length) : getI ((putI n).take j) = .bad 5 := by
  unfold getI putI
  have hz := zig_lt h
  rw [rd_cut (zig n) 0 0 j (by omega) (by simpa using hz) (by omega) hj]

/-! ### strings of bytes -/
def putB (d : List B) : List B := putI d.length ++ d
def getB (b : List B) : R (List B) := match getI b with
  | .bad c => .bad c
  | .ok n k => if n < 0 then .bad 4 else if (b.length : Int) - k < n then .bad 5 else .ok ((b.drop k).take n.toNat) (k + n.toNat)
theorem in_len {d : List B} (h : d.length ≤ 9223372036854775807) : InR (d.length : Int) := by unfold InR; omega
theorem putB_len (d : List B) : (putB d).length = (putI d.length).length + d.length := by simp [putB]
theorem getB_put {d : List B} (h : d.length ≤ 9223372036854775807) (t : List B) : getB (putB d ++ t) = .ok d (putB d).length := by
  unfold getB
  rw [show putB d ++ t = putI d.length ++ (d ++ t) by simp [putB], getI_put (in_len h)]
  simp only []
  rw [if_neg (by omega), if_neg (by simp; omega)]
  congr 1
  · simp
  · rw [putB_len]; simp
theorem getB_inv {b d : List B} {k : Nat} (h : getB b = .ok d k) : d.length ≤ 9223372036854775807 ∧ 0 < k ∧ k ≤ b.length ∧ b.take k = putB d := by
  unfold getB at h
  split at h
  · cases h
  · rename_i n k' hr
    obtain ⟨e1, e2, e3, e4⟩ := getI_inv hr
    unfold InR at e1
    split at h
    · cases h
    · split at h
      · cases h
      · rename_i h1 h2
        simp only [R.ok.injEq] at h
        obtain ⟨rfl, rfl⟩ := h
        have hl : ((b.drop k').take n.toNat).length = n.toNat := by simp; omega
        refine ⟨by omega, by omega, by omega, ?_⟩
        unfold putB
        rw [hl, show ((n.toNat : Nat) : Int) = n by omega, ← e4, List.take_add]

/-! ### digests -/
def dgN (l : List B) : Nat := l.foldl (fun a c => a * 256 + c.toNat) 0
def putD (d : W) : List B := [byte (d.toNat / 72057594037927936 % 256), byte (d.toNat / 281474976710656 % 256), byte (d.toNat / 1099511627776 % 256), byte (d.toNat / 4294967296 % 256), byte (d.toNat / 16777216 % 256), byte (d.toNat / 65536 % 256), byte (d.toNat / 256 % 256), byte (d.toNat % 256)]
def getD (b : List B) : R W := if b.length < 8 then .bad 5 else .ok (BitVec.ofNat 64 (dgN (b.take 8))) 8
theorem putD_len (d : W) : (putD d).length = 8 := rfl
theorem dgN_put (d : W) : dgN (putD d) = d.toNat := by
  have hd := d.isLt
  unfold dgN putD
  simp only [List.foldl_cons, List.foldl_nil]
  rw [byte_toNat (Nat.mod_lt _ (by decide)), byte_toNat (Nat.mod_lt _ (by decide)), byte_toNat (Nat.mod_lt _ (by decide)), byte_toNat (Nat.mod_lt _ (by decide)), byte_toNat (Nat.mod_lt _ (by decide)), byte_toNat (Nat.mod_lt _ (by decide)), byte_toNat (Nat.mod_lt _ (by decide)), byte_toNat (Nat.mod_lt _ (by decide))]
  generalize d.toNat = n at hd
  omega
theorem getD_put (d : W) (t : List B) : getD (putD d ++ t) = .ok d 8 := by
  unfold getD
  rw [if_neg (by simp [putD_len]), show (putD d ++ t).take 8 = putD d from List.take_left' (putD_len d), dgN_put]
  simp
theorem eight {l : List B} (h : l.length = 8) : ∃ a b c d e f g i, l = [a, b, c, d, e, f, g, i] := by
  match l, h with
  | [a, b, c, d, e, f, g, i], _ => exact ⟨a, b, c, d, e, f, g, i, rfl⟩
theorem put_dgN {l : List B} (h : l.length = 8) : putD (BitVec.ofNat 64 (dgN l)) = l := by
  obtain ⟨a, b, c, d, e, f, g, i, rfl⟩ := eight h
  have ha := a.isLt; have hb := b.isLt; have hc := c.isLt; have hd := d.isLt; have he := e.isLt; have hf := f.isLt; have hg := g.isLt; have hi := i.isLt
  have hn : (BitVec.ofNat 64 (dgN [a, b, c, d, e, f, g, i])).toNat = ((((((a.toNat * 256 + b.toNat) * 256 + c.toNat) * 256 + d.toNat) * 256 + e.toNat) * 256 + f.toNat) * 256 + g.toNat) * 256 + i.toNat := by
    unfold dgN
    simp only [List.foldl_cons, List.foldl_nil, BitVec.toNat_ofNat]
    omega
  unfold putD
  rw [hn]
  have e1 : ∀ (x : Nat) (y : B), x = y.toNat → byte x = y := fun x y h => by rw [h, byte_of]
  congr 1
  · exact e1 _ _ (by omega)
  congr 1
  · exact e1 _ _ (by omega)
  congr 1
  · exact e1 _ _ (by omega)
  congr 1
  · exact e1 _ _ (by omega)
  congr 1
  · exact e1 _ _ (by omega)
  congr 1
  · exact e1 _ _ (by omega)
  congr 1
  · exact e1 _ _ (by omega)
  congr 1
  exact e1 _ _ (by omega)
theorem getD_inv {b : List B} {d : W} {k : Nat} (h : getD b = .ok d k) : k = 8 ∧ 8 ≤ b.length ∧ b.take 8 = putD d := by
  unfold getD at h
  split at h
  · cases h
  · simp only [R.ok.injEq] at h
    obtain ⟨rfl, rfl⟩ := h
    exact ⟨rfl, by omega, (put_dgN (by simp; omega)).symm⟩

/-! ### lists of strings -/
def putAll : List (List B) → List B
  | [] => []
  | d :: l => putB d ++ putAll l
def putL (l : List (List B)) : List B := putI l.length ++ putAll l
def rdL : Nat → List B → Nat → R (List (List B))
  | 0, _, p => .ok [] p
  | m + 1, b, p => match getB b with
    | .bad c => .bad c
    | .ok d k => match rdL m (b.drop k) (p + k) with
      | .bad c => .bad c
      | .ok l q => .ok (d :: l) q
def getL (b : List B) : R (List (List B)) := match getI b with
  | .bad c => .bad c
  | .ok n k => if n < 0 then .bad 4 else rdL n.toNat (b.drop k) k
theorem rdL_put : ∀ (l : List (List B)) (t : List B) (p : Nat), (∀ d ∈ l, d.length ≤ 9223372036854775807) → rdL l.length (putAll l ++ t) p = .ok l (p + (putAll l).length)
  | [], t, p, _ => rfl
  | d :: l, t, p, h => by
    have h1 := h d (by simp)
    show rdL (l.length + 1) (putB d ++ putAll l ++ t) p = _
    rw [List.append_assoc, rdL, getB_put h1]
    simp only []
    rw [List.drop_left, rdL_put l t _ (fun x hx => h x (by simp [hx]))]
    simp only []
    congr 1
    simp [putAll]; omega
theorem rdL_inv : ∀ (m : Nat) (b : List B) (p : Nat) (l : List (List B)) (q : Nat), rdL m b p = .ok l q → l.length = m ∧ p ≤ q ∧ q - p ≤ b.length ∧ b.take (q - p) = putAll l ∧ ∀ d ∈ l, d.length ≤ 9223372036854775807
  | 0, b, p, l, q, h => by
    simp only [rdL, R.ok.injEq] at h
    obtain ⟨rfl, rfl⟩ := h
    simp [putAll]
  | m + 1, b, p, l, q, h => by
    rw [rdL] at h
    split at h
    · cases h
    · rename_i d k hb
      obtain ⟨g1, g2, g3, g4⟩ := getB_inv hb
      split at h
      · cases h
      · rename_i l' q' hl
        simp only [R.ok.injEq] at h
        obtain ⟨rfl, rfl⟩ := h
        obtain ⟨e1, e2, e3, e4, e5⟩ := rdL_inv m (b.drop k) (p + k) l' q' hl
        rw [List.length_drop] at e3
        refine ⟨by simp [e1], by omega, by omega, ?_, ?_⟩
        · rw [putAll, ← g4, ← e4, show q' - p = k + (q' - (p + k)) by omega, List.take_add]
        · intro x hx
          rcases List.mem_cons.1 hx with rfl | hx
          · exact g1
          · exact e5 x hx
theorem getL_put {l : List (List B)} (h : l.length ≤ 9223372036854775807) (hd : ∀ d ∈ l, d.length ≤ 9223372036854775807) (t : List B) : getL (putL l ++ t) = .ok l (putL l).length := by
  unfold getL
  rw [show putL l ++ t = putI l.length ++ (putAll l ++ t) by simp [putL], getI_put (by unfold InR; omega)]
  simp only []
  rw [if_neg (by omega), List.drop_left, show ((l.length : Nat) : Int).toNat = l.length by omega, rdL_put l t _ hd]
  simp [putL]
theorem getL_inv {b : List B} {l : List (List B)} {k : Nat} (h : getL b = .ok l k) : 0 < k ∧ k ≤ b.length ∧ b.take k = putL l ∧ l.length ≤ 9223372036854775807 ∧ ∀ d ∈ l, d.length ≤ 9223372036854775807 := by
  unfold getL at h
  split at h
  · cases h
  · rename_i n k' hr
    obtain ⟨e1, e2, e3, e4⟩ := getI_inv hr
    unfold InR at e1
    split at h
    · cases h
    · obtain ⟨g1, g2, g3, g4, g5⟩ := rdL_inv _ _ _ _ _ h
      rw [List.length_drop] at g3
      refine ⟨by omega, by omega, ?_, by omega, g5⟩
      unfold putL
      rw [g1, show ((n.toNat : Nat) : Int) = n by omega, ← e4, ← g4, show k = k' + (k - k') by omega, List.take_add]
      congr 2
      omega

/-! ### frames -/
def frame (d : List B) : List B := putB d ++ putD (Dg.ofB d)
def unframe (b : List B) : R (List B) := match getB b with
  | .bad c => .bad c
  | .ok d k => match getD (b.drop k) with
    | .bad c => .bad c
    | .ok x j => if x = Dg.ofB d then .ok d (k + j) else .bad 9
theorem unframe_frame {d : List B} (h : d.length ≤ 9223372036854775807) (t : List B) : unframe (frame d ++ t) = .ok d (frame d).length := by
  unfold unframe
  rw [show frame d ++ t = putB d ++ (putD (Dg.ofB d) ++ t) by simp [frame], getB_put h]
  simp only []
  rw [List.drop_left, getD_put]
  simp [frame, putD_len]
/-- where the bytes end too early -/
theorem getB_cut {d : List B} (h : d.length ≤ 9223372036854775807) {j : Nat} (hj : j < (putB d).length) : getB ((putB d).take j) = .bad 5 := by
  unfold getB
  rcases Nat.lt_or_ge j (putI d.length).length with h1 | h1
  · have : (putB d).take j = (putI d.length).take j := by unfold putB; rw [List.take_append_of_le_length (by omega)]
    rw [this, getI_cut (in_len h) h1]
  · have e : (putB d).take j = putI d.length ++ d.take (j - (putI d.length).length) := by unfold putB; rw [List.take_append, List.take_of_length_le h1]
    rw [putB_len] at hj
    rw [e, getI_put (in_len h)]
    simp only []
    rw [if_neg (by omega), if_pos (by simp; omega)]
theorem unframe_cut {d : List B} (h : d.length ≤ 9223372036854775807) {j : Nat} (hj : j < (frame d).length) : unframe ((frame d).take j) = .bad 5 := by
  unfold unframe
  rcases Nat.lt_or_ge j (putB d).length with h1 | h1
  · have : (frame d).take j = (putB d).take j := by unfold frame; rw [List.take_append_of_le_length (by omega)]
    rw [this, getB_cut h h1]
  · have e : (frame d).take j = putB d ++ (putD (Dg.ofB d)).take (j - (putB d).length) := by unfold frame; rw [List.take_append, List.take_of_length_le h1]
    have hl : (frame d).length = (putB d).length + 8 := by simp [frame, putD_len]
    rw [e, getB_put h]
    simp only []
    rw [List.drop_left, getD, if_pos (by rw [List.length_take, putD_len]; omega)]
/-- a frame in which one byte of its data is another one -/
theorem unframe_changed {d : List B} (h : d.length ≤ 9223372036854775807) (i : Nat) (x : B) (hi : i < d.length) (hx : x ≠ d.getD i 0) : unframe (putI d.length ++ d.set i x ++ putD (Dg.ofB d)) = .bad 9 := by
  have hl : (d.set i x).length = d.length := List.length_set
  have e : putI d.length ++ d.set i x = putB (d.set i x) := by unfold putB; rw [hl]
  have hne : Dg.ofB d ≠ Dg.ofB (d.set i x) := by
    intro h2
    have hn : Dg.Near d (d.set i x) (i / 8) := ⟨hl.symm, fun k hk => by
      rw [List.getD_eq_getElem?_getD, List.getD_eq_getElem?_getD, List.getElem?_set_ne (by omega)]⟩
    have := (Dg.near_of hn (by omega)).1 h2
    have h3 := congrArg (fun l => l.getD i 0) this
    simp [hi] at h3
    apply hx
    simp [hi, ← h3]
  unfold unframe
  rw [e, getB_put (by rw [hl]; exact h)]
  simp only []
  rw [List.drop_left, show putD (Dg.ofB d) = putD (Dg.ofB d) ++ [] by simp, getD_put]
  simp only []
  rw [if_neg hne]
/-! ### how many bytes a number needs -/
def need (u : Nat) : Nat := if 127 < u then need (u / 128) + 1 else 1
termination_by u
decreasing_by omega
theorem put_len (u : Nat) : (put u).length = need u := by
  induction u using Nat.strongRecOn with
  | _ u ih =>
    by_cases h : 127 < u
    · rw [put_big h, need, if_pos h, List.length_cons, ih _ (by omega)]
    · rw [put_small h, need, if_neg h]; rfl
theorem need_lt (k : Nat) : ∀ u, u < 128 ^ (k + 1) → need u ≤ k + 1 := by
  induction k with
  | zero => intro u h; rw [need, if_neg (by simp at h; omega)]; omega
  | succ k ih =>
    intro u h
    rw [need]
    split
    · have := ih (u / 128) (by rw [Nat.pow_succ] at h; exact Nat.div_lt_of_lt_mul (by rw [Nat.mul_comm]; exact h))
      omega
    · omega
theorem need_le {u : Nat} (h : u < 18446744073709551616) : need u ≤ 10 := need_lt 9 u (Nat.lt_of_lt_of_le h (by decide))
end Go.Proofs.YtgkckomccabmlaaGreatDoor.Cd
namespace Go.Proofs.YtgkckomccabmlaaGreatDoor.Ms
open Dg (W B)
structure Msg where
  kind : Int
  epoch : Int
  inst : Int
  round : Int
  bit : Int
  root : W
  len : Int
  data : List B
  path : List W
/-- the numbers are numbers of 64 bits -/
structure Msg.Wf (m : Msg) : Prop where
  kind : Cd.InR m.kind
  epoch : Cd.InR m.epoch
  inst : Cd.InR m.inst
  round : Cd.InR m.round
  bit : Cd.InR m.bit
  len : Cd.InR m.len
/-! ### which are valid -/
def fRound (k : Int) : Bool := k == 7 || k == 8 || k == 9 || k == 10
def fBit (k : Int) : Bool := k == 7 || k == 8 || k == 9 || k == 11
def fRoot (k : Int) : Bool := k == 4 || k == 5 || k == 6
def fLen (k : Int) : Bool := k == 4 || k == 5 || k == 6
def fData (k : Int) : Bool := k == 1 || k == 2 || k == 3 || k == 12 || k == 4 || k == 5 || k == 10
def fPath (k : Int) : Bool := k == 4 || k == 5
def low (k : Int) : Int := if k = 9 then 1 else 0
def high (k : Int) : Int := if k = 9 then 3 else 1
def badKind (m : Msg) : Bool := decide (m.kind < 1) || decide (12 < m.kind)
def badPlace (m : Msg) : Bool := decide (m.epoch < 0) || decide (1048576 < m.epoch) || decide (m.inst < 0) || decide (16 ≤ m.inst)
def badRange (m : Msg) : Bool :=
  fRound m.kind && (decide (m.round < 0) || decide (64 ≤ m.round)) || fBit m.kind && (decide (m.bit < low m.kind) || decide (high m.kind < m.bit)) || fLen m.kind && (decide (m.len < 0) || decide (4096 < m.len))
def badSize (m : Msg) : Bool := decide (4096 < m.data.length) || decide (10 < m.path.length)
def badField (m : Msg) : Bool :=
  !fRound m.kind && m.round != 0 || !fBit m.kind && m.bit != 0 || !fRoot m.kind && m.root != 0#64 || !fLen m.kind && m.len != 0 || !fData m.kind && decide (0 < m.data.length) || !fPath m.kind && decide (0 < m.path.length)
def valid (m : Msg) : Nat := if badKind m then 4 else if badPlace m || badRange m then 2 else if badSize m then 3 else if badField m then 1 else 0
theorem valid_bounds {m : Msg} (h : valid m = 0) : m.data.length ≤ 4096 ∧ m.path.length ≤ 10 := by
  unfold valid at h
  split at h
  · omega
  · split at h
    · omega
    · split at h
      · omega
      · rename_i h3
        simp [badSize] at h3
        omega
/-! ### which are equal -/
def same (a b : Msg) : Bool := a.kind == b.kind && (a.epoch == b.epoch && (a.inst == b.inst && (a.round == b.round && (a.bit == b.bit && (a.root == b.root && (a.len == b.len && (a.data == b.data && a.path == b.path)))))))
theorem same_iff (a b : Msg) : same a b = true ↔ a = b := by
  obtain ⟨k, e, i, r, t, o, n, d, p⟩ := a
  obtain ⟨k', e', i', r', t', o', n', d', p'⟩ := b
  simp [same]
theorem same_self (a : Msg) : same a a = true := (same_iff a a).2 rfl
/-! ### bytes -/
def putP : List W → List B
  | [] => []
  | d :: l => Cd.putD d ++ putP l
theorem putP_snoc (l : List W) (d : W) : putP (l ++ [d]) = putP l ++ Cd.putD d := by
  induction l with
  | nil => simp [putP]
  | cons x l ih => simp [putP, ih]
theorem putP_len (l : List W) : (putP l).length = 8 * l.length := by
  induction l with
  | nil => rfl
  | cons x l ih => simp [putP, ih, Cd.putD_len]; omega
def enc (m : Msg) : List B :=
  Cd.putI m.kind ++ (Cd.putI m.epoch ++ (Cd.putI m.inst ++ (Cd.putI m.round ++ (Cd.putI m.bit ++ (Cd.putI m.len ++ (Cd.putD m.root ++ (Cd.putB m.data ++ (Cd.putI m.path.length ++ putP m.path))))))))
/-- so many digests -/
def rdP : Nat → List B → Cd.R (List W)
  | 0, _ => .ok [] 0
  | n + 1, b => match Cd.getD b with
    | .bad c => .bad c
    | .ok d k => match rdP n (b.drop k) with
      | .bad c => .bad c
      | .ok l q => .ok (d :: l) (k + q)
theorem rdP_put : ∀ (l : List W) (t : List B), rdP l.length (putP l ++ t) = .ok l (putP l).length
  | [], t => rfl
  | d :: l, t => by
    show rdP (l.length + 1) (Cd.putD d ++ putP l ++ t) = _
    rw [List.append_assoc, rdP, Cd.getD_put]
    simp only []
    rw [show (8 : Nat) = (Cd.putD d).length by rfl, List.drop_left, rdP_put l t]
    simp [putP]
theorem rdP_inv : ∀ (n : Nat) (b : List B) (l : List W) (q : Nat), rdP n b = .ok l q → l.length = n ∧ q ≤ b.length ∧ b.take q = putP l
  | 0, b, l, q, h => by
    simp only [rdP, Cd.R.ok.injEq] at h
    obtain ⟨rfl, rfl⟩ := h
    simp [putP]
  | n + 1, b, l, q, h => by
    rw [rdP] at h
    split at h
    · cases h
    · rename_i d k hd
      obtain ⟨rfl, g2, g3⟩ := Cd.getD_inv hd
      split at h
      · cases h
      · rename_i l' q' hl
        simp only [Cd.R.ok.injEq] at h
        obtain ⟨rfl, rfl⟩ := h
        obtain ⟨e1, e2, e3⟩ := rdP_inv n (b.drop 8) l' q' hl
        rw [List.length_drop] at e2
        exact ⟨by simp [e1], by omega, by rw [List.take_add, g3, e3]; rfl⟩
/-- one thing after the other -/
def andThen {α β : Type} (f : List B → Cd.R α) (b : List B) (g : α → List B → Option β) : Option β := match f b with
  | .ok x k => g x (b.drop k)
  | .bad _ => none
def rdMsg (b : List B) : Option (Msg × List B) :=
  andThen Cd.getI b fun kind b => andThen Cd.getI b fun epoch b => andThen Cd.getI b fun inst b => andThen Cd.getI b fun round b => andThen Cd.getI b fun bit b => andThen Cd.getI b fun len b =>
  andThen Cd.getD b fun root b => andThen Cd.getB b fun data b => andThen Cd.getI b fun n b => if n < 0 ∨ 10 < n then none else andThen (rdP n.toNat) b fun path b => some (⟨kind, epoch, inst, round, bit, root, len, data, path⟩, b)
def dec (b : List B) : Option Msg := match rdMsg b with
  | some (m, r) => if r = [] ∧ valid m = 0 then some m else none
  | none => none
theorem andThen_ok {α β : Type} {f : List B → Cd.R α} {b : List B} {g : α → List B → Option β} {x : α} {k : Nat} (h : f b = .ok x k) : andThen f b g = g x (b.drop k) := by unfold andThen; rw [h]
theorem andThen_bad {α β : Type} {f : List B → Cd.R α} {b : List B} {g : α → List B → Option β} {c : Nat} (h : f b = .bad c) : andThen f b g = none := by unfold andThen; rw [h]
theorem andThen_int {β : Type} {n : Int} {t : List B} {g : Int → List B → Option β} (h : Cd.InR n) : andThen Cd.getI (Cd.putI n ++ t) g = g n t := by
  rw [andThen_ok (Cd.getI_put h t), List.drop_left]
theorem rdMsg_enc {m : Msg} (hw : m.Wf) (hd : m.data.length ≤ 4096) (hp : m.path.length ≤ 10) : rdMsg (enc m) = some (m, []) := by
  unfold rdMsg enc
  rw [andThen_int hw.kind, andThen_int hw.epoch, andThen_int hw.inst, andThen_int hw.round, andThen_int hw.bit, andThen_int hw.len]
  rw [andThen_ok (Cd.getD_put m.root _), show (8 : Nat) = (Cd.putD m.root).length by rfl, List.drop_left]
  rw [andThen_ok (Cd.getB_put (d := m.data) (by omega) _), List.drop_left]
  rw [andThen_int (show Cd.InR (m.path.length : Int) by unfold Cd.InR; omega)]
  rw [if_neg (by omega), Int.toNat_natCast]
  have h := rdP_put m.path []
  rw [List.append_nil] at h
  rw [andThen_ok h, List.drop_length]
theorem dec_enc {m : Msg} (hw : m.Wf) (hv : valid m = 0) : dec (enc m) = some m := by
  have hb := valid_bounds hv
  unfold dec
  rw [rdMsg_enc hw hb.1 hb.2]
  simp [hv]
theorem andThen_some {α β : Type} {f : List B → Cd.R α} {b : List B} {g : α → List B → Option β} {y : β} (h : andThen f b g = some y) : ∃ x k, f b = .ok x k ∧ g x (b.drop k) = some y := by
  unfold andThen at h
  split at h
  · rename_i x k hf; exact ⟨x, k, hf, h⟩
  · cases h
theorem int_some {β : Type} {b : List B} {g : Int → List B → Option β} {y : β} (h : andThen Cd.getI b g = some y) : ∃ n t, Cd.InR n ∧ b = Cd.putI n ++ t ∧ g n t = some y := by
  obtain ⟨n, k, h1, h2⟩ := andThen_some h
  obtain ⟨g1, _, g3, g4⟩ := Cd.getI_inv h1
  exact ⟨n, b.drop k, g1, by rw [← g4, List.take_append_drop], h2⟩
theorem rdMsg_inv {b r : List B} {m : Msg} (h : rdMsg b = some (m, r)) : m.Wf ∧ b = enc m ++ r := by
  unfold rdMsg at h
  obtain ⟨kind, b1, w1, e1x, h1⟩ := int_some h
  obtain ⟨epoch, b2, w2, e2x, h2⟩ := int_some h1
  obtain ⟨inst, b3, w3, e3x, h3⟩ := int_some h2
  obtain ⟨round, b4, w4, e4x, h4⟩ := int_some h3
  obtain ⟨bit, b5, w5, e5x, h5⟩ := int_some h4
  obtain ⟨len, b6, w6, e6x, h6⟩ := int_some h5
  subst e1x e2x e3x e4x e5x e6x
  obtain ⟨root, k, hd, h7⟩ := andThen_some h6
  obtain ⟨rfl, d2, d3⟩ := Cd.getD_inv hd
  have e6 : b6 = Cd.putD root ++ b6.drop 8 := by rw [← d3, List.take_append_drop]
  obtain ⟨data, k, hb, h8⟩ := andThen_some h7
  obtain ⟨_, _, c3, c4⟩ := Cd.getB_inv hb
  have e7 : b6.drop 8 = Cd.putB data ++ (b6.drop 8).drop k := by rw [← c4, List.take_append_drop]
  obtain ⟨n, b8, w8, e8, h9⟩ := int_some h8
  split at h9
  · cases h9
  · rename_i hn
    obtain ⟨path, q, hp, h10⟩ := andThen_some h9
    obtain ⟨p1, p2, p3⟩ := rdP_inv _ _ _ _ hp
    simp only [Option.some.injEq, Prod.mk.injEq] at h10
    obtain ⟨rfl, rfl⟩ := h10
    refine ⟨⟨w1, w2, w3, w4, w5, w6⟩, ?_⟩
    have en : n = (path.length : Int) := by omega
    have e9 : b8 = putP path ++ b8.drop q := by rw [← p3, List.take_append_drop]
    unfold enc
    simp only [List.append_assoc]
    rw [← e9, ← en, ← e8, ← e7, ← e6]
theorem dec_inv {b : List B} {m : Msg} (h : dec b = some m) : m.Wf ∧ valid m = 0 ∧ enc m = b := by
  unfold dec at h
  split at h
  · rename_i m' r hr
    split at h
    · rename_i hc
      simp only [Option.some.injEq] at h
      subst h
      obtain ⟨h1, h2⟩ := rdMsg_inv hr
      rw [hc.1, List.append_nil] at h2
      exact ⟨h1, hc.2, h2.symm⟩
    · cases h
  · cases h
theorem enc_inj {a b : Msg} (ha : a.Wf) (hb : b.Wf) (va : valid a = 0) (vb : valid b = 0) (h : enc a = enc b) : a = b := by
  have h1 := dec_enc ha va
  rw [h, dec_enc hb vb] at h1
  exact (Option.some.inj h1).symm
end Go.Proofs.YtgkckomccabmlaaGreatDoor.Ms
namespace Go.Proofs.YtgkckomccabmlaaGreatDoor
open Go.ChangeShapes Go.WideShapes Go.ChangeAt Go.RowKit
open Dg (W B)
theorem zig_pos {n : Int} (h : 0 ≤ n) (h2 : n ≤ 9223372036854775807) : IntKind.u64.wrap (IntKind.u64.wrap n * 2) = (Cd.zig n : Int) := by
  unfold Cd.zig
  rw [if_pos h, IntKind.wrap_u64, IntKind.wrap_u64]
  omega
theorem xor_max (x : W) : bits .xor .u64 IntKind.u64.max (uv x) = 18446744073709551615 - uv x := by
  have e : IntKind.u64.max = uv (BitVec.allOnes 64) := by decide
  rw [e, uv_xor]
  unfold uv
  rw [BitVec.allOnes_xor, BitVec.toNat_not]
  have := x.isLt
  omega
theorem zig_neg {n : Int} (h : n < 0) (h2 : -9223372036854775808 ≤ n) : bits .xor .u64 IntKind.u64.max (IntKind.u64.wrap (IntKind.u64.wrap n * 2)) = (Cd.zig n : Int) := by
  obtain ⟨x, hx⟩ : ∃ x : W, IntKind.u64.wrap (IntKind.u64.wrap n * 2) = uv x := uv_of _ (by rw [IntKind.wrap_u64]; omega) (by rw [IntKind.wrap_u64]; omega)
  rw [hx, xor_max, ← hx, IntKind.wrap_u64, IntKind.wrap_u64]
  unfold Cd.zig
  rw [if_neg (by omega)]
  omega
set_option maxRecDepth 100000 in
theorem or128 (v : Nat) : bits .or .u8 (IntKind.u8.wrap (v : Int)) 128 = bv (Cd.byte (v % 128 + 128)) := by
  have h : ∀ c : Fin 256, bits .or .u8 ((c.val : Nat) : Int) 128 = ((c.val % 128 + 128 : Nat) : Int) := by decide
  have e : IntKind.u8.wrap (v : Int) = ((v % 256 : Nat) : Int) := by rw [IntKind.wrap_u8]; omega
  rw [e, h ⟨v % 256, by omega⟩]
  unfold bv
  rw [Cd.byte_toNat (by omega)]
  simp only []
  omega
theorem low8 (v : Nat) : IntKind.u8.wrap (v : Int) = bv (Cd.byte v) := by
  unfold bv Cd.byte
  rw [IntKind.wrap_u8, BitVec.toNat_ofNat]
  omega
/-- a byte that is laid for an append -/
theorem one_byte (w : World) (x : B) (y : Int) (hy : y = bv x) : HasB (w.alloc (.cells #[.int .u8 y] 5)) (w.heap.size + 1) (.slice (some ⟨w.heap.size, 0, none⟩) 1 1) [x] := by
  subst hy; exact built_bytes w [x] _ _ rfl
def PRel (L : List B) (z : Nat) (w : World) (u out : Value) (wr : World) : Prop := ∃ (v : Nat) (P : List B), u = .int .u64 (v : Int) ∧ P ++ Cd.put v = Cd.put z ∧ v ≤ z ∧ OwnB w.heap.size wr out (L ++ P) ∧ Below w.heap.size w wr
set_option maxHeartbeats 1000000 in
theorem rputint_any (n : Int) (L : List B) (bv0 : Value) (w : World) (hn : (Lit.int .i64 n).wf = true) (hL : L.length ≤ 100000000) (hb : HasB w w.heap.size bv0 L) :
    Calls Tryz.prog 70 #[bv0, .int .i64 n] w fun e w' => ∃ v, e = .returned v ∧ OwnB w.heap.size w' v (L ++ Cd.putI n) ∧ Below w.heap.size w w' := by
  obtain ⟨a, cap, rfl⟩ := hb.form
  have hb2 := bounds_i64 hn
  have key : ∀ (a : Option Addr), a = a → True := fun _ _ => trivial
  obtain ⟨m, hm⟩ : ∃ m, m = L.length := ⟨_, rfl⟩
  rw [← hm] at hb ⊢
  have HM := Lib.hid hm; have HB := Lib.hid hb
  clear hm hb key
  obtain ⟨z, hz⟩ : ∃ z, z = Cd.zig n := ⟨_, rfl⟩
  have hzl : z < 18446744073709551616 := by rw [hz]; exact Cd.zig_lt (by unfold Cd.InR; omega)
  have HZL := Lib.hid hzl
  have hput : Hid (Cd.putI n = Cd.put z) := Lib.hid (by rw [hz]; rfl)
  have hcase : (n < 0 ∧ bits .xor .u64 IntKind.u64.max (IntKind.u64.wrap (IntKind.u64.wrap n * 2)) = (z : Int)) ∨ (¬ n < 0 ∧ IntKind.u64.wrap (IntKind.u64.wrap n * 2) = (z : Int)) := by
    by_cases h : n < 0
    · exact .inl ⟨h, by rw [hz]; exact zig_neg h (by omega)⟩
    · exact .inr ⟨h, by rw [hz]; exact zig_pos (by omega) (by omega)⟩
  clear hz hzl hn hb2
  rcases hcase with ⟨hs, hc⟩ | ⟨hs, hc⟩
  all_goals
    first
      | have t1 : decide (n < 0) = true := decide_eq_true hs
      | have t1 : decide (n < 0) = false := decide_eq_false hs
    go_enter Tryz.func70, Tryz.ntmps70
    go_wp2_with (at_builtin; refine wpList_append_bytes rfl (.const (.slice none 0 0)) (.tmp 14) rfl w.heap.size _ _ [] L rfl (OwnB.nil w _) rfl w.heap.size HB.out (by have := HM.out; simp; omega) (Nat.le_refl _) m (by have := HM.out; simp; omega) ?_)
    intro a1 cap1 w1 own1 grow1
    have OWN1 := Lib.hid own1
    have BEL1 := Lib.hid (below_grownB (Below.refl _ _) (Nat.le_refl _) (OwnB.nil w w.heap.size) grow1)
    clear own1 grow1 hc
    go_wp2
    go_loopw [5, 6] (PRel L z w) (fun u _ _ => (intOf u).toNat)
    case atStart => exact ⟨z, [], rfl, rfl, Nat.le_refl _, by rw [List.append_nil]; exact OWN1.out, BEL1.out⟩
    case round =>
      obtain ⟨v, P, rfl, hp, hvz, ho, hb⟩ := hrel
      have HO := Lib.hid ho; have HBL := Lib.hid hb; have HP := Lib.hid hp
      obtain ⟨a2, cap2, hform⟩ := ho.form
      subst hform
      clear ho hb hp
      have hlenP : P.length ≤ 10 := by
        have h1 := congrArg List.length HP.out
        rw [List.length_append, Cd.put_len z] at h1
        have := Cd.need_le (u := z) HZL.out
        omega
      have v64 : (v : Int) < 18446744073709551616 := by have := HZL.out; omega
      obtain ⟨q, hq⟩ : ∃ q, q = (L ++ P).length := ⟨_, rfl⟩
      rw [← hq] at HO ⊢
      have HQ := Lib.hid hq
      have hq2 : q ≤ 100000010 := by rw [hq, List.length_append]; omega
      clear hq
      by_cases hlt : 127 < v
      · have t2 : (127 : Int) < (v : Int) := by omega
        have hor := or128 v
        go_wp2_with (at_builtin; refine wpList_append_bytes rfl (.tmp 18) (.tmp 22) rfl w.heap.size _ _ (L ++ P) [Cd.byte (v % 128 + 128)] rfl (OwnB.alloc HO.out _) rfl (wr.heap.size + 1) (one_byte wr _ _ hor) (by have := HQ.out; simp only [List.length_singleton]; omega) (by have := HBL.out.size; simp; omega) (q + 1) (by have := HQ.out; simp only [List.length_singleton]; omega) ?_)
        intro a3 cap3 w3 own3 grow3
        have BEL := Lib.hid (below_grownB (HBL.out.alloc HBL.out.size _) (by have := HBL.out.size; simp; omega) (OwnB.alloc HO.out _) grow3)
        have OWN := Lib.hid own3
        clear own3 grow3 hor
        go_wp2_with fail
        go_roundw
        case rel => exact ⟨v / 128, P ++ [Cd.byte (v % 128 + 128)], by go_num, by rw [List.append_assoc, List.singleton_append, ← Cd.put_big hlt]; exact HP.out, by omega, by first | exact OWN.out | (rw [← List.append_assoc]; exact OWN.out), BEL.out⟩
        case measure => simp [intOf]; omega
      · have t2 : ¬ (127 : Int) < (v : Int) := by omega
        have hlo := low8 v
        have hend : Hid (Cd.putI n = P ++ [Cd.byte v]) := Lib.hid (by rw [hput.out, ← HP.out, Cd.put_small hlt])
        go_wp2_with (at_builtin; refine wpList_append_bytes rfl (.tmp 26) (.tmp 29) rfl w.heap.size _ _ (L ++ P) [Cd.byte v] rfl (OwnB.alloc HO.out _) rfl (wr.heap.size + 1) (one_byte wr _ _ hlo) (by have := HQ.out; simp only [List.length_singleton]; omega) (by have := HBL.out.size; simp; omega) (q + 1) (by have := HQ.out; simp only [List.length_singleton]; omega) ?_)
        intro a3 cap3 w3 own3 grow3
        have BEL := Lib.hid (below_grownB (HBL.out.alloc HBL.out.size _) (by have := HBL.out.size; simp; omega) (OwnB.alloc HO.out _) grow3)
        have OWN := Lib.hid own3
        clear own3 grow3 hlo
        go_wp2_with fail
        go_ret
        exact ⟨_, rfl, by rw [hend.out]; first | exact OWN.out | (rw [← List.append_assoc]; exact OWN.out), BEL.out⟩
/-- the length written out -/
theorem own_len {base : Nat} {w : World} {v : Value} {l : List B} {n : Nat} (h : OwnB base w v l) (hn : l.length = n) : ∃ a cap, v = .slice a n cap := by
  subst hn; exact h.form
theorem rputint_to (k : Nat) (L : List B) (bv0 : Value) (w : World) (hk : k ≤ 100000000) (hL : L.length ≤ 100000000) (hb : HasB w w.heap.size bv0 L) :
    Calls Tryz.prog 70 #[bv0, .int .i64 (k : Int)] w fun e w' => ∃ v, e = .returned v ∧ OwnB w.heap.size w' v (L ++ Cd.putI k) ∧ Below w.heap.size w w' :=
  rputint_any k L bv0 w (WalkArith.wf_i64 (by omega)) hL hb
theorem putI_len (k : Nat) (hk : k ≤ 100000000) : (Cd.putI (k : Int)).length ≤ 10 := by
  unfold Cd.putI
  rw [Cd.put_len]
  exact Cd.need_le (Cd.zig_lt (by unfold Cd.InR; omega))
set_option maxHeartbeats 1000000 in
theorem rputbytes_any (L D : List B) (bv0 dv : Value) (w : World) (hL : L.length ≤ 100000000) (hD : D.length ≤ 100000000) (hb : HasB w w.heap.size bv0 L) (hd : HasB w w.heap.size dv D) :
    Calls Tryz.prog 71 #[bv0, dv] w fun e w' => ∃ v, e = .returned v ∧ OwnB w.heap.size w' v (L ++ Cd.putB D) ∧ Below w.heap.size w w' := by
  obtain ⟨a, cap, rfl⟩ := hd.form
  have HD := Lib.hid hd
  have C := Lib.hid (rputint_to D.length L bv0 w hD hL hb)
  have hlen := putI_len D.length hD
  obtain ⟨m, hm⟩ : ∃ m, m = D.length := ⟨_, rfl⟩
  rw [← hm] at HD C ⊢
  have HM := Lib.hid hm
  rw [← hm] at hlen hD
  clear hm hd hb
  go_enter Tryz.func71, Tryz.ntmps71
  go_wp2_with fail
  refine (C.out).mono ?_; rintro e w1 ⟨v1, rfl, o1, b1⟩
  have O1 := Lib.hid o1; have B1 := Lib.hid b1
  obtain ⟨q, hq⟩ : ∃ q, q = (L ++ Cd.putI (m : Int)).length := ⟨_, rfl⟩
  have hq2 : q ≤ 100000010 := by rw [hq, List.length_append]; omega
  have HQ := Lib.hid hq
  clear o1 b1 hq
  go_wp2_with (at_builtin; refine wpList_append_bytes rfl (.tmp 8) (.tmp 9) rfl w.heap.size _ _ (L ++ Cd.putI (m : Int)) D rfl O1.out rfl w.heap.size (HD.out.below B1.out (Nat.le_refl _)) (by have := HQ.out; have := HM.out; omega) B1.out.size (q + m) (by have := HQ.out; have := HM.out; omega) ?_)
  intro a3 cap3 w3 own3 grow3
  have BEL := Lib.hid (below_grownB B1.out B1.out.size O1.out grow3)
  have OWN := Lib.hid own3
  clear own3 grow3
  go_wp2_with fail
  go_ret
  exact ⟨_, rfl, by rw [Cd.putB, ← HM.out]; first | exact OWN.out | (rw [← List.append_assoc]; exact OWN.out), BEL.out⟩
end Go.Proofs.YtgkckomccabmlaaGreatDoor
namespace Go.Proofs.YtgkckomccabmlaaGreatDoor
open Go.ChangeShapes Go.WideShapes Go.ChangeAt Go.RowKit
open Dg (W B)
theorem byte_mod (n : Nat) : Cd.byte (n % 256) = Cd.byte n := by unfold Cd.byte; apply BitVec.eq_of_toNat_eq; simp
theorem putD_take (d : W) (j s : Nat) (hj : j < 8) (hs : s = 56 - 8 * j) : (Cd.putD d).take (j + 1) = (Cd.putD d).take j ++ [Cd.byte (d.toNat / 2 ^ s)] := by
  subst hs
  rw [← byte_mod]
  have : j = 0 ∨ j = 1 ∨ j = 2 ∨ j = 3 ∨ j = 4 ∨ j = 5 ∨ j = 6 ∨ j = 7 := by omega
  rcases this with rfl | rfl | rfl | rfl | rfl | rfl | rfl | rfl <;> simp [Cd.putD]
theorem low_shift (d : W) (s : Nat) : IntKind.u8.wrap (uv d / (2 : Int) ^ s) = bv (Cd.byte (d.toNat / 2 ^ s)) := by
  have e : uv d / (2 : Int) ^ s = ((d.toNat / 2 ^ s : Nat) : Int) := by unfold uv; rw [Int.natCast_ediv]; simp
  rw [e, low8]
def DRel (L : List B) (d : W) (w : World) (out i : Value) (wr : World) : Prop := ∃ j : Nat, j ≤ 8 ∧ i = .int .i64 (56 - 8 * (j : Int)) ∧ OwnB w.heap.size wr out (L ++ (Cd.putD d).take j) ∧ Below w.heap.size w wr
set_option maxHeartbeats 1000000 in
theorem rputdigest_any (d : W) (L : List B) (bv0 : Value) (w : World) (hL : L.length ≤ 300000100) (hb : HasB w w.heap.size bv0 L) :
    Calls Tryz.prog 72 #[bv0, .int .u64 (uv d)] w fun e w' => ∃ v, e = .returned v ∧ OwnB w.heap.size w' v (L ++ Cd.putD d) ∧ Below w.heap.size w w' := by
  obtain ⟨a, cap, rfl⟩ := hb.form
  obtain ⟨m, hm⟩ : ∃ m, m = L.length := ⟨_, rfl⟩
  rw [← hm] at hb ⊢
  have HM := Lib.hid hm; have HB := Lib.hid hb
  clear hm hb
  go_enter Tryz.func72, Tryz.ntmps72
  go_wp2_with (at_builtin; refine wpList_append_bytes rfl (.const (.slice none 0 0)) (.tmp 7) rfl w.heap.size _ _ [] L rfl (OwnB.nil w _) rfl w.heap.size HB.out (by have := HM.out; simp; omega) (Nat.le_refl _) m (by have := HM.out; simp; omega) ?_)
  intro a1 cap1 w1 own1 grow1
  have OWN1 := Lib.hid own1
  have BEL1 := Lib.hid (below_grownB (Below.refl _ _) (Nat.le_refl _) (OwnB.nil w w.heap.size) grow1)
  clear own1 grow1
  go_wp2
  go_loopw [5, 6] (DRel L d w) (fun _ i _ => (intOf i + 8).toNat)
  case atStart => exact ⟨0, by omega, rfl, by rw [List.take_zero, List.append_nil]; exact OWN1.out, BEL1.out⟩
  case round =>
    obtain ⟨j, hj, rfl, ho, hb⟩ := hrel
    have HO := Lib.hid ho; have HBL := Lib.hid hb
    obtain ⟨a2, cap2, hform⟩ := ho.form
    subst hform
    clear ho hb
    obtain ⟨q, hq⟩ : ∃ q, q = (L ++ (Cd.putD d).take j).length := ⟨_, rfl⟩
    rw [← hq] at HO ⊢
    have HQ := Lib.hid hq
    have hq2 : q ≤ 300000108 := by rw [hq, List.length_append, List.length_take, Cd.putD_len]; omega
    clear hq
    by_cases hlt : j < 8
    · obtain ⟨s, hs⟩ : ∃ s : Nat, (56 : Int) - 8 * (j : Int) = s := ⟨56 - 8 * j, by omega⟩
      have hs60 : s ≤ 60 := by omega
      have HT := Lib.hid (putD_take d j s hlt (by omega))
      have hlo := low_shift d s
      rw [hs]
      have HS := Lib.hid hs
      clear hs
      go_wp2_with (at_builtin; refine wpList_append_bytes rfl (.tmp 13) (.tmp 19) rfl w.heap.size _ _ (L ++ (Cd.putD d).take j) [Cd.byte (d.toNat / 2 ^ s)] rfl (OwnB.alloc HO.out _) rfl (wr.heap.size + 1) (one_byte wr _ _ hlo) (by have := HQ.out; simp only [List.length_singleton]; omega) (by have := HBL.out.size; simp; omega) (q + 1) (by have := HQ.out; simp only [List.length_singleton]; omega) ?_)
      intro a3 cap3 w3 own3 grow3
      have BEL := Lib.hid (below_grownB (HBL.out.alloc HBL.out.size _) (by have := HBL.out.size; simp; omega) (OwnB.alloc HO.out _) grow3)
      have OWN := Lib.hid own3
      clear own3 grow3 hlo
      go_wp2_with fail
      go_roundw
      case rel => exact ⟨j + 1, by omega, by have := HS.out; go_num, by rw [HT.out]; first | exact OWN.out | (rw [← List.append_assoc]; exact OWN.out), BEL.out⟩
      case measure => have := HS.out; simp [intOf]; omega
    · obtain rfl : j = 8 := by omega
      go_wp2_with fail
      go_ret
      exact ⟨_, rfl, HO.out, HBL.out⟩
end Go.Proofs.YtgkckomccabmlaaGreatDoor
namespace Go.Proofs.YtgkckomccabmlaaGreatDoor
open Go.ChangeShapes Go.WideShapes Go.ChangeAt Go.RowKit
open Dg (W B)
namespace Cd
/-- what reading at a position gives: the value, the position behind it, the error -/
def at3 {α : Type} (z : α) (L : List B) (at_ : Int) (f : List B → R α) : α × Int × Int :=
  if at_ < 0 ∨ (L.length : Int) < at_ then (z, at_, 2) else match f (L.drop at_.toNat) with
    | .ok x k => (x, at_ + k, 0)
    | .bad c => (z, at_, c)
end Cd
set_option maxRecDepth 100000 in
theorem and127 (c : B) : IntKind.u64.wrap (bits .and .u8 (bv c) 127) = ((c.toNat % 128 : Nat) : Int) := by
  have h : ∀ c : Fin 256, bits .and .u8 ((c.val : Nat) : Int) 127 = ((c.val % 128 : Nat) : Int) := by decide
  have := h ⟨c.toNat, c.isLt⟩
  unfold bv
  rw [this, IntKind.wrap_u64]
  simp only []
  omega
theorem or_shift (acc x i : Nat) (hi : i ≤ 9) (ha : acc < 128 ^ i) (hx : x < 128) (h9 : i = 9 → x ≤ 1) : bits .or .u64 (acc : Int) (IntKind.u64.wrap ((x : Int) * 2 ^ (7 * i))) = ((acc + x * 128 ^ i : Nat) : Int) := by
  have hp : (128 : Nat) ^ i = 2 ^ (7 * i) := by rw [show (128 : Nat) = 2 ^ 7 by decide, ← Nat.pow_mul]
  have hlt : x * 2 ^ (7 * i) < 18446744073709551616 - 2 ^ (7 * i) + 1 := by
    rcases Nat.lt_or_ge i 9 with h | h
    · have h1 : 2 ^ (7 * i) ≤ 2 ^ 56 := Nat.pow_le_pow_right (by decide) (by omega)
      have h2 : x * 2 ^ (7 * i) ≤ 127 * 2 ^ (7 * i) := Nat.mul_le_mul_right _ (by omega)
      have h3 : (127 : Nat) * 2 ^ (7 * i) ≤ 127 * 2 ^ 56 := Nat.mul_le_mul_left _ h1
      omega
    · obtain rfl : i = 9 := by omega
      have := h9 rfl
      have h2 : x * 2 ^ 63 ≤ 1 * 2 ^ 63 := Nat.mul_le_mul_right _ this
      show x * 2 ^ 63 < _
      omega
  have ha' : acc < 2 ^ (7 * i) := by rw [← hp]; exact ha
  have hpow : (2 : Nat) ^ (7 * i) ≤ 9223372036854775808 := Nat.pow_le_pow_right (n := 2) (by decide) (show 7 * i ≤ 63 by omega)
  have hs : x * 2 ^ (7 * i) + acc < 18446744073709551616 := by omega
  have e1 : IntKind.u64.wrap ((x : Int) * 2 ^ (7 * i)) = uv (BitVec.ofNat 64 (x * 2 ^ (7 * i))) := by
    unfold uv
    rw [IntKind.wrap_u64, BitVec.toNat_ofNat, Nat.mod_eq_of_lt (by omega)]
    have : ((x : Int) * 2 ^ (7 * i)) = ((x * 2 ^ (7 * i) : Nat) : Int) := by push_cast; rfl
    rw [this]; omega
  have e2 : (acc : Int) = uv (BitVec.ofNat 64 acc) := by
    unfold uv
    rw [BitVec.toNat_ofNat, Nat.mod_eq_of_lt (by omega)]
  rw [e1, e2, uv_or]
  unfold uv
  rw [BitVec.toNat_or, BitVec.toNat_ofNat, BitVec.toNat_ofNat, Nat.mod_eq_of_lt (by omega), Nat.mod_eq_of_lt (by omega), Nat.or_comm, Nat.mul_comm x, ← Nat.two_pow_add_eq_or_of_lt ha', hp, Nat.mul_comm x, Nat.add_comm]
theorem zag_odd (u : Nat) (h : u < 18446744073709551616) (h1 : u % 2 = 1) : wrap64 (bits .xor .u64 IntKind.u64.max ((u : Int) / 2)) = Cd.zag u := by
  have e : ((u : Int) / 2) = uv (BitVec.ofNat 64 (u / 2)) := by
    unfold uv
    rw [BitVec.toNat_ofNat, Nat.mod_eq_of_lt (by omega)]
    omega
  rw [e, xor_max, ← e]
  unfold Cd.zag wrap64
  rw [if_pos h1]
  omega
theorem zag_even (u : Nat) (h : u < 18446744073709551616) (h1 : ¬ u % 2 = 1) : wrap64 ((u : Int) / 2) = Cd.zag u := by
  unfold Cd.zag wrap64
  rw [if_neg h1]
  omega
theorem and_one (u : Nat) (h : u < 18446744073709551616) : bits .and .u64 (u : Int) 1 = ((u % 2 : Nat) : Int) := by
  have e : (u : Int) = uv (BitVec.ofNat 64 u) := by
    unfold uv
    rw [BitVec.toNat_ofNat, Nat.mod_eq_of_lt h]
  rw [e, show (1 : Int) = uv 1#64 by decide, uv_and]
  unfold uv
  rw [BitVec.toNat_and, BitVec.toNat_ofNat, Nat.mod_eq_of_lt h, show (1#64).toNat = 2 ^ 1 - 1 by decide, Nat.and_two_pow_sub_one_eq_mod]
def numRes (p : Nat) : Cd.R Int → Value
  | .ok n k => .tuple #[.int .i64 n, .int .i64 ((p : Int) + k), .int .i64 0]
  | .bad c => .tuple #[.int .i64 0, .int .i64 p, .int .i64 c]
def IRel (L : List B) (p : Nat) (w : World) (u i : Value) (wr : World) : Prop :=
  ∃ (k acc : Nat), k ≤ 9 ∧ u = .int .u64 (acc : Int) ∧ i = .int .i64 (k : Int) ∧ acc < 128 ^ k ∧ p + k ≤ L.length ∧ Cd.rd 0 0 (L.drop p) = Cd.rd k acc (L.drop (p + k)) ∧ w = wr
theorem drop_cons {L : List B} {j : Nat} (h : j < L.length) : L.drop j = L.getD j 0 :: L.drop (j + 1) := by
  rw [List.drop_eq_getElem_cons h]
  simp [List.getD, h]
theorem rd_step (t : List B) (i acc : Nat) (c : B) (cv : Nat) (hc : cv = c.toNat) (h : ¬ ((i = 9 ∧ 1 < cv) ∨ (0 < i ∧ cv = 0))) :
    Cd.rd i acc (c :: t) = if cv < 128 then .ok (acc + cv % 128 * 128 ^ i) (i + 1) else Cd.rd (i + 1) (acc + cv % 128 * 128 ^ i) t := by
  subst hc
  have := c.isLt
  rw [Cd.rd, if_neg h]
  split
  · rename_i hs; rw [Nat.mod_eq_of_lt hs]
  · rename_i hs; rw [show c.toNat % 128 = c.toNat - 128 by omega]
set_option maxRecDepth 100000 in
set_option maxHeartbeats 2000000 in
theorem rint_in (L : List B) (p : Nat) (v : Value) (w : World) (hp : p ≤ L.length) (hL : L.length ≤ 300000000) (h : HasB w w.heap.size v L) :
    Calls Tryz.prog 52 #[v, .int .i64 (p : Int)] w fun e w' => e = .returned (numRes p (Cd.getI (L.drop p))) ∧ w = w' := by
  obtain ⟨a, cap, rfl⟩ := h.form
  obtain ⟨m, hm⟩ : ∃ m, m = L.length := ⟨_, rfl⟩
  rw [← hm] at h hp hL ⊢
  have HM := Lib.hid hm; have H := Lib.hid h
  have t1 : decide ((p : Int) < 0) = false := decide_eq_false (by omega)
  have t2 : decide (m < p) = false := decide_eq_false (by omega)
  clear hm h
  go_enter Tryz.func52, Tryz.ntmps52
  go_wp2_with fail
  go_loopw [7, 8] (IRel L p w) (fun _ i _ => 10 - (intOf i).toNat)
  case atStart => exact ⟨0, 0, by omega, rfl, rfl, by simp, by have := HM.out; omega, by simp, rfl⟩
  case round =>
    obtain ⟨k, acc, hk, rfl, rfl, hacc, hpk, hrd, rfl⟩ := hrel
    have HRD := Lib.hid hrd; clear hrd
    have HPK := Lib.hid hpk; clear hpk
    have HACC := Lib.hid hacc; clear hacc
    have k9 : k ≤ 9 := hk
    by_cases hend : m ≤ p + k
    · have hnil : L.drop (p + k) = [] := List.drop_eq_nil_of_le (by have := HM.out; omega)
      have hres : Cd.getI (L.drop p) = .bad 5 := by unfold Cd.getI; rw [HRD.out, hnil]; rfl
      have HRES := Lib.hid hres; clear hres hnil
      have t3 : (m : Int) ≤ (p : Int) + (k : Int) := by omega
      go_wp2_with fail
      go_ret3
      exact ⟨by rw [HRES.out]; rfl, rfl⟩
    · have t3 : ¬ (m : Int) ≤ (p : Int) + (k : Int) := by omega
      obtain ⟨b', off', rfl, hcell⟩ := H.out.at (p + k) (by omega)
      have hcons := drop_cons (L := L) (j := p + k) (by have := HM.out; omega)
      generalize L.getD (p + k) 0 = c at hcell hcons
      have HC := Lib.hid hcons; clear hcons
      obtain ⟨j, hj⟩ : ∃ j, j = p + k := ⟨_, rfl⟩
      have hjI : (p : Int) + (k : Int) = (j : Int) := by omega
      have hjm : j < m := by omega
      rw [← hj] at hcell HC HRD
      have HJ := Lib.hid hj; clear hj
      obtain ⟨cv, hcv⟩ : ∃ cv, cv = c.toNat := ⟨_, rfl⟩
      have hbn : bv c = (cv : Int) := by rw [hcv]; rfl
      have c256 : cv < 256 := by rw [hcv]; exact c.isLt
      rw [hbn] at hcell
      have HCV := Lib.hid hcv
      have HAND : Hid (IntKind.u64.wrap (bits .and .u8 (cv : Int) 127) = ((cv % 128 : Nat) : Int)) := Lib.hid (by have := and127 c; rw [hbn, ← hcv] at this; exact this)
      clear hbn hcv
      by_cases hbad : (k = 9 ∧ 1 < cv) ∨ (0 < k ∧ cv = 0)
      · have hres : Cd.getI (L.drop p) = .bad 4 := by unfold Cd.getI; rw [HRD.out, HC.out, Cd.rd, ← HCV.out, if_pos hbad]
        have HRES := Lib.hid hres; clear hres
        rcases hbad with ⟨hb9, hb⟩ | ⟨hb, hc0⟩
        · subst hb9
          have hj9 : (p : Int) + 9 = (j : Int) := by omega
          have hj3 : ¬ (m : Int) ≤ (j : Int) := by omega
          have q1 : (1 : Int) < (cv : Int) := by omega
          go_wp2_with fail
          go_ret3
          exact ⟨by rw [HRES.out]; rfl, rfl⟩
        · subst hc0
          have q2 : (0 : Int) < (k : Int) := by omega
          by_cases h9 : k = 9
          · subst h9
            have hj9 : (p : Int) + 9 = (j : Int) := by omega
            have hj3 : ¬ (m : Int) ≤ (j : Int) := by omega
            go_wp2_with fail
            go_ret3
            exact ⟨by rw [HRES.out]; rfl, rfl⟩
          · have q3 : ((k : Int) == 9) = false := by rw [beq_eq_false_iff_ne]; omega
            go_wp2_with fail
            go_ret3
            exact ⟨by rw [HRES.out]; rfl, rfl⟩
      · have hok := rd_step (L.drop (j + 1)) k acc c cv HCV.out hbad
        have HOK := Lib.hid hok; clear hok
        have hor := or_shift acc (cv % 128) k k9 HACC.out (by omega) (by omega)
        have hand := HAND.out
        obtain ⟨sh, hsh⟩ : ∃ sh : Nat, sh = 7 * k := ⟨_, rfl⟩
        rw [← hsh] at hor
        have hways : (k = 9 ∧ cv = 1) ∨ (k = 0) ∨ (0 < k ∧ k < 9 ∧ 0 < cv) := by omega
        have hj3 : ¬ (m : Int) ≤ (j : Int) := by omega
        obtain ⟨u, hu⟩ : ∃ u, u = acc + cv % 128 * 128 ^ k := ⟨_, rfl⟩
        have hulo : u < 128 ^ (k + 1) := by
          have h1 : cv % 128 * 128 ^ k ≤ 127 * 128 ^ k := Nat.mul_le_mul_right _ (by omega)
          have := HACC.out
          rw [hu, Nat.pow_succ]; omega
        have hu64 : u < 18446744073709551616 := by
          rcases Nat.lt_or_ge k 9 with h | h
          · have : (128 : Nat) ^ (k + 1) ≤ 128 ^ 9 := Nat.pow_le_pow_right (by decide) (by omega)
            exact Nat.lt_of_lt_of_le hulo (Nat.le_trans this (by decide))
          · obtain rfl : k = 9 := by omega
            have := HACC.out
            have h1 : cv % 128 ≤ 1 := by omega
            rw [hu]
            have h2 : cv % 128 * 128 ^ 9 ≤ 1 * 128 ^ 9 := Nat.mul_le_mul_right _ h1
            have h3 : (128 : Nat) ^ 9 = 9223372036854775808 := by decide
            omega
        rw [← hu] at hor HOK
        have HU := Lib.hid hu; have HULO := Lib.hid hulo
        rw [hand.symm] at hor
        clear hu hulo
        by_cases hsm : cv < 128
        · have hres : Cd.getI (L.drop p) = .ok (Cd.zag u) (k + 1) := by unfold Cd.getI; rw [HRD.out, HC.out, HOK.out, if_pos hsm]
          have HRES := Lib.hid hres; clear hres
          have hsmI : (cv : Int) < 128 := by omega
          have hone := and_one u hu64
          have hfin : Hid ((p : Int) + ((k + 1 : Nat) : Int) = (j : Int) + 1) := Lib.hid (by omega)
          by_cases hodd : u % 2 = 1
          · have hz2 := zag_odd u hu64 hodd
            rw [hodd] at hone
            clear hu64 hodd
            generalize Cd.zag u = zv at hz2 HRES
            rcases hways with ⟨h9, hc1⟩ | h0 | ⟨h0, h9, hc1⟩
            · subst h9; subst hc1
              have hj9 : (p : Int) + 9 = (j : Int) := by omega
              have e63 : (2 : Int) ^ sh = 9223372036854775808 := by rw [hsh]; decide
              clear hsh
              have hor9 : bits .or .u64 (acc : Int) (IntKind.u64.wrap (IntKind.u64.wrap (bits .and .u8 1 127) * 9223372036854775808)) = (u : Int) := by rw [e63] at hor; exact hor
              clear hor hand e63
              go_wp2_with fail
              go_ret3
              exact ⟨by rw [HRES.out, numRes, hfin.out]; rfl, rfl⟩
            · have q3 : ((k : Int) == 9) = false := by rw [beq_eq_false_iff_ne]; omega
              have q2 : ¬ (0 : Int) < (k : Int) := by omega
              have h7 : (7 : Int) * (k : Int) = (sh : Int) := by omega
              have hs60 : sh ≤ 60 := by omega
              clear hand h0 hsh
              go_wp2_with fail
              go_ret3
              exact ⟨by rw [HRES.out, numRes, hfin.out]; rfl, rfl⟩
            · have q3 : ((k : Int) == 9) = false := by rw [beq_eq_false_iff_ne]; omega
              have q2 : (0 : Int) < (k : Int) := by omega
              have q4 : ((cv : Int) == 0) = false := by rw [beq_eq_false_iff_ne]; omega
              have h7 : (7 : Int) * (k : Int) = (sh : Int) := by omega
              have hs60 : sh ≤ 60 := by omega
              clear hand h0 hc1 hsh
              go_wp2_with fail
              go_ret3
              exact ⟨by rw [HRES.out, numRes, hfin.out]; rfl, rfl⟩
          · have hz2 := zag_even u hu64 hodd
            rw [show u % 2 = 0 by omega] at hone
            clear hu64 hodd
            generalize Cd.zag u = zv at hz2 HRES
            rcases hways with ⟨h9, hc1⟩ | h0 | ⟨h0, h9, hc1⟩
            · subst h9; subst hc1
              have hj9 : (p : Int) + 9 = (j : Int) := by omega
              have e63 : (2 : Int) ^ sh = 9223372036854775808 := by rw [hsh]; decide
              clear hsh
              have hor9 : bits .or .u64 (acc : Int) (IntKind.u64.wrap (IntKind.u64.wrap (bits .and .u8 1 127) * 9223372036854775808)) = (u : Int) := by rw [e63] at hor; exact hor
              clear hor hand e63
              go_wp2_with fail
              go_ret3
              exact ⟨by rw [HRES.out, numRes, hfin.out]; rfl, rfl⟩
            · have q3 : ((k : Int) == 9) = false := by rw [beq_eq_false_iff_ne]; omega
              have q2 : ¬ (0 : Int) < (k : Int) := by omega
              have h7 : (7 : Int) * (k : Int) = (sh : Int) := by omega
              have hs60 : sh ≤ 60 := by omega
              clear hand h0 hsh
              go_wp2_with fail
              go_ret3
              exact ⟨by rw [HRES.out, numRes, hfin.out]; rfl, rfl⟩
            · have q3 : ((k : Int) == 9) = false := by rw [beq_eq_false_iff_ne]; omega
              have q2 : (0 : Int) < (k : Int) := by omega
              have q4 : ((cv : Int) == 0) = false := by rw [beq_eq_false_iff_ne]; omega
              have h7 : (7 : Int) * (k : Int) = (sh : Int) := by omega
              have hs60 : sh ≤ 60 := by omega
              clear hand h0 hc1 hsh
              go_wp2_with fail
              go_ret3
              exact ⟨by rw [HRES.out, numRes, hfin.out]; rfl, rfl⟩
        · have hk8 : k ≤ 8 := by omega
          have hsmI : ¬ (cv : Int) < 128 := by omega
          have hnext : Hid (Cd.rd 0 0 (L.drop p) = Cd.rd (k + 1) u (L.drop (j + 1))) := Lib.hid (by rw [HRD.out, HC.out, HOK.out, if_neg hsm])
          have hj1 := HJ.out
          clear hu64
          by_cases hk0 : k = 0
          · have q3 : ((k : Int) == 9) = false := by rw [beq_eq_false_iff_ne]; omega
            have q2 : ¬ (0 : Int) < (k : Int) := by omega
            have h7 : (7 : Int) * (k : Int) = (sh : Int) := by omega
            have hs60 : sh ≤ 60 := by omega
            clear hand hk0 hways hj1 hsh
            go_wp2_with fail
            go_roundw
            case rel => exact ⟨k + 1, u, by omega, rfl, by go_num, HULO.out, by have := HJ.out; have := HM.out; omega, by rw [hnext.out, HJ.out]; rfl, rfl⟩
            case measure => simp [intOf]; omega
          · have q3 : ((k : Int) == 9) = false := by rw [beq_eq_false_iff_ne]; omega
            have q2 : (0 : Int) < (k : Int) := by omega
            have q4 : ((cv : Int) == 0) = false := by rw [beq_eq_false_iff_ne]; omega
            have h7 : (7 : Int) * (k : Int) = (sh : Int) := by omega
            have hs60 : sh ≤ 60 := by omega
            clear hand hk0 hways hj1 hsh
            go_wp2_with fail
            go_roundw
            case rel => exact ⟨k + 1, u, by omega, rfl, by go_num, HULO.out, by have := HJ.out; have := HM.out; omega, by rw [hnext.out, HJ.out]; rfl, rfl⟩
            case measure => simp [intOf]; omega
end Go.Proofs.YtgkckomccabmlaaGreatDoor
namespace Go.Proofs.YtgkckomccabmlaaGreatDoor
open Go.ChangeShapes Go.WideShapes Go.ChangeAt Go.RowKit
open Dg (W B)
theorem rint_out (L : List B) (p : Int) (v : Value) (w : World) (hp : p < 0 ∨ (L.length : Int) < p) (h : HasB w w.heap.size v L) :
    Calls Tryz.prog 52 #[v, .int .i64 p] w fun e w' => e = .returned (.tuple #[.int .i64 0, .int .i64 p, .int .i64 2]) ∧ w = w' := by
  obtain ⟨a, cap, rfl⟩ := h.form
  by_cases h1 : p < 0
  · have t1 : decide (p < 0) = true := decide_eq_true h1
    clear h hp h1
    go_enter Tryz.func52, Tryz.ntmps52
    go_wp2_with fail
    go_ret3
    exact ⟨rfl, rfl⟩
  · have t1 : decide (p < 0) = false := decide_eq_false h1
    have t2 : decide ((L.length : Int) < p) = true := decide_eq_true (by omega)
    clear h hp h1
    go_enter Tryz.func52, Tryz.ntmps52
    go_wp2_with fail
    go_ret3
    exact ⟨rfl, rfl⟩
theorem rint_ok (L : List B) (p k : Nat) (n : Int) (v : Value) (w : World) (hp : p ≤ L.length) (hL : L.length ≤ 300000000) (h : HasB w w.heap.size v L) (hr : Cd.getI (L.drop p) = .ok n k) :
    Calls Tryz.prog 52 #[v, .int .i64 (p : Int)] w fun e w' => e = .returned (.tuple #[.int .i64 n, .int .i64 ((p + k : Nat) : Int), .int .i64 0]) ∧ w = w' := by
  refine (rint_in L p v w hp hL h).mono ?_
  rintro e w' ⟨rfl, rfl⟩
  exact ⟨by rw [hr, numRes]; rfl, rfl⟩
theorem rint_bad (L : List B) (p c : Nat) (v : Value) (w : World) (hp : p ≤ L.length) (hL : L.length ≤ 300000000) (h : HasB w w.heap.size v L) (hr : Cd.getI (L.drop p) = .bad c) :
    Calls Tryz.prog 52 #[v, .int .i64 (p : Int)] w fun e w' => e = .returned (.tuple #[.int .i64 0, .int .i64 (p : Int), .int .i64 (c : Int)]) ∧ w = w' := by
  refine (rint_in L p v w hp hL h).mono ?_
  rintro e w' ⟨rfl, rfl⟩
  exact ⟨by rw [hr, numRes], rfl⟩
theorem rd_code : ∀ (l : List B) (i acc c : Nat), Cd.rd i acc l = .bad c → c = 4 ∨ c = 5
  | [], i, acc, c, h => by simp [Cd.rd] at h; omega
  | x :: t, i, acc, c, h => by
    rw [Cd.rd] at h
    split at h
    · simp at h; omega
    · split at h
      · cases h
      · exact rd_code t _ _ c h
theorem getI_code {l : List B} {c : Nat} (h : Cd.getI l = .bad c) : c = 4 ∨ c = 5 := by
  unfold Cd.getI at h
  split at h
  · cases h
  · rename_i c' hr
    simp at h; subst h
    exact rd_code _ _ _ _ hr
theorem rbytes_out (L : List B) (p : Int) (v : Value) (w : World) (hp : p < 0 ∨ (L.length : Int) < p) (h : HasB w w.heap.size v L) :
    Calls Tryz.prog 54 #[v, .int .i64 p] w fun e w' => e = .returned (.tuple #[.slice none 0 0, .int .i64 p, .int .i64 2]) ∧ w = w' := by
  have C := Lib.hid (rint_out L p v w hp h)
  obtain ⟨a, cap, rfl⟩ := h.form
  clear h hp
  go_enter Tryz.func54, Tryz.ntmps54
  go_wp2_with fail
  refine (C.out).mono ?_; rintro e w' ⟨rfl, rfl⟩
  go_wp2_with fail
  go_ret3
  exact ⟨rfl, rfl⟩
theorem rbytes_bad (L : List B) (p c : Nat) (v : Value) (w : World) (hp : p ≤ L.length) (hL : L.length ≤ 300000000) (h : HasB w w.heap.size v L) (hr : Cd.getB (L.drop p) = .bad c) :
    Calls Tryz.prog 54 #[v, .int .i64 (p : Int)] w fun e w' => e = .returned (.tuple #[.slice none 0 0, .int .i64 (p : Int), .int .i64 (c : Int)]) ∧ w = w' := by
  unfold Cd.getB at hr
  obtain ⟨a, cap, hv⟩ := h.form
  cases hI : Cd.getI (L.drop p) with
  | bad c' =>
    rw [hI] at hr
    simp only [Cd.R.bad.injEq] at hr
    subst hr
    have C := Lib.hid (rint_bad L p c' v w hp hL h hI)
    have hc := getI_code hI
    have t1 : ((c' : Int) != 0) = true := by rw [bne_iff_ne]; omega
    subst hv
    clear h hp hI hc
    go_enter Tryz.func54, Tryz.ntmps54
    go_wp2_with fail
    refine (C.out).mono ?_; rintro e w' ⟨rfl, rfl⟩
    go_wp2_with fail
    go_ret3
    exact ⟨rfl, rfl⟩
  | ok n k =>
    rw [hI] at hr
    simp only [] at hr
    have C := Lib.hid (rint_ok L p k n v w hp hL h hI)
    obtain ⟨e1, e2, e3, e4⟩ := Cd.getI_inv hI
    rw [List.length_drop] at e3
    subst hv
    unfold Cd.InR at e1
    by_cases hneg : n < 0
    · rw [if_pos hneg] at hr
      simp only [Cd.R.bad.injEq] at hr
      subst hr
      have t1 : decide (n < 0) = true := decide_eq_true hneg
      clear h hp hI e1 e2 e3 e4 hneg
      go_enter Tryz.func54, Tryz.ntmps54
      go_wp2_with fail
      refine (C.out).mono ?_; rintro e w' ⟨rfl, rfl⟩
      go_wp2_with fail
      go_ret3
      exact ⟨rfl, rfl⟩
    · rw [if_neg hneg] at hr
      split at hr
      · rename_i hlong
        simp only [Cd.R.bad.injEq] at hr
        subst hr
        have t1 : decide (n < 0) = false := decide_eq_false hneg
        obtain ⟨j, hj⟩ : ∃ j, j = p + k := ⟨_, rfl⟩
        obtain ⟨m, hm⟩ : ∃ m, m = L.length := ⟨_, rfl⟩
        rw [List.length_drop] at hlong
        rw [← hj] at C
        rw [← hm] at C e3 hlong hL hp ⊢
        have t2 : (m : Int) - (j : Int) < n := by omega
        have hjm : j ≤ m := by omega
        clear h hI e1 e2 e3 e4 hneg hlong hj hm hp
        go_enter Tryz.func54, Tryz.ntmps54
        go_wp2_with fail
        refine (C.out).mono ?_; rintro e w' ⟨rfl, rfl⟩
        go_wp2_with fail
        go_ret3
        exact ⟨rfl, rfl⟩
      · cases hr
/-- a part of a slice of bytes -/
theorem bytes_part (b off len cap k m : Nat) (w : World) (h : k ≤ m) (h2 : m ≤ cap) : ∃ a', (∀ x y : Int, x = k → y = m →
    (Instr.slice 24 (.slice (some ⟨b, off, none⟩) len cap) (some (.int .i64 x)) (some (.int .i64 y)) none).run Tryz.prog w = .ok (.slice a' (m - k) (cap - k)) w) ∧ (k < m → a' = some ⟨b, off + k, none⟩) := by
  have he : (sizeOf (Tryz.prog.elem 24)).run Tryz.prog w = .ok 1 w := by kernel_rfl
  have key : ∃ a', (Instr.slice 24 (.slice (some ⟨b, off, none⟩) len cap) (some (.int .i64 (k : Int))) (some (.int .i64 (m : Int))) none).run Tryz.prog w = .ok (.slice a' (m - k) (cap - k)) w ∧ (k < m → a' = some ⟨b, off + k, none⟩) := by
    rw [run_slice_lh w 24 _ len cap (by kernel_rfl) .i64 .i64 (k : Int) (m : Int) (by omega) (by omega) (by omega), he]
    show ∃ a', Result.ok (sliced _ _ _ _ _) w = _ ∧ _
    unfold sliced
    have e1 : ((k : Int)).toNat = k := by omega
    have e2 : ((m : Int)).toNat = m := by omega
    rw [e1, e2]
    split
    · rename_i h0
      exact ⟨_, rfl, fun hk => by omega⟩
    · rename_i h0
      refine ⟨_, rfl, fun hk => ?_⟩
      simp [Addr.add]
  obtain ⟨a', h3, h4⟩ := key
  exact ⟨a', fun x y hx hy => by subst hx; subst hy; exact h3, h4⟩
theorem part_has {w : World} {b off cap k m N : Nat} {L : List B} {a' : Option Addr} (hm : m ≤ L.length) (hk : k ≤ m) (hcap : L.length ≤ cap) (hb : b < N) (hc : ∀ i, i < L.length → w.cell? ⟨b, off + i, none⟩ = some (.int .u8 (bv (L.getD i 0)))) (ha : k < m → a' = some ⟨b, off + k, none⟩) :
    HasB w N (.slice a' (m - k) (cap - k)) ((L.drop k).take (m - k)) := by
  have hl : ((L.drop k).take (m - k)).length = m - k := by simp; omega
  by_cases h : k < m
  · obtain rfl := ha h
    refine .inr ⟨b, off + k, cap - k, by rw [hl], by rw [hl]; omega, hb, fun i hi => ?_⟩
    rw [hl] at hi
    rw [Nat.add_assoc, hc (k + i) (by omega)]
    simp [List.getD, hi, List.getElem?_drop]
  · refine .inl ⟨a', cap - k, by rw [show m - k = 0 by omega], List.length_eq_zero_iff.1 (by omega)⟩
set_option maxRecDepth 100000 in
set_option maxHeartbeats 1000000 in
theorem rbytes_ok (L D : List B) (p k : Nat) (v : Value) (w : World) (hp : p ≤ L.length) (hL : L.length ≤ 300000000) (h : HasB w w.heap.size v L) (hr : Cd.getB (L.drop p) = .ok D k) :
    Calls Tryz.prog 54 #[v, .int .i64 (p : Int)] w fun e w' => ∃ dv, e = .returned (.tuple #[dv, .int .i64 ((p + k : Nat) : Int), .int .i64 0]) ∧ OwnB w.heap.size w' dv D ∧ Below w.heap.size w w' := by
  unfold Cd.getB at hr
  cases hI : Cd.getI (L.drop p) with
  | bad c' => rw [hI] at hr; cases hr
  | ok n j =>
    rw [hI] at hr
    simp only [] at hr
    have C := Lib.hid (rint_ok L p j n v w hp hL h hI)
    obtain ⟨e1, e2, e3, e4⟩ := Cd.getI_inv hI
    rw [List.length_drop] at e3
    unfold Cd.InR at e1
    by_cases hneg : n < 0
    · rw [if_pos hneg] at hr; cases hr
    · rw [if_neg hneg] at hr
      split at hr
      · cases hr
      · rename_i hlong
        simp only [Cd.R.ok.injEq] at hr
        obtain ⟨hD, hk⟩ := hr
        rw [List.length_drop] at hlong
        obtain ⟨q, rfl⟩ : ∃ q : Nat, n = q := ⟨n.toNat, by omega⟩
        rw [Int.toNat_natCast] at hD hk
        rcases h with ⟨a, cap, rfl, rfl⟩ | ⟨b, off, cap, rfl, h2, h3, h4⟩
        · simp at e3; omega
        · obtain ⟨s, hs⟩ : ∃ s, s = p + j := ⟨_, rfl⟩
          obtain ⟨m, hm⟩ : ∃ m, m = s + q := ⟨_, rfl⟩
          obtain ⟨a', hrun, ha⟩ := bytes_part b off L.length cap s m w (by omega) (by omega)
          have hpart : HasB w w.heap.size (.slice a' (m - s) (cap - s)) D := by
            have := part_has (a' := a') (N := w.heap.size) (k := s) (m := m) (by omega) (by omega) h2 h3 h4 ha
            rw [← hD, List.drop_drop, ← hs]
            rw [show m - s = q by omega] at this ⊢
            exact this
          have hDl : D.length = m - s := by rw [← hD]; simp; omega
          rw [← hs] at C
          have hsum : (s : Int) + (q : Int) = (m : Int) := by omega
          have t1 : decide ((q : Int) < 0) = false := decide_eq_false (by omega)
          obtain ⟨ln, hln⟩ : ∃ ln, ln = L.length := ⟨_, rfl⟩
          rw [← hln] at hL hrun C h2 hlong e3 hp ⊢
          have t2 : ¬ (ln : Int) - (s : Int) < (q : Int) := by omega
          have hsl : s ≤ ln := by omega
          have hml : m ≤ ln := by omega
          have hrun2 := hrun s m rfl rfl
          have hkk : Hid (p + k = m) := Lib.hid (by omega)
          have HP := Lib.hid hpart; have HDL := Lib.hid hDl
          obtain ⟨df, hdf⟩ : ∃ df, df = m - s := ⟨_, rfl⟩
          rw [← hdf] at hrun2 HP HDL
          have hdf2 : df ≤ 300000000 := by omega
          clear hI e1 e2 e3 e4 hneg hlong hD hk hs hln hp hrun ha hpart hDl h4 h3 hm hdf
          go_enter Tryz.func54, Tryz.ntmps54
          go_wp2_with fail
          refine (C.out).mono ?_; rintro e w' ⟨rfl, rfl⟩
          go_wp2_with (at_builtin; refine wpList_append_bytes rfl (.const (.slice none 0 0)) (.tmp 39) rfl w.heap.size _ _ [] D rfl (OwnB.nil w _) rfl w.heap.size HP.out (by have := HDL.out; simp; omega) (Nat.le_refl _) df (by have := HDL.out; simp; omega) ?_)
          intro a1 cap1 w1 own1 grow1
          have OWN1 := Lib.hid own1
          have BEL1 := Lib.hid (below_grownB (Below.refl _ _) (Nat.le_refl _) (OwnB.nil w w.heap.size) grow1)
          clear own1 grow1
          go_wp2_with fail
          go_ret3
          exact ⟨_, by rw [hkk.out]; rfl, OWN1.out, BEL1.out⟩
end Go.Proofs.YtgkckomccabmlaaGreatDoor
namespace Go.Proofs.YtgkckomccabmlaaGreatDoor
open Go.ChangeShapes Go.WideShapes Go.ChangeAt Go.RowKit
open Dg (W B)
theorem or8 (a : Nat) (c : B) (cv : Nat) (hc : cv = c.toNat) (ha : a < 72057594037927936) : bits .or .u64 (IntKind.u64.wrap ((a : Int) * 256)) (cv : Int) = ((a * 256 + cv : Nat) : Int) := by
  have hlt := c.isLt
  have e1 : IntKind.u64.wrap ((a : Int) * 256) = uv (BitVec.ofNat 64 (a * 256)) := by
    unfold uv
    rw [IntKind.wrap_u64, BitVec.toNat_ofNat, Nat.mod_eq_of_lt (by omega)]
    omega
  have e2 : (cv : Int) = uv (BitVec.ofNat 64 cv) := by
    unfold uv
    rw [BitVec.toNat_ofNat, Nat.mod_eq_of_lt (by omega)]
  rw [e1, e2, uv_or]
  unfold uv
  rw [BitVec.toNat_or, BitVec.toNat_ofNat, BitVec.toNat_ofNat, Nat.mod_eq_of_lt (by omega), Nat.mod_eq_of_lt (by omega)]
  have := Nat.two_pow_add_eq_or_of_lt (i := 8) (b := cv) (by omega) a
  rw [Nat.mul_comm a 256]
  exact congrArg Int.ofNat this.symm
theorem dgN_succ (l : List B) (k : Nat) (h : k < l.length) : Cd.dgN (l.take (k + 1)) = Cd.dgN (l.take k) * 256 + (l.getD k 0).toNat := by
  unfold Cd.dgN
  rw [List.take_succ_eq_append_getElem h, List.foldl_append]
  simp [List.getD, h]
theorem dgN_lt (l : List B) : ∀ k, k ≤ l.length → Cd.dgN (l.take k) < 256 ^ k
  | 0, _ => by simp [Cd.dgN]
  | k + 1, h => by
    have h1 := dgN_lt l k (by omega)
    have h2 := (l.getD k 0).isLt
    rw [dgN_succ l k (by omega), Nat.pow_succ]
    omega
theorem rdgt_out (L : List B) (p : Int) (v : Value) (w : World) (hp : p < 0 ∨ (L.length : Int) < p) (h : HasB w w.heap.size v L) :
    Calls Tryz.prog 53 #[v, .int .i64 p] w fun e w' => e = .returned (.tuple #[.int .u64 0, .int .i64 p, .int .i64 2]) ∧ w = w' := by
  obtain ⟨a, cap, rfl⟩ := h.form
  by_cases h1 : p < 0
  · have t1 : decide (p < 0) = true := decide_eq_true h1
    clear h hp h1
    go_enter Tryz.func53, Tryz.ntmps53
    go_wp2_with fail
    go_ret3
    exact ⟨rfl, rfl⟩
  · have t1 : decide (p < 0) = false := decide_eq_false h1
    have t2 : decide ((L.length : Int) < p) = true := decide_eq_true (by omega)
    clear h hp h1
    go_enter Tryz.func53, Tryz.ntmps53
    go_wp2_with fail
    go_ret3
    exact ⟨rfl, rfl⟩
theorem rdgt_bad (L : List B) (p c : Nat) (v : Value) (w : World) (hp : p ≤ L.length) (h : HasB w w.heap.size v L) (hr : Cd.getD (L.drop p) = .bad c) :
    Calls Tryz.prog 53 #[v, .int .i64 (p : Int)] w fun e w' => e = .returned (.tuple #[.int .u64 0, .int .i64 (p : Int), .int .i64 (c : Int)]) ∧ w = w' := by
  obtain ⟨a, cap, rfl⟩ := h.form
  unfold Cd.getD at hr
  split at hr
  · rename_i hs
    simp only [Cd.R.bad.injEq] at hr
    subst hr
    rw [List.length_drop] at hs
    obtain ⟨m, hm⟩ : ∃ m, m = L.length := ⟨_, rfl⟩
    rw [← hm] at hp hs ⊢
    have t1 : decide ((p : Int) < 0) = false := decide_eq_false (by omega)
    have t2 : decide (m < p) = false := decide_eq_false (by omega)
    have t3 : (m : Int) - (p : Int) < 8 := by omega
    clear h hm hs
    go_enter Tryz.func53, Tryz.ntmps53
    go_wp2_with fail
    go_ret3
    exact ⟨rfl, rfl⟩
  · cases hr
def GRel (l : List B) (w : World) (u i : Value) (wr : World) : Prop := ∃ k : Nat, k ≤ 8 ∧ i = .int .i64 (k : Int) ∧ u = .int .u64 (Cd.dgN (l.take k) : Int) ∧ w = wr
set_option maxRecDepth 100000 in
set_option maxHeartbeats 1000000 in
theorem rdgt_ok (L : List B) (p k : Nat) (d : W) (v : Value) (w : World) (hp : p ≤ L.length) (hL : L.length ≤ 300000000) (h : HasB w w.heap.size v L) (hr : Cd.getD (L.drop p) = .ok d k) :
    Calls Tryz.prog 53 #[v, .int .i64 (p : Int)] w fun e w' => e = .returned (.tuple #[.int .u64 (uv d), .int .i64 ((p + 8 : Nat) : Int), .int .i64 0]) ∧ w = w' := by
  unfold Cd.getD at hr
  split at hr
  · cases hr
  · rename_i hs
    simp only [Cd.R.ok.injEq] at hr
    obtain ⟨hd, -⟩ := hr
    rw [List.length_drop] at hs
    rcases h with ⟨a, cap, rfl, rfl⟩ | ⟨b, off, cap, rfl, h2, h3, h4⟩
    · simp at hs
    · obtain ⟨q, hq⟩ : ∃ q, q = p + 8 := ⟨_, rfl⟩
      obtain ⟨a', hrun, ha⟩ := bytes_part b off L.length cap p q w (by omega) (by omega)
      obtain rfl := ha (by omega)
      have hpart := part_has (a' := some ⟨b, off + p, none⟩) (N := w.heap.size) (k := p) (m := q) (by omega) (by omega) h2 h3 h4 ha
      obtain ⟨l, hl⟩ : ∃ l, l = (L.drop p).take 8 := ⟨_, rfl⟩
      have hl8 : l.length = 8 := by rw [hl]; simp; omega
      rw [show q - p = 8 by omega, ← hl] at hpart
      rw [← hl] at hd
      have hfin : uv d = (Cd.dgN l : Int) := by
        have hlt := dgN_lt l 8 (by omega)
        rw [List.take_of_length_le (by omega)] at hlt
        rw [← hd]
        unfold uv
        rw [BitVec.toNat_ofNat, Nat.mod_eq_of_lt (Nat.lt_of_lt_of_le hlt (by decide))]
      have hrun2 := hrun p q rfl rfl
      rw [show q - p = 8 by omega] at hrun2
      have hqI : (p : Int) + 8 = (q : Int) := by omega
      obtain ⟨m, hm⟩ : ∃ m, m = L.length := ⟨_, rfl⟩
      rw [← hm] at hp hL hs hrun2 ⊢
      have t1 : decide ((p : Int) < 0) = false := decide_eq_false (by omega)
      have t2 : decide (m < p) = false := decide_eq_false (by omega)
      have t3 : ¬ (m : Int) - (p : Int) < 8 := by omega
      have hqm : q ≤ m := by omega
      have HP := Lib.hid hpart; have HL8 := Lib.hid hl8; have HF := Lib.hid hfin; have HQ := Lib.hid hq
      clear hm hs hd hl hl8 hpart hfin hrun ha h2 h3 h4 hq
      go_enter Tryz.func53, Tryz.ntmps53
      go_wp2_with fail
      go_loopw [7, 33] (GRel l w) (fun _ i _ => 8 - (intOf i).toNat)
      case atStart => exact ⟨0, by omega, rfl, by simp [Cd.dgN], rfl⟩
      case round =>
        obtain ⟨k, hk, rfl, rfl, rfl⟩ := hrel
        by_cases hlt : k < 8
        · obtain ⟨b', off', e, hcell⟩ := HP.out.at k (by omega)
          simp only [Option.some.injEq, Addr.mk.injEq] at e
          obtain ⟨rfl, rfl, -⟩ := e
          have hsucc := dgN_succ l k (by have := HL8.out; omega)
          have hlo := dgN_lt l k (by have := HL8.out; omega)
          have h56 : Cd.dgN (l.take k) < 72057594037927936 := Nat.lt_of_lt_of_le hlo (Nat.le_trans (Nat.pow_le_pow_right (by decide) (show k ≤ 7 by omega)) (by decide))
          generalize l.getD k 0 = c at hcell hsucc
          obtain ⟨cv, hcv⟩ : ∃ cv, cv = c.toNat := ⟨_, rfl⟩
          have hor := or8 (Cd.dgN (l.take k)) c cv hcv h56
          have hbn : bv c = (cv : Int) := by rw [hcv]; rfl
          have c256 : cv < 256 := by rw [hcv]; exact c.isLt
          rw [hbn] at hcell
          rw [← hcv] at hsucc
          have HSUCC := Lib.hid hsucc
          generalize Cd.dgN (l.take k) = acc at hor h56 HSUCC hlo
          have hor2 : bits .or .u64 ((acc : Int) * 256) (cv : Int) = ((acc * 256 + cv : Nat) : Int) := by rw [← hor, show IntKind.u64.wrap ((acc : Int) * 256) = (acc : Int) * 256 by rw [IntKind.wrap_u64]; omega]
          clear hcv hbn hsucc hlo
          have hwc : IntKind.u64.wrap (cv : Int) = (cv : Int) := by rw [IntKind.wrap_u64]; omega
          go_wp2_with fail
          go_roundw
          case rel => exact ⟨k + 1, by omega, by go_num, by rw [HSUCC.out]; first | rfl | (simp; done), rfl⟩
          case measure => simp [intOf]; omega
        · obtain rfl : k = 8 := by omega
          have hall : Hid (Cd.dgN (l.take 8) = Cd.dgN l) := Lib.hid (by rw [List.take_of_length_le (by have := HL8.out; omega)])
          rw [hall.out, ← HF.out]
          go_wp2_with fail
          go_ret3
          exact ⟨by rw [← HQ.out]; rfl, rfl⟩
/-- the digest of bytes, whatever they are -/
theorem rof_to (L : List B) (v : Value) (w : World) (hL : L.length ≤ 300000000) (h : HasB w w.heap.size v L) :
    Calls Tryz.prog 117 #[v] w fun e w' => e = .returned (.int .u64 (uv (Dg.ofB L))) ∧ w = w' := by
  rcases h with ⟨a, cap, rfl, rfl⟩ | ⟨b, off, cap, rfl, h2, h3, h4⟩
  · exact rof_none a cap w
  · exact rof_some L b off cap w (by omega) h4
theorem getB_code {l : List B} {c : Nat} (h : Cd.getB l = .bad c) : c = 4 ∨ c = 5 := by
  unfold Cd.getB at h
  split at h
  · rename_i c' hI
    simp at h; subst h
    exact getI_code hI
  · split at h
    · simp at h; omega
    · split at h
      · simp at h; omega
      · cases h
theorem getD_code {l : List B} {c : Nat} (h : Cd.getD l = .bad c) : c = 5 := by
  unfold Cd.getD at h
  split at h
  · simp at h; omega
  · cases h
/-- what Unframe returns at a position that is there -/
def UPost (L : List B) (p : Nat) (w : World) (e : Ending) (w' : World) : Prop :=
  match Cd.unframe (L.drop p) with
  | .ok D k => ∃ dv, e = .returned (.tuple #[dv, .int .i64 ((p + k : Nat) : Int), .int .i64 0]) ∧ OwnB w.heap.size w' dv D ∧ Below w.heap.size w w'
  | .bad c => e = .returned (.tuple #[.slice none 0 0, .int .i64 (p : Int), .int .i64 (c : Int)]) ∧ Below w.heap.size w w'
theorem UPost.of_bad {L : List B} {p c : Nat} {w w' : World} {e : Ending} (h : Cd.unframe (L.drop p) = .bad c) (he : e = .returned (.tuple #[.slice none 0 0, .int .i64 (p : Int), .int .i64 (c : Int)])) (hb : Below w.heap.size w w') : UPost L p w e w' := by
  unfold UPost; rw [h]; exact ⟨he, hb⟩
theorem UPost.of_ok {L D : List B} {p k : Nat} {w w' : World} {e : Ending} {dv : Value} (h : Cd.unframe (L.drop p) = .ok D k) (he : e = .returned (.tuple #[dv, .int .i64 ((p + k : Nat) : Int), .int .i64 0])) (ho : OwnB w.heap.size w' dv D) (hb : Below w.heap.size w w') : UPost L p w e w' := by
  unfold UPost; rw [h]; exact ⟨dv, he, ho, hb⟩
end Go.Proofs.YtgkckomccabmlaaGreatDoor
namespace Go.Proofs.YtgkckomccabmlaaGreatDoor
open Go.ChangeShapes Go.WideShapes Go.ChangeAt Go.RowKit
open Dg (W B)
/-- the bytes of a string -/
def strB (s : ByteArray) : List B := s.data.toList.map UInt8.toBitVec
theorem strB_len (s : ByteArray) : (strB s).length = s.size := by unfold strB; rw [List.length_map, Array.length_toList]; rfl
theorem strB_at (s : ByteArray) (i : Nat) (h : i < s.data.size) : bv ((strB s).getD i 0) = (s.data[i].toNat : Int) := by
  have e : (strB s).getD i 0 = s.data[i].toBitVec := by unfold strB; rw [List.getD_eq_getElem?_getD, List.getElem?_map, Array.getElem?_toList, Array.getElem?_eq_getElem h]; rfl
  rw [e]; rfl
theorem strB_inj {s t : ByteArray} (h : strB s = strB t) : s = t := by
  have h2 : s.data.toList = t.data.toList := List.map_inj_right (fun _ _ e => UInt8.toBitVec_inj.1 e) |>.1 h
  cases s; cases t
  simp only [ByteArray.mk.injEq]
  exact Array.toList_inj.1 h2
/-- the value v is a slice whose strings are l, in blocks below N -/
def HasS (w : World) (N : Nat) (v : Value) (l : List ByteArray) : Prop :=
  (∃ a cap, v = .slice a 0 cap ∧ l = []) ∨ ∃ b off cap, v = .slice (some ⟨b, off, none⟩) l.length cap ∧ l.length ≤ cap ∧ b < N ∧ ∀ i, i < l.length → w.cell? ⟨b, off + i, none⟩ = some (.string (l.getD i ByteArray.empty))
theorem HasS.form {w : World} {N : Nat} {v : Value} {l : List ByteArray} (h : HasS w N v l) : ∃ a cap, v = .slice a l.length cap := by
  rcases h with ⟨a, cap, rfl, rfl⟩ | ⟨b, off, cap, rfl, _⟩
  · exact ⟨a, cap, rfl⟩
  · exact ⟨_, cap, rfl⟩
theorem HasS.below {w w' : World} {N M : Nat} {v : Value} {l : List ByteArray} (h : HasS w N v l) (hb : Below M w w') (hm : N ≤ M) : HasS w' N v l := by
  rcases h with ⟨a, cap, rfl, rfl⟩ | ⟨b, off, cap, rfl, h2, h3, h4⟩
  · exact .inl ⟨a, cap, rfl, rfl⟩
  · refine .inr ⟨b, off, cap, rfl, h2, h3, fun i hi => ?_⟩
    rw [hb.cell (p := ⟨b, off + i, none⟩) (Nat.lt_of_lt_of_le h3 hm)]; exact h4 i hi
theorem HasS.wide {w : World} {N M : Nat} {v : Value} {l : List ByteArray} (h : HasS w N v l) (hm : N ≤ M) : HasS w M v l := by
  rcases h with ⟨a, cap, rfl, rfl⟩ | ⟨b, off, cap, rfl, h2, h3, h4⟩
  · exact .inl ⟨a, cap, rfl, rfl⟩
  · exact .inr ⟨b, off, cap, rfl, h2, Nat.lt_of_lt_of_le h3 hm, h4⟩
theorem HasS.at {w : World} {N : Nat} {a : Option Addr} {n cap : Nat} {l : List ByteArray} (h : HasS w N (.slice a n cap) l) (k : Nat) (hk : k < n) : ∃ b off, a = some ⟨b, off, none⟩ ∧ w.cell? ⟨b, off + k, none⟩ = some (.string (l.getD k ByteArray.empty)) := by
  rcases h with ⟨a, c, e, rfl⟩ | ⟨b, off, c, e, _, _, h4⟩
  · simp only [Value.slice.injEq] at e; omega
  · simp only [Value.slice.injEq] at e
    exact ⟨b, off, e.1, h4 k (by omega)⟩
/-- the bytes that a string is turned into -/
theorem bytes_has (w : World) (s : ByteArray) (cap : Nat) (hc : s.size ≤ cap) (t : TypeId) : HasB (w.alloc (.cells (bytesRow s cap) t ((bytesRow s cap).size, (bytesRow s cap).size + 1))) (w.heap.size + 1) (.slice (some ⟨w.heap.size, 0, none⟩) s.size cap) (strB s) := by
  refine .inr ⟨w.heap.size, 0, cap, by rw [strB_len], by rw [strB_len]; exact hc, by omega, fun i hi => ?_⟩
  rw [strB_len] at hi
  rw [Nat.zero_add, World.cell?_alloc_mark, bytesRow_at s cap i hi, strB_at s i hi]
theorem putAll_snoc (l : List (List B)) (d : List B) : Cd.putAll (l ++ [d]) = Cd.putAll l ++ Cd.putB d := by
  induction l with
  | nil => simp [Cd.putAll]
  | cons x l ih => simp [Cd.putAll, ih]
theorem take_snoc (l : List ByteArray) (k : Nat) (h : k < l.length) : (l.take (k + 1)).map strB = (l.take k).map strB ++ [strB (l.getD k ByteArray.empty)] := by
  rw [List.take_succ_eq_append_getElem h, List.map_append]
  simp only [List.map_cons, List.map_nil, List.getD_eq_getElem?_getD, List.getElem?_eq_getElem h, Option.getD_some]
theorem putAll_mono (l : List ByteArray) (k : Nat) : (Cd.putAll ((l.take k).map strB)).length ≤ (Cd.putAll (l.map strB)).length := by
  have e : l.map strB = (l.take k).map strB ++ (l.drop k).map strB := by rw [← List.map_append, List.take_append_drop]
  have h2 : ∀ a b : List (List B), Cd.putAll (a ++ b) = Cd.putAll a ++ Cd.putAll b := by
    intro a b
    induction a with
    | nil => rfl
    | cons x a ih => simp [Cd.putAll, ih]
  rw [e, h2, List.length_append]
  omega
def LRel (L : List B) (l : List ByteArray) (w : World) (out i : Value) (wr : World) : Prop := ∃ k : Nat, k ≤ l.length ∧ i = .int .i64 (k : Int) ∧ OwnB w.heap.size wr out (L ++ Cd.putI l.length ++ Cd.putAll ((l.take k).map strB)) ∧ Below w.heap.size w wr
end Go.Proofs.YtgkckomccabmlaaGreatDoor
namespace Go.Proofs.YtgkckomccabmlaaGreatDoor
open Go.ChangeShapes Go.WideShapes Go.ChangeAt Go.RowKit
open Dg (W B)
def StrsRel (l1 l2 : List ByteArray) (w : World) (i : Value) (wr : World) : Prop := ∃ k : Nat, k ≤ l1.length ∧ i = .int .i64 (k : Int) ∧ (∀ j, j < k → l1.getD j ByteArray.empty = l2.getD j ByteArray.empty) ∧ w = wr
end Go.Proofs.YtgkckomccabmlaaGreatDoor
namespace Go.Proofs.YtgkckomccabmlaaGreatDoor
open Go.ChangeShapes Go.WideShapes Go.ChangeAt Go.RowKit
open Dg (W B)
theorem infoStr : (Tryz.prog.info? 9).map (fun i => (i.zero, i.size, i.bytes)) = some (some (.string ByteArray.empty), 1, 16) := by kernel_rfl
def sval (x : ByteArray) : Value := .string x
/-- the value v is a slice of the call's own, its strings are l -/
def OwnS (base : Nat) (w : World) (v : Value) (l : List ByteArray) : Prop := w.ownsRow base 9 1 v l.length (l.map sval)
theorem OwnS.has {base : Nat} {w : World} {v : Value} {l : List ByteArray} (h : OwnS base w v l) : HasS w w.heap.size v l := by
  rcases h.2 with ⟨rfl, h0⟩ | ⟨g, cap, cur, rfl, h1, h2, h3, h4, h5, h6⟩
  · exact .inl ⟨none, 0, rfl, List.length_eq_zero_iff.1 h0⟩
  · refine .inr ⟨g, 0, cap, rfl, h3, (Array.getElem?_eq_some_iff.1 h2).1, fun i hi => ?_⟩
    rw [Nat.zero_add, cell_of_row w g i _ _ _ h2]
    have e := congrArg (fun L : List Value => L[i]?) h6
    simp only [Nat.mul_one, List.getElem?_take, if_pos hi, List.getElem?_map] at e
    rw [← Array.getElem?_toList, e]
    simp [hi, sval]
theorem OwnS.below {base : Nat} {w w' : World} {v : Value} {l : List ByteArray} (h : OwnS base w v l) (hb : Below w.heap.size w w') : OwnS base w' v l := by
  obtain ⟨h1, h2⟩ := h
  refine ⟨h1, ?_⟩
  rcases h2 with h2 | ⟨g, cap, cur, hv, hg, hh, r⟩
  · exact .inl h2
  · exact .inr ⟨g, cap, cur, hv, hg, by rw [hb.block g (Array.getElem?_eq_some_iff.1 hh).1]; exact hh, r⟩
theorem OwnS.alloc {base : Nat} {w : World} {v : Value} {l : List ByteArray} (h : OwnS base w v l) (o : Obj) : OwnS base (w.alloc o) v l := World.ownsRow.alloc h o
theorem OwnS.mono {base base' : Nat} {w : World} {v : Value} {l : List ByteArray} (h : OwnS base w v l) (hb : base' ≤ base) : OwnS base' w v l := World.ownsRow.mono h hb
/-- an append of one string to an owned slice -/
theorem wpList_append_str {ops : Array Oper} {rest : List Oper} {o : Oper} {a : Act} {Q : Exit → Act → World → Prop} {w : World} (hw : Region.wanted o (yielded ops a.tmps) = true) (s x : Operand)
    (ho : o.op = .call { callee := .builtin .append, args := #[s, x], argTypes := #[66, 66] })
    (base : Nat) (v : Value) (l : List ByteArray) (y : ByteArray) (b c : Nat) (hs : a.eval s = v) (own : OwnS base w v l) (hx : a.eval x = .slice (some ⟨b, 0, none⟩) 1 c)
    (hy : w.cell? ⟨b, 0, none⟩ = some (.string y)) (hl : l.length ≤ 1000000000) (hbase : base ≤ w.heap.size)
    (h : ∀ g cap w', OwnS base w' (.slice (some ⟨g, 0, none⟩) (l.length + 1) cap) (l ++ [y]) → w.grownBy w' v.ownBlock → wpList Tryz.prog ops Q rest (a.put o.dst (.slice (some ⟨g, 0, none⟩) (l.length + 1) cap)) w') :
    wpList Tryz.prog ops Q (o :: rest) a w := by
  obtain ⟨i0, hi, hz0, hz1, hz2⟩ := info_parts infoStr
  refine wpList_step fun K hK => ?_
  rw [if_pos hw]
  refine wp_append_lies w s x _ ho base 9 i0 _ 1 16 Tryz.underlying66 hi hz0 hz1 hz2 rfl (by omega) v l.length (l.map sval) hs own ⟨b, 0, none⟩ 1 c [sval y] hx rfl ?_ ?_ (by omega) (by unfold maxLen; omega) (by omega) hbase _ rfl ?_
  · intro j u hu
    obtain ⟨hj, e⟩ := List.getElem?_eq_some_iff.1 hu
    obtain rfl : j = 0 := by simp at hj; omega
    rw [add_plain', Nat.zero_add, hy, ← e]; rfl
  · intro u hu
    obtain rfl : u = sval y := by simpa using hu
    rfl
  · intro g cap w' h2 h3 _ _
    refine hK _ _ (h g cap w' ?_ h3)
    unfold OwnS
    rw [List.length_append, List.map_append]; exact h2
theorem strB_bstr (l : List B) : strB (bstr l) = l := by
  unfold strB bstr
  have e : (UInt8.toBitVec ∘ UInt8.ofBitVec) = id := by funext x; rfl
  simp [e]
/-- bytes as a string, whatever slice they lie in -/
theorem conv_any (l : List B) (v : Value) (w : World) (h : HasB w w.heap.size v l) : (convert 24 9 v).run Tryz.prog w = .ok (.string (bstr l)) w := by
  rcases h with ⟨a, cap, rfl, rfl⟩ | ⟨b, off, cap, rfl, h2, h3, h4⟩
  · cases a with
    | none => kernel_rfl
    | some ad => exact run_convert_bytes_back (P := Tryz.prog) w 24 9 5 ad cap [] Tryz.underlying24 Tryz.underlying5 Tryz.underlying9 (fun j hj => by simp at hj)
  · exact conv_bytes l b off cap w h4
theorem rdL_bad {m p c : Nat} {b : List B} (hm : 0 < m) (h : Cd.getB b = .bad c) : Cd.rdL m b p = .bad c := by
  obtain ⟨k, rfl⟩ : ∃ k, m = k + 1 := ⟨m - 1, by omega⟩
  rw [Cd.rdL, h]
theorem mid_bad {m p c : Nat} {b : List B} {ds : List (List B)} {X : Cd.R (List (List B))} (hm : 0 < m) (h : Cd.getB b = .bad c)
    (hst : (∃ c, Cd.rdL m b p = .bad c ∧ X = .bad c) ∨ ∃ l r, Cd.rdL m b p = .ok l r ∧ X = .ok (ds ++ l) r) : X = .bad c := by
  have e := rdL_bad (p := p) hm h
  rcases hst with ⟨c', g1, g2⟩ | ⟨l, r, g1, g2⟩
  · rw [e] at g1; simp only [Cd.R.bad.injEq] at g1; rw [g2, ← g1]
  · rw [e] at g1; cases g1
theorem mid_ok {m p j : Nat} {b D : List B} {ds : List (List B)} {X : Cd.R (List (List B))} (h : Cd.getB b = .ok D j)
    (hst : (∃ c, Cd.rdL (m + 1) b p = .bad c ∧ X = .bad c) ∨ ∃ l r, Cd.rdL (m + 1) b p = .ok l r ∧ X = .ok (ds ++ l) r) :
    (∃ c, Cd.rdL m (b.drop j) (p + j) = .bad c ∧ X = .bad c) ∨ ∃ l r, Cd.rdL m (b.drop j) (p + j) = .ok l r ∧ X = .ok ((ds ++ [D]) ++ l) r := by
  rw [Cd.rdL, h] at hst
  simp only [] at hst
  cases hr : Cd.rdL m (b.drop j) (p + j) with
  | bad c =>
    rw [hr] at hst
    rcases hst with ⟨c', g1, g2⟩ | ⟨l, r, g1, g2⟩
    · exact .inl ⟨c', g1, g2⟩
    · cases g1
  | ok l r =>
    rw [hr] at hst
    rcases hst with ⟨c', g1, g2⟩ | ⟨l', r', g1, g2⟩
    · cases g1
    · simp only [Cd.R.ok.injEq] at g1
      obtain ⟨rfl, rfl⟩ := g1
      exact .inr ⟨l, r, rfl, by rw [g2]; simp⟩
/-- what is read of a list when so many strings have been read -/
def LMid (L : List B) (p n : Nat) (w : World) (pv out i : Value) (wr : World) : Prop :=
  ∃ (k q : Nat) (ds : List (List B)), k ≤ n ∧ i = .int .i64 (k : Int) ∧ pv = .int .i64 (q : Int) ∧ p ≤ q ∧ q ≤ L.length ∧ ds.length ≤ q ∧ OwnS w.heap.size wr out (ds.map bstr) ∧ Below w.heap.size w wr ∧
    ((∃ c, Cd.rdL (n - k) (L.drop q) (q - p) = .bad c ∧ Cd.getL (L.drop p) = .bad c) ∨ ∃ l r, Cd.rdL (n - k) (L.drop q) (q - p) = .ok l r ∧ Cd.getL (L.drop p) = .ok (ds ++ l) r)
def LPost (L : List B) (p : Nat) (w : World) (e : Ending) (w' : World) : Prop :=
  (∃ c : Nat, Cd.getL (L.drop p) = .bad c ∧ e = .returned (.tuple #[.slice none 0 0, .int .i64 (p : Int), .int .i64 (c : Int)]) ∧ Below w.heap.size w w') ∨
  ∃ l k v, Cd.getL (L.drop p) = .ok l k ∧ e = .returned (.tuple #[v, .int .i64 ((p + k : Nat) : Int), .int .i64 0]) ∧ OwnS w.heap.size w' v (l.map bstr) ∧ Below w.heap.size w w'
end Go.Proofs.YtgkckomccabmlaaGreatDoor
namespace Go.Proofs.YtgkckomccabmlaaGreatDoor
open Go.ChangeShapes Go.WideShapes Go.ChangeAt Go.RowKit
open Dg (W B)
/-- the value may be appended to: it is the call's own, or has no room -/
def AppB (base : Nat) (w : World) (v : Value) (l : List B) : Prop := OwnB base w v l ∨ ∃ a, v = .slice a l.length l.length ∧ HasB w w.heap.size v l
theorem AppB.form {base : Nat} {w : World} {v : Value} {l : List B} (h : AppB base w v l) : ∃ a cap, v = .slice a l.length cap := by
  rcases h with h | ⟨a, rfl, _⟩
  · exact h.form
  · exact ⟨a, _, rfl⟩
theorem AppB.has {base : Nat} {w : World} {v : Value} {l : List B} (h : AppB base w v l) : HasB w w.heap.size v l := by
  rcases h with h | ⟨a, rfl, h⟩
  · exact h.has
  · exact h
theorem AppB.alloc {base : Nat} {w : World} {v : Value} {l : List B} (h : AppB base w v l) (o : Obj) : AppB base (w.alloc o) v l := by
  rcases h with h | ⟨a, rfl, h⟩
  · exact .inl (h.alloc o)
  · exact .inr ⟨a, rfl, (h.below ((Below.refl w.heap.size w).alloc (Nat.le_refl _) o) (Nat.le_refl _)).wide (by simp)⟩
theorem AppB.below {base : Nat} {w w' : World} {v : Value} {l : List B} (h : AppB base w v l) (hb : Below w.heap.size w w') : AppB base w' v l := by
  rcases h with h | ⟨a, rfl, h⟩
  · exact .inl (h.below hb)
  · exact .inr ⟨a, rfl, (h.below hb (Nat.le_refl _)).wide hb.size⟩
theorem AppB.nil (w : World) (base : Nat) : AppB base w (.slice none 0 0) [] := .inl (OwnB.nil w base)
theorem run_append_app (w : World) (ty : TypeId) (base : Nat) (v x : Value) (l ys : List B) (h : AppB base w v l) (N : Nat) (hx : HasB w N x ys) (hpos : 0 < ys.length) (hl : l.length + ys.length ≤ 1000000000) (hbase : base ≤ w.heap.size) :
    ∃ a cap w', (Builtin.append_ #[24, 24] ty #[v, x]).run Tryz.prog w = .ok (.slice a (l.length + ys.length) cap) w' ∧ OwnB base w' (.slice a (l.length + ys.length) cap) (l ++ ys) ∧ Below base w w' := by
  rcases h with own | ⟨a, rfl, hv⟩
  · obtain ⟨a, cap, w', h1, h2, h3⟩ := run_append_bytes w ty base v x l ys own N hx hl hbase
    exact ⟨a, cap, w', h1, h2, below_grownB (Below.refl _ _) hbase own h3⟩
  · obtain ⟨i0, hi, hz0, hz1, hz2⟩ := info_parts infoU8
    rcases hx with ⟨ax, c, rfl, rfl⟩ | ⟨b, off, c, rfl, h2, h3, h4⟩
    · simp at hpos
    · have hnews : ∀ j u, (ys.map bval)[j]? = some u → w.cell? ((⟨b, off, none⟩ : Addr).add j) = some u := by
        intro j u hu
        rw [List.getElem?_map] at hu
        obtain ⟨z, hz, rfl⟩ := Option.map_eq_some_iff.1 hu
        obtain ⟨hj, e⟩ := List.getElem?_eq_some_iff.1 hz
        rw [add_plain', h4 j hj, ← e]
        simp [hj, bval]
      have fin : ∀ v' w', OwnB w.heap.size w' v' (l ++ ys) → w.grownBy w' none → ∃ a' cap, v' = .slice a' (l.length + ys.length) cap ∧ OwnB base w' (.slice a' (l.length + ys.length) cap) (l ++ ys) ∧ Below base w w' := by
        intro v' w' own grow
        obtain ⟨a', cap, rfl⟩ := own.form
        have e : (l ++ ys).length = l.length + ys.length := by rw [List.length_append]
        rw [e] at own ⊢
        exact ⟨a', cap, rfl, own.mono hbase, ((Below.refl w.heap.size w).grown grow (Nat.le_refl _) (fun k hk => by cases hk)).mono hbase⟩
      cases a with
      | none =>
        have hl0 : l = [] := by
          rcases hv with ⟨_, _, _, e⟩ | ⟨_, _, _, e, _⟩
          · exact e
          · simp at e
        subst hl0
        obtain ⟨a', cap, w', h5, h6, h7⟩ := run_append_bytes w ty w.heap.size _ _ [] ys (OwnB.nil w _) w.heap.size (.inr ⟨b, off, c, rfl, h2, World.block_lt_of_cell? _ _ (h4 0 hpos), h4⟩) (by simpa using hl) (Nat.le_refl _)
        obtain ⟨a2, cap2, e, h8, h9⟩ := fin _ _ h6 h7
        exact ⟨a2, cap2, w', by rw [← e]; exact h5, h8, h9⟩
      | some A =>
        have hcells : ∀ j u, (l.map bval)[j]? = some u → w.cell? (A.add j) = some u := by
          intro j u hu
          rw [List.getElem?_map] at hu
          obtain ⟨z, hz, rfl⟩ := Option.map_eq_some_iff.1 hu
          obtain ⟨hj, e⟩ := List.getElem?_eq_some_iff.1 hz
          rcases hv with ⟨_, _, _, e2⟩ | ⟨b2, off2, c2, e2, g1, g2, g3⟩
          · subst e2; simp at hj
          · simp only [Value.slice.injEq, Option.some.injEq] at e2
            obtain ⟨rfl, _, _⟩ := e2
            rw [add_plain', g3 j hj, ← e]
            simp [hj, bval]
        obtain ⟨v', w', hrun, r1, r2⟩ := run_append_arg_grows (P := Tryz.prog) w 24 ty 5 i0 _ 1 1 Tryz.underlying24 hi hz0 hz1 hz2 rfl (by omega) A l.length l.length (l.map bval) (by simp) hcells ⟨b, off, none⟩ ys.length c (ys.map bval) (by simp) hnews (by omega) (by unfold maxLen; omega) (by omega)
        have own : OwnB w.heap.size w' v' (l ++ ys) := by unfold OwnB; rw [List.length_append, List.map_append]; exact r1
        obtain ⟨a2, cap2, e, h8, h9⟩ := fin _ _ own r2
        exact ⟨a2, cap2, w', by rw [← e]; exact hrun, h8, h9⟩
/-- the same at an operation that is wanted -/
theorem wpList_append_app {ops : Array Oper} {rest : List Oper} {o : Oper} {a : Act} {Q : Exit → Act → World → Prop} {w : World} (hw : Region.wanted o (yielded ops a.tmps) = true) (s x : Operand)
    (ho : o.op = .call { callee := .builtin .append, args := #[s, x], argTypes := #[24, 24] })
    (base : Nat) (v xv : Value) (l ys : List B) (hs : a.eval s = v) (h0 : AppB base w v l) (hx : a.eval x = xv) (N : Nat) (hy : HasB w N xv ys) (hpos : 0 < ys.length) (hl : l.length + ys.length ≤ 1000000000) (hbase : base ≤ w.heap.size) (n : Nat) (hn : l.length + ys.length = n)
    (h : ∀ b cap w', OwnB base w' (.slice b n cap) (l ++ ys) → Below base w w' → wpList Tryz.prog ops Q rest (a.put o.dst (.slice b n cap)) w') :
    wpList Tryz.prog ops Q (o :: rest) a w := by
  subst hn
  refine wpList_step fun K hK => ?_
  rw [if_pos hw]
  obtain ⟨b, cap, w', h1, h2, h3⟩ := run_append_app w o.type base v xv l ys h0 N hy hpos hl hbase
  unfold Oper.wp execOp
  simp only [ho, resolve, invoke, builtin, Sem.run_bind, Sem.run_pure, Result.andThen_ok, List.map_toArray, List.map_cons, List.map_nil, hs, hx, h1]
  exact hK _ _ (h b cap w' h2 h3)
theorem strCells_eq (s : ByteArray) : Lib.strCells s = (strB s).map bval := by
  unfold strB
  rw [List.map_map]
  rfl
/-- an append of a string's bytes to an owned slice -/
theorem wpList_append_text {ops : Array Oper} {rest : List Oper} {o : Oper} {a : Act} {Q : Exit → Act → World → Prop} {w : World} (hw : Region.wanted o (yielded ops a.tmps) = true) (s x : Operand)
    (ho : o.op = .call { callee := .builtin .append, args := #[s, x], argTypes := #[24, 9] })
    (base : Nat) (v : Value) (l : List B) (t : ByteArray) (hs : a.eval s = v) (own : OwnB base w v l) (hx : a.eval x = .string t) (hl : l.length + (strB t).length ≤ 1000000000) (hbase : base ≤ w.heap.size) (n : Nat) (hn : l.length + (strB t).length = n)
    (h : ∀ b cap w', OwnB base w' (.slice b n cap) (l ++ strB t) → Below base w w' → wpList Tryz.prog ops Q rest (a.put o.dst (.slice b n cap)) w') :
    wpList Tryz.prog ops Q (o :: rest) a w := by
  subst hn
  obtain ⟨i0, hi, hz0, hz1, hz2⟩ := info_parts infoU8
  refine wpList_step fun K hK => ?_
  rw [if_pos hw]
  rw [strB_len] at hl h
  obtain ⟨v', w', h1, h2, h3, _⟩ := Lib.run_append_own_string (P := Tryz.prog) w base 24 9 o.type 5 i0 Tryz.underlying24 Tryz.underlying9 hi hz0 hz1 hz2 v l.length (l.map bval) own t (by unfold maxLen; omega) (by omega) hbase
  have own2 : OwnB base w' v' (l ++ strB t) := by unfold OwnB; rw [List.length_append, List.map_append, strB_len, ← strCells_eq]; exact h2
  have bel := below_grownB (Below.refl base w) hbase own h3
  obtain ⟨b, cap, rfl⟩ := own2.form
  rw [List.length_append, strB_len] at own2 h1
  unfold Oper.wp execOp
  simp only [ho, resolve, invoke, builtin, Sem.run_bind, Sem.run_pure, Result.andThen_ok, List.map_toArray, List.map_cons, List.map_nil, hs, hx, h1]
  exact hK _ _ (h b cap w' own2 bel)
theorem run_clip (a : Option Addr) (k cap : Nat) (w : World) (h : k ≤ cap) :
    (Instr.slice 24 (.slice a k cap) none (some (.int .i64 k)) (some (.int .i64 k))).run Tryz.prog w = .ok (.slice a k k) w := by
  have he : (sizeOf (Tryz.prog.elem 24)).run Tryz.prog w = .ok 1 w := by kernel_rfl
  rw [run_slice_hm w 24 a k cap (by kernel_rfl) .i64 .i64 (k : Int) (k : Int) (by omega) (by omega) (by omega), he]
  cases a with
  | none => simp [sliced, Result.andThen]
  | some ad => simp [sliced, Result.andThen, Addr.add]
theorem HasB.cap_le {w : World} {N : Nat} {a : Option Addr} {m cap : Nat} {l : List B} (h : HasB w N (.slice a m cap) l) : m ≤ cap := by
  rcases h with ⟨a', c, e, rfl⟩ | ⟨b, off, c, e, h1, h2, h3⟩
  · simp only [Value.slice.injEq] at e; omega
  · simp only [Value.slice.injEq] at e; omega
theorem HasB.app {w : World} {N : Nat} {a : Option Addr} {m cap : Nat} {l : List B} (h : HasB w N (.slice a m cap) l) (hN : N = w.heap.size) (base : Nat) : AppB base w (.slice a m m) l := by
  subst hN
  rcases h with ⟨a', c, e, rfl⟩ | ⟨b, off, c, e, h1, h2, h3⟩
  · simp only [Value.slice.injEq] at e
    obtain ⟨-, rfl, -⟩ := e
    exact .inr ⟨a, rfl, .inl ⟨a, 0, rfl, rfl⟩⟩
  · simp only [Value.slice.injEq] at e
    obtain ⟨rfl, rfl, rfl⟩ := e
    exact .inr ⟨_, rfl, .inr ⟨b, off, _, rfl, Nat.le_refl _, h2, h3⟩⟩
theorem HasW.cap_le {w : World} {N : Nat} {a : Option Addr} {m cap : Nat} {l : List W} (h : HasW w N (.slice a m cap) l) : m ≤ cap := by
  rcases h with ⟨a', c, e, rfl⟩ | ⟨b, off, c, e, h1, h2, h3⟩
  · simp only [Value.slice.injEq] at e; omega
  · simp only [Value.slice.injEq] at e; omega
theorem HasW.full {w : World} {N : Nat} {a : Option Addr} {m cap : Nat} {l : List W} (h : HasW w N (.slice a m cap) l) : HasW w N (.slice a m m) l := by
  rcases h with ⟨a', c, e, rfl⟩ | ⟨b, off, c, e, h1, h2, h3⟩
  · simp only [Value.slice.injEq] at e
    obtain ⟨-, rfl, -⟩ := e
    exact .inl ⟨a, 0, rfl, rfl⟩
  · simp only [Value.slice.injEq] at e
    obtain ⟨rfl, rfl, rfl⟩ := e
    exact .inr ⟨b, off, _, rfl, Nat.le_refl _, h2, h3⟩
/-- an append of one word to a slice without room -/
theorem wpList_append_fullw {ops : Array Oper} {rest : List Oper} {o : Oper} {a : Act} {Q : Exit → Act → World → Prop} {w : World} (hw : Region.wanted o (yielded ops a.tmps) = true) (s x : Operand)
    (ho : o.op = .call { callee := .builtin .append, args := #[s, x], argTypes := #[25, 25] })
    (ao : Option Addr) (n : Nat) (l : List W) (y : W) (b c : Nat) (hs : a.eval s = .slice ao n n) (hn : n = l.length) (N : Nat) (hv : HasW w N (.slice ao n n) l)
    (hx : a.eval x = .slice (some ⟨b, 0, none⟩) 1 c) (hy : w.cell? ⟨b, 0, none⟩ = some (wval y)) (hl : l.length ≤ 1000000)
    (h : ∀ v' w', OwnW w.heap.size w' v' (l ++ [y]) → Below w.heap.size w w' → wpList Tryz.prog ops Q rest (a.put o.dst v') w') :
    wpList Tryz.prog ops Q (o :: rest) a w := by
  subst hn
  obtain ⟨i0, hi, hz0, hz1, hz2⟩ := info_parts infoWord
  have hnews : ∀ j u, [wval y][j]? = some u → w.cell? ((⟨b, 0, none⟩ : Addr).add j) = some u := by
    intro j u hu
    obtain ⟨hj, e⟩ := List.getElem?_eq_some_iff.1 hu
    obtain rfl : j = 0 := by simp at hj; omega
    rw [add_plain', Nat.add_zero, hy, ← e]; rfl
  refine wpList_step fun K hK => ?_
  rw [if_pos hw]
  cases ao with
  | some A =>
    have hcells : ∀ j u, (l.map wval)[j]? = some u → w.cell? (A.add j) = some u := by
      intro j u hu
      rw [List.getElem?_map] at hu
      obtain ⟨z, hz, rfl⟩ := Option.map_eq_some_iff.1 hu
      obtain ⟨hj, e⟩ := List.getElem?_eq_some_iff.1 hz
      rcases hv with ⟨_, _, _, e2⟩ | ⟨b2, off2, c2, e2, g1, g2, g3⟩
      · subst e2; simp at hj
      · simp only [Value.slice.injEq, Option.some.injEq] at e2
        obtain ⟨rfl, _, _⟩ := e2
        rw [add_plain', g3 j hj, ← e]
        simp [hj, wval]
    obtain ⟨v', w', hrun, r1, r2⟩ := run_append_arg_grows (P := Tryz.prog) w 25 o.type 23 i0 _ 1 8 Tryz.underlying25 hi hz0 hz1 hz2 rfl (by omega) A l.length l.length (l.map wval) (by simp) hcells ⟨b, 0, none⟩ 1 c [wval y] rfl hnews (by omega) (by unfold maxLen; omega) (by omega)
    unfold Oper.wp
    simp [execOp, ho, resolve, invoke, builtin, hs, hx, hrun, Result.andThen]
    exact hK _ _ (h v' w' (own_snoc r1) ((Below.refl w.heap.size w).grown r2 (Nat.le_refl _) (fun k hk => by cases hk)))
  | none =>
    have hl0 : l = [] := by
      rcases hv with ⟨_, _, _, e⟩ | ⟨_, _, _, e, _⟩
      · exact e
      · simp at e
    subst hl0
    obtain ⟨v', w', hrun, r1, r2, _⟩ := run_append_own (P := Tryz.prog) w w.heap.size 25 o.type 23 i0 _ 1 8 Tryz.underlying25 hi hz0 hz1 hz2 rfl (by omega) (.slice none 0 0) 0 [] (World.ownsRow_nil w _ _ _) ⟨b, 0, none⟩ 1 c [wval y] rfl hnews (one_one y) (by unfold maxLen; omega) (by omega) (Nat.le_refl _)
    have hs' : a.eval s = .slice none 0 0 := hs
    unfold Oper.wp
    simp [execOp, ho, resolve, invoke, builtin, hs', hx, hrun, Result.andThen]
    exact hK _ _ (h v' w' (own_snoc (l := []) r1) ((Below.refl w.heap.size w).grown r2 (Nat.le_refl _) (fun k hk => by cases hk)))
end Go.Proofs.YtgkckomccabmlaaGreatDoor
namespace Go.Proofs.YtgkckomccabmlaaGreatDoor
open Go.ChangeShapes Go.WideShapes Go.ChangeAt Go.RowKit
open Dg (W B)
/-- there are dice in the block g, and of what there was at most they have turned -/
structure Dy (g : Nat) (l : List Int) (s t : Nat) (w w' : World) : Prop where
  lt : g < w.heap.size
  dice : IsDice w' g l t
  but : But g w w'
  le : s ≤ t
theorem Dy.new {g s : Nat} {l : List Int} {w : World} (h : IsDice w g l s) : Dy g l s s w w := ⟨h.lt, h, But.refl g w, Nat.le_refl _⟩
theorem Dy.trans {g r s t : Nat} {l : List Int} {a b c : World} (h : Dy g l r s a b) (k : Dy g l s t b c) : Dy g l r t a c := ⟨h.lt, k.dice, h.but.trans k.but, Nat.le_trans h.le k.le⟩
theorem Dy.drew {g s t : Nat} {l : List Int} {a w : World} (h : Dy g l s t a w) : Dy g l s t a w.drew := ⟨h.lt, h.dice.drew, h.but.drew, h.le⟩
theorem Dy.drewN {g s t : Nat} {l : List Int} {a w : World} (h : Dy g l s t a w) (n : Nat) : Dy g l s t a (w.drewN n) := ⟨h.lt, h.dice, h.but.drewN n, h.le⟩
theorem Dy.alloc {g s t : Nat} {l : List Int} {a w : World} (h : Dy g l s t a w) (o : Obj) : Dy g l s t a (w.alloc o) := ⟨h.lt, h.dice.alloc o, h.but.alloc o, h.le⟩
/-- what has been made since may be written -/
theorem Dy.later {g s t : Nat} {l : List Int} {a w w' : World} (h : Dy g l s t a w) (k : Below a.heap.size w w') : Dy g l s t a w' :=
  ⟨h.lt, h.dice.below k h.lt, ⟨k.os.trans h.but.os, k.tape.trans h.but.tape, k.output.trans h.but.output, Nat.le_trans h.but.size k.size, fun i hi hg => (k.block i hi).trans (h.but.block i hi hg)⟩, h.le⟩
theorem Dy.setCell {g s t : Nat} {l : List Int} {a w : World} (h : Dy g l s t a w) {p : Addr} (hp : a.heap.size ≤ p.block) (u : Value) : Dy g l s t a (w.setCell p u) := h.later ((Below.refl _ _).setCell hp u)
theorem Dy.size {g s t : Nat} {l : List Int} {a w : World} (h : Dy g l s t a w) : a.heap.size ≤ w.heap.size := h.but.size
theorem Dy.cell {g s t : Nat} {l : List Int} {a w : World} (h : Dy g l s t a w) {p : Addr} {v : Value} (hg : p.block ≠ g) (hv : a.cell? p = some v) : w.cell? p = some v := h.but.kept hg hv
theorem OwnB.off {base g : Nat} {w : World} {v : Value} {l : List B} (h : OwnB base w v l) (hg : g < base) : Off g v := by
  rcases h.2 with ⟨rfl, h0⟩ | ⟨b, cap, cur, rfl, h1, _⟩
  · exact Off.none _ _ _
  · exact Off.some (by omega)
theorem OwnB.but {base g : Nat} {w w' : World} {v : Value} {l : List B} (h : OwnB base w v l) (hb : But g w w') (hg : g < base) : OwnB base w' v l := by
  obtain ⟨h1, h2⟩ := h
  refine ⟨h1, ?_⟩
  rcases h2 with h2 | ⟨b, cap, cur, hv, hbb, hh, r⟩
  · exact .inl h2
  · exact .inr ⟨b, cap, cur, hv, hbb, by rw [hb.block b (Array.getElem?_eq_some_iff.1 hh).1 (by omega)]; exact hh, r⟩
theorem HasS.off {w : World} {N g : Nat} {v : Value} {l : List ByteArray} (h : HasS w N v l) (hg : N ≤ g) : Off g v := by
  rcases h with ⟨a, c, rfl, rfl⟩ | ⟨b, off, c, rfl, _, h3, _⟩
  · intro b' off' t' n' c' e; simp only [Value.slice.injEq] at e; exact .inl e.2.1.symm
  · exact Off.some (by omega)
theorem HasS.but {g N : Nat} {w w' : World} {v : Value} {l : List ByteArray} (h : HasS w N v l) (ho : Off g v) (hb : But g w w') : HasS w' N v l := by
  rcases h with ⟨a, c, rfl, rfl⟩ | ⟨b, off, c, rfl, h2, h3, h4⟩
  · exact .inl ⟨a, c, rfl, rfl⟩
  · refine .inr ⟨b, off, c, rfl, h2, h3, fun i hi => ?_⟩
    have hne : b ≠ g := by
      rcases ho _ _ _ _ _ rfl with h0 | h0
      · omega
      · exact h0
    exact hb.kept (p := ⟨b, off + i, Option.none⟩) hne (h4 i hi)
/-- the next number -/
theorem next_dy (n : Nat) (g : Nat) (l : List Int) (t : Nat) (w : World) (h1 : 1 ≤ n) (h2 : n ≤ 4611686018427387904) (hd : IsDice w g l t) :
    Calls Tryz.prog 24 #[.pointer (some ⟨g, 0, none⟩), .int .i64 (n : Int)] w fun e w' => ∃ r : Nat, e = .returned (.int .i64 (r : Int)) ∧ r < n ∧ (l.length ≤ t → r = row l.length (t + 1 - l.length) / 8589934592 % n) ∧ Dy g l t (t + 1) w w' :=
  (next_any n g l t w h1 h2 hd).mono fun _ _ ⟨r, h3, h4, h7, h5, h6⟩ => ⟨r, h3, h4, h7, hd.lt, h5, h6, by omega⟩
/-- one of some words -/
theorem word_any (ws : List ByteArray) (g : Nat) (l : List Int) (t : Nat) (v : Value) (w : World) (hl : 0 < ws.length) (h9 : ws.length ≤ 1000) (hv : HasS w w.heap.size v ws) (ho : Off g v) (hd : IsDice w g l t) :
    Calls Tryz.prog 55 #[.pointer (some ⟨g, 0, none⟩), v] w fun e w' => ∃ k, k < ws.length ∧ e = .returned (.string (ws.getD k ByteArray.empty)) ∧ Dy g l t (t + 1) w w' := by
  obtain ⟨a, cap, rfl⟩ := hv.form
  have C := Lib.hid (next_dy ws.length g l t w hl (by omega) hd)
  have HV := Lib.hid hv; have HO := Lib.hid ho
  obtain ⟨q, hq⟩ : ∃ q, q = ws.length := ⟨_, rfl⟩
  rw [← hq] at C HV HO h9 ⊢
  clear hv ho hd hl hq
  go_enter Tryz.func55, Tryz.ntmps55
  go_wp2_with fail
  refine (C.out).mono ?_; rintro e w1 ⟨r, rfl, hr, -, d1⟩
  obtain ⟨b, off, rfl, hcell⟩ := (HV.out.but HO.out d1.but).at r hr
  have D1 := Lib.hid d1
  clear d1
  go_wp2_with fail
  go_ret
  exact ⟨r, hr, rfl, D1.out⟩
def BRelK (g : Nat) (nums : List Int) (s : Nat) (w : World) (most : Nat) (b k : Value) (wr : World) : Prop := ∃ (l : List B) (j t : Nat), k = .int .i64 (j : Int) ∧ l.length + j ≤ most ∧ t + j ≤ s + 1 + most ∧ OwnB w.heap.size wr b l ∧ Dy g nums s t w wr
/-- up to so many bytes -/
theorem bytes_any (most : Nat) (g : Nat) (nums : List Int) (s : Nat) (w : World) (h9 : most ≤ 100000) (hd : IsDice w g nums s) :
    Calls Tryz.prog 59 #[.pointer (some ⟨g, 0, none⟩), .int .i64 (most : Int)] w fun e w' => ∃ v l t, e = .returned v ∧ OwnB w.heap.size w' v l ∧ l.length ≤ most ∧ t ≤ s + 1 + most ∧ Dy g nums s t w w' := by
  obtain ⟨m1, hm1⟩ : ∃ m1, m1 = most + 1 := ⟨_, rfl⟩
  have C := Lib.hid (next_dy m1 g nums s w (by omega) (by omega) hd)
  have hmI : (most : Int) + 1 = (m1 : Int) := by omega
  have HM := Lib.hid hm1
  clear hm1 hd
  go_enter Tryz.func59, Tryz.ntmps59
  go_wp2_with fail
  refine (C.out).mono ?_; rintro e w1 ⟨r, rfl, hr, -, d1⟩
  have hr2 : Hid (r ≤ most) := Lib.hid (by have := HM.out; omega)
  have D1 := Lib.hid d1
  clear d1 hmI hr
  go_wp2
  go_loopw [5, 6] (BRelK g nums s w most) (fun _ k _ => (intOf k).toNat)
  case atStart => exact ⟨[], r, s + 1, rfl, by have := hr2.out; simp; omega, by have := hr2.out; omega, OwnB.nil _ _, D1.out⟩
  case round =>
    obtain ⟨l, j, t, rfl, hlj, htj, ho, dy⟩ := hrel
    have HO := Lib.hid ho; have DD := Lib.hid dy; have HT := Lib.hid htj
    obtain ⟨a, cap, hform⟩ := ho.form
    subst hform
    obtain ⟨q, hq⟩ : ∃ q, q = l.length := ⟨_, rfl⟩
    rw [← hq] at HO hlj ⊢
    have HQ := Lib.hid hq
    clear ho dy hq htj
    by_cases hj : 0 < j
    · have t1 : (0 : Int) < (j : Int) := by omega
      have C2 := Lib.hid (next_dy 256 g nums t wr (by omega) (by omega) DD.out.dice)
      go_wp2_with fail
      refine (C2.out).mono ?_; rintro e w2 ⟨x, rfl, hx, -, d2⟩
      have D2 := Lib.hid (DD.out.trans d2)
      have O2 := Lib.hid (HO.out.but d2.but DD.out.lt)
      have hlo := low8 x
      clear d2
      go_wp2_with (at_builtin; refine wpList_append_bytes rfl (.tmp 15) (.tmp 19) rfl w.heap.size _ _ l [Cd.byte x] rfl (OwnB.alloc O2.out _) rfl (w2.heap.size + 1) (one_byte w2 _ _ hlo) (by have := HQ.out; simp only [List.length_singleton]; omega) (by have := D2.out.size; simp; omega) (q + 1) (by have := HQ.out; simp only [List.length_singleton]; omega) ?_)
      intro a3 cap3 w3 own3 grow3
      have D3 := Lib.hid ((D2.out.alloc _).later (below_grownB (Below.refl _ _) (by have := D2.out.size; simp; omega) (OwnB.alloc O2.out _) grow3))
      have OWN := Lib.hid own3
      clear own3 grow3 hlo
      go_wp2_with fail
      go_roundw
      case rel => exact ⟨l ++ [Cd.byte x], j - 1, t + 1, by go_num, by have := HQ.out; simp only [List.length_append, List.length_singleton]; omega, by have := HT.out; omega, OWN.out, D3.out⟩
      case measure => simp [intOf]; omega
    · obtain rfl : j = 0 := by omega
      go_wp2_with fail
      go_ret
      exact ⟨_, l, t, rfl, HO.out, by have := HQ.out; omega, by have := HT.out; omega, DD.out⟩
end Go.Proofs.YtgkckomccabmlaaGreatDoor
namespace Go.Proofs.YtgkckomccabmlaaGreatDoor
open Go.ChangeShapes Go.WideShapes Go.ChangeAt Go.RowKit
open Dg (W B)
open Ms (Msg)
def msgL (m : Msg) (dv pv : Value) : List Value := [.int .i64 m.kind, .int .i64 m.epoch, .int .i64 m.inst, .int .i64 m.round, .int .i64 m.bit, .int .u64 (uv m.root), .int .i64 m.len, dv, pv]
def msgV (m : Msg) (dv pv : Value) : Value := .agg #[.int .i64 m.kind, .int .i64 m.epoch, .int .i64 m.inst, .int .i64 m.round, .int .i64 m.bit, .int .u64 (uv m.root), .int .i64 m.len, dv, pv]
theorem load_msg (w : World) (N : Nat) (m : Msg) (dv pv : Value) (h0 : w.cell? ⟨N, 0, none⟩ = some (.int .i64 m.kind)) (h1 : w.cell? ⟨N, 1, none⟩ = some (.int .i64 m.epoch)) (h2 : w.cell? ⟨N, 2, none⟩ = some (.int .i64 m.inst)) (h3 : w.cell? ⟨N, 3, none⟩ = some (.int .i64 m.round)) (h4 : w.cell? ⟨N, 4, none⟩ = some (.int .i64 m.bit)) (h5 : w.cell? ⟨N, 5, none⟩ = some (.int .u64 (uv m.root))) (h6 : w.cell? ⟨N, 6, none⟩ = some (.int .i64 m.len)) (h7 : w.cell? ⟨N, 7, none⟩ = some dv) (h8 : w.cell? ⟨N, 8, none⟩ = some pv) :
    (loadVar 27 ⟨N, 0, none⟩).run Tryz.prog w = .ok (msgV m dv pv) w := by
  simp [loadVar, go_sem, h0, h1, h2, h3, h4, h5, h6, h7, h8, msgV]
/-- what a message's slices hold -/
structure MsgIn (w : World) (m : Msg) (dv pv : Value) : Prop where
  wf : m.Wf
  data : HasB w w.heap.size dv m.data
  path : HasW w w.heap.size pv m.path
theorem MsgIn.below {w w' : World} {m : Msg} {dv pv : Value} (h : MsgIn w m dv pv) (hb : Below w.heap.size w w') : MsgIn w' m dv pv :=
  ⟨h.wf, (h.data.below hb (Nat.le_refl _)).wide hb.size, (h.path.below hb (Nat.le_refl _)).wide hb.size⟩
theorem MsgIn.but {w w' : World} {g : Nat} {m : Msg} {dv pv : Value} (h : MsgIn w m dv pv) (hb : But g w w') (hd : Off g dv) (hp : Off g pv) : MsgIn w' m dv pv :=
  ⟨h.wf, (h.data.but hd hb).wide hb.size, (h.path.but hp hb).wide hb.size⟩
theorem MsgIn.drew {w : World} {m : Msg} {dv pv : Value} (h : MsgIn w m dv pv) : MsgIn w.drew m dv pv := ⟨h.wf, h.data, h.path⟩
theorem MsgIn.drewN {w : World} {m : Msg} {dv pv : Value} (h : MsgIn w m dv pv) (n : Nat) : MsgIn (w.drewN n) m dv pv := ⟨h.wf, h.data, h.path⟩
theorem MsgIn.alloc {w : World} {m : Msg} {dv pv : Value} (h : MsgIn w m dv pv) (o : Obj) : MsgIn (w.alloc o) m dv pv := h.below ((Below.refl _ _).alloc (Nat.le_refl _) o)
theorem MsgIn.set {w : World} {m : Msg} {dv pv : Value} (h : MsgIn w m dv pv) (N i : Nat) (u : Value) (hd : Off N dv) (hp : Off N pv) : MsgIn (w.setCell ⟨N, i, none⟩ u) m dv pv := h.but ((But.refl N w).setCell i u) hd hp
theorem MsgIn.off {w : World} {m : Msg} {dv pv : Value} (h : MsgIn w m dv pv) (N : Nat) (hN : w.heap.size ≤ N) : Off N dv ∧ Off N pv := ⟨h.data.off hN, h.path.off hN⟩
/-- nine stores into one block -/
def put9 (w : World) (N : Nat) (a b c d e f g h i : Value) : World :=
  ((((((((w.setCell ⟨N, 0, none⟩ a).setCell ⟨N, 1, none⟩ b).setCell ⟨N, 2, none⟩ c).setCell ⟨N, 3, none⟩ d).setCell ⟨N, 4, none⟩ e).setCell ⟨N, 5, none⟩ f).setCell ⟨N, 6, none⟩ g).setCell ⟨N, 7, none⟩ h).setCell ⟨N, 8, none⟩ i
theorem but_put9 (w : World) (N : Nat) (a b c d e f g h i : Value) : But N w (put9 w N a b c d e f g h i) :=
  (((((((((But.refl N w).setCell 0 a).setCell 1 b).setCell 2 c).setCell 3 d).setCell 4 e).setCell 5 f).setCell 6 g).setCell 7 h).setCell 8 i
theorem below_put9 (w : World) (N : Nat) (a b c d e f g h i : Value) : Below N w (put9 w N a b c d e f g h i) := by
  have k : ∀ (w1 : World) (j : Nat) (u : Value), Below N w w1 → Below N w (w1.setCell ⟨N, j, none⟩ u) := fun w1 j u hb => hb.setCell (p := ⟨N, j, none⟩) (Nat.le_refl _) u
  exact k _ _ _ (k _ _ _ (k _ _ _ (k _ _ _ (k _ _ _ (k _ _ _ (k _ _ _ (k _ _ _ (k _ _ _ (Below.refl N w)))))))))
theorem RecN.put9 {w : World} {N : Nat} {l : List Value} (h : RecN w N l) (hl : l.length = 9) (a b c d e f g h' i : Value) : RecN (put9 w N a b c d e f g h' i) N [a, b, c, d, e, f, g, h', i] := by
  have k := ((((((((h.set 0 (by omega) a).set 1 (by simp; omega) b).set 2 (by simp; omega) c).set 3 (by simp; omega) d).set 4 (by simp; omega) e).set 5 (by simp; omega) f).set 6 (by simp; omega) g).set 7 (by simp; omega) h').set 8 (by simp; omega) i
  match l, hl with
  | [_, _, _, _, _, _, _, _, _], _ => exact k
/-- a message in memory -/
theorem RecN.loadMsg {w : World} {N : Nat} {m : Msg} {dv pv : Value} (h : RecN w N (msgL m dv pv)) : (loadVar 27 ⟨N, 0, none⟩).run Tryz.prog w = .ok (msgV m dv pv) w :=
  load_msg w N m dv pv (h.c 0 rfl) (h.c 1 rfl) (h.c 2 rfl) (h.c 3 rfl) (h.c 4 rfl) (h.c 5 rfl) (h.c 6 rfl) (h.c 7 rfl) (h.c 8 rfl)
end Go.Proofs.YtgkckomccabmlaaGreatDoor
namespace Go.Proofs.YtgkckomccabmlaaGreatDoor
open Go.ChangeShapes Go.WideShapes Go.ChangeAt Go.RowKit
open Dg (W B)
namespace Ms
def nameL : List (List UInt8) := [[], [105, 110, 105, 116], [101, 99, 104, 111], [114, 101, 97, 100, 121], [115, 104, 97, 114, 100], [112, 97, 114, 116], [100, 111, 110, 101], [118, 97, 108, 117, 101], [97, 117, 120], [99, 111, 110, 102], [99, 111, 105, 110], [116, 101, 114, 109], [107, 101, 121]]
def name (k : Nat) : ByteArray := ⟨(nameL.getD k []).toArray⟩
/-- which fields a kind has, as the bits of a number -/
def fb (k : Nat) : Int := ([0, 8, 8, 8, 30, 30, 6, 1, 1, 1, 9, 0, 8] : List Int).getD k 0
end Ms
/-- the library's table of powers of ten -/
def Pow (w : World) : Prop := Lib.TabIs Tryz.prog w "internal/strconv.uint64pow10" .u64 Lib.pow10Tab
theorem gPow : Tryz.prog.globalNamed "internal/strconv.uint64pow10" = some 1 := by kernel_rfl
theorem Pow.of_block {w w' : World} (h : Pow w) (hb : w'.heap[(1 : Nat)]? = w.heap[(1 : Nat)]?) : Pow w' := by
  unfold Pow Lib.TabIs World.var? at h ⊢
  rw [gPow] at h ⊢
  simp only [Option.bind_some] at h ⊢
  rw [hb]; exact h
theorem Pow.lt {w : World} (h : Pow w) : 1 < w.heap.size := by
  unfold Pow Lib.TabIs World.var? at h
  rw [gPow] at h
  simp only [Option.bind_some] at h
  rcases Nat.lt_or_ge 1 w.heap.size with h1 | h1
  · exact h1
  · rw [Array.getElem?_eq_none h1] at h; cases h
/-- the program's table of kinds -/
def KT (w : World) : Prop := 0 < w.heap.size ∧ ∀ k, k < 13 → w.cell? ⟨0, k * 2, none⟩ = some (.string (Ms.name k)) ∧ w.cell? ⟨0, k * 2 + 1, none⟩ = some (.int .i64 (Ms.fb k))
theorem KT.below {w w' : World} {N : Nat} (h : KT w) (hb : Below N w w') (hN : 0 < N) : KT w' :=
  ⟨Nat.lt_of_lt_of_le h.1 hb.size, fun k hk => by
    rw [hb.cell (p := ⟨0, k * 2, none⟩) hN, hb.cell (p := ⟨0, k * 2 + 1, none⟩) hN]
    exact h.2 k hk⟩
theorem KT.but {w w' : World} {g : Nat} (h : KT w) (hb : But g w w') (hg : g ≠ 0) : KT w' :=
  ⟨Nat.lt_of_lt_of_le h.1 hb.size, fun k hk => by
    rw [hb.cell (p := ⟨0, k * 2, none⟩) h.1 (Ne.symm hg), hb.cell (p := ⟨0, k * 2 + 1, none⟩) h.1 (Ne.symm hg)]
    exact h.2 k hk⟩
/-- both tables -/
structure Tab (w : World) : Prop where
  pow : Pow w
  kinds : KT w
theorem Tab.below {w w' : World} (h : Tab w) (hb : Below w.heap.size w w') : Tab w' := ⟨h.pow.of_block (hb.block _ h.pow.lt), h.kinds.below hb h.kinds.1⟩
theorem Tab.but {w w' : World} {g : Nat} (h : Tab w) (hb : But g w w') (hg : g ≠ 1) (hg2 : g ≠ 0) : Tab w' := ⟨h.pow.of_block (hb.block _ h.pow.lt (Ne.symm hg)), h.kinds.but hb hg2⟩
theorem Tab.drew {w : World} (h : Tab w) : Tab w.drew := ⟨h.pow, h.kinds⟩
end Go.Proofs.YtgkckomccabmlaaGreatDoor
