/-
  Bytes of numbers and lists as plain mathematics: what is written, what is read, that what was written is read, and that what is read is written by the same bytes. No condition.
-/
import Derived.Test.YtkckimhkbnigkaaDg
namespace Go.Proofs.Ytkckimhkbnigkaa.Cd
open Dg (W B)

/-- what reading from the beginning of some bytes gives: the value and how many bytes it has, or an error -/
inductive R (α : Type) where
  | ok (x : α) (len : Nat)
  | bad (code : Nat)

/-! ### numbers that are not negative -/
def byte (n : Nat) : B := BitVec.ofNat 8 n
theorem byte_toNat {n : Nat} (h : n < 256) : (byte n).toNat = n := by simp [byte, Nat.mod_eq_of_lt h]
theorem byte_of (c : B) : byte c.toNat = c := by simp [byte]
def put (u : Nat) : List B := if 127 < u then byte (u % 128 + 128) :: put (u / 128) else [byte u]
termination_by u
decreasing_by omega
theorem put_big {u : Nat} (h : 127 < u) : put u = byte (u % 128 + 128) :: put (u / 128) := by rw [put, if_pos h]
theorem put_small {u : Nat} (h : ¬ 127 < u) : put u = [byte u] := by rw [put, if_neg h]
def rd (i acc : Nat) : List B → R Nat
  | [] => .bad 5
  | c :: t => if (i = 9 ∧ 1 < c.toNat) ∨ (0 < i ∧ c.toNat = 0) then .bad 4 else if c.toNat < 128 then .ok (acc + c.toNat * 128 ^ i) (i + 1) else rd (i + 1) (acc + (c.toNat - 128) * 128 ^ i) t
theorem room {i : Nat} (h : i ≤ 8) : 2 ^ (64 - 7 * i) = 128 * 2 ^ (64 - 7 * (i + 1)) := by
  rw [show 64 - 7 * i = 7 + (64 - 7 * (i + 1)) by omega, Nat.pow_add]
theorem room8 {i : Nat} (h : i ≤ 8) : 128 ≤ 2 ^ (64 - 7 * i) := by
  have := Nat.pow_le_pow_right (n := 2) (by omega) (show 7 ≤ 64 - 7 * i by omega)
  simpa using this
theorem join (v acc p : Nat) : acc + (v % 128) * p + (v / 128) * (p * 128) = acc + v * p := by
  have h : v = v / 128 * 128 + v % 128 := by omega
  rw [show (v / 128) * (p * 128) = (v / 128 * 128) * p by rw [Nat.mul_comm p 128, ← Nat.mul_assoc], Nat.add_assoc, ← Nat.add_mul, Nat.add_comm (v % 128), ← h]
theorem rd_put (v : Nat) : ∀ (i acc : Nat) (t : List B), i ≤ 9 → v < 2 ^ (64 - 7 * i) → (0 < i → 0 < v) → rd i acc (put v ++ t) = .ok (acc + v * 128 ^ i) (i + (put v).length) := by
  induction v using Nat.strongRecOn with
  | _ v ih =>
    intro i acc t hi hv h0
    by_cases h : 127 < v
    · have i8 : i ≤ 8 := by
        rcases Nat.lt_or_ge i 9 with h9 | h9
        · omega
        · obtain rfl : i = 9 := by omega
          simp at hv; omega
      have hr := room i8
      have hb : (byte (v % 128 + 128)).toNat = v % 128 + 128 := byte_toNat (by omega)
      rw [put_big h, List.cons_append, rd, hb, if_neg (by omega), if_neg (by omega), ih (v / 128) (by omega) (i + 1) _ t (by omega) (by omega) (by omega)]
      rw [Nat.add_sub_cancel, Nat.pow_succ, join, List.length_cons]
      congr 1
      omega
    · have hb : (byte v).toNat = v := byte_toNat (by omega)
      have h9 : ¬ (i = 9 ∧ 1 < v) := by rintro ⟨rfl, h1⟩; simp at hv; omega
      rw [put_small h, List.singleton_append, rd, hb, if_neg (by omega), if_pos (by omega)]
      rfl
theorem put_len_pos (v : Nat) : 0 < (put v).length := by
  by_cases h : 127 < v
  · rw [put_big h]; simp
  · rw [put_small h]; simp
theorem rd_cut (v : Nat) : ∀ (i acc j : Nat), i ≤ 9 → v < 2 ^ (64 - 7 * i) → (0 < i → 0 < v) → j < (put v).length → rd i acc ((put v).take j) = .bad 5 := by
  induction v using Nat.strongRecOn with
  | _ v ih =>
    intro i acc j hi hv h0 hj
    by_cases h : 127 < v
    · have i8 : i ≤ 8 := by
        rcases Nat.lt_or_ge i 9 with h9 | h9
        · omega
        · obtain rfl : i = 9 := by omega
          simp at hv; omega
      have hr := room i8
      have hb : (byte (v % 128 + 128)).toNat = v % 128 + 128 := byte_toNat (by omega)
      rw [put_big h] at hj ⊢
      match j with
      | 0 => rfl
      | j + 1 =>
        rw [List.take_succ_cons, rd, hb, if_neg (by omega), if_neg (by omega)]
        exact ih (v / 128) (by omega) (i + 1) _ j (by omega) (by omega) (by omega) (by simpa using hj)
    · rw [put_small h] at hj ⊢
      obtain rfl : j = 0 := by simp at hj; omega
      rfl
/-- what is read as a number is written by the same bytes -/
theorem rd_inv : ∀ (l : List B) (i acc u k : Nat), i ≤ 9 → rd i acc l = .ok u k → ∃ v, u = acc + v * 128 ^ i ∧ (0 < i → 0 < v) ∧ v < 2 ^ (64 - 7 * i) ∧ i < k ∧ k - i ≤ l.length ∧ l.take (k - i) = put v
  | [], i, acc, u, k, _, h => by simp [rd] at h
  | c :: t, i, acc, u, k, hi, h => by
    rw [rd] at h
    split at h
    · cases h
    · rename_i hn
      have hc := c.isLt
      split at h
      · rename_i hs
        simp only [R.ok.injEq] at h
        obtain ⟨rfl, rfl⟩ := h
        refine ⟨c.toNat, rfl, by omega, ?_, by omega, by simp <;> omega, ?_⟩
        · rcases Nat.lt_or_ge i 9 with h9 | h9
          · have := room8 (i := i) (by omega); omega
          · obtain rfl : i = 9 := by omega
            simp; omega
        · rw [put_small (by omega), byte_of, Nat.add_sub_cancel_left]; rfl
      · rename_i hs
        have i8 : i ≤ 8 := by
          rcases Nat.lt_or_ge i 9 with h9 | h9
          · omega
          · obtain rfl : i = 9 := by omega
            exact absurd (Or.inl ⟨rfl, by omega⟩) hn
        obtain ⟨v, e1, e2, e3, e4, e5, e6⟩ := rd_inv t (i + 1) _ u k (by omega) h
        have hr := room i8
        have hv : (c.toNat - 128 + 128 * v) % 128 = c.toNat - 128 := by omega
        have hd : (c.toNat - 128 + 128 * v) / 128 = v := by omega
        refine ⟨c.toNat - 128 + 128 * v, ?_, by omega, by omega, by omega, by simp; omega, ?_⟩
        · have := join (c.toNat - 128 + 128 * v) acc (128 ^ i)
          rw [hv, hd] at this
          rw [e1, Nat.pow_succ, this]
        · have e2' := e2 (by omega)
          rw [put_big (by omega), hv, hd, ← e6, Nat.sub_add_cancel (by omega), byte_of, show k - i = (k - (i + 1)) + 1 by omega, List.take_succ_cons]

/-! ### numbers -/
def zig (n : Int) : Nat := if 0 ≤ n then (2 * n).toNat else (-2 * n - 1).toNat
def zag (u : Nat) : Int := if u % 2 = 1 then -((u / 2 : Nat) : Int) - 1 else ((u / 2 : Nat) : Int)
theorem zag_zig (n : Int) : zag (zig n) = n := by
  unfold zag zig
  split <;> split <;> omega
theorem zig_zag (u : Nat) : zig (zag u) = u := by
  unfold zag zig
  split <;> split <;> omega
def InR (n : Int) : Prop := -9223372036854775808 ≤ n ∧ n ≤ 9223372036854775807
theorem zig_lt {n : Int} (h : InR n) : zig n < 18446744073709551616 := by
  unfold InR at h; unfold zig
  split <;> omega
theorem zag_in {u : Nat} (h : u < 18446744073709551616) : InR (zag u) := by
  unfold InR zag
  split <;> omega
def putI (n : Int) : List B := put (zig n)
def getI (b : List B) : R Int := match rd 0 0 b with
  | .ok u k => .ok (zag u) k
  | .bad c => .bad c
theorem getI_put {n : Int} (h : InR n) (t : List B) : getI (putI n ++ t) = .ok n (putI n).length := by
  unfold getI putI
  have hz := zig_lt h
  rw [rd_put (zig n) 0 0 t (by omega) (by simpa using hz) (by omega)]
  simp only [Nat.pow_zero, Nat.mul_one, Nat.zero_add, zag_zig]
theorem getI_inv {b : List B} {n : Int} {k : Nat} (h : getI b = .ok n k) : InR n ∧ 0 < k ∧ k ≤ b.length ∧ b.take k = putI n := by
  unfold getI at h
  split at h
  · rename_i u k' hr
    simp only [R.ok.injEq] at h
    obtain ⟨rfl, rfl⟩ := h
    obtain ⟨v, e1, _, e3, e4, e5, e6⟩ := rd_inv b 0 0 u k' (by omega) hr
    obtain rfl : u = v := by simpa using e1
    refine ⟨zag_in (by simpa using e3), e4, by simpa using e5, ?_⟩
    unfold putI
    rw [zig_zag]; simpa using e6
  · cases h
theorem getI_cut {n : Int} (h : InR n) {j : Nat} (hj : j < (putI n).length) : getI ((putI n).take j) = .bad 5 := by
  unfold getI putI
  have hz := zig_lt h
  rw [rd_cut (zig n) 0 0 j (by omega) (by simpa using hz) (by omega) hj]

/-! ### strings of bytes -/
def putB (d : List B) : List B := putI d.length ++ d
def getB (b : List B) : R (List B) := match getI b with
  | .bad c => .bad c
  | .ok n k => if n < 0 then .bad 4 else if (b.length : Int) - k < n then .bad 5 else .ok ((b.drop k).take n.toNat) (k + n.toNat)
theorem in_len {d : List B} (h : d.length ≤ 9223372036854775807) : InR (d.length : Int) := by unfold InR; omega
theorem putB_len (d : List B) : (putB d).length = (putI d.length).length + d.length := by simp [putB]
theorem getB_put {d : List B} (h : d.length ≤ 9223372036854775807) (t : List B) : getB (putB d ++ t) = .ok d (putB d).length := by
  unfold getB
  rw [show putB d ++ t = putI d.length ++ (d ++ t) by simp [putB], getI_put (in_len h)]
  simp only []
  rw [if_neg (by omega), if_neg (by simp; omega)]
  congr 1
  · simp
  · rw [putB_len]; simp
theorem getB_inv {b d : List B} {k : Nat} (h : getB b = .ok d k) : d.length ≤ 9223372036854775807 ∧ 0 < k ∧ k ≤ b.length ∧ b.take k = putB d := by
  unfold getB at h
  split at h
  · cases h
  · rename_i n k' hr
    obtain ⟨e1, e2, e3, e4⟩ := getI_inv hr
    unfold InR at e1
    split at h
    · cases h
    · split at h
      · cases h
      · rename_i h1 h2
        simp only [R.ok.injEq] at h
        obtain ⟨rfl, rfl⟩ := h
        have hl : ((b.drop k').take n.toNat).length = n.toNat := by simp; omega
        refine ⟨by omega, by omega, by omega, ?_⟩
        unfold putB
        rw [hl, show ((n.toNat : Nat) : Int) = n by omega, ← e4, List.take_add]

/-! ### digests -/
def dgN (l : List B) : Nat := l.foldl (fun a c => a * 256 + c.toNat) 0
def putD (d : W) : List B := [byte (d.toNat / 72057594037927936 % 256), byte (d.toNat / 281474976710656 % 256), byte (d.toNat / 1099511627776 % 256), byte (d.toNat / 4294967296 % 256), byte (d.toNat / 16777216 % 256), byte (d.toNat / 65536 % 256), byte (d.toNat / 256 % 256), byte (d.toNat % 256)]
def getD (b : List B) : R W := if b.length < 8 then .bad 5 else .ok (BitVec.ofNat 64 (dgN (b.take 8))) 8
theorem putD_len (d : W) : (putD d).length = 8 := rfl
theorem dgN_put (d : W) : dgN (putD d) = d.toNat := by
  have hd := d.isLt
  unfold dgN putD
  simp only [List.foldl_cons, List.foldl_nil]
  rw [byte_toNat (Nat.mod_lt _ (by decide)), byte_toNat (Nat.mod_lt _ (by decide)), byte_toNat (Nat.mod_lt _ (by decide)), byte_toNat (Nat.mod_lt _ (by decide)), byte_toNat (Nat.mod_lt _ (by decide)), byte_toNat (Nat.mod_lt _ (by decide)), byte_toNat (Nat.mod_lt _ (by decide)), byte_toNat (Nat.mod_lt _ (by decide))]
  generalize d.toNat = n at hd
  omega
theorem getD_put (d : W) (t : List B) : getD (putD d ++ t) = .ok d 8 := by
  unfold getD
  rw [if_neg (by simp [putD_len]), show (putD d ++ t).take 8 = putD d from List.take_left' (putD_len d), dgN_put]
  simp
theorem eight {l : List B} (h : l.length = 8) : ∃ a b c d e f g i, l = [a, b, c, d, e, f, g, i] := by
  match l, h with
  | [a, b, c, d, e, f, g, i], _ => exact ⟨a, b, c, d, e, f, g, i, rfl⟩
theorem put_dgN {l : List B} (h : l.length = 8) : putD (BitVec.ofNat 64 (dgN l)) = l := by
  obtain ⟨a, b, c, d, e, f, g, i, rfl⟩ := eight h
  have ha := a.isLt; have hb := b.isLt; have hc := c.isLt; have hd := d.isLt; have he := e.isLt; have hf := f.isLt; have hg := g.isLt; have hi := i.isLt
  have hn : (BitVec.ofNat 64 (dgN [a, b, c, d, e, f, g, i])).toNat = ((((((a.toNat * 256 + b.toNat) * 256 + c.toNat) * 256 + d.toNat) * 256 + e.toNat) * 256 + f.toNat) * 256 + g.toNat) * 256 + i.toNat := by
    unfold dgN
    simp only [List.foldl_cons, List.foldl_nil, BitVec.toNat_ofNat]
    omega
  unfold putD
  rw [hn]
  have e1 : ∀ (x : Nat) (y : B), x = y.toNat → byte x = y := fun x y h => by rw [h, byte_of]
  congr 1
  · exact e1 _ _ (by omega)
  congr 1
  · exact e1 _ _ (by omega)
  congr 1
  · exact e1 _ _ (by omega)
  congr 1
  · exact e1 _ _ (by omega)
  congr 1
  · exact e1 _ _ (by omega)
  congr 1
  · exact e1 _ _ (by omega)
  congr 1
  · exact e1 _ _ (by omega)
  congr 1
  exact e1 _ _ (by omega)
theorem getD_inv {b : List B} {d : W} {k : Nat} (h : getD b = .ok d k) : k = 8 ∧ 8 ≤ b.length ∧ b.take 8 = putD d := by
  unfold getD at h
  split at h
  · cases h
  · simp only [R.ok.injEq] at h
    obtain ⟨rfl, rfl⟩ := h
    exact ⟨rfl, by omega, (put_dgN (by simp; omega)).symm⟩

/-! ### lists of strings -/
def putAll : List (List B) → List B
  | [] => []
  | d :: l => putB d ++ putAll l
def putL (l : List (List B)) : List B := putI l.length ++ putAll l
def rdL : Nat → List B → Nat → R (List (List B))
  | 0, _, p => .ok [] p
  | m + 1, b, p => match getB b with
    | .bad c => .bad c
    | .ok d k => match rdL m (b.drop k) (p + k) with
      | .bad c => .bad c
      | .ok l q => .ok (d :: l) q
def getL (b : List B) : R (List (List B)) := match getI b with
  | .bad c => .bad c
  | .ok n k => if n < 0 then .bad 4 else rdL n.toNat (b.drop k) k
theorem rdL_put : ∀ (l : List (List B)) (t : List B) (p : Nat), (∀ d ∈ l, d.length ≤ 9223372036854775807) → rdL l.length (putAll l ++ t) p = .ok l (p + (putAll l).length)
  | [], t, p, _ => rfl
  | d :: l, t, p, h => by
    have h1 := h d (by simp)
    show rdL (l.length + 1) (putB d ++ putAll l ++ t) p = _
    rw [List.append_assoc, rdL, getB_put h1]
    simp only []
    rw [List.drop_left, rdL_put l t _ (fun x hx => h x (by simp [hx]))]
    simp only []
    congr 1
    simp [putAll]; omega
theorem rdL_inv : ∀ (m : Nat) (b : List B) (p : Nat) (l : List (List B)) (q : Nat), rdL m b p = .ok l q → l.length = m ∧ p ≤ q ∧ q - p ≤ b.length ∧ b.take (q - p) = putAll l ∧ ∀ d ∈ l, d.length ≤ 9223372036854775807
  | 0, b, p, l, q, h => by
    simp only [rdL, R.ok.injEq] at h
    obtain ⟨rfl, rfl⟩ := h
    simp [putAll]
  | m + 1, b, p, l, q, h => by
    rw [rdL] at h
    split at h
    · cases h
    · rename_i d k hb
      obtain ⟨g1, g2, g3, g4⟩ := getB_inv hb
      split at h
      · cases h
      · rename_i l' q' hl
        simp only [R.ok.injEq] at h
        obtain ⟨rfl, rfl⟩ := h
        obtain ⟨e1, e2, e3, e4, e5⟩ := rdL_inv m (b.drop k) (p + k) l' q' hl
        rw [List.length_drop] at e3
        refine ⟨by simp [e1], by omega, by omega, ?_, ?_⟩
        · rw [putAll, ← g4, ← e4, show q' - p = k + (q' - (p + k)) by omega, List.take_add]
        · intro x hx
          rcases List.mem_cons.1 hx with rfl | hx
          · exact g1
          · exact e5 x hx
theorem getL_put {l : List (List B)} (h : l.length ≤ 9223372036854775807) (hd : ∀ d ∈ l, d.length ≤ 9223372036854775807) (t : List B) : getL (putL l ++ t) = .ok l (putL l).length := by
  unfold getL
  rw [show putL l ++ t = putI l.length ++ (putAll l ++ t) by simp [putL], getI_put (by unfold InR; omega)]
  simp only []
  rw [if_neg (by omega), List.drop_left, show ((l.length : Nat) : Int).toNat = l.length by omega, rdL_put l t _ hd]
  simp [putL]
theorem getL_inv {b : List B} {l : List (List B)} {k : Nat} (h : getL b = .ok l k) : 0 < k ∧ k ≤ b.length ∧ b.take k = putL l ∧ l.length ≤ 9223372036854775807 ∧ ∀ d ∈ l, d.length ≤ 9223372036854775807 := by
  unfold getL at h
  split at h
  · cases h
  · rename_i n k' hr
    obtain ⟨e1, e2, e3, e4⟩ := getI_inv hr
    unfold InR at e1
    split at h
    · cases h
    · obtain ⟨g1, g2, g3, g4, g5⟩ := rdL_inv _ _ _ _ _ h
      rw [List.length_drop] at g3
      refine ⟨by omega, by omega, ?_, by omega, g5⟩
      unfold putL
      rw [g1, show ((n.toNat : Nat) : Int) = n by omega, ← e4, ← g4, show k = k' + (k - k') by omega, List.take_add]
      congr 2
      omega

/-! ### frames -/
def frame (d : List B) : List B := putB d ++ putD (Dg.ofB d)
def unframe (b : List B) : R (List B) := match getB b with
  | .bad c => .bad c
  | .ok d k => match getD (b.drop k) with
    | .bad c => .bad c
    | .ok x j => if x = Dg.ofB d then .ok d (k + j) else .bad 9
theorem unframe_frame {d : List B} (h : d.length ≤ 9223372036854775807) (t : List B) : unframe (frame d ++ t) = .ok d (frame d).length := by
  unfold unframe
  rw [show frame d ++ t = putB d ++ (putD (Dg.ofB d) ++ t) by simp [frame], getB_put h]
  simp only []
  rw [List.drop_left, getD_put]
  simp [frame, putD_len]
/-- where the bytes end too early -/
theorem getB_cut {d : List B} (h : d.length ≤ 9223372036854775807) {j : Nat} (hj : j < (putB d).length) : getB ((putB d).take j) = .bad 5 := by
  unfold getB
  rcases Nat.lt_or_ge j (putI d.length).length with h1 | h1
  · have : (putB d).take j = (putI d.length).take j := by unfold putB; rw [List.take_append_of_le_length (by omega)]
    rw [this, getI_cut (in_len h) h1]
  · have e : (putB d).take j = putI d.length ++ d.take (j - (putI d.length).length) := by unfold putB; rw [List.take_append, List.take_of_length_le h1]
    rw [putB_len] at hj
    rw [e, getI_put (in_len h)]
    simp only []
    rw [if_neg (by omega), if_pos (by simp; omega)]
theorem unframe_cut {d : List B} (h : d.length ≤ 9223372036854775807) {j : Nat} (hj : j < (frame d).length) : unframe ((frame d).take j) = .bad 5 := by
  unfold unframe
  rcases Nat.lt_or_ge j (putB d).length with h1 | h1
  · have : (frame d).take j = (putB d).take j := by unfold frame; rw [List.take_append_of_le_length (by omega)]
    rw [this, getB_cut h h1]
  · have e : (frame d).take j = putB d ++ (putD (Dg.ofB d)).take (j - (putB d).length) := by unfold frame; rw [List.take_append, List.take_of_length_le h1]
    have hl : (frame d).length = (putB d).length + 8 := by simp [frame, putD_len]
    rw [e, getB_put h]
    simp only []
    rw [List.drop_left, getD, if_pos (by rw [List.length_take, putD_len]; omega)]
/-- a frame in which one byte of its data is another one -/
theorem unframe_changed {d : List B} (h : d.length ≤ 9223372036854775807) (i : Nat) (x : B) (hi : i < d.length) (hx : x ≠ d.getD i 0) : unframe (putI d.length ++ d.set i x ++ putD (Dg.ofB d)) = .bad 9 := by
  have hl : (d.set i x).length = d.length := List.length_set
  have e : putI d.length ++ d.set i x = putB (d.set i x) := by unfold putB; rw [hl]
  have hne : Dg.ofB d ≠ Dg.ofB (d.set i x) := by
    intro h2
    have hn : Dg.Near d (d.set i x) (i / 8) := ⟨hl.symm, fun k hk => by
      rw [List.getD_eq_getElem?_getD, List.getD_eq_getElem?_getD, List.getElem?_set_ne (by omega)]⟩
    have := (Dg.near_of hn (by omega)).1 h2
    have h3 := congrArg (fun l => l.getD i 0) this
    simp [hi] at h3
    apply hx
    simp [hi, ← h3]
  unfold unframe
  rw [e, getB_put (by rw [hl]; exact h)]
  simp only []
  rw [List.drop_left, show putD (Dg.ofB d) = putD (Dg.ofB d) ++ [] by simp, getD_put]
  simp only []
  rw [if_neg hne]
/-! ### how many bytes a number needs -/
def need (u : Nat) : Nat := if 127 < u then need (u / 128) + 1 else 1
termination_by u
decreasing_by omega
theorem put_len (u : Nat) : (put u).length = need u := by
  induction u using Nat.strongRecOn with
  | _ u ih =>
    by_cases h : 127 < u
    · rw [put_big h, need, if_pos h, List.length_cons, ih _ (by omega)]
    · rw [put_small h, need, if_neg h]; rfl
theorem need_lt (k : Nat) : ∀ u, u < 128 ^ (k + 1) → need u ≤ k + 1 := by
  induction k with
  | zero => intro u h; rw [need, if_neg (by simp at h; omega)]; omega
  | succ k ih =>
    intro u h
    rw [need]
    split
    · have := ih (u / 128) (by rw [Nat.pow_succ] at h; exact Nat.div_lt_of_lt_mul (by rw [Nat.mul_comm]; exact h))
      omega
    · omega
theorem need_le {u : Nat} (h : u < 18446744073709551616) : need u ≤ 10 := need_lt 9 u (Nat.lt_of_lt_of_le h (by decide))
end Go.Proofs.Ytkckimhkbnigkaa.Cd
