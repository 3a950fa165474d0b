/-
  Digests as plain mathematics on words of 64 bits: the mix of a word and that it is a bijection; the word of at most 8 bytes; the digests of bytes and of lists; the text. No condition.
-/
import Derived.KernelRfl
namespace Go.Proofs.Ytjhjielenbeoiaa.Dg

abbrev W := BitVec 64
abbrev B := BitVec 8

/-! ### the mix -/
def mix (x : W) : W :=
  let y := x * 0x9e3779b97f4a7c15#64
  let z := (y ^^^ (y >>> 32)) * 0xd6e8feb86659fd93#64
  z ^^^ (z >>> 29)
def back (y : W) : W :=
  let z := (y ^^^ (y >>> 29) ^^^ (y >>> 58)) * 0xcfee444d8b59a89b#64
  (z ^^^ (z >>> 32)) * 0xf1de83e19937733d#64
theorem x29 (z : W) : (z ^^^ (z >>> 29)) ^^^ ((z ^^^ (z >>> 29)) >>> 29) ^^^ ((z ^^^ (z >>> 29)) >>> 58) = z := by
  apply BitVec.eq_of_getLsbD_eq
  intro i hi
  simp only [BitVec.getLsbD_xor, BitVec.getLsbD_ushiftRight]
  rw [show 29 + (29 + i) = 58 + i by omega, z.getLsbD_of_ge (29 + (58 + i)) (by omega)]
  cases z.getLsbD i <;> cases z.getLsbD (29 + i) <;> cases z.getLsbD (58 + i) <;> rfl
theorem x32 (z : W) : (z ^^^ (z >>> 32)) ^^^ ((z ^^^ (z >>> 32)) >>> 32) = z := by
  apply BitVec.eq_of_getLsbD_eq
  intro i hi
  simp only [BitVec.getLsbD_xor, BitVec.getLsbD_ushiftRight]
  rw [z.getLsbD_of_ge (32 + (32 + i)) (by omega)]
  cases z.getLsbD i <;> cases z.getLsbD (32 + i) <;> rfl
theorem i1 : 0x9e3779b97f4a7c15#64 * 0xf1de83e19937733d#64 = 1#64 := by decide
theorem i2 : 0xd6e8feb86659fd93#64 * 0xcfee444d8b59a89b#64 = 1#64 := by decide
theorem back_mix (x : W) : back (mix x) = x := by
  unfold back mix
  simp only [x29]
  rw [BitVec.mul_assoc, i2, BitVec.mul_one, x32, BitVec.mul_assoc, i1, BitVec.mul_one]
theorem mix_inj {a b : W} : mix a = mix b ↔ a = b :=
  ⟨fun h => by rw [← back_mix a, h, back_mix], fun h => by rw [h]⟩

/-! ### the word of bytes -/
def wordTo (l : List B) : Nat → W
  | 0 => 0
  | k + 1 => wordTo l k ||| ((l.getD k 0).setWidth 64 <<< (8 * k))
def word (l : List B) : W := wordTo l l.length
theorem wordTo_bit (l : List B) (k i : Nat) (hi : i < 64) : (wordTo l k).getLsbD i = (decide (i < 8 * k) && (l.getD (i / 8) 0).getLsbD (i % 8)) := by
  induction k with
  | zero => simp [wordTo]
  | succ k ih =>
    show (wordTo l k ||| ((l.getD k 0).setWidth 64 <<< (8 * k))).getLsbD i = _
    rw [BitVec.getLsbD_or, ih, BitVec.getLsbD_shiftLeft, BitVec.getLsbD_setWidth]
    by_cases h1 : i < 8 * k
    · simp [h1, show i < 8 * (k + 1) by omega]
    · by_cases h2 : i < 8 * (k + 1)
      · have e1 : i / 8 = k := by omega
        have e2 : i - 8 * k = i % 8 := by omega
        simp [h1, h2, hi, e1, e2, show i % 8 < 64 by omega]
      · have : (l.getD k 0).getLsbD (i - 8 * k) = false := BitVec.getLsbD_of_ge _ _ (by omega)
        rw [this]; simp [h1, h2]
theorem word_inj {l m : List B} (hl : l.length = m.length) (h8 : l.length ≤ 8) (h : word l = word m) : l = m := by
  apply List.ext_getElem hl
  intro k h1 h2
  apply BitVec.eq_of_getLsbD_eq
  intro j hj
  have e := congrArg (fun x : W => x.getLsbD (8 * k + j)) h
  simp only [word, wordTo_bit _ _ (8 * k + j) (by omega)] at e
  rw [show (8 * k + j) / 8 = k by omega, show (8 * k + j) % 8 = j by omega] at e
  simpa [show 8 * k + j < 8 * l.length by omega, show 8 * k + j < 8 * m.length by omega, List.getD, h1, h2] using e

/-! ### the digest of bytes: after j words -/
def ofTo (l : List B) : Nat → W
  | 0 => mix (BitVec.ofNat 64 l.length)
  | j + 1 => mix (ofTo l j ^^^ word ((l.drop (8 * j)).take 8))
def ofB (l : List B) : W := ofTo l ((l.length + 7) / 8)

/-! ### the digest of lists -/
def listTo (l : List W) : Nat → W
  | 0 => mix (BitVec.ofNat 64 l.length + 0x100000000#64)
  | j + 1 => mix (listTo l j ^^^ l.getD j 0)
theorem listTo_zero (l : List W) : listTo l 0 = mix (BitVec.ofNat 64 l.length + 0x100000000#64) := rfl
theorem listTo_succ (l : List W) (k : Nat) : listTo l (k + 1) = mix (listTo l k ^^^ l.getD k 0) := rfl
def listW (l : List W) : W := listTo l l.length
def pairW (a b : W) : W := mix (b ^^^ mix (a ^^^ 0x5bd1e9955bd1e995#64))
theorem pair_r {x y z : W} : pairW x y = pairW x z ↔ y = z := by
  unfold pairW
  rw [mix_inj]
  exact ⟨fun h => by have := congrArg (· ^^^ mix (x ^^^ 0x5bd1e9955bd1e995#64)) h; simpa [BitVec.xor_assoc] using this, fun h => by rw [h]⟩
theorem xor_left {a b c : W} : a ^^^ b = a ^^^ c ↔ b = c :=
  ⟨fun h => by have := congrArg (a ^^^ ·) h; simpa [← BitVec.xor_assoc] using this, fun h => by rw [h]⟩
theorem xor_right {a b c : W} : b ^^^ a = c ^^^ a ↔ b = c :=
  ⟨fun h => by have := congrArg (· ^^^ a) h; simpa [BitVec.xor_assoc] using this, fun h => by rw [h]⟩
theorem pair_l {x y z : W} : pairW x y = pairW z y ↔ x = z := by
  unfold pairW
  rw [mix_inj, xor_left, mix_inj, xor_right]

/-- lists that are alike but for one place: so are their values so far, up to this place; then they part, for good -/
theorem listTo_same {l m : List W} (hl : l.length = m.length) (k : Nat) (h : ∀ i, i < k → l.getD i 0 = m.getD i 0) : listTo l k = listTo m k := by
  induction k with
  | zero => show mix _ = mix _; rw [hl]
  | succ k ih =>
    show mix (listTo l k ^^^ _) = mix (listTo m k ^^^ _)
    rw [ih fun i hi => h i (by omega), h k (by omega)]
theorem listTo_apart {l m : List W} (at_ k : Nat) (h : ∀ i, at_ < i → l.getD i 0 = m.getD i 0) (h0 : listTo l (at_ + 1) ≠ listTo m (at_ + 1)) (hk : at_ < k) : listTo l k ≠ listTo m k := by
  induction k with
  | zero => omega
  | succ k ih =>
    by_cases e : at_ = k
    · subst e; exact h0
    · show mix (listTo l k ^^^ _) ≠ mix (listTo m k ^^^ _)
      rw [h k (by omega), Ne, mix_inj, xor_right]
      exact ih (by omega)
theorem list_set (l : List W) (i : Nat) (x : W) (hi : i < l.length) : listW l = listW (l.set i x) ↔ l = l.set i x := by
  refine ⟨fun h => ?_, fun h => by rw [← h]⟩
  refine Classical.byContradiction fun hn => ?_
  have hx : l.getD i 0 ≠ x := by
    intro e
    apply hn
    rw [← e, List.getD_eq_getElem?_getD, List.getElem?_eq_getElem hi]
    simp
  have hx' : (l.set i x).getD i 0 = x := by simp [List.getD, hi]
  have hs : ∀ j, j ≠ i → l.getD j 0 = (l.set i x).getD j 0 := fun j hj => by simp [List.getD, Ne.symm hj]
  unfold listW at h
  rw [List.length_set] at h
  refine listTo_apart i l.length (fun j hj => hs j (by omega)) ?_ hi h
  show mix (listTo l i ^^^ _) ≠ mix (listTo (l.set i x) i ^^^ _)
  rw [← listTo_same (by simp) i fun j hj => hs j (by omega), hx', Ne, mix_inj, xor_left]
  exact hx

/-! ### bytes that differ within one word -/
theorem ofTo_same {l m : List B} (hl : l.length = m.length) (k : Nat) (h : ∀ i, i < k → (l.drop (8 * i)).take 8 = (m.drop (8 * i)).take 8) : ofTo l k = ofTo m k := by
  induction k with
  | zero => show mix _ = mix _; rw [hl]
  | succ k ih =>
    show mix (ofTo l k ^^^ _) = mix (ofTo m k ^^^ _)
    rw [ih fun i hi => h i (by omega), h k (by omega)]
theorem ofTo_apart {l m : List B} (at_ k : Nat) (h : ∀ i, at_ < i → (l.drop (8 * i)).take 8 = (m.drop (8 * i)).take 8) (h0 : ofTo l (at_ + 1) ≠ ofTo m (at_ + 1)) (hk : at_ < k) : ofTo l k ≠ ofTo m k := by
  induction k with
  | zero => omega
  | succ k ih =>
    by_cases e : at_ = k
    · subst e; exact h0
    · show mix (ofTo l k ^^^ _) ≠ mix (ofTo m k ^^^ _)
      rw [h k (by omega), Ne, mix_inj, xor_right]
      exact ih (by omega)
/-- alike outside the word number j -/
def Near (l m : List B) (j : Nat) : Prop := l.length = m.length ∧ ∀ i, i < 8 * j ∨ 8 * j + 8 ≤ i → l.getD i 0 = m.getD i 0
theorem near_word {l m : List B} {j : Nat} (h : Near l m j) {i : Nat} (hi : i ≠ j) : (l.drop (8 * i)).take 8 = (m.drop (8 * i)).take 8 := by
  apply List.ext_getElem (by simp [h.1])
  intro k h1 h2
  have h1' : k < 8 ∧ 8 * i + k < l.length := by simp at h1; omega
  have e := h.2 (8 * i + k) (by omega)
  simpa [List.getD, h1'.2, h.1 ▸ h1'.2] using e
theorem near_of {l m : List B} {j : Nat} (h : Near l m j) (hj : 8 * j < l.length) : ofB l = ofB m ↔ l = m := by
  refine ⟨fun e => ?_, fun e => by rw [e]⟩
  refine Classical.byContradiction fun hn => ?_
  have hw : (l.drop (8 * j)).take 8 ≠ (m.drop (8 * j)).take 8 := by
    intro e
    apply hn
    apply List.ext_getElem h.1
    intro k h1 h2
    by_cases hk : k < 8 * j ∨ 8 * j + 8 ≤ k
    · have := h.2 k hk
      simpa [List.getD, h1, h2] using this
    · have := congrArg (fun x : List B => x[k - 8 * j]?) e
      have e2 : 8 * j + (k - 8 * j) = k := by omega
      simpa [List.getElem?_take, List.getElem?_drop, e2, h1, h2, show k - 8 * j < 8 by omega] using this
  unfold ofB at e
  rw [← h.1] at e
  refine ofTo_apart j _ (fun i hi => near_word h (by omega)) ?_ (by omega) e
  show mix (ofTo l j ^^^ _) ≠ mix (ofTo m j ^^^ _)
  rw [← ofTo_same h.1 j fun i hi => near_word h (by omega), Ne, mix_inj, xor_left]
  exact fun e => hw (word_inj (by simp [h.1]) (by simp; omega) e)
end Go.Proofs.Ytjhjielenbeoiaa.Dg
