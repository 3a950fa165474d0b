/-
  Sequences, worlds, regions; slices and structs in memory. Each says its own conditions; nothing that was there has changed.
-/
import Derived.KernelRfl
import Derived.Test.YtgkckomccabmlaaGreatDoorRows
import Derived.WalkKit
import Derived.ProofKit
import Derived.Handy
import Derived.Laws.BitsAll
import Derived.IntWalk
import Derived.Laws.ShiftsVar
import Derived.Lib.Hide
import Derived.Deep.LoopGhost
import Derived.Outline
import Derived.Deep.QuietTactic
import Derived.BigQuiet
import Derived.Laws.AppendOwn
import Derived.Laws.CopyOwn
import Derived.Deep.AppendLies
import Derived.Deep.RegionLaw
import Derived.StillTailTactics
import Derived.WalkLawsBesides
import Derived.Laws.BytesString
import Derived.Below
import Derived.Deep.Onto
import Derived.ArgAppend
import Derived.Deep.MidRow
import Derived.Deep.RegionHeld3
import Derived.OpenShut
import Derived.Carry
import Derived.Lib.LaidTab
import Derived.ChangeSame
import Derived.ChangeArms
namespace Go.Proofs.YtgkckomccabmlaaGreatDoor.Dg

abbrev W := BitVec 64
abbrev B := BitVec 8

/-! ### the mix -/
def mix (x : W) : W :=
  let y := x * 0x9e3779b97f4a7c15#64
  let z := (y ^^^ (y >>> 32)) * 0xd6e8feb86659fd93#64
  z ^^^ (z >>> 29)
def back (y : W) : W :=
  let z := (y ^^^ (y >>> 29) ^^^ (y >>> 58)) * 0xcfee444d8b59a89b#64
  (z ^^^ (z >>> 32)) * 0xf1de83e19937733d#64
theorem x29 (z : W) : (z ^^^ (z >>> 29)) ^^^ ((z ^^^ (z >>> 29)) >>> 29) ^^^ ((z ^^^ (z >>> 29)) >>> 58) = z := by
  apply BitVec.eq_of_getLsbD_eq
  intro i hi
  simp only [BitVec.getLsbD_xor, BitVec.getLsbD_ushiftRight]
  rw [show 29 + (29 + i) = 58 + i by omega, z.getLsbD_of_ge (29 + (58 + i)) (by omega)]
  cases z.getLsbD i <;> cases z.getLsbD (29 + i) <;> cases z.getLsbD (58 + i) <;> rfl
theorem x32 (z : W) : (z ^^^ (z >>> 32)) ^^^ ((z ^^^ (z >>> 32)) >>> 32) = z := by
  apply BitVec.eq_of_getLsbD_eq
  intro i hi
  simp only [BitVec.getLsbD_xor, BitVec.getLsbD_ushiftRight]
  rw [z.getLsbD_of_ge (32 + (32 + i)) (by omega)]
  cases z.getLsbD i <;> cases z.getLsbD (32 + i) <;> rfl
theorem i1 : 0x9e3779b97f4a7c15#64 * 0xf1de83e19937733d#64 = 1#64 := by decide
theorem i2 : 0xd6e8feb86659fd93#64 * 0xcfee444d8b59a89b#64 = 1#64 := by decide
theorem back_mix (x : W) : back (mix x) = x := by
  unfold back mix
  simp only [x29]
  rw [BitVec.mul_assoc, i2, BitVec.mul_one, x32, BitVec.mul_assoc, i1, BitVec.mul_one]
theorem mix_inj {a b : W} : mix a = mix b ↔ a = b :=
  ⟨fun h => by rw [← back_mix a, h, back_mix], fun h => by rw [h]⟩

/-! ### the word of bytes -/
def wordTo (l : List B) : Nat → W
  | 0 => 0
  | k + 1 => wordTo l k ||| ((l.getD k 0).setWidth 64 <<< (8 * k))
def word (l : List B) : W := wordTo l l.length
theorem wordTo_bit (l : List B) (k i : Nat) (hi : i < 64) : (wordTo l k).getLsbD i = (decide (i < 8 * k) && (l.getD (i / 8) 0).getLsbD (i % 8)) := by
  induction k with
  | zero => simp [wordTo]
  | succ k ih =>
    show (wordTo l k ||| ((l.getD k 0).setWidth 64 <<< (8 * k))).getLsbD i = _
    rw [BitVec.getLsbD_or, ih, BitVec.getLsbD_shiftLeft, BitVec.getLsbD_setWidth]
    by_cases h1 : i < 8 * k
    · simp [h1, show i < 8 * (k + 1) by omega]
    · by_cases h2 : i < 8 * (k + 1)
      · have e1 : i / 8 = k := by omega
        have e2 : i - 8 * k = i % 8 := by omega
        simp [h1, h2, hi, e1, e2, show i % 8 < 64 by omega]
      · have : (l.getD k 0).getLsbD (i - 8 * k) = false := BitVec.getLsbD_of_ge _ _ (by omega)
        rw [this]; simp [h1, h2]
theorem word_inj {l m : List B} (hl : l.length = m.length) (h8 : l.length ≤ 8) (h : word l = word m) : l = m := by
  apply List.ext_getElem hl
  intro k h1 h2
  apply BitVec.eq_of_getLsbD_eq
  intro j hj
  have e := congrArg (fun x : W => x.getLsbD (8 * k + j)) h
  simp only [word, wordTo_bit _ _ (8 * k + j) (by omega)] at e
  rw [show (8 * k + j) / 8 = k by omega, show (8 * k + j) % 8 = j by omega] at e
  simpa [show 8 * k + j < 8 * l.length by omega, show 8 * k + j < 8 * m.length by omega, List.getD, h1, h2] using e

/-! ### the digest of bytes: after j words -/
def ofTo (l : List B) : Nat → W
  | 0 => mix (BitVec.ofNat 64 l.length)
  | j + 1 => mix (ofTo l j ^^^ word ((l.drop (8 * j)).take 8))
def ofB (l : List B) : W := ofTo l ((l.length + 7) / 8)

/-! ### the digest of lists -/
def listTo (l : List W) : Nat → W
  | 0 => mix (BitVec.ofNat 64 l.length + 0x100000000#64)
  | j + 1 => mix (listTo l j ^^^ l.getD j 0)
theorem listTo_zero (l : List W) : listTo l 0 = mix (BitVec.ofNat 64 l.length + 0x100000000#64) := rfl
theorem listTo_succ (l : List W) (k : Nat) : listTo l (k + 1) = mix (listTo l k ^^^ l.getD k 0) := rfl
def listW (l : List W) : W := listTo l l.length
def pairW (a b : W) : W := mix (b ^^^ mix (a ^^^ 0x5bd1e9955bd1e995#64))
theorem pair_r {x y z : W} : pairW x y = pairW x z ↔ y = z := by
  unfold pairW
  rw [mix_inj]
  exact ⟨fun h => by have := congrArg (· ^^^ mix (x ^^^ 0x5bd1e9955bd1e995#64)) h; simpa [BitVec.xor_assoc] using this, fun h => by rw [h]⟩
theorem xor_left {a b c : W} : a ^^^ b = a ^^^ c ↔ b = c :=
  ⟨fun h => by have := congrArg (a ^^^ ·) h; simpa [← BitVec.xor_assoc] using this, fun h => by rw [h]⟩
theorem xor_right {a b c : W} : b ^^^ a = c ^^^ a ↔ b = c :=
  ⟨fun h => by have := congrArg (· ^^^ a) h; simpa [BitVec.xor_assoc] using this, fun h => by rw [h]⟩
theorem pair_l {x y z : W} : pairW x y = pairW z y ↔ x = z := by
  unfold pairW
  rw [mix_inj, xor_left, mix_inj, xor_right]

/-- lists that are alike but for one place: so are their values so far, up to this place; then they part, for good -/
theorem listTo_same {l m : List W} (hl : l.length = m.length) (k : Nat) (h : ∀ i, i < k → l.getD i 0 = m.getD i 0) : listTo l k = listTo m k := by
  induction k with
  | zero => show mix _ = mix _; rw [hl]
  | succ k ih =>
    show mix (listTo l k ^^^ _) = mix (listTo m k ^^^ _)
    rw [ih fun i hi => h i (by omega), h k (by omega)]
theorem listTo_apart {l m : List W} (at_ k : Nat) (h : ∀ i, at_ < i → l.getD i 0 = m.getD i 0) (h0 : listTo l (at_ + 1) ≠ listTo m (at_ + 1)) (hk : at_ < k) : listTo l k ≠ listTo m k := by
  induction k with
  | zero => omega
  | succ k ih =>
    by_cases e : at_ = k
    · subst e; exact h0
    · show mix (listTo l k ^^^ _) ≠ mix (listTo m k ^^^ _)
      rw [h k (by omega), Ne, mix_inj, xor_right]
      exact ih (by omega)
theorem list_set (l : List W) (i : Nat) (x : W) (hi : i < l.length) : listW l = listW (l.set i x) ↔ l = l.set i x := by
  refine ⟨fun h => ?_, fun h => by rw [← h]⟩
  refine Classical.byContradiction fun hn => ?_
  have hx : l.getD i 0 ≠ x := by
    intro e
    apply hn
    rw [← e, List.getD_eq_getElem?_getD, List.getElem?_eq_getElem hi]
    simp
  have hx' : (l.set i x).getD i 0 = x := by simp [List.getD, hi]
  have hs : ∀ j, j ≠ i → l.getD j 0 = (l.set i x).getD j 0 := fun j hj => by simp [List.getD, Ne.symm hj]
  unfold listW at h
  rw [List.length_set] at h
  refine listTo_apart i l.length (fun j hj => hs j (by omega)) ?_ hi h
  show mix (listTo l i ^^^ _) ≠ mix (listTo (l.set i x) i ^^^ _)
  rw [← listTo_same (by simp) i fun j hj => hs j (by omega), hx', Ne, mix_inj, xor_left]
  exact hx

/-! ### bytes that differ within one word -/
theorem ofTo_same {l m : List B} (hl : l.length = m.length) (k : Nat) (h : ∀ i, i < k → (l.drop (8 * i)).take 8 = (m.drop (8 * i)).take 8) : ofTo l k = ofTo m k := by
  induction k with
  | zero => show mix _ = mix _; rw [hl]
  | succ k ih =>
    show mix (ofTo l k ^^^ _) = mix (ofTo m k ^^^ _)
    rw [ih fun i hi => h i (by omega), h k (by omega)]
theorem ofTo_apart {l m : List B} (at_ k : Nat) (h : ∀ i, at_ < i → (l.drop (8 * i)).take 8 = (m.drop (8 * i)).take 8) (h0 : ofTo l (at_ + 1) ≠ ofTo m (at_ + 1)) (hk : at_ < k) : ofTo l k ≠ ofTo m k := by
  induction k with
  | zero => omega
  | succ k ih =>
    by_cases e : at_ = k
    · subst e; exact h0
    · show mix (ofTo l k ^^^ _) ≠ mix (ofTo m k ^^^ _)
      rw [h k (by omega), Ne, mix_inj, xor_right]
      exact ih (by omega)
/-- alike outside the word number j -/
def Near (l m : List B) (j : Nat) : Prop := l.length = m.length ∧ ∀ i, i < 8 * j ∨ 8 * j + 8 ≤ i → l.getD i 0 = m.getD i 0
theorem near_word {l m : List B} {j : Nat} (h : Near l m j) {i : Nat} (hi : i ≠ j) : (l.drop (8 * i)).take 8 = (m.drop (8 * i)).take 8 := by
  apply List.ext_getElem (by simp [h.1])
  intro k h1 h2
  have h1' : k < 8 ∧ 8 * i + k < l.length := by simp at h1; omega
  have e := h.2 (8 * i + k) (by omega)
  simpa [List.getD, h1'.2, h.1 ▸ h1'.2] using e
theorem near_of {l m : List B} {j : Nat} (h : Near l m j) (hj : 8 * j < l.length) : ofB l = ofB m ↔ l = m := by
  refine ⟨fun e => ?_, fun e => by rw [e]⟩
  refine Classical.byContradiction fun hn => ?_
  have hw : (l.drop (8 * j)).take 8 ≠ (m.drop (8 * j)).take 8 := by
    intro e
    apply hn
    apply List.ext_getElem h.1
    intro k h1 h2
    by_cases hk : k < 8 * j ∨ 8 * j + 8 ≤ k
    · have := h.2 k hk
      simpa [List.getD, h1, h2] using this
    · have := congrArg (fun x : List B => x[k - 8 * j]?) e
      have e2 : 8 * j + (k - 8 * j) = k := by omega
      simpa [List.getElem?_take, List.getElem?_drop, e2, h1, h2, show k - 8 * j < 8 by omega] using this
  unfold ofB at e
  rw [← h.1] at e
  refine ofTo_apart j _ (fun i hi => near_word h (by omega)) ?_ (by omega) e
  show mix (ofTo l j ^^^ _) ≠ mix (ofTo m j ^^^ _)
  rw [← ofTo_same h.1 j fun i hi => near_word h (by omega), Ne, mix_inj, xor_left]
  exact fun e => hw (word_inj (by simp [h.1]) (by simp; omega) e)
end Go.Proofs.YtgkckomccabmlaaGreatDoor.Dg
namespace Go.Proofs.YtgkckomccabmlaaGreatDoor
open Go.ChangeShapes Go.WideShapes Go.ChangeAt Go.RowKit
open Dg (W B)

/-- a word as an integer -/
def uv (x : W) : Int := (x.toNat : Int)
theorem uv_lo (x : W) : 0 ≤ uv x := by unfold uv; omega
theorem uv_hi (x : W) : uv x < 18446744073709551616 := by unfold uv; have := x.isLt; omega


theorem u64_wrap_n (n : Nat) : IntKind.u64.wrap (n : Int) = ((n % 18446744073709551616 : Nat) : Int) := by
  rw [IntKind.wrap_u64]; omega
theorem u64_in (n : Nat) (h : n < 18446744073709551616) : IntKind.u64.wrap (n : Int) = (n : Int) := by
  rw [u64_wrap_n, Nat.mod_eq_of_lt h]
theorem uv_nat (x : W) : (BitVec.ofInt 64 (uv x)).toNat = x.toNat := by
  unfold uv; rw [BitVec.ofInt_natCast, BitVec.toNat_ofNat]; exact Nat.mod_eq_of_lt x.isLt
theorem uv_xor (x y : W) : bits .xor .u64 (uv x) (uv y) = uv (x ^^^ y) := by
  show IntKind.u64.wrap ((BitVec.ofInt 64 (uv x) ^^^ BitVec.ofInt 64 (uv y)).toNat : Int) = _
  rw [BitVec.toNat_xor, uv_nat, uv_nat, ← BitVec.toNat_xor, u64_in _ (BitVec.isLt _)]; rfl
theorem uv_or (x y : W) : bits .or .u64 (uv x) (uv y) = uv (x ||| y) := by
  show IntKind.u64.wrap ((BitVec.ofInt 64 (uv x) ||| BitVec.ofInt 64 (uv y)).toNat : Int) = _
  rw [BitVec.toNat_or, uv_nat, uv_nat, ← BitVec.toNat_or, u64_in _ (BitVec.isLt _)]; rfl
theorem uv_and (x y : W) : bits .and .u64 (uv x) (uv y) = uv (x &&& y) := by
  show IntKind.u64.wrap ((BitVec.ofInt 64 (uv x) &&& BitVec.ofInt 64 (uv y)).toNat : Int) = _
  rw [BitVec.toNat_and, uv_nat, uv_nat, ← BitVec.toNat_and, u64_in _ (BitVec.isLt _)]; rfl
theorem uv_mul (x y : W) (c : Int) (h : c = uv y) : IntKind.u64.wrap (uv x * c) = uv (x * y) := by
  subst h
  unfold uv
  rw [BitVec.toNat_mul, ← Int.natCast_mul, u64_wrap_n]
theorem uv_add (x y : W) (c : Int) (h : c = uv y) : IntKind.u64.wrap (uv x + c) = uv (x + y) := by
  subst h
  unfold uv
  rw [BitVec.toNat_add, ← Int.natCast_add, u64_wrap_n]
theorem uv_shr (x : W) (k : Nat) (c : Int) (h : c = ((2 ^ k : Nat) : Int)) : uv x / c = uv (x >>> k) := by
  subst h
  unfold uv
  rw [BitVec.toNat_ushiftRight, Nat.shiftRight_eq_div_pow, Int.natCast_ediv]
theorem uv_inj {x y : W} : uv x = uv y ↔ x = y := by
  unfold uv
  rw [Int.natCast_inj]
  exact ⟨BitVec.eq_of_toNat_eq, fun h => by rw [h]⟩
theorem uv_eq (x y : W) : (uv x == uv y) = (x == y) := by
  rw [Bool.eq_iff_iff, beq_iff_eq, beq_iff_eq, uv_inj]
theorem uv_ofNat (n : Nat) (h : n < 18446744073709551616) : uv (BitVec.ofNat 64 n) = (n : Int) := by
  unfold uv; rw [BitVec.toNat_ofNat, Nat.mod_eq_of_lt h]
/-- every number of 64 bits is a word's -/
theorem uv_of (n : Int) (h0 : 0 ≤ n) (h1 : n < 18446744073709551616) : ∃ x : W, n = uv x :=
  ⟨BitVec.ofNat 64 n.toNat, by rw [uv_ofNat _ (by omega)]; omega⟩
theorem mix_int (x : W) : bits .xor .u64 (IntKind.u64.wrap (bits .xor .u64 (IntKind.u64.wrap (uv x * 11400714819323198485)) (IntKind.u64.wrap (uv x * 11400714819323198485) / 4294967296) * 15485907386658061715))
    (IntKind.u64.wrap (bits .xor .u64 (IntKind.u64.wrap (uv x * 11400714819323198485)) (IntKind.u64.wrap (uv x * 11400714819323198485) / 4294967296) * 15485907386658061715) / 536870912) = uv (Dg.mix x) := by
  rw [uv_mul x 0x9e3779b97f4a7c15#64 _ (by decide), uv_shr _ 32 _ (by decide), uv_xor, uv_mul _ 0xd6e8feb86659fd93#64 _ (by decide), uv_shr _ 29 _ (by decide), uv_xor]
  rfl
theorem rmix_any (x : W) (w : World) :
    Calls Tryz.prog 118 #[.int .u64 (uv x)] w fun e w' => e = .returned (.int .u64 (uv (Dg.mix x))) ∧ w = w' := by
  go_enter Tryz.func118, Tryz.ntmps118
  go_wp2
  go_ret
  exact ⟨congrArg (fun n => Ending.returned (Value.int .u64 n)) (mix_int x), rfl⟩
theorem rmix_to (x : W) (n : Int) (h : n = uv x) (w : World) :
    Calls Tryz.prog 118 #[.int .u64 n] w fun e w' => e = .returned (.int .u64 (uv (Dg.mix x))) ∧ w = w' := by
  subst h; exact rmix_any x w
/-! ### pairs -/
theorem rpair_any (a b : W) (w : World) :
    Calls Tryz.prog 102 #[.int .u64 (uv a), .int .u64 (uv b)] w fun e w' => e = .returned (.int .u64 (uv (Dg.pairW a b))) ∧ w = w' := by
  go_enter Tryz.func102, Tryz.ntmps102
  go_wp2_with fail
  refine (rmix_to (a ^^^ 0x5bd1e9955bd1e995#64) _ (uv_xor a 0x5bd1e9955bd1e995#64) _).mono ?_; rintro e w' ⟨rfl, rfl⟩
  go_wp2_with fail
  refine (rmix_to (b ^^^ Dg.mix (a ^^^ 0x5bd1e9955bd1e995#64)) _ (uv_xor _ _) _).mono ?_; rintro e w' ⟨rfl, rfl⟩
  go_wp2
  go_ret
  exact ⟨rfl, rfl⟩
end Go.Proofs.YtgkckomccabmlaaGreatDoor
namespace Go.Proofs.YtgkckomccabmlaaGreatDoor
open Go.ChangeShapes Go.WideShapes Go.ChangeAt Go.RowKit
open Dg (W B)

/-- a byte as an integer -/
def bv (x : B) : Int := (x.toNat : Int)
theorem bv_lo (x : B) : 0 ≤ bv x := by unfold bv; omega
theorem bv_hi (x : B) : bv x < 256 := by unfold bv; have := x.isLt; omega
theorem bv_shl (x : B) (k : Nat) : IntKind.u64.wrap (bv x * 2 ^ k) = uv (x.setWidth 64 <<< k) := by
  unfold bv uv
  rw [BitVec.toNat_shiftLeft, BitVec.toNat_setWidth, Nat.mod_eq_of_lt (show x.toNat < 2 ^ 64 by have := x.isLt; omega), Nat.shiftLeft_eq, show ((2 : Int) ^ k) = ((2 ^ k : Nat) : Int) by simp, ← Int.natCast_mul, u64_wrap_n]
theorem bv_of (n : Int) (h : (Lit.int .u8 n).wf = true) : ∃ x : B, n = bv x := by
  have := bounds_u8 h
  exact ⟨BitVec.ofNat 8 n.toNat, by unfold bv; rw [BitVec.toNat_ofNat]; omega⟩
theorem bv_inj {x y : B} : bv x = bv y ↔ x = y := by
  unfold bv
  rw [Int.natCast_inj]
  exact ⟨BitVec.eq_of_toNat_eq, fun h => by rw [h]⟩

theorem bv_conv (x : B) : IntKind.u64.wrap (bv x) = bv x := by
  unfold bv; rw [u64_in]; have := x.isLt; omega
theorem word_step (l : List B) (k : Nat) (x : Int) (h : x = bv (l.getD k 0)) (m : Int) (hm : m = (2 : Int) ^ (8 * k)) :
    bits .or .u64 (uv (Dg.wordTo l k)) (IntKind.u64.wrap (IntKind.u64.wrap x * m)) = uv (Dg.wordTo l (k + 1)) := by
  subst h; subst hm
  rw [bv_conv, bv_shl, uv_or]; rfl

def WordRel (l : List B) (v i : Value) : Prop := ∃ k : Nat, k ≤ l.length ∧ i = .int .i64 k ∧ v = .int .u64 (uv (Dg.wordTo l k))
/-- the value v is a slice whose bytes are l, in blocks below N -/
def HasB (w : World) (N : Nat) (v : Value) (l : List B) : Prop :=
  (∃ a cap, v = .slice a 0 cap ∧ l = []) ∨ ∃ b off cap, v = .slice (some ⟨b, off, none⟩) l.length cap ∧ l.length ≤ cap ∧ b < N ∧ ∀ i, i < l.length → w.cell? ⟨b, off + i, none⟩ = some (.int .u8 (bv (l.getD i 0)))

/-- the bytes of the word number j -/
theorem chunk_get (l : List B) (j i : Nat) (h : i < ((l.drop (8 * j)).take 8).length) : ((l.drop (8 * j)).take 8).getD i 0 = l.getD (8 * j + i) 0 := by
  have h' : i < 8 ∧ 8 * j + i < l.length := by simp at h; omega
  simp [List.getD, h'.1, List.getElem?_drop]
def OfRel (l : List B) (b off : Nat) (v h : Value) : Prop :=
  ∃ (j : Nat) (a : Option Addr) (n cap : Nat), n = l.length - 8 * j ∧ 8 * j < l.length + 8 ∧ v = .slice a n cap ∧ n ≤ cap ∧ (0 < n → a = some ⟨b, off + 8 * j, none⟩) ∧ h = .int .u64 (uv (Dg.ofTo l j))
def lenOf (v : Value) : Nat := match v with | .slice _ n _ => n | _ => 0
end Go.Proofs.YtgkckomccabmlaaGreatDoor
namespace Go.Proofs.YtgkckomccabmlaaGreatDoor
open Go.ChangeShapes Go.WideShapes Go.ChangeAt Go.RowKit
open Dg (W B)

/-- the value v is a slice whose digests are l, in blocks below N -/
def HasW (w : World) (N : Nat) (v : Value) (l : List W) : Prop :=
  (∃ a cap, v = .slice a 0 cap ∧ l = []) ∨ ∃ b off cap, v = .slice (some ⟨b, off, none⟩) l.length cap ∧ l.length ≤ cap ∧ b < N ∧ ∀ i, i < l.length → w.cell? ⟨b, off + i, none⟩ = some (.int .u64 (uv (l.getD i 0)))
/-! ### Mod of the chapter: the remainder that is not negative -/
theorem mod_pos (n m : Int) (w : World) (hn : (Lit.int .i64 n).wf = true) (h1 : 1 ≤ m) (h2 : m ≤ 4611686018427387904) :
    Calls Tryz.prog 21 #[.int .i64 n, .int .i64 m] w fun e w' => e = .returned (.int .i64 (n % m)) ∧ w = w' := by
  have hb := bounds_i64 hn
  have b1 := Int.lt_tmod_of_pos n (show 0 < m by omega)
  have b2 := Int.tmod_lt_of_pos n (show 0 < m by omega)
  have e : (n.tmod m + m) % m = n % m := by
    rw [Int.add_emod_right]
    have h := Int.tmod_add_mul_tdiv n m
    rw [← Int.add_mul_emod_self_left (n.tmod m) m (n.tdiv m), h]
  have E := Lib.hid e; clear e
  go_enter Tryz.func21, Tryz.ntmps21
  go_wp2
  go_ret
  exact ⟨congrArg (fun x => Ending.returned (Value.int .i64 x)) E.out, rfl⟩

/-! ### Same of the chapter -/
def SameRel (l m : List W) (i : Value) : Prop := ∃ k : Nat, k ≤ l.length ∧ i = .int .i64 k ∧ ∀ j, j < k → l.getD j 0 = m.getD j 0
theorem same_all {l m : List W} (h : l.length = m.length) (hs : ∀ j, j < l.length → l.getD j 0 = m.getD j 0) : l = m := by
  apply List.ext_getElem h
  intro k h1 h2
  simpa [List.getD, h1, h2] using hs k h1
theorem same_test (l m : List W) (k : Nat) (h1 : k < l.length) (h2 : k < m.length) : (uv m[k] != uv l[k]) = !decide (l.getD k 0 = m.getD k 0) := by
  have g1 : l.getD k 0 = l[k] := by simp [h1]
  have g2 : m.getD k 0 = m[k] := by simp [h2]
  rw [g1, g2, bne, uv_eq, Bool.eq_iff_iff]
  simp only [Bool.not_eq_true', beq_eq_false_iff_ne, decide_eq_false_iff_not]
  exact ⟨fun h e => h e.symm, fun h e => h e.symm⟩
set_option maxHeartbeats 400000 in
theorem same_some (l m : List W) (b off cap b' off' cap' : Nat) (w : World) (hl : l.length ≤ 4611686018427387904) (he : l.length = m.length)
    (hc : ∀ i, i < l.length → w.cell? ⟨b, off + i, none⟩ = some (.int .u64 (uv (l.getD i 0))))
    (hd : ∀ i, i < m.length → w.cell? ⟨b', off' + i, none⟩ = some (.int .u64 (uv (m.getD i 0)))) :
    Calls Tryz.prog 39 #[.slice (some ⟨b, off, none⟩) l.length cap, .slice (some ⟨b', off', none⟩) m.length cap'] w fun e w' => e = .returned (.bool (decide (l = m))) ∧ w = w' := by
  have HC := Lib.hid hc; clear hc
  have HD := Lib.hid hd; clear hd
  have HE := Lib.hid he
  rw [← he]
  clear he
  go_enter Tryz.func39, Tryz.ntmps39
  go_wp2
  go_loop [14] (SameRel l m) (fun i => l.length - (intOf i).toNat)
  case atStart => exact ⟨0, by omega, rfl, fun j h => absurd h (by omega)⟩
  case round =>
    obtain ⟨k, hk, rfl, hs⟩ := hrel
    have HS := Lib.hid hs; clear hs
    by_cases hlt : k < l.length
    · have hlm : k < m.length := by have := HE.out; omega
      have hck := HC.out k hlt
      have hdk := HD.out k hlm
      by_cases hx : l.getD k 0 = m.getD k 0
      · have c1 : (uv m[k] != uv l[k]) = false := by
          rw [same_test l m k hlt hlm, decide_eq_true hx]; rfl
        have HX := Lib.hid hx; clear hx
        go_wp2
        go_round
        case rel => exact ⟨k + 1, by omega, by go_num, fun j hj => by
          by_cases e : j = k
          · subst e; exact HX.out
          · exact HS.out j (by omega)⟩
        case measure => simp [intOf]; omega
      · have c1 : (uv m[k] != uv l[k]) = true := by
          rw [same_test l m k hlt hlm, decide_eq_false hx]; rfl
        have HX := Lib.hid hx; clear hx
        have d : decide (l = m) = false := by simp; intro e; apply HX.out; rw [e]
        have HDD := Lib.hid d; clear d
        go_wp2
        go_ret
        exact ⟨by rw [HDD.out]; rfl, rfl⟩
    · have d : decide (l = m) = true := by simp; exact same_all HE.out fun j hj => HS.out j (by omega)
      have HDD := Lib.hid d; clear d
      go_wp2
      go_ret
      exact ⟨by rw [HDD.out]; rfl, rfl⟩
end Go.Proofs.YtgkckomccabmlaaGreatDoor
namespace Go.Proofs.YtgkckomccabmlaaGreatDoor
open Go.ChangeShapes Go.WideShapes Go.ChangeAt Go.RowKit
open Dg (W B)

def chunk (l : List B) (q : Nat) : List B := (l.drop (8 * q)).take 8
theorem chunk_len (l : List B) (q : Nat) : (chunk l q).length = min 8 (l.length - 8 * q) := by simp [chunk]
def ROfRel (l : List B) (h i : Value) : Prop := ∃ q : Nat, 8 * q < l.length + 8 ∧ i = .int .i64 (8 * q : Nat) ∧ h = .int .u64 (uv (Dg.ofTo l q))
def RWordRel (l : List B) (q : Nat) (x j : Value) : Prop := ∃ k : Nat, k ≤ (chunk l q).length ∧ j = .int .i64 (8 * q + k : Nat) ∧ x = .int .u64 (uv (Dg.wordTo (chunk l q) k))
set_option maxHeartbeats 1000000 in
theorem rof_some (l : List B) (b off cap : Nat) (w : World) (hl : l.length ≤ 4611686018427387904)
    (hc : ∀ i, i < l.length → w.cell? ⟨b, off + i, none⟩ = some (.int .u8 (bv (l.getD i 0)))) :
    Calls Tryz.prog 117 #[.slice (some ⟨b, off, none⟩) l.length cap] w fun e w' => e = .returned (.int .u64 (uv (Dg.ofB l))) ∧ w = w' := by
  have HC := Lib.hid hc; clear hc
  go_enter Tryz.func117, Tryz.ntmps117
  go_wp2_with fail
  refine (rmix_to (BitVec.ofNat 64 l.length) _ (by rw [uv_ofNat _ (by omega)]) _).mono ?_; rintro e w' ⟨rfl, rfl⟩
  go_wp2
  go_loop [3, 4] (ROfRel l) (fun _ i => l.length + 8 - (intOf i).toNat)
  case atStart => exact ⟨0, by omega, rfl, rfl⟩
  case round =>
    obtain ⟨q, hq, rfl, rfl⟩ := hrel
    by_cases h0 : 8 * q < l.length
    · go_wp2
      go_loop [5, 6] (RWordRel l q) (fun _ j => l.length - (intOf j).toNat)
      case atStart => exact ⟨0, by omega, rfl, rfl⟩
      case round =>
        obtain ⟨k, hk, rfl, rfl⟩ := hrel
        have hlen := chunk_len l q
        by_cases hlt : k < (chunk l q).length
        · have c1 : 8 * q + k < l.length := by omega
          have c2 : k < 8 := by omega
          have hck := HC.out _ c1
          have g := Lib.hid (chunk_get l q k hlt)
          have HL := Lib.hid hlen; clear hlen
          go_wp2
          go_round
          case rel => exact ⟨k + 1, by omega, by go_num, congrArg (Value.int .u64) (word_step (chunk l q) k _ (by rw [show (chunk l q).getD k 0 = l.getD (8 * q + k) 0 from g.out]; simp [c1]) _ rfl)⟩
          case measure => simp [intOf]; omega
        · have hk8 : k = (chunk l q).length := by omega
          have HK := Lib.hid hk8
          have HL := Lib.hid hlen
          by_cases c1 : 8 * q + k < l.length
          · have c2 : ¬ k < 8 := by omega
            clear hk8 hlen
            go_wp2_with fail
            refine (rmix_to (Dg.ofTo l q ^^^ Dg.word (chunk l q)) _ (by rw [HK.out]; exact uv_xor _ _) _).mono ?_; rintro e w' ⟨rfl, rfl⟩
            go_wp2
            go_round
            case rel => exact ⟨q + 1, by omega, by go_num, rfl⟩
            case measure => simp [intOf]; omega
          · clear hk8 hlen
            go_wp2_with fail
            refine (rmix_to (Dg.ofTo l q ^^^ Dg.word (chunk l q)) _ (by rw [HK.out]; exact uv_xor _ _) _).mono ?_; rintro e w' ⟨rfl, rfl⟩
            go_wp2
            go_round
            case rel => exact ⟨q + 1, by omega, by go_num, rfl⟩
            case measure => simp [intOf]; omega
    · have hj' : q = (l.length + 7) / 8 := by omega
      have HJ := Lib.hid hj'; clear hj'
      go_wp2
      go_ret
      exact ⟨congrArg (fun x => Ending.returned (Value.int .u64 (uv x))) (by rw [HJ.out]; rfl), rfl⟩
theorem rof_none (a : Option Addr) (cap : Nat) (w : World) :
    Calls Tryz.prog 117 #[.slice a 0 cap] w fun e w' => e = .returned (.int .u64 (uv (Dg.ofB []))) ∧ w = w' := by
  go_enter Tryz.func117, Tryz.ntmps117
  go_wp2_with fail
  refine (rmix_to 0 _ rfl _).mono ?_; rintro e w' ⟨rfl, rfl⟩
  go_wp2
  refine wp_loop_rounds 1 ?_
  rw [rounds_succ]
  go_wp2
  go_ret
  exact ⟨rfl, rfl⟩
theorem rof_any (l : List B) (N : Nat) (v : Value) (w : World) (hl : l.length ≤ 4611686018427387904) (h : HasB w N v l) :
    Calls Tryz.prog 117 #[v] w fun e w' => e = .returned (.int .u64 (uv (Dg.ofB l))) ∧ w = w' := by
  rcases h with ⟨a, cap, rfl, rfl⟩ | ⟨b, off, cap, rfl, h2, h3, h4⟩
  · exact rof_none a cap w
  · exact rof_some l b off cap w hl h4
end Go.Proofs.YtgkckomccabmlaaGreatDoor
namespace Go.Proofs.YtgkckomccabmlaaGreatDoor
open Go.ChangeShapes Go.WideShapes Go.ChangeAt Go.RowKit
open Dg (W B)
theorem infoByte : (Tryz.prog.info? 5).map (fun i => (i.zero, i.size, i.bytes)) = some (some (.int .u8 0), 1, 1) := by kernel_rfl
theorem infoWord : (Tryz.prog.info? 23).map (fun i => (i.zero, i.size, i.bytes)) = some (some (.int .u64 0), 1, 8) := by kernel_rfl
theorem info_parts {P : Program} {t : TypeId} {z : Value} {s b : Nat} (h : (P.info? t).map (fun i => (i.zero, i.size, i.bytes)) = some (some z, s, b)) :
    ∃ i, P.info? t = some i ∧ i.zero = some z ∧ i.size = s ∧ i.bytes = b := by
  cases h' : P.info? t with
  | none => rw [h'] at h; cases h
  | some i =>
    rw [h'] at h
    have := Option.some.inj h
    simp only [Prod.mk.injEq] at this
    exact ⟨i, rfl, this.1, this.2.1, this.2.2⟩
theorem mod_to (n m : Int) (q : Nat) (h : n % m = q) (w : World) (hn : (Lit.int .i64 n).wf = true) (h1 : 1 ≤ m) (h2 : m ≤ 4611686018427387904) :
    Calls Tryz.prog 21 #[.int .i64 n, .int .i64 m] w fun e w' => e = .returned (.int .i64 (q : Int)) ∧ w = w' := by
  rw [← h]; exact mod_pos n m w hn h1 h2
theorem mod_nat (n : Int) (m : Nat) (h : 1 ≤ m) : ∃ q : Nat, n % (m : Int) = q ∧ q < m := by
  have h0 : 0 ≤ n % (m : Int) := Int.emod_nonneg _ (by omega)
  have h1 : n % (m : Int) < m := Int.emod_lt_of_pos _ (by omega)
  exact ⟨(n % (m : Int)).toNat, by omega, by omega⟩
theorem add_plain' (N o j : Nat) : (⟨N, o, none⟩ : Addr).add j = ⟨N, o + j, none⟩ := by simp [Addr.add]
/-- the string of bytes -/
def bstr (l : List B) : ByteArray := ⟨(l.map UInt8.ofBitVec).toArray⟩
theorem bstr_inj {a b : List B} : bstr a = bstr b ↔ a = b := by
  refine ⟨fun h => ?_, fun h => by rw [h]⟩
  have := congrArg (fun s : ByteArray => s.data.toList) h
  have h2 : a.map UInt8.ofBitVec = b.map UInt8.ofBitVec := by simpa [bstr] using this
  have h3 := congrArg (List.map UInt8.toBitVec) h2
  simpa [List.map_map, Function.comp_def] using h3
theorem conv_bytes (l : List B) (b off cap : Nat) (w : World) (hc : ∀ i, i < l.length → w.cell? ⟨b, off + i, none⟩ = some (.int .u8 (bv (l.getD i 0)))) :
    (convert 24 9 (.slice (some ⟨b, off, none⟩) l.length cap)).run Tryz.prog w = .ok (.string (bstr l)) w := by
  have := run_convert_bytes_back (P := Tryz.prog) w 24 9 5 ⟨b, off, none⟩ cap (l.map UInt8.ofBitVec) Tryz.underlying24 Tryz.underlying5 Tryz.underlying9 (fun j hj => by
    have hj' : j < l.length := by simpa using hj
    rw [add_plain', hc j hj']
    simp [List.getD, hj', bv])
  rw [List.length_map] at this
  exact this
theorem bstr_test (l m : List B) : ((bstr l).toList == (bstr m).toList) = decide (l = m) := by
  rw [Bool.eq_iff_iff, beq_iff_eq, ByteArray.toList_eq, ByteArray.toList_eq, decide_eq_true_iff]
  refine ⟨fun h => bstr_inj.1 (bytes_inj h), fun h => by rw [h]⟩
theorem word_eq (a c : W) : (uv a == uv c) = decide (a = c) := by
  rw [uv_eq, Bool.eq_iff_iff, beq_iff_eq, decide_eq_true_iff]
theorem pair_eq_r (x y z : W) : (uv (Dg.pairW x y) == uv (Dg.pairW x z)) = decide (y = z) := by
  rw [uv_eq, Bool.eq_iff_iff, beq_iff_eq, decide_eq_true_iff, Dg.pair_r]
theorem pair_eq_l (x y z : W) : (uv (Dg.pairW x y) == uv (Dg.pairW z y)) = decide (x = z) := by
  rw [uv_eq, Bool.eq_iff_iff, beq_iff_eq, decide_eq_true_iff, Dg.pair_l]
def bval' (x : B) : Value := .int .u8 (bv x)
def wval (x : W) : Value := .int .u64 (uv x)
theorem HasB.form {w : World} {N : Nat} {v : Value} {l : List B} (h : HasB w N v l) : ∃ a cap, v = .slice a l.length cap := by
  rcases h with ⟨a, cap, rfl, rfl⟩ | ⟨b, off, cap, rfl, _⟩
  · exact ⟨a, cap, rfl⟩
  · exact ⟨_, cap, rfl⟩
theorem HasW.form {w : World} {N : Nat} {v : Value} {l : List W} (h : HasW w N v l) : ∃ a cap, v = .slice a l.length cap := by
  rcases h with ⟨a, cap, rfl, rfl⟩ | ⟨b, off, cap, rfl, _⟩
  · exact ⟨a, cap, rfl⟩
  · exact ⟨_, cap, rfl⟩
end Go.Proofs.YtgkckomccabmlaaGreatDoor
namespace Go.Proofs.YtgkckomccabmlaaGreatDoor
open Go.ChangeShapes Go.WideShapes Go.ChangeAt Go.RowKit
open Dg (W B)

theorem wrap_word (i : Int) : IntKind.u64.wrap i = uv (BitVec.ofInt 64 i) := by
  unfold uv
  rw [BitVec.toNat_ofInt, IntKind.wrap_u64]
  omega
/-- parts of a slice of digests -/
theorem words_to (b off len cap k : Nat) (w : World) (h : k ≤ cap) (x : Int) (hx : x = k) :
    (Instr.slice 25 (.slice (some ⟨b, off, none⟩) len cap) none (some (.int .i64 x)) none).run Tryz.prog w = .ok (.slice (some ⟨b, off, none⟩) k cap) w := by
  subst hx
  have he : (sizeOf (Tryz.prog.elem 25)).run Tryz.prog w = .ok 1 w := by kernel_rfl
  rw [run_slice_h w 25 _ len cap (by kernel_rfl) .i64 (k : Int) (by omega) (by omega), he]
  show Result.ok (sliced _ _ _ _ _) w = _
  unfold sliced
  rw [Int.toNat_natCast]
  split
  · rename_i h0
    simp at h0 ⊢
  · simp [Addr.add]
theorem words_from (b off len cap k : Nat) (w : World) (h : k < len) (hc : len ≤ cap) (x : Int) (hx : x = k) :
    (Instr.slice 25 (.slice (some ⟨b, off, none⟩) len cap) (some (.int .i64 x)) none none).run Tryz.prog w = .ok (.slice (some ⟨b, off + k, none⟩) (len - k) (cap - k)) w := by
  subst hx
  have he : (sizeOf (Tryz.prog.elem 25)).run Tryz.prog w = .ok 1 w := by kernel_rfl
  rw [run_slice_l w 25 _ len cap (by kernel_rfl) .i64 (k : Int) (by omega) (by omega), he]
  show Result.ok (sliced _ _ _ _ _) w = _
  unfold sliced
  rw [Int.toNat_natCast, if_neg (by omega), Option.map_some, Nat.mul_one, add_plain']
theorem words_mid (b off len cap k m : Nat) (w : World) (h : k < m) (h2 : m ≤ cap) (x y : Int) (hx : x = k) (hy : y = m) :
    (Instr.slice 25 (.slice (some ⟨b, off, none⟩) len cap) (some (.int .i64 x)) (some (.int .i64 y)) none).run Tryz.prog w = .ok (.slice (some ⟨b, off + k, none⟩) (m - k) (cap - k)) w := by
  subst hx; subst hy
  have he : (sizeOf (Tryz.prog.elem 25)).run Tryz.prog w = .ok 1 w := by kernel_rfl
  rw [run_slice_lh w 25 _ len cap (by kernel_rfl) .i64 .i64 (k : Int) (m : Int) (by omega) (by omega) (by omega), he]
  show Result.ok (sliced _ _ _ _ _) w = _
  unfold sliced
  rw [Int.toNat_natCast, Int.toNat_natCast, if_neg (by omega), Option.map_some, Nat.mul_one, add_plain']
theorem words_max (ao : Option Addr) (len cap n : Nat) (w : World) (h : n ≤ cap) (x : Int) (hx : x = n) :
    (Instr.slice 25 (.slice ao len cap) none (some (.int .i64 x)) (some (.int .i64 x))).run Tryz.prog w = .ok (.slice ao n n) w := by
  subst hx
  have he : (sizeOf (Tryz.prog.elem 25)).run Tryz.prog w = .ok 1 w := by kernel_rfl
  rw [run_slice_hm w 25 ao len cap (by kernel_rfl) .i64 .i64 (n : Int) (n : Int) (by omega) (by omega) (by omega), he]
  show Result.ok (sliced _ _ _ _ _) w = _
  unfold sliced
  rw [Int.toNat_natCast]
  split
  · simp
  · cases ao <;> simp [Addr.add]
theorem words_tail (g len cap : Nat) (h1 : 1 ≤ len) (h2 : len ≤ cap) : ∃ a', (∀ w, (Instr.slice 25 (.slice (some ⟨g, 0, none⟩) len cap) (some (.int .i64 1)) none none).run Tryz.prog w = .ok (.slice a' (len - 1) (cap - 1)) w) ∧ (1 < len → a' = some ⟨g, 1, none⟩) := by
  by_cases h : 1 < len
  · exact ⟨some ⟨g, 0 + 1, none⟩, fun w => words_from g 0 len cap 1 w h h2 1 rfl, fun _ => rfl⟩
  · refine ⟨if cap - 1 = 0 then some ⟨g, 0, none⟩ else some ⟨g, 1, none⟩, fun w => ?_, fun h' => absurd h' h⟩
    have he : (sizeOf (Tryz.prog.elem 25)).run Tryz.prog w = .ok 1 w := by kernel_rfl
    rw [run_slice_l w 25 _ len cap (by kernel_rfl) .i64 1 (by omega) (by omega), he]
    show Result.ok (sliced _ _ _ _ _) w = _
    unfold sliced
    have e : (1 : Int).toNat = 1 := rfl
    rw [e]
    split
    · rename_i h0; rw [if_pos (by omega)]
    · rename_i h0; rw [if_neg (by omega)]; rfl
theorem take_cells {w : World} {b off : Nat} {l : List W} (k : Nat) (hc : ∀ i, i < l.length → w.cell? ⟨b, off + i, none⟩ = some (.int .u64 (uv (l.getD i 0)))) (i : Nat) (hi : i < (l.take k).length) : w.cell? ⟨b, off + i, none⟩ = some (.int .u64 (uv ((l.take k).getD i 0))) := by
  have h : i < k ∧ i < l.length := by simp at hi; omega
  rw [hc i h.2]
  simp [List.getD, h.1]
theorem drop_cells {w : World} {b off : Nat} {l : List W} (k : Nat) (hc : ∀ i, i < l.length → w.cell? ⟨b, off + i, none⟩ = some (.int .u64 (uv (l.getD i 0)))) (i : Nat) (hi : i < (l.drop k).length) : w.cell? ⟨b, off + k + i, none⟩ = some (.int .u64 (uv ((l.drop k).getD i 0))) := by
  have h : k + i < l.length := by simp at hi; omega
  rw [Nat.add_assoc, hc (k + i) h]
  simp [List.getD, List.getElem?_drop]
/-- the value v is a slice of the call's own, its digests are l -/
def OwnW (base : Nat) (w : World) (v : Value) (l : List W) : Prop := w.ownsRow base 23 1 v l.length (l.map wval)
theorem below_cell {w w' : World} {b off : Nat} {l : List W} (hb : b < w.heap.size) (h : Below w.heap.size w w') (hc : ∀ i, i < l.length → w.cell? ⟨b, off + i, none⟩ = some (.int .u64 (uv (l.getD i 0)))) (i : Nat) (hi : i < l.length) :
    w'.cell? ⟨b, off + i, none⟩ = some (.int .u64 (uv (l.getD i 0))) := by
  rw [h.cell (p := ⟨b, off + i, none⟩) hb]; exact hc i hi
theorem below_drewN {B : Nat} {a w : World} (h : Below B a w) (n : Nat) : Below B a (w.drewN n) := ⟨h.os, h.tape, h.output, h.size, h.block⟩
theorem own_snoc {base : Nat} {w : World} {v : Value} {l : List W} {r : W} (h : w.ownsRow base 23 1 v (l.length + 1) (l.map wval ++ [wval r])) : OwnW base w v (l ++ [r]) := by
  unfold OwnW
  rw [List.length_append, List.map_append]; exact h
theorem news_one (w : World) (n : Nat) (x : W) (t : TypeId) : ∀ j u, [wval x][j]? = some u → ((w.drewN n).alloc (.cells #[.int .u64 (uv x)] t)).cell? ((⟨w.heap.size, 0, none⟩ : Addr).add j) = some u :=
  World.news_of_block (w := (w.drewN n).alloc (.cells #[.int .u64 (uv x)] t)) (heap_alloc_new (w.drewN n) _)
theorem one_one (x : W) : ∀ u ∈ [wval x], u.oneCell' = true := fun u hu => by
  obtain rfl : u = wval x := by simpa using hu
  rfl
theorem HasW.below {w w' : World} {N M : Nat} {v : Value} {l : List W} (h : HasW w N v l) (hb : Below M w w') (hm : N ≤ M) : HasW w' N v l := by
  rcases h with ⟨a, cap, rfl, rfl⟩ | ⟨b, off, cap, rfl, h2, h3, h4⟩
  · exact .inl ⟨a, cap, rfl, rfl⟩
  · refine .inr ⟨b, off, cap, rfl, h2, h3, fun i hi => ?_⟩
    rw [hb.cell (p := ⟨b, off + i, none⟩) (Nat.lt_of_lt_of_le h3 hm)]; exact h4 i hi
theorem HasW.wide {w : World} {N M : Nat} {v : Value} {l : List W} (h : HasW w N v l) (hm : N ≤ M) : HasW w M v l := by
  rcases h with ⟨a, cap, rfl, rfl⟩ | ⟨b, off, cap, rfl, h2, h3, h4⟩
  · exact .inl ⟨a, cap, rfl, rfl⟩
  · exact .inr ⟨b, off, cap, rfl, h2, Nat.lt_of_lt_of_le h3 hm, h4⟩
theorem OwnW.has {base : Nat} {w : World} {v : Value} {l : List W} (h : OwnW base w v l) : HasW w w.heap.size v l := by
  rcases h.2 with ⟨rfl, h0⟩ | ⟨g, cap, cur, rfl, h1, h2, h3, h4, h5, h6⟩
  · exact .inl ⟨none, 0, rfl, List.length_eq_zero_iff.1 h0⟩
  · refine .inr ⟨g, 0, cap, rfl, h3, (Array.getElem?_eq_some_iff.1 h2).1, fun i hi => ?_⟩
    rw [Nat.zero_add, cell_of_row w g i _ _ _ h2]
    have e := congrArg (fun L : List Value => L[i]?) h6
    simp only [Nat.mul_one, List.getElem?_take, if_pos hi, List.getElem?_map] at e
    rw [← Array.getElem?_toList, e]
    simp [hi, wval]
/-- a slice that is built of words -/
theorem built_has (w : World) (l : List W) (t : TypeId) (cs : Array Value) (hc : cs = (l.map wval).toArray) : HasW (w.alloc (.cells cs t)) (w.heap.size + 1) (.slice (some ⟨w.heap.size, 0, none⟩) l.length l.length) l := by
  subst hc
  refine .inr ⟨w.heap.size, 0, l.length, rfl, Nat.le_refl _, by omega, fun i hi => ?_⟩
  rw [Nat.zero_add, World.cell?_alloc_new]
  simp [hi, wval]
theorem clone_facts {w0 w w4 : World} {t : TypeId} {vals : List Value} {n cap1 g1 : Nat} (hb : Below w0.heap.size w0 w)
    (own : w4.ownsRow w0.heap.size t 1 (.slice (some ⟨g1, 0, none⟩) n cap1) n vals) (grow : w.grownBy w4 (Value.slice none 0 0).ownBlock) :
    Below w0.heap.size w0 w4 ∧ w0.heap.size ≤ g1 ∧ g1 < w4.heap.size ∧ n ≤ cap1 ∧ (∀ i, i < n → w4.cell? ⟨g1, i, none⟩ = vals[i]?) ∧ ∀ i, w4.frozen? ⟨g1, i, none⟩ = false := by
  have h1 := own.lt g1 rfl
  refine ⟨hb.grown grow hb.size (fun k hk => by simp [Value.ownBlock] at hk), h1.1, h1.2, ?_, fun i hi => own.cellAt i (by omega), fun i => own.frozenAt i⟩
  rcases own.2 with ⟨hv, _⟩ | ⟨g, c, cur, hv, hgb, hg, hle, hmx, hsz, htake⟩
  · cases hv
  · simp only [Value.slice.injEq] at hv
    omega
theorem OwnW.below {base : Nat} {w w' : World} {v : Value} {l : List W} (h : OwnW base w v l) (hb : Below w.heap.size w w') : OwnW base w' v l := by
  obtain ⟨h1, h2⟩ := h
  refine ⟨h1, ?_⟩
  rcases h2 with h2 | ⟨g, cap, cur, hv, hg, hh, r⟩
  · exact .inl h2
  · exact .inr ⟨g, cap, cur, hv, hg, by rw [hb.block g (Array.getElem?_eq_some_iff.1 hh).1]; exact hh, r⟩
theorem OwnW.drewN {base : Nat} {w : World} {v : Value} {l : List W} (h : OwnW base w v l) (n : Nat) : OwnW base (w.drewN n) v l := h
theorem OwnW.alloc {base : Nat} {w : World} {v : Value} {l : List W} (h : OwnW base w v l) (o : Obj) : OwnW base (w.alloc o) v l := World.ownsRow.alloc h o
theorem OwnW.mono {base base' : Nat} {w : World} {v : Value} {l : List W} (h : OwnW base w v l) (hb : base' ≤ base) : OwnW base' w v l := World.ownsRow.mono h hb
theorem own_apart {b1 b2 : Nat} {w1 w2 : World} {v u : Value} {l m : List W} (h1 : OwnW b1 w1 v l) (h2 : OwnW b2 w2 u m) (hb : w1.heap.size ≤ b2) : u.ownBlock = none ∨ u.ownBlock ≠ v.ownBlock := by
  cases hu : u.ownBlock with
  | none => exact .inl rfl
  | some k =>
    right
    intro e
    have g1 := (h1.lt k e.symm).2
    have g2 := (h2.lt k hu).1
    omega
theorem own_apart2 {b1 b2 : Nat} {w1 w2 : World} {v u : Value} {l m : List W} (h1 : OwnW b1 w1 v l) (h2 : OwnW b2 w2 u m) (hb : w1.heap.size ≤ b2) : v.ownBlock = none ∨ v.ownBlock ≠ u.ownBlock := by
  rcases own_apart h1 h2 hb with h | h
  · cases hv : v.ownBlock with
    | none => exact .inl rfl
    | some k => right; rw [h]; exact fun e => by cases e
  · exact .inr h.symm
theorem OwnW.kept {base : Nat} {w w' : World} {v : Value} {l : List W} {row : Option Nat} (h : OwnW base w v l) (hg : w.grownBy w' row) (hne : v.ownBlock = none ∨ v.ownBlock ≠ row) : OwnW base w' v l := World.ownsRow.kept h hg hne
/-- an append of one word to an owned slice, at an operation that is wanted (guarded or not) -/
theorem wpList_append_word {ops : Array Oper} {rest : List Oper} {o : Oper} {a : Act} {Q : Exit → Act → World → Prop} {w : World} (hw : Region.wanted o (yielded ops a.tmps) = true) (s x : Operand)
    (ho : o.op = .call { callee := .builtin .append, args := #[s, x], argTypes := #[25, 25] })
    (base : Nat) (v : Value) (l : List W) (y : W) (b c : Nat) (hs : a.eval s = v) (own : OwnW base w v l) (hx : a.eval x = .slice (some ⟨b, 0, none⟩) 1 c)
    (hy : w.cell? ⟨b, 0, none⟩ = some (wval y)) (hl : l.length ≤ 1000000) (hbase : base ≤ w.heap.size)
    (h : ∀ g cap w', OwnW base w' (.slice (some ⟨g, 0, none⟩) (l.length + 1) cap) (l ++ [y]) → w.grownBy w' v.ownBlock → wpList Tryz.prog ops Q rest (a.put o.dst (.slice (some ⟨g, 0, none⟩) (l.length + 1) cap)) w') :
    wpList Tryz.prog ops Q (o :: rest) a w := by
  obtain ⟨i0, hi, hz0, hz1, hz2⟩ := info_parts infoWord
  refine wpList_step fun K hK => ?_
  rw [if_pos hw]
  refine wp_append_lies w s x _ ho base 23 i0 _ 1 8 Tryz.underlying25 hi hz0 hz1 hz2 rfl (by omega) v l.length (l.map wval) hs own ⟨b, 0, none⟩ 1 c [wval y] hx rfl ?_ (one_one y) (by omega) (by unfold maxLen; omega) (by omega) hbase _ rfl ?_
  · intro j u hu
    obtain ⟨hj, e⟩ := List.getElem?_eq_some_iff.1 hu
    obtain rfl : j = 0 := by simp at hj; omega
    rw [add_plain', Nat.add_zero, hy, ← e]; rfl
  · intro g cap w' h2 h3 _ _
    exact hK _ _ (h g cap w' (own_snoc h2) h3)
theorem alloc_word (w : World) (y : W) (t : TypeId) : (w.alloc (.cells #[.int .u64 (uv y)] t)).cell? ⟨w.heap.size, 0, none⟩ = some (wval y) := by
  rw [World.cell?_alloc_new]; rfl
theorem below_grown {base : Nat} {w0 w w3 : World} {v : Value} {l : List W} (hb : Below base w0 w) (hs : base ≤ w.heap.size) (own1 : OwnW base w v l) (grow : w.grownBy w3 v.ownBlock) : Below base w0 w3 :=
  hb.grown grow hs (fun k hk => (own1.lt k hk).1)
/-- a copy in which one word is changed -/
theorem set_has {w4 : World} {g n cap : Nat} {L : List W} {k : Nat} {y : W} (hn : n = L.length) (hcap : n ≤ cap) (hg : g < w4.heap.size) (hk : k < n)
    (hc : ∀ i, i < n → w4.cell? ⟨g, i, none⟩ = (L.map wval)[i]?) : HasW (w4.setCell ⟨g, k, none⟩ (.int .u64 (uv y))) w4.heap.size (.slice (some ⟨g, 0, none⟩) n cap) (L.set k y) := by
  subst hn
  refine .inr ⟨g, 0, cap, by simp, by simpa using hcap, hg, fun i hi => ?_⟩
  have hi' : i < L.length := by simpa using hi
  rw [Nat.zero_add]
  by_cases e : i = k
  · subst e
    rw [World.cell?_setCell_same (u := wval (L.getD i 0)) _ _ _ (by rw [hc i hi']; simp [hi'])]
    simp [hi']
  · rw [World.cell?_setCell_other _ _ _ _ (by intro h; have := congrArg Addr.off h; simp only at this; omega), hc i hi']
    simp [List.getD, Ne.symm e, hi', wval]
theorem own_parts {base : Nat} {w : World} {v : Value} {l : List W} (h : OwnW base w v l) :
    ∃ ao cp, v = .slice ao l.length cp ∧ l.length ≤ cp ∧ (ao = none → l.length = 0) ∧ (∀ A, ao = some A → ∃ g, A = ⟨g, 0, none⟩ ∧ g < w.heap.size) ∧ ∀ A, ao = some A → ∀ j u, (l.map wval)[j]? = some u → w.cell? (A.add j) = some u := by
  rcases h.2 with ⟨rfl, h0⟩ | ⟨g, cap, cur, rfl, h1, h2, h3, h4, h5, h6⟩
  · exact ⟨none, 0, by rw [h0], by omega, fun _ => h0, fun A e => (by cases e), fun A e => (by cases e)⟩
  · refine ⟨some ⟨g, 0, none⟩, cap, rfl, h3, fun e => (by cases e), fun A e => ⟨g, (Option.some.inj e).symm, (Array.getElem?_eq_some_iff.1 h2).1⟩, fun A e j u hu => ?_⟩
    obtain rfl := Option.some.inj e
    have hj : j < l.length := by have := (List.getElem?_eq_some_iff.1 hu).1; simpa using this
    rw [add_plain', Nat.zero_add, h.cellAt j (by omega)]; exact hu
/-- an append of one word to a slice without room -/
theorem wpList_append_full {ops : Array Oper} {rest : List Oper} {o : Oper} {a : Act} {Q : Exit → Act → World → Prop} {w : World} (hw : Region.wanted o (yielded ops a.tmps) = true) (s x : Operand)
    (ho : o.op = .call { callee := .builtin .append, args := #[s, x], argTypes := #[25, 25] })
    (ao : Option Addr) (n : Nat) (l : List W) (y : W) (b c : Nat) (hs : a.eval s = .slice ao n n) (hn : n = l.length) (base cp : Nat) (own : OwnW base w (.slice ao n cp) l)
    (hx : a.eval x = .slice (some ⟨b, 0, none⟩) 1 c) (hy : w.cell? ⟨b, 0, none⟩ = some (wval y)) (hl : l.length ≤ 1000000)
    (h : ∀ v' w', OwnW w.heap.size w' v' (l ++ [y]) → w.grownBy w' none → wpList Tryz.prog ops Q rest (a.put o.dst v') w') :
    wpList Tryz.prog ops Q (o :: rest) a w := by
  subst hn
  obtain ⟨ao', cp', he, _, hnone, _, hcells⟩ := own_parts own
  simp only [Value.slice.injEq] at he
  obtain ⟨rfl, _, _⟩ := he
  obtain ⟨i0, hi, hz0, hz1, hz2⟩ := info_parts infoWord
  have hnews : ∀ j u, [wval y][j]? = some u → w.cell? ((⟨b, 0, none⟩ : Addr).add j) = some u := by
    intro j u hu
    obtain ⟨hj, e⟩ := List.getElem?_eq_some_iff.1 hu
    obtain rfl : j = 0 := by simp at hj; omega
    rw [add_plain', Nat.add_zero, hy, ← e]; rfl
  refine wpList_step fun K hK => ?_
  rw [if_pos hw]
  cases ao with
  | some A =>
    obtain ⟨v', w', hrun, r1, r2⟩ := run_append_arg_grows (P := Tryz.prog) w 25 o.type 23 i0 _ 1 8 Tryz.underlying25 hi hz0 hz1 hz2 rfl (by omega) A l.length l.length (l.map wval) (by simp) (hcells A rfl) ⟨b, 0, none⟩ 1 c [wval y] rfl hnews (by omega) (by unfold maxLen; omega) (by omega)
    unfold Oper.wp
    simp [execOp, ho, resolve, invoke, builtin, hs, hx, hrun, Result.andThen]
    exact hK _ _ (h v' w' (own_snoc r1) r2)
  | none =>
    have h0 := hnone rfl
    obtain rfl : l = [] := List.length_eq_zero_iff.1 h0
    obtain ⟨v', w', hrun, r1, r2, _⟩ := run_append_own (P := Tryz.prog) w w.heap.size 25 o.type 23 i0 _ 1 8 Tryz.underlying25 hi hz0 hz1 hz2 rfl (by omega) (.slice none 0 0) 0 [] (World.ownsRow_nil w _ _ _) ⟨b, 0, none⟩ 1 c [wval y] rfl hnews (one_one y) (by unfold maxLen; omega) (by omega) (Nat.le_refl _)
    have hs' : a.eval s = .slice none 0 0 := hs
    unfold Oper.wp
    simp [execOp, ho, resolve, invoke, builtin, hs', hx, hrun, Result.andThen]
    exact hK _ _ (h v' w' (own_snoc (l := []) r1) r2)
theorem tail_has {base : Nat} {w : World} {g cp n : Nat} {a' : Option Addr} {l : List W} (hn : l.length = n) (h : OwnW base w (.slice (some ⟨g, 0, none⟩) n cp) l) (h1 : 1 ≤ n) (hcp : n ≤ cp) (ha : 1 < n → a' = some ⟨g, 1, none⟩) :
    HasW w w.heap.size (.slice a' (n - 1) (cp - 1)) (l.drop 1) := by
  subst hn
  by_cases h2 : 1 < l.length
  · obtain rfl := ha h2
    refine .inr ⟨g, 1, cp - 1, by simp, by simp; omega, (h.lt g rfl).2, fun i hi => ?_⟩
    have hi' : 1 + i < l.length := by simp at hi; omega
    rw [h.cellAt (1 + i) (by omega)]
    simp [hi', wval, List.getD, Nat.add_comm i 1]
  · have e : l.length - 1 = 0 := by omega
    refine .inl ⟨a', cp - 1, by rw [e], List.length_eq_zero_iff.1 (by simp; omega)⟩
theorem kept_none {base : Nat} {w w' : World} {v : Value} {l : List W} (h : OwnW base w v l) (hg : w.grownBy w' none) : OwnW base w' v l := by
  refine h.kept hg ?_
  cases v.ownBlock with
  | none => exact .inl rfl
  | some k => exact .inr (fun e => by cases e)
theorem below_none {base : Nat} {w0 w w3 : World} (hb : Below base w0 w) (hs : base ≤ w.heap.size) (grow : w.grownBy w3 none) : Below base w0 w3 :=
  hb.grown grow hs (fun k hk => by cases hk)
theorem HasB.below {w w' : World} {N M : Nat} {v : Value} {l : List B} (h : HasB w N v l) (hb : Below M w w') (hm : N ≤ M) : HasB w' N v l := by
  rcases h with ⟨a, cap, rfl, rfl⟩ | ⟨b, off, cap, rfl, h2, h3, h4⟩
  · exact .inl ⟨a, cap, rfl, rfl⟩
  · refine .inr ⟨b, off, cap, rfl, h2, h3, fun i hi => ?_⟩
    rw [hb.cell (p := ⟨b, off + i, none⟩) (Nat.lt_of_lt_of_le h3 hm)]; exact h4 i hi
/-- three numbers that are laid in memory -/
theorem three_at (w : World) (x0 x1 x2 : Int) (t : TypeId) (k : Nat) (hk : k < 3) : ∃ x, (w.alloc (.cells #[.int .i64 x0, .int .i64 x1, .int .i64 x2] t)).cell? ⟨w.heap.size, k, none⟩ = some (.int .i64 x) := by
  have : k = 0 ∨ k = 1 ∨ k = 2 := by omega
  rcases this with rfl | rfl | rfl
  · exact ⟨x0, by rw [World.cell?_alloc_new]; rfl⟩
  · exact ⟨x1, by rw [World.cell?_alloc_new]; rfl⟩
  · exact ⟨x2, by rw [World.cell?_alloc_new]; rfl⟩
theorem three_below {w w0 wr : World} {x0 x1 x2 : Int} {t : TypeId} (h0 : w0 = w.alloc (.cells #[.int .i64 x0, .int .i64 x1, .int .i64 x2] t)) (hb : Below w0.heap.size w0 wr) (k : Nat) (hk : k < 3) :
    ∃ x, wr.cell? ⟨w.heap.size, k, none⟩ = some (.int .i64 x) := by
  obtain ⟨x, hx⟩ := three_at w x0 x1 x2 t k hk
  refine ⟨x, ?_⟩
  rw [hb.cell (p := ⟨w.heap.size, k, none⟩) (by rw [h0]; simp), h0]; exact hx
theorem leaves_cell {w : World} {N : Nat} {ao : Option Addr} {n cap : Nat} {l : List W} (h : HasW w N (.slice ao n cap) l) (k : Nat) (hk : k < n) : ∃ b off, ao = some ⟨b, off, none⟩ ∧ w.cell? ⟨b, off + k, none⟩ = some (.int .u64 (uv (l.getD k 0))) := by
  rcases h with ⟨a, c, e, rfl⟩ | ⟨b, off, c, e, _, _, h4⟩
  · simp only [Value.slice.injEq] at e; omega
  · simp only [Value.slice.injEq] at e
    exact ⟨b, off, e.1, h4 k (by omega)⟩
end Go.Proofs.YtgkckomccabmlaaGreatDoor
namespace Go.Proofs.YtgkckomccabmlaaGreatDoor
open Go.ChangeShapes Go.WideShapes Go.ChangeAt Go.RowKit
open Dg (W B)
theorem infoInt : (Tryz.prog.info? 3).map (fun i => (i.zero, i.size, i.bytes)) = some (some (.int .i64 0), 1, 8) := by kernel_rfl
def ival (x : Int) : Value := .int .i64 x
/-- the value v is a slice whose numbers are l, in blocks below N -/
def HasI (w : World) (N : Nat) (v : Value) (l : List Int) : Prop :=
  (∃ a cap, v = .slice a 0 cap ∧ l = []) ∨ ∃ b off cap, v = .slice (some ⟨b, off, none⟩) l.length cap ∧ l.length ≤ cap ∧ b < N ∧ ∀ i, i < l.length → w.cell? ⟨b, off + i, none⟩ = some (.int .i64 (l.getD i 0))
/-- the value v is a slice of the call's own, its numbers are l -/
def OwnI (base : Nat) (w : World) (v : Value) (l : List Int) : Prop := w.ownsRow base 3 1 v l.length (l.map ival)
theorem HasI.form {w : World} {N : Nat} {v : Value} {l : List Int} (h : HasI w N v l) : ∃ a cap, v = .slice a l.length cap := by
  rcases h with ⟨a, cap, rfl, rfl⟩ | ⟨b, off, cap, rfl, _⟩
  · exact ⟨a, cap, rfl⟩
  · exact ⟨_, cap, rfl⟩
theorem HasI.below {w w' : World} {N M : Nat} {v : Value} {l : List Int} (h : HasI w N v l) (hb : Below M w w') (hm : N ≤ M) : HasI w' N v l := by
  rcases h with ⟨a, cap, rfl, rfl⟩ | ⟨b, off, cap, rfl, h2, h3, h4⟩
  · exact .inl ⟨a, cap, rfl, rfl⟩
  · refine .inr ⟨b, off, cap, rfl, h2, h3, fun i hi => ?_⟩
    rw [hb.cell (p := ⟨b, off + i, none⟩) (Nat.lt_of_lt_of_le h3 hm)]; exact h4 i hi
theorem HasI.at {w : World} {N : Nat} {a : Option Addr} {n cap : Nat} {l : List Int} (h : HasI w N (.slice a n cap) l) (k : Nat) (hk : k < n) : ∃ b off, a = some ⟨b, off, none⟩ ∧ w.cell? ⟨b, off + k, none⟩ = some (.int .i64 (l.getD k 0)) := by
  rcases h with ⟨a, c, e, rfl⟩ | ⟨b, off, c, e, _, _, h4⟩
  · simp only [Value.slice.injEq] at e; omega
  · simp only [Value.slice.injEq] at e
    exact ⟨b, off, e.1, h4 k (by omega)⟩
theorem OwnI.has {base : Nat} {w : World} {v : Value} {l : List Int} (h : OwnI base w v l) : HasI w w.heap.size v l := by
  rcases h.2 with ⟨rfl, h0⟩ | ⟨g, cap, cur, rfl, h1, h2, h3, h4, h5, h6⟩
  · exact .inl ⟨none, 0, rfl, List.length_eq_zero_iff.1 h0⟩
  · refine .inr ⟨g, 0, cap, rfl, h3, (Array.getElem?_eq_some_iff.1 h2).1, fun i hi => ?_⟩
    rw [Nat.zero_add, cell_of_row w g i _ _ _ h2]
    have e := congrArg (fun L : List Value => L[i]?) h6
    simp only [Nat.mul_one, List.getElem?_take, if_pos hi, List.getElem?_map] at e
    rw [← Array.getElem?_toList, e]
    simp [hi, ival]
theorem OwnI.below {base : Nat} {w w' : World} {v : Value} {l : List Int} (h : OwnI base w v l) (hb : Below w.heap.size w w') : OwnI base w' v l := by
  obtain ⟨h1, h2⟩ := h
  refine ⟨h1, ?_⟩
  rcases h2 with h2 | ⟨g, cap, cur, hv, hg, hh, r⟩
  · exact .inl h2
  · exact .inr ⟨g, cap, cur, hv, hg, by rw [hb.block g (Array.getElem?_eq_some_iff.1 hh).1]; exact hh, r⟩
/-- a slice of numbers that is built -/
theorem built_ints (w : World) (l : List Int) (t : TypeId) (cs : Array Value) (hc : cs = (l.map ival).toArray) : HasI (w.alloc (.cells cs t)) (w.heap.size + 1) (.slice (some ⟨w.heap.size, 0, none⟩) l.length l.length) l := by
  subst hc
  refine .inr ⟨w.heap.size, 0, l.length, rfl, Nat.le_refl _, by omega, fun i hi => ?_⟩
  rw [Nat.zero_add, World.cell?_alloc_new]
  simp [hi, ival]
/-- a slice of words that is built is owned -/
theorem built_own (w : World) (base : Nat) (l : List W) (cs : Array Value) (hc : cs = (l.map wval).toArray) (hb : base ≤ w.heap.size) (hl : l.length ≤ 1000000) :
    OwnW base (w.alloc (.cells cs 23)) (.slice (some ⟨w.heap.size, 0, none⟩) l.length l.length) l := by
  subst hc
  refine ⟨by simp, .inr ⟨w.heap.size, l.length, (l.map wval).toArray, rfl, hb, heap_alloc_new w _, Nat.le_refl _, by unfold maxLen; omega, by simp, by simp [List.take_of_length_le]⟩⟩
/-- an append of some numbers to an owned slice, at an operation that is wanted (guarded or not) -/
theorem wpList_append_ints {ops : Array Oper} {rest : List Oper} {o : Oper} {a : Act} {Q : Exit → Act → World → Prop} {w : World} (hw : Region.wanted o (yielded ops a.tmps) = true) (s x : Operand)
    (ho : o.op = .call { callee := .builtin .append, args := #[s, x], argTypes := #[28, 28] })
    (base : Nat) (v : Value) (l ys : List Int) (b m c : Nat) (hs : a.eval s = v) (own : OwnI base w v l) (hx : a.eval x = .slice (some ⟨b, 0, none⟩) m c) (hm : m = ys.length) (hm0 : 0 < m)
    (hy : ∀ j, j < ys.length → w.cell? ⟨b, j, none⟩ = some (.int .i64 (ys.getD j 0))) (hl : l.length + m ≤ 1000000) (hbase : base ≤ w.heap.size)
    (h : ∀ g cap w', OwnI base w' (.slice (some ⟨g, 0, none⟩) (l.length + m) cap) (l ++ ys) → w.grownBy w' v.ownBlock → wpList Tryz.prog ops Q rest (a.put o.dst (.slice (some ⟨g, 0, none⟩) (l.length + m) cap)) w') :
    wpList Tryz.prog ops Q (o :: rest) a w := by
  subst hm
  obtain ⟨i0, hi, hz0, hz1, hz2⟩ := info_parts infoInt
  refine wpList_step fun K hK => ?_
  rw [if_pos hw]
  refine wp_append_lies w s x _ ho base 3 i0 _ 1 8 Tryz.underlying28 hi hz0 hz1 hz2 rfl (by omega) v l.length (l.map ival) hs own ⟨b, 0, none⟩ ys.length c (ys.map ival) hx (by simp) ?_ ?_ hm0 (by unfold maxLen; omega) (by omega) hbase _ rfl ?_
  · intro j u hu
    rw [List.getElem?_map] at hu
    obtain ⟨z, hz, rfl⟩ := Option.map_eq_some_iff.1 hu
    obtain ⟨hj, e⟩ := List.getElem?_eq_some_iff.1 hz
    rw [add_plain', Nat.zero_add, hy j hj, ← e]
    simp [hj, ival]
  · intro u hu
    obtain ⟨z, _, rfl⟩ := List.mem_map.1 hu
    rfl
  · intro g cap w' h2 h3 _ _
    refine hK _ _ (h g cap w' ?_ h3)
    unfold OwnI
    rw [List.length_append, List.map_append]; exact h2
theorem below_grownI {base : Nat} {w0 w w3 : World} {v : Value} {l : List Int} (hb : Below base w0 w) (hs : base ≤ w.heap.size) (own1 : OwnI base w v l) (grow : w.grownBy w3 v.ownBlock) : Below base w0 w3 :=
  hb.grown grow hs (fun k hk => (own1.lt k hk).1)
end Go.Proofs.YtgkckomccabmlaaGreatDoor
namespace Go.Proofs.YtgkckomccabmlaaGreatDoor
open Go.ChangeShapes Go.WideShapes Go.ChangeAt Go.RowKit
open Dg (W B)
/-- in the block N lie n cells: those of l first, then the default -/
def Arr {α : Type} (f : α → Value) (d : α) (n : Nat) (w : World) (N : Nat) (l : List α) : Prop := N < w.heap.size ∧ ∀ j, j < n → w.cell? ⟨N, j, none⟩ = some (f (l.getD j d)) ∧ w.frozen? ⟨N, j, none⟩ = false
section
variable {α : Type} {f : α → Value} {d : α} {n N : Nat} {w w' : World} {l : List α}
theorem Arr.zero (w : World) (t : TypeId) (cs : Array Value) (hc : cs = Array.replicate n (f d)) : Arr f d n (w.alloc (.cells cs t)) w.heap.size [] := by
  subst hc
  refine ⟨by simp, fun j hj => ⟨?_, World.frozen?_alloc_new _ _ _ _⟩⟩
  rw [World.cell?_alloc_new, Array.getElem?_replicate, if_pos hj]; rfl
theorem Arr.made (w : World) (t : TypeId) (cs : Array Value) (hc : cs = (l.map f).toArray) (hl : l.length = n) : Arr f d n (w.alloc (.cells cs t)) w.heap.size l := by
  subst hc; subst hl
  refine ⟨by simp, fun j hj => ⟨?_, World.frozen?_alloc_new _ _ _ _⟩⟩
  rw [World.cell?_alloc_new]; simp [hj]
theorem Arr.below {M : Nat} (h : Arr f d n w N l) (hb : Below M w w') (hm : N < M) : Arr f d n w' N l :=
  ⟨Nat.lt_of_lt_of_le h.1 hb.size, fun j hj => ⟨by rw [hb.cell (p := ⟨N, j, none⟩) hm]; exact (h.2 j hj).1, by rw [hb.frozen (p := ⟨N, j, none⟩) hm]; exact (h.2 j hj).2⟩⟩
theorem Arr.drewN (h : Arr f d n w N l) (m : Nat) : Arr f d n (w.drewN m) N l := h
theorem Arr.set (h : Arr f d n w N l) {k : Nat} (hk : k < n) (x : α) (m : List α) (hm : ∀ j, j < n → m.getD j d = if j = k then x else l.getD j d) : Arr f d n (w.setCell ⟨N, k, none⟩ (f x)) N m := by
  refine ⟨by simpa using h.1, fun j hj => ⟨?_, by rw [World.frozen?_setCell]; exact (h.2 j hj).2⟩⟩
  rw [hm j hj]
  by_cases e : j = k
  · subst e
    rw [if_pos rfl, World.cell?_setCell_same _ _ _ (h.2 j hj).1]
  · rw [if_neg e, World.cell?_setCell_other _ _ _ _ (by intro h; have := congrArg Addr.off h; simp only at this; omega)]
    exact (h.2 j hj).1
theorem Arr.push (h : Arr f d n w N l) {k : Nat} (hl : l.length = k) (hk : k < n) (x : α) : Arr f d n (w.setCell ⟨N, k, none⟩ (f x)) N (l ++ [x]) := by
  refine h.set hk x _ fun j hj => ?_
  subst hl
  by_cases e : j = l.length
  · subst e; rw [if_pos rfl]; simp [List.getD]
  · rw [if_neg e]
    by_cases e2 : j < l.length
    · simp [List.getD, List.getElem?_append_left e2]
    · rw [List.getD, List.getD, List.getElem?_eq_none (by simp; omega), List.getElem?_eq_none (by omega)]
theorem Arr.other (h : Arr f d n w N l) (p : Addr) (v : Value) (hp : p.block ≠ N) : Arr f d n (w.setCell p v) N l :=
  ⟨by simpa using h.1, fun j hj => ⟨by rw [World.cell?_setCell_other _ _ _ _ (by intro e; exact hp (congrArg Addr.block e))]; exact (h.2 j hj).1, by rw [World.frozen?_setCell]; exact (h.2 j hj).2⟩⟩
theorem Arr.there (h : Arr f d n w N l) : w.there N 0 n := fun j hj => by
  rw [Nat.zero_add, (h.2 j hj).1]
  exact ⟨rfl, (h.2 j hj).2⟩
theorem Arr.range (h : Arr f d n w N l) (hl : l.length ≤ n) : w.rangeAt N 0 (l.map f) := by
  intro j v hv
  rw [List.getElem?_map] at hv
  obtain ⟨z, hz, rfl⟩ := Option.map_eq_some_iff.1 hv
  obtain ⟨hj, e⟩ := List.getElem?_eq_some_iff.1 hz
  rw [Nat.zero_add, (h.2 j (by omega)).1, ← e]
  simp [List.getD, hj]
end
theorem below_setCells {B : Nat} {a : World} (b : Nat) (hb : B ≤ b) : ∀ (vs : List Value) (o : Nat) (w : World), Below B a w → Below B a (w.setCells b o vs)
  | [], _, _, h => h
  | v :: vs, o, w, h => below_setCells b hb vs (o + 1) (w.setCell ⟨b, o, none⟩ v) (h.setCell hb v)
/-- one result, in memory -/
theorem results_cell {P : Program} {fn : Func} {t : Tmp} {ty : TypeId} (h : fn.results = #[.cell t ty]) (tmps : Array Value) (w : World) (p : Addr) (hp : tmps.getD t undef = .pointer (some p)) {v : Value} {w' : World}
    (hv : (loadVar ty p).run P w = .ok v w') : (results fn tmps).run P w = .ok v w' := by
  have hp' : tmps[t]?.getD undef = .pointer (some p) := by simpa using hp
  rw [← hv]; simp [results, h, hp', asAddr]
theorem Arr.hasW {n N : Nat} {w : World} {l : List W} (h : Arr wval 0 n w N l) (hl : l.length = n) : HasW w w.heap.size (.slice (some ⟨N, 0, none⟩) n n) l := by
  subst hl
  exact .inr ⟨N, 0, l.length, rfl, Nat.le_refl _, h.1, fun i hi => by rw [Nat.zero_add]; exact (h.2 i hi).1⟩
theorem Arr.hasI {n N : Nat} {w : World} {l : List Int} (h : Arr ival 0 n w N l) (hl : l.length = n) : HasI w w.heap.size (.slice (some ⟨N, 0, none⟩) n n) l := by
  subst hl
  exact .inr ⟨N, 0, l.length, rfl, Nat.le_refl _, h.1, fun i hi => by rw [Nat.zero_add]; exact (h.2 i hi).1⟩
end Go.Proofs.YtgkckomccabmlaaGreatDoor
namespace Go.Proofs.YtgkckomccabmlaaGreatDoor
open Go.ChangeShapes Go.WideShapes Go.ChangeAt Go.RowKit
open Dg (W B)
/-- the value v is a slice whose elements are l, in a block from base on; they may be written -/
def My {α : Type} (f : α → Value) (d : α) (base : Nat) (w : World) (v : Value) (l : List α) : Prop :=
  ∃ g cap, v = .slice (some ⟨g, 0, none⟩) l.length cap ∧ base ≤ g ∧ g < w.heap.size ∧ l.length ≤ cap ∧ ∀ i, i < l.length → w.cell? ⟨g, i, none⟩ = some (f (l.getD i d)) ∧ w.frozen? ⟨g, i, none⟩ = false
abbrev MyW := My wval (0 : W)
abbrev MyI := My ival (0 : Int)
section
variable {α : Type} {f : α → Value} {d : α} {base N : Nat} {w w' : World} {v : Value} {l : List α}
theorem My.mono {base' : Nat} (h : My f d base w v l) (hb : base' ≤ base) : My f d base' w v l := by
  obtain ⟨g, cap, h1, h2, h3⟩ := h; exact ⟨g, cap, h1, Nat.le_trans hb h2, h3⟩
theorem My.below {M : Nat} (h : My f d base w v l) (hb : Below M w w') (hm : w.heap.size ≤ M := by exact Nat.le_refl _) : My f d base w' v l := by
  obtain ⟨g, cap, h1, h2, h3, h4, h5⟩ := h
  have hs : g < M := Nat.lt_of_lt_of_le h3 hm
  exact ⟨g, cap, h1, h2, (Array.getElem?_eq_some_iff.1 (by rw [hb.block g hs]; exact Array.getElem?_eq_getElem h3)).1, h4, fun i hi => ⟨by rw [hb.cell (p := ⟨g, i, none⟩) hs]; exact (h5 i hi).1, by rw [hb.frozen (p := ⟨g, i, none⟩) hs]; exact (h5 i hi).2⟩⟩
theorem My.alloc (h : My f d base w v l) (o : Obj) : My f d base (w.alloc o) v l := h.below ((Below.refl w.heap.size w).alloc (Nat.le_refl _) o)
theorem My.drewN (h : My f d base w v l) (n : Nat) : My f d base (w.drewN n) v l := h
theorem My.form (h : My f d base w v l) : ∃ g cap, v = .slice (some ⟨g, 0, none⟩) l.length cap := by
  obtain ⟨g, cap, h1, _⟩ := h; exact ⟨g, cap, h1⟩
theorem Arr.my {n : Nat} (h : Arr f d n w N l) (hl : l.length = n) (hb : base ≤ N) : My f d base w (.slice (some ⟨N, 0, none⟩) n n) l := by
  subst hl; exact ⟨N, l.length, rfl, hb, h.1, Nat.le_refl _, h.2⟩
end
section
variable {base : Nat} {w : World} {v : Value}
theorem MyW.mono {base' : Nat} {l : List W} (h : MyW base w v l) (hb : base' ≤ base) : MyW base' w v l := My.mono h hb
theorem MyW.below {w' : World} {M : Nat} {l : List W} (h : MyW base w v l) (hb : Below M w w') (hm : w.heap.size ≤ M := by exact Nat.le_refl _) : MyW base w' v l := My.below h hb hm
theorem MyW.alloc {l : List W} (h : MyW base w v l) (o : Obj) : MyW base (w.alloc o) v l := My.alloc h o
theorem MyW.drewN {l : List W} (h : MyW base w v l) (n : Nat) : MyW base (w.drewN n) v l := My.drewN h n
theorem MyI.mono {base' : Nat} {l : List Int} (h : MyI base w v l) (hb : base' ≤ base) : MyI base' w v l := My.mono h hb
theorem MyI.below {w' : World} {M : Nat} {l : List Int} (h : MyI base w v l) (hb : Below M w w') (hm : w.heap.size ≤ M := by exact Nat.le_refl _) : MyI base w' v l := My.below h hb hm
theorem MyI.alloc {l : List Int} (h : MyI base w v l) (o : Obj) : MyI base (w.alloc o) v l := My.alloc h o
theorem MyI.drewN {l : List Int} (h : MyI base w v l) (n : Nat) : MyI base (w.drewN n) v l := My.drewN h n
theorem MyW.has {l : List W} (h : MyW base w v l) : HasW w w.heap.size v l := by
  obtain ⟨g, cap, rfl, h2, h3, h4, h5⟩ := h
  exact .inr ⟨g, 0, cap, rfl, h4, h3, fun i hi => by rw [Nat.zero_add]; exact (h5 i hi).1⟩
theorem MyI.has {l : List Int} (h : MyI base w v l) : HasI w w.heap.size v l := by
  obtain ⟨g, cap, rfl, h2, h3, h4, h5⟩ := h
  exact .inr ⟨g, 0, cap, rfl, h4, h3, fun i hi => by rw [Nat.zero_add]; exact (h5 i hi).1⟩
theorem MyW.tail {g cp n : Nat} {a' : Option Addr} {l : List W} (hn : l.length = n) (h : MyW base w (.slice (some ⟨g, 0, none⟩) n cp) l) (h1 : 1 ≤ n) (hcp : n ≤ cp) (ha : 1 < n → a' = some ⟨g, 1, none⟩) :
    HasW w w.heap.size (.slice a' (n - 1) (cp - 1)) (l.drop 1) := by
  subst hn
  obtain ⟨g', cap, e, h2, h3, h4, h5⟩ := h
  simp only [Value.slice.injEq, Option.some.injEq, Addr.mk.injEq] at e
  obtain ⟨⟨rfl, _⟩, _⟩ := e
  by_cases h2 : 1 < l.length
  · obtain rfl := ha h2
    refine .inr ⟨g, 1, cp - 1, by simp, by simp; omega, h3, fun i hi => ?_⟩
    have hi' : 1 + i < l.length := by simp at hi; omega
    rw [(h5 (1 + i) hi').1]
    simp [wval, List.getD, Nat.add_comm i 1]
  · have e : l.length - 1 = 0 := by omega
    refine .inl ⟨a', cp - 1, by rw [e], List.length_eq_zero_iff.1 (by simp; omega)⟩
theorem OwnW.my {l : List W} (h : OwnW base w v l) (hl : 0 < l.length) : MyW base w v l := by
  obtain ⟨hx, h2⟩ := h
  rcases h2 with ⟨_, h0⟩ | ⟨g, cap, cur, rfl, h1, h2, h3, h4, h5, h6⟩
  · omega
  · have own : w.ownsRow base 23 1 (.slice (some ⟨g, 0, none⟩) l.length cap) l.length (l.map wval) := ⟨hx, .inr ⟨g, cap, cur, rfl, h1, h2, h3, h4, h5, h6⟩⟩
    exact ⟨g, cap, rfl, h1, (Array.getElem?_eq_some_iff.1 h2).1, h3, fun i hi => ⟨by rw [own.cellAt i (by omega)]; simp [hi], own.frozenAt i⟩⟩
theorem OwnI.my {l : List Int} (h : OwnI base w v l) (hl : 0 < l.length) : MyI base w v l := by
  obtain ⟨hx, h2⟩ := h
  rcases h2 with ⟨_, h0⟩ | ⟨g, cap, cur, rfl, h1, h2, h3, h4, h5, h6⟩
  · omega
  · have own : w.ownsRow base 3 1 (.slice (some ⟨g, 0, none⟩) l.length cap) l.length (l.map ival) := ⟨hx, .inr ⟨g, cap, cur, rfl, h1, h2, h3, h4, h5, h6⟩⟩
    exact ⟨g, cap, rfl, h1, (Array.getElem?_eq_some_iff.1 h2).1, h3, fun i hi => ⟨by rw [own.cellAt i (by omega)]; simp [hi], own.frozenAt i⟩⟩
end
end Go.Proofs.YtgkckomccabmlaaGreatDoor
namespace Go.Proofs.YtgkckomccabmlaaGreatDoor
open Go.ChangeShapes Go.WideShapes Go.ChangeAt Go.RowKit
open Dg (W B)
/-- three results, two of them in memory -/
theorem results_cct {P : Program} {fn : Func} {a b t : Tmp} {A B : TypeId} (h : fn.results = #[.cell a A, .cell b B, .tmp t]) (tmps : Array Value) (w : World) (p q : Addr)
    (hp : tmps.getD a undef = .pointer (some p)) (hq : tmps.getD b undef = .pointer (some q)) {x y : Value}
    (hx : (loadVar A p).run P w = .ok x w) (hy : (loadVar B q).run P w = .ok y w) : (results fn tmps).run P w = .ok (.tuple #[x, y, tmps.getD t undef]) w := by
  have hp' : tmps[a]?.getD undef = .pointer (some p) := by simpa using hp
  have hq' : tmps[b]?.getD undef = .pointer (some q) := by simpa using hq
  simp [results, h, hp', hq', asAddr, hx, hy]
theorem below_three (w : World) (a b c : Obj) : Below w.heap.size w (((w.alloc a).alloc b).alloc c).drew :=
  ((((Below.refl _ _).alloc (Nat.le_refl _) a).alloc (by simp) b).alloc (by simp; omega) c).drew
theorem below_3 (w : World) (a b c : Obj) : Below w.heap.size w (((w.alloc a).alloc b).alloc c) := (((Below.refl _ _).alloc (Nat.le_refl _) a).alloc (by simp) b).alloc (by simp; omega) c
theorem kept {w w' : World} {p : Addr} {v : Value} (hb : Below w.heap.size w w') (h : w.cell? p = some v) : w'.cell? p = some v := (hb.cell (World.block_lt_of_cell? _ _ h)).trans h
theorem kalloc {w : World} {p : Addr} {v : Value} (h : w.cell? p = some v) (o : Obj) : (w.alloc o).cell? p = some v := kept ((Below.refl _ _).alloc (Nat.le_refl _) o) h
theorem kset3 {w : World} {N M j : Nat} {v : Value} (h : w.cell? ⟨N, j, none⟩ = some v) (hn : N ≠ M) (a b c : Value) : (((w.setCell ⟨M, 0, none⟩ a).setCell ⟨M, 1, none⟩ b).setCell ⟨M, 2, none⟩ c).cell? ⟨N, j, none⟩ = some v := by
  rw [World.cell?_setCell_far _ _ _ _ hn.symm, World.cell?_setCell_far _ _ _ _ hn.symm, World.cell?_setCell_far _ _ _ _ hn.symm]; exact h
theorem kallocD {w : World} {p : Addr} {v : Value} (h : w.cell? p = some v) (o : Obj) : (w.alloc o).drew.cell? p = some v := kalloc h o
theorem kset1 {w : World} {N M j i : Nat} {v : Value} (h : w.cell? ⟨N, j, none⟩ = some v) (hn : N ≠ M) (a : Value) : (w.setCell ⟨M, i, none⟩ a).cell? ⟨N, j, none⟩ = some v := by rw [World.cell?_setCell_far _ _ _ _ hn.symm]; exact h
/-- three cells that may be written -/
def Rec3 (w : World) (N : Nat) (a b c : Value) : Prop := N < w.heap.size ∧ (w.cell? ⟨N, 0, none⟩ = some a ∧ w.cell? ⟨N, 1, none⟩ = some b ∧ w.cell? ⟨N, 2, none⟩ = some c) ∧ w.frozen? ⟨N, 0, none⟩ = false ∧ w.frozen? ⟨N, 1, none⟩ = false ∧ w.frozen? ⟨N, 2, none⟩ = false
theorem Rec3.below {w w' : World} {N B : Nat} {a b c : Value} (h : Rec3 w N a b c) (hb : Below B w w') (hn : N < B) : Rec3 w' N a b c := by
  obtain ⟨h1, ⟨h2, h3, h4⟩, h5, h6, h7⟩ := h
  exact ⟨Nat.lt_of_lt_of_le h1 hb.size, ⟨by rw [hb.cell (p := ⟨N, 0, none⟩) hn]; exact h2, by rw [hb.cell (p := ⟨N, 1, none⟩) hn]; exact h3, by rw [hb.cell (p := ⟨N, 2, none⟩) hn]; exact h4⟩, by rw [hb.frozen (p := ⟨N, 0, none⟩) hn]; exact h5, by rw [hb.frozen (p := ⟨N, 1, none⟩) hn]; exact h6, by rw [hb.frozen (p := ⟨N, 2, none⟩) hn]; exact h7⟩
theorem Rec3.drew {w : World} {N : Nat} {a b c : Value} (h : Rec3 w N a b c) : Rec3 w.drew N a b c := h
theorem Rec3.new (w : World) (a b c : Value) (t : TypeId) : Rec3 (w.alloc (.cells #[a, b, c] t)) w.heap.size a b c := ⟨by simp, ⟨by go_simp, by go_simp, by go_simp⟩, by go_simp, by go_simp, by go_simp⟩
theorem Rec3.far {w : World} {N : Nat} {a b c : Value} (h : Rec3 w N a b c) (p : Addr) (hn : p.block ≠ N) (v : Value) : Rec3 (w.setCell p v) N a b c := by
  obtain ⟨h1, ⟨h2, h3, h4⟩, h5, h6, h7⟩ := h
  exact ⟨by simpa using h1, ⟨by rw [World.cell?_setCell_far _ _ _ _ hn]; exact h2, by rw [World.cell?_setCell_far _ _ _ _ hn]; exact h3, by rw [World.cell?_setCell_far _ _ _ _ hn]; exact h4⟩, by rw [World.frozen?_setCell]; exact h5, by rw [World.frozen?_setCell]; exact h6, by rw [World.frozen?_setCell]; exact h7⟩
theorem Rec3.put {w : World} {N : Nat} {a b c : Value} (h : Rec3 w N a b c) (x y z : Value) : Rec3 (((w.setCell ⟨N, 0, none⟩ x).setCell ⟨N, 1, none⟩ y).setCell ⟨N, 2, none⟩ z) N x y z := by
  obtain ⟨h1, ⟨h2, h3, h4⟩, h5, h6, h7⟩ := h
  refine ⟨by simpa using h1, ⟨?_, ?_, ?_⟩, ?_, ?_, ?_⟩
  · rw [World.cell?_setCell_other _ _ _ _ (by simp), World.cell?_setCell_other _ _ _ _ (by simp)]; exact World.cell?_setCell_same _ _ _ h2
  · rw [World.cell?_setCell_other _ _ _ _ (by simp)]; exact World.cell?_setCell_same _ _ _ (by rw [World.cell?_setCell_other _ _ _ _ (by simp)]; exact h3)
  · exact World.cell?_setCell_same _ _ _ (by rw [World.cell?_setCell_other _ _ _ _ (by simp), World.cell?_setCell_other _ _ _ _ (by simp)]; exact h4)
  · simp only [World.frozen?_setCell]; exact h5
  · simp only [World.frozen?_setCell]; exact h6
  · simp only [World.frozen?_setCell]; exact h7
theorem My.far {α : Type} {f : α → Value} {d : α} {base : Nat} {w : World} {v : Value} {l : List α} (h : My f d base w v l) (p : Addr) (hp : p.block < base ∨ w.heap.size ≤ p.block) (x : Value) : My f d base (w.setCell p x) v l := by
  obtain ⟨g, cap, h1, h2, h3, h4, h5⟩ := h
  have hn : p.block ≠ g := by omega
  exact ⟨g, cap, h1, h2, by simpa using h3, h4, fun i hi => ⟨by rw [World.cell?_setCell_far _ _ _ _ hn]; exact (h5 i hi).1, by rw [World.frozen?_setCell]; exact (h5 i hi).2⟩⟩
theorem My.farNe {α : Type} {f : α → Value} {d : α} {base : Nat} {w : World} {v : Value} {l : List α} (h : My f d base w v l) (p : Addr) (hp : ∀ g n cap, v = .slice (some ⟨g, 0, none⟩) n cap → g ≠ p.block) (x : Value) : My f d base (w.setCell p x) v l := by
  obtain ⟨g, cap, h1, h2, h3, h4, h5⟩ := h
  have hn : p.block ≠ g := (hp _ _ _ h1).symm
  exact ⟨g, cap, h1, h2, by simpa using h3, h4, fun i hi => ⟨by rw [World.cell?_setCell_far _ _ _ _ hn]; exact (h5 i hi).1, by rw [World.frozen?_setCell]; exact (h5 i hi).2⟩⟩
theorem Rec3.third {w : World} {N : Nat} {a b c : Value} (h : Rec3 w N a b c) (x : Value) : Rec3 (w.setCell ⟨N, 2, none⟩ x) N a b x := by
  obtain ⟨h1, ⟨h2, h3, h4⟩, h5, h6, h7⟩ := h
  exact ⟨by simpa using h1, ⟨by rw [World.cell?_setCell_other _ _ _ _ (by simp)]; exact h2, by rw [World.cell?_setCell_other _ _ _ _ (by simp)]; exact h3, World.cell?_setCell_same _ _ _ h4⟩, by rw [World.frozen?_setCell]; exact h5, by rw [World.frozen?_setCell]; exact h6, by rw [World.frozen?_setCell]; exact h7⟩
theorem OwnW.far {base : Nat} {w : World} {v : Value} {l : List W} (h : OwnW base w v l) (p : Addr) (hp : p.block < base) (x : Value) : OwnW base (w.setCell p x) v l := by
  obtain ⟨h1, h2⟩ := h
  refine ⟨h1, h2.imp id ?_⟩
  rintro ⟨g, cap, cur, e1, e2, e3, e4⟩
  exact ⟨g, cap, cur, e1, e2, by rw [Below.heap_setCell _ _ _ _ (by omega)]; exact e3, e4⟩
theorem MyW.drew {base : Nat} {w : World} {v : Value} {l : List W} (h : MyW base w v l) : MyW base w.drew v l := h
theorem OwnW.drew {base : Nat} {w : World} {v : Value} {l : List W} (h : OwnW base w v l) : OwnW base w.drew v l := h
theorem MyW.six {base : Nat} {w : World} {v : Value} {l : List W} (h : MyW base w v l) {N M : Nat} (hn : N < base) (hm : M < base) (a b c x y z : Value) :
    MyW base ((((((w.setCell ⟨N, 0, none⟩ a).setCell ⟨N, 1, none⟩ b).setCell ⟨N, 2, none⟩ c).setCell ⟨M, 0, none⟩ x).setCell ⟨M, 1, none⟩ y).setCell ⟨M, 2, none⟩ z).drew v l :=
  MyW.drew (My.far (My.far (My.far (My.far (My.far (My.far h ⟨N, 0, none⟩ (.inl hn) a) ⟨N, 1, none⟩ (.inl hn) b) ⟨N, 2, none⟩ (.inl hn) c) ⟨M, 0, none⟩ (.inl hm) x) ⟨M, 1, none⟩ (.inl hm) y) ⟨M, 2, none⟩ (.inl hm) z)
theorem OwnW.six {base : Nat} {w : World} {v : Value} {l : List W} (h : OwnW base w v l) {N M : Nat} (hn : N < base) (hm : M < base) (a b c x y z : Value) :
    OwnW base ((((((w.setCell ⟨N, 0, none⟩ a).setCell ⟨N, 1, none⟩ b).setCell ⟨N, 2, none⟩ c).setCell ⟨M, 0, none⟩ x).setCell ⟨M, 1, none⟩ y).setCell ⟨M, 2, none⟩ z).drew v l :=
  OwnW.drew (OwnW.far (OwnW.far (OwnW.far (OwnW.far (OwnW.far (OwnW.far h ⟨N, 0, none⟩ hn a) ⟨N, 1, none⟩ hn b) ⟨N, 2, none⟩ hn c) ⟨M, 0, none⟩ hm x) ⟨M, 1, none⟩ hm y) ⟨M, 2, none⟩ hm z)
theorem below_six {base : Nat} {u w : World} (h : Below base u w) {N M : Nat} (hn : base ≤ N) (hm : base ≤ M) (a b c x y z : Value) :
    Below base u ((((((w.setCell ⟨N, 0, none⟩ a).setCell ⟨N, 1, none⟩ b).setCell ⟨N, 2, none⟩ c).setCell ⟨M, 0, none⟩ x).setCell ⟨M, 1, none⟩ y).setCell ⟨M, 2, none⟩ z).drew :=
  ((((((h.setCell (p := ⟨N, 0, none⟩) hn a).setCell (p := ⟨N, 1, none⟩) hn b).setCell (p := ⟨N, 2, none⟩) hn c).setCell (p := ⟨M, 0, none⟩) hm x).setCell (p := ⟨M, 1, none⟩) hm y).setCell (p := ⟨M, 2, none⟩) hm z).drew
end Go.Proofs.YtgkckomccabmlaaGreatDoor
namespace Go.Proofs.YtgkckomccabmlaaGreatDoor
open Go.ChangeShapes Go.WideShapes Go.ChangeAt Go.RowKit
section
variable {P : Program} {ops : Array Oper} {l : List Oper} {Q : Exit → Act → World → Prop}
theorem wpAnyH_imp {md : Region.Mode} {S T : World → Prop} (h : ∀ w, T w → S w) : ∀ (fuel : Nat) (listed : Array Bool) (a : Act) (w : World), wpAnyH P md ops Q T fuel listed a w → wpAnyH P md ops Q S fuel listed a w
  | 0, _, _, _, H => H
  | fuel + 1, _, _, _, H => ⟨H.1, fun i hi => wpOp_mono (fun a' w' g => ⟨h _ g.1, wpAnyH_imp h fuel _ a' w' g.2⟩) (H.2 i hi)⟩
/-- the order of a walk: true marks what only reads -/
def seqOk (ops : Array Oper) : Array Bool → List (Nat × Bool) → Bool
  | listed, [] => Region.ready .any ops listed == []
  | listed, (i, true) :: is => Region.free .any ops listed i && (Region.ready .any ops listed).contains i && seqOk ops (listed.setIfInBounds i true) is
  | listed, (i, false) :: is => Region.ready .any ops listed == [i] && seqOk ops (listed.setIfInBounds i true) is
/-- the walk in that order -/
def wpSeq (P : Program) (l : List Oper) (Q : Exit → Act → World → Prop) : List (Nat × Bool) → Act → World → Prop
  | [], a, w => Q .normal a w
  | (i, true) :: is, a, w => ∃ o v, l[i]? = some o ∧ YieldsIf P l.toArray (Below w.heap.size w) o v a ∧ wpSeq P l Q is (a.put o.dst v) w
  | (i, false) :: is, a, w => wpOp P l.toArray Q i (fun a' w' => Below w.heap.size w w' ∧ wpSeq P l Q is a' w') a w
theorem wpSeq_sound (hs : Region.noSelect l.toArray = true) (hQ : ∀ c a d v w, Q (.panic c) (Act.put a d v) w → Q (.panic c) a w) :
    ∀ (is : List (Nat × Bool)) (listed : Array Bool) (a : Act) (w : World), seqOk l.toArray listed is = true → wpSeq P l Q is a w → wpAnyH P .any l.toArray Q (Below w.heap.size w) is.length listed a w
  | [], listed, a, w, hk, h => wpAnyH_done (by simpa [seqOk] using hk) h 0
  | (i, true) :: is, listed, a, w, hk, h => by
    simp only [seqOk, Bool.and_eq_true] at hk
    obtain ⟨o, v, ho, hy, h⟩ := h
    exact wpAnyH_take (by simpa using ho) hs hk.1.1 hk.1.2 (fun c a w => hQ c a _ _ w) hy (Below.refl _ _) (wpSeq_sound hs hQ is _ _ _ hk.2 h)
  | (i, false) :: is, listed, a, w, hk, h => by
    simp only [seqOk, Bool.and_eq_true, beq_iff_eq] at hk
    refine wpAnyH_all hk.1 (by simp) fun j hj => ?_
    obtain rfl := List.mem_singleton.1 hj
    exact wpOp_mono (fun a' w' g => ⟨g.1, wpAnyH_imp (fun wy hy => g.1.trans (hy.mono g.1.size)) _ _ _ _ (wpSeq_sound hs hQ is _ _ _ hk.2 g.2)⟩) h
/-- the beginning -/
theorem wp_region_seq {id : Nat} {a : Act} {w : World} (is : List (Nat × Bool)) (hm : P.follows .mixedOrders = true) (hs : Region.noSelect l.toArray = true)
    (hl : is.length = l.toArray.size) (hk : seqOk l.toArray (Array.replicate l.toArray.size false) is = true) (h : wpSeq P l (NoPanic Q) is a w.drew) : (Code.region id l.toArray true).wp P Q a w := by
  have := wpSeq_sound hs (fun _ _ _ _ _ h => h) is _ a w.drew hk h
  rw [hl] at this
  exact wp_region_noPanic (wp_region_held hm this)
theorem wpSeq_pure {i : Nat} {is : List (Nat × Bool)} {a : Act} {w : World} {o : Oper} {v : Value} (ho : l[i]? = some o) (hw : Region.wanted o (yielded l.toArray a.tmps) = true)
    (hy : ∀ w', Below w.heap.size w w' → (execOp a.eval o).run P w' = .ok (.value v) w') (h : wpSeq P l Q is (a.put o.dst v) w) : wpSeq P l Q ((i, true) :: is) a w := ⟨o, v, ho, .inl ⟨hw, hy⟩, h⟩
theorem wpSeq_skip {i : Nat} {is : List (Nat × Bool)} {a : Act} {w : World} {o : Oper} (ho : l[i]? = some o) (hw : Region.wanted o (yielded l.toArray a.tmps) = false)
    (h : wpSeq P l Q is (a.put o.dst undef) w) : wpSeq P l Q ((i, true) :: is) a w := ⟨o, undef, ho, .inr ⟨hw, rfl⟩, h⟩
theorem wpSeq_call {i : Nat} {is : List (Nat × Bool)} {a : Act} {w : World} {o : Oper} (ho : l[i]? = some o)
    (h : ∀ K' : Act → World → Prop, Shut (∀ a w', Below w.heap.size w w' → wpSeq P l Q is a w' → K' a w') → if Region.wanted o (yielded l.toArray a.tmps) = true then Oper.wp P o a w K' Q else K' (a.put o.dst undef) w) :
    wpSeq P l Q ((i, false) :: is) a w :=
  wpOp_step (by simpa using ho) (fun K' hK => h K' (fun a w' hb hW => hK a w' ⟨hb, hW⟩))
theorem wpSeq_nil {a : Act} {w : World} (h : Q .normal a w) : wpSeq P l (NoPanic Q) [] a w := h
end
/-- an order: what only reads comes first, by its number -/
def isRead (o : Oper) : Bool := match o.op with
  | .call c => (match c.callee with | .builtin .len => true | _ => false)
  | .store .. | .alloc .. | .makeSlice .. | .buildSlice .. | .box .. => false
  | _ => true
def autoSeq (ops : Array Oper) : Nat → Array Bool → List (Nat × Bool)
  | 0, _ => []
  | n + 1, listed =>
    let r := Region.ready .any ops listed
    match r.find? fun i => (ops[i]?.map isRead).getD false with
    | some i => (i, true) :: autoSeq ops n (listed.setIfInBounds i true)
    | none => match r with
      | [] => []
      | i :: _ => (i, false) :: autoSeq ops n (listed.setIfInBounds i true)
end Go.Proofs.YtgkckomccabmlaaGreatDoor
namespace Go.Proofs.YtgkckomccabmlaaGreatDoor
open Go.ChangeShapes Go.WideShapes Go.ChangeAt Go.RowKit
/-- a relation between worlds that holds on the way through a region -/
structure Way (R : World → World → Prop) : Prop where
  refl : ∀ w, R w w
  trans : ∀ {a b c}, R a b → R b c → R a c
section
variable {P : Program} {ops : Array Oper} {l : List Oper} {Q : Exit → Act → World → Prop} {R : World → World → Prop}
/-- the walk in that order -/
def wpSeqR (R : World → World → Prop) (P : Program) (l : List Oper) (Q : Exit → Act → World → Prop) : List (Nat × Bool) → Act → World → Prop
  | [], a, w => Q .normal a w
  | (i, true) :: is, a, w => ∃ o v, l[i]? = some o ∧ YieldsIf P l.toArray (R w) o v a ∧ wpSeqR R P l Q is (a.put o.dst v) w
  | (i, false) :: is, a, w => wpOp P l.toArray Q i (fun a' w' => R w w' ∧ wpSeqR R P l Q is a' w') a w
theorem wpSeqR_sound (hR : Way R) (hs : Region.noSelect l.toArray = true) (hQ : ∀ c a d v w, Q (.panic c) (Act.put a d v) w → Q (.panic c) a w) :
    ∀ (is : List (Nat × Bool)) (listed : Array Bool) (a : Act) (w : World), seqOk l.toArray listed is = true → wpSeqR R P l Q is a w → wpAnyH P .any l.toArray Q (R w) is.length listed a w
  | [], listed, a, w, hk, h => wpAnyH_done (by simpa [seqOk] using hk) h 0
  | (i, true) :: is, listed, a, w, hk, h => by
    simp only [seqOk, Bool.and_eq_true] at hk
    obtain ⟨o, v, ho, hy, h⟩ := h
    exact wpAnyH_take (by simpa using ho) hs hk.1.1 hk.1.2 (fun c a w => hQ c a _ _ w) hy (hR.refl _) (wpSeqR_sound hR hs hQ is _ _ _ hk.2 h)
  | (i, false) :: is, listed, a, w, hk, h => by
    simp only [seqOk, Bool.and_eq_true, beq_iff_eq] at hk
    refine wpAnyH_all hk.1 (by simp) fun j hj => ?_
    obtain rfl := List.mem_singleton.1 hj
    exact wpOp_mono (fun a' w' g => ⟨g.1, wpAnyH_imp (fun wy hy => hR.trans g.1 hy) _ _ _ _ (wpSeqR_sound hR hs hQ is _ _ _ hk.2 g.2)⟩) h
/-- the beginning -/
theorem wp_region_seqR {id : Nat} {a : Act} {w : World} (hR : Way R) (is : List (Nat × Bool)) (hm : P.follows .mixedOrders = true) (hs : Region.noSelect l.toArray = true)
    (hl : is.length = l.toArray.size) (hk : seqOk l.toArray (Array.replicate l.toArray.size false) is = true) (h : wpSeqR R P l (NoPanic Q) is a w.drew) : (Code.region id l.toArray true).wp P Q a w := by
  have := wpSeqR_sound hR hs (fun _ _ _ _ _ h => h) is _ a w.drew hk h
  rw [hl] at this
  exact wp_region_noPanic (wp_region_held hm this)
theorem wpSeqR_pure {i : Nat} {is : List (Nat × Bool)} {a : Act} {w : World} {o : Oper} {v : Value} (ho : l[i]? = some o) (hw : Region.wanted o (yielded l.toArray a.tmps) = true)
    (hy : ∀ w', R w w' → (execOp a.eval o).run P w' = .ok (.value v) w') (h : wpSeqR R P l Q is (a.put o.dst v) w) : wpSeqR R P l Q ((i, true) :: is) a w := ⟨o, v, ho, .inl ⟨hw, hy⟩, h⟩
theorem wpSeqR_skip {i : Nat} {is : List (Nat × Bool)} {a : Act} {w : World} {o : Oper} (ho : l[i]? = some o) (hw : Region.wanted o (yielded l.toArray a.tmps) = false)
    (h : wpSeqR R P l Q is (a.put o.dst undef) w) : wpSeqR R P l Q ((i, true) :: is) a w := ⟨o, undef, ho, .inr ⟨hw, rfl⟩, h⟩
theorem wpSeqR_call {i : Nat} {is : List (Nat × Bool)} {a : Act} {w : World} {o : Oper} (ho : l[i]? = some o)
    (h : ∀ K' : Act → World → Prop, Shut (∀ a w', R w w' → wpSeqR R P l Q is a w' → K' a w') → if Region.wanted o (yielded l.toArray a.tmps) = true then Oper.wp P o a w K' Q else K' (a.put o.dst undef) w) :
    wpSeqR R P l Q ((i, false) :: is) a w :=
  wpOp_step (by simpa using ho) (fun K' hK => h K' (fun a w' hb hW => hK a w' ⟨hb, hW⟩))
theorem wpSeqR_nil {a : Act} {w : World} (h : Q .normal a w) : wpSeqR R P l (NoPanic Q) [] a w := h
end
end Go.Proofs.YtgkckomccabmlaaGreatDoor
namespace Go.Proofs.YtgkckomccabmlaaGreatDoor
open Go.ChangeShapes Go.WideShapes Go.ChangeAt Go.RowKit
/-- a tree of orders: 'read' only reads, 'call' is the only one that may come up, of 'two' either may -/
inductive Steps where
  | done : Steps
  | read (i : Nat) (t : Steps) : Steps
  | call (i : Nat) (t : Steps) : Steps
  | two (i : Nat) (t : Steps) (j : Nat) (u : Steps) : Steps
def Steps.size : Steps → Nat
  | .done => 0
  | .read _ t => t.size + 1
  | .call _ t => t.size + 1
  | .two _ t _ _ => t.size + 1
def Steps.ok (ops : Array Oper) : Array Bool → Steps → Bool
  | listed, .done => Region.ready .any ops listed == []
  | listed, .read i t => Region.free .any ops listed i && (Region.ready .any ops listed).contains i && t.ok ops (listed.setIfInBounds i true)
  | listed, .call i t => Region.ready .any ops listed == [i] && t.ok ops (listed.setIfInBounds i true)
  | listed, .two i t j u => Region.ready .any ops listed == [i, j] && (t.size == u.size && (t.ok ops (listed.setIfInBounds i true) && u.ok ops (listed.setIfInBounds j true)))
section
variable {P : Program} {ops : Array Oper} {l : List Oper} {Q : Exit → Act → World → Prop} {R : World → World → Prop}
/-- the walk along the tree -/
def wpTree (R : World → World → Prop) (P : Program) (l : List Oper) (Q : Exit → Act → World → Prop) : Steps → Act → World → Prop
  | .done, a, w => Q .normal a w
  | .read i t, a, w => ∃ o v, l[i]? = some o ∧ YieldsIf P l.toArray (R w) o v a ∧ wpTree R P l Q t (a.put o.dst v) w
  | .call i t, a, w => wpOp P l.toArray Q i (fun a' w' => R w w' ∧ wpTree R P l Q t a' w') a w
  | .two i t j u, a, w => wpOp P l.toArray Q i (fun a' w' => R w w' ∧ wpTree R P l Q t a' w') a w ∧ wpOp P l.toArray Q j (fun a' w' => R w w' ∧ wpTree R P l Q u a' w') a w
theorem wpTree_sound (hR : Way R) (hs : Region.noSelect l.toArray = true) (hQ : ∀ c a d v w, Q (.panic c) (Act.put a d v) w → Q (.panic c) a w) :
    ∀ (t : Steps) (listed : Array Bool) (a : Act) (w : World), t.ok l.toArray listed = true → wpTree R P l Q t a w → wpAnyH P .any l.toArray Q (R w) t.size listed a w
  | .done, listed, a, w, hk, h => wpAnyH_done (by simpa [Steps.ok] using hk) h 0
  | .read i t, listed, a, w, hk, h => by
    simp only [Steps.ok, Bool.and_eq_true] at hk
    obtain ⟨o, v, ho, hy, h⟩ := h
    exact wpAnyH_take (by simpa using ho) hs hk.1.1 hk.1.2 (fun c a w => hQ c a _ _ w) hy (hR.refl _) (wpTree_sound hR hs hQ t _ _ _ hk.2 h)
  | .call i t, listed, a, w, hk, h => by
    simp only [Steps.ok, Bool.and_eq_true, beq_iff_eq] at hk
    refine wpAnyH_all hk.1 (by simp) fun j hj => ?_
    obtain rfl := List.mem_singleton.1 hj
    exact wpOp_mono (fun a' w' g => ⟨g.1, wpAnyH_imp (fun wy hy => hR.trans g.1 hy) _ _ _ _ (wpTree_sound hR hs hQ t _ _ _ hk.2 g.2)⟩) h
  | .two i t j u, listed, a, w, hk, h => by
    simp only [Steps.ok, Bool.and_eq_true, beq_iff_eq] at hk
    refine wpAnyH_all hk.1 (by simp) fun k hk2 => ?_
    have hk3 : k = i ∨ k = j := by simpa using hk2
    rcases hk3 with rfl | rfl
    · exact wpOp_mono (fun a' w' g => ⟨g.1, wpAnyH_imp (fun wy hy => hR.trans g.1 hy) _ _ _ _ (wpTree_sound hR hs hQ t _ _ _ hk.2.2.1 g.2)⟩) h.1
    · refine wpOp_mono (fun a' w' g => ⟨g.1, wpAnyH_imp (fun wy hy => hR.trans g.1 hy) _ _ _ _ ?_⟩) h.2
      have := wpTree_sound hR hs hQ u _ _ _ hk.2.2.2 g.2
      rw [← hk.2.1] at this
      exact this
/-- the beginning -/
theorem wp_region_tree {id : Nat} {a : Act} {w : World} (hR : Way R) (t : Steps) (hm : P.follows .mixedOrders = true) (hs : Region.noSelect l.toArray = true)
    (hl : t.size = l.toArray.size) (hk : t.ok l.toArray (Array.replicate l.toArray.size false) = true) (h : wpTree R P l (NoPanic Q) t a w.drew) : (Code.region id l.toArray true).wp P Q a w := by
  have := wpTree_sound hR hs (fun _ _ _ _ _ h => h) t _ a w.drew hk h
  rw [hl] at this
  exact wp_region_noPanic (wp_region_held hm this)
theorem wpTree_read {i : Nat} {t : Steps} {a : Act} {w : World} {o : Oper} {v : Value} (ho : l[i]? = some o) (hw : Region.wanted o (yielded l.toArray a.tmps) = true)
    (hy : ∀ w', R w w' → (execOp a.eval o).run P w' = .ok (.value v) w') (h : wpTree R P l Q t (a.put o.dst v) w) : wpTree R P l Q (.read i t) a w := ⟨o, v, ho, .inl ⟨hw, hy⟩, h⟩
theorem wpTree_skip {i : Nat} {t : Steps} {a : Act} {w : World} {o : Oper} (ho : l[i]? = some o) (hw : Region.wanted o (yielded l.toArray a.tmps) = false)
    (h : wpTree R P l Q t (a.put o.dst undef) w) : wpTree R P l Q (.read i t) a w := ⟨o, undef, ho, .inr ⟨hw, rfl⟩, h⟩
theorem wpTree_call {i : Nat} {t : Steps} {a : Act} {w : World} {o : Oper} (ho : l[i]? = some o)
    (h : ∀ K' : Act → World → Prop, Shut (∀ a w', R w w' → wpTree R P l Q t a w' → K' a w') → if Region.wanted o (yielded l.toArray a.tmps) = true then Oper.wp P o a w K' Q else K' (a.put o.dst undef) w) :
    wpTree R P l Q (.call i t) a w :=
  wpOp_step (by simpa using ho) (fun K' hK => h K' (fun a w' hb hW => hK a w' ⟨hb, hW⟩))
theorem wpTree_two {i j : Nat} {t u : Steps} {a : Act} {w : World} (h1 : wpTree R P l Q (.call i t) a w) (h2 : wpTree R P l Q (.call j u) a w) : wpTree R P l Q (.two i t j u) a w := ⟨h1, h2⟩
theorem wpTree_nil {a : Act} {w : World} (h : Q .normal a w) : wpTree R P l (NoPanic Q) .done a w := h
end
end Go.Proofs.YtgkckomccabmlaaGreatDoor
namespace Go.Proofs.YtgkckomccabmlaaGreatDoor
open Go.ChangeShapes Go.WideShapes Go.ChangeAt Go.RowKit
open Dg (W B)

theorem laidOut : laidOutB Tryz.prog = true := by kernel_rfl
def bval (x : B) : Value := .int .u8 (bv x)
section
variable {H : Type} {enc : TypeId × Value → H} {P : Program} {w : World}
theorem ints_at {t e : TypeId} {k : IntKind} {a : Option Addr} {len cap : Nat} {d : DataW H} {p : List MemPlace} (ht : P.underlying t = some (.slice e)) (he : P.underlying e = some (.int k)) (hc : P.cellsOf e = 1)
    (h : DataW.Trod enc P w 0 (fun _ => true) true t (.slice a len cap) d p) :
    len ≤ cap ∧ cap ≤ maxLen ∧ (len = 0 ∨ ∃ b off, ∃ zs : List Int, a = some ⟨b, off, none⟩ ∧ zs.length = len ∧ b < w.heap.size ∧ (∀ i, i < len → w.cell? ⟨b, off + i, none⟩ = some (.int k (zs.getD i 0))) ∧ ∀ n ∈ zs, (Lit.int k n).wf = true) := by
  obtain ⟨fuel, hf⟩ := h
  rcases open_ints ht he hc hf with ⟨hcs, _⟩ | ⟨x, l, c, zs, hcs, _, hl, hm, hz, _, hcell, hwz⟩
  · simp [Value.cells] at hcs
    obtain ⟨rfl, rfl, rfl⟩ := hcs
    exact ⟨Nat.le_refl _, Nat.zero_le _, .inl rfl⟩
  · simp [Value.cells] at hcs
    obtain ⟨rfl, rfl, rfl⟩ := hcs
    refine ⟨hl, hm, ?_⟩
    by_cases h0 : len = 0
    · exact .inl h0
    · right
      have hz' : zs.length = cap := by simpa using hz
      obtain ⟨b, off, spot⟩ := x
      have hc0 := hcell 0 (by omega)
      have hspot : spot = none := by simpa [Addr.add] using World.cell?_spot hc0
      subst hspot
      refine ⟨b, off, zs.take len, rfl, by simp; omega, World.block_lt_of_cell? w _ hc0, fun i hi => ?_, fun n hn => hwz n (List.mem_of_mem_take hn)⟩
      rw [← add_plain, hcell i (by omega)]
      simp [List.getD, hi]
theorem words_of {α : Type} (f : α → Int) {k : IntKind} (hf : ∀ n, (Lit.int k n).wf = true → ∃ x, n = f x) : ∀ {zs : List Int}, (∀ n ∈ zs, (Lit.int k n).wf = true) → ∃ l : List α, zs = l.map f
  | [], _ => ⟨[], rfl⟩
  | z :: zs, h => by
    obtain ⟨x, hx⟩ := hf z (h z (by simp))
    obtain ⟨l, hl⟩ := words_of f hf (zs := zs) fun n hn => h n (by simp [hn])
    exact ⟨x :: l, by rw [hx, hl]; rfl⟩
theorem uv_of_wf (n : Int) (h : (Lit.int .u64 n).wf = true) : ∃ x : W, n = uv x :=
  uv_of n (bounds_u64 h).1 (by have := (bounds_u64 h).2; omega)
theorem open_bytes {t e : TypeId} {a : Option Addr} {len cap : Nat} {d : DataW H} {p : List MemPlace} (ht : P.underlying t = some (.slice e)) (he : P.underlying e = some (.int .u8)) (hc : P.cellsOf e = 1)
    (h : DataW.Trod enc P w 0 (fun _ => true) true t (.slice a len cap) d p) : ∃ l : List B, l.length = len ∧ len ≤ maxLen ∧ HasB w w.heap.size (.slice a len cap) l := by
  obtain ⟨h1, h2, h3⟩ := ints_at ht he hc h
  rcases h3 with rfl | ⟨b, off, zs, rfl, rfl, h4, h5, h6⟩
  · exact ⟨[], rfl, Nat.zero_le _, .inl ⟨a, cap, rfl, rfl⟩⟩
  · obtain ⟨l, rfl⟩ := words_of bv bv_of h6
    refine ⟨l, by simp, by omega, .inr ⟨b, off, cap, by simp, by simpa using h1, h4, fun i hi => ?_⟩⟩
    rw [h5 i (by simpa using hi)]
    simp [List.getD, hi]
theorem open_words {t e : TypeId} {a : Option Addr} {len cap : Nat} {d : DataW H} {p : List MemPlace} (ht : P.underlying t = some (.slice e)) (he : P.underlying e = some (.int .u64)) (hc : P.cellsOf e = 1)
    (h : DataW.Trod enc P w 0 (fun _ => true) true t (.slice a len cap) d p) : ∃ l : List W, l.length = len ∧ len ≤ maxLen ∧ HasW w w.heap.size (.slice a len cap) l := by
  obtain ⟨h1, h2, h3⟩ := ints_at ht he hc h
  rcases h3 with rfl | ⟨b, off, zs, rfl, rfl, h4, h5, h6⟩
  · exact ⟨[], rfl, Nat.zero_le _, .inl ⟨a, cap, rfl, rfl⟩⟩
  · obtain ⟨l, rfl⟩ := words_of uv uv_of_wf h6
    refine ⟨l, by simp, by omega, .inr ⟨b, off, cap, by simp, by simpa using h1, h4, fun i hi => ?_⟩⟩
    rw [h5 i (by simpa using hi)]
    simp [List.getD, hi]
theorem vals_of : ∀ {cs : List Value}, (∀ c ∈ cs, ∃ x : B, c = bval x) → ∃ l : List B, cs = l.map bval
  | [], _ => ⟨[], rfl⟩
  | c :: cs, h => by
    obtain ⟨x, hx⟩ := h c (by simp)
    obtain ⟨l, hl⟩ := vals_of (cs := cs) fun n hn => h n (by simp [hn])
    exact ⟨x :: l, by rw [hx, hl]; rfl⟩
theorem open_array {t e : TypeId} {n : Nat} {base : Nat} {v : Value} {d : DataW H} {p : List MemPlace} (ht : P.underlying t = some (.array n e)) (he : P.underlying e = some (.int .u8)) (hc : P.cellsOf e = 1) (hct : P.cellsOf t = n)
    (hv : Value.okWide P w .any base t v) (h : DataW.Trod enc P w 0 (fun _ => true) true t v d p) : ∃ u : List B, u.length = n ∧ v = .agg (u.map bval).toArray := by
  simp only [Value.okWide, ht] at hv
  obtain ⟨cs, rfl, h2, _⟩ := hv
  obtain ⟨fuel, hf⟩ := h
  obtain ⟨xs, m, rfl, _, hl, hx, hel⟩ := DataW.trod_array ht hf
  rw [hc] at hel
  have hsz : cs.size = n := by rw [h2, hct]
  obtain ⟨u, hu⟩ := vals_of (cs := cs.toList) (by
    intro c hc'
    obtain ⟨i, hi, rfl⟩ := List.mem_iff_getElem.1 hc'
    have hi' : i < n := by simpa [hsz] using hi
    have he2 := hel i hi'
    rw [List.getElem?_eq_getElem (by omega)] at he2
    obtain ⟨z, e1, _, e3⟩ := DataW.trod_int he he2
    obtain ⟨x, hx⟩ := bv_of z e3
    refine ⟨x, ?_⟩
    have e4 := congrArg (·[0]?) e1
    simp [Value.cells, hi', hsz] at e4
    simpa [bval, hx] using e4)
  refine ⟨u, ?_, ?_⟩
  · have := congrArg List.length hu
    simpa [hsz] using this.symm
  · rw [← hu]
end
end Go.Proofs.YtgkckomccabmlaaGreatDoor
namespace Go.Proofs.YtgkckomccabmlaaGreatDoor
open Go.ChangeShapes Go.WideShapes Go.ChangeAt Go.RowKit
open Dg (W B)
theorem infoU8 : (Tryz.prog.info? 5).map (fun i => (i.zero, i.size, i.bytes)) = some (some (.int .u8 0), 1, 1) := by kernel_rfl
/-- the value v is a slice of the call's own, its numbers are l -/
def OwnB (base : Nat) (w : World) (v : Value) (l : List B) : Prop := w.ownsRow base 5 1 v l.length (l.map bval)
theorem HasB.at {w : World} {N : Nat} {a : Option Addr} {n cap : Nat} {l : List B} (h : HasB w N (.slice a n cap) l) (k : Nat) (hk : k < n) : ∃ b off, a = some ⟨b, off, none⟩ ∧ w.cell? ⟨b, off + k, none⟩ = some (.int .u8 (bv (l.getD k 0))) := by
  rcases h with ⟨a, c, e, rfl⟩ | ⟨b, off, c, e, _, _, h4⟩
  · simp only [Value.slice.injEq] at e; omega
  · simp only [Value.slice.injEq] at e
    exact ⟨b, off, e.1, h4 k (by omega)⟩
theorem OwnB.has {base : Nat} {w : World} {v : Value} {l : List B} (h : OwnB base w v l) : HasB w w.heap.size v l := by
  rcases h.2 with ⟨rfl, h0⟩ | ⟨g, cap, cur, rfl, h1, h2, h3, h4, h5, h6⟩
  · exact .inl ⟨none, 0, rfl, List.length_eq_zero_iff.1 h0⟩
  · refine .inr ⟨g, 0, cap, rfl, h3, (Array.getElem?_eq_some_iff.1 h2).1, fun i hi => ?_⟩
    rw [Nat.zero_add, cell_of_row w g i _ _ _ h2]
    have e := congrArg (fun L : List Value => L[i]?) h6
    simp only [Nat.mul_one, List.getElem?_take, if_pos hi, List.getElem?_map] at e
    rw [← Array.getElem?_toList, e]
    simp [hi, bval]
theorem OwnB.below {base : Nat} {w w' : World} {v : Value} {l : List B} (h : OwnB base w v l) (hb : Below w.heap.size w w') : OwnB base w' v l := by
  obtain ⟨h1, h2⟩ := h
  refine ⟨h1, ?_⟩
  rcases h2 with h2 | ⟨g, cap, cur, hv, hg, hh, r⟩
  · exact .inl h2
  · exact .inr ⟨g, cap, cur, hv, hg, by rw [hb.block g (Array.getElem?_eq_some_iff.1 hh).1]; exact hh, r⟩
/-- a slice of numbers that is built -/
theorem built_bytes (w : World) (l : List B) (t : TypeId) (cs : Array Value) (hc : cs = (l.map bval).toArray) : HasB (w.alloc (.cells cs t)) (w.heap.size + 1) (.slice (some ⟨w.heap.size, 0, none⟩) l.length l.length) l := by
  subst hc
  refine .inr ⟨w.heap.size, 0, l.length, rfl, Nat.le_refl _, by omega, fun i hi => ?_⟩
  rw [Nat.zero_add, World.cell?_alloc_new]
  simp [hi, bval]
theorem HasB.wide {w : World} {N M : Nat} {v : Value} {l : List B} (h : HasB w N v l) (hm : N ≤ M) : HasB w M v l := by
  rcases h with ⟨a, cap, rfl, rfl⟩ | ⟨b, off, cap, rfl, h2, h3, h4⟩
  · exact .inl ⟨a, cap, rfl, rfl⟩
  · exact .inr ⟨b, off, cap, rfl, h2, Nat.lt_of_lt_of_le h3 hm, h4⟩
theorem OwnB.mono {base base' : Nat} {w : World} {v : Value} {l : List B} (h : OwnB base w v l) (hb : base' ≤ base) : OwnB base' w v l := World.ownsRow.mono h hb
theorem OwnB.alloc {base : Nat} {w : World} {v : Value} {l : List B} (h : OwnB base w v l) (o : Obj) : OwnB base (w.alloc o) v l := World.ownsRow.alloc h o
theorem OwnB.drewN {base : Nat} {w : World} {v : Value} {l : List B} (h : OwnB base w v l) (n : Nat) : OwnB base (w.drewN n) v l := h
theorem OwnB.nil (w : World) (base : Nat) : OwnB base w (.slice none 0 0) [] := World.ownsRow_nil _ _ _ _
theorem OwnB.form {base : Nat} {w : World} {v : Value} {l : List B} (h : OwnB base w v l) : ∃ a cap, v = .slice a l.length cap := h.has.form
/-- an append of some bytes (there may be none) to an owned slice -/
theorem run_append_bytes (w : World) (ty : TypeId) (base : Nat) (v x : Value) (l ys : List B) (own : OwnB base w v l) (N : Nat) (hx : HasB w N x ys) (hl : l.length + ys.length ≤ 1000000000) (hbase : base ≤ w.heap.size) :
    ∃ a cap w', (Builtin.append_ #[24, 24] ty #[v, x]).run Tryz.prog w = .ok (.slice a (l.length + ys.length) cap) w' ∧ OwnB base w' (.slice a (l.length + ys.length) cap) (l ++ ys) ∧ w.grownBy w' v.ownBlock := by
  obtain ⟨i0, hi, hz0, hz1, hz2⟩ := info_parts infoU8
  have key : ∀ (ad : Addr) (m c : Nat), m = ys.length → (∀ j u, (ys.map bval)[j]? = some u → w.cell? (ad.add j) = some u) →
      ∃ a cap w', (Builtin.append_ #[24, 24] ty #[v, .slice (some ad) m c]).run Tryz.prog w = .ok (.slice a (l.length + ys.length) cap) w' ∧ OwnB base w' (.slice a (l.length + ys.length) cap) (l ++ ys) ∧ w.grownBy w' v.ownBlock := by
    intro ad m c hm hc
    subst hm
    obtain ⟨v', w', h1, h2, h3, _⟩ := run_append_own_at (P := Tryz.prog) w base 24 ty 5 i0 _ 1 1 Tryz.underlying24 hi hz0 hz1 hz2 rfl (by omega) v l.length (l.map bval) own ad ys.length c (ys.map bval) (by simp) hc
      (fun u hu => by obtain ⟨z, _, rfl⟩ := List.mem_map.1 hu; rfl) (by unfold maxLen; omega) (by omega) hbase
    have h2' : OwnB base w' v' (l ++ ys) := by unfold OwnB; rw [List.length_append, List.map_append]; exact h2
    obtain ⟨a, cap, rfl⟩ := h2'.form
    rw [List.length_append] at h1 h2'
    exact ⟨a, cap, w', h1, h2', h3⟩
  rcases hx with ⟨a, c, rfl, rfl⟩ | ⟨b, off, c, rfl, h2, h3, h4⟩
  · cases a with
    | some ad => exact key ad 0 c rfl (fun j u hu => by simp at hu)
    | none =>
      obtain ⟨a', cap', rfl⟩ := own.form
      have hcap : l.length ≤ cap' := by
        rcases own.2 with ⟨e, h0⟩ | ⟨g, cap, cur, e, _, _, h5, _⟩
        · simp only [Value.slice.injEq] at e; omega
        · simp only [Value.slice.injEq] at e; omega
      refine ⟨a', cap', w, ?_, by simpa using own, ⟨rfl, rfl, rfl, Nat.le_refl _, fun _ _ _ => rfl⟩⟩
      cases a' with
      | none => simp [Builtin.append_, run_underlying Tryz.underlying24, sizeOf, typeInfo, hi, Builtin.lenOf, Builtin.firstCells, hcap]
      | some ad => simp [Builtin.append_, run_underlying Tryz.underlying24, sizeOf, typeInfo, hi, Builtin.lenOf, Builtin.firstCells, hcap, storeCells]
  · refine key ⟨b, off, none⟩ _ c rfl fun j u hu => ?_
    rw [List.getElem?_map] at hu
    obtain ⟨z, hz, rfl⟩ := Option.map_eq_some_iff.1 hu
    obtain ⟨hj, e⟩ := List.getElem?_eq_some_iff.1 hz
    rw [add_plain', h4 j hj, ← e]
    simp [hj, bval]
/-- the same at an operation that is wanted (guarded or not) -/
theorem wpList_append_bytes {ops : Array Oper} {rest : List Oper} {o : Oper} {a : Act} {Q : Exit → Act → World → Prop} {w : World} (hw : Region.wanted o (yielded ops a.tmps) = true) (s x : Operand)
    (ho : o.op = .call { callee := .builtin .append, args := #[s, x], argTypes := #[24, 24] })
    (base : Nat) (v xv : Value) (l ys : List B) (hs : a.eval s = v) (own : OwnB base w v l) (hx : a.eval x = xv) (N : Nat) (hy : HasB w N xv ys) (hl : l.length + ys.length ≤ 1000000000) (hbase : base ≤ w.heap.size) (n : Nat) (hn : l.length + ys.length = n)
    (h : ∀ b cap w', OwnB base w' (.slice b n cap) (l ++ ys) → w.grownBy w' v.ownBlock → wpList Tryz.prog ops Q rest (a.put o.dst (.slice b n cap)) w') :
    wpList Tryz.prog ops Q (o :: rest) a w := by
  subst hn
  refine wpList_step fun K hK => ?_
  rw [if_pos hw]
  obtain ⟨b, cap, w', h1, h2, h3⟩ := run_append_bytes w o.type base v xv l ys own N hy hl hbase
  unfold Oper.wp execOp
  simp only [ho, resolve, invoke, builtin, Sem.run_bind, Sem.run_pure, Result.andThen_ok, List.map_toArray, List.map_cons, List.map_nil, hs, hx, h1]
  exact hK _ _ (h b cap w' h2 h3)
theorem below_grownB {base : Nat} {w0 w w3 : World} {v : Value} {l : List B} (hb : Below base w0 w) (hs : base ≤ w.heap.size) (own1 : OwnB base w v l) (grow : w.grownBy w3 v.ownBlock) : Below base w0 w3 :=
  hb.grown grow hs (fun k hk => (World.ownsRow.lt own1 k hk).1)
end Go.Proofs.YtgkckomccabmlaaGreatDoor
namespace Go.Proofs.YtgkckomccabmlaaGreatDoor
open Go.ChangeShapes Go.WideShapes Go.ChangeAt Go.RowKit
open Dg (W B)
/-- of what there was, at most the block g has turned -/
structure But (g : Nat) (w w' : World) : Prop where
  os : w'.os = w.os
  tape : w'.tape = w.tape
  output : w'.output = w.output
  size : w.heap.size ≤ w'.heap.size
  block : ∀ k, k < w.heap.size → k ≠ g → w'.heap[k]? = w.heap[k]?
theorem But.refl (g : Nat) (w : World) : But g w w := ⟨rfl, rfl, rfl, Nat.le_refl _, fun _ _ _ => rfl⟩
theorem But.trans {g : Nat} {a b c : World} (h : But g a b) (k : But g b c) : But g a c :=
  ⟨k.os.trans h.os, k.tape.trans h.tape, k.output.trans h.output, Nat.le_trans h.size k.size, fun i hi hg => (k.block i (Nat.lt_of_lt_of_le hi h.size) hg).trans (h.block i hi hg)⟩
theorem butWay (g : Nat) : Way (But g) := ⟨But.refl g, fun h k => h.trans k⟩
theorem But.of {g : Nat} {w w' : World} (h : Below w.heap.size w w') : But g w w' := ⟨h.os, h.tape, h.output, h.size, fun k hk _ => h.block k hk⟩
theorem But.drew {g : Nat} {a w : World} (h : But g a w) : But g a w.drew := ⟨h.os, h.tape, h.output, h.size, h.block⟩
theorem But.drewN {g : Nat} {a w : World} (h : But g a w) (n : Nat) : But g a (w.drewN n) := ⟨h.os, h.tape, h.output, h.size, h.block⟩
theorem But.alloc {g : Nat} {a w : World} (h : But g a w) (o : Obj) : But g a (w.alloc o) := h.trans (But.of ((Below.refl _ _).alloc (Nat.le_refl _) o))
theorem But.setCell {g : Nat} {a w : World} (h : But g a w) (i : Nat) (u : Value) : But g a (w.setCell ⟨g, i, none⟩ u) :=
  h.trans ⟨rfl, rfl, rfl, by simp [World.setCell], fun k _ hk => Below.heap_setCell _ _ _ _ hk⟩
theorem But.below {g : Nat} {w w' : World} (h : But g w w') (hg : w.heap.size ≤ g) : Below w.heap.size w w' := ⟨h.os, h.tape, h.output, h.size, fun k hk => h.block k hk (by omega)⟩
/-- below a block that is not above g nothing has turned -/
theorem But.under {g B : Nat} {w w' : World} (h : But g w w') (hg : B ≤ g) (hB : B ≤ w.heap.size) : Below B w w' := ⟨h.os, h.tape, h.output, h.size, fun k hk => h.block k (by omega) (by omega)⟩
theorem But.cell {g : Nat} {w w' : World} (h : But g w w') {p : Addr} (hp : p.block < w.heap.size) (hg : p.block ≠ g) : w'.cell? p = w.cell? p := World.cell?_of_block (w := w) (h.block p.block hp hg)
theorem But.frozen {g : Nat} {w w' : World} (h : But g w w') {p : Addr} (hp : p.block < w.heap.size) (hg : p.block ≠ g) : w'.frozen? p = w.frozen? p := World.frozen?_of_block (w := w) (h.block p.block hp hg)
theorem But.kept {g : Nat} {w w' : World} (h : But g w w') {p : Addr} {v : Value} (hg : p.block ≠ g) (hv : w.cell? p = some v) : w'.cell? p = some v := (h.cell (World.block_lt_of_cell? _ _ hv) hg).trans hv
/-- the slice does not lie in the block g -/
def Off (g : Nat) (v : Value) : Prop := ∀ b off t n c, v = .slice (some ⟨b, off, t⟩) n c → n = 0 ∨ b ≠ g
theorem Off.none (g n c : Nat) : Off g (.slice none n c) := by intro b off t n' c' e; simp at e
theorem Off.some {g b off n c : Nat} {t : Option Nat} (h : b ≠ g) : Off g (.slice (some ⟨b, off, t⟩) n c) := by
  intro b' off' t' n' c' e
  simp only [Value.slice.injEq, Option.some.injEq, Addr.mk.injEq] at e
  exact .inr (by rw [← e.1.1]; exact h)
theorem HasB.off {w : World} {N g : Nat} {v : Value} {l : List B} (h : HasB w N v l) (hg : N ≤ g) : Off g v := by
  rcases h with ⟨a, c, rfl, rfl⟩ | ⟨b, off, c, rfl, _, h3, _⟩
  · intro b' off' t' n' c' e; simp only [Value.slice.injEq] at e; exact .inl e.2.1.symm
  · exact Off.some (by omega)
theorem HasB.but {g N : Nat} {w w' : World} {v : Value} {l : List B} (h : HasB w N v l) (ho : Off g v) (hb : But g w w') : HasB w' N v l := by
  rcases h with ⟨a, c, rfl, rfl⟩ | ⟨b, off, c, rfl, h2, h3, h4⟩
  · exact .inl ⟨a, c, rfl, rfl⟩
  · refine .inr ⟨b, off, c, rfl, h2, h3, fun i hi => ?_⟩
    have hne : b ≠ g := by
      rcases ho _ _ _ _ _ rfl with h0 | h0
      · omega
      · exact h0
    exact hb.kept (p := ⟨b, off + i, Option.none⟩) hne (h4 i hi)
theorem HasW.off {w : World} {N g : Nat} {v : Value} {l : List W} (h : HasW w N v l) (hg : N ≤ g) : Off g v := by
  rcases h with ⟨a, c, rfl, rfl⟩ | ⟨b, off, c, rfl, _, h3, _⟩
  · intro b' off' t' n' c' e; simp only [Value.slice.injEq] at e; exact .inl e.2.1.symm
  · exact Off.some (by omega)
theorem HasW.but {g N : Nat} {w w' : World} {v : Value} {l : List W} (h : HasW w N v l) (ho : Off g v) (hb : But g w w') : HasW w' N v l := by
  rcases h with ⟨a, c, rfl, rfl⟩ | ⟨b, off, c, rfl, h2, h3, h4⟩
  · exact .inl ⟨a, c, rfl, rfl⟩
  · refine .inr ⟨b, off, c, rfl, h2, h3, fun i hi => ?_⟩
    have hne : b ≠ g := by
      rcases ho _ _ _ _ _ rfl with h0 | h0
      · omega
      · exact h0
    exact hb.kept (p := ⟨b, off + i, Option.none⟩) hne (h4 i hi)
theorem HasI.off {w : World} {N g : Nat} {v : Value} {l : List Int} (h : HasI w N v l) (hg : N ≤ g) : Off g v := by
  rcases h with ⟨a, c, rfl, rfl⟩ | ⟨b, off, c, rfl, _, h3, _⟩
  · intro b' off' t' n' c' e; simp only [Value.slice.injEq] at e; exact .inl e.2.1.symm
  · exact Off.some (by omega)
theorem HasI.but {g N : Nat} {w w' : World} {v : Value} {l : List Int} (h : HasI w N v l) (ho : Off g v) (hb : But g w w') : HasI w' N v l := by
  rcases h with ⟨a, c, rfl, rfl⟩ | ⟨b, off, c, rfl, h2, h3, h4⟩
  · exact .inl ⟨a, c, rfl, rfl⟩
  · refine .inr ⟨b, off, c, rfl, h2, h3, fun i hi => ?_⟩
    have hne : b ≠ g := by
      rcases ho _ _ _ _ _ rfl with h0 | h0
      · omega
      · exact h0
    exact hb.kept (p := ⟨b, off + i, Option.none⟩) hne (h4 i hi)
/-- the fixed row that follows so many numbers -/
def row (n : Nat) : Nat → Nat
  | 0 => 0
  | i + 1 => ((row n i + n + 1) * 6364136223846793005 + 1442695040888963407) % 18446744073709551616
theorem row_lt (n i : Nat) : row n i < 18446744073709551616 := by
  cases i with
  | zero => simp [row]
  | succ i => rw [row]; omega
theorem row_next (n i : Nat) : IntKind.u64.wrap (IntKind.u64.wrap (IntKind.u64.wrap (IntKind.u64.wrap ((row n i : Int) + IntKind.u64.wrap (n : Int)) + 1) * 6364136223846793005) + 1442695040888963407) = (row n (i + 1) : Int) := by
  have h := row_lt n i
  rw [row]
  simp only [IntKind.wrap_u64]
  omega
/-- dice in the block g: numbers that lie below it; so many have been given out, those of the row too -/
def IsDice (w : World) (g : Nat) (l : List Int) (τ : Nat) : Prop := ∃ v : Value, Rec3 w g v (.int .i64 ((min τ l.length : Nat) : Int)) (.int .u64 (row l.length (τ - l.length) : Int)) ∧ HasI w g v l ∧ (∀ x ∈ l, (Lit.int .i64 x).wf = true) ∧ l.length ≤ 1000000
theorem IsDice.below {w w' : World} {g M τ : Nat} {l : List Int} (h : IsDice w g l τ) (hb : Below M w w') (hg : g < M) : IsDice w' g l τ := by
  obtain ⟨v, h1, h2, h3⟩ := h
  exact ⟨v, h1.below hb hg, h2.below hb (by omega), h3⟩
theorem IsDice.lt {w : World} {g τ : Nat} {l : List Int} (h : IsDice w g l τ) : g < w.heap.size := by
  obtain ⟨v, h1, _⟩ := h; exact h1.1
theorem IsDice.drew {w : World} {g τ : Nat} {l : List Int} (h : IsDice w g l τ) : IsDice w.drew g l τ := h
theorem IsDice.alloc {w : World} {g τ : Nat} {l : List Int} (h : IsDice w g l τ) (o : Obj) : IsDice (w.alloc o) g l τ := h.below ((Below.refl w.heap.size w).alloc (Nat.le_refl _) o) h.lt
theorem IsDice.new (w : World) (v : Value) (l : List Int) (t : TypeId) (h : HasI w w.heap.size v l) (hw : ∀ x ∈ l, (Lit.int .i64 x).wf = true) (hl : l.length ≤ 1000000) : IsDice (w.alloc (.cells #[v, .int .i64 0, .int .u64 0] t)) w.heap.size l 0 :=
  ⟨v, by rw [Nat.zero_min, Nat.zero_sub]; exact Rec3.new _ _ _ _ _, h.below ((Below.refl w.heap.size w).alloc (Nat.le_refl _) _) (Nat.le_refl _), hw, hl⟩
theorem Rec3.second {w : World} {g : Nat} {v b c : Value} (h : Rec3 w g v b c) (x : Value) : Rec3 (w.setCell ⟨g, 1, none⟩ x) g v x c := by
  obtain ⟨h1, ⟨h2, h3, h4⟩, h5, h6, h7⟩ := h
  exact ⟨by simpa using h1, ⟨by rw [World.cell?_setCell_other _ _ _ _ (by simp)]; exact h2, World.cell?_setCell_same _ _ _ h3, by rw [World.cell?_setCell_other _ _ _ _ (by simp)]; exact h4⟩, by rw [World.frozen?_setCell]; exact h5, by rw [World.frozen?_setCell]; exact h6, by rw [World.frozen?_setCell]; exact h7⟩
theorem HasI.set {w : World} {g : Nat} {v : Value} {l : List Int} (h : HasI w g v l) (i : Nat) (x : Value) : HasI (w.setCell ⟨g, i, none⟩ x) g v l :=
  h.but (h.off (Nat.le_refl _)) ((But.refl g w).setCell i x)
set_option maxRecDepth 100000 in
set_option maxHeartbeats 1000000 in
/-- the next number -/
theorem next_any (n : Nat) (g : Nat) (l : List Int) (τ : Nat) (w : World) (h1 : 1 ≤ n) (h2 : n ≤ 4611686018427387904) (hd : IsDice w g l τ) :
    Calls Tryz.prog 24 #[.pointer (some ⟨g, 0, none⟩), .int .i64 (n : Int)] w fun e w' => ∃ r : Nat, e = .returned (.int .i64 (r : Int)) ∧ r < n ∧ (l.length ≤ τ → r = row l.length (τ + 1 - l.length) / 8589934592 % n) ∧ IsDice w' g l (τ + 1) ∧ But g w w' := by
  obtain ⟨v, hr, hl, hwf, hlen⟩ := hd
  obtain ⟨k, hk⟩ : ∃ k, k = min τ l.length := ⟨_, rfl⟩
  obtain ⟨i, hi⟩ : ∃ i, i = τ - l.length := ⟨_, rfl⟩
  obtain ⟨m, hm⟩ : ∃ m, m = row l.length i := ⟨_, rfl⟩
  rw [← hk, ← hi, ← hm] at hr
  obtain ⟨a, cap, rfl⟩ := hl.form
  have HR := Lib.hid hr; have HL := Lib.hid hl; have HWF := Lib.hid hwf; have HK := Lib.hid hk
  have HI := Lib.hid hi; have HMM := Lib.hid hm
  obtain ⟨_, ⟨y0, y1, y2⟩, z0, z1, z2⟩ := hr
  obtain ⟨q, hq⟩ : ∃ q, q = l.length := ⟨_, rfl⟩
  rw [← hq] at y0 HR HL hlen HK HI HMM
  have HQ := Lib.hid hq
  clear hl hwf hk hq hi hm
  by_cases hlt : k < q
  · obtain ⟨b, off, rfl, hcell⟩ := HL.out.at k hlt
    have hw1 := HWF.out (l.getD k 0) (by rw [List.getD_eq_getElem?_getD, List.getElem?_eq_getElem (by have := HQ.out; omega)]; simp)
    generalize l.getD k 0 = x at hcell hw1
    obtain ⟨r, hr1, hr2⟩ := mod_nat x n h1
    have CM := Lib.hid fun w' => mod_to x n r hr1 w' hw1 (by omega) (by omega)
    clear hw1 hr1
    have hc2 := Lib.hid (HL.out.set 1 (.int .i64 ((k : Int) + 1)))
    have hb2 : b ≠ g := by
      rcases HL.out with ⟨_, _, e, _⟩ | ⟨b', _, _, e, _, h3, _⟩
      · simp at e; omega
      · simp only [Value.slice.injEq, Option.some.injEq, Addr.mk.injEq] at e; omega
    have hcell2 : (w.setCell ⟨g, 1, none⟩ (.int .i64 ((k : Int) + 1))).cell? ⟨b, off + k, none⟩ = some (.int .i64 x) := by rw [World.cell?_setCell_far _ _ _ _ (by exact Ne.symm hb2)]; exact hcell
    have hk1 : (k : Int) + 1 - 1 = (k : Int) := by omega
    go_enter Tryz.func24, Tryz.ntmps24
    go_wp2_with fail
    go_quiet (fail)
    go_wp2_with fail
    go_quiet (first | (go_at_call 21; exact Calls.quiet_of_same ((CM.out _).mono fun _ _ h => ⟨h.1, h.2.symm⟩)))
    go_wp2_with fail
    go_ret
    have ek : τ = k := by have := HK.out; omega
    exact ⟨r, rfl, hr2, fun h => by have := HQ.out; omega, ⟨_, by rw [show min (τ + 1) l.length = k + 1 by have := HQ.out; omega, show τ + 1 - l.length = i by have := HQ.out; have := HI.out; omega, ← HQ.out, ← HMM.out]; exact HR.out.drew.second _, by have := hc2.out; exact this, HWF.out, by have := HQ.out; omega⟩, (((But.refl g w).drewN _).setCell 1 _).drewN _⟩
  · have hkq : k = q := by have := HK.out; have := HQ.out; omega
    obtain ⟨m', hm'⟩ : ∃ m', m' = row q (i + 1) := ⟨_, rfl⟩
    have hb1 : m' < 18446744073709551616 := by rw [hm']; exact row_lt _ _
    have hme : IntKind.u64.wrap (IntKind.u64.wrap (IntKind.u64.wrap (IntKind.u64.wrap ((m : Int) + IntKind.u64.wrap (q : Int)) + 1) * 6364136223846793005) + 1442695040888963407) = (m' : Int) := by rw [HMM.out, hm']; exact row_next q i
    have HM' := Lib.hid hm'
    clear hm'
    go_enter Tryz.func24, Tryz.ntmps24
    go_wp2_with fail
    go_quiet (fail)
    rename_i nq
    obtain ⟨w1, hw1⟩ : ∃ w1, w1 = w.drewN nq := ⟨_, rfl⟩
    have hr1 : Rec3 w1 g (.slice a q cap) (.int .i64 (k : Int)) (.int .u64 (m : Int)) := by rw [hw1]; exact HR.out
    have bt1 := Lib.hid (show But g w w1 by rw [hw1]; exact (But.refl g w).drewN _)
    have hl1 := Lib.hid (show HasI w1 g (.slice a q cap) l by rw [hw1]; exact HL.out)
    rw [← hw1]
    have HR1 := Lib.hid hr1
    obtain ⟨_, ⟨x0, x1, x2⟩, u0, u1, u2⟩ := hr1
    clear hw1 y0 y1 y2 z0 z1 z2
    go_wp2_with fail
    go_still_tail 17, (by kernel_rfl)
    change wpList _ _ _ _ _ w1.drew
    obtain ⟨w2, hw2⟩ : ∃ w2, w2 = w1.drew := ⟨_, rfl⟩
    have hr2 : Rec3 w2 g (.slice a q cap) (.int .i64 (k : Int)) (.int .u64 (m : Int)) := by rw [hw2]; exact HR1.out
    have bt2 := Lib.hid (show But g w w2 by rw [hw2]; exact bt1.out.drew)
    have hl2 := Lib.hid (show HasI w2 g (.slice a q cap) l by rw [hw2]; exact hl1.out)
    rw [← hw2]
    have HR2 := Lib.hid hr2
    obtain ⟨_, ⟨y0, y1, y2⟩, z0, z1, z2⟩ := hr2
    clear hw2 x0 x1 x2 u0 u1 u2
    have etau : τ + 1 - l.length = i + 1 ∧ min (τ + 1) l.length = k := by have := HQ.out; have := HI.out; have := HK.out; omega
    have DF := Lib.hid (show IsDice (w2.setCell ⟨g, 2, none⟩ (.int .u64 (m' : Int))) g l (τ + 1) from ⟨_, by rw [etau.1, etau.2, ← HQ.out, ← HM'.out]; exact HR2.out.third _, hl2.out.set 2 _, HWF.out, by have := HQ.out; omega⟩)
    have BF := Lib.hid (bt2.out.setCell 2 (.int .u64 (m' : Int)))
    obtain ⟨r, hr⟩ : ∃ r : Nat, r = m' / 8589934592 % n := ⟨_, rfl⟩
    have hrI : (m' : Int) / 8589934592 % (n : Int) = (r : Int) := by rw [hr, Int.natCast_emod, Int.natCast_ediv]; rfl
    have HRN := Lib.hid (show r < n by rw [hr]; exact Nat.mod_lt _ (by omega))
    have HRE := Lib.hid (show r = row l.length (τ + 1 - l.length) / 8589934592 % n by rw [etau.1, ← HQ.out, ← HM'.out, hr])
    clear hme etau hr
    go_wp2_with fail
    · go_ret
      exact ⟨r, by rw [← hrI]; rfl, HRN.out, fun _ => HRE.out, DF.out, BF.out⟩
    · go_ret
      exact ⟨0, rfl, by omega, fun _ => by have h9 := HRE.out; have h8 := HRN.out; rw [← h9]; omega, DF.out, BF.out⟩
end Go.Proofs.YtgkckomccabmlaaGreatDoor
namespace Go.Proofs.YtgkckomccabmlaaGreatDoor
open Go.ChangeShapes Go.WideShapes Go.ChangeAt Go.RowKit
/-- cells that may be written -/
def RecN (w : World) (N : Nat) (l : List Value) : Prop := N < w.heap.size ∧ ∀ i (h : i < l.length), w.cell? ⟨N, i, none⟩ = some l[i] ∧ w.frozen? ⟨N, i, none⟩ = false
theorem RecN.new (w : World) (c : Array Value) (t : TypeId) : RecN (w.alloc (.cells c t)) w.heap.size c.toList := by
  refine ⟨by simp, fun i h => ⟨?_, ?_⟩⟩
  · rw [World.cell?_alloc_new]; simp at h; simp [h]
  · go_simp
theorem RecN.below {w w' : World} {N B : Nat} {l : List Value} (h : RecN w N l) (hb : Below B w w') (hn : N < B) : RecN w' N l :=
  ⟨Nat.lt_of_lt_of_le h.1 hb.size, fun i hi => ⟨by rw [hb.cell (p := ⟨N, i, none⟩) hn]; exact (h.2 i hi).1, by rw [hb.frozen (p := ⟨N, i, none⟩) hn]; exact (h.2 i hi).2⟩⟩
theorem RecN.but {w w' : World} {N g : Nat} {l : List Value} (h : RecN w N l) (hb : But g w w') (hn : N ≠ g) : RecN w' N l :=
  ⟨Nat.lt_of_lt_of_le h.1 hb.size, fun i hi => ⟨by rw [hb.cell (p := ⟨N, i, none⟩) h.1 hn]; exact (h.2 i hi).1, by rw [hb.frozen (p := ⟨N, i, none⟩) h.1 hn]; exact (h.2 i hi).2⟩⟩
theorem RecN.drew {w : World} {N : Nat} {l : List Value} (h : RecN w N l) : RecN w.drew N l := h
theorem RecN.drewN {w : World} {N : Nat} {l : List Value} (h : RecN w N l) (n : Nat) : RecN (w.drewN n) N l := h
theorem RecN.alloc {w : World} {N : Nat} {l : List Value} (h : RecN w N l) (o : Obj) : RecN (w.alloc o) N l := h.below ((Below.refl w.heap.size w).alloc (Nat.le_refl _) o) h.1
theorem RecN.far {w : World} {N : Nat} {l : List Value} (h : RecN w N l) (p : Addr) (hn : p.block ≠ N) (v : Value) : RecN (w.setCell p v) N l :=
  ⟨by simpa using h.1, fun i hi => ⟨by rw [World.cell?_setCell_far _ _ _ _ hn]; exact (h.2 i hi).1, by rw [World.frozen?_setCell]; exact (h.2 i hi).2⟩⟩
theorem RecN.set {w : World} {N : Nat} {l : List Value} (h : RecN w N l) (j : Nat) (hj : j < l.length) (v : Value) : RecN (w.setCell ⟨N, j, none⟩ v) N (l.set j v) := by
  refine ⟨by simpa using h.1, fun i hi => ?_⟩
  rw [List.length_set] at hi
  refine ⟨?_, by rw [World.frozen?_setCell]; exact (h.2 i hi).2⟩
  by_cases e : j = i
  · subst e
    rw [World.cell?_setCell_same _ _ _ (h.2 j hj).1]; simp
  · rw [World.cell?_setCell_other _ _ _ _ (by simp <;> exact e), (h.2 i hi).1]
    simp [e]
theorem RecN.c {w : World} {N : Nat} {l : List Value} (h : RecN w N l) (i : Nat) {v : Value} (hv : l[i]? = some v) : w.cell? ⟨N, i, none⟩ = some v := by
  obtain ⟨hi, e⟩ := List.getElem?_eq_some_iff.1 hv
  rw [(h.2 i hi).1, e]
theorem RecN.f {w : World} {N : Nat} {l : List Value} (h : RecN w N l) (i : Nat) (hi : i < l.length) : w.frozen? ⟨N, i, none⟩ = false := (h.2 i hi).2
end Go.Proofs.YtgkckomccabmlaaGreatDoor
namespace Go.Proofs.YtgkckomccabmlaaGreatDoor
open Go.ChangeShapes Go.WideShapes Go.ChangeAt Go.RowKit
theorem run_index_row {P : Program} (T E : TypeId) (n : Nat) (hu : P.underlying T = some (.array n E)) (d : TypeDesc) (hd : P.underlying E = some d) (hr : d.isRow = false) (hi : (P.info? E).map (·.size) = some 1)
    (L : List Value) (k : Nat) (hk : k < n) (v : Value) (hv : L[k]? = some v) (w : World) : (Instr.index T (.agg L.toArray) (.int .i64 (k : Int))).run P w = .ok v w := by
  unfold Instr.index
  cases hq : P.info? E with
  | none => simp [hq] at hi
  | some i =>
    have hs : i.size = 1 := by simpa [hq] using hi
    have hagg : (isAgg E).run P w = .ok false w := by
      unfold isAgg
      rw [Sem.run_bind, run_underlying hd]
      cases d <;> simp_all
    simp [Sem.run_bind, asIntOf, run_underlying hu, part, hagg, sizeOf, typeInfo, hq, hs, hk, hv]
end Go.Proofs.YtgkckomccabmlaaGreatDoor
namespace Go.Proofs.YtgkckomccabmlaaGreatDoor
open Go.ChangeShapes Go.WideShapes Go.ChangeAt Go.RowKit
theorem cells_of_pairs {H : Type} {enc : TypeId × Value → H} {P : Program} {w : World} {base : Nat} {sp : Nat → Bool} {held : Bool} {fuel : Nat} {t e : TypeId} {n : Nat} {f0 f1 : Field} {cs : List Value} {rows : List (List UInt8 × Int)} {p : List MemPlace}
    (ht : P.underlying t = some (.array n e)) (he : P.underlying e = some (.struct #[f0, f1])) (o0 : f0.offset = 0) (o1 : f1.offset = 1) (c0 : P.cellsOf f0.type = 1) (c1 : P.cellsOf f1.type = 1) (hce : P.cellsOf e = 2)
    (u0 : P.underlying f0.type = some .string) (u1 : P.underlying f1.type = some (.int .i64))
    (h : DataW.trod enc P w base sp held fuel t cs = some (.agg (rows.map fun r => .agg [.lit (.string r.1), .lit (.int .i64 r.2)]), p)) :
    ∀ i r, i < n → rows[i]? = some r → ∃ b : ByteArray, b.data.toList = r.1 ∧ cs[2 * i]? = some (.string b) ∧ cs[2 * i + 1]? = some (.int .i64 r.2) := by
  intro i r hi hr
  cases fuel with
  | zero => simp [DataW.trod] at h
  | succ fuel =>
    simp only [DataW.trod, ht, hce] at h
    split at h
    · obtain ⟨xs, hm, hx⟩ := Option.map_eq_some_iff.1 h
      have hxs : xs.map (·.1) = rows.map fun r => (.agg [.lit (.string r.1), .lit (.int .i64 r.2)] : DataW H) := by
        have := congrArg Prod.fst hx
        simpa using this
      obtain ⟨b, hb, hf⟩ := Lib.mapM_at hm i i (by simp [hi])
      obtain ⟨y0, y1, m, rfl, hlen, g0, g1⟩ := trod_struct2 he hf
      rw [o0, c0] at g0
      rw [o1, c1] at g1
      have hb2 : (xs.map (·.1))[i]? = some (.agg [y0.1, y1.1] : DataW H) := by simp [hb]
      rw [hxs, List.getElem?_map, hr] at hb2
      simp only [Option.map_some, Option.some.injEq, DataW.agg.injEq, List.cons.injEq, and_true] at hb2
      obtain ⟨e0, e1⟩ := hb2
      obtain ⟨s, k0, k1, _⟩ := DataW.trod_string u0 g0
      obtain ⟨z, q0, q1, _⟩ := DataW.trod_int u1 g1
      have a0 : cs[2 * i]? = some (.string s) := by
        have := congrArg (·[0]?) k0
        simpa [List.getElem?_take, List.getElem?_drop, Nat.mul_comm] using this
      have a1 : cs[2 * i + 1]? = some (.int .i64 z) := by
        have := congrArg (·[0]?) q0
        simpa [List.getElem?_take, List.getElem?_drop, Nat.mul_comm] using this
      refine ⟨s, ?_, a0, ?_⟩
      · have := e0
        rw [k1] at this
        simp only [DataW.lit.injEq, Lit.string.injEq] at this
        exact this.symm
      · have := e1
        rw [q1] at this
        simp only [DataW.lit.injEq, Lit.int.injEq, true_and] at this
        rw [a1, this]
    · cases h
end Go.Proofs.YtgkckomccabmlaaGreatDoor
