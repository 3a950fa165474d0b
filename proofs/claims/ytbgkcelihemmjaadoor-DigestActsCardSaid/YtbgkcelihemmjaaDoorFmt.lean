/-
  What strconv.FormatUint returns at base 16: the digits of the word, at least one, without zeros in front; nothing that was there has changed. Condition: the library's table math/bits.deBruijn64tab holds what it is laid with.
-/
import Derived.Test.YtbgkcelihemmjaaDoorMix
import Derived.Test.YtbgkcelihemmjaaDoorHex
import Derived.Laws.IdiomStrings
import Derived.Laws.BytesString
import Derived.Below
import Derived.Outline
namespace Go.Proofs.YtbgkcelihemmjaaDoor
open Go.ChangeShapes Go.WideShapes Go.ChangeAt Go.RowKit
open Dg (W B)

/-- the one cell of the library's table that is read -/
def Tab (w : World) : Prop := w.cell? ⟨3, 15, none⟩ = some (.int .u8 4)
theorem tz_16 (w : World) (h : Tab w) :
    Calls Tryd.prog 43 #[.int .u64 16] w fun e w' => e = .returned (.int .i64 4) ∧ w = w' := by
  unfold Tab at h
  have k1 : bits .and .u64 16 (IntKind.u64.wrap (-16)) = 16 := by decide
  go_enter Tryd.func43, Tryd.ntmps43
  go_wp2
  go_ret
  exact ⟨rfl, rfl⟩
theorem pow_16 (w : World) :
    Calls Tryd.prog 42 #[.int .i64 16] w fun e w' => e = .returned (.bool true) ∧ w = w' := by
  have k1 : bits .and .i64 16 15 = 0 := by decide
  go_enter Tryd.func42, Tryd.ntmps42
  go_wp2
  go_ret
  exact ⟨rfl, rfl⟩

theorem tab_alloc {w : World} (h : Tab w) (o : Obj) : Tab (w.alloc o) := by
  have hlt := World.block_lt_of_cell? w _ h
  unfold Tab at h ⊢
  rw [World.cell?_alloc_lt _ _ _ hlt]; exact h
theorem nib_int (x : W) (k : Nat) : bits .and .u64 (uv (x >>> (4 * k))) 15 = ((Dg.nib x k : Nat) : Int) := by
  have e := uv_and (x >>> (4 * k)) 15#64
  rw [show uv 15#64 = 15 by decide] at e
  rw [e]
  unfold uv Dg.nib
  rw [BitVec.toNat_and, show (15#64).toNat = 2 ^ 4 - 1 by decide, Nat.and_two_pow_sub_one_eq_mod]
def zeros65 : Array Value := Array.replicate 65 (.int .u8 0)
theorem zero_65 (w : World) : (zeroValue 72).run Tryd.prog w = .ok (.agg zeros65) w := by kernel_rfl
def abc : ByteArray := ⟨#[48, 49, 50, 51, 52, 53, 54, 55, 56, 57, 97, 98, 99, 100, 101, 102, 103, 104, 105, 106, 107, 108, 109, 110, 111, 112, 113, 114, 115, 116, 117, 118, 119, 120, 121, 122]⟩
theorem abc_lt {d : Nat} (h : d < 16) : d < abc.size := by
  have : abc.size = 36 := by decide
  omega
theorem abc_at (d : Nat) (h : d < 16) (h' : d < abc.size) : abc[d].toNat = (Dg.sign d).toNat := by
  have : ∀ d : Fin 16, (abc[d.val]'(abc_lt d.isLt)).toNat = (Dg.sign d.val).toNat := by decide
  exact this ⟨d, h⟩
theorem abc_lit (d : Nat) (h : d < 16) (h' : d < (⟨#[48, 49, 50, 51, 52, 53, 54, 55, 56, 57, 97, 98, 99, 100, 101, 102, 103, 104, 105, 106, 107, 108, 109, 110, 111, 112, 113, 114, 115, 116, 117, 118, 119, 120, 121, 122]⟩ : ByteArray).size) :
    ((⟨#[48, 49, 50, 51, 52, 53, 54, 55, 56, 57, 97, 98, 99, 100, 101, 102, 103, 104, 105, 106, 107, 108, 109, 110, 111, 112, 113, 114, 115, 116, 117, 118, 119, 120, 121, 122]⟩ : ByteArray)[d]'h').toNat = (Dg.sign d).toNat := abc_at d h h'
theorem digs_get (x : W) (k j : Nat) (hj : j < (Dg.digs x k).length) : (Dg.digs x k)[j] = Dg.sign (Dg.nib x (k - 1 - j)) := by
  have h := Dg.digs_at x k j (by rwa [Dg.digs_len] at hj)
  rw [List.getElem?_eq_getElem hj] at h
  exact Option.some.inj h
/-- the digits that are laid so far, in the block N -/
def Laid (x : W) (N k : Nat) (w : World) : Prop := ∀ p, p < k → w.cell? ⟨N, 64 - p, none⟩ = some (.int .u8 ((Dg.sign (Dg.nib x p)).toNat : Int))
theorem Laid.succ {x : W} {N k : Nat} {w : World} {c : Value} (h : Laid x N k w) (hk : k ≤ 15) (hc : w.cell? ⟨N, 65 - k - 1, none⟩ = some c) :
    Laid x N (k + 1) (w.setCell ⟨N, 65 - k - 1, none⟩ (.int .u8 ((Dg.sign (Dg.nib x k)).toNat : Int))) := by
  intro p hp
  by_cases e : p = k
  · subst e
    rw [show 64 - p = 65 - p - 1 by omega]
    exact World.cell?_setCell_same _ _ _ hc
  · rw [World.cell?_setCell_other _ _ _ _ (by intro h; have := congrArg Addr.off h; simp only at this; omega)]
    exact h p (by omega)
theorem add_plain' (N o j : Nat) : (⟨N, o, none⟩ : Addr).add j = ⟨N, o + j, none⟩ := by simp [Addr.add]
theorem conv_hex (x : W) (N k : Nat) (w : World) (h : Laid x N (k + 1) w) (hk : k ≤ 15) :
    (convert 22 9 (.slice (some ⟨N, 65 - k - 1, none⟩) (k + 1) (k + 1))).run Tryd.prog w = .ok (.string ⟨(Dg.digs x (k + 1)).toArray⟩) w := by
  have := run_convert_bytes_back (P := Tryd.prog) w 22 9 5 ⟨N, 65 - k - 1, none⟩ (k + 1) (Dg.digs x (k + 1)) Tryd.underlying22 Tryd.underlying5 Tryd.underlying9 (fun j hj => by
    have hj' : j < k + 1 := by rwa [Dg.digs_len] at hj
    rw [digs_get x (k + 1) j hj, ← h (k + 1 - 1 - j) (by omega)]
    rw [show (⟨N, 65 - k - 1, none⟩ : Addr).add j = ⟨N, 64 - (k + 1 - 1 - j), none⟩ by rw [add_plain']; congr 1; omega])
  rw [Dg.digs_len] at this
  exact this
theorem slice_hex (N k : Nat) (hk : k ≤ 15) (w : World) :
    (Instr.sliceAt 72 (.pointer (some ⟨N, 0, none⟩)) (some (.int .i64 (65 - (k : Int) - 1))) none none).run Tryd.prog w = .ok (.slice (some ⟨N, 65 - k - 1, none⟩) (k + 1) (k + 1)) w := by
  have hal : Tryd.prog.arrayLen 72 = 65 := by kernel_rfl
  rw [run_sliceAt_array_l w 72 ⟨N, 0, none⟩ (by kernel_rfl) .i64 (65 - (k : Int) - 1) (by omega) (by rw [hal]; omega), hal]
  have he : (sizeOf (Tryd.prog.elem 72)).run Tryd.prog w = .ok 1 w := by kernel_rfl
  rw [he]
  have e2 : (65 - (k : Int) - 1).toNat = 65 - k - 1 := by omega
  rw [e2]
  show Result.ok (slicedAt _ _ _ _ _) w = _
  unfold slicedAt
  rw [if_neg (by omega), show 65 - (65 - k - 1) = k + 1 by omega, Nat.mul_one, add_plain', Nat.zero_add]
theorem small_hex {x : W} {k : Nat} (h : ¬ 16 ≤ uv (x >>> (4 * k))) : uv (x >>> (4 * k)) = ((Dg.nib x k : Nat) : Int) ∧ x >>> (4 * (k + 1)) = 0 := by
  have h1 : (x >>> (4 * k)).toNat < 16 := by unfold uv at h; omega
  refine ⟨?_, ?_⟩
  · unfold uv Dg.nib
    rw [Nat.mod_eq_of_lt h1]
  · apply BitVec.eq_of_toNat_eq
    rw [BitVec.toNat_ushiftRight, Nat.shiftRight_eq_div_pow] at h1 ⊢
    rw [show 4 * (k + 1) = 4 * k + 4 by omega, Nat.pow_add, ← Nat.div_div_eq_div_mul]
    exact Nat.div_eq_of_lt h1
theorem big_hex {x : W} {k : Nat} (hk : k ≤ 15) (h : 16 ≤ uv (x >>> (4 * k))) : k < 15 := by
  refine Nat.lt_of_le_of_ne hk fun e => ?_
  subst e
  unfold uv at h
  rw [BitVec.toNat_ushiftRight, Nat.shiftRight_eq_div_pow] at h
  have := x.isLt
  omega
def FmtRel (x : W) (w : World) (u i : Value) (wr : World) : Prop :=
  ∃ k : Nat, k ≤ 15 ∧ u = .int .u64 (uv (x >>> (4 * k))) ∧ i = .int .i64 (65 - k : Int) ∧ Below w.heap.size w wr ∧
    (∀ j, j < 65 → ∃ c, wr.cell? ⟨w.heap.size, j, none⟩ = some c) ∧ (∀ j, wr.frozen? ⟨w.heap.size, j, none⟩ = false) ∧ Laid x w.heap.size k wr
def fmtNum (i : Value) : Nat := (intOf i).toNat
def FmtPost (x : W) (w : World) (e : Ending) (w' : World) : Prop := (∃ n, 1 ≤ n ∧ n ≤ 16 ∧ x >>> (4 * n) = 0 ∧ e = .returned (.tuple #[.slice none 0 0, .string ⟨(Dg.digs x n).toArray⟩])) ∧ Below w.heap.size w w'
theorem fmt_cells {N : Nat} {w : World} {a : Addr} {v : Value} (h : ∀ j, j < 65 → ∃ c, w.cell? ⟨N, j, none⟩ = some c) (j : Nat) (hj : j < 65) : ∃ c, (w.setCell a v).cell? ⟨N, j, none⟩ = some c := by
  obtain ⟨c, hc⟩ := h j hj
  by_cases e : a = ⟨N, j, none⟩
  · subst e; exact ⟨v, World.cell?_setCell_same _ _ _ hc⟩
  · exact ⟨c, by rw [World.cell?_setCell_other _ _ _ _ e]; exact hc⟩
set_option maxHeartbeats 1000000 in
theorem bits_16 (x : W) (w : World) (h : Tab w) :
    Calls Tryd.prog 33 #[.slice none 0 0, .int .u64 (uv x), .int .i64 16, .bool false, .bool false] w (FmtPost x w) := by
  have hz := zero_65
  go_enter Tryd.func33, Tryd.ntmps33
  go_wp2_with fail
  refine (pow_16 _).mono ?_; rintro e w' ⟨rfl, rfl⟩
  go_wp2_with fail
  refine (tz_16 _ (tab_alloc h _)).mono ?_; rintro e w' ⟨rfl, rfl⟩
  have H := Lib.hid h; clear h
  go_wp2
  go_loopw [1, 13] (FmtRel x w) (fun _ i _ => fmtNum i)
  case atStart =>
    refine ⟨0, by omega, by simp, by simp, (Below.refl _ _).alloc (Nat.le_refl _) _, fun j hj => ⟨.int .u8 0, ?_⟩, fun j => World.frozen?_alloc_new _ _ _ _, fun p hp => absurd hp (by omega)⟩
    rw [World.cell?_alloc_new]
    unfold zeros65
    rw [Array.getElem?_replicate, if_pos hj]
  case round =>
    obtain ⟨k, hk, rfl, rfl, hb, hcs, hfr, hds⟩ := hrel
    have HD := Lib.hid hds; clear hds
    have HC := Lib.hid hcs; clear hcs
    have HF := Lib.hid hfr; clear hfr
    obtain ⟨c, hc⟩ := HC.out (65 - k - 1) (by omega)
    have hf := HF.out (65 - k - 1)
    have k2 : Dg.nib x k < 16 := Nat.mod_lt _ (by decide)
    have ka := abc_lit (Dg.nib x k) k2
    by_cases hge : 16 ≤ uv (x >>> (4 * k))
    · have k1 : bits .and .u64 (uv (x >>> (4 * k))) 15 = ((Dg.nib x k : Nat) : Int) := nib_int x k
      have k15 := big_hex hk hge
      have HL := Lib.hid (Laid.succ HD.out hk hc)
      have HC' := Lib.hid hc
      go_wp2
      go_roundw
      case rel =>
        refine ⟨k + 1, by omega, ?_, by congr 1; omega, hb.setCell (Nat.le_refl _) _, fmt_cells HC.out, fun j => by rw [World.frozen?_setCell]; exact HF.out j, HL.out⟩
        rw [uv_shr _ 4 16 (by decide), ← BitVec.shiftRight_add]
        rfl
      case measure => simp [fmtNum, intOf]; omega
    · obtain ⟨s1, s2⟩ := small_hex hge
      have S2 := Lib.hid s2; clear s2
      have HL := Lib.hid (Laid.succ HD.out hk hc)
      have hcv := conv_hex x w.heap.size k _ HL.out hk
      have hsl := slice_hex w.heap.size k hk
      go_wp2
      refine bodyPost_ret (v := .tuple #[.slice none 0 0, .string ⟨(Dg.digs x (k + 1)).toArray⟩]) (by simp [results, Tryd.results33, go_sem]) rfl ⟨⟨k + 1, by omega, by omega, S2.out, rfl⟩, ?_⟩
      exact hb.setCell (Nat.le_refl _) _
end Go.Proofs.YtbgkcelihemmjaaDoor
