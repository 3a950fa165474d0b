/-
  The law that secrets of different seeds and chains are different, and that a signature of the digest 0 shows the secrets of its digits alone (OnetimeKeys), returns true. No condition.
-/
import Derived.Test.YtmddapdeefdjgaaOAwake
import Derived.Test.YtmddapdeefdjgaaOpen
namespace Go.Proofs.Ytmddapdeefdjgaa
open Go.ChangeShapes Go.WideShapes Go.ChangeAt Go.RowKit
open Dg (W B)
/-- a word with one bit changed -/
def flip (s : W) (b : Nat) : W := s ^^^ (1#64 <<< b)
theorem flip_ne (s : W) (b : Nat) (h : b < 64) : flip s b ≠ s := by
  intro e
  have := congrArg (fun x : W => x.getLsbD b) e
  simp [flip, h] at this
theorem flip_int (s : W) (b : Nat) (h : b < 64) : bits .xor .u64 (uv s) (IntKind.u64.wrap ((2 : Int) ^ b)) = uv (flip s b) := by
  have hp : uv (1#64 <<< b) = (2 : Int) ^ b := by
    unfold uv
    have hlt : (2 : Nat) ^ b < 2 ^ 64 := (Nat.pow_lt_pow_iff_right (by decide)).2 h
    rw [BitVec.toNat_shiftLeft, Nat.shiftLeft_eq, show (1#64).toNat = 1 by decide, Nat.one_mul, Nat.mod_eq_of_lt hlt]
    simp
  rw [← hp, show IntKind.u64.wrap (uv (1#64 <<< b)) = uv (1#64 <<< b) from u64_in _ (BitVec.isLt _), uv_xor]; rfl
theorem word_ne {a b : W} (h : a ≠ b) : (uv a == uv b) = false := by rw [word_eq]; exact decide_eq_false h
theorem bit_of (a : Int) (h : (Lit.int .u8 a).wf = true) : ∃ b : Nat, a % 64 = b ∧ b < 64 := by
  have := bounds_u8 h
  exact ⟨(a % 64).toNat, by omega, by omega⟩
theorem num_ne {a b : Nat} (ha : a < 100) (hb : b < 100) (h : a ≠ b) : Ot.num a ≠ Ot.num b := by
  intro e
  have := congrArg BitVec.toNat e
  unfold Ot.num at this
  rw [BitVec.toNat_ofNat, BitVec.toNat_ofNat] at this
  omega
namespace onetimeKeys
def LoopRel (w : World) (v : Value) (wr : World) : Prop := ∃ k : Nat, k ≤ 18 ∧ v = .int .i64 (k : Int) ∧ Below w.heap.size w wr
set_option maxRecDepth 100000 in
set_option maxHeartbeats 1000000 in
theorem walk (w : World) (a0 : Int) (w0 : (Lit.int .u64 a0).wf = true) (a1 : Int) (w1 : (Lit.int .u8 a1).wf = true) (a2 : Int) (w2 : (Lit.int .i64 a2).wf = true) :
    Calls Try.prog 7 #[.int .u64 a0, .int .u8 a1, .int .i64 a2] w fun e w' => e = .returned (.bool true) ∧ Below w.heap.size w w' := by
  obtain ⟨s, rfl⟩ := uv_of_wf a0 w0
  have hb8 := bounds_u8 w1
  obtain ⟨b, hb, hb2⟩ := bit_of a1 w1
  obtain ⟨q, hq, hq2⟩ := mod_nat a2 18 (by omega)
  have HQ := Lib.hid hq; clear hq
  have hf := flip_int s b hb2
  go_enter Try.func7, Try.ntmps7
  go_wp2_with fail
  refine (mod_to _ _ q HQ.out _ w2 (by omega) (by omega)).mono ?_; rintro e w' ⟨rfl, rfl⟩
  go_wp2_with fail
  refine (sign_to s 0#64 _ _ rfl (by decide) _).mono ?_; rintro e wa ⟨pa, cap, rfl, oa, ba⟩
  have n1 := word_ne (fun h => flip_ne s b hb2 (Ot.secret_seed.1 h).symm : Ot.secret s (ofI (q : Int)) ≠ Ot.secret (flip s b) (ofI (q : Int)))
  have n2 : (uv (Ot.secret s (ofI (q : Int))) == uv (Ot.secret s (ofI ((q : Int) + 1)))) = false := by
    refine word_ne fun h => ?_
    have h2 := Ot.secret_chain.1 h
    rw [show (q : Int) + 1 = ((q + 1 : Nat) : Int) by omega, ofI_num, ofI_num] at h2
    exact num_ne (by omega) (by omega) (by omega) h2
  have OA := Lib.hid oa; have BA := Lib.hid ba
  clear oa ba hb hf
  go_wp2_with fail
  refine (secret_any s q _).mono ?_; rintro e wb ⟨rfl, bb⟩
  have BB := Lib.hid (BA.out.trans (bb.mono BA.out.size)); have OB := Lib.hid (OA.out.below bb); clear bb
  go_wp2_with fail
  refine (secret_any (flip s b) q _).mono ?_; rintro e wc ⟨rfl, bc⟩
  have BC := Lib.hid (BB.out.trans (bc.mono BB.out.size)); have OC := Lib.hid (OB.out.below bc); clear bc
  go_wp2_with fail
  refine (secret_any s q _).mono ?_; rintro e wd ⟨rfl, bd⟩
  have BD := Lib.hid (BC.out.trans (bd.mono BC.out.size)); have OD := Lib.hid (OC.out.below bd); clear bd
  go_wp2_with fail
  refine (secret_any s ((q : Int) + 1) _).mono ?_; rintro e we ⟨rfl, be⟩
  have BE := Lib.hid (BD.out.trans (be.mono BD.out.size)); have OE := Lib.hid (OD.out.below be); clear be
  go_wp2_with fail
  clear n1 n2
  go_loopw [43] (LoopRel we) (fun v _ => 18 - (intOf v).toNat)
  case atStart => exact ⟨0, by omega, rfl, Below.refl _ _⟩
  case round =>
    obtain ⟨k, hk, rfl, hbr⟩ := hrel
    have HB := Lib.hid hbr
    by_cases hlt : k < 18
    · obtain ⟨g, off, rfl, hcell⟩ := leaves_cell (OE.out.below hbr).has k hlt
      rw [Ot.sign_at s 0#64 k hlt, Ot.digit_zero k hlt] at hcell
      clear hbr
      by_cases h16 : k = 16
      · rw [if_pos h16] at hcell
        have t1 : ((k : Int) == 16) = true := by rw [beq_iff_eq]; omega
        clear h16
        generalize hX : Ot.steps (Ot.secret s (Ot.num k)) (Ot.num k) 0 15 = x at hcell
        have HX := Lib.hid hX; clear hX
        go_wp2_with fail
        refine (secret_num s k _).mono ?_; rintro e w1 ⟨rfl, b1⟩
        have B1 := Lib.hid (HB.out.trans (b1.mono HB.out.size))
        have hcell1 : w1.cell? ⟨g, off + k, none⟩ = some (.int .u64 (uv x)) := by rw [b1.cell (p := ⟨g, off + k, none⟩) (World.block_lt_of_cell? wr _ hcell)]; exact hcell
        clear b1
        go_wp2_with fail
        refine (step_num _ k 0 15 0 15 rfl (by omega) rfl (by omega) _).mono ?_; rintro e w2 ⟨rfl, b2⟩
        have B2 := Lib.hid (B1.out.trans (b2.mono B1.out.size))
        have hcell2 : w2.cell? ⟨g, off + k, none⟩ = some (.int .u64 (uv x)) := by rw [b2.cell (p := ⟨g, off + k, none⟩) (World.block_lt_of_cell? w1 _ hcell1)]; exact hcell1
        rw [HX.out]
        clear b2
        go_wp2_with fail
        go_roundw
        case rel => exact ⟨k + 1, by omega, by go_num, B2.out⟩
        case measure => simp [intOf]; omega
      · rw [if_neg h16] at hcell
        have t1 : ((k : Int) == 16) = false := by rw [beq_eq_false_iff_ne]; omega
        clear h16
        have hX : Ot.steps (Ot.secret s (Ot.num k)) (Ot.num k) 0 0 = Ot.secret s (Ot.num k) := rfl
        rw [hX] at hcell
        clear hX
        go_wp2_with fail
        refine (secret_num s k _).mono ?_; rintro e w1 ⟨rfl, b1⟩
        have B1 := Lib.hid (HB.out.trans (b1.mono HB.out.size))
        have hcell1 : w1.cell? ⟨g, off + k, none⟩ = some (.int .u64 (uv (Ot.secret s (Ot.num k)))) := by rw [b1.cell (p := ⟨g, off + k, none⟩) (World.block_lt_of_cell? wr _ hcell)]; exact hcell
        clear b1
        go_wp2_with fail
        go_roundw
        case rel => exact ⟨k + 1, by omega, by go_num, B1.out⟩
        case measure => simp [intOf]; omega
    · obtain rfl : k = 18 := by omega
      have BEE := Lib.hid (BE.out.trans (hbr.mono BE.out.size))
      clear hbr
      go_wp2_with fail
      refine (awake_any _).mono ?_; rintro e w6 ⟨rfl, hb6⟩
      have B6 := Lib.hid (BEE.out.trans (hb6.mono BEE.out.size)); clear hb6
      go_wp2_with fail
      go_ret
      exact ⟨rfl, B6.out⟩
end onetimeKeys
end Go.Proofs.Ytmddapdeefdjgaa
