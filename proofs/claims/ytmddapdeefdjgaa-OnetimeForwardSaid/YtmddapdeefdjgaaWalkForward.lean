/-
  The law that of two different digests each has a digit that is less than that of the other one (OnetimeForward) returns true. No condition.
-/
import Derived.Test.YtmddapdeefdjgaaWalkKeys
namespace Go.Proofs.Ytmddapdeefdjgaa
open Go.ChangeShapes Go.WideShapes Go.ChangeAt Go.RowKit
open Dg (W B)
/-- among the first k digits of a is one that is less than that of c -/
def lessTo (a c : W) : Nat → Bool
  | 0 => false
  | k + 1 => lessTo a c k || decide (Ot.digit a k < Ot.digit c k)
theorem lessTo_iff (a c : W) (k : Nat) : lessTo a c k = true ↔ ∃ j, j < k ∧ Ot.digit a j < Ot.digit c j := by
  induction k with
  | zero => simp [lessTo]
  | succ k ih =>
    rw [lessTo, Bool.or_eq_true, ih, decide_eq_true_iff]
    constructor
    · rintro (⟨j, h1, h2⟩ | h)
      · exact ⟨j, by omega, h2⟩
      · exact ⟨k, by omega, h⟩
    · rintro ⟨j, h1, h2⟩
      by_cases e : j = k
      · subst e; exact .inr h2
      · exact .inl ⟨j, by omega, h2⟩
theorem lessTo_ne (a c : W) : lessTo a c 18 = decide (a ≠ c) := by
  rw [Bool.eq_iff_iff, lessTo_iff, decide_eq_true_iff]
  refine ⟨?_, Ot.less⟩
  rintro ⟨j, _, h⟩ e
  subst e
  exact Nat.lt_irrefl _ h
namespace onetimeForward
def InRel (a c : W) (w : World) (u v i : Value) (wr : World) : Prop := ∃ k : Nat, k ≤ 18 ∧ i = .int .i64 (k : Int) ∧ u = .bool (lessTo a c k) ∧ v = .bool (lessTo c a k) ∧ Below w.heap.size w wr
def OutRel (w : World) (v : Value) (wr : World) : Prop := ∃ k : Nat, k ≤ 4 ∧ v = .int .i64 (k : Int) ∧ Below w.heap.size w wr
set_option maxRecDepth 100000 in
set_option maxHeartbeats 2000000 in
theorem walk (w : World) (a0 : Int) (w0 : (Lit.int .u64 a0).wf = true) (a1 : Int) (w1 : (Lit.int .u64 a1).wf = true) (a2 : Int) (w2 : (Lit.int .u8 a2).wf = true) :
    Calls Try.prog 5 #[.int .u64 a0, .int .u64 a1, .int .u8 a2] w fun e w' => e = .returned (.bool true) ∧ Below w.heap.size w w' := by
  obtain ⟨a, rfl⟩ := uv_of_wf a0 w0
  obtain ⟨b, rfl⟩ := uv_of_wf a1 w1
  have hb8 := bounds_u8 w2
  obtain ⟨m, hm, hm2⟩ := bit_of a2 w2
  have hf := flip_int a m hm2
  obtain ⟨wa, hwa⟩ : ∃ wa, wa = w.alloc (.cells #[.int .u64 (uv b), .int .u64 (uv (flip a m)), .int .u64 0, .int .u64 18446744073709551615] 23) := ⟨_, rfl⟩
  have ba : Below w.heap.size w wa := by rw [hwa]; exact (Below.refl _ _).alloc (Nat.le_refl _) _
  have ha : HasW wa wa.heap.size (.slice (some ⟨w.heap.size, 0, none⟩) 4 4) [b, flip a m, 0#64, 18446744073709551615#64] := by
    have e : wa.heap.size = w.heap.size + 1 := by rw [hwa]; simp
    rw [e, hwa]; exact built_has w [b, flip a m, 0#64, 18446744073709551615#64] _ _ rfl
  have WA := Lib.hid hwa; have BA := Lib.hid ba; have HA := Lib.hid ha
  clear hwa ba ha
  go_enter Try.func5, Try.ntmps5
  go_wp2_with fail
  rw [← WA.out]
  clear hf hm
  go_loopw [23] (OutRel wa) (fun v _ => 4 - (intOf v).toNat)
  case atStart => exact ⟨0, by omega, rfl, Below.refl _ _⟩
  case round =>
    obtain ⟨k, hk, rfl, hbr⟩ := hrel
    have HB := Lib.hid hbr
    by_cases hlt : k < 4
    · obtain ⟨g, off, he, hcell⟩ := leaves_cell (HA.out.below hbr (Nat.le_refl _)) k hlt
      simp only [Option.some.injEq, Addr.mk.injEq, and_true] at he
      obtain ⟨rfl, rfl⟩ := he
      rw [Nat.zero_add] at hcell
      generalize [b, flip a m, 0#64, 18446744073709551615#64].getD k 0 = c at hcell
      clear hbr
      go_wp2_with fail
      refine (digits_to a _ rfl _).mono ?_; rintro e wb ⟨pb, cb, rfl, ob, bb⟩
      have BB := Lib.hid (HB.out.trans (bb.mono HB.out.size)); have OB := Lib.hid ob
      have S1 := Lib.hid bb.size
      clear bb ob
      go_wp2_with fail
      refine (digits_to c _ rfl _).mono ?_; rintro e wc ⟨pc, cc, rfl, oc, bc⟩
      have BC := Lib.hid (BB.out.trans (bc.mono BB.out.size)); have OC := Lib.hid oc; have OBC := Lib.hid (OB.out.below bc)
      have z0 := lessTo_ne a c
      have z1 := lessTo_ne c a
      have z2 : (uv a != uv c) = decide (a ≠ c) := by rw [bne, word_eq]; simp
      have z3 : decide (c ≠ a) = decide (a ≠ c) := by rw [decide_eq_decide]; exact ⟨fun h e => h e.symm, fun h e => h e.symm⟩
      rw [z3] at z1
      have Z0 := Lib.hid z0; have Z1 := Lib.hid z1; have Z2 := Lib.hid z2
      clear bc oc z0 z1 z2 z3
      go_wp2_with fail
      go_loopw [11, 12, 41] (InRel a c wc) (fun _ _ v _ => 18 - (intOf v).toNat)
      case atStart => exact ⟨0, by omega, rfl, rfl, rfl, Below.refl _ _⟩
      case round =>
        obtain ⟨j, hj, rfl, rfl, rfl, hbj⟩ := hrel
        have HBJ := Lib.hid hbj
        by_cases hltj : j < 18
        · obtain ⟨gx, ox, rfl, hx⟩ := (OBC.out.below hbj).has.at j hltj
          obtain ⟨gy, oy, rfl, hy⟩ := (OC.out.below hbj).has.at j hltj
          rw [digI_at a 18 j hltj] at hx
          rw [digI_at c 18 j hltj] at hy
          have d1 := Ot.digit_lt a j
          have e1 : lessTo a c (j + 1) = (lessTo a c j || decide (Ot.digit a j < Ot.digit c j)) := rfl
          have e2 : lessTo c a (j + 1) = (lessTo c a j || decide (Ot.digit c j < Ot.digit a j)) := rfl
          generalize Ot.digit a j = x at hx d1 e1 e2
          generalize Ot.digit c j = y at hy e1 e2
          generalize lessTo a c j = u at e1 ⊢
          generalize lessTo c a j = v at e2 ⊢
          have E1 := Lib.hid e1; have E2 := Lib.hid e2
          clear hbj e1 e2
          have q1 : decide ((x : Int) < 0) = false := decide_eq_false (by omega)
          have q2 : decide ((15 : Int) < (x : Int)) = false := decide_eq_false (by omega)
          cases u
          · cases v
            · go_wp2_with fail
              go_quiet (fail)
              go_wp2_with fail
              go_roundw
              case rel => exact ⟨j + 1, by omega, by go_num, by rw [E1.out]; simp, by rw [E2.out]; simp, below_drewN HBJ.out _⟩
              case measure => simp [intOf]; omega
            · go_wp2_with fail
              go_quiet (fail)
              go_wp2_with fail
              go_roundw
              case rel => exact ⟨j + 1, by omega, by go_num, by rw [E1.out]; simp, by rw [E2.out]; simp, below_drewN HBJ.out _⟩
              case measure => simp [intOf]; omega
          · cases v
            · go_wp2_with fail
              go_quiet (fail)
              go_wp2_with fail
              go_roundw
              case rel => exact ⟨j + 1, by omega, by go_num, by rw [E1.out]; simp, by rw [E2.out]; simp, below_drewN HBJ.out _⟩
              case measure => simp [intOf]; omega
            · go_wp2_with fail
              go_quiet (fail)
              go_wp2_with fail
              go_roundw
              case rel => exact ⟨j + 1, by omega, by go_num, by rw [E1.out]; simp, by rw [E2.out]; simp, below_drewN HBJ.out _⟩
              case measure => simp [intOf]; omega
        · obtain rfl : j = 18 := by omega
          clear hbj
          have e0 := Z0.out; have e1 := Z1.out; have e2 := Z2.out
          rw [e0, e1]
          generalize decide (a ≠ c) = z at e2
          clear e0 e1
          go_wp2_with fail
          go_roundw
          case rel => exact ⟨k + 1, by omega, by go_num, BC.out.trans (HBJ.out.mono BC.out.size)⟩
          case measure => simp [intOf]; omega
    · obtain rfl : k = 4 := by omega
      have EB := Lib.hid (BA.out.trans (hbr.mono BA.out.size))
      clear hbr
      go_wp2_with fail
      refine (awake_any _).mono ?_; rintro e w6 ⟨rfl, hb6⟩
      have B6 := Lib.hid (EB.out.trans (hb6.mono EB.out.size)); clear hb6
      go_wp2_with fail
      go_ret
      exact ⟨rfl, B6.out⟩
end onetimeForward
end Go.Proofs.Ytmddapdeefdjgaa
