/-
  Package message: kinds, ranges, fields; the ends of Bit. Each says its own conditions; nothing that was there has changed.
-/
import Derived.Test.YtgkckomccabmlaaGreatDoorLmA
import Derived.Test.YtgkckomccabmlaaGreatDoorLmB
import Derived.Deep.RegionHeld3
import Derived.Deep.DeepCutAuto
import Derived.Deep.CutBlock
import Derived.Maps.OwnSet
namespace Go.Proofs.YtgkckomccabmlaaGreatDoor
open Go.ChangeShapes Go.WideShapes Go.ChangeAt Go.RowKit
open Go.Maps (Keyed has IsMap)
open Dg (W B)
theorem wpList_insert_own {H : Type} {P : Program} (w : World) {ops : Array Oper} {rest : List Oper} {o : Oper} {a : Act} {Q : Exit → Act → World → Prop}
    (hg : o.guard = none) (m x v : Operand) (t : TypeId) (hop : o.op = Op.insert t m x v)
    (k e : TypeId) (K : Keyed P k) (ht : P.underlying t = some (.map k e)) (R : Value → Option (DataW H × List MemPlace)) (b n : Nat) (D : DataW H)
    (hm : a.eval m = .map (some b)) (hown : w.ownsMap P k R b n D) (hn : n < maxLen) (key val : Value) (kl : Lit) (hx : a.eval x = key) (hv : a.eval v = val) (hkey : keyOf P k key = some kl)
    (d : DataW H) (ps : List MemPlace) (hval : R val = some (d, ps))
    (hK : ∀ w', w'.ownsMap P k R b (n + 1) (D.put kl d) → w.grownBy w' (some b) → wpList P ops Q rest (a.put o.dst undef) w') :
    wpList P ops Q (o :: rest) a w := by
  refine wpList_plain hg fun K' hK' => ?_
  obtain ⟨w', hrun, r1, r2⟩ := hown.update K ht hn hkey hval
  unfold Oper.wp
  simp [execOp, hop, hm, hx, hv, hrun, Result.andThen]
  exact hK' _ _ (hK w' r1 r2)
/-! ### the ends of Bit -/
/-- each element reads as itself -/
def heldR (v : Value) : Option (DataW Value × List MemPlace) := some (.held v, [])
def endV (l g : Int) : Value := .agg #[.int .i64 l, .int .i64 g]
def bitD : DataW Value := ((((DataW.map []).put (.int .i64 7) (.held (endV 0 1))).put (.int .i64 8) (.held (endV 0 1))).put (.int .i64 9) (.held (endV 1 3))).put (.int .i64 11) (.held (endV 0 1))
theorem lawInt : Keyed Tryz.prog 3 := Maps.int_keyed Tryz.underlying3
theorem grownBelow {w0 w w' : World} (h : Below w0.heap.size w0 w) (hg : w.grownBy w' (some w0.heap.size)) : Below w0.heap.size w0 w' := h.grown hg h.size (fun j hj => by cases hj; exact Nat.le_refl _)
set_option maxRecDepth 100000 in
theorem bits_any (w : World) : Calls Tryz.prog 34 #[] w fun e w' => ∃ b, e = .returned (.map (some b)) ∧ World.ownsMap w' Tryz.prog 3 heldR b 4 bitD ∧ Below w.heap.size w w' := by
  have hmm := @run_makeMap Tryz.prog
  have b0 := (Below.refl w.heap.size w).alloc (Nat.le_refl _) (.map #[] 0)
  obtain ⟨w1, e1, o1, g1⟩ := (World.ownsMap_made w Tryz.prog 3 heldR).update lawInt Tryz.underlying71 (by unfold maxLen; omega) (Maps.keyOf_int_mk Tryz.underlying3 (a := 7) (by decide)) (show heldR (.agg #[.int .i64 0, .int .i64 1]) = some (.held (endV 0 1), []) from rfl)
  have b1 := grownBelow b0 g1
  obtain ⟨w2, e2, o2, g2⟩ := o1.update lawInt Tryz.underlying71 (by unfold maxLen; omega) (Maps.keyOf_int_mk Tryz.underlying3 (a := 8) (by decide)) (show heldR (.agg #[.int .i64 0, .int .i64 1]) = some (.held (endV 0 1), []) from rfl)
  have b2 := grownBelow b1 g2
  obtain ⟨w3, e3, o3, g3⟩ := o2.update lawInt Tryz.underlying71 (by unfold maxLen; omega) (Maps.keyOf_int_mk Tryz.underlying3 (a := 9) (by decide)) (show heldR (.agg #[.int .i64 1, .int .i64 3]) = some (.held (endV 1 3), []) from rfl)
  have b3 := grownBelow b2 g3
  obtain ⟨w4, e4, o4, g4⟩ := o3.update lawInt Tryz.underlying71 (by unfold maxLen; omega) (Maps.keyOf_int_mk Tryz.underlying3 (a := 11) (by decide)) (show heldR (.agg #[.int .i64 0, .int .i64 1]) = some (.held (endV 0 1), []) from rfl)
  have b4 := grownBelow b3 g4
  have M4 := Lib.hid o4; have B4 := Lib.hid b4
  clear o1 o2 o3 o4 g1 g2 g3 g4 b0 b1 b2 b3 b4
  go_enter Tryz.func34, Tryz.ntmps34
  go_wp2_with fail
  go_ret
  exact ⟨_, rfl, M4.out, B4.out⟩
theorem kn_cases {kn : Nat} (h : 1 ≤ kn ∧ kn ≤ 12) : kn = 1 ∨ kn = 2 ∨ kn = 3 ∨ kn = 4 ∨ kn = 5 ∨ kn = 6 ∨ kn = 7 ∨ kn = 8 ∨ kn = 9 ∨ kn = 10 ∨ kn = 11 ∨ kn = 12 := by omega
def lo (kn : Nat) : Int := if Ms.fBit kn then Ms.low kn else 0
def hi (kn : Nat) : Int := if Ms.fBit kn then Ms.high kn else 0
theorem zeroEnd (w : World) : (zeroValue 69).run Tryz.prog w = .ok (endV 0 0) w := by kernel_rfl
theorem bit_at {kn : Nat} (h : 1 ≤ kn ∧ kn ≤ 12) : bitD.atKey (.int .i64 (kn : Int)) (.held (endV 0 0)) = .held (endV (lo kn) (hi kn)) := by rcases kn_cases h with rfl | rfl | rfl | rfl | rfl | rfl | rfl | rfl | rfl | rfl | rfl | rfl <;> rfl
theorem bit_has {kn : Nat} (h : 1 ≤ kn ∧ kn ≤ 12) : has bitD (.int .i64 (kn : Int)) = Ms.fBit kn := by rcases kn_cases h with rfl | rfl | rfl | rfl | rfl | rfl | rfl | rfl | rfl | rfl | rfl | rfl <;> rfl
theorem wpList_lookup_bits {ops : Array Oper} {rest : List Oper} {o : Oper} {a : Act} {Q : Exit → Act → World → Prop} (w : World) (hg : o.guard = none) (m x : Operand) (hop : o.op = Op.lookup 71 m x true)
    (mb : Nat) (hm : a.eval m = .map (some mb)) (hown : w.ownsMap Tryz.prog 3 heldR mb 4 bitD) (kn : Nat) (h : 1 ≤ kn ∧ kn ≤ 12) (hx : a.eval x = .int .i64 (kn : Int)) (l g : Int) (b : Bool) (hl : lo kn = l) (hh : hi kn = g) (hb : Ms.fBit kn = b)
    (h1 : wpList Tryz.prog ops Q rest (a.put o.dst (.tuple #[.agg #[.int .i64 l, .int .i64 g], .bool b])) w) :
    wpList Tryz.prog ops Q (o :: rest) a w := by
  subst hl; subst hh; subst hb
  refine wpList_lookup_own_ok w hg m x _ hop 3 69 lawInt Tryz.underlying71 heldR (zeroEnd w) (.held (endV 0 0)) [] rfl mb 4 bitD hm hown _ (.int .i64 (kn : Int)) hx (Maps.keyOf_int_mk Tryz.underlying3 (WalkArith.wf_i64 (by omega))) (fun v ps hv => ?_)
  have hv2 : DataW.held v = bitD.atKey (.int .i64 (kn : Int)) (.held (endV 0 0)) := by
    have := congrArg (fun z => z.map Prod.fst) hv
    simpa [heldR] using this
  rw [bit_at h] at hv2
  cases hv2
  rw [bit_has h]
  exact h1
end Go.Proofs.YtgkckomccabmlaaGreatDoor
namespace Go.Proofs.YtgkckomccabmlaaGreatDoor
open Go.ChangeShapes Go.WideShapes Go.ChangeAt Go.RowKit
open Go.Maps (Keyed has IsMap)
open Dg (W B)
open Ms (Msg)
set_option linter.unusedVariables false
def btw (n l g : Int) : Bool := decide (l ≤ n) && decide (n ≤ g)
theorem iskind_any (k : Int) (w : World) : Calls Tryz.prog 28 #[.int .i64 k] w fun e w' => e = .returned (.bool (btw k 1 12)) ∧ w = w' := by
  unfold btw
  cases h1 : decide ((1 : Int) ≤ k) <;> cases h2 : decide (k ≤ (12 : Int))
  all_goals
    go_enter Tryz.func28, Tryz.ntmps28
    go_wp2_with fail
    go_ret
    exact ⟨rfl, rfl⟩
theorem between_any (n l g : Int) (w : World) : Calls Tryz.prog 61 #[.int .i64 n, .int .i64 l, .int .i64 g] w fun e w' => e = .returned (.bool (btw n l g)) ∧ w = w' := by
  unfold btw
  cases h1 : decide (l ≤ n) <;> cases h2 : decide (n ≤ g)
  all_goals
    go_enter Tryz.func61, Tryz.ntmps61
    go_wp2_with fail
    go_ret
    exact ⟨rfl, rfl⟩
/-- whether a kind has the fields of a set -/
def hasF (kn : Nat) (f : Int) : Bool := bits .and .i64 (Ms.fb kn) f != 0
theorem hasF_round {kn : Nat} (h : 1 ≤ kn ∧ kn ≤ 12) : hasF kn 1 = Ms.fRound kn := by rcases kn_cases h with rfl | rfl | rfl | rfl | rfl | rfl | rfl | rfl | rfl | rfl | rfl | rfl <;> decide
theorem hasF_root {kn : Nat} (h : 1 ≤ kn ∧ kn ≤ 12) : hasF kn 2 = Ms.fRoot kn := by rcases kn_cases h with rfl | rfl | rfl | rfl | rfl | rfl | rfl | rfl | rfl | rfl | rfl | rfl <;> decide
theorem hasF_len {kn : Nat} (h : 1 ≤ kn ∧ kn ≤ 12) : hasF kn 4 = Ms.fLen kn := by rcases kn_cases h with rfl | rfl | rfl | rfl | rfl | rfl | rfl | rfl | rfl | rfl | rfl | rfl <;> decide
theorem hasF_data {kn : Nat} (h : 1 ≤ kn ∧ kn ≤ 12) : hasF kn 8 = Ms.fData kn := by rcases kn_cases h with rfl | rfl | rfl | rfl | rfl | rfl | rfl | rfl | rfl | rfl | rfl | rfl <;> decide
theorem hasF_path {kn : Nat} (h : 1 ≤ kn ∧ kn ≤ 12) : hasF kn 16 = Ms.fPath kn := by rcases kn_cases h with rfl | rfl | rfl | rfl | rfl | rfl | rfl | rfl | rfl | rfl | rfl | rfl <;> decide
theorem has_any (kn : Nat) (hk : 1 ≤ kn ∧ kn ≤ 12) (epoch inst round bit : Int) (root : W) (len : Int) (dv pv : Value) (f : Int) (w : World) (ht : Tab w) :
    Calls Tryz.prog 33 #[.agg #[.int .i64 (kn : Int), .int .i64 epoch, .int .i64 inst, .int .i64 round, .int .i64 bit, .int .u64 (uv root), .int .i64 len, dv, pv], .int .i64 f] w fun e w' => e = .returned (.bool (hasF kn f)) ∧ Below w.heap.size w w' := by
  have b0 : Below w.heap.size w (w.alloc (.cells #[.int .i64 (kn : Int), .int .i64 epoch, .int .i64 inst, .int .i64 round, .int .i64 bit, .int .u64 (uv root), .int .i64 len, dv, pv] 27)) := (Below.refl _ _).alloc (Nat.le_refl _) _
  have B0 := Lib.hid b0
  have k13 : kn < 13 := by omega
  have hc := ((ht.below b0).kinds.2 kn k13).2
  have k13I : (kn : Int) < 13 := by omega
  have k0I : (0 : Int) ≤ (kn : Int) := by omega
  unfold hasF
  generalize Ms.fb kn = z at hc
  clear ht b0 hk
  go_enter Tryz.func33, Tryz.ntmps33
  go_wp2_with fail
  go_ret
  exact ⟨rfl, B0.out⟩
end Go.Proofs.YtgkckomccabmlaaGreatDoor
namespace Go.Proofs.YtgkckomccabmlaaGreatDoor
open Go.ChangeShapes Go.WideShapes Go.ChangeAt Go.RowKit
open Go.Maps (Keyed has IsMap)
open Dg (W B)
open Ms (Msg)
set_option linter.unusedVariables false
theorem look_bits (w : World) (mb : Nat) (hown : w.ownsMap Tryz.prog 3 heldR mb 4 bitD) (kn : Nat) (h : 1 ≤ kn ∧ kn ≤ 12) (l g : Int) (b : Bool) (hl : lo kn = l) (hh : hi kn = g) (hb : Ms.fBit kn = b) :
    (Instr.lookup 71 (.map (some mb)) (.int .i64 (kn : Int)) true).run Tryz.prog w = .ok (.tuple #[.agg #[.int .i64 l, .int .i64 g], .bool b]) w := by
  subst hl; subst hh; subst hb
  obtain ⟨v, ps, hrun, hv⟩ := hown.look_ok lawInt Tryz.underlying71 (zeroEnd w) (zd := .held (endV 0 0)) (zp := []) rfl (kl := .int .i64 (kn : Int)) (Maps.keyOf_int_mk Tryz.underlying3 (WalkArith.wf_i64 (by omega)))
  have hv2 : DataW.held v = bitD.atKey (.int .i64 (kn : Int)) (.held (endV 0 0)) := by
    have := congrArg (fun z => z.map Prod.fst) hv
    simpa [heldR] using this
  rw [bit_at h] at hv2
  cases hv2
  rw [bit_has h] at hrun
  exact hrun
theorem below_pair {N : Nat} (w : World) (o o' : Obj) (hN : N ≤ w.heap.size) : Below N (w.alloc o) (w.alloc o') := by
  have h := (Below.refl N w).alloc hN o
  have h' := (Below.refl N w).alloc hN o'
  exact ⟨rfl, rfl, rfl, by simp, fun k hk => (h'.block k hk).trans (h.block k hk).symm⟩
theorem ownsKept {w w' : World} {mb n : Nat} {D : DataW Value} (h : w.ownsMap Tryz.prog 3 heldR mb n D) (hb : Below w.heap.size w w') : w'.ownsMap Tryz.prog 3 heldR mb n D := by
  obtain ⟨es, clock, h1, h2⟩ := h
  exact ⟨es, clock, (hb.block mb (by rcases Nat.lt_or_ge mb w.heap.size with h3 | h3; exact h3; rw [Array.getElem?_eq_none h3] at h1; cases h1)).trans h1, h2⟩
end Go.Proofs.YtgkckomccabmlaaGreatDoor
