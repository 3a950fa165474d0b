/-
  Which messages are valid, by package message. Nothing that was there has changed. Condition: the tables hold what their initialisers lay.
-/
import Derived.Test.YtgkckomccabmlaaGreatDoorMvRb
import Derived.Test.YtgkckomccabmlaaGreatDoorMvRc
import Derived.Test.YtgkckomccabmlaaGreatDoorLmB
namespace Go.Proofs.YtgkckomccabmlaaGreatDoor
open Go.ChangeShapes Go.WideShapes Go.ChangeAt Go.RowKit
open Dg (W B)
open Ms (Msg)
set_option linter.unusedVariables false
def inR (kn : Nat) (epoch inst round bit len : Int) : Bool := btw epoch 0 1048576 && (btw inst 0 15 && ((!Ms.fRound kn || btw round 0 63) && ((!Ms.fLen kn || btw len 0 4096) && (!Ms.fBit kn || btw bit (lo kn) (hi kn)))))
def onlyF (kn : Nat) (round bit : Int) (root : W) (len : Int) (nd np : Nat) : Bool := (Ms.fRound kn || round == 0) && ((Ms.fRoot kn || uv root == 0) && ((Ms.fLen kn || len == 0) && ((Ms.fData kn || (nd : Int) == 0) && ((Ms.fPath kn || (np : Int) == 0) && (Ms.fBit kn || bit == 0)))))
theorem bad_place (kn : Nat) (epoch inst round bit : Int) (root : W) (len : Int) (data : List B) (path : List W) :
    (Ms.badPlace ⟨kn, epoch, inst, round, bit, root, len, data, path⟩ || Ms.badRange ⟨kn, epoch, inst, round, bit, root, len, data, path⟩) = !inR kn epoch inst round bit len := by
  have hx : ∀ n l g : Int, btw n l g = (!(decide (n < l) || decide (g < n))) := by
    intro n l g
    unfold btw
    rw [Bool.eq_iff_iff]; simp
  have h16 : decide ((16 : Int) ≤ inst) = decide ((15 : Int) < inst) := by rw [Bool.eq_iff_iff]; simp; omega
  have h64 : decide ((64 : Int) ≤ round) = decide ((63 : Int) < round) := by rw [Bool.eq_iff_iff]; simp; omega
  unfold Ms.badPlace Ms.badRange inR
  simp only [hx, h16, h64, Bool.not_and, Bool.not_or, Bool.not_not]
  cases hfb : Ms.fBit kn
  · simp only [Bool.false_and, Bool.or_false]
    ac_rfl
  · have e1 : lo kn = Ms.low kn := by unfold lo; rw [if_pos hfb]
    have e2 : hi kn = Ms.high kn := by unfold hi; rw [if_pos hfb]
    rw [e1, e2]
    simp only [Bool.true_and]
    ac_rfl
theorem bad_field (kn : Nat) (epoch inst round bit : Int) (root : W) (len : Int) (data : List B) (path : List W) :
    Ms.badField ⟨kn, epoch, inst, round, bit, root, len, data, path⟩ = !onlyF kn round bit root len data.length path.length := by
  have hu : (uv root == 0) = (root == 0#64) := by
    rw [Bool.eq_iff_iff, beq_iff_eq, beq_iff_eq]
    exact ⟨fun h => uv_inj.1 (by rw [h]; rfl), fun h => by rw [h]; rfl⟩
  have hd : ∀ n : Nat, decide (0 < n) = !((n : Int) == 0) := by
    intro n
    rw [Bool.eq_iff_iff]; simp; omega
  unfold Ms.badField onlyF
  simp only [hu, hd, bne, Bool.not_and, Bool.not_or]
  ac_rfl
theorem valid_eq (kn : Nat) (hk : 1 ≤ kn ∧ kn ≤ 12) (epoch inst round bit : Int) (root : W) (len : Int) (data : List B) (path : List W) :
    Ms.valid ⟨kn, epoch, inst, round, bit, root, len, data, path⟩ = if inR kn epoch inst round bit len = false then 2 else if 4096 < data.length ∨ 10 < path.length then 3 else if onlyF kn round bit root len data.length path.length = false then 1 else 0 := by
  unfold Ms.valid
  rw [bad_place, bad_field]
  have h0 : Ms.badKind ⟨kn, epoch, inst, round, bit, root, len, data, path⟩ = false := by
    unfold Ms.badKind
    rw [Bool.or_eq_false_iff, decide_eq_false_iff_not, decide_eq_false_iff_not]
    dsimp only
    omega
  rw [h0]
  have hs : Ms.badSize ⟨kn, epoch, inst, round, bit, root, len, data, path⟩ = decide (4096 < data.length ∨ 10 < path.length) := by
    unfold Ms.badSize
    rw [Bool.eq_iff_iff]; simp
  rw [hs]
  cases inR kn epoch inst round bit len <;> cases onlyF kn round bit root len data.length path.length <;> simp
set_option maxRecDepth 100000 in
set_option maxHeartbeats 1000000 in
theorem mvalid_raw (m : Msg) (ad : Option Addr) (nd cd : Nat) (ap : Option Addr) (np cp : Nat) (w : World) (hnd : nd = m.data.length) (hnp : np = m.path.length) (ht : Tab w) :
    Calls Tryz.prog 13 #[msgV m (.slice ad nd cd) (.slice ap np cp)] w fun e w' => e = .returned (.int .i64 (Ms.valid m : Int)) ∧ Below w.heap.size w w' := by
  obtain ⟨kind, epoch, inst, round, bit, root, len, data, path⟩ := m
  have b0 : Below w.heap.size w (w.alloc (.cells #[.int .i64 kind, .int .i64 epoch, .int .i64 inst, .int .i64 round, .int .i64 bit, .int .u64 (uv root), .int .i64 len, .slice ad nd cd, .slice ap np cp] 27)) := (Below.refl _ _).alloc (Nat.le_refl _) _
  have R := Lib.hid (RecN.new w #[.int .i64 kind, .int .i64 epoch, .int .i64 inst, .int .i64 round, .int .i64 bit, .int .u64 (uv root), .int .i64 len, .slice ad nd cd, .slice ap np cp] 27)
  have TT := Lib.hid (ht.below b0)
  have BB := Lib.hid b0
  have CK := Lib.hid fun w' => iskind_any kind w'
  dsimp only at hnd hnp
  unfold msgV
  clear ht b0
  by_cases hk : 1 ≤ kind ∧ kind ≤ 12
  · obtain ⟨kn, rfl⟩ : ∃ kn : Nat, kind = (kn : Int) := ⟨kind.toNat, by omega⟩
    have hkn : 1 ≤ kn ∧ kn ≤ 12 := by omega
    rw [show btw (kn : Int) 1 12 = true by unfold btw; rw [decide_eq_true hk.1, decide_eq_true hk.2]; rfl] at CK
    have CI := Lib.hid fun (w' : World) (h : Tab w') => inrange_any kn hkn epoch inst round bit root len ad nd cd ap np cp w' h
    have CO := Lib.hid fun (w' : World) (h : Tab w') => honly_any kn hkn epoch inst round bit root len ad nd cd ap np cp w' h
    have hv := valid_eq kn hkn epoch inst round bit root len data path
    rw [← hnd, ← hnp] at hv
    unfold inR onlyF at hv
    obtain ⟨vl, hvl⟩ : ∃ vl, vl = Ms.valid ⟨kn, epoch, inst, round, bit, root, len, data, path⟩ := ⟨_, rfl⟩
    rw [← hvl] at hv ⊢
    generalize (btw epoch 0 1048576 && (btw inst 0 15 && ((!Ms.fRound kn || btw round 0 63) && ((!Ms.fLen kn || btw len 0 4096) && (!Ms.fBit kn || btw bit (lo kn) (hi kn)))))) = ci at CI hv
    generalize ((Ms.fRound kn || round == 0) && ((Ms.fRoot kn || uv root == 0) && ((Ms.fLen kn || len == 0) && ((Ms.fData kn || (nd : Int) == 0) && ((Ms.fPath kn || (np : Int) == 0) && (Ms.fBit kn || bit == 0)))))) = co at CO hv
    have HV := Lib.hid hv
    clear hv hvl hnd hnp hk hkn
    have x0 := R.out.c 0 rfl; have x1 := R.out.c 1 rfl; have x2 := R.out.c 2 rfl; have x3 := R.out.c 3 rfl; have x4 := R.out.c 4 rfl; have x5 := R.out.c 5 rfl; have x6 := R.out.c 6 rfl; have x7 := R.out.c 7 rfl; have x8 := R.out.c 8 rfl
    go_enter Tryz.func13, Tryz.ntmps13
    go_wp2_with fail
    refine (CK.out _).mono ?_; rintro e w' ⟨rfl, rfl⟩
    go_wp2_with fail
    refine (CI.out _ TT.out).mono ?_; rintro e w1 ⟨rfl, b1⟩
    have R1 := Lib.hid (R.out.below b1 R.out.1); have T1 := Lib.hid (TT.out.below b1); have B1 := Lib.hid (BB.out.trans (b1.mono BB.out.size))
    clear R TT BB b1 x0 x1 x2 x3 x4 x5 x6 x7 x8
    have x0 := R1.out.c 0 rfl; have x1 := R1.out.c 1 rfl; have x2 := R1.out.c 2 rfl; have x3 := R1.out.c 3 rfl; have x4 := R1.out.c 4 rfl; have x5 := R1.out.c 5 rfl; have x6 := R1.out.c 6 rfl; have x7 := R1.out.c 7 rfl; have x8 := R1.out.c 8 rfl
    cases ci
    · go_wp2_with fail
      go_ret
      have e2 : vl = 2 := by rw [HV.out]; simp
      exact ⟨by rw [e2]; rfl, B1.out⟩
    · by_cases hb : 4096 < nd ∨ 10 < np
      · have HB := Lib.hid hb
        by_cases h1 : 4096 < nd
        · have t1 : decide ((4096 : Int) < (nd : Int)) = true := decide_eq_true (by omega)
          clear hb
          go_wp2_with fail
          go_ret
          exact ⟨by rw [HV.out, if_neg (by simp), if_pos HB.out]; rfl, B1.out⟩
        · have t1 : decide ((4096 : Int) < (nd : Int)) = false := decide_eq_false (by omega)
          have t2 : decide ((10 : Int) < (np : Int)) = true := decide_eq_true (by omega)
          clear hb
          go_wp2_with fail
          go_ret
          exact ⟨by rw [HV.out, if_neg (by simp), if_pos HB.out]; rfl, B1.out⟩
      · have HB := Lib.hid hb
        have t1 : decide ((4096 : Int) < (nd : Int)) = false := decide_eq_false (by omega)
        have t2 : decide ((10 : Int) < (np : Int)) = false := decide_eq_false (by omega)
        clear hb
        go_wp2_with fail
        refine (CO.out _ T1.out).mono ?_; rintro e w2 ⟨rfl, b2⟩
        have B2 := Lib.hid (B1.out.trans (b2.mono B1.out.size))
        clear b2
        cases co
        · go_wp2_with fail
          go_ret
          have e1 : vl = 1 := by rw [HV.out, if_neg (by simp), if_neg HB.out]; simp
          exact ⟨by rw [e1]; rfl, B2.out⟩
        · go_wp2_with fail
          go_ret
          exact ⟨by rw [HV.out, if_neg (by simp), if_neg HB.out, if_neg (by simp)]; rfl, B2.out⟩
  · have e4 : Ms.valid ⟨kind, epoch, inst, round, bit, root, len, data, path⟩ = 4 := by
      unfold Ms.valid
      rw [show Ms.badKind ⟨kind, epoch, inst, round, bit, root, len, data, path⟩ = true from by unfold Ms.badKind; rw [Bool.or_eq_true, decide_eq_true_iff, decide_eq_true_iff]; dsimp only; omega]
      rfl
    rw [show btw kind 1 12 = false by unfold btw; rw [Bool.and_eq_false_iff, decide_eq_false_iff_not, decide_eq_false_iff_not]; omega] at CK
    rw [e4]
    have x0 := R.out.c 0 rfl
    clear hnd hnp hk e4
    go_enter Tryz.func13, Tryz.ntmps13
    go_wp2_with fail
    refine (CK.out _).mono ?_; rintro e w' ⟨rfl, rfl⟩
    go_wp2_with fail
    go_ret
    exact ⟨rfl, BB.out⟩
end Go.Proofs.YtgkckomccabmlaaGreatDoor
