/-
  What Seed, leaves and Root of the chapter of rings return. Nothing that was there has changed. No condition.
-/
import Derived.Test.YthkkjocmglcjnaaRefKeys
import Derived.Test.YthkkjocmglcjnaaKr
import Derived.Test.YthkkjocmglcjnaaRefPath
import Derived.Test.YthkkjocmglcjnaaRefRoot
namespace Go.Proofs.Ythkkjocmglcjnaa
open Go.ChangeShapes Go.WideShapes Go.ChangeAt Go.RowKit
open Dg (W B)
theorem rkseed_any (s : W) (c : Int) (w : World) :
    Calls Try.prog 15 #[.int .u64 (uv s), .int .i64 c] w fun e w' => e = .returned (.int .u64 (uv (Kr.seed s (ofI c)))) ∧ Below w.heap.size w w' := by
  have h9 : ofI 9 = 9#64 := by decide
  have C := Lib.hid (numbers_two s 9 c w)
  have H9 := Lib.hid h9; clear h9
  go_enter Try.func15, Try.ntmps15
  go_wp2_with fail
  refine (C.out).mono ?_; rintro e w' ⟨rfl, hb⟩
  have HB := Lib.hid hb; clear hb
  go_wp2_with fail
  go_ret
  exact ⟨by rw [Kr.seed, ← H9.out]; rfl, HB.out⟩
theorem rkseed_to (s : W) (c : Nat) (w : World) :
    Calls Try.prog 15 #[.int .u64 (uv s), .int .i64 (c : Int)] w fun e w' => e = .returned (.int .u64 (uv (Kr.seed s (Ot.num c)))) ∧ Below w.heap.size w w' := by
  rw [← ofI_num]; exact rkseed_any s c w
def RingRel (s : W) (n : Nat) (w : World) (v i : Value) (wr : World) : Prop := ∃ k : Nat, k ≤ n ∧ i = .int .i64 (k : Int) ∧ OwnW w.heap.size wr v (Kr.leaves s k) ∧ Below w.heap.size w wr
set_option maxHeartbeats 1000000 in
theorem rkleaves_any (s : W) (n : Nat) (hn : n ≤ 64) (w : World) :
    Calls Try.prog 26 #[.int .u64 (uv s), .int .i64 (n : Int)] w fun e w' => ∃ v, e = .returned v ∧ OwnW w.heap.size w' v (Kr.leaves s n) ∧ Below w.heap.size w w' := by
  go_enter Try.func26, Try.ntmps26
  go_wp2
  go_loopw [5, 8] (RingRel s n w) (fun _ i _ => n - (intOf i).toNat)
  case atStart => exact ⟨0, by omega, rfl, World.ownsRow_nil _ _ _ _, Below.refl _ _⟩
  case round =>
    obtain ⟨k, hk, rfl, ho, hb⟩ := hrel
    have HO := Lib.hid ho; have HB := Lib.hid hb
    by_cases hlt : k < n
    · have hz : IntKind.u64.wrap (k : Int) = uv (Ot.num k) := by rw [← ofI_num]; exact wrap_word _
      have t1 : (k : Int) < (n : Int) := by omega
      have hln := Kr.leaves_len s k
      have HLN := Lib.hid hln
      clear ho hb hln
      go_wp2_with fail
      refine (rkseed_to s k _).mono ?_; rintro e w1 ⟨rfl, hb1⟩
      have O1 := Lib.hid (HO.out.below hb1); have B1 := Lib.hid (HB.out.trans (hb1.mono HB.out.size)); clear hb1
      go_wp2_with fail
      refine (rpublic_any (Kr.seed s (Ot.num k)) _).mono ?_; rintro e w2 ⟨rfl, hb2⟩
      have O2 := Lib.hid (O1.out.below hb2); have B2 := Lib.hid (B1.out.trans (hb2.mono B1.out.size)); clear hb2
      go_wp2_with fail
      refine (rpair_any (Ot.num k) (Ot.publicW (Kr.seed s (Ot.num k))) _).mono ?_; rintro e w' ⟨rfl, rfl⟩
      go_wp2_with (at_builtin; refine wpList_append_word rfl (.tmp 11) (.tmp 19) rfl w.heap.size _ (Kr.leaves s k) (Kr.leaf s k) w2.heap.size 1 rfl (O2.out.alloc _) rfl (alloc_word _ _ _) (by rw [HLN.out]; omega) ?c1 ?_)
      case c1 => have := B2.out.size; simp; omega
      intro g3 cap3 w3 own3 grow3
      have BEL := Lib.hid (below_grown (B2.out.alloc B2.out.size _) (by have := B2.out.size; simp; omega) (O2.out.alloc _) grow3)
      have OWN := Lib.hid own3
      clear own3 grow3
      go_wp2_with fail
      go_roundw
      case rel => exact ⟨k + 1, by omega, by go_num, by rw [Kr.leaves_succ]; exact OWN.out, BEL.out⟩
      case measure => simp [intOf]; omega
    · obtain rfl : k = n := by omega
      clear ho hb
      go_wp2_with fail
      go_ret
      exact ⟨_, rfl, HO.out, HB.out⟩
def RingRoot (s : W) (n : Int) (w : World) (e : Ending) (w' : World) : Prop :=
  e = .returned (.tuple #[.int .u64 (if 1 ≤ n ∧ n ≤ 64 then uv (Kr.root s n.toNat) else 0), .int .i64 (if 1 ≤ n ∧ n ≤ 64 then 0 else 2)]) ∧ Below w.heap.size w w'
theorem rkroot_any (s : W) (n : Int) (w : World) : Calls Try.prog 13 #[.int .u64 (uv s), .int .i64 n] w (RingRoot s n w) := by
  unfold RingRoot
  by_cases h : 1 ≤ n ∧ n ≤ 64
  · simp only [if_pos h]
    obtain ⟨m, rfl⟩ : ∃ m : Nat, n = m := ⟨n.toNat, by omega⟩
    have t1 : decide ((m : Int) < 1) = false := by simp; omega
    have t2 : decide ((64 : Int) < (m : Int)) = false := by simp; omega
    have h64 : m ≤ 64 := by omega
    clear h
    go_enter Try.func13, Try.ntmps13
    go_wp2_with fail
    refine (rkleaves_any s m h64 _).mono ?_; rintro e w1 ⟨v, rfl, o1, b1⟩
    have B1 := Lib.hid b1; have O1 := Lib.hid o1; clear b1 o1
    go_wp2_with fail
    refine (rroot_any (Kr.leaves s m) _ _ _ (by rw [Kr.leaves_len]; omega) O1.out.has).mono ?_; rintro e w' ⟨rfl, k, rfl⟩
    go_wp2_with fail
    go_ret2
    exact ⟨rfl, below_drewN B1.out k⟩
  · simp only [if_neg h]
    by_cases h1 : n < 1
    · have t1 : decide (n < 1) = true := by simpa using h1
      clear h
      go_enter Try.func13, Try.ntmps13
      go_wp2_with fail
      go_ret2
      exact ⟨rfl, Below.refl _ _⟩
    · have t1 : decide (n < 1) = false := by simpa using h1
      have t2 : decide (64 < n) = true := by simp; omega
      clear h
      go_enter Try.func13, Try.ntmps13
      go_wp2_with fail
      go_ret2
      exact ⟨rfl, Below.refl _ _⟩
end Go.Proofs.Ythkkjocmglcjnaa
