/-
  What Digits of the chapter of one-time signatures returns: the 18 digits, in memory of its own. Nothing that was there has changed. No condition.
-/
import Derived.Test.YthkkjocmglcjnaaRefNum
namespace Go.Proofs.Ythkkjocmglcjnaa
open Go.ChangeShapes Go.WideShapes Go.ChangeAt Go.RowKit
open Dg (W B)

def digI (d : W) (k : Nat) : List Int := (List.range k).map fun j => (Ot.digit d j : Int)
theorem digI_len (d : W) (k : Nat) : (digI d k).length = k := by simp [digI]
theorem digI_succ (d : W) (k : Nat) : digI d (k + 1) = digI d k ++ [(Ot.digit d k : Int)] := by simp [digI, List.range_succ]
theorem digI_at (d : W) (n k : Nat) (h : k < n) : (digI d n).getD k 0 = (Ot.digit d k : Int) := by simp [digI, List.getD, h]
theorem digit_low (d : W) (k : Nat) (h : k < 16) : Ot.digit d k = Ot.dig d k := by simp [Ot.digit, h]
theorem nib_shift (d : W) (p s : Nat) (hs : s = 4 * p) : bits .and .u64 (uv d / (2 : Int) ^ s) 15 = ((Dg.nib d p : Nat) : Int) := by
  subst hs
  rw [uv_shr d (4 * p) _ (by simp)]
  have e := uv_and (d >>> (4 * p)) 15#64
  rw [show uv 15#64 = 15 by decide] at e
  rw [e]
  unfold uv Dg.nib
  rw [BitVec.toNat_and, show (15#64).toNat = 2 ^ 4 - 1 by decide, Nat.and_two_pow_sub_one_eq_mod]
theorem alloc_ints (w : World) (l : List Int) (cs : Array Value) (t : TypeId) (hc : cs = (l.map ival).toArray) (j : Nat) (hj : j < l.length) : (w.alloc (.cells cs t)).cell? ⟨w.heap.size, j, none⟩ = some (.int .i64 (l.getD j 0)) := by
  subst hc
  rw [World.cell?_alloc_new]
  simp [hj, ival]
def DigRel (d : W) (w : World) (out sum i : Value) (wr : World) : Prop := ∃ k : Nat, k ≤ 16 ∧ i = .int .i64 (60 - 4 * (k : Int)) ∧ OwnI w.heap.size wr out (digI d k) ∧ sum = .int .i64 (Ot.compTo d k : Int) ∧ Below w.heap.size w wr
set_option maxHeartbeats 1000000 in
theorem rdigits_any (d : W) (w : World) :
    Calls Try.prog 46 #[.int .u64 (uv d)] w fun e w' => ∃ v, e = .returned v ∧ OwnI w.heap.size w' v (digI d 18) ∧ Below w.heap.size w w' := by
  go_enter Try.func46, Try.ntmps46
  go_wp2
  go_loopw [3, 4, 5] (DigRel d w) (fun _ _ i _ => (intOf i + 4).toNat)
  case atStart => exact ⟨0, by omega, rfl, World.ownsRow_nil _ _ _ _, rfl, Below.refl _ _⟩
  case round =>
    obtain ⟨k, hk, rfl, ho, rfl, hb⟩ := hrel
    have HO := Lib.hid ho; have HB := Lib.hid hb
    have hc := Ot.compTo_le d k
    by_cases hlt : k < 16
    · obtain ⟨s, hs⟩ : ∃ s : Nat, 60 - 4 * (k : Int) = s := ⟨60 - 4 * k, by omega⟩
      rw [hs]
      have hs0 : IntKind.u64.wrap (s : Int) = (s : Int) := u64_in s (by omega)
      have hx := nib_shift d (15 - k) s (by omega)
      have hx16 : Dg.nib d (15 - k) < 16 := Ot.dig_lt d k
      have hdk : Ot.digit d k = Dg.nib d (15 - k) := digit_low d k hlt
      have hck : Ot.compTo d (k + 1) = Ot.compTo d k + (15 - Dg.nib d (15 - k)) := rfl
      generalize Dg.nib d (15 - k) = x at hx hx16 hdk hck
      generalize hcc : Ot.compTo d k = c at hc hck
      have hs60 : s ≤ 60 := by omega
      have HS := Lib.hid hs
      have HDK := Lib.hid hdk
      have HCK := Lib.hid hck
      clear ho hb hs hdk hck hcc
      go_wp2_with (at_builtin; refine wpList_append_ints rfl (.tmp 17) (.tmp 19) rfl w.heap.size _ (digI d k) [(x : Int)] wr.heap.size 1 1 rfl (World.ownsRow.alloc HO.out _) rfl rfl (by omega) (alloc_ints wr [(x : Int)] _ _ rfl) (by rw [digI_len]; omega) ?c1 ?_)
      case c1 => have := HB.out.size; simp; omega
      intro g3 cap3 w3 own3 grow3
      have BEL := Lib.hid (below_grownI (HB.out.alloc HB.out.size _) (by have := HB.out.size; simp; omega) (World.ownsRow.alloc HO.out _) grow3)
      have OWN := Lib.hid own3
      clear own3 grow3
      go_wp2_with fail
      go_roundw
      case rel => exact ⟨k + 1, by omega, by have := HS.out; congr 1; omega, by rw [digI_succ, HDK.out]; exact OWN.out, by rw [HCK.out]; congr 1; omega, BEL.out⟩
      case measure => have := HS.out; simp [intOf]; omega
    · obtain rfl : k = 16 := by omega
      have h16 : Ot.digit d 16 = Ot.compTo d 16 / 16 := rfl
      have h17 : Ot.digit d 17 = Ot.compTo d 16 % 16 := rfl
      generalize Ot.compTo d 16 = c at hc h16 h17
      have H16 := Lib.hid h16
      have H17 := Lib.hid h17
      clear ho hb h16 h17
      go_wp2_with (at_builtin; refine wpList_append_ints rfl (.tmp 25) (.tmp 30) rfl w.heap.size _ (digI d 16) [((c / 16 : Nat) : Int), ((c % 16 : Nat) : Int)] wr.heap.size 2 2 rfl (World.ownsRow.alloc HO.out _) rfl rfl (by omega) (alloc_ints wr [((c / 16 : Nat) : Int), ((c % 16 : Nat) : Int)] _ _ rfl) (by rw [digI_len]; omega) ?c2 ?_)
      case c2 => have := HB.out.size; simp; omega
      intro g3 cap3 w3 own3 grow3
      have BEL := Lib.hid (below_grownI (HB.out.alloc HB.out.size _) (by have := HB.out.size; simp; omega) (World.ownsRow.alloc HO.out _) grow3)
      have OWN := Lib.hid own3
      clear own3 grow3
      go_wp2_with fail
      go_ret
      have e : digI d 18 = digI d 16 ++ [((c / 16 : Nat) : Int), ((c % 16 : Nat) : Int)] := by
        rw [digI_succ, digI_succ, H16.out, H17.out, List.append_assoc]; rfl
      exact ⟨_, rfl, by rw [e]; exact OWN.out, BEL.out⟩
end Go.Proofs.Ythkkjocmglcjnaa
