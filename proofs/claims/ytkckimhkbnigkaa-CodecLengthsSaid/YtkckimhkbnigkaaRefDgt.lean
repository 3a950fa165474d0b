/-
  What PutDigest and Frame of the chapter of bytes return. Nothing that was there has changed. Condition: what they append to, and what they append, is shorter than a hundred million bytes.
-/
import Derived.Test.YtkckimhkbnigkaaRefPut
namespace Go.Proofs.Ytkckimhkbnigkaa
open Go.ChangeShapes Go.WideShapes Go.ChangeAt Go.RowKit
open Dg (W B)
theorem byte_mod (n : Nat) : Cd.byte (n % 256) = Cd.byte n := by unfold Cd.byte; apply BitVec.eq_of_toNat_eq; simp
theorem putD_take (d : W) (j s : Nat) (hj : j < 8) (hs : s = 56 - 8 * j) : (Cd.putD d).take (j + 1) = (Cd.putD d).take j ++ [Cd.byte (d.toNat / 2 ^ s)] := by
  subst hs
  rw [← byte_mod]
  have : j = 0 ∨ j = 1 ∨ j = 2 ∨ j = 3 ∨ j = 4 ∨ j = 5 ∨ j = 6 ∨ j = 7 := by omega
  rcases this with rfl | rfl | rfl | rfl | rfl | rfl | rfl | rfl <;> simp [Cd.putD]
theorem low_shift (d : W) (s : Nat) : IntKind.u8.wrap (uv d / (2 : Int) ^ s) = bv (Cd.byte (d.toNat / 2 ^ s)) := by
  have e : uv d / (2 : Int) ^ s = ((d.toNat / 2 ^ s : Nat) : Int) := by unfold uv; rw [Int.natCast_ediv]; simp
  rw [e, low8]
def DRel (L : List B) (d : W) (w : World) (out i : Value) (wr : World) : Prop := ∃ j : Nat, j ≤ 8 ∧ i = .int .i64 (56 - 8 * (j : Int)) ∧ OwnB w.heap.size wr out (L ++ (Cd.putD d).take j) ∧ Below w.heap.size w wr
set_option maxHeartbeats 1000000 in
theorem rputdigest_any (d : W) (L : List B) (bv0 : Value) (w : World) (hL : L.length ≤ 300000100) (hb : HasB w w.heap.size bv0 L) :
    Calls Try.prog 19 #[bv0, .int .u64 (uv d)] w fun e w' => ∃ v, e = .returned v ∧ OwnB w.heap.size w' v (L ++ Cd.putD d) ∧ Below w.heap.size w w' := by
  obtain ⟨a, cap, rfl⟩ := hb.form
  obtain ⟨m, hm⟩ : ∃ m, m = L.length := ⟨_, rfl⟩
  rw [← hm] at hb ⊢
  have HM := Lib.hid hm; have HB := Lib.hid hb
  clear hm hb
  go_enter Try.func19, Try.ntmps19
  go_wp2_with (at_builtin; refine wpList_append_bytes rfl (.const (.slice none 0 0)) (.tmp 7) rfl w.heap.size _ _ [] L rfl (OwnB.nil w _) rfl w.heap.size HB.out (by have := HM.out; simp; omega) (Nat.le_refl _) m (by have := HM.out; simp; omega) ?_)
  intro a1 cap1 w1 own1 grow1
  have OWN1 := Lib.hid own1
  have BEL1 := Lib.hid (below_grownB (Below.refl _ _) (Nat.le_refl _) (OwnB.nil w w.heap.size) grow1)
  clear own1 grow1
  go_wp2
  go_loopw [5, 6] (DRel L d w) (fun _ i _ => (intOf i + 8).toNat)
  case atStart => exact ⟨0, by omega, rfl, by rw [List.take_zero, List.append_nil]; exact OWN1.out, BEL1.out⟩
  case round =>
    obtain ⟨j, hj, rfl, ho, hb⟩ := hrel
    have HO := Lib.hid ho; have HBL := Lib.hid hb
    obtain ⟨a2, cap2, hform⟩ := ho.form
    subst hform
    clear ho hb
    obtain ⟨q, hq⟩ : ∃ q, q = (L ++ (Cd.putD d).take j).length := ⟨_, rfl⟩
    rw [← hq] at HO ⊢
    have HQ := Lib.hid hq
    have hq2 : q ≤ 300000108 := by rw [hq, List.length_append, List.length_take, Cd.putD_len]; omega
    clear hq
    by_cases hlt : j < 8
    · obtain ⟨s, hs⟩ : ∃ s : Nat, (56 : Int) - 8 * (j : Int) = s := ⟨56 - 8 * j, by omega⟩
      have hs60 : s ≤ 60 := by omega
      have HT := Lib.hid (putD_take d j s hlt (by omega))
      have hlo := low_shift d s
      rw [hs]
      have HS := Lib.hid hs
      clear hs
      go_wp2_with (at_builtin; refine wpList_append_bytes rfl (.tmp 13) (.tmp 19) rfl w.heap.size _ _ (L ++ (Cd.putD d).take j) [Cd.byte (d.toNat / 2 ^ s)] rfl (OwnB.alloc HO.out _) rfl (wr.heap.size + 1) (one_byte wr _ _ hlo) (by have := HQ.out; simp only [List.length_singleton]; omega) (by have := HBL.out.size; simp; omega) (q + 1) (by have := HQ.out; simp only [List.length_singleton]; omega) ?_)
      intro a3 cap3 w3 own3 grow3
      have BEL := Lib.hid (below_grownB (HBL.out.alloc HBL.out.size _) (by have := HBL.out.size; simp; omega) (OwnB.alloc HO.out _) grow3)
      have OWN := Lib.hid own3
      clear own3 grow3 hlo
      go_wp2_with fail
      go_roundw
      case rel => exact ⟨j + 1, by omega, by have := HS.out; go_num, by rw [HT.out]; first | exact OWN.out | (rw [← List.append_assoc]; exact OWN.out), BEL.out⟩
      case measure => have := HS.out; simp [intOf]; omega
    · obtain rfl : j = 8 := by omega
      go_wp2_with fail
      go_ret
      exact ⟨_, rfl, HO.out, HBL.out⟩
end Go.Proofs.Ytkckimhkbnigkaa
