/-
  What PutInt, PutBytes, PutDigest, PutList and Frame of the chapter of bytes return. Nothing that was there has changed. Condition: what they append to, and what they append, is shorter than a hundred million bytes.
-/
import Derived.Test.YtkckimhkbnigkaaBytes
import Derived.Test.YtkckimhkbnigkaaCd
import Derived.Test.YtkckimhkbnigkaaRefOf
import Derived.Below
namespace Go.Proofs.Ytkckimhkbnigkaa
open Go.ChangeShapes Go.WideShapes Go.ChangeAt Go.RowKit
open Dg (W B)
theorem zig_pos {n : Int} (h : 0 ≤ n) (h2 : n ≤ 9223372036854775807) : IntKind.u64.wrap (IntKind.u64.wrap n * 2) = (Cd.zig n : Int) := by
  unfold Cd.zig
  rw [if_pos h, IntKind.wrap_u64, IntKind.wrap_u64]
  omega
theorem xor_max (x : W) : bits .xor .u64 IntKind.u64.max (uv x) = 18446744073709551615 - uv x := by
  have e : IntKind.u64.max = uv (BitVec.allOnes 64) := by decide
  rw [e, uv_xor]
  unfold uv
  rw [BitVec.allOnes_xor, BitVec.toNat_not]
  have := x.isLt
  omega
theorem zig_neg {n : Int} (h : n < 0) (h2 : -9223372036854775808 ≤ n) : bits .xor .u64 IntKind.u64.max (IntKind.u64.wrap (IntKind.u64.wrap n * 2)) = (Cd.zig n : Int) := by
  obtain ⟨x, hx⟩ : ∃ x : W, IntKind.u64.wrap (IntKind.u64.wrap n * 2) = uv x := uv_of _ (by rw [IntKind.wrap_u64]; omega) (by rw [IntKind.wrap_u64]; omega)
  rw [hx, xor_max, ← hx, IntKind.wrap_u64, IntKind.wrap_u64]
  unfold Cd.zig
  rw [if_neg (by omega)]
  omega
set_option maxRecDepth 100000 in
theorem or128 (v : Nat) : bits .or .u8 (IntKind.u8.wrap (v : Int)) 128 = bv (Cd.byte (v % 128 + 128)) := by
  have h : ∀ c : Fin 256, bits .or .u8 ((c.val : Nat) : Int) 128 = ((c.val % 128 + 128 : Nat) : Int) := by decide
  have e : IntKind.u8.wrap (v : Int) = ((v % 256 : Nat) : Int) := by rw [IntKind.wrap_u8]; omega
  rw [e, h ⟨v % 256, by omega⟩]
  unfold bv
  rw [Cd.byte_toNat (by omega)]
  simp only []
  omega
theorem low8 (v : Nat) : IntKind.u8.wrap (v : Int) = bv (Cd.byte v) := by
  unfold bv Cd.byte
  rw [IntKind.wrap_u8, BitVec.toNat_ofNat]
  omega
/-- a byte that is laid for an append -/
theorem one_byte (w : World) (x : B) (y : Int) (hy : y = bv x) : HasB (w.alloc (.cells #[.int .u8 y] 5)) (w.heap.size + 1) (.slice (some ⟨w.heap.size, 0, none⟩) 1 1) [x] := by
  subst hy; exact built_bytes w [x] _ _ rfl
def PRel (L : List B) (z : Nat) (w : World) (u out : Value) (wr : World) : Prop := ∃ (v : Nat) (P : List B), u = .int .u64 (v : Int) ∧ P ++ Cd.put v = Cd.put z ∧ v ≤ z ∧ OwnB w.heap.size wr out (L ++ P) ∧ Below w.heap.size w wr
set_option maxHeartbeats 1000000 in
theorem rputint_any (n : Int) (L : List B) (bv0 : Value) (w : World) (hn : (Lit.int .i64 n).wf = true) (hL : L.length ≤ 100000000) (hb : HasB w w.heap.size bv0 L) :
    Calls Try.prog 12 #[bv0, .int .i64 n] w fun e w' => ∃ v, e = .returned v ∧ OwnB w.heap.size w' v (L ++ Cd.putI n) ∧ Below w.heap.size w w' := by
  obtain ⟨a, cap, rfl⟩ := hb.form
  have hb2 := bounds_i64 hn
  have key : ∀ (a : Option Addr), a = a → True := fun _ _ => trivial
  obtain ⟨m, hm⟩ : ∃ m, m = L.length := ⟨_, rfl⟩
  rw [← hm] at hb ⊢
  have HM := Lib.hid hm; have HB := Lib.hid hb
  clear hm hb key
  obtain ⟨z, hz⟩ : ∃ z, z = Cd.zig n := ⟨_, rfl⟩
  have hzl : z < 18446744073709551616 := by rw [hz]; exact Cd.zig_lt (by unfold Cd.InR; omega)
  have HZL := Lib.hid hzl
  have hput : Hid (Cd.putI n = Cd.put z) := Lib.hid (by rw [hz]; rfl)
  have hcase : (n < 0 ∧ bits .xor .u64 IntKind.u64.max (IntKind.u64.wrap (IntKind.u64.wrap n * 2)) = (z : Int)) ∨ (¬ n < 0 ∧ IntKind.u64.wrap (IntKind.u64.wrap n * 2) = (z : Int)) := by
    by_cases h : n < 0
    · exact .inl ⟨h, by rw [hz]; exact zig_neg h (by omega)⟩
    · exact .inr ⟨h, by rw [hz]; exact zig_pos (by omega) (by omega)⟩
  clear hz hzl hn hb2
  rcases hcase with ⟨hs, hc⟩ | ⟨hs, hc⟩
  all_goals
    first
      | have t1 : decide (n < 0) = true := decide_eq_true hs
      | have t1 : decide (n < 0) = false := decide_eq_false hs
    go_enter Try.func12, Try.ntmps12
    go_wp2_with (at_builtin; refine wpList_append_bytes rfl (.const (.slice none 0 0)) (.tmp 14) rfl w.heap.size _ _ [] L rfl (OwnB.nil w _) rfl w.heap.size HB.out (by have := HM.out; simp; omega) (Nat.le_refl _) m (by have := HM.out; simp; omega) ?_)
    intro a1 cap1 w1 own1 grow1
    have OWN1 := Lib.hid own1
    have BEL1 := Lib.hid (below_grownB (Below.refl _ _) (Nat.le_refl _) (OwnB.nil w w.heap.size) grow1)
    clear own1 grow1 hc
    go_wp2
    go_loopw [5, 6] (PRel L z w) (fun u _ _ => (intOf u).toNat)
    case atStart => exact ⟨z, [], rfl, rfl, Nat.le_refl _, by rw [List.append_nil]; exact OWN1.out, BEL1.out⟩
    case round =>
      obtain ⟨v, P, rfl, hp, hvz, ho, hb⟩ := hrel
      have HO := Lib.hid ho; have HBL := Lib.hid hb; have HP := Lib.hid hp
      obtain ⟨a2, cap2, hform⟩ := ho.form
      subst hform
      clear ho hb hp
      have hlenP : P.length ≤ 10 := by
        have h1 := congrArg List.length HP.out
        rw [List.length_append, Cd.put_len z] at h1
        have := Cd.need_le (u := z) HZL.out
        omega
      have v64 : (v : Int) < 18446744073709551616 := by have := HZL.out; omega
      obtain ⟨q, hq⟩ : ∃ q, q = (L ++ P).length := ⟨_, rfl⟩
      rw [← hq] at HO ⊢
      have HQ := Lib.hid hq
      have hq2 : q ≤ 100000010 := by rw [hq, List.length_append]; omega
      clear hq
      by_cases hlt : 127 < v
      · have t2 : (127 : Int) < (v : Int) := by omega
        have hor := or128 v
        go_wp2_with (at_builtin; refine wpList_append_bytes rfl (.tmp 18) (.tmp 22) rfl w.heap.size _ _ (L ++ P) [Cd.byte (v % 128 + 128)] rfl (OwnB.alloc HO.out _) rfl (wr.heap.size + 1) (one_byte wr _ _ hor) (by have := HQ.out; simp only [List.length_singleton]; omega) (by have := HBL.out.size; simp; omega) (q + 1) (by have := HQ.out; simp only [List.length_singleton]; omega) ?_)
        intro a3 cap3 w3 own3 grow3
        have BEL := Lib.hid (below_grownB (HBL.out.alloc HBL.out.size _) (by have := HBL.out.size; simp; omega) (OwnB.alloc HO.out _) grow3)
        have OWN := Lib.hid own3
        clear own3 grow3 hor
        go_wp2_with fail
        go_roundw
        case rel => exact ⟨v / 128, P ++ [Cd.byte (v % 128 + 128)], by go_num, by rw [List.append_assoc, List.singleton_append, ← Cd.put_big hlt]; exact HP.out, by omega, by first | exact OWN.out | (rw [← List.append_assoc]; exact OWN.out), BEL.out⟩
        case measure => simp [intOf]; omega
      · have t2 : ¬ (127 : Int) < (v : Int) := by omega
        have hlo := low8 v
        have hend : Hid (Cd.putI n = P ++ [Cd.byte v]) := Lib.hid (by rw [hput.out, ← HP.out, Cd.put_small hlt])
        go_wp2_with (at_builtin; refine wpList_append_bytes rfl (.tmp 26) (.tmp 29) rfl w.heap.size _ _ (L ++ P) [Cd.byte v] rfl (OwnB.alloc HO.out _) rfl (wr.heap.size + 1) (one_byte wr _ _ hlo) (by have := HQ.out; simp only [List.length_singleton]; omega) (by have := HBL.out.size; simp; omega) (q + 1) (by have := HQ.out; simp only [List.length_singleton]; omega) ?_)
        intro a3 cap3 w3 own3 grow3
        have BEL := Lib.hid (below_grownB (HBL.out.alloc HBL.out.size _) (by have := HBL.out.size; simp; omega) (OwnB.alloc HO.out _) grow3)
        have OWN := Lib.hid own3
        clear own3 grow3 hlo
        go_wp2_with fail
        go_ret
        exact ⟨_, rfl, by rw [hend.out]; first | exact OWN.out | (rw [← List.append_assoc]; exact OWN.out), BEL.out⟩
/-- the length written out -/
theorem own_len {base : Nat} {w : World} {v : Value} {l : List B} {n : Nat} (h : OwnB base w v l) (hn : l.length = n) : ∃ a cap, v = .slice a n cap := by
  subst hn; exact h.form
theorem rputint_to (k : Nat) (L : List B) (bv0 : Value) (w : World) (hk : k ≤ 100000000) (hL : L.length ≤ 100000000) (hb : HasB w w.heap.size bv0 L) :
    Calls Try.prog 12 #[bv0, .int .i64 (k : Int)] w fun e w' => ∃ v, e = .returned v ∧ OwnB w.heap.size w' v (L ++ Cd.putI k) ∧ Below w.heap.size w w' :=
  rputint_any k L bv0 w (WalkArith.wf_i64 (by omega)) hL hb
theorem putI_len (k : Nat) (hk : k ≤ 100000000) : (Cd.putI (k : Int)).length ≤ 10 := by
  unfold Cd.putI
  rw [Cd.put_len]
  exact Cd.need_le (Cd.zig_lt (by unfold Cd.InR; omega))
set_option maxHeartbeats 1000000 in
theorem rputbytes_any (L D : List B) (bv0 dv : Value) (w : World) (hL : L.length ≤ 100000000) (hD : D.length ≤ 100000000) (hb : HasB w w.heap.size bv0 L) (hd : HasB w w.heap.size dv D) :
    Calls Try.prog 17 #[bv0, dv] w fun e w' => ∃ v, e = .returned v ∧ OwnB w.heap.size w' v (L ++ Cd.putB D) ∧ Below w.heap.size w w' := by
  obtain ⟨a, cap, rfl⟩ := hd.form
  have HD := Lib.hid hd
  have C := Lib.hid (rputint_to D.length L bv0 w hD hL hb)
  have hlen := putI_len D.length hD
  obtain ⟨m, hm⟩ : ∃ m, m = D.length := ⟨_, rfl⟩
  rw [← hm] at HD C ⊢
  have HM := Lib.hid hm
  rw [← hm] at hlen hD
  clear hm hd hb
  go_enter Try.func17, Try.ntmps17
  go_wp2_with fail
  refine (C.out).mono ?_; rintro e w1 ⟨v1, rfl, o1, b1⟩
  have O1 := Lib.hid o1; have B1 := Lib.hid b1
  obtain ⟨q, hq⟩ : ∃ q, q = (L ++ Cd.putI (m : Int)).length := ⟨_, rfl⟩
  have hq2 : q ≤ 100000010 := by rw [hq, List.length_append]; omega
  have HQ := Lib.hid hq
  clear o1 b1 hq
  go_wp2_with (at_builtin; refine wpList_append_bytes rfl (.tmp 8) (.tmp 9) rfl w.heap.size _ _ (L ++ Cd.putI (m : Int)) D rfl O1.out rfl w.heap.size (HD.out.below B1.out (Nat.le_refl _)) (by have := HQ.out; have := HM.out; omega) B1.out.size (q + m) (by have := HQ.out; have := HM.out; omega) ?_)
  intro a3 cap3 w3 own3 grow3
  have BEL := Lib.hid (below_grownB B1.out B1.out.size O1.out grow3)
  have OWN := Lib.hid own3
  clear own3 grow3
  go_wp2_with fail
  go_ret
  exact ⟨_, rfl, by rw [Cd.putB, ← HM.out]; first | exact OWN.out | (rw [← List.append_assoc]; exact OWN.out), BEL.out⟩
end Go.Proofs.Ytkckimhkbnigkaa
