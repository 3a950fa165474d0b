/-
  What slices.Clip and the inner functions of package codec that write return. Nothing that was there has changed. Condition: what they append to, and what they append, is shorter than some hundred million bytes.
-/
import Derived.Test.YtkckimhkbnigkaaApp
import Derived.Test.YtkckimhkbnigkaaCodec
namespace Go.Proofs.Ytkckimhkbnigkaa
open Go.ChangeShapes Go.WideShapes Go.ChangeAt Go.RowKit
open Dg (W B)
theorem run_clip (a : Option Addr) (k cap : Nat) (w : World) (h : k ≤ cap) :
    (Instr.slice 22 (.slice a k cap) none (some (.int .i64 k)) (some (.int .i64 k))).run Try.prog w = .ok (.slice a k k) w := by
  have he : (sizeOf (Try.prog.elem 22)).run Try.prog w = .ok 1 w := by kernel_rfl
  rw [run_slice_hm w 22 a k cap (by kernel_rfl) .i64 .i64 (k : Int) (k : Int) (by omega) (by omega) (by omega), he]
  cases a with
  | none => simp [sliced, Result.andThen]
  | some ad => simp [sliced, Result.andThen, Addr.add]
theorem clip_any (a : Option Addr) (k cap : Nat) (w : World) (h : k ≤ cap) :
    Calls Try.prog 35 #[.slice a k cap] w fun e w' => e = .returned (.slice a k k) ∧ w = w' := by
  have hr := run_clip a k cap w h
  clear h
  go_enter Try.func35, Try.ntmps35
  go_wp2_with fail
  go_ret
  exact ⟨rfl, rfl⟩
theorem folded_any (n : Int) (w : World) (hn : (Lit.int .i64 n).wf = true) :
    Calls Try.prog 51 #[.int .i64 n] w fun e w' => e = .returned (.int .u64 (Cd.zig n : Int)) ∧ w = w' := by
  have hb2 := bounds_i64 hn
  by_cases h : n < 0
  · have t1 : decide (n < 0) = true := decide_eq_true h
    have hf := Lib.hid (show (Cd.zig n : Int) = -2 * n - 1 by unfold Cd.zig; rw [if_neg (by omega)]; omega)
    generalize Cd.zig n = z at hf
    go_enter Try.func51, Try.ntmps51
    go_wp2_with fail
    go_ret
    exact ⟨by show Ending.returned (Value.int .u64 (2 * -(n + 1) + 1)) = _; rw [show (2 * -(n + 1) + 1 : Int) = z by have := hf.out; omega], rfl⟩
  · have t1 : decide (n < 0) = false := decide_eq_false h
    have hf := Lib.hid (show (Cd.zig n : Int) = 2 * n by unfold Cd.zig; rw [if_pos (by omega)]; omega)
    generalize Cd.zig n = z at hf
    go_enter Try.func51, Try.ntmps51
    go_wp2_with fail
    go_ret
    exact ⟨by show Ending.returned (Value.int .u64 (2 * n)) = _; rw [show (2 * n : Int) = z by have := hf.out; omega], rfl⟩
def ARel (L : List B) (z : Nat) (base : Nat) (w : World) (out u : Value) (wr : World) : Prop := ∃ (v : Nat) (P : List B), u = .int .u64 (v : Int) ∧ P ++ Cd.put v = Cd.put z ∧ v ≤ z ∧ AppB base wr out (L ++ P) ∧ Below base w wr ∧ base ≤ wr.heap.size
set_option maxRecDepth 100000 in
set_option maxHeartbeats 1000000 in
theorem anum_any (n : Int) (L : List B) (v : Value) (base : Nat) (w : World) (hn : (Lit.int .i64 n).wf = true) (hL : L.length ≤ 400000000) (hb : AppB base w v L) (hbase : base ≤ w.heap.size) :
    Calls Try.prog 34 #[v, .int .i64 n] w fun e w' => ∃ v, e = .returned v ∧ OwnB base w' v (L ++ Cd.putI n) ∧ Below base w w' := by
  obtain ⟨a, cap, rfl⟩ := hb.form
  have hb2 := bounds_i64 hn
  have C := Lib.hid (folded_any n w hn)
  obtain ⟨m, hm⟩ : ∃ m, m = L.length := ⟨_, rfl⟩
  rw [← hm] at hb ⊢
  have HM := Lib.hid hm; have HB := Lib.hid hb
  have HBASE := Lib.hid hbase
  clear hm hb hbase
  obtain ⟨z, hz⟩ : ∃ z, z = Cd.zig n := ⟨_, rfl⟩
  have hzl : z < 18446744073709551616 := by rw [hz]; exact Cd.zig_lt (by unfold Cd.InR; omega)
  have HZL := Lib.hid hzl
  have hput : Hid (Cd.putI n = Cd.put z) := Lib.hid (by rw [hz]; rfl)
  rw [← hz] at C
  clear hz hn hb2
  go_enter Try.func34, Try.ntmps34
  go_wp2_with fail
  refine (C.out).mono ?_; rintro e w' ⟨rfl, rfl⟩
  go_wp2
  go_loopw [0, 5] (ARel L z base w) (fun _ u _ => (intOf u).toNat)
  case atStart => exact ⟨z, [], rfl, rfl, Nat.le_refl _, by rw [List.append_nil]; exact HB.out, Below.refl _ _, HBASE.out⟩
  case round =>
    obtain ⟨v, P, rfl, hp, hvz, ho, hb, hs⟩ := hrel
    have HO := Lib.hid ho; have HBL := Lib.hid hb; have HP := Lib.hid hp; have HS := Lib.hid hs
    obtain ⟨a2, cap2, hform⟩ := ho.form
    subst hform
    clear ho hb hp hs
    have hlenP : P.length ≤ 10 := by
      have h1 := congrArg List.length HP.out
      rw [List.length_append, Cd.put_len z] at h1
      have := Cd.need_le (u := z) HZL.out
      omega
    have v64 : (v : Int) < 18446744073709551616 := by have := HZL.out; omega
    obtain ⟨q, hq⟩ : ∃ q, q = (L ++ P).length := ⟨_, rfl⟩
    rw [← hq] at HO ⊢
    have HQ := Lib.hid hq
    have hq2 : q ≤ 400000010 := by rw [hq, List.length_append]; omega
    clear hq
    by_cases hlt : 127 < v
    · have t2 : (128 : Int) ≤ (v : Int) := by omega
      obtain ⟨y, hy⟩ : ∃ y, y = bits .or .u8 ((v : Int) % 128) 128 := ⟨_, rfl⟩
      have hor := hy.symm
      have HY := Lib.hid (show y = bv (Cd.byte (v % 128 + 128)) by
        have h1 := or128 (v % 128)
        rw [show IntKind.u8.wrap ((v % 128 : Nat) : Int) = (v : Int) % 128 by rw [IntKind.wrap_u8]; omega, show v % 128 % 128 = v % 128 by omega] at h1
        rw [hy, h1])
      clear hy
      go_wp2_with (at_builtin; refine wpList_append_app rfl (.tmp 10) (.tmp 15) rfl base _ _ (L ++ P) [Cd.byte (v % 128 + 128)] rfl (AppB.alloc HO.out _) rfl (wr.heap.size + 1) (one_byte wr _ _ HY.out) (by simp) (by have := HQ.out; simp only [List.length_singleton]; omega) (by have := HS.out; simp; omega) (q + 1) (by have := HQ.out; simp only [List.length_singleton]; omega) ?_)
      intro a3 cap3 w3 own3 bel3
      have BEL := Lib.hid ((HBL.out.alloc HS.out _).trans bel3)
      have OWN := Lib.hid own3
      clear own3 bel3 hor
      go_wp2_with fail
      go_roundw
      case rel => exact ⟨v / 128, P ++ [Cd.byte (v % 128 + 128)], by go_num, by rw [List.append_assoc, List.singleton_append, ← Cd.put_big hlt]; exact HP.out, by omega, by first | exact .inl OWN.out | (rw [← List.append_assoc]; exact .inl OWN.out), BEL.out, Nat.le_trans HBASE.out BEL.out.size⟩
      case measure => simp [intOf]; omega
    · have t2 : ¬ (128 : Int) ≤ (v : Int) := by omega
      have hlo := low8 v
      have hend : Hid (Cd.putI n = P ++ [Cd.byte v]) := Lib.hid (by rw [hput.out, ← HP.out, Cd.put_small hlt])
      go_wp2_with (at_builtin; refine wpList_append_app rfl (.tmp 19) (.tmp 22) rfl base _ _ (L ++ P) [Cd.byte v] rfl (AppB.alloc HO.out _) rfl (wr.heap.size + 1) (one_byte wr _ _ hlo) (by simp) (by have := HQ.out; simp only [List.length_singleton]; omega) (by have := HS.out; simp; omega) (q + 1) (by have := HQ.out; simp only [List.length_singleton]; omega) ?_)
      intro a3 cap3 w3 own3 bel3
      have BEL := Lib.hid ((HBL.out.alloc HS.out _).trans bel3)
      have OWN := Lib.hid own3
      clear own3 bel3 hlo
      go_wp2_with fail
      go_ret
      exact ⟨_, rfl, by rw [hend.out]; first | exact OWN.out | (rw [← List.append_assoc]; exact OWN.out), BEL.out⟩
theorem anum_len (k : Nat) (L : List B) (v : Value) (base : Nat) (w : World) (hk : k ≤ 400000000) (hL : L.length ≤ 400000000) (hb : AppB base w v L) (hbase : base ≤ w.heap.size) :
    Calls Try.prog 34 #[v, .int .i64 (k : Int)] w fun e w' => ∃ v, e = .returned v ∧ OwnB base w' v (L ++ Cd.putI k) ∧ Below base w w' :=
  anum_any k L v base w (WalkArith.wf_i64 (by omega)) hL hb hbase
theorem putI_short (k : Nat) (hk : k ≤ 400000000) : (Cd.putI (k : Int)).length ≤ 10 := by
  unfold Cd.putI
  rw [Cd.put_len]
  exact Cd.need_le (Cd.zig_lt (by unfold Cd.InR; omega))
set_option maxHeartbeats 1000000 in
theorem abytes_any (L D : List B) (v dv : Value) (base : Nat) (w : World) (hL : L.length ≤ 400000000) (hD : D.length ≤ 400000000) (hb : AppB base w v L) (hd : HasB w base dv D) (hbase : base ≤ w.heap.size) :
    Calls Try.prog 36 #[v, dv] w fun e w' => ∃ v, e = .returned v ∧ OwnB base w' v (L ++ Cd.putB D) ∧ Below base w w' := by
  obtain ⟨a0, cap0, rfl⟩ := hb.form
  obtain ⟨a, cap, rfl⟩ := hd.form
  have HD := Lib.hid hd
  have C := Lib.hid (anum_len D.length L _ base w hD hL hb hbase)
  have hlen := putI_short D.length hD
  obtain ⟨m, hm⟩ : ∃ m, m = D.length := ⟨_, rfl⟩
  obtain ⟨m0, hm0⟩ : ∃ m, m = L.length := ⟨_, rfl⟩
  rw [← hm] at HD C ⊢
  rw [← hm0] at C ⊢
  have HM := Lib.hid hm; have HM0 := Lib.hid hm0
  have HBASE := Lib.hid hbase
  rw [← hm] at hlen hD
  clear hm hd hb hm0 hbase
  go_enter Try.func36, Try.ntmps36
  go_wp2_with fail
  refine (C.out).mono ?_; rintro e w1 ⟨v1, rfl, o1, b1⟩
  have O1 := Lib.hid o1; have B1 := Lib.hid b1
  obtain ⟨q, hq⟩ : ∃ q, q = (L ++ Cd.putI (m : Int)).length := ⟨_, rfl⟩
  have hq2 : q ≤ 400000010 := by rw [hq, List.length_append]; omega
  have HQ := Lib.hid hq
  clear o1 b1 hq
  go_wp2_with (at_builtin; refine wpList_append_bytes rfl (.tmp 8) (.tmp 9) rfl base _ _ (L ++ Cd.putI (m : Int)) D rfl O1.out rfl base (HD.out.below B1.out (Nat.le_refl _)) (by have := HQ.out; have := HM.out; omega) (Nat.le_trans HBASE.out B1.out.size) (q + m) (by have := HQ.out; have := HM.out; omega) ?_)
  intro a3 cap3 w3 own3 grow3
  have BEL := Lib.hid (below_grownB B1.out (Nat.le_trans HBASE.out B1.out.size) O1.out grow3)
  have OWN := Lib.hid own3
  clear own3 grow3
  go_wp2_with fail
  go_ret
  exact ⟨_, rfl, by rw [Cd.putB, ← HM.out]; first | exact OWN.out | (rw [← List.append_assoc]; exact OWN.out), BEL.out⟩
set_option maxHeartbeats 1000000 in
theorem atext_any (L : List B) (s : ByteArray) (v : Value) (base : Nat) (w : World) (hL : L.length ≤ 400000000) (hD : (strB s).length ≤ 400000000) (hb : AppB base w v L) (hbase : base ≤ w.heap.size) :
    Calls Try.prog 38 #[v, .string s] w fun e w' => ∃ v, e = .returned v ∧ OwnB base w' v (L ++ Cd.putB (strB s)) ∧ Below base w w' := by
  obtain ⟨a0, cap0, rfl⟩ := hb.form
  have C := Lib.hid (anum_len (strB s).length L _ base w hD hL hb hbase)
  have hlen := putI_short (strB s).length hD
  obtain ⟨m, hm⟩ : ∃ m, m = (strB s).length := ⟨_, rfl⟩
  obtain ⟨m0, hm0⟩ : ∃ m, m = L.length := ⟨_, rfl⟩
  rw [← hm] at C
  rw [← hm0] at C ⊢
  have hsz : s.size = m := by rw [hm, strB_len]
  have HM := Lib.hid hm; have HM0 := Lib.hid hm0
  have HBASE := Lib.hid hbase
  rw [← hm] at hlen hD
  clear hm hb hm0 hbase
  go_enter Try.func38, Try.ntmps38
  go_wp2_with fail
  refine (C.out).mono ?_; rintro e w1 ⟨v1, rfl, o1, b1⟩
  have O1 := Lib.hid o1; have B1 := Lib.hid b1
  obtain ⟨q, hq⟩ : ∃ q, q = (L ++ Cd.putI (m : Int)).length := ⟨_, rfl⟩
  have hq2 : q ≤ 400000010 := by rw [hq, List.length_append]; omega
  have HQ := Lib.hid hq
  clear o1 b1 hq
  go_wp2_with (at_builtin; refine wpList_append_text rfl (.tmp 8) (.tmp 9) rfl base _ (L ++ Cd.putI (m : Int)) s rfl O1.out rfl (by have := HQ.out; have := HM.out; omega) (Nat.le_trans HBASE.out B1.out.size) (q + m) (by have := HQ.out; have := HM.out; omega) ?_)
  intro a3 cap3 w3 own3 bel3
  have BEL := Lib.hid (B1.out.trans bel3)
  have OWN := Lib.hid own3
  clear own3 bel3
  go_wp2_with fail
  go_ret
  exact ⟨_, rfl, by rw [Cd.putB, ← HM.out]; first | exact OWN.out | (rw [← List.append_assoc]; exact OWN.out), BEL.out⟩
def ADRel (L : List B) (d : W) (base : Nat) (w : World) (out i : Value) (wr : World) : Prop := ∃ j : Nat, j ≤ 8 ∧ i = .int .i64 (j : Int) ∧ AppB base wr out (L ++ (Cd.putD d).take j) ∧ Below base w wr ∧ base ≤ wr.heap.size ∧ (j = 8 → OwnB base wr out (L ++ Cd.putD d))
set_option maxHeartbeats 1000000 in
theorem adig_any (d : W) (L : List B) (v : Value) (base : Nat) (w : World) (hL : L.length ≤ 400000100) (hb : AppB base w v L) (hbase : base ≤ w.heap.size) :
    Calls Try.prog 37 #[v, .int .u64 (uv d)] w fun e w' => ∃ v, e = .returned v ∧ OwnB base w' v (L ++ Cd.putD d) ∧ Below base w w' := by
  obtain ⟨a, cap, rfl⟩ := hb.form
  obtain ⟨m, hm⟩ : ∃ m, m = L.length := ⟨_, rfl⟩
  rw [← hm] at hb ⊢
  have HM := Lib.hid hm; have HB := Lib.hid hb
  have HBASE := Lib.hid hbase
  clear hm hb hbase
  go_enter Try.func37, Try.ntmps37
  go_wp2
  go_loopw [0, 6] (ADRel L d base w) (fun _ i _ => (8 - intOf i).toNat)
  case atStart => exact ⟨0, by omega, rfl, by rw [List.take_zero, List.append_nil]; exact HB.out, Below.refl _ _, HBASE.out, by omega⟩
  case round =>
    obtain ⟨j, hj, rfl, ho, hb, hs, h8⟩ := hrel
    have HO := Lib.hid ho; have HBL := Lib.hid hb; have HS := Lib.hid hs; have H8 := Lib.hid h8
    obtain ⟨a2, cap2, hform⟩ := ho.form
    subst hform
    clear ho hb hs h8
    obtain ⟨q, hq⟩ : ∃ q, q = (L ++ (Cd.putD d).take j).length := ⟨_, rfl⟩
    rw [← hq] at HO H8 ⊢
    have HQ := Lib.hid hq
    have hq2 : q ≤ 400000108 := by rw [hq, List.length_append, List.length_take, Cd.putD_len]; omega
    clear hq
    by_cases hlt : j < 8
    · obtain ⟨s, hs⟩ : ∃ s : Nat, (8 : Int) * (7 - (j : Int)) = s := ⟨56 - 8 * j, by omega⟩
      have hs60 : s ≤ 60 := by omega
      have HT := Lib.hid (putD_take d j s hlt (by omega))
      have hlo := low_shift d s
      have tl : (j : Int) < 8 := by omega
      go_wp2_with (at_builtin; refine wpList_append_app rfl (.tmp 9) (.tmp 16) rfl base _ _ (L ++ (Cd.putD d).take j) [Cd.byte (d.toNat / 2 ^ s)] rfl (AppB.alloc HO.out _) rfl (wr.heap.size + 1) (one_byte wr _ _ hlo) (by simp) (by have := HQ.out; simp only [List.length_singleton]; omega) (by have := HS.out; simp; omega) (q + 1) (by have := HQ.out; simp only [List.length_singleton]; omega) ?_)
      intro a3 cap3 w3 own3 bel3
      have BEL := Lib.hid ((HBL.out.alloc HS.out _).trans bel3)
      have OWN := Lib.hid (show OwnB base w3 (.slice a3 (q + 1) cap3) (L ++ (Cd.putD d).take (j + 1)) by rw [HT.out]; first | exact own3 | (rw [← List.append_assoc]; exact own3))
      clear own3 bel3 hlo hs
      go_wp2_with fail
      go_roundw
      case rel => exact ⟨j + 1, by omega, by go_num, .inl OWN.out, BEL.out, Nat.le_trans HBASE.out BEL.out.size, fun e => by have := OWN.out; rw [e, List.take_of_length_le (by rw [Cd.putD_len]; omega)] at this; exact this⟩
      case measure => simp [intOf]; omega
    · obtain rfl : j = 8 := by omega
      go_wp2_with fail
      go_ret
      exact ⟨_, rfl, H8.out trivial, HBL.out⟩
end Go.Proofs.Ytkckimhkbnigkaa
