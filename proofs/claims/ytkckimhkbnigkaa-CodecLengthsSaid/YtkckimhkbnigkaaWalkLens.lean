/-
  The walk of CodecLengths: it returns true, and nothing that was there has changed. No condition.
-/
import Derived.Test.YtkckimhkbnigkaaCAwake
import Derived.Test.YtkckimhkbnigkaaInts
import Derived.Test.YtkckimhkbnigkaaOpen
namespace Go.Proofs.Ytkckimhkbnigkaa
open Go.ChangeShapes Go.WideShapes Go.ChangeAt Go.RowKit
open Dg (W B)
namespace Cd
/-- numbers after each other -/
def putIs : List Int → List B
  | [] => []
  | n :: l => putI n ++ putIs l
theorem putIs_app (l m : List Int) : putIs (l ++ m) = putIs l ++ putIs m := by
  induction l with
  | nil => rfl
  | cons n l ih => simp [putIs, ih]
theorem putIs_succ (l : List Int) (k : Nat) (h : k < l.length) : putIs (l.take (k + 1)) = putIs (l.take k) ++ putI (l.getD k 0) := by
  rw [List.take_succ_eq_append_getElem h, putIs_app]
  simp [putIs, List.getD, h]
theorem putIs_drop (l : List Int) (k : Nat) (h : k < l.length) : (putIs l).drop (putIs (l.take k)).length = putI (l.getD k 0) ++ putIs (l.drop (k + 1)) := by
  conv => lhs; rw [← List.take_append_drop k l, putIs_app, List.take_append_drop]
  rw [List.drop_left, List.drop_eq_getElem_cons h]
  simp [putIs, List.getD, h]
theorem putIs_len : ∀ (l : List Int), (∀ n ∈ l, InR n) → (putIs l).length ≤ 10 * l.length
  | [], _ => by simp [putIs]
  | n :: l, h => by
    have h1 := putIs_len l fun x hx => h x (by simp [hx])
    have h2 : (putI n).length ≤ 10 := by unfold putI; rw [put_len]; exact need_le (zig_lt (h n (by simp)))
    simp only [putIs, List.length_append, List.length_cons]
    omega
theorem putIs_take_le (l : List Int) (k : Nat) : (putIs (l.take k)).length ≤ (putIs l).length := by
  conv => rhs; rw [← List.take_append_drop k l, putIs_app, List.length_append]
  omega
theorem need_big {v : Nat} (h : 127 < v) : need v = need (v / 128) + 1 := by rw [need, if_pos h]
theorem need_pos (v : Nat) : 1 ≤ need v := by
  rw [need]; split <;> omega
theorem need_small {v : Nat} (h : ¬ 127 < v) : need v = 1 := by rw [need, if_neg h]
end Cd
theorem open_intl {H : Type} {enc : TypeId × Value → H} {P : Program} {w : World} {t e : TypeId} {a : Option Addr} {len cap : Nat} {d : DataW H} {p : List MemPlace} (ht : P.underlying t = some (.slice e)) (he : P.underlying e = some (.int .i64)) (hc : P.cellsOf e = 1)
    (h : DataW.Trod enc P w 0 (fun _ => true) true t (.slice a len cap) d p) : ∃ l : List Int, l.length = len ∧ (len ≤ maxLen ∧ ∀ n ∈ l, (Lit.int .i64 n).wf = true) ∧ HasI w w.heap.size (.slice a len cap) l := by
  obtain ⟨h1, h2, h3⟩ := ints_at ht he hc h
  rcases h3 with rfl | ⟨b, off, zs, rfl, rfl, h4, h5, h6⟩
  · exact ⟨[], rfl, ⟨Nat.zero_le _, by simp⟩, .inl ⟨a, cap, rfl, rfl⟩⟩
  · exact ⟨zs, rfl, ⟨by omega, h6⟩, .inr ⟨b, off, cap, rfl, h1, h4, h5⟩⟩
theorem len_take_40 (l : List Int) (k : Nat) (h : l.length ≤ 40) : 10 * (l.take k).length ≤ 400 := by rw [List.length_take]; omega
def LenRel (l : List Int) (w : World) (b i : Value) (wr : World) : Prop := ∃ k : Nat, k ≤ l.length ∧ i = .int .i64 (k : Int) ∧ HasB wr wr.heap.size b (Cd.putIs (l.take k)) ∧ Below w.heap.size w wr
def NeedRel (z : Nat) (w1 : World) (u c : Value) (wr : World) : Prop := ∃ v m : Nat, u = .int .u64 (v : Int) ∧ c = .int .i64 (m : Int) ∧ Hid (m + Cd.need v = Cd.need z + 1) ∧ v ≤ z ∧ m ≤ 11 ∧ w1 = wr
def AtRel (l : List Int) (w : World) (p i : Value) (wr : World) : Prop := ∃ k q : Nat, k ≤ l.length ∧ i = .int .i64 (k : Int) ∧ p = .int .i64 (q : Int) ∧ Hid (q = (Cd.putIs (l.take k)).length) ∧ Below w.heap.size w wr
theorem lens_out (v : Value) (l : List Int) (w : World) (h : HasI w w.heap.size v l) (hl : 40 < l.length) :
    Calls Try.prog 8 #[v] w fun e w' => e = .returned (.bool true) ∧ Below w.heap.size w w' := by
  obtain ⟨a, cap, rfl⟩ := h.form
  generalize l.length = n at *
  have t1 : (40 : Int) < (n : Int) := by omega
  clear h hl
  go_enter Try.func8, Try.ntmps8
  go_wp2_with fail
  refine (awake_any _).mono ?_; rintro e w1 ⟨rfl, b1⟩
  go_wp2_with fail
  go_ret
  exact ⟨rfl, b1⟩
set_option maxRecDepth 100000 in
set_option maxHeartbeats 2000000 in
theorem lens_in (v : Value) (l : List Int) (w : World) (h : HasI w w.heap.size v l) (hl : l.length ≤ 40) (hwf : ∀ n ∈ l, (Lit.int .i64 n).wf = true) :
    Calls Try.prog 8 #[v] w fun e w' => e = .returned (.bool true) ∧ Below w.heap.size w w' := by
  have hR : ∀ n ∈ l, Cd.InR n := fun n hn => by have := bounds_i64 (hwf n hn); unfold Cd.InR; omega
  have HLEN := Lib.hid fun k => Nat.le_trans (Cd.putIs_len (l.take k) fun n hn => hR n (List.mem_of_mem_take hn)) (len_take_40 l k hl)
  have HWF := Lib.hid fun k (hk : k < l.length) => hwf (l.getD k 0) (by simp [List.getD, hk])
  have HR := Lib.hid fun k (hk : k < l.length) => hR (l.getD k 0) (by simp [List.getD, hk])
  have HALL := Lib.hid (show Cd.putIs l = Cd.putIs (l.take l.length) by rw [List.take_length])
  clear hR hwf
  obtain ⟨a, cap, rfl⟩ := h.form
  obtain ⟨n, hn⟩ : ∃ n, n = l.length := ⟨_, rfl⟩
  rw [← hn] at h hl ⊢
  have H := Lib.hid h; have HN := Lib.hid hn
  have t1 : ¬ (40 : Int) < (n : Int) := by omega
  clear h hn
  go_enter Try.func8, Try.ntmps8
  go_wp2_with fail
  go_loopw [3, 24] (LenRel l w) (fun _ i _ => n - (intOf i).toNat)
  case atStart => exact ⟨0, by omega, rfl, .inl ⟨none, 0, rfl, rfl⟩, Below.refl _ _⟩
  case round =>
    obtain ⟨k, hk, rfl, ho, hb⟩ := hrel
    rw [← HN.out] at hk
    have HB := Lib.hid hb
    obtain ⟨ab, cb, rfl⟩ := ho.form
    obtain ⟨mk, hmk⟩ : ∃ m, m = (Cd.putIs (l.take k)).length := ⟨_, rfl⟩
    rw [← hmk] at ho ⊢
    have HO := Lib.hid ho; have HMK := Lib.hid hmk
    have mk4 : mk ≤ 400 := by have := HLEN.out k; omega
    by_cases hlt : k < n
    · obtain ⟨b', off', rfl, hcell⟩ := (H.out.below hb (Nat.le_refl _)).at k hlt
      have hwf := HWF.out k (by rw [← HN.out]; exact hlt)
      have hir := HR.out k (by rw [← HN.out]; exact hlt)
      have hsu := Cd.putIs_succ l k (by rw [← HN.out]; exact hlt)
      generalize l.getD k 0 = x at hcell hwf hir hsu
      have HSU := Lib.hid hsu; have HIR := Lib.hid hir
      have hb2 := bounds_i64 hwf
      have C1 := Lib.hid (cputint_any x (Cd.putIs (l.take k)) _ _ hwf (by rw [← HMK.out]; omega) HO.out)
      obtain ⟨z, hz⟩ : ∃ z, z = Cd.zig x := ⟨_, rfl⟩
      have hzl : z < 18446744073709551616 := by rw [hz]; exact Cd.zig_lt hir
      have hput : Hid ((Cd.putI x).length = Cd.need z) := Lib.hid (by rw [hz]; exact Cd.put_len _)
      have hcase : (x < 0 ∧ bits .xor .u64 IntKind.u64.max (IntKind.u64.wrap (IntKind.u64.wrap x * 2)) = (z : Int)) ∨ (¬ x < 0 ∧ IntKind.u64.wrap (IntKind.u64.wrap x * 2) = (z : Int)) := by
        by_cases h : x < 0
        · exact .inl ⟨h, by rw [hz]; exact zig_neg h (by omega)⟩
        · exact .inr ⟨h, by rw [hz]; exact zig_pos (by omega) (by omega)⟩
      have NZ := Lib.hid (Cd.need_le hzl)
      have HZL := Lib.hid hzl
      clear hb ho hmk hwf hir hsu hz hb2 hzl
      rcases hcase with ⟨hs, hc⟩ | ⟨hs, hc⟩
      all_goals
        first
          | have t2 : decide (x < 0) = true := decide_eq_true hs
          | have t2 : decide (x < 0) = false := decide_eq_false hs
        clear hs
        go_wp2_with fail
        refine (C1.out).mono ?_; rintro e w1 ⟨v1, rfl, o1, b1⟩
        obtain ⟨a1, c1, rfl⟩ := o1.form
        obtain ⟨m1, hm1⟩ : ∃ m, m = (Cd.putIs (l.take k) ++ Cd.putI x).length := ⟨_, rfl⟩
        rw [← hm1] at o1 ⊢
        have O1 := Lib.hid o1; have B1 := Lib.hid (HB.out.trans (b1.mono HB.out.size)); have M1 := Lib.hid (show m1 = mk + Cd.need z by rw [hm1, List.length_append, HMK.out, hput.out])
        clear o1 b1 hm1
        go_wp2_with fail
        go_loopw [7, 8] (NeedRel z w1) (fun u _ _ => (intOf u).toNat)
        case atStart => exact ⟨z, 1, rfl, rfl, Lib.hid (by omega), Nat.le_refl _, by omega, rfl⟩
        case round =>
          obtain ⟨v, m, rfl, rfl, hvm, hvz, hm11, rfl⟩ := hrel
          by_cases hv : 127 < v
          · have t3 : (127 : Int) < (v : Int) := by omega
            have v64 : (v : Int) < 18446744073709551616 := by have := HZL.out; omega
            have hm10 : m + 1 ≤ 11 := by have h1 := hvm.out; rw [Cd.need_big hv] at h1; have h2 := NZ.out; have := Cd.need_pos (v / 128); omega
            go_wp2_with fail
            go_roundw
            case rel => exact ⟨v / 128, m + 1, by go_num, by go_num, Lib.hid (by have h1 := hvm.out; rw [Cd.need_big hv] at h1; omega), by omega, hm10, rfl⟩
            case measure => simp [intOf]; omega
          · have t3 : ¬ (127 : Int) < (v : Int) := by omega
            have hmz : m1 = mk + m := by have h1 := hvm.out; rw [Cd.need_small hv] at h1; have := M1.out; omega
            have t4 : ((m1 : Int) != (mk : Int) + (m : Int)) = false := by rw [hmz]; simp
            have HMZ := Lib.hid hmz
            clear hmz
            go_wp2_with fail
            go_roundw
            case rel => exact ⟨k + 1, by rw [← HN.out]; omega, by go_num, by rw [HSU.out]; exact O1.out, B1.out⟩
            case measure => simp [intOf]; omega
    · obtain rfl : k = n := by omega
      have hall : Hid (Cd.putIs l = Cd.putIs (l.take k)) := Lib.hid (by have := HALL.out; rw [← HN.out] at this; exact this)
      have HO2 : Hid (HasB wr wr.heap.size (.slice ab mk cb) (Cd.putIs l)) := Lib.hid (by rw [hall.out]; exact HO.out)
      have MK2 : Hid (mk = (Cd.putIs l).length) := Lib.hid (by rw [hall.out]; exact HMK.out)
      have HBW := Lib.hid hb
      clear hb ho hmk HO HMK hall
      go_wp2_with fail
      go_loopw [9, 55] (AtRel l wr) (fun _ i _ => k - (intOf i).toNat)
      case atStart => exact ⟨0, 0, by omega, rfl, rfl, Lib.hid (by simp [Cd.putIs]), Below.refl _ _⟩
      case round =>
        rename_i w3 _ _
        obtain ⟨j, q, hj, rfl, rfl, hq, hb⟩ := hrel
        rw [← HN.out] at hj
        have HBB := Lib.hid hb
        have O3 := Lib.hid ((HO2.out.below hb (Nat.le_refl _)).wide hb.size)
        by_cases hlt : j < k
        · obtain ⟨b', off', rfl, hcell⟩ := (H.out.below (HBW.out.trans (hb.mono HBW.out.size)) (Nat.le_refl _)).at j hlt
          have hir := HR.out j (by rw [← HN.out]; exact hlt)
          have hsu := Cd.putIs_succ l j (by rw [← HN.out]; exact hlt)
          have hdr := Cd.putIs_drop l j (by rw [← HN.out]; exact hlt)
          generalize l.getD j 0 = x at hcell hir hsu hdr
          have hget := Cd.getI_put hir (Cd.putIs (l.drop (j + 1)))
          rw [← hdr, ← hq.out] at hget
          have hle : q ≤ mk := by rw [hq.out, MK2.out]; exact Cd.putIs_take_le l j
          have C1 := Lib.hid (cint_got (Cd.putIs l) q _ _ (by rw [← MK2.out]; exact hle) (by rw [← MK2.out]; omega) O3.out)
          rw [hget] at C1
          obtain ⟨c, hc⟩ : ∃ c, c = (Cd.putI x).length := ⟨_, rfl⟩
          have hc1 : 1 ≤ c := by rw [hc]; unfold Cd.putI; exact Cd.put_len_pos _
          have hc2 : c ≤ 10 := by rw [hc]; unfold Cd.putI; rw [Cd.put_len]; exact Cd.need_le (Cd.zig_lt hir)
          rw [← hc] at C1
          have HQ2 : Hid (q + c = (Cd.putIs (l.take (j + 1))).length) := Lib.hid (by rw [hsu, List.length_append, ← hq.out, hc])
          have t2 : ((q : Int) + (c : Int) ≤ (q : Int)) = False := by simp; omega
          clear hb hir hsu hdr hget hc
          go_wp2_with fail
          refine (C1.out).mono ?_; rintro e w4 ⟨rfl, b4⟩
          have B4 := Lib.hid (HBB.out.trans (b4.mono HBB.out.size))
          clear b4
          unfold numRes
          go_wp2_with fail
          go_roundw
          case rel => exact ⟨j + 1, q + c, by rw [← HN.out]; omega, by go_num, by go_num, HQ2, B4.out⟩
          case measure => simp [intOf]; omega
        · obtain rfl : j = k := by omega
          have hqm : q = mk := by rw [hq.out, MK2.out, HN.out, ← HALL.out]
          have hnil : (Cd.putIs l).drop q = [] := List.drop_eq_nil_of_le (by rw [← MK2.out]; omega)
          have C1 := Lib.hid (cint_got (Cd.putIs l) q _ _ (by rw [← MK2.out]; omega) (by rw [← MK2.out]; omega) O3.out)
          rw [hnil, show Cd.getI [] = .bad 5 from rfl] at C1
          have t2 : ((q : Int) == (mk : Int)) = true := by rw [hqm]; simp
          have HQM := Lib.hid hqm
          clear hb hqm hnil
          go_wp2_with fail
          refine (C1.out).mono ?_; rintro e w4 ⟨rfl, b4⟩
          have B4 := Lib.hid (HBB.out.trans (b4.mono HBB.out.size))
          clear b4
          unfold numRes
          go_wp2_with fail
          refine (awake_any _).mono ?_; rintro e w5 ⟨rfl, b5⟩
          have B5 := Lib.hid (HBW.out.trans ((B4.out.trans (b5.mono B4.out.size)).mono HBW.out.size))
          clear b5
          go_wp2_with fail
          go_ret
          exact ⟨rfl, B5.out⟩
end Go.Proofs.Ytkckimhkbnigkaa
