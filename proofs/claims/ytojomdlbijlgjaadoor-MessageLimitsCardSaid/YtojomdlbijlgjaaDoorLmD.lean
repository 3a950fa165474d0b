/-
  What the chapter of messages returns: bytes, equality. Each says its own conditions; nothing that was there has changed.
-/
import Derived.Test.YtojomdlbijlgjaaDoorLmB
import Derived.Test.YtojomdlbijlgjaaDoorLmA
import Derived.Test.YtojomdlbijlgjaaDoorRefVal
namespace Go.Proofs.YtojomdlbijlgjaaDoor
open Go.ChangeShapes Go.WideShapes Go.ChangeAt Go.RowKit
open Dg (W B)
open Ms (Msg)
namespace Ms
/-- numbers after each other -/
def putN : List Int → List B
  | [] => []
  | n :: l => Cd.putI n ++ putN l
theorem putN_snoc (l : List Int) (n : Int) : putN (l ++ [n]) = putN l ++ Cd.putI n := by
  induction l with
  | nil => simp [putN]
  | cons x l ih => simp [putN, ih]
theorem putN_succ (l : List Int) (k : Nat) (h : k < l.length) : putN (l.take (k + 1)) = putN (l.take k) ++ Cd.putI (l.getD k 0) := by
  rw [List.take_succ_eq_append_getElem h, putN_snoc]
  simp [List.getD, h]
theorem putI_len10 {n : Int} (h : Cd.InR n) : (Cd.putI n).length ≤ 10 := by
  unfold Cd.putI
  rw [Cd.put_len]
  exact Cd.need_le (Cd.zig_lt h)
theorem putN_len (l : List Int) (h : ∀ n ∈ l, Cd.InR n) : (putN l).length ≤ 10 * l.length := by
  induction l with
  | nil => simp [putN]
  | cons x l ih =>
    have h1 := putI_len10 (h x (by simp))
    have h2 := ih fun n hn => h n (by simp [hn])
    simp [putN]; omega
def nums (m : Msg) : List Int := [m.kind, m.epoch, m.inst, m.round, m.bit, m.len]
theorem nums_in {m : Msg} (h : m.Wf) : ∀ n ∈ nums m, Cd.InR n := by
  intro n hn
  simp only [nums, List.mem_cons, List.not_mem_nil, or_false] at hn
  rcases hn with rfl | rfl | rfl | rfl | rfl | rfl
  · exact h.kind
  · exact h.epoch
  · exact h.inst
  · exact h.round
  · exact h.bit
  · exact h.len
theorem enc_nums (m : Msg) : enc m = putN (nums m) ++ Cd.putD m.root ++ Cd.putB m.data ++ Cd.putI m.path.length ++ putP m.path := by
  simp [enc, nums, putN]
theorem putP_succ (l : List W) (k : Nat) (h : k < l.length) : putP (l.take (k + 1)) = putP (l.take k) ++ Cd.putD (l.getD k 0) := by
  rw [List.take_succ_eq_append_getElem h, putP_snoc]
  simp [List.getD, h]
end Ms
theorem wf_in {n : Int} (h : Cd.InR n) : (Lit.int .i64 n).wf = true := by
  unfold Cd.InR at h
  exact WalkArith.wf_i64 (by omega)
theorem HasW.atW {w : World} {N : Nat} {a : Option Addr} {n cap : Nat} {l : List W} (h : HasW w N (.slice a n cap) l) (k : Nat) (hk : k < n) : ∃ b off, a = some ⟨b, off, none⟩ ∧ w.cell? ⟨b, off + k, none⟩ = some (.int .u64 (uv (l.getD k 0))) := by
  rcases h with ⟨a, c, e, rfl⟩ | ⟨b, off, c, e, _, _, h4⟩
  · simp only [Value.slice.injEq] at e; omega
  · simp only [Value.slice.injEq] at e
    exact ⟨b, off, e.1, h4 k (by omega)⟩
def ERel (l : List Int) (w W0 : World) (out i : Value) (wr : World) : Prop := ∃ k : Nat, k ≤ 6 ∧ i = .int .i64 (k : Int) ∧ OwnB W0.heap.size wr out (Ms.putN (l.take k)) ∧ Below w.heap.size w wr ∧ Below W0.heap.size W0 wr
def PRelE (A : List B) (l : List W) (w : World) (out i : Value) (wr : World) : Prop := ∃ k : Nat, k ≤ l.length ∧ i = .int .i64 (k : Int) ∧ OwnB w.heap.size wr out (A ++ Ms.putP (l.take k)) ∧ Below w.heap.size w wr
set_option maxRecDepth 100000 in
set_option maxHeartbeats 1000000 in
theorem renc_any (m : Msg) (dv pv : Value) (w : World) (hm : MsgIn w m dv pv) (hD : m.data.length ≤ 1000000) (hP : m.path.length ≤ 1000000) :
    Calls Tryd.prog 14 #[msgV m dv pv] w fun e w' => ∃ v, e = .returned v ∧ OwnB w.heap.size w' v (Ms.enc m) ∧ Below w.heap.size w w' := by
  have HIN := Lib.hid (Ms.nums_in hm.wf)
  have HE := Lib.hid (Ms.enc_nums m)
  obtain ⟨kind, epoch, inst, round, bit, root, len, data, path⟩ := m
  obtain ⟨nd, hnd⟩ : ∃ n, n = data.length := ⟨_, rfl⟩
  obtain ⟨np, hnp⟩ : ∃ n, n = path.length := ⟨_, rfl⟩
  obtain ⟨ad, cd, rfl⟩ : ∃ a c, dv = .slice a nd c := by rw [hnd]; exact hm.data.form
  obtain ⟨ap, cp, rfl⟩ : ∃ a c, pv = .slice a np c := by rw [hnp]; exact hm.path.form
  have HD := Lib.hid hm.data; have HP := Lib.hid hm.path
  have HND := Lib.hid hnd; have HNP := Lib.hid hnp
  have hnd2 : nd ≤ 1000000 := by rw [hnd]; exact hD
  have hnp2 : np ≤ 1000000 := by rw [hnp]; exact hP
  unfold msgV
  obtain ⟨nl, hnl⟩ : ∃ nl, nl = Ms.nums ⟨kind, epoch, inst, round, bit, root, len, data, path⟩ := ⟨_, rfl⟩
  rw [← hnl] at HIN HE
  have hlen6 : nl.length = 6 := by rw [hnl]; rfl
  have HL6 := Lib.hid hlen6
  have b0 : Below w.heap.size w (w.alloc (.cells #[.int .i64 kind, .int .i64 epoch, .int .i64 inst, .int .i64 round, .int .i64 bit, .int .u64 (uv root), .int .i64 len, .slice ad nd cd, .slice ap np cp] 28)) := (Below.refl _ _).alloc (Nat.le_refl _) _
  have R0 := Lib.hid (RecN.new w #[.int .i64 kind, .int .i64 epoch, .int .i64 inst, .int .i64 round, .int .i64 bit, .int .u64 (uv root), .int .i64 len, .slice ad nd cd, .slice ap np cp] 28)
  have N0 := Lib.hid (built_ints (w.alloc (.cells #[.int .i64 kind, .int .i64 epoch, .int .i64 inst, .int .i64 round, .int .i64 bit, .int .u64 (uv root), .int .i64 len, .slice ad nd cd, .slice ap np cp] 28)) nl 3 #[.int .i64 kind, .int .i64 epoch, .int .i64 inst, .int .i64 round, .int .i64 bit, .int .i64 len] (by rw [hnl]; rfl))
  rw [hlen6, show (w.alloc (.cells #[.int .i64 kind, .int .i64 epoch, .int .i64 inst, .int .i64 round, .int .i64 bit, .int .u64 (uv root), .int .i64 len, .slice ad nd cd, .slice ap np cp] 28)).heap.size = w.heap.size + 1 by simp] at N0
  have b1 := Lib.hid (b0.alloc (by simp) (.cells #[.int .i64 kind, .int .i64 epoch, .int .i64 inst, .int .i64 round, .int .i64 bit, .int .i64 len] 3))
  obtain ⟨W0, hW0⟩ : ∃ W0, W0 = (w.alloc (.cells #[.int .i64 kind, .int .i64 epoch, .int .i64 inst, .int .i64 round, .int .i64 bit, .int .u64 (uv root), .int .i64 len, .slice ad nd cd, .slice ap np cp] 28)).alloc (.cells #[.int .i64 kind, .int .i64 epoch, .int .i64 inst, .int .i64 round, .int .i64 bit, .int .i64 len] 3) := ⟨_, rfl⟩
  have R1 := Lib.hid (R0.out.alloc (.cells #[.int .i64 kind, .int .i64 epoch, .int .i64 inst, .int .i64 round, .int .i64 bit, .int .i64 len] 3))
  have hsz : W0.heap.size = w.heap.size + 2 := by rw [hW0]; simp
  rw [← hW0] at N0 b1 R1
  have HW0 := Lib.hid hW0; have HSZ := Lib.hid hsz
  clear hm hnd hnp hD hP hnl hlen6 b0 hW0 hsz
  go_enter Tryd.func14, Tryd.ntmps14
  go_wp2
  rw [← HW0.out]
  go_loopw [3, 22] (ERel nl w W0) (fun _ i _ => 6 - (intOf i).toNat)
  case atStart => exact ⟨0, by omega, rfl, OwnB.nil _ _, b1.out, Below.refl _ _⟩
  case round =>
    obtain ⟨k, hk, rfl, ho, hb, hb2⟩ := hrel
    have HO := Lib.hid ho; have HBL := Lib.hid hb; have HB2 := Lib.hid hb2
    obtain ⟨a2, c2, hform⟩ := ho.form
    subst hform
    obtain ⟨q, hq⟩ : ∃ q, q = (Ms.putN (nl.take k)).length := ⟨_, rfl⟩
    have hq6 : q ≤ 60 := by
      have h1 := Ms.putN_len (nl.take k) fun n hn => HIN.out n (List.mem_of_mem_take hn)
      rw [List.length_take, HL6.out] at h1
      omega
    rw [← hq] at HO ⊢
    have HQ := Lib.hid hq
    clear ho hb hb2 hq
    by_cases hlt : k < 6
    · have tk : (k : Int) < 6 := by omega
      obtain ⟨b', off', e, hcell⟩ := (N0.out.below HB2.out (by have := HSZ.out; omega)).at k hlt
      simp only [Option.some.injEq, Addr.mk.injEq] at e
      obtain ⟨rfl, rfl, -⟩ := e
      rw [Nat.zero_add] at hcell
      have hin := HIN.out (nl.getD k 0) (by rw [List.getD_eq_getElem?_getD, List.getElem?_eq_getElem (by have := HL6.out; omega)]; simp)
      have hsu := Ms.putN_succ nl k (by have := HL6.out; omega)
      generalize nl.getD k 0 = x at hcell hin hsu
      have HSU := Lib.hid hsu
      have C := Lib.hid (rputint_any x (Ms.putN (nl.take k)) _ wr (wf_in hin) (by have := HQ.out; omega) HO.out.has)
      clear hin hsu
      go_wp2_with fail
      refine (C.out).mono ?_; rintro e w1 ⟨v1, rfl, o1, b1'⟩
      have O1 := Lib.hid (o1.mono HB2.out.size); have B1 := Lib.hid (HBL.out.trans (b1'.mono HBL.out.size)); have B2 := Lib.hid (HB2.out.trans (b1'.mono HB2.out.size))
      clear o1 b1'
      go_wp2_with fail
      go_roundw
      case rel => exact ⟨k + 1, by omega, by go_num, by rw [HSU.out]; exact O1.out, B1.out, B2.out⟩
      case measure => simp [intOf]; omega
    · obtain rfl : k = 6 := by omega
      have HN6 := Lib.hid (show nl.take 6 = nl from List.take_of_length_le (by have := HL6.out; omega))
      rw [HN6.out] at HO HQ
      have HQ2 := Lib.hid (show (Ms.putN nl).length ≤ 60 by have := HQ.out; omega)
      have R6 := Lib.hid ((R1.out.below HB2.out (by have := HSZ.out; omega)).drew)
      have x5 := R6.out.c 5 rfl; have x7 := R6.out.c 7 rfl
      have C3 := Lib.hid (rputdigest_any root (Ms.putN nl) _ wr.drew (by have := HQ2.out; omega) HO.out.has)
      have HD6 := Lib.hid (show HasB wr.drew wr.drew.heap.size (.slice ad nd cd) data from (HD.out.below HBL.out (Nat.le_refl _)).wide HBL.out.size)
      go_wp2_with fail
      refine wp_region_seq [(0, true), (1, true), (2, true), (4, true), (5, true), (3, false), (6, false), (7, true)] (by kernel_rfl) (by kernel_rfl) (by kernel_rfl) (by kernel_rfl) ?_
      iterate 5 (refine wpSeq_pure (v := ?_) rfl (by rfl) (fun w' hw' => ?_) ?_; rotate_left; (focus (have y5 := kept hw' x5; have y7 := kept hw' x7; go_simp; try with_reducible rfl)); try simp only [Act.put, List.setIfInBounds_toArray, List.set_cons_zero, List.set_cons_succ])
      refine wpSeq_call rfl (fun K' hK => ?_)
      go_simp
      go_at_call 28
      refine (C3.out).mono ?_; rintro e w3 ⟨v3, rfl, o3, b3⟩
      refine hK.out _ _ b3 ?_
      clear hK K'
      try simp only [Act.put, List.setIfInBounds_toArray, List.set_cons_zero, List.set_cons_succ]
      obtain ⟨a3, c3, hv3⟩ := o3.form
      obtain ⟨q3, hq3⟩ : ∃ q, q = (Ms.putN nl ++ Cd.putD root).length := ⟨_, rfl⟩
      rw [← hq3] at hv3
      subst hv3
      have O3 := Lib.hid o3; have B3 := Lib.hid b3
      have HQ3 := Lib.hid (show (Ms.putN nl ++ Cd.putD root).length ≤ 68 by have := HQ2.out; rw [List.length_append, Cd.putD_len]; omega)
      have C4 := Lib.hid (rputbytes_any (Ms.putN nl ++ Cd.putD root) data _ (.slice ad nd cd) w3 (by have := HQ3.out; omega) (by have := HND.out; omega) O3.out.has ((HD6.out.below B3.out (Nat.le_refl _)).wide B3.out.size))
      clear o3 b3 hq3
      refine wpSeq_call rfl (fun K' hK => ?_)
      go_simp
      go_at_call 27
      refine (C4.out).mono ?_; rintro e w4 ⟨v4, rfl, o4, b4⟩
      refine hK.out _ _ b4 ?_
      clear hK K'
      try simp only [Act.put, List.setIfInBounds_toArray, List.set_cons_zero, List.set_cons_succ]
      obtain ⟨a4, c4, hv4⟩ := o4.form
      obtain ⟨q4, hq4⟩ : ∃ q, q = (Ms.putN nl ++ Cd.putD root ++ Cd.putB data).length := ⟨_, rfl⟩
      rw [← hq4] at hv4
      subst hv4
      have hlen4 : q4 ≤ 1000100 := by
        have h1 := HQ3.out
        have h2 := putI_len data.length (by have := HND.out; omega)
        rw [hq4, List.length_append, Cd.putB_len]
        have := HND.out; omega
      have HQ4 := Lib.hid hq4
      have O4 := Lib.hid o4; have B4 := Lib.hid ((HB2.out.drew.trans (B3.out.mono (show W0.heap.size ≤ wr.drew.heap.size from HB2.out.size))).trans (b4.mono (Nat.le_trans HB2.out.size B3.out.size)))
      have BW4 := Lib.hid ((HBL.out.drew.trans (B3.out.mono (show w.heap.size ≤ wr.drew.heap.size from HBL.out.size))).trans (b4.mono (Nat.le_trans HBL.out.size B3.out.size)))
      clear o4 b4 hq4 x5 x7
      iterate 1 (refine wpSeq_pure (v := ?_) rfl (by rfl) (fun w' hw' => ?_) ?_; rotate_left; (focus (go_simp; try with_reducible rfl)); try simp only [Act.put, List.setIfInBounds_toArray, List.set_cons_zero, List.set_cons_succ])
      refine wpSeq_nil ?_
      have R8 := Lib.hid (R1.out.below B4.out (by have := HSZ.out; omega))
      have x8 := R8.out.c 8 rfl
      have C5 := Lib.hid (rputint_to np (Ms.putN nl ++ Cd.putD root ++ Cd.putB data) _ w4 (by omega) (by have := HQ4.out; omega) O4.out.has)
      go_wp2_with fail
      refine (C5.out).mono ?_; rintro e w5 ⟨v5, rfl, o5, b5⟩
      obtain ⟨A, hA⟩ : ∃ A, A = Ms.putN nl ++ Cd.putD root ++ Cd.putB data ++ Cd.putI (np : Int) := ⟨_, rfl⟩
      have hAlen : A.length ≤ 1000200 := by
        have h2 := putI_len np (by omega)
        rw [hA, List.length_append]
        have := HQ4.out; omega
      rw [← hA] at o5
      have HA := Lib.hid hA; have HAL := Lib.hid hAlen
      have O5 := Lib.hid (o5.mono (Nat.le_trans BW4.out.size (Nat.le_refl _))); have B5 := Lib.hid (BW4.out.trans (b5.mono BW4.out.size))
      have R9 := Lib.hid (R8.out.below b5 R8.out.1)
      clear o5 b5 hA hAlen x8
      have x8 := R9.out.c 8 rfl
      go_wp2
      go_loopw [3, 45] (PRelE A path w) (fun _ i _ => np - (intOf i).toNat)
      case atStart => exact ⟨0, by omega, rfl, by rw [List.take_zero]; simpa [Ms.putP] using O5.out, B5.out⟩
      case round =>
        obtain ⟨k, hk, rfl, ho, hb⟩ := hrel
        have HO := Lib.hid ho; have HBL := Lib.hid hb
        obtain ⟨a2, c2, hform⟩ := ho.form
        subst hform
        have hkn : k ≤ np := by have := HNP.out; omega
        obtain ⟨q, hq⟩ : ∃ q, q = (A ++ Ms.putP (path.take k)).length := ⟨_, rfl⟩
        have hq6 : q ≤ 10000000 := by
          rw [hq, List.length_append, Ms.putP_len, List.length_take]
          have := HAL.out; have := HNP.out; omega
        rw [← hq] at HO ⊢
        have HQ := Lib.hid hq
        clear ho hb hq hk
        by_cases hlt : k < np
        · have tk : (k : Int) < (np : Int) := by omega
          obtain ⟨b', off', rfl, hcell⟩ := (HP.out.below HBL.out (Nat.le_refl _)).atW k hlt
          have hsu := Ms.putP_succ path k (by have := HNP.out; omega)
          generalize path.getD k 0 = x at hcell hsu
          have HSU := Lib.hid hsu
          have C6 := Lib.hid (rputdigest_any x (A ++ Ms.putP (path.take k)) _ wr (by have := HQ.out; omega) HO.out.has)
          clear hsu
          go_wp2_with fail
          refine (C6.out).mono ?_; rintro e w1 ⟨v1, rfl, o1, b1'⟩
          have O1 := Lib.hid (o1.mono HBL.out.size); have B1 := Lib.hid (HBL.out.trans (b1'.mono HBL.out.size))
          clear o1 b1'
          go_wp2_with fail
          go_roundw
          case rel => exact ⟨k + 1, by have := HNP.out; omega, by go_num, by rw [HSU.out, ← List.append_assoc]; exact O1.out, B1.out⟩
          case measure => simp [intOf]; omega
        · obtain rfl : k = np := by omega
          go_wp2_with fail
          go_ret
          exact ⟨_, rfl, by rw [HE.out, ← HNP.out, ← HA.out]; have := HO.out; rw [List.take_of_length_le (by have := HNP.out; omega)] at this; exact this, HBL.out⟩
end Go.Proofs.YtojomdlbijlgjaaDoor
namespace Go.Proofs.YtojomdlbijlgjaaDoor
open Go.ChangeShapes Go.WideShapes Go.ChangeAt Go.RowKit
open Dg (W B)
open Ms (Msg)
def EncPost (m : Msg) (w : World) (e : Ending) (w' : World) : Prop :=
  (Ms.valid m ≠ 0 ∧ e = .returned (.tuple #[.slice none 0 0, .int .i64 (Ms.valid m : Int)]) ∧ Below w.heap.size w w') ∨
  (Ms.valid m = 0 ∧ ∃ v, e = .returned (.tuple #[v, .int .i64 0]) ∧ HasB w' w'.heap.size v (Ms.enc m) ∧ Below w.heap.size w w')
theorem rencode_any (m : Msg) (dv pv : Value) (w : World) (hm : MsgIn w m dv pv) (hD : m.data.length ≤ 1000000) (hP : m.path.length ≤ 1000000) :
    Calls Tryd.prog 6 #[msgV m dv pv] w (EncPost m w) := by
  obtain ⟨nd, hnd⟩ : ∃ n, n = m.data.length := ⟨_, rfl⟩
  obtain ⟨np, hnp⟩ : ∃ n, n = m.path.length := ⟨_, rfl⟩
  obtain ⟨ad, cd, rfl⟩ : ∃ a c, dv = .slice a nd c := by rw [hnd]; exact hm.data.form
  obtain ⟨ap, cp, rfl⟩ : ∃ a c, pv = .slice a np c := by rw [hnp]; exact hm.path.form
  have C1 := Lib.hid fun w' => rvalid_any m ad nd cd ap np cp w' hnd hnp (by omega) (by omega)
  have C2 := Lib.hid fun (w' : World) (hb : Below w.heap.size w w') => renc_any m (.slice ad nd cd) (.slice ap np cp) w' (hm.below hb) hD hP
  have R0 := Lib.hid (RecN.new w #[.int .i64 m.kind, .int .i64 m.epoch, .int .i64 m.inst, .int .i64 m.round, .int .i64 m.bit, .int .u64 (uv m.root), .int .i64 m.len, .slice ad nd cd, .slice ap np cp] 28)
  have B0 := Lib.hid ((Below.refl w.heap.size w).alloc (Nat.le_refl _) (.cells #[.int .i64 m.kind, .int .i64 m.epoch, .int .i64 m.inst, .int .i64 m.round, .int .i64 m.bit, .int .u64 (uv m.root), .int .i64 m.len, .slice ad nd cd, .slice ap np cp] 28))
  clear hm hD hP hnd hnp
  unfold msgV at C1 C2 ⊢
  go_enter Tryd.func6, Tryd.ntmps6
  go_wp2_with fail
  refine (C1.out _).mono ?_; rintro e w1 ⟨rfl, b1⟩
  have B1 := Lib.hid (B0.out.trans (b1.mono B0.out.size))
  have R1 := Lib.hid (R0.out.below b1 R0.out.1)
  clear b1
  by_cases hv : Ms.valid m = 0
  · have HV := Lib.hid hv
    have x0 := R1.out.c 0 rfl; have x1 := R1.out.c 1 rfl; have x2 := R1.out.c 2 rfl; have x3 := R1.out.c 3 rfl; have x4 := R1.out.c 4 rfl; have x5 := R1.out.c 5 rfl; have x6 := R1.out.c 6 rfl; have x7 := R1.out.c 7 rfl; have x8 := R1.out.c 8 rfl
    rw [hv]
    clear hv
    go_wp2_with fail
    refine (C2.out _ B1.out).mono ?_; rintro e w2 ⟨v2, rfl, o2, b2⟩
    obtain ⟨a2, c2, rfl⟩ := o2.form
    have O2 := Lib.hid o2.has; have B2 := Lib.hid (B1.out.trans (b2.mono B1.out.size))
    clear o2 b2
    go_wp2_with fail
    go_ret2
    exact .inr ⟨HV.out, _, rfl, O2.out, B2.out⟩
  · have HV := Lib.hid hv
    obtain ⟨x, hx⟩ : ∃ x : Nat, x = Ms.valid m := ⟨_, rfl⟩
    have t1 : (((x : Nat) : Int) != 0) = true := by rw [bne_iff_ne]; omega
    rw [← hx]
    have HX := Lib.hid hx
    clear hv hx
    go_wp2_with fail
    go_ret2
    exact .inl ⟨HV.out, by rw [← HX.out]; rfl, B1.out⟩
end Go.Proofs.YtojomdlbijlgjaaDoor
namespace Go.Proofs.YtojomdlbijlgjaaDoor
open Go.ChangeShapes Go.WideShapes Go.ChangeAt Go.RowKit
open Dg (W B)
open Ms (Msg)
namespace Ms
/-- what is read behind the numbers -/
def tail (xs : List Int) (b : List B) : Option (Msg × List B) :=
  andThen Cd.getD b fun root b => andThen Cd.getB b fun data b => andThen Cd.getI b fun n b => if n < 0 ∨ 10 < n then none else andThen (rdP n.toNat) b fun path b =>
    some (⟨xs.getD 0 0, xs.getD 1 0, xs.getD 2 0, xs.getD 3 0, xs.getD 4 0, root, xs.getD 5 0, data, path⟩, b)
def rdK : Nat → List Int → List B → Option (Msg × List B)
  | 0, xs, b => tail xs b
  | n + 1, xs, b => andThen Cd.getI b fun x b => rdK n (xs ++ [x]) b
theorem rdK_eq (b : List B) : rdMsg b = rdK 6 [] b := rfl
/-- the rest of the path -/
def rest (xs : List Int) (root : W) (data : List B) (ds : List W) (n : Nat) (b : List B) : Option (Msg × List B) :=
  andThen (rdP n) b fun path b => some (⟨xs.getD 0 0, xs.getD 1 0, xs.getD 2 0, xs.getD 3 0, xs.getD 4 0, root, xs.getD 5 0, data, ds ++ path⟩, b)
theorem rest_zero (xs : List Int) (root : W) (data : List B) (ds : List W) (b : List B) : rest xs root data ds 0 b = some (⟨xs.getD 0 0, xs.getD 1 0, xs.getD 2 0, xs.getD 3 0, xs.getD 4 0, root, xs.getD 5 0, data, ds⟩, b) := by
  unfold rest
  rw [andThen_ok (show rdP 0 b = .ok [] 0 from rfl)]
  simp
theorem rest_bad {xs : List Int} {root : W} {data : List B} {ds : List W} {n c : Nat} {b : List B} (h : Cd.getD b = .bad c) : rest xs root data ds (n + 1) b = none := by
  unfold rest
  rw [andThen_bad (c := c) (by rw [rdP, h])]
theorem rest_ok {xs : List Int} {root d : W} {data : List B} {ds : List W} {n k : Nat} {b : List B} (h : Cd.getD b = .ok d k) : rest xs root data ds (n + 1) b = rest xs root data (ds ++ [d]) n (b.drop k) := by
  unfold rest
  cases hr : rdP n (b.drop k) with
  | bad c => rw [andThen_bad (c := c) (by rw [rdP, h]; simp only []; rw [hr]), andThen_bad hr]
  | ok l q => rw [andThen_ok (x := d :: l) (k := k + q) (by rw [rdP, h]; simp only []; rw [hr]), andThen_ok hr]; simp [List.drop_drop]
theorem tail_eq {xs : List Int} {b : List B} {root : W} {data : List B} {n : Int} {j1 j2 j3 : Nat} (h1 : Cd.getD b = .ok root j1) (h2 : Cd.getB (b.drop j1) = .ok data j2) (h3 : Cd.getI ((b.drop j1).drop j2) = .ok n j3) (hn : ¬ (n < 0 ∨ 10 < n)) :
    tail xs b = rest xs root data [] n.toNat (((b.drop j1).drop j2).drop j3) := by
  unfold tail
  rw [andThen_ok h1, andThen_ok h2, andThen_ok h3, if_neg hn]
  rfl
theorem dec_none {b : List B} (h : rdMsg b = none) : dec b = none := by unfold dec; rw [h]
theorem dec_some {b r : List B} {m : Msg} (h : rdMsg b = some (m, r)) : dec b = if r = [] ∧ valid m = 0 then some m else none := by unfold dec; rw [h]
end Ms
def zeroMsg : Msg := ⟨0, 0, 0, 0, 0, 0#64, 0, [], []⟩
/-- two results, one in memory -/
theorem results_ct {P : Program} {fn : Func} {a t : Tmp} {A : TypeId} (h : fn.results = #[.cell a A, .tmp t]) (tmps : Array Value) (w : World) (p : Addr)
    (hp : tmps.getD a undef = .pointer (some p)) {x : Value} (hx : (loadVar A p).run P w = .ok x w) : (results fn tmps).run P w = .ok (.tuple #[x, tmps.getD t undef]) w := by
  have hp' : tmps[a]?.getD undef = .pointer (some p) := by simpa using hp
  simp [results, h, hp', asAddr, hx]
def DecPost (L : List B) (w : World) (e : Ending) (w' : World) : Prop :=
  (Ms.dec L = none ∧ e = .returned (.tuple #[msgV zeroMsg (.slice none 0 0) (.slice none 0 0), .int .i64 4]) ∧ Below w.heap.size w w') ∨
  ∃ m dv pv, Ms.dec L = some m ∧ e = .returned (.tuple #[msgV m dv pv, .int .i64 0]) ∧ MsgIn w' m dv pv ∧ Below w.heap.size w w'
/-- the same, and what is returned is new -/
def RDecPost (L : List B) (w : World) (e : Ending) (w' : World) : Prop :=
  (Ms.dec L = none ∧ e = .returned (.tuple #[msgV zeroMsg (.slice none 0 0) (.slice none 0 0), .int .i64 4]) ∧ Below w.heap.size w w') ∨
  ∃ m dv pv, Ms.dec L = some m ∧ e = .returned (.tuple #[msgV m dv pv, .int .i64 0]) ∧ MsgIn w' m dv pv ∧ Below w.heap.size w w' ∧ ∀ N, N < w.heap.size → Off N dv ∧ Off N pv
theorem RDecPost.plain {L : List B} {w w' : World} {e : Ending} (h : RDecPost L w e w') : DecPost L w e w' := by
  rcases h with h | ⟨m, dv, pv, h1, h2, h3, h4, _⟩
  · exact .inl h
  · exact .inr ⟨m, dv, pv, h1, h2, h3, h4⟩
theorem DecPost.bad {L : List B} {w w1 : World} (h : Ms.dec L = none) (hb : Below w.heap.size w w1) (a b c d e f g i j : Value) :
    RDecPost L w (.returned (.tuple #[msgV zeroMsg (.slice none 0 0) (.slice none 0 0), .int .i64 4])) (put9 w1 w.heap.size a b c d e f g i j) :=
  .inl ⟨h, rfl, hb.trans (below_put9 _ _ _ _ _ _ _ _ _ _ _)⟩
/-- the cells of the message that is read -/
def mcells (xs : List Int) (root : W) (dv pv : Value) : List Value := [.int .i64 (xs.getD 0 0), .int .i64 (xs.getD 1 0), .int .i64 (xs.getD 2 0), .int .i64 (xs.getD 3 0), .int .i64 (xs.getD 4 0), .int .u64 (uv root), .int .i64 (xs.getD 5 0), dv, pv]
/-- where the numbers lie -/
def fieldAt (k : Nat) : Nat := if k = 5 then 6 else k
theorem mcells_set (xs : List Int) (x : Int) (root : W) (dv pv : Value) (k : Nat) (hk : k < 6) (hx : xs.length = k) : (mcells xs root dv pv).set (fieldAt k) (.int .i64 x) = mcells (xs ++ [x]) root dv pv := by
  rcases (show k = 0 ∨ k = 1 ∨ k = 2 ∨ k = 3 ∨ k = 4 ∨ k = 5 by omega) with rfl | rfl | rfl | rfl | rfl | rfl
  all_goals
    match xs, hx with
    | [], h => first | rfl | exact absurd h (by simp)
    | [_], h => first | rfl | exact absurd h (by simp)
    | [_, _], h => first | rfl | exact absurd h (by simp)
    | [_, _, _], h => first | rfl | exact absurd h (by simp)
    | [_, _, _, _], h => first | rfl | exact absurd h (by simp)
    | [_, _, _, _, _], h => first | rfl | exact absurd h (by simp)
theorem OwnB.grownW {base base' : Nat} {w w' : World} {dv v : Value} {l : List B} {ds : List W} (h : OwnB base w dv l) (ho : OwnW base' w v ds) (grow : w.grownBy w' v.ownBlock) : OwnB base w' dv l := by
  obtain ⟨h1, h2⟩ := h
  refine ⟨h1, ?_⟩
  rcases h2 with h2 | ⟨b, cap, cur, hv, hbb, hh, r⟩
  · exact .inl h2
  · refine .inr ⟨b, cap, cur, hv, hbb, ?_, r⟩
    rw [grow.block b (Array.getElem?_eq_some_iff.1 hh).1 ?_]
    · exact hh
    · intro e
      rcases ho.2 with ⟨rfl, -⟩ | ⟨g, cap2, cur2, rfl, -, hg, -⟩
      · simp [Value.ownBlock] at e
      · simp only [Value.ownBlock, Option.some.injEq] at e
        subst e
        rw [hh] at hg
        simp at hg
theorem offW {base g : Nat} {w : World} {v : Value} {l : List W} (h : OwnW base w v l) (hg : g < base) : Off g v := by
  rcases h.2 with ⟨rfl, h0⟩ | ⟨b, cap, cur, rfl, h1, _⟩
  · exact Off.none _ _ _
  · exact Off.some (by omega)
/-- so many numbers have been read -/
def DNum (L : List B) (w : World) (pv i : Value) (wr : World) : Prop :=
  ∃ (k q : Nat) (xs : List Int), k ≤ 6 ∧ i = .int .i64 (k : Int) ∧ pv = .int .i64 (q : Int) ∧ xs.length = k ∧ q ≤ L.length ∧ RecN wr w.heap.size (mcells [] 0#64 (.slice none 0 0) (.slice none 0 0)) ∧ RecN wr (w.heap.size + 1) (mcells xs 0#64 (.slice none 0 0) (.slice none 0 0)) ∧
    (∀ j, j < 6 → wr.cell? ⟨w.heap.size + 2, j, none⟩ = some (.pointer (some ⟨w.heap.size + 1, fieldAt j, none⟩))) ∧ w.heap.size + 3 ≤ wr.heap.size ∧ Below w.heap.size w wr ∧ Ms.rdMsg L = Ms.rdK (6 - k) xs (L.drop q)
/-- so many digests of the path have been read -/
def DPath (L : List B) (n : Nat) (xs : List Int) (root : W) (data : List B) (dv : Value) (w : World) (pv i : Value) (wr : World) : Prop :=
  ∃ (k q : Nat) (ds : List W) (v : Value), k ≤ n ∧ i = .int .i64 (k : Int) ∧ pv = .int .i64 (q : Int) ∧ ds.length = k ∧ q ≤ L.length ∧ RecN wr w.heap.size (mcells [] 0#64 (.slice none 0 0) (.slice none 0 0)) ∧ RecN wr (w.heap.size + 1) (mcells xs root dv v) ∧
    OwnB (w.heap.size + 2) wr dv data ∧ OwnW (w.heap.size + 2) wr v ds ∧ w.heap.size + 2 ≤ wr.heap.size ∧ Below w.heap.size w wr ∧ Ms.rdMsg L = Ms.rest xs root data ds (n - k) (L.drop q)
end Go.Proofs.YtojomdlbijlgjaaDoor
namespace Go.Proofs.YtojomdlbijlgjaaDoor
open Go.ChangeShapes Go.WideShapes Go.ChangeAt Go.RowKit
open Dg (W B)
end Go.Proofs.YtojomdlbijlgjaaDoor
namespace Go.Proofs.YtojomdlbijlgjaaDoor
open Go.ChangeShapes Go.WideShapes Go.ChangeAt Go.RowKit
open Dg (W B)
open Ms (Msg)
theorem strB_bstr9 (l : List B) : strB (bstr l) = l := by
  unfold strB bstr
  have e : (UInt8.toBitVec ∘ UInt8.ofBitVec) = id := by funext x; rfl
  simp [e]
/-- bytes as a string, whatever slice they lie in -/
theorem conv_all (l : List B) (v : Value) (w : World) (N : Nat) (h : HasB w N v l) : (convert 25 9 v).run Tryd.prog w = .ok (.string (bstr l)) w := by
  rcases h with ⟨a, cap, rfl, rfl⟩ | ⟨b, off, cap, rfl, h2, h3, h4⟩
  · cases a with
    | none => kernel_rfl
    | some ad => exact run_convert_bytes_back (P := Tryd.prog) w 25 9 5 ad cap [] Tryd.underlying25 Tryd.underlying5 Tryd.underlying9 (fun j hj => by simp at hj)
  · exact conv_bytes l b off cap w h4
end Go.Proofs.YtojomdlbijlgjaaDoor
