/-
  What the chapter of messages returns: bytes, equality. Each says its own conditions; nothing that was there has changed.
-/
import Derived.Test.YtgkckomccabmlaaGreatDoorLmB
import Derived.Test.YtgkckomccabmlaaGreatDoorLmA
import Derived.Test.YtgkckomccabmlaaGreatDoorRefVal
namespace Go.Proofs.YtgkckomccabmlaaGreatDoor
open Go.ChangeShapes Go.WideShapes Go.ChangeAt Go.RowKit
open Dg (W B)
open Ms (Msg)
namespace Ms
/-- numbers after each other -/
def putN : List Int → List B
  | [] => []
  | n :: l => Cd.putI n ++ putN l
theorem putN_snoc (l : List Int) (n : Int) : putN (l ++ [n]) = putN l ++ Cd.putI n := by
  induction l with
  | nil => simp [putN]
  | cons x l ih => simp [putN, ih]
theorem putN_succ (l : List Int) (k : Nat) (h : k < l.length) : putN (l.take (k + 1)) = putN (l.take k) ++ Cd.putI (l.getD k 0) := by
  rw [List.take_succ_eq_append_getElem h, putN_snoc]
  simp [List.getD, h]
theorem putI_len10 {n : Int} (h : Cd.InR n) : (Cd.putI n).length ≤ 10 := by
  unfold Cd.putI
  rw [Cd.put_len]
  exact Cd.need_le (Cd.zig_lt h)
theorem putN_len (l : List Int) (h : ∀ n ∈ l, Cd.InR n) : (putN l).length ≤ 10 * l.length := by
  induction l with
  | nil => simp [putN]
  | cons x l ih =>
    have h1 := putI_len10 (h x (by simp))
    have h2 := ih fun n hn => h n (by simp [hn])
    simp [putN]; omega
def nums (m : Msg) : List Int := [m.kind, m.epoch, m.inst, m.round, m.bit, m.len]
theorem nums_in {m : Msg} (h : m.Wf) : ∀ n ∈ nums m, Cd.InR n := by
  intro n hn
  simp only [nums, List.mem_cons, List.not_mem_nil, or_false] at hn
  rcases hn with rfl | rfl | rfl | rfl | rfl | rfl
  · exact h.kind
  · exact h.epoch
  · exact h.inst
  · exact h.round
  · exact h.bit
  · exact h.len
theorem enc_nums (m : Msg) : enc m = putN (nums m) ++ Cd.putD m.root ++ Cd.putB m.data ++ Cd.putI m.path.length ++ putP m.path := by
  simp [enc, nums, putN]
theorem putP_succ (l : List W) (k : Nat) (h : k < l.length) : putP (l.take (k + 1)) = putP (l.take k) ++ Cd.putD (l.getD k 0) := by
  rw [List.take_succ_eq_append_getElem h, putP_snoc]
  simp [List.getD, h]
end Ms
theorem wf_in {n : Int} (h : Cd.InR n) : (Lit.int .i64 n).wf = true := by
  unfold Cd.InR at h
  exact WalkArith.wf_i64 (by omega)
theorem HasW.atW {w : World} {N : Nat} {a : Option Addr} {n cap : Nat} {l : List W} (h : HasW w N (.slice a n cap) l) (k : Nat) (hk : k < n) : ∃ b off, a = some ⟨b, off, none⟩ ∧ w.cell? ⟨b, off + k, none⟩ = some (.int .u64 (uv (l.getD k 0))) := by
  rcases h with ⟨a, c, e, rfl⟩ | ⟨b, off, c, e, _, _, h4⟩
  · simp only [Value.slice.injEq] at e; omega
  · simp only [Value.slice.injEq] at e
    exact ⟨b, off, e.1, h4 k (by omega)⟩
def ERel (l : List Int) (w W0 : World) (out i : Value) (wr : World) : Prop := ∃ k : Nat, k ≤ 6 ∧ i = .int .i64 (k : Int) ∧ OwnB W0.heap.size wr out (Ms.putN (l.take k)) ∧ Below w.heap.size w wr ∧ Below W0.heap.size W0 wr
def PRelE (A : List B) (l : List W) (w : World) (out i : Value) (wr : World) : Prop := ∃ k : Nat, k ≤ l.length ∧ i = .int .i64 (k : Int) ∧ OwnB w.heap.size wr out (A ++ Ms.putP (l.take k)) ∧ Below w.heap.size w wr
set_option maxRecDepth 100000 in
set_option maxHeartbeats 1000000 in
theorem renc_any (m : Msg) (dv pv : Value) (w : World) (hm : MsgIn w m dv pv) (hD : m.data.length ≤ 1000000) (hP : m.path.length ≤ 1000000) :
    Calls Tryz.prog 44 #[msgV m dv pv] w fun e w' => ∃ v, e = .returned v ∧ OwnB w.heap.size w' v (Ms.enc m) ∧ Below w.heap.size w w' := by
  have HIN := Lib.hid (Ms.nums_in hm.wf)
  have HE := Lib.hid (Ms.enc_nums m)
  obtain ⟨kind, epoch, inst, round, bit, root, len, data, path⟩ := m
  obtain ⟨nd, hnd⟩ : ∃ n, n = data.length := ⟨_, rfl⟩
  obtain ⟨np, hnp⟩ : ∃ n, n = path.length := ⟨_, rfl⟩
  obtain ⟨ad, cd, rfl⟩ : ∃ a c, dv = .slice a nd c := by rw [hnd]; exact hm.data.form
  obtain ⟨ap, cp, rfl⟩ : ∃ a c, pv = .slice a np c := by rw [hnp]; exact hm.path.form
  have HD := Lib.hid hm.data; have HP := Lib.hid hm.path
  have HND := Lib.hid hnd; have HNP := Lib.hid hnp
  have hnd2 : nd ≤ 1000000 := by rw [hnd]; exact hD
  have hnp2 : np ≤ 1000000 := by rw [hnp]; exact hP
  unfold msgV
  obtain ⟨nl, hnl⟩ : ∃ nl, nl = Ms.nums ⟨kind, epoch, inst, round, bit, root, len, data, path⟩ := ⟨_, rfl⟩
  rw [← hnl] at HIN HE
  have hlen6 : nl.length = 6 := by rw [hnl]; rfl
  have HL6 := Lib.hid hlen6
  have b0 : Below w.heap.size w (w.alloc (.cells #[.int .i64 kind, .int .i64 epoch, .int .i64 inst, .int .i64 round, .int .i64 bit, .int .u64 (uv root), .int .i64 len, .slice ad nd cd, .slice ap np cp] 27)) := (Below.refl _ _).alloc (Nat.le_refl _) _
  have R0 := Lib.hid (RecN.new w #[.int .i64 kind, .int .i64 epoch, .int .i64 inst, .int .i64 round, .int .i64 bit, .int .u64 (uv root), .int .i64 len, .slice ad nd cd, .slice ap np cp] 27)
  have N0 := Lib.hid (built_ints (w.alloc (.cells #[.int .i64 kind, .int .i64 epoch, .int .i64 inst, .int .i64 round, .int .i64 bit, .int .u64 (uv root), .int .i64 len, .slice ad nd cd, .slice ap np cp] 27)) nl 3 #[.int .i64 kind, .int .i64 epoch, .int .i64 inst, .int .i64 round, .int .i64 bit, .int .i64 len] (by rw [hnl]; rfl))
  rw [hlen6, show (w.alloc (.cells #[.int .i64 kind, .int .i64 epoch, .int .i64 inst, .int .i64 round, .int .i64 bit, .int .u64 (uv root), .int .i64 len, .slice ad nd cd, .slice ap np cp] 27)).heap.size = w.heap.size + 1 by simp] at N0
  have b1 := Lib.hid (b0.alloc (by simp) (.cells #[.int .i64 kind, .int .i64 epoch, .int .i64 inst, .int .i64 round, .int .i64 bit, .int .i64 len] 3))
  obtain ⟨W0, hW0⟩ : ∃ W0, W0 = (w.alloc (.cells #[.int .i64 kind, .int .i64 epoch, .int .i64 inst, .int .i64 round, .int .i64 bit, .int .u64 (uv root), .int .i64 len, .slice ad nd cd, .slice ap np cp] 27)).alloc (.cells #[.int .i64 kind, .int .i64 epoch, .int .i64 inst, .int .i64 round, .int .i64 bit, .int .i64 len] 3) := ⟨_, rfl⟩
  have R1 := Lib.hid (R0.out.alloc (.cells #[.int .i64 kind, .int .i64 epoch, .int .i64 inst, .int .i64 round, .int .i64 bit, .int .i64 len] 3))
  have hsz : W0.heap.size = w.heap.size + 2 := by rw [hW0]; simp
  rw [← hW0] at N0 b1 R1
  have HW0 := Lib.hid hW0; have HSZ := Lib.hid hsz
  clear hm hnd hnp hD hP hnl hlen6 b0 hW0 hsz
  go_enter Tryz.func44, Tryz.ntmps44
  go_wp2
  rw [← HW0.out]
  go_loopw [3, 22] (ERel nl w W0) (fun _ i _ => 6 - (intOf i).toNat)
  case atStart => exact ⟨0, by omega, rfl, OwnB.nil _ _, b1.out, Below.refl _ _⟩
  case round =>
    obtain ⟨k, hk, rfl, ho, hb, hb2⟩ := hrel
    have HO := Lib.hid ho; have HBL := Lib.hid hb; have HB2 := Lib.hid hb2
    obtain ⟨a2, c2, hform⟩ := ho.form
    subst hform
    obtain ⟨q, hq⟩ : ∃ q, q = (Ms.putN (nl.take k)).length := ⟨_, rfl⟩
    have hq6 : q ≤ 60 := by
      have h1 := Ms.putN_len (nl.take k) fun n hn => HIN.out n (List.mem_of_mem_take hn)
      rw [List.length_take, HL6.out] at h1
      omega
    rw [← hq] at HO ⊢
    have HQ := Lib.hid hq
    clear ho hb hb2 hq
    by_cases hlt : k < 6
    · have tk : (k : Int) < 6 := by omega
      obtain ⟨b', off', e, hcell⟩ := (N0.out.below HB2.out (by have := HSZ.out; omega)).at k hlt
      simp only [Option.some.injEq, Addr.mk.injEq] at e
      obtain ⟨rfl, rfl, -⟩ := e
      rw [Nat.zero_add] at hcell
      have hin := HIN.out (nl.getD k 0) (by rw [List.getD_eq_getElem?_getD, List.getElem?_eq_getElem (by have := HL6.out; omega)]; simp)
      have hsu := Ms.putN_succ nl k (by have := HL6.out; omega)
      generalize nl.getD k 0 = x at hcell hin hsu
      have HSU := Lib.hid hsu
      have C := Lib.hid (rputint_any x (Ms.putN (nl.take k)) _ wr (wf_in hin) (by have := HQ.out; omega) HO.out.has)
      clear hin hsu
      go_wp2_with fail
      refine (C.out).mono ?_; rintro e w1 ⟨v1, rfl, o1, b1'⟩
      have O1 := Lib.hid (o1.mono HB2.out.size); have B1 := Lib.hid (HBL.out.trans (b1'.mono HBL.out.size)); have B2 := Lib.hid (HB2.out.trans (b1'.mono HB2.out.size))
      clear o1 b1'
      go_wp2_with fail
      go_roundw
      case rel => exact ⟨k + 1, by omega, by go_num, by rw [HSU.out]; exact O1.out, B1.out, B2.out⟩
      case measure => simp [intOf]; omega
    · obtain rfl : k = 6 := by omega
      have HN6 := Lib.hid (show nl.take 6 = nl from List.take_of_length_le (by have := HL6.out; omega))
      rw [HN6.out] at HO HQ
      have HQ2 := Lib.hid (show (Ms.putN nl).length ≤ 60 by have := HQ.out; omega)
      have R6 := Lib.hid ((R1.out.below HB2.out (by have := HSZ.out; omega)).drew)
      have x5 := R6.out.c 5 rfl; have x7 := R6.out.c 7 rfl
      have C3 := Lib.hid (rputdigest_any root (Ms.putN nl) _ wr.drew (by have := HQ2.out; omega) HO.out.has)
      have HD6 := Lib.hid (show HasB wr.drew wr.drew.heap.size (.slice ad nd cd) data from (HD.out.below HBL.out (Nat.le_refl _)).wide HBL.out.size)
      go_wp2_with fail
      refine wp_region_seq [(0, true), (1, true), (2, true), (4, true), (5, true), (3, false), (6, false), (7, true)] (by kernel_rfl) (by kernel_rfl) (by kernel_rfl) (by kernel_rfl) ?_
      iterate 5 (refine wpSeq_pure (v := ?_) rfl (by rfl) (fun w' hw' => ?_) ?_; rotate_left; (focus (have y5 := kept hw' x5; have y7 := kept hw' x7; go_simp; try with_reducible rfl)); try simp only [Act.put, List.setIfInBounds_toArray, List.set_cons_zero, List.set_cons_succ])
      refine wpSeq_call rfl (fun K' hK => ?_)
      go_simp
      go_at_call 72
      refine (C3.out).mono ?_; rintro e w3 ⟨v3, rfl, o3, b3⟩
      refine hK.out _ _ b3 ?_
      clear hK K'
      try simp only [Act.put, List.setIfInBounds_toArray, List.set_cons_zero, List.set_cons_succ]
      obtain ⟨a3, c3, hv3⟩ := o3.form
      obtain ⟨q3, hq3⟩ : ∃ q, q = (Ms.putN nl ++ Cd.putD root).length := ⟨_, rfl⟩
      rw [← hq3] at hv3
      subst hv3
      have O3 := Lib.hid o3; have B3 := Lib.hid b3
      have HQ3 := Lib.hid (show (Ms.putN nl ++ Cd.putD root).length ≤ 68 by have := HQ2.out; rw [List.length_append, Cd.putD_len]; omega)
      have C4 := Lib.hid (rputbytes_any (Ms.putN nl ++ Cd.putD root) data _ (.slice ad nd cd) w3 (by have := HQ3.out; omega) (by have := HND.out; omega) O3.out.has ((HD6.out.below B3.out (Nat.le_refl _)).wide B3.out.size))
      clear o3 b3 hq3
      refine wpSeq_call rfl (fun K' hK => ?_)
      go_simp
      go_at_call 71
      refine (C4.out).mono ?_; rintro e w4 ⟨v4, rfl, o4, b4⟩
      refine hK.out _ _ b4 ?_
      clear hK K'
      try simp only [Act.put, List.setIfInBounds_toArray, List.set_cons_zero, List.set_cons_succ]
      obtain ⟨a4, c4, hv4⟩ := o4.form
      obtain ⟨q4, hq4⟩ : ∃ q, q = (Ms.putN nl ++ Cd.putD root ++ Cd.putB data).length := ⟨_, rfl⟩
      rw [← hq4] at hv4
      subst hv4
      have hlen4 : q4 ≤ 1000100 := by
        have h1 := HQ3.out
        have h2 := putI_len data.length (by have := HND.out; omega)
        rw [hq4, List.length_append, Cd.putB_len]
        have := HND.out; omega
      have HQ4 := Lib.hid hq4
      have O4 := Lib.hid o4; have B4 := Lib.hid ((HB2.out.drew.trans (B3.out.mono (show W0.heap.size ≤ wr.drew.heap.size from HB2.out.size))).trans (b4.mono (Nat.le_trans HB2.out.size B3.out.size)))
      have BW4 := Lib.hid ((HBL.out.drew.trans (B3.out.mono (show w.heap.size ≤ wr.drew.heap.size from HBL.out.size))).trans (b4.mono (Nat.le_trans HBL.out.size B3.out.size)))
      clear o4 b4 hq4 x5 x7
      iterate 1 (refine wpSeq_pure (v := ?_) rfl (by rfl) (fun w' hw' => ?_) ?_; rotate_left; (focus (go_simp; try with_reducible rfl)); try simp only [Act.put, List.setIfInBounds_toArray, List.set_cons_zero, List.set_cons_succ])
      refine wpSeq_nil ?_
      have R8 := Lib.hid (R1.out.below B4.out (by have := HSZ.out; omega))
      have x8 := R8.out.c 8 rfl
      have C5 := Lib.hid (rputint_to np (Ms.putN nl ++ Cd.putD root ++ Cd.putB data) _ w4 (by omega) (by have := HQ4.out; omega) O4.out.has)
      go_wp2_with fail
      refine (C5.out).mono ?_; rintro e w5 ⟨v5, rfl, o5, b5⟩
      obtain ⟨A, hA⟩ : ∃ A, A = Ms.putN nl ++ Cd.putD root ++ Cd.putB data ++ Cd.putI (np : Int) := ⟨_, rfl⟩
      have hAlen : A.length ≤ 1000200 := by
        have h2 := putI_len np (by omega)
        rw [hA, List.length_append]
        have := HQ4.out; omega
      rw [← hA] at o5
      have HA := Lib.hid hA; have HAL := Lib.hid hAlen
      have O5 := Lib.hid (o5.mono (Nat.le_trans BW4.out.size (Nat.le_refl _))); have B5 := Lib.hid (BW4.out.trans (b5.mono BW4.out.size))
      have R9 := Lib.hid (R8.out.below b5 R8.out.1)
      clear o5 b5 hA hAlen x8
      have x8 := R9.out.c 8 rfl
      go_wp2
      go_loopw [3, 45] (PRelE A path w) (fun _ i _ => np - (intOf i).toNat)
      case atStart => exact ⟨0, by omega, rfl, by rw [List.take_zero]; simpa [Ms.putP] using O5.out, B5.out⟩
      case round =>
        obtain ⟨k, hk, rfl, ho, hb⟩ := hrel
        have HO := Lib.hid ho; have HBL := Lib.hid hb
        obtain ⟨a2, c2, hform⟩ := ho.form
        subst hform
        have hkn : k ≤ np := by have := HNP.out; omega
        obtain ⟨q, hq⟩ : ∃ q, q = (A ++ Ms.putP (path.take k)).length := ⟨_, rfl⟩
        have hq6 : q ≤ 10000000 := by
          rw [hq, List.length_append, Ms.putP_len, List.length_take]
          have := HAL.out; have := HNP.out; omega
        rw [← hq] at HO ⊢
        have HQ := Lib.hid hq
        clear ho hb hq hk
        by_cases hlt : k < np
        · have tk : (k : Int) < (np : Int) := by omega
          obtain ⟨b', off', rfl, hcell⟩ := (HP.out.below HBL.out (Nat.le_refl _)).atW k hlt
          have hsu := Ms.putP_succ path k (by have := HNP.out; omega)
          generalize path.getD k 0 = x at hcell hsu
          have HSU := Lib.hid hsu
          have C6 := Lib.hid (rputdigest_any x (A ++ Ms.putP (path.take k)) _ wr (by have := HQ.out; omega) HO.out.has)
          clear hsu
          go_wp2_with fail
          refine (C6.out).mono ?_; rintro e w1 ⟨v1, rfl, o1, b1'⟩
          have O1 := Lib.hid (o1.mono HBL.out.size); have B1 := Lib.hid (HBL.out.trans (b1'.mono HBL.out.size))
          clear o1 b1'
          go_wp2_with fail
          go_roundw
          case rel => exact ⟨k + 1, by have := HNP.out; omega, by go_num, by rw [HSU.out, ← List.append_assoc]; exact O1.out, B1.out⟩
          case measure => simp [intOf]; omega
        · obtain rfl : k = np := by omega
          go_wp2_with fail
          go_ret
          exact ⟨_, rfl, by rw [HE.out, ← HNP.out, ← HA.out]; have := HO.out; rw [List.take_of_length_le (by have := HNP.out; omega)] at this; exact this, HBL.out⟩
end Go.Proofs.YtgkckomccabmlaaGreatDoor
namespace Go.Proofs.YtgkckomccabmlaaGreatDoor
open Go.ChangeShapes Go.WideShapes Go.ChangeAt Go.RowKit
open Dg (W B)
open Ms (Msg)
def EncPost (m : Msg) (w : World) (e : Ending) (w' : World) : Prop :=
  (Ms.valid m ≠ 0 ∧ e = .returned (.tuple #[.slice none 0 0, .int .i64 (Ms.valid m : Int)]) ∧ Below w.heap.size w w') ∨
  (Ms.valid m = 0 ∧ ∃ v, e = .returned (.tuple #[v, .int .i64 0]) ∧ HasB w' w'.heap.size v (Ms.enc m) ∧ Below w.heap.size w w')
theorem rencode_any (m : Msg) (dv pv : Value) (w : World) (hm : MsgIn w m dv pv) (hD : m.data.length ≤ 1000000) (hP : m.path.length ≤ 1000000) :
    Calls Tryz.prog 20 #[msgV m dv pv] w (EncPost m w) := by
  obtain ⟨nd, hnd⟩ : ∃ n, n = m.data.length := ⟨_, rfl⟩
  obtain ⟨np, hnp⟩ : ∃ n, n = m.path.length := ⟨_, rfl⟩
  obtain ⟨ad, cd, rfl⟩ : ∃ a c, dv = .slice a nd c := by rw [hnd]; exact hm.data.form
  obtain ⟨ap, cp, rfl⟩ : ∃ a c, pv = .slice a np c := by rw [hnp]; exact hm.path.form
  have C1 := Lib.hid fun w' => rvalid_any m ad nd cd ap np cp w' hnd hnp (by omega) (by omega)
  have C2 := Lib.hid fun (w' : World) (hb : Below w.heap.size w w') => renc_any m (.slice ad nd cd) (.slice ap np cp) w' (hm.below hb) hD hP
  have R0 := Lib.hid (RecN.new w #[.int .i64 m.kind, .int .i64 m.epoch, .int .i64 m.inst, .int .i64 m.round, .int .i64 m.bit, .int .u64 (uv m.root), .int .i64 m.len, .slice ad nd cd, .slice ap np cp] 27)
  have B0 := Lib.hid ((Below.refl w.heap.size w).alloc (Nat.le_refl _) (.cells #[.int .i64 m.kind, .int .i64 m.epoch, .int .i64 m.inst, .int .i64 m.round, .int .i64 m.bit, .int .u64 (uv m.root), .int .i64 m.len, .slice ad nd cd, .slice ap np cp] 27))
  clear hm hD hP hnd hnp
  unfold msgV at C1 C2 ⊢
  go_enter Tryz.func20, Tryz.ntmps20
  go_wp2_with fail
  refine (C1.out _).mono ?_; rintro e w1 ⟨rfl, b1⟩
  have B1 := Lib.hid (B0.out.trans (b1.mono B0.out.size))
  have R1 := Lib.hid (R0.out.below b1 R0.out.1)
  clear b1
  by_cases hv : Ms.valid m = 0
  · have HV := Lib.hid hv
    have x0 := R1.out.c 0 rfl; have x1 := R1.out.c 1 rfl; have x2 := R1.out.c 2 rfl; have x3 := R1.out.c 3 rfl; have x4 := R1.out.c 4 rfl; have x5 := R1.out.c 5 rfl; have x6 := R1.out.c 6 rfl; have x7 := R1.out.c 7 rfl; have x8 := R1.out.c 8 rfl
    rw [hv]
    clear hv
    go_wp2_with fail
    refine (C2.out _ B1.out).mono ?_; rintro e w2 ⟨v2, rfl, o2, b2⟩
    obtain ⟨a2, c2, rfl⟩ := o2.form
    have O2 := Lib.hid o2.has; have B2 := Lib.hid (B1.out.trans (b2.mono B1.out.size))
    clear o2 b2
    go_wp2_with fail
    go_ret2
    exact .inr ⟨HV.out, _, rfl, O2.out, B2.out⟩
  · have HV := Lib.hid hv
    obtain ⟨x, hx⟩ : ∃ x : Nat, x = Ms.valid m := ⟨_, rfl⟩
    have t1 : (((x : Nat) : Int) != 0) = true := by rw [bne_iff_ne]; omega
    rw [← hx]
    have HX := Lib.hid hx
    clear hv hx
    go_wp2_with fail
    go_ret2
    exact .inl ⟨HV.out, by rw [← HX.out]; rfl, B1.out⟩
end Go.Proofs.YtgkckomccabmlaaGreatDoor
namespace Go.Proofs.YtgkckomccabmlaaGreatDoor
open Go.ChangeShapes Go.WideShapes Go.ChangeAt Go.RowKit
open Dg (W B)
open Ms (Msg)
namespace Ms
/-- what is read behind the numbers -/
def tail (xs : List Int) (b : List B) : Option (Msg × List B) :=
  andThen Cd.getD b fun root b => andThen Cd.getB b fun data b => andThen Cd.getI b fun n b => if n < 0 ∨ 10 < n then none else andThen (rdP n.toNat) b fun path b =>
    some (⟨xs.getD 0 0, xs.getD 1 0, xs.getD 2 0, xs.getD 3 0, xs.getD 4 0, root, xs.getD 5 0, data, path⟩, b)
def rdK : Nat → List Int → List B → Option (Msg × List B)
  | 0, xs, b => tail xs b
  | n + 1, xs, b => andThen Cd.getI b fun x b => rdK n (xs ++ [x]) b
theorem rdK_eq (b : List B) : rdMsg b = rdK 6 [] b := rfl
/-- the rest of the path -/
def rest (xs : List Int) (root : W) (data : List B) (ds : List W) (n : Nat) (b : List B) : Option (Msg × List B) :=
  andThen (rdP n) b fun path b => some (⟨xs.getD 0 0, xs.getD 1 0, xs.getD 2 0, xs.getD 3 0, xs.getD 4 0, root, xs.getD 5 0, data, ds ++ path⟩, b)
theorem rest_zero (xs : List Int) (root : W) (data : List B) (ds : List W) (b : List B) : rest xs root data ds 0 b = some (⟨xs.getD 0 0, xs.getD 1 0, xs.getD 2 0, xs.getD 3 0, xs.getD 4 0, root, xs.getD 5 0, data, ds⟩, b) := by
  unfold rest
  rw [andThen_ok (show rdP 0 b = .ok [] 0 from rfl)]
  simp
theorem rest_bad {xs : List Int} {root : W} {data : List B} {ds : List W} {n c : Nat} {b : List B} (h : Cd.getD b = .bad c) : rest xs root data ds (n + 1) b = none := by
  unfold rest
  rw [andThen_bad (c := c) (by rw [rdP, h])]
theorem rest_ok {xs : List Int} {root d : W} {data : List B} {ds : List W} {n k : Nat} {b : List B} (h : Cd.getD b = .ok d k) : rest xs root data ds (n + 1) b = rest xs root data (ds ++ [d]) n (b.drop k) := by
  unfold rest
  cases hr : rdP n (b.drop k) with
  | bad c => rw [andThen_bad (c := c) (by rw [rdP, h]; simp only []; rw [hr]), andThen_bad hr]
  | ok l q => rw [andThen_ok (x := d :: l) (k := k + q) (by rw [rdP, h]; simp only []; rw [hr]), andThen_ok hr]; simp [List.drop_drop]
theorem tail_eq {xs : List Int} {b : List B} {root : W} {data : List B} {n : Int} {j1 j2 j3 : Nat} (h1 : Cd.getD b = .ok root j1) (h2 : Cd.getB (b.drop j1) = .ok data j2) (h3 : Cd.getI ((b.drop j1).drop j2) = .ok n j3) (hn : ¬ (n < 0 ∨ 10 < n)) :
    tail xs b = rest xs root data [] n.toNat (((b.drop j1).drop j2).drop j3) := by
  unfold tail
  rw [andThen_ok h1, andThen_ok h2, andThen_ok h3, if_neg hn]
  rfl
theorem dec_none {b : List B} (h : rdMsg b = none) : dec b = none := by unfold dec; rw [h]
theorem dec_some {b r : List B} {m : Msg} (h : rdMsg b = some (m, r)) : dec b = if r = [] ∧ valid m = 0 then some m else none := by unfold dec; rw [h]
end Ms
def zeroMsg : Msg := ⟨0, 0, 0, 0, 0, 0#64, 0, [], []⟩
/-- two results, one in memory -/
theorem results_ct {P : Program} {fn : Func} {a t : Tmp} {A : TypeId} (h : fn.results = #[.cell a A, .tmp t]) (tmps : Array Value) (w : World) (p : Addr)
    (hp : tmps.getD a undef = .pointer (some p)) {x : Value} (hx : (loadVar A p).run P w = .ok x w) : (results fn tmps).run P w = .ok (.tuple #[x, tmps.getD t undef]) w := by
  have hp' : tmps[a]?.getD undef = .pointer (some p) := by simpa using hp
  simp [results, h, hp', asAddr, hx]
def DecPost (L : List B) (w : World) (e : Ending) (w' : World) : Prop :=
  (Ms.dec L = none ∧ e = .returned (.tuple #[msgV zeroMsg (.slice none 0 0) (.slice none 0 0), .int .i64 4]) ∧ Below w.heap.size w w') ∨
  ∃ m dv pv, Ms.dec L = some m ∧ e = .returned (.tuple #[msgV m dv pv, .int .i64 0]) ∧ MsgIn w' m dv pv ∧ Below w.heap.size w w'
/-- the same, and what is returned is new -/
def RDecPost (L : List B) (w : World) (e : Ending) (w' : World) : Prop :=
  (Ms.dec L = none ∧ e = .returned (.tuple #[msgV zeroMsg (.slice none 0 0) (.slice none 0 0), .int .i64 4]) ∧ Below w.heap.size w w') ∨
  ∃ m dv pv, Ms.dec L = some m ∧ e = .returned (.tuple #[msgV m dv pv, .int .i64 0]) ∧ MsgIn w' m dv pv ∧ Below w.heap.size w w' ∧ ∀ N, N < w.heap.size → Off N dv ∧ Off N pv
theorem RDecPost.plain {L : List B} {w w' : World} {e : Ending} (h : RDecPost L w e w') : DecPost L w e w' := by
  rcases h with h | ⟨m, dv, pv, h1, h2, h3, h4, _⟩
  · exact .inl h
  · exact .inr ⟨m, dv, pv, h1, h2, h3, h4⟩
theorem DecPost.bad {L : List B} {w w1 : World} (h : Ms.dec L = none) (hb : Below w.heap.size w w1) (a b c d e f g i j : Value) :
    RDecPost L w (.returned (.tuple #[msgV zeroMsg (.slice none 0 0) (.slice none 0 0), .int .i64 4])) (put9 w1 w.heap.size a b c d e f g i j) :=
  .inl ⟨h, rfl, hb.trans (below_put9 _ _ _ _ _ _ _ _ _ _ _)⟩
/-- the cells of the message that is read -/
def mcells (xs : List Int) (root : W) (dv pv : Value) : List Value := [.int .i64 (xs.getD 0 0), .int .i64 (xs.getD 1 0), .int .i64 (xs.getD 2 0), .int .i64 (xs.getD 3 0), .int .i64 (xs.getD 4 0), .int .u64 (uv root), .int .i64 (xs.getD 5 0), dv, pv]
/-- where the numbers lie -/
def fieldAt (k : Nat) : Nat := if k = 5 then 6 else k
theorem mcells_set (xs : List Int) (x : Int) (root : W) (dv pv : Value) (k : Nat) (hk : k < 6) (hx : xs.length = k) : (mcells xs root dv pv).set (fieldAt k) (.int .i64 x) = mcells (xs ++ [x]) root dv pv := by
  rcases (show k = 0 ∨ k = 1 ∨ k = 2 ∨ k = 3 ∨ k = 4 ∨ k = 5 by omega) with rfl | rfl | rfl | rfl | rfl | rfl
  all_goals
    match xs, hx with
    | [], h => first | rfl | exact absurd h (by simp)
    | [_], h => first | rfl | exact absurd h (by simp)
    | [_, _], h => first | rfl | exact absurd h (by simp)
    | [_, _, _], h => first | rfl | exact absurd h (by simp)
    | [_, _, _, _], h => first | rfl | exact absurd h (by simp)
    | [_, _, _, _, _], h => first | rfl | exact absurd h (by simp)
theorem OwnB.grownW {base base' : Nat} {w w' : World} {dv v : Value} {l : List B} {ds : List W} (h : OwnB base w dv l) (ho : OwnW base' w v ds) (grow : w.grownBy w' v.ownBlock) : OwnB base w' dv l := by
  obtain ⟨h1, h2⟩ := h
  refine ⟨h1, ?_⟩
  rcases h2 with h2 | ⟨b, cap, cur, hv, hbb, hh, r⟩
  · exact .inl h2
  · refine .inr ⟨b, cap, cur, hv, hbb, ?_, r⟩
    rw [grow.block b (Array.getElem?_eq_some_iff.1 hh).1 ?_]
    · exact hh
    · intro e
      rcases ho.2 with ⟨rfl, -⟩ | ⟨g, cap2, cur2, rfl, -, hg, -⟩
      · simp [Value.ownBlock] at e
      · simp only [Value.ownBlock, Option.some.injEq] at e
        subst e
        rw [hh] at hg
        simp at hg
theorem offW {base g : Nat} {w : World} {v : Value} {l : List W} (h : OwnW base w v l) (hg : g < base) : Off g v := by
  rcases h.2 with ⟨rfl, h0⟩ | ⟨b, cap, cur, rfl, h1, _⟩
  · exact Off.none _ _ _
  · exact Off.some (by omega)
/-- so many numbers have been read -/
def DNum (L : List B) (w : World) (pv i : Value) (wr : World) : Prop :=
  ∃ (k q : Nat) (xs : List Int), k ≤ 6 ∧ i = .int .i64 (k : Int) ∧ pv = .int .i64 (q : Int) ∧ xs.length = k ∧ q ≤ L.length ∧ RecN wr w.heap.size (mcells [] 0#64 (.slice none 0 0) (.slice none 0 0)) ∧ RecN wr (w.heap.size + 1) (mcells xs 0#64 (.slice none 0 0) (.slice none 0 0)) ∧
    (∀ j, j < 6 → wr.cell? ⟨w.heap.size + 2, j, none⟩ = some (.pointer (some ⟨w.heap.size + 1, fieldAt j, none⟩))) ∧ w.heap.size + 3 ≤ wr.heap.size ∧ Below w.heap.size w wr ∧ Ms.rdMsg L = Ms.rdK (6 - k) xs (L.drop q)
/-- so many digests of the path have been read -/
def DPath (L : List B) (n : Nat) (xs : List Int) (root : W) (data : List B) (dv : Value) (w : World) (pv i : Value) (wr : World) : Prop :=
  ∃ (k q : Nat) (ds : List W) (v : Value), k ≤ n ∧ i = .int .i64 (k : Int) ∧ pv = .int .i64 (q : Int) ∧ ds.length = k ∧ q ≤ L.length ∧ RecN wr w.heap.size (mcells [] 0#64 (.slice none 0 0) (.slice none 0 0)) ∧ RecN wr (w.heap.size + 1) (mcells xs root dv v) ∧
    OwnB (w.heap.size + 2) wr dv data ∧ OwnW (w.heap.size + 2) wr v ds ∧ w.heap.size + 2 ≤ wr.heap.size ∧ Below w.heap.size w wr ∧ Ms.rdMsg L = Ms.rest xs root data ds (n - k) (L.drop q)
set_option maxRecDepth 100000 in
set_option maxHeartbeats 8000000 in
theorem rdec_any (L : List B) (v : Value) (w : World) (hL9 : L.length ≤ 9000000) (h : HasB w w.heap.size v L) :
    Calls Tryz.prog 23 #[v] w (RDecPost L w) := by
  have HL9 := Lib.hid hL9
  have hL : L.length ≤ 300000000 := by omega
  clear hL9
  obtain ⟨nL, hnL⟩ : ∃ n, n = L.length := ⟨_, rfl⟩
  obtain ⟨a, cap, rfl⟩ : ∃ a c, v = .slice a nL c := by rw [hnL]; exact h.form
  have H := Lib.hid h; have HNL := Lib.hid hnL; have HLL := Lib.hid hL
  have hnL3 : nL ≤ 300000000 := by omega
  have S0 := Lib.hid (((RecN.new w #[.int .i64 0, .int .i64 0, .int .i64 0, .int .i64 0, .int .i64 0, .int .u64 0, .int .i64 0, .slice none 0 0, .slice none 0 0] 27).alloc (.cells #[.int .i64 0, .int .i64 0, .int .i64 0, .int .i64 0, .int .i64 0, .int .u64 0, .int .i64 0, .slice none 0 0, .slice none 0 0] 27)).alloc (.cells #[.pointer (some ⟨w.heap.size + 1, 0, none⟩), .pointer (some ⟨w.heap.size + 1, 1, none⟩), .pointer (some ⟨w.heap.size + 1, 2, none⟩), .pointer (some ⟨w.heap.size + 1, 3, none⟩), .pointer (some ⟨w.heap.size + 1, 4, none⟩), .pointer (some ⟨w.heap.size + 1, 6, none⟩)] 80))
  have S1 := Lib.hid ((RecN.new (w.alloc (.cells #[.int .i64 0, .int .i64 0, .int .i64 0, .int .i64 0, .int .i64 0, .int .u64 0, .int .i64 0, .slice none 0 0, .slice none 0 0] 27)) #[.int .i64 0, .int .i64 0, .int .i64 0, .int .i64 0, .int .i64 0, .int .u64 0, .int .i64 0, .slice none 0 0, .slice none 0 0] 27).alloc (.cells #[.pointer (some ⟨w.heap.size + 1, 0, none⟩), .pointer (some ⟨w.heap.size + 1, 1, none⟩), .pointer (some ⟨w.heap.size + 1, 2, none⟩), .pointer (some ⟨w.heap.size + 1, 3, none⟩), .pointer (some ⟨w.heap.size + 1, 4, none⟩), .pointer (some ⟨w.heap.size + 1, 6, none⟩)] 80))
  have S2 := Lib.hid (RecN.new ((w.alloc (.cells #[.int .i64 0, .int .i64 0, .int .i64 0, .int .i64 0, .int .i64 0, .int .u64 0, .int .i64 0, .slice none 0 0, .slice none 0 0] 27)).alloc (.cells #[.int .i64 0, .int .i64 0, .int .i64 0, .int .i64 0, .int .i64 0, .int .u64 0, .int .i64 0, .slice none 0 0, .slice none 0 0] 27)) #[.pointer (some ⟨w.heap.size + 1, 0, none⟩), .pointer (some ⟨w.heap.size + 1, 1, none⟩), .pointer (some ⟨w.heap.size + 1, 2, none⟩), .pointer (some ⟨w.heap.size + 1, 3, none⟩), .pointer (some ⟨w.heap.size + 1, 4, none⟩), .pointer (some ⟨w.heap.size + 1, 6, none⟩)] 80)
  have SB := Lib.hid (((((Below.refl w.heap.size w).alloc (Nat.le_refl _) (.cells #[.int .i64 0, .int .i64 0, .int .i64 0, .int .i64 0, .int .i64 0, .int .u64 0, .int .i64 0, .slice none 0 0, .slice none 0 0] 27)).alloc (by simp) (.cells #[.int .i64 0, .int .i64 0, .int .i64 0, .int .i64 0, .int .i64 0, .int .u64 0, .int .i64 0, .slice none 0 0, .slice none 0 0] 27)).alloc (by simp; omega) (.cells #[.pointer (some ⟨w.heap.size + 1, 0, none⟩), .pointer (some ⟨w.heap.size + 1, 1, none⟩), .pointer (some ⟨w.heap.size + 1, 2, none⟩), .pointer (some ⟨w.heap.size + 1, 3, none⟩), .pointer (some ⟨w.heap.size + 1, 4, none⟩), .pointer (some ⟨w.heap.size + 1, 6, none⟩)] 80)))
  rw [show (w.alloc (.cells #[.int .i64 0, .int .i64 0, .int .i64 0, .int .i64 0, .int .i64 0, .int .u64 0, .int .i64 0, .slice none 0 0, .slice none 0 0] 27)).heap.size = w.heap.size + 1 by simp] at S1
  rw [show ((w.alloc (.cells #[.int .i64 0, .int .i64 0, .int .i64 0, .int .i64 0, .int .i64 0, .int .u64 0, .int .i64 0, .slice none 0 0, .slice none 0 0] 27)).alloc (.cells #[.int .i64 0, .int .i64 0, .int .i64 0, .int .i64 0, .int .i64 0, .int .u64 0, .int .i64 0, .slice none 0 0, .slice none 0 0] 27)).heap.size = w.heap.size + 2 by simp] at S2
  clear h hnL hL
  go_enter Tryz.func23, Tryz.ntmps23
  go_wp2
  go_loopw [5, 19] (DNum L w) (fun _ i _ => 6 - (intOf i).toNat)
  case atStart =>
    refine ⟨0, 0, [], by omega, rfl, rfl, rfl, by omega, S0.out, S1.out, fun j hj => ?_, by simp, SB.out, rfl⟩
    rcases (show j = 0 ∨ j = 1 ∨ j = 2 ∨ j = 3 ∨ j = 4 ∨ j = 5 by omega) with rfl | rfl | rfl | rfl | rfl | rfl
    all_goals exact S2.out.c _ rfl
  case round =>
    clear S0 S1 S2 SB
    obtain ⟨k, q, xs, hk, rfl, rfl, hxs, hqL, hr0, hr1, hpt, hsz, hb, hst⟩ := hrel
    have HST := Lib.hid hst; have HB := Lib.hid hb; have R0 := Lib.hid hr0; have R1 := Lib.hid hr1; have HPT := Lib.hid hpt; have HSZ := Lib.hid hsz; have HXS := Lib.hid hxs; have HQ := Lib.hid hqL
    have HBr := Lib.hid ((H.out.below hb (Nat.le_refl _)).wide hb.size)
    clear hst hb hr0 hr1 hpt hsz hxs hqL
    have hq3 : q ≤ 300000000 := by have := HQ.out; have := HLL.out; omega
    by_cases hlt : k < 6
    · have tk : (k : Int) < 6 := by omega
      have hptr := HPT.out k hlt
      have hcells := R1.out.2 (fieldAt k) (by unfold fieldAt mcells; split <;> simp <;> omega)
      cases hI : Cd.getI (L.drop q) with
      | bad c =>
        have C := Lib.hid (rint_bad L q c (.slice a nL cap) wr HQ.out HLL.out HBr.out hI)
        have hc := getI_code hI
        have t1 : ((c : Int) != 0) = true := by rw [bne_iff_ne]; omega
        have hN := Lib.hid (Ms.dec_none (by rw [HST.out, show 6 - k = (6 - (k + 1)) + 1 by omega, Ms.rdK, Ms.andThen_bad hI]))
        clear hI hc
        go_wp2_with fail
        refine (C.out).mono ?_; rintro e w' ⟨rfl, rfl⟩
        have x0 := R0.out.c 0 rfl; have f0 := R0.out.f 0 (by simp [mcells])
        have x1 := R0.out.c 1 rfl; have f1 := R0.out.f 1 (by simp [mcells])
        have x2 := R0.out.c 2 rfl; have f2 := R0.out.f 2 (by simp [mcells])
        have x3 := R0.out.c 3 rfl; have f3 := R0.out.f 3 (by simp [mcells])
        have x4 := R0.out.c 4 rfl; have f4 := R0.out.f 4 (by simp [mcells])
        have x5 := R0.out.c 5 rfl; have f5 := R0.out.f 5 (by simp [mcells])
        have x6 := R0.out.c 6 rfl; have f6 := R0.out.f 6 (by simp [mcells])
        have x7 := R0.out.c 7 rfl; have f7 := R0.out.f 7 (by simp [mcells])
        have x8 := R0.out.c 8 rfl; have f8 := R0.out.f 8 (by simp [mcells])
        have hne : w.heap.size ≠ w.heap.size + 1 := by omega
        have hne2 : w.heap.size + 1 ≠ w.heap.size := by omega
        go_wp2_with fail
        refine bodyPost_ret (results_ct rfl _ _ ⟨w.heap.size, 0, none⟩ rfl (load_msg _ _ zeroMsg (.slice none 0 0) (.slice none 0 0) (by first | (go_simp; done) | (go_simp; rfl)) (by first | (go_simp; done) | (go_simp; rfl)) (by first | (go_simp; done) | (go_simp; rfl)) (by first | (go_simp; done) | (go_simp; rfl)) (by first | (go_simp; done) | (go_simp; rfl)) (by first | (go_simp; done) | (go_simp; rfl)) (by first | (go_simp; done) | (go_simp; rfl)) (by first | (go_simp; done) | (go_simp; rfl)) (by first | (go_simp; done) | (go_simp; rfl)))) rfl ?_
        exact DecPost.bad hN.out (HB.out.setCell (p := ⟨w.heap.size + 1, fieldAt k, none⟩) (by simp) _) _ _ _ _ _ _ _ _ _
      | ok x j =>
        have C := Lib.hid (rint_ok L q j x (.slice a nL cap) wr HQ.out HLL.out HBr.out hI)
        obtain ⟨e1, e2, e3, e4⟩ := Cd.getI_inv hI
        rw [List.length_drop] at e3
        have hN := Lib.hid (show Ms.rdMsg L = Ms.rdK (6 - (k + 1)) (xs ++ [x]) (L.drop (q + j)) by rw [HST.out, show 6 - k = (6 - (k + 1)) + 1 by omega, Ms.rdK, Ms.andThen_ok hI, List.drop_drop])
        have HQ2 := Lib.hid (show q + j ≤ L.length by have := HQ.out; omega)
        obtain ⟨q2, hq2⟩ : ∃ q2, q2 = q + j := ⟨_, rfl⟩
        rw [← hq2] at C hN HQ2
        clear hI e1 e2 e3 e4 hq2
        go_wp2_with fail
        refine (C.out).mono ?_; rintro e w' ⟨rfl, rfl⟩
        go_wp2_with fail
        go_roundw
        case rel =>
          refine ⟨k + 1, q2, xs ++ [x], by omega, by go_num, rfl, by rw [List.length_append, HXS.out]; rfl, HQ2.out, R0.out.far _ (by show w.heap.size + 1 ≠ _; omega) _, ?_, fun j hj => ?_, by simpa using HSZ.out, HB.out.setCell (p := ⟨w.heap.size + 1, fieldAt k, none⟩) (by simp) _, hN.out⟩
          · have := R1.out.set (fieldAt k) (by unfold fieldAt mcells; split <;> simp <;> omega) (.int .i64 x)
            rw [mcells_set xs x _ _ _ k hlt HXS.out] at this
            exact this
          · rw [World.cell?_setCell_far _ _ _ _ (by show w.heap.size + 1 ≠ w.heap.size + 2; omega)]
            exact HPT.out j hj
        case measure => simp [intOf]; omega
    · obtain rfl : k = 6 := by omega
      have HT := Lib.hid (show Ms.rdMsg L = Ms.tail xs (L.drop q) from HST.out)
      clear HST HPT HSZ hlt hk
      cases hG : Cd.getD (L.drop q) with
      | bad c =>
        have C := Lib.hid (rdgt_bad L q c (.slice a nL cap) wr HQ.out HBr.out hG)
        have hc := getD_code hG
        subst hc
        have hN := Lib.hid (Ms.dec_none (by rw [HT.out, Ms.tail, Ms.andThen_bad hG]))
        have y5 := R1.out.c 5 rfl; have g5 := R1.out.f 5 (by simp [mcells])
        clear hG
        go_wp2_with fail
        refine (C.out).mono ?_; rintro e w' ⟨rfl, rfl⟩
        have x0 := R0.out.c 0 rfl; have f0 := R0.out.f 0 (by simp [mcells])
        have x1 := R0.out.c 1 rfl; have f1 := R0.out.f 1 (by simp [mcells])
        have x2 := R0.out.c 2 rfl; have f2 := R0.out.f 2 (by simp [mcells])
        have x3 := R0.out.c 3 rfl; have f3 := R0.out.f 3 (by simp [mcells])
        have x4 := R0.out.c 4 rfl; have f4 := R0.out.f 4 (by simp [mcells])
        have x5 := R0.out.c 5 rfl; have f5 := R0.out.f 5 (by simp [mcells])
        have x6 := R0.out.c 6 rfl; have f6 := R0.out.f 6 (by simp [mcells])
        have x7 := R0.out.c 7 rfl; have f7 := R0.out.f 7 (by simp [mcells])
        have x8 := R0.out.c 8 rfl; have f8 := R0.out.f 8 (by simp [mcells])
        have hne : w.heap.size ≠ w.heap.size + 1 := by omega
        have hne2 : w.heap.size + 1 ≠ w.heap.size := by omega
        go_wp2_with fail
        refine bodyPost_ret (results_ct rfl _ _ ⟨w.heap.size, 0, none⟩ rfl (load_msg _ _ zeroMsg (.slice none 0 0) (.slice none 0 0) (by first | (go_simp; done) | (go_simp; rfl)) (by first | (go_simp; done) | (go_simp; rfl)) (by first | (go_simp; done) | (go_simp; rfl)) (by first | (go_simp; done) | (go_simp; rfl)) (by first | (go_simp; done) | (go_simp; rfl)) (by first | (go_simp; done) | (go_simp; rfl)) (by first | (go_simp; done) | (go_simp; rfl)) (by first | (go_simp; done) | (go_simp; rfl)) (by first | (go_simp; done) | (go_simp; rfl)))) rfl ?_
        exact DecPost.bad hN.out (HB.out.setCell (p := ⟨w.heap.size + 1, 5, none⟩) (by simp) _) _ _ _ _ _ _ _ _ _
      | ok root j1 =>
        obtain ⟨rfl, d2, -⟩ := Cd.getD_inv hG
        rw [List.length_drop] at d2
        have C := Lib.hid (rdgt_ok L q 8 root (.slice a nL cap) wr HQ.out HLL.out HBr.out hG)
        have HG := Lib.hid hG
        obtain ⟨w1, hw1⟩ : ∃ w1, w1 = wr.setCell ⟨w.heap.size + 1, 5, none⟩ (.int .u64 (uv root)) := ⟨_, rfl⟩
        have P0 := Lib.hid (show RecN w1 w.heap.size _ from by rw [hw1]; exact R0.out.far ⟨w.heap.size + 1, 5, none⟩ (by show w.heap.size + 1 ≠ _; omega) _)
        have P1 := Lib.hid (show RecN w1 (w.heap.size + 1) (mcells xs root (.slice none 0 0) (.slice none 0 0)) from by rw [hw1]; exact R1.out.set 5 (by simp [mcells]) _)
        have B1 := Lib.hid (show Below w.heap.size w w1 by rw [hw1]; exact HB.out.setCell (p := ⟨w.heap.size + 1, 5, none⟩) (by simp) _)
        have HBr1 := Lib.hid ((H.out.below B1.out (Nat.le_refl _)).wide B1.out.size)
        obtain ⟨q1, hq1⟩ : ∃ q1, q1 = q + 8 := ⟨_, rfl⟩
        have HQ1 := Lib.hid (show q1 ≤ L.length by have := HQ.out; omega)
        have HD1 := Lib.hid (show (L.drop q).drop 8 = L.drop q1 by rw [List.drop_drop, hq1])
        have hq13 : q1 ≤ 300000000 := by have := HQ1.out; have := HLL.out; omega
        have hw1' := hw1.symm
        have y5 := R1.out.c 5 rfl; have g5 := R1.out.f 5 (by simp [mcells])
        rw [← hq1] at C
        clear hG d2 hq1 hw1
        cases hG : Cd.getB (L.drop q1) with
        | bad c =>
          have C2 := Lib.hid (rbytes_bad L q1 c (.slice a nL cap) w1 HQ1.out HLL.out HBr1.out hG)
          have hc := getB_code hG
          have t1 : ((c : Int) != 0) = true := by rw [bne_iff_ne]; omega
          have hN := Lib.hid (Ms.dec_none (by rw [HT.out, Ms.tail, Ms.andThen_ok HG.out, HD1.out, Ms.andThen_bad hG]))
          clear hG hc
          go_wp2_with fail
          refine (C.out).mono ?_; rintro e w' ⟨rfl, rfl⟩
          go_wp2_with fail
          refine (C2.out).mono ?_; rintro e w' ⟨rfl, rfl⟩
          clear hw1' y5 g5
          have y7 := P1.out.c 7 rfl; have g7 := P1.out.f 7 (by simp [mcells])
          have x0 := P0.out.c 0 rfl; have f0 := P0.out.f 0 (by simp [mcells])
          have x1 := P0.out.c 1 rfl; have f1 := P0.out.f 1 (by simp [mcells])
          have x2 := P0.out.c 2 rfl; have f2 := P0.out.f 2 (by simp [mcells])
          have x3 := P0.out.c 3 rfl; have f3 := P0.out.f 3 (by simp [mcells])
          have x4 := P0.out.c 4 rfl; have f4 := P0.out.f 4 (by simp [mcells])
          have x5 := P0.out.c 5 rfl; have f5 := P0.out.f 5 (by simp [mcells])
          have x6 := P0.out.c 6 rfl; have f6 := P0.out.f 6 (by simp [mcells])
          have x7 := P0.out.c 7 rfl; have f7 := P0.out.f 7 (by simp [mcells])
          have x8 := P0.out.c 8 rfl; have f8 := P0.out.f 8 (by simp [mcells])
          have hne : w.heap.size ≠ w.heap.size + 1 := by omega
          have hne2 : w.heap.size + 1 ≠ w.heap.size := by omega
          go_wp2_with fail
          refine bodyPost_ret (results_ct rfl _ _ ⟨w.heap.size, 0, none⟩ rfl (load_msg _ _ zeroMsg (.slice none 0 0) (.slice none 0 0) (by first | (go_simp; done) | (go_simp; rfl)) (by first | (go_simp; done) | (go_simp; rfl)) (by first | (go_simp; done) | (go_simp; rfl)) (by first | (go_simp; done) | (go_simp; rfl)) (by first | (go_simp; done) | (go_simp; rfl)) (by first | (go_simp; done) | (go_simp; rfl)) (by first | (go_simp; done) | (go_simp; rfl)) (by first | (go_simp; done) | (go_simp; rfl)) (by first | (go_simp; done) | (go_simp; rfl)))) rfl ?_
          exact DecPost.bad hN.out (B1.out.setCell (p := ⟨w.heap.size + 1, 7, none⟩) (by simp) _) _ _ _ _ _ _ _ _ _
        | ok data j2 =>
          obtain ⟨f1, f2, f3, f4⟩ := Cd.getB_inv hG
          rw [List.length_drop] at f3
          have hDl : data.length ≤ 9000000 := by
            have := congrArg List.length f4
            rw [Cd.putB_len, List.length_take, List.length_drop] at this
            have := HL9.out
            omega
          have C2 := Lib.hid (rbytes_ok L data q1 j2 (.slice a nL cap) w1 HQ1.out HLL.out HBr1.out hG)
          have HGB := Lib.hid hG
          obtain ⟨q2, hq2⟩ : ∃ q2, q2 = q1 + j2 := ⟨_, rfl⟩
          have HQ2 := Lib.hid (show q2 ≤ L.length by have := HQ1.out; omega)
          have HD2 := Lib.hid (show (L.drop q1).drop j2 = L.drop q2 by rw [List.drop_drop, hq2])
          have hq23 : q2 ≤ 300000000 := by have := HQ2.out; have := HLL.out; omega
          have S1 := Lib.hid (show w.heap.size + 2 ≤ w1.heap.size from P1.out.1)
          rw [← hq2] at C2
          clear hG f1 f2 f3 f4 hq2
          go_wp2_with fail
          refine (C.out).mono ?_; rintro e w' ⟨rfl, rfl⟩
          go_wp2_with fail
          refine (C2.out).mono ?_; rintro e w2' ⟨dv, rfl, o2, b2⟩
          obtain ⟨ad, cd, hdv⟩ := o2.has.form
          obtain ⟨nd, hnd⟩ : ∃ n, n = data.length := ⟨_, rfl⟩
          rw [← hnd] at hdv
          subst hdv
          have HND := Lib.hid hnd
          have hnd3 : nd ≤ 9000000 := by omega
          clear hw1' y5 g5 hDl hnd
          have O2 := Lib.hid (o2.mono S1.out)
          have T0 := Lib.hid (P0.out.below b2 P0.out.1); have T1 := Lib.hid (P1.out.below b2 P1.out.1)
          have BB := Lib.hid (B1.out.trans (b2.mono (by have := S1.out; omega)))
          obtain ⟨w2, hw2⟩ : ∃ w2, w2 = w2'.setCell ⟨w.heap.size + 1, 7, none⟩ (.slice ad nd cd) := ⟨_, rfl⟩
          have Q0 := Lib.hid (show RecN w2 w.heap.size _ from by rw [hw2]; exact T0.out.far ⟨w.heap.size + 1, 7, none⟩ (by show w.heap.size + 1 ≠ _; omega) _)
          have Q1 := Lib.hid (show RecN w2 (w.heap.size + 1) (mcells xs root (.slice ad nd cd) (.slice none 0 0)) from by rw [hw2]; exact T1.out.set 7 (by simp [mcells]) _)
          have B2 := Lib.hid (show Below w.heap.size w w2 by rw [hw2]; exact BB.out.setCell (p := ⟨w.heap.size + 1, 7, none⟩) (by simp) _)
          have OB2 := Lib.hid (show OwnB (w.heap.size + 2) w2 (.slice ad nd cd) data by rw [hw2]; exact O2.out.but ((But.refl (w.heap.size + 1) w2').setCell 7 _) (by omega))
          have S2 := Lib.hid (show w.heap.size + 2 ≤ w2.heap.size from Q1.out.1)
          have HBr2 := Lib.hid ((H.out.below B2.out (Nat.le_refl _)).wide B2.out.size)
          have hw2' := hw2.symm
          have y7 := T1.out.c 7 rfl; have g7 := T1.out.f 7 (by simp [mcells])
          clear o2 b2 hw2
          cases hG : Cd.getI (L.drop q2) with
          | bad c =>
            have C3 := Lib.hid (rint_bad L q2 c (.slice a nL cap) w2 HQ2.out HLL.out HBr2.out hG)
            have hc := getI_code hG
            have t1 : ((c : Int) != 0) = true := by rw [bne_iff_ne]; omega
            have hN := Lib.hid (Ms.dec_none (by rw [HT.out, Ms.tail, Ms.andThen_ok HG.out, HD1.out, Ms.andThen_ok HGB.out, HD2.out, Ms.andThen_bad hG]))
            clear hG hc
            go_wp2_with fail
            refine (C3.out).mono ?_; rintro e w' ⟨rfl, rfl⟩
            clear hw2' y7 g7
            have x0 := Q0.out.c 0 rfl; have f0 := Q0.out.f 0 (by simp [mcells])
            have x1 := Q0.out.c 1 rfl; have f1 := Q0.out.f 1 (by simp [mcells])
            have x2 := Q0.out.c 2 rfl; have f2 := Q0.out.f 2 (by simp [mcells])
            have x3 := Q0.out.c 3 rfl; have f3 := Q0.out.f 3 (by simp [mcells])
            have x4 := Q0.out.c 4 rfl; have f4 := Q0.out.f 4 (by simp [mcells])
            have x5 := Q0.out.c 5 rfl; have f5 := Q0.out.f 5 (by simp [mcells])
            have x6 := Q0.out.c 6 rfl; have f6 := Q0.out.f 6 (by simp [mcells])
            have x7 := Q0.out.c 7 rfl; have f7 := Q0.out.f 7 (by simp [mcells])
            have x8 := Q0.out.c 8 rfl; have f8 := Q0.out.f 8 (by simp [mcells])
            have hne : w.heap.size ≠ w.heap.size + 1 := by omega
            have hne2 : w.heap.size + 1 ≠ w.heap.size := by omega
            go_wp2_with fail
            refine bodyPost_ret (results_ct rfl _ _ ⟨w.heap.size, 0, none⟩ rfl (load_msg _ _ zeroMsg (.slice none 0 0) (.slice none 0 0) (by first | (go_simp; done) | (go_simp; rfl)) (by first | (go_simp; done) | (go_simp; rfl)) (by first | (go_simp; done) | (go_simp; rfl)) (by first | (go_simp; done) | (go_simp; rfl)) (by first | (go_simp; done) | (go_simp; rfl)) (by first | (go_simp; done) | (go_simp; rfl)) (by first | (go_simp; done) | (go_simp; rfl)) (by first | (go_simp; done) | (go_simp; rfl)) (by first | (go_simp; done) | (go_simp; rfl)))) rfl ?_
            exact DecPost.bad hN.out B2.out _ _ _ _ _ _ _ _ _
          | ok n j3 =>
            obtain ⟨e1, e2, e3, e4⟩ := Cd.getI_inv hG
            rw [List.length_drop] at e3
            have C3 := Lib.hid (rint_ok L q2 j3 n (.slice a nL cap) w2 HQ2.out HLL.out HBr2.out hG)
            obtain ⟨q3, hq3'⟩ : ∃ q3, q3 = q2 + j3 := ⟨_, rfl⟩
            have HQ3 := Lib.hid (show q3 ≤ L.length by have := HQ2.out; omega)
            have HD3 := Lib.hid (show (L.drop q2).drop j3 = L.drop q3 by rw [List.drop_drop, hq3'])
            have hq33 : q3 ≤ 300000000 := by have := HQ3.out; have := HLL.out; omega
            rw [← hq3'] at C3
            have HGI := Lib.hid hG
            clear hG e1 e2 e3 e4 hq3'
            by_cases hn : n < 0 ∨ 10 < n
            · have hN := Lib.hid (Ms.dec_none (by rw [HT.out, Ms.tail, Ms.andThen_ok HG.out, HD1.out, Ms.andThen_ok HGB.out, HD2.out, Ms.andThen_ok HGI.out, if_pos hn]))
              go_wp2_with fail
              refine (C3.out).mono ?_; rintro e w' ⟨rfl, rfl⟩
              clear hw2' y7 g7
              rcases hn with hn | hn
              · have t1 : decide (n < 0) = true := decide_eq_true hn
                clear hn
                have x0 := Q0.out.c 0 rfl; have f0 := Q0.out.f 0 (by simp [mcells])
                have x1 := Q0.out.c 1 rfl; have f1 := Q0.out.f 1 (by simp [mcells])
                have x2 := Q0.out.c 2 rfl; have f2 := Q0.out.f 2 (by simp [mcells])
                have x3 := Q0.out.c 3 rfl; have f3 := Q0.out.f 3 (by simp [mcells])
                have x4 := Q0.out.c 4 rfl; have f4 := Q0.out.f 4 (by simp [mcells])
                have x5 := Q0.out.c 5 rfl; have f5 := Q0.out.f 5 (by simp [mcells])
                have x6 := Q0.out.c 6 rfl; have f6 := Q0.out.f 6 (by simp [mcells])
                have x7 := Q0.out.c 7 rfl; have f7 := Q0.out.f 7 (by simp [mcells])
                have x8 := Q0.out.c 8 rfl; have f8 := Q0.out.f 8 (by simp [mcells])
                have hne : w.heap.size ≠ w.heap.size + 1 := by omega
                have hne2 : w.heap.size + 1 ≠ w.heap.size := by omega
                go_wp2_with fail
                refine bodyPost_ret (results_ct rfl _ _ ⟨w.heap.size, 0, none⟩ rfl (load_msg _ _ zeroMsg (.slice none 0 0) (.slice none 0 0) (by first | (go_simp; done) | (go_simp; rfl)) (by first | (go_simp; done) | (go_simp; rfl)) (by first | (go_simp; done) | (go_simp; rfl)) (by first | (go_simp; done) | (go_simp; rfl)) (by first | (go_simp; done) | (go_simp; rfl)) (by first | (go_simp; done) | (go_simp; rfl)) (by first | (go_simp; done) | (go_simp; rfl)) (by first | (go_simp; done) | (go_simp; rfl)) (by first | (go_simp; done) | (go_simp; rfl)))) rfl ?_
                exact DecPost.bad hN.out B2.out _ _ _ _ _ _ _ _ _
              · have t1 : decide (n < 0) = false := decide_eq_false (by omega)
                have t2 : decide (10 < n) = true := decide_eq_true hn
                clear hn
                have x0 := Q0.out.c 0 rfl; have f0 := Q0.out.f 0 (by simp [mcells])
                have x1 := Q0.out.c 1 rfl; have f1 := Q0.out.f 1 (by simp [mcells])
                have x2 := Q0.out.c 2 rfl; have f2 := Q0.out.f 2 (by simp [mcells])
                have x3 := Q0.out.c 3 rfl; have f3 := Q0.out.f 3 (by simp [mcells])
                have x4 := Q0.out.c 4 rfl; have f4 := Q0.out.f 4 (by simp [mcells])
                have x5 := Q0.out.c 5 rfl; have f5 := Q0.out.f 5 (by simp [mcells])
                have x6 := Q0.out.c 6 rfl; have f6 := Q0.out.f 6 (by simp [mcells])
                have x7 := Q0.out.c 7 rfl; have f7 := Q0.out.f 7 (by simp [mcells])
                have x8 := Q0.out.c 8 rfl; have f8 := Q0.out.f 8 (by simp [mcells])
                have hne : w.heap.size ≠ w.heap.size + 1 := by omega
                have hne2 : w.heap.size + 1 ≠ w.heap.size := by omega
                go_wp2_with fail
                refine bodyPost_ret (results_ct rfl _ _ ⟨w.heap.size, 0, none⟩ rfl (load_msg _ _ zeroMsg (.slice none 0 0) (.slice none 0 0) (by first | (go_simp; done) | (go_simp; rfl)) (by first | (go_simp; done) | (go_simp; rfl)) (by first | (go_simp; done) | (go_simp; rfl)) (by first | (go_simp; done) | (go_simp; rfl)) (by first | (go_simp; done) | (go_simp; rfl)) (by first | (go_simp; done) | (go_simp; rfl)) (by first | (go_simp; done) | (go_simp; rfl)) (by first | (go_simp; done) | (go_simp; rfl)) (by first | (go_simp; done) | (go_simp; rfl)))) rfl ?_
                exact DecPost.bad hN.out B2.out _ _ _ _ _ _ _ _ _
            · have t1 : decide (n < 0) = false := decide_eq_false (by omega)
              have t2 : decide (10 < n) = false := decide_eq_false (by omega)
              obtain ⟨N, rfl⟩ : ∃ N : Nat, n = N := ⟨n.toNat, by omega⟩
              have hN10 : N ≤ 10 := by omega
              have HR := Lib.hid (show Ms.rdMsg L = Ms.rest xs root data [] N (L.drop q3) by rw [HT.out, Ms.tail_eq HG.out (by rw [HD1.out]; exact HGB.out) (by rw [HD1.out, HD2.out]; exact HGI.out) hn, HD1.out, HD2.out, HD3.out, Int.toNat_natCast])
              clear hn
              go_wp2_with fail
              refine (C3.out).mono ?_; rintro e w' ⟨rfl, rfl⟩
              clear hw2' y7 g7
              go_wp2
              go_loopw [5, 77] (DPath L N xs root data (.slice ad nd cd) w) (fun _ i _ => N - (intOf i).toNat)
              case atStart => exact ⟨0, q3, [], .slice none 0 0, by omega, rfl, rfl, rfl, HQ3.out, Q0.out, Q1.out, OB2.out, World.ownsRow_nil _ _ _ _, S2.out, B2.out, HR.out⟩
              case round =>
                clear Q0 Q1 OB2 S2 B2 HR
                obtain ⟨k, q, ds, pv, hk, rfl, rfl, hds, hqL, hr0, hr1, hob, hop, hsz, hb, hst⟩ := hrel
                have HST := Lib.hid hst; have B2 := Lib.hid hb; have Q0 := Lib.hid hr0; have Q1 := Lib.hid hr1; have OB := Lib.hid hob; have OP := Lib.hid hop; have HSZ := Lib.hid hsz; have HDS := Lib.hid hds; have HQ := Lib.hid hqL
                have HBr := Lib.hid ((H.out.below hb (Nat.le_refl _)).wide hb.size)
                obtain ⟨ap, cp, hpv⟩ := hop.has.form
                rw [hds] at hpv
                subst hpv
                clear hst hb hr0 hr1 hob hop hsz hds hqL
                have hq4 : q ≤ 300000000 := by have := HQ.out; have := HLL.out; omega
                by_cases hlt : k < N
                · have tk : (k : Int) < (N : Int) := by omega
                  cases hG2 : Cd.getD (L.drop q) with
                  | bad c =>
                    have C4 := Lib.hid (rdgt_bad L q c (.slice a nL cap) wr HQ.out HBr.out hG2)
                    have hc := getD_code hG2
                    subst hc
                    have hN := Lib.hid (Ms.dec_none (by rw [HST.out, show N - k = (N - (k + 1)) + 1 by omega, Ms.rest_bad hG2]))
                    clear hG2
                    go_wp2_with fail
                    refine (C4.out).mono ?_; rintro e w' ⟨rfl, rfl⟩
                    have x0 := Q0.out.c 0 rfl; have f0 := Q0.out.f 0 (by simp [mcells])
                    have x1 := Q0.out.c 1 rfl; have f1 := Q0.out.f 1 (by simp [mcells])
                    have x2 := Q0.out.c 2 rfl; have f2 := Q0.out.f 2 (by simp [mcells])
                    have x3 := Q0.out.c 3 rfl; have f3 := Q0.out.f 3 (by simp [mcells])
                    have x4 := Q0.out.c 4 rfl; have f4 := Q0.out.f 4 (by simp [mcells])
                    have x5 := Q0.out.c 5 rfl; have f5 := Q0.out.f 5 (by simp [mcells])
                    have x6 := Q0.out.c 6 rfl; have f6 := Q0.out.f 6 (by simp [mcells])
                    have x7 := Q0.out.c 7 rfl; have f7 := Q0.out.f 7 (by simp [mcells])
                    have x8 := Q0.out.c 8 rfl; have f8 := Q0.out.f 8 (by simp [mcells])
                    have hne : w.heap.size ≠ w.heap.size + 1 := by omega
                    have hne2 : w.heap.size + 1 ≠ w.heap.size := by omega
                    go_wp2_with fail
                    refine bodyPost_ret (results_ct rfl _ _ ⟨w.heap.size, 0, none⟩ rfl (load_msg _ _ zeroMsg (.slice none 0 0) (.slice none 0 0) (by first | (go_simp; done) | (go_simp; rfl)) (by first | (go_simp; done) | (go_simp; rfl)) (by first | (go_simp; done) | (go_simp; rfl)) (by first | (go_simp; done) | (go_simp; rfl)) (by first | (go_simp; done) | (go_simp; rfl)) (by first | (go_simp; done) | (go_simp; rfl)) (by first | (go_simp; done) | (go_simp; rfl)) (by first | (go_simp; done) | (go_simp; rfl)) (by first | (go_simp; done) | (go_simp; rfl)))) rfl ?_
                    exact DecPost.bad hN.out B2.out _ _ _ _ _ _ _ _ _
                  | ok d j4 =>
                    obtain ⟨rfl, d2, -⟩ := Cd.getD_inv hG2
                    rw [List.length_drop] at d2
                    have C4 := Lib.hid (rdgt_ok L q 8 d (.slice a nL cap) wr HQ.out HLL.out HBr.out hG2)
                    have hN := Lib.hid (show Ms.rdMsg L = Ms.rest xs root data (ds ++ [d]) (N - (k + 1)) (L.drop (q + 8)) by rw [HST.out, show N - k = (N - (k + 1)) + 1 by omega, Ms.rest_ok hG2, List.drop_drop])
                    obtain ⟨q', hq'⟩ : ∃ q', q' = q + 8 := ⟨_, rfl⟩
                    have HQ2' := Lib.hid (show q' ≤ L.length by have := HQ.out; omega)
                    rw [← hq'] at C4 hN
                    have y8 := Q1.out.c 8 rfl; have g8 := Q1.out.f 8 (by simp [mcells])
                    have hlit : (wr.alloc (.cells #[.int .u64 (uv d)] 23)).cell? ⟨wr.heap.size, 0, none⟩ = some (wval d) := by go_simp; rfl
                    clear hG2 d2 hq'
                    go_wp2_with fail
                    refine (C4.out).mono ?_; rintro e w' ⟨rfl, rfl⟩
                    go_wp2_with (at_builtin; refine wpList_append_word rfl (.tmp 90) (.tmp 92) rfl (w.heap.size + 2) (.slice ap k cp) ds d wr.heap.size 1 rfl (OP.out.alloc _) rfl hlit (by have := HDS.out; omega) (by have := HSZ.out; simp; omega) ?_)
                    intro g1 cap1 w6 own6 grow6
                    have B6 := Lib.hid (below_grown (Below.refl (w.heap.size + 2) _) (by have := HSZ.out; simp; omega) (OP.out.alloc (.cells #[.int .u64 (uv d)] 23)) grow6)
                    have V0 := Lib.hid ((Q0.out.alloc (.cells #[.int .u64 (uv d)] 23)).below B6.out (by omega))
                    have V1 := Lib.hid ((Q1.out.alloc (.cells #[.int .u64 (uv d)] 23)).below B6.out (by omega))
                    have OB6 := Lib.hid (show OwnB (w.heap.size + 2) w6 (.slice ad nd cd) data from (OB.out.alloc (.cells #[.int .u64 (uv d)] 23)).grownW (OP.out.alloc (.cells #[.int .u64 (uv d)] 23)) grow6)
                    have OP6 := Lib.hid own6
                    have BW6 := Lib.hid ((B2.out.alloc B2.out.size (.cells #[.int .u64 (uv d)] 23)).trans (B6.out.mono (by omega)))
                    clear own6 grow6 hlit y8 g8
                    have y8 := V1.out.c 8 rfl; have g8 := V1.out.f 8 (by simp [mcells])
                    go_wp2_with fail
                    go_roundw
                    case rel => exact ⟨k + 1, q', ds ++ [d], _, by omega, by go_num, rfl, by rw [List.length_append, HDS.out]; rfl, HQ2'.out, V0.out.far ⟨w.heap.size + 1, 8, none⟩ (by show w.heap.size + 1 ≠ _; omega) _, V1.out.set 8 (by simp [mcells]) _, OB6.out.but ((But.refl (w.heap.size + 1) w6).setCell 8 _) (by omega), OP6.out.far ⟨w.heap.size + 1, 8, none⟩ (by show w.heap.size + 1 < w.heap.size + 2; omega) _, by have := V1.out.1; simp; omega, BW6.out.setCell (p := ⟨w.heap.size + 1, 8, none⟩) (by simp) _, hN.out⟩
                    case measure => simp [intOf]; omega
                · obtain rfl : k = N := by omega
                  have HE := Lib.hid (show Ms.rdMsg L = some (⟨xs.getD 0 0, xs.getD 1 0, xs.getD 2 0, xs.getD 3 0, xs.getD 4 0, root, xs.getD 5 0, data, ds⟩, L.drop q) by rw [HST.out, Nat.sub_self, Ms.rest_zero])
                  have HE2 := Lib.hid (Ms.dec_some HE.out)
                  have OWD := Lib.hid (OB.out.has); have OWP := Lib.hid (OP.out.has)
                  by_cases hqn : q = nL
                  · subst hqn
                    have hnil : L.drop q = [] := List.drop_eq_nil_of_le (by have := HNL.out; omega)
                    have C5 := Lib.hid (rvalid_any ⟨xs.getD 0 0, xs.getD 1 0, xs.getD 2 0, xs.getD 3 0, xs.getD 4 0, root, xs.getD 5 0, data, ds⟩ ad nd cd ap k cp wr HND.out HDS.out.symm (by have := hnd3; omega) (by omega))
                    unfold msgV at C5
                    have hx : Hid ((Ms.valid ⟨xs.getD 0 0, xs.getD 1 0, xs.getD 2 0, xs.getD 3 0, xs.getD 4 0, root, xs.getD 5 0, data, ds⟩ = 0) → Ms.dec L = some ⟨xs.getD 0 0, xs.getD 1 0, xs.getD 2 0, xs.getD 3 0, xs.getD 4 0, root, xs.getD 5 0, data, ds⟩) := Lib.hid fun h => by rw [HE2.out, if_pos ⟨hnil, h⟩]
                    have hx2 : Hid (¬ (Ms.valid ⟨xs.getD 0 0, xs.getD 1 0, xs.getD 2 0, xs.getD 3 0, xs.getD 4 0, root, xs.getD 5 0, data, ds⟩ = 0) → Ms.dec L = none) := Lib.hid fun h => by rw [HE2.out, if_neg fun hh => h hh.2]
                    clear hnil
                    have y0 := Q1.out.c 0 rfl; have y1 := Q1.out.c 1 rfl; have y2 := Q1.out.c 2 rfl; have y3 := Q1.out.c 3 rfl; have y4 := Q1.out.c 4 rfl; have y5 := Q1.out.c 5 rfl; have y6 := Q1.out.c 6 rfl; have y7 := Q1.out.c 7 rfl; have y8 := Q1.out.c 8 rfl
                    go_wp2_with fail
                    refine (C5.out).mono ?_; rintro e w5 ⟨rfl, b5⟩
                    have B5 := Lib.hid b5
                    have Z0 := Lib.hid (Q0.out.below b5 Q0.out.1); have Z1 := Lib.hid (Q1.out.below b5 Q1.out.1)
                    have BW5 := Lib.hid (B2.out.trans (b5.mono B2.out.size))
                    clear b5 y0 y1 y2 y3 y4 y5 y6 y7 y8
                    by_cases hv : Ms.valid ⟨xs.getD 0 0, xs.getD 1 0, xs.getD 2 0, xs.getD 3 0, xs.getD 4 0, root, xs.getD 5 0, data, ds⟩ = 0
                    · have hd := hx.out hv
                      have HD := Lib.hid hd
                      rw [hv]
                      clear hv hd hx hx2
                      have x0 := Z0.out.c 0 rfl; have f0 := Z0.out.f 0 (by simp [mcells]); have y0 := Z1.out.c 0 rfl
                      have x1 := Z0.out.c 1 rfl; have f1 := Z0.out.f 1 (by simp [mcells]); have y1 := Z1.out.c 1 rfl
                      have x2 := Z0.out.c 2 rfl; have f2 := Z0.out.f 2 (by simp [mcells]); have y2 := Z1.out.c 2 rfl
                      have x3 := Z0.out.c 3 rfl; have f3 := Z0.out.f 3 (by simp [mcells]); have y3 := Z1.out.c 3 rfl
                      have x4 := Z0.out.c 4 rfl; have f4 := Z0.out.f 4 (by simp [mcells]); have y4 := Z1.out.c 4 rfl
                      have x5 := Z0.out.c 5 rfl; have f5 := Z0.out.f 5 (by simp [mcells]); have y5 := Z1.out.c 5 rfl
                      have x6 := Z0.out.c 6 rfl; have f6 := Z0.out.f 6 (by simp [mcells]); have y6 := Z1.out.c 6 rfl
                      have x7 := Z0.out.c 7 rfl; have f7 := Z0.out.f 7 (by simp [mcells]); have y7 := Z1.out.c 7 rfl
                      have x8 := Z0.out.c 8 rfl; have f8 := Z0.out.f 8 (by simp [mcells]); have y8 := Z1.out.c 8 rfl
                      have hne : w.heap.size ≠ w.heap.size + 1 := by omega
                      have hne2 : w.heap.size + 1 ≠ w.heap.size := by omega
                      go_wp2_with fail
                      refine bodyPost_ret (results_ct rfl _ _ ⟨w.heap.size, 0, none⟩ rfl (load_msg _ _ ⟨xs.getD 0 0, xs.getD 1 0, xs.getD 2 0, xs.getD 3 0, xs.getD 4 0, root, xs.getD 5 0, data, ds⟩ (.slice ad nd cd) (.slice ap k cp) (by go_simp) (by go_simp) (by go_simp) (by go_simp) (by go_simp) (by go_simp) (by go_simp) (by go_simp) (by go_simp))) rfl ?_
                      have M5 : MsgIn w5 ⟨xs.getD 0 0, xs.getD 1 0, xs.getD 2 0, xs.getD 3 0, xs.getD 4 0, root, xs.getD 5 0, data, ds⟩ (.slice ad nd cd) (.slice ap k cp) := ⟨(Ms.dec_inv HD.out).1, ((OB.out.has.below B5.out (Nat.le_refl _)).wide B5.out.size), ((OP.out.has.below B5.out (Nat.le_refl _)).wide B5.out.size)⟩
                      exact .inr ⟨_, _, _, HD.out, rfl, M5.but (but_put9 _ _ _ _ _ _ _ _ _ _ _) (OB.out.off (by omega)) (offW OP.out (by omega)), BW5.out.trans (below_put9 _ _ _ _ _ _ _ _ _ _ _), fun N hN => ⟨OB.out.off (by omega), offW OP.out (by omega)⟩⟩
                    · have hN := Lib.hid (hx2.out hv)
                      have t2 : (((Ms.valid ⟨xs.getD 0 0, xs.getD 1 0, xs.getD 2 0, xs.getD 3 0, xs.getD 4 0, root, xs.getD 5 0, data, ds⟩ : Nat) : Int) != 0) = true := by rw [bne_iff_ne]; omega
                      generalize Ms.valid ⟨xs.getD 0 0, xs.getD 1 0, xs.getD 2 0, xs.getD 3 0, xs.getD 4 0, root, xs.getD 5 0, data, ds⟩ = vv at t2
                      clear hv hx hx2
                      have x0 := Z0.out.c 0 rfl; have f0 := Z0.out.f 0 (by simp [mcells])
                      have x1 := Z0.out.c 1 rfl; have f1 := Z0.out.f 1 (by simp [mcells])
                      have x2 := Z0.out.c 2 rfl; have f2 := Z0.out.f 2 (by simp [mcells])
                      have x3 := Z0.out.c 3 rfl; have f3 := Z0.out.f 3 (by simp [mcells])
                      have x4 := Z0.out.c 4 rfl; have f4 := Z0.out.f 4 (by simp [mcells])
                      have x5 := Z0.out.c 5 rfl; have f5 := Z0.out.f 5 (by simp [mcells])
                      have x6 := Z0.out.c 6 rfl; have f6 := Z0.out.f 6 (by simp [mcells])
                      have x7 := Z0.out.c 7 rfl; have f7 := Z0.out.f 7 (by simp [mcells])
                      have x8 := Z0.out.c 8 rfl; have f8 := Z0.out.f 8 (by simp [mcells])
                      have hne : w.heap.size ≠ w.heap.size + 1 := by omega
                      have hne2 : w.heap.size + 1 ≠ w.heap.size := by omega
                      go_wp2_with fail
                      refine bodyPost_ret (results_ct rfl _ _ ⟨w.heap.size, 0, none⟩ rfl (load_msg _ _ zeroMsg (.slice none 0 0) (.slice none 0 0) (by first | (go_simp; done) | (go_simp; rfl)) (by first | (go_simp; done) | (go_simp; rfl)) (by first | (go_simp; done) | (go_simp; rfl)) (by first | (go_simp; done) | (go_simp; rfl)) (by first | (go_simp; done) | (go_simp; rfl)) (by first | (go_simp; done) | (go_simp; rfl)) (by first | (go_simp; done) | (go_simp; rfl)) (by first | (go_simp; done) | (go_simp; rfl)) (by first | (go_simp; done) | (go_simp; rfl)))) rfl ?_
                      exact DecPost.bad hN.out BW5.out _ _ _ _ _ _ _ _ _

                  · have t1 : ((q : Int) != (nL : Int)) = true := by rw [bne_iff_ne]; omega
                    have hN := Lib.hid (show Ms.dec L = none by rw [HE2.out, if_neg (fun h => hqn (by have h1 := List.drop_eq_nil_iff.1 h.1; have := HQ.out; have := HNL.out; omega))])
                    have x0 := Q0.out.c 0 rfl; have f0 := Q0.out.f 0 (by simp [mcells])
                    have x1 := Q0.out.c 1 rfl; have f1 := Q0.out.f 1 (by simp [mcells])
                    have x2 := Q0.out.c 2 rfl; have f2 := Q0.out.f 2 (by simp [mcells])
                    have x3 := Q0.out.c 3 rfl; have f3 := Q0.out.f 3 (by simp [mcells])
                    have x4 := Q0.out.c 4 rfl; have f4 := Q0.out.f 4 (by simp [mcells])
                    have x5 := Q0.out.c 5 rfl; have f5 := Q0.out.f 5 (by simp [mcells])
                    have x6 := Q0.out.c 6 rfl; have f6 := Q0.out.f 6 (by simp [mcells])
                    have x7 := Q0.out.c 7 rfl; have f7 := Q0.out.f 7 (by simp [mcells])
                    have x8 := Q0.out.c 8 rfl; have f8 := Q0.out.f 8 (by simp [mcells])
                    have hne : w.heap.size ≠ w.heap.size + 1 := by omega
                    have hne2 : w.heap.size + 1 ≠ w.heap.size := by omega
                    go_wp2_with fail
                    refine bodyPost_ret (results_ct rfl _ _ ⟨w.heap.size, 0, none⟩ rfl (load_msg _ _ zeroMsg (.slice none 0 0) (.slice none 0 0) (by first | (go_simp; done) | (go_simp; rfl)) (by first | (go_simp; done) | (go_simp; rfl)) (by first | (go_simp; done) | (go_simp; rfl)) (by first | (go_simp; done) | (go_simp; rfl)) (by first | (go_simp; done) | (go_simp; rfl)) (by first | (go_simp; done) | (go_simp; rfl)) (by first | (go_simp; done) | (go_simp; rfl)) (by first | (go_simp; done) | (go_simp; rfl)) (by first | (go_simp; done) | (go_simp; rfl)))) rfl ?_
                    exact DecPost.bad hN.out B2.out _ _ _ _ _ _ _ _ _
end Go.Proofs.YtgkckomccabmlaaGreatDoor
namespace Go.Proofs.YtgkckomccabmlaaGreatDoor
open Go.ChangeShapes Go.WideShapes Go.ChangeAt Go.RowKit
open Dg (W B)
theorem same_len (a a' : Option Addr) (n n' cap cap' : Nat) (w : World) (h : n ≠ n') :
    Calls Tryz.prog 39 #[.slice a n cap, .slice a' n' cap'] w fun e w' => e = .returned (.bool false) ∧ w = w' := by
  have q : ((n : Int) != (n' : Int)) = true := by rw [bne_iff_ne]; omega
  go_enter Tryz.func39, Tryz.ntmps39
  go_wp2
  go_ret
  exact ⟨rfl, rfl⟩
theorem same_zero (a a' : Option Addr) (cap cap' : Nat) (w : World) :
    Calls Tryz.prog 39 #[.slice a 0 cap, .slice a' 0 cap'] w fun e w' => e = .returned (.bool true) ∧ w = w' := by
  go_enter Tryz.func39, Tryz.ntmps39
  go_wp2
  refine wp_loop_rounds 1 ?_
  rw [rounds_succ]
  go_wp2
  go_ret
  exact ⟨rfl, rfl⟩
theorem same_any (l m : List W) (N M : Nat) (v u : Value) (w : World) (hl : l.length ≤ 4611686018427387904) (h : HasW w N v l) (h' : HasW w M u m) :
    Calls Tryz.prog 39 #[v, u] w fun e w' => e = .returned (.bool (decide (l = m))) ∧ w = w' := by
  by_cases e : l.length = m.length
  · by_cases h0 : l.length = 0
    · obtain rfl : l = [] := List.length_eq_zero_iff.1 h0
      obtain rfl : m = [] := List.length_eq_zero_iff.1 e.symm
      obtain ⟨a, c, rfl⟩ := h.form
      obtain ⟨a', c', rfl⟩ := h'.form
      exact same_zero a a' c c' w
    · rcases h with ⟨a, cap, rfl, rfl⟩ | ⟨b, off, cap, rfl, h2, h3, h4⟩
      · exact absurd rfl h0
      · rcases h' with ⟨a', cap', rfl, rfl⟩ | ⟨b', off', cap', rfl, g2, g3, g4⟩
        · exact absurd e h0
        · exact same_some l m b off cap b' off' cap' w hl e h4 g4
  · obtain ⟨a, c, rfl⟩ := h.form
    obtain ⟨a', c', rfl⟩ := h'.form
    rw [decide_eq_false (fun h => e (by rw [h]))]
    exact same_len a a' _ _ c c' w e
end Go.Proofs.YtgkckomccabmlaaGreatDoor
namespace Go.Proofs.YtgkckomccabmlaaGreatDoor
open Go.ChangeShapes Go.WideShapes Go.ChangeAt Go.RowKit
open Dg (W B)
open Ms (Msg)
theorem strB_bstr9 (l : List B) : strB (bstr l) = l := by
  unfold strB bstr
  have e : (UInt8.toBitVec ∘ UInt8.ofBitVec) = id := by funext x; rfl
  simp [e]
/-- bytes as a string, whatever slice they lie in -/
theorem conv_all (l : List B) (v : Value) (w : World) (N : Nat) (h : HasB w N v l) : (convert 24 9 v).run Tryz.prog w = .ok (.string (bstr l)) w := by
  rcases h with ⟨a, cap, rfl, rfl⟩ | ⟨b, off, cap, rfl, h2, h3, h4⟩
  · cases a with
    | none => kernel_rfl
    | some ad => exact run_convert_bytes_back (P := Tryz.prog) w 24 9 5 ad cap [] Tryz.underlying24 Tryz.underlying5 Tryz.underlying9 (fun j hj => by simp at hj)
  · exact conv_bytes l b off cap w h4
set_option maxRecDepth 100000 in
set_option maxHeartbeats 4000000 in
theorem rsame9_any (m m' : Msg) (dv pv dv' pv' : Value) (w : World) (hm : MsgIn w m dv pv) (hm' : MsgIn w m' dv' pv') (hP : m.path.length ≤ 1000000) :
    Calls Tryz.prog 18 #[msgV m dv pv, msgV m' dv' pv'] w fun e w' => e = .returned (.bool (Ms.same m m')) ∧ Below w.heap.size w w' := by
  obtain ⟨kind, epoch, inst, round, bit, root, len, data, path⟩ := m
  obtain ⟨kind', epoch', inst', round', bit', root', len', data', path'⟩ := m'
  unfold msgV
  have b1 := ((Below.refl w.heap.size w).alloc (Nat.le_refl _) (.cells #[.int .i64 kind, .int .i64 epoch, .int .i64 inst, .int .i64 round, .int .i64 bit, .int .u64 (uv root), .int .i64 len, dv, pv] 27)).alloc (by simp) (.cells #[.int .i64 kind', .int .i64 epoch', .int .i64 inst', .int .i64 round', .int .i64 bit', .int .u64 (uv root'), .int .i64 len', dv', pv'] 27)
  have R1 := Lib.hid ((RecN.new w #[.int .i64 kind, .int .i64 epoch, .int .i64 inst, .int .i64 round, .int .i64 bit, .int .u64 (uv root), .int .i64 len, dv, pv] 27).alloc (.cells #[.int .i64 kind', .int .i64 epoch', .int .i64 inst', .int .i64 round', .int .i64 bit', .int .u64 (uv root'), .int .i64 len', dv', pv'] 27))
  have R2 := Lib.hid (RecN.new (w.alloc (.cells #[.int .i64 kind, .int .i64 epoch, .int .i64 inst, .int .i64 round, .int .i64 bit, .int .u64 (uv root), .int .i64 len, dv, pv] 27)) #[.int .i64 kind', .int .i64 epoch', .int .i64 inst', .int .i64 round', .int .i64 bit', .int .u64 (uv root'), .int .i64 len', dv', pv'] 27)
  have hsz : (w.alloc (.cells #[.int .i64 kind, .int .i64 epoch, .int .i64 inst, .int .i64 round, .int .i64 bit, .int .u64 (uv root), .int .i64 len, dv, pv] 27)).heap.size = w.heap.size + 1 := by simp
  rw [hsz] at R2
  obtain ⟨W1, hW1⟩ : ∃ W1, W1 = (w.alloc (.cells #[.int .i64 kind, .int .i64 epoch, .int .i64 inst, .int .i64 round, .int .i64 bit, .int .u64 (uv root), .int .i64 len, dv, pv] 27)).alloc (.cells #[.int .i64 kind', .int .i64 epoch', .int .i64 inst', .int .i64 round', .int .i64 bit', .int .u64 (uv root'), .int .i64 len', dv', pv'] 27) := ⟨_, rfl⟩
  have HW1 := Lib.hid hW1
  rw [← hW1] at b1 R1 R2
  have B1 := Lib.hid b1
  have k1 := conv_all data dv W1 W1.heap.size ((hm.data.below b1 (Nat.le_refl _)).wide b1.size)
  have k2 := conv_all data' dv' W1 W1.heap.size ((hm'.data.below b1 (Nat.le_refl _)).wide b1.size)
  have C := Lib.hid (same_any path path' _ _ pv pv' W1 (by exact Nat.le_trans hP (by omega)) (hm.path.below b1 (Nat.le_refl _)) (hm'.path.below b1 (Nat.le_refl _)))
  have hWs := hW1.symm
  clear hm hm' hP hsz b1 hW1 HW1
  have x0 := R1.out.c 0 rfl; have z0 := R2.out.c 0 rfl
  have x1 := R1.out.c 1 rfl; have z1 := R2.out.c 1 rfl
  have x2 := R1.out.c 2 rfl; have z2 := R2.out.c 2 rfl
  have x3 := R1.out.c 3 rfl; have z3 := R2.out.c 3 rfl
  have x4 := R1.out.c 4 rfl; have z4 := R2.out.c 4 rfl
  have x5 := R1.out.c 5 rfl; have z5 := R2.out.c 5 rfl
  have x6 := R1.out.c 6 rfl; have z6 := R2.out.c 6 rfl
  have x7 := R1.out.c 7 rfl; have z7 := R2.out.c 7 rfl; have x8 := R1.out.c 8 rfl; have z8 := R2.out.c 8 rfl
  have key : ∀ (c1 c2 c3 c4 c5 c6 c7 c8 : Bool), (kind == kind') = c1 → (epoch == epoch') = c2 → (inst == inst') = c3 → (round == round') = c4 → (bit == bit') = c5 → (root == root') = c6 → (len == len') = c7 → (data == data') = c8 → Ms.same ⟨kind, epoch, inst, round, bit, root, len, data, path⟩ ⟨kind', epoch', inst', round', bit', root', len', data', path'⟩ = (c1 && (c2 && (c3 && (c4 && (c5 && (c6 && (c7 && (c8 && (path == path'))))))))) := by
    rintro _ _ _ _ _ _ _ _ rfl rfl rfl rfl rfl rfl rfl rfl; rfl
  have hu : (uv root == uv root') = (root == root') := by rw [Bool.eq_iff_iff, beq_iff_eq, beq_iff_eq]; exact uv_inj
  have hs : ((bstr data).toList = (bstr data').toList) = ((data == data') = true) := propext (by rw [ByteArray.toList_eq, ByteArray.toList_eq, Array.toList_inj, beq_iff_eq]; exact ⟨fun h => bstr_inj.1 (by cases hx : bstr data; cases hy : bstr data'; rw [hx, hy] at h; exact congrArg ByteArray.mk h), fun h => by rw [h]⟩)
  have hp : decide (path = path') = (path == path') := by rw [Bool.eq_iff_iff, decide_eq_true_iff, beq_iff_eq]
  generalize (path == path') = c9 at key hp
  rw [hp] at C
  generalize h1 : (kind == kind') = c1
  generalize h2 : (epoch == epoch') = c2
  generalize h3 : (inst == inst') = c3
  generalize h4 : (round == round') = c4
  generalize h5 : (bit == bit') = c5
  generalize h6 : (root == root') = c6 at hu
  generalize h7 : (len == len') = c7
  generalize h8 : (data == data') = c8 at hs
  rw [key c1 c2 c3 c4 c5 c6 c7 c8 h1 h2 h3 h4 h5 h6 h7 h8]
  clear key h6 h8 hp
  go_enter Tryz.func18, Tryz.ntmps18
  go_wp2_with (go_at_call 39; refine (C.out).mono ?_; rintro e w' ⟨rfl, rfl⟩)
  all_goals
    go_ret
    refine ⟨?_, B1.out⟩
    simp_all
    done
end Go.Proofs.YtgkckomccabmlaaGreatDoor
