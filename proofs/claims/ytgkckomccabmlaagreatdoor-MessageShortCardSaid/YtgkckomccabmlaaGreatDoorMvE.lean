/-
  The bytes of a message, by package message. Nothing that was there has changed. Condition: the tables hold what their initialisers lay; the message has fewer than a million bytes and digests.
-/
import Derived.Test.YtgkckomccabmlaaGreatDoorMvV
import Derived.Test.YtgkckomccabmlaaGreatDoorLmG
import Derived.Test.YtgkckomccabmlaaGreatDoorLmD
import Derived.Test.YtgkckomccabmlaaGreatDoorLmC
namespace Go.Proofs.YtgkckomccabmlaaGreatDoor
open Go.ChangeShapes Go.WideShapes Go.ChangeAt Go.RowKit
open Dg (W B)
open Ms (Msg)
def ERelM (l : List Int) (w W0 : World) (out i : Value) (wr : World) : Prop := ∃ k : Nat, k ≤ 6 ∧ i = .int .i64 (k : Int) ∧ HasB wr wr.heap.size out (Ms.putN (l.take k)) ∧ Below w.heap.size w wr ∧ Below W0.heap.size W0 wr
def PRelM (A : List B) (l : List W) (w : World) (out i : Value) (wr : World) : Prop := ∃ k : Nat, k ≤ l.length ∧ i = .int .i64 (k : Int) ∧ HasB wr wr.heap.size out (A ++ Ms.putP (l.take k)) ∧ Below w.heap.size w wr
set_option maxRecDepth 100000 in
set_option maxHeartbeats 4000000 in
theorem mencode_any (m : Msg) (dv pv : Value) (w : World) (hm : MsgIn w m dv pv) (hD : m.data.length ≤ 1000000) (hP : m.path.length ≤ 1000000) (ht : Tab w) :
    Calls Tryz.prog 19 #[msgV m dv pv] w (EncPost m w) := by
  have HIN := Lib.hid (Ms.nums_in hm.wf)
  have HE := Lib.hid (Ms.enc_nums m)
  obtain ⟨nd, hnd⟩ : ∃ n, n = m.data.length := ⟨_, rfl⟩
  obtain ⟨np, hnp⟩ : ∃ n, n = m.path.length := ⟨_, rfl⟩
  obtain ⟨ad, cd, rfl⟩ : ∃ a c, dv = .slice a nd c := by rw [hnd]; exact hm.data.form
  obtain ⟨ap, cp, rfl⟩ : ∃ a c, pv = .slice a np c := by rw [hnp]; exact hm.path.form
  have C1 := Lib.hid fun (w' : World) (h : Tab w') => mvalid_raw m ad nd cd ap np cp w' hnd hnp h
  obtain ⟨vl, hvl⟩ : ∃ n, n = Ms.valid m := ⟨_, rfl⟩
  rw [← hvl] at C1
  have HVL := Lib.hid hvl
  have HD := Lib.hid hm.data; have HP := Lib.hid hm.path
  have HND := Lib.hid hnd; have HNP := Lib.hid hnp
  have hnd2 : nd ≤ 1000000 := by rw [hnd]; exact hD
  have hnp2 : np ≤ 1000000 := by rw [hnp]; exact hP
  have fin : ∀ e w', ((vl ≠ 0 ∧ e = .returned (.tuple #[.slice none 0 0, .int .i64 (vl : Int)]) ∧ Below w.heap.size w w') ∨ (vl = 0 ∧ ∃ v, e = .returned (.tuple #[v, .int .i64 0]) ∧ HasB w' w'.heap.size v (Ms.enc m) ∧ Below w.heap.size w w')) → EncPost m w e w' := by
    rintro e w' h
    unfold EncPost
    rw [← HVL.out]
    exact h
  refine Calls.mono ?_ fin
  clear fin hvl
  obtain ⟨kind, epoch, inst, round, bit, root, len, data, path⟩ := m
  unfold msgV at C1 ⊢
  obtain ⟨nl, hnl⟩ : ∃ nl, nl = Ms.nums ⟨kind, epoch, inst, round, bit, root, len, data, path⟩ := ⟨_, rfl⟩
  rw [← hnl] at HIN HE
  have HNL := Lib.hid (show nl = [kind, epoch, inst, round, bit, len] from hnl)
  have b0 : Below w.heap.size w (w.alloc (.cells #[.int .i64 kind, .int .i64 epoch, .int .i64 inst, .int .i64 round, .int .i64 bit, .int .u64 (uv root), .int .i64 len, .slice ad nd cd, .slice ap np cp] 27)) := (Below.refl _ _).alloc (Nat.le_refl _) _
  have R := Lib.hid (RecN.new w #[.int .i64 kind, .int .i64 epoch, .int .i64 inst, .int .i64 round, .int .i64 bit, .int .u64 (uv root), .int .i64 len, .slice ad nd cd, .slice ap np cp] 27)
  have TT := Lib.hid (ht.below b0)
  have BB := Lib.hid b0
  clear hm hnd hnp hD hP hnl b0 ht
  have x0 := R.out.c 0 rfl; have x1 := R.out.c 1 rfl; have x2 := R.out.c 2 rfl; have x3 := R.out.c 3 rfl; have x4 := R.out.c 4 rfl; have x5 := R.out.c 5 rfl; have x6 := R.out.c 6 rfl; have x7 := R.out.c 7 rfl; have x8 := R.out.c 8 rfl
  go_enter Tryz.func19, Tryz.ntmps19
  go_wp2_with fail
  refine (C1.out _ TT.out).mono ?_; rintro e w1 ⟨rfl, b1⟩
  have R1 := Lib.hid (R.out.below b1 R.out.1); have B1 := Lib.hid (BB.out.trans (b1.mono BB.out.size))
  clear R TT BB b1 x0 x1 x2 x3 x4 x5 x6 x7 x8
  by_cases hv : vl = 0
  · subst hv
    go_wp2_with fail
    refine (numbers_any _ _).mono ?_; rintro e W0 ⟨rfl, b2⟩
    have R2 := Lib.hid (R1.out.below b2 R1.out.1); have B2 := Lib.hid (B1.out.trans (b2.mono B1.out.size))
    clear R1 B1 b2
    unfold sixV
    go_wp2
    go_loopw [5, 16] (ERelM nl w W0) (fun _ i _ => 6 - (intOf i).toNat)
    case atStart => exact ⟨0, by omega, rfl, .inl ⟨none, 0, rfl, rfl⟩, B2.out, Below.refl _ _⟩
    case round =>
      obtain ⟨k, hk, rfl, ho, hb, hb2⟩ := hrel
      have HO := Lib.hid ho; have HBL := Lib.hid hb; have HB2 := Lib.hid hb2
      obtain ⟨a2, c2, hform⟩ := ho.form
      subst hform
      obtain ⟨q, hq⟩ : ∃ q, q = (Ms.putN (nl.take k)).length := ⟨_, rfl⟩
      have hq6 : q ≤ 60 := by
        have h1 := Ms.putN_len (nl.take k) fun n hn => HIN.out n (List.mem_of_mem_take hn)
        have h6 : nl.length = 6 := by rw [HNL.out]; rfl
        rw [List.length_take, h6] at h1
        omega
      rw [← hq] at HO ⊢
      have HQ := Lib.hid hq
      have R3 := Lib.hid (R2.out.below hb2 R2.out.1)
      clear ho hb hb2 hq
      by_cases hlt : k < 6
      · have hin := HIN.out (nl.getD k 0) (by rw [List.getD_eq_getElem?_getD, List.getElem?_eq_getElem (by rw [HNL.out]; exact hlt)]; simp)
        have hsu := Ms.putN_succ nl k (by rw [HNL.out]; exact hlt)
        have C := Lib.hid (cputint_any (nl.getD k 0) (Ms.putN (nl.take k)) _ wr (wf_in hin) (by have := HQ.out; omega) HO.out)
        obtain ⟨L2, hL2⟩ : ∃ L, L = Ms.putN (nl.take k) ++ Cd.putI (nl.getD k 0) := ⟨_, rfl⟩
        rw [← hL2] at C hsu
        obtain ⟨k1, hk1⟩ : ∃ k1, k1 = k + 1 := ⟨_, rfl⟩
        rw [← hk1] at hsu
        have HSU := Lib.hid hsu; have HK1 := Lib.hid hk1
        clear hk1
        have HX := Lib.hid (show nl.getD k 0 = [kind, epoch, inst, round, bit, len].getD k 0 by rw [HNL.out])
        clear hin hsu hL2
        have x0 := R3.out.c 0 rfl; have x1 := R3.out.c 1 rfl; have x2 := R3.out.c 2 rfl; have x3 := R3.out.c 3 rfl; have x4 := R3.out.c 4 rfl; have x6 := R3.out.c 6 rfl
        obtain ⟨i0, i1, i2, i3, i4, i5⟩ := six_all w.heap.size wr
        rcases (show k = 0 ∨ k = 1 ∨ k = 2 ∨ k = 3 ∨ k = 4 ∨ k = 5 by omega) with rfl | rfl | rfl | rfl | rfl | rfl
        all_goals
          rw [HX.out] at C
          simp only [List.getD_cons_zero, List.getD_cons_succ] at C
          go_wp2_with fail
          refine (C.out).mono ?_; rintro e w3 ⟨v3, rfl, o3, b3⟩
          have O3 := Lib.hid o3; have B3 := Lib.hid (HBL.out.trans (b3.mono HBL.out.size)); have B4 := Lib.hid (HB2.out.trans (b3.mono HB2.out.size))
          clear o3 b3 x0 x1 x2 x3 x4 x6
          go_wp2_with fail
          go_roundw
          case rel => exact ⟨k1, by have := HK1.out; omega, by rw [HK1.out]; go_num, by rw [HSU.out]; exact O3.out, B3.out, B4.out⟩
          case measure => simp [intOf]
      · obtain rfl : k = 6 := by omega
        have HN6 := Lib.hid (show nl.take 6 = nl from List.take_of_length_le (by rw [HNL.out]; exact Nat.le_refl _))
        rw [HN6.out] at HO HQ
        have HQ2 := Lib.hid (show (Ms.putN nl).length ≤ 60 by have := HQ.out; omega)
        have x5 := R3.out.c 5 rfl
        have C3 := Lib.hid (cputdigest_any root (Ms.putN nl) _ wr (by have := HQ2.out; omega) HO.out)
        go_wp2_with fail
        refine (C3.out).mono ?_; rintro e w3 ⟨v3, rfl, o3, b3⟩
        obtain ⟨a3, c3, hv3⟩ := o3.form
        obtain ⟨q3, hq3⟩ : ∃ q, q = (Ms.putN nl ++ Cd.putD root).length := ⟨_, rfl⟩
        rw [← hq3] at hv3
        subst hv3
        have O3 := Lib.hid o3; have B3 := Lib.hid (HBL.out.trans (b3.mono HBL.out.size)); have R4 := Lib.hid (R3.out.below b3 R3.out.1)
        have HQ3 := Lib.hid (show (Ms.putN nl ++ Cd.putD root).length ≤ 68 by have := HQ2.out; rw [List.length_append, Cd.putD_len]; omega)
        clear o3 b3 hq3 x5
        have x7 := R4.out.c 7 rfl
        have C4 := Lib.hid (cputbytes_any (Ms.putN nl ++ Cd.putD root) data _ (.slice ad nd cd) w3 (by have := HQ3.out; omega) (by have := HND.out; omega) O3.out ((HD.out.below B3.out (Nat.le_refl _)).wide B3.out.size))
        go_wp2_with fail
        refine (C4.out).mono ?_; rintro e w4 ⟨v4, rfl, o4, b4⟩
        obtain ⟨a4, c4, hv4⟩ := o4.form
        obtain ⟨q4, hq4⟩ : ∃ q, q = (Ms.putN nl ++ Cd.putD root ++ Cd.putB data).length := ⟨_, rfl⟩
        rw [← hq4] at hv4
        subst hv4
        have hlen4 : q4 ≤ 1000100 := by
          have h1 := HQ3.out
          have h2 := putI_len data.length (by have := HND.out; omega)
          rw [hq4, List.length_append, Cd.putB_len]
          have := HND.out; omega
        have HQ4 := Lib.hid hq4
        have O4 := Lib.hid o4; have B4 := Lib.hid (B3.out.trans (b4.mono B3.out.size)); have R5 := Lib.hid (R4.out.below b4 R4.out.1)
        clear o4 b4 hq4 x7
        have x8 := R5.out.c 8 rfl
        have C5 := Lib.hid (cputint_any (np : Int) (Ms.putN nl ++ Cd.putD root ++ Cd.putB data) _ w4 (WalkArith.wf_i64 (by omega)) (by have := HQ4.out; omega) O4.out)
        go_wp2_with fail
        refine (C5.out).mono ?_; rintro e w5 ⟨v5, rfl, o5, b5⟩
        obtain ⟨A, hA⟩ : ∃ A, A = Ms.putN nl ++ Cd.putD root ++ Cd.putB data ++ Cd.putI (np : Int) := ⟨_, rfl⟩
        have hAlen : A.length ≤ 1000200 := by
          have h2 := putI_len np (by omega)
          rw [hA, List.length_append]
          have := HQ4.out; omega
        rw [← hA] at o5
        have HA := Lib.hid hA; have HAL := Lib.hid hAlen
        have O5 := Lib.hid o5; have B5 := Lib.hid (B4.out.trans (b5.mono B4.out.size)); have R6 := Lib.hid (R5.out.below b5 R5.out.1)
        clear o5 b5 hA hAlen x8
        have x8 := R6.out.c 8 rfl
        go_wp2
        go_loopw [5, 41] (PRelM A path w) (fun _ i _ => np - (intOf i).toNat)
        case atStart => exact ⟨0, by omega, rfl, by rw [List.take_zero]; simpa [Ms.putP] using O5.out, B5.out⟩
        case round =>
          obtain ⟨k, hk, rfl, ho, hb⟩ := hrel
          have HO := Lib.hid ho; have HBL := Lib.hid hb
          obtain ⟨a2, c2, hform⟩ := ho.form
          subst hform
          have hkn : k ≤ np := by have := HNP.out; omega
          obtain ⟨q, hq⟩ : ∃ q, q = (A ++ Ms.putP (path.take k)).length := ⟨_, rfl⟩
          have hq6 : q ≤ 10000000 := by
            rw [hq, List.length_append, Ms.putP_len, List.length_take]
            have := HAL.out; have := HNP.out; omega
          rw [← hq] at HO ⊢
          have HQ := Lib.hid hq
          clear ho hb hq hk
          by_cases hlt : k < np
          · have tk : (k : Int) < (np : Int) := by omega
            obtain ⟨b', off', rfl, hcell⟩ := (HP.out.below HBL.out (Nat.le_refl _)).atW k hlt
            have hsu := Ms.putP_succ path k (by have := HNP.out; omega)
            generalize path.getD k 0 = x at hcell hsu
            have HSU := Lib.hid hsu
            have C6 := Lib.hid (cputdigest_any x (A ++ Ms.putP (path.take k)) _ wr (by have := HQ.out; omega) HO.out)
            clear hsu
            go_wp2_with fail
            refine (C6.out).mono ?_; rintro e w6 ⟨v6, rfl, o6, b6⟩
            have O6 := Lib.hid o6; have B6 := Lib.hid (HBL.out.trans (b6.mono HBL.out.size))
            clear o6 b6
            go_wp2_with fail
            go_roundw
            case rel => exact ⟨k + 1, by have := HNP.out; omega, by go_num, by rw [HSU.out, ← List.append_assoc]; exact O6.out, B6.out⟩
            case measure => simp [intOf]; omega
          · obtain rfl : k = np := by omega
            go_wp2_with fail
            go_ret2
            have hfin : HasB wr wr.heap.size (.slice a2 q c2) (Ms.enc ⟨kind, epoch, inst, round, bit, root, len, data, path⟩) := by rw [HE.out, ← HNP.out, ← HA.out]; have := HO.out; rw [List.take_of_length_le (by have := HNP.out; omega)] at this; exact this
            first | exact .inr ⟨rfl, _, rfl, hfin, HBL.out⟩ | exact ⟨_, rfl, hfin, HBL.out⟩
  · have t1 : (((vl : Nat) : Int) != 0) = true := by rw [bne_iff_ne]; omega
    have HV := Lib.hid hv
    clear hv
    go_wp2_with fail
    go_ret2
    exact .inl ⟨HV.out, rfl, B1.out⟩
end Go.Proofs.YtgkckomccabmlaaGreatDoor
