/-
  What the inner functions of package codec that read lists and frames return. Nothing that was there has changed. Condition: the bytes are fewer than three hundred millions.
-/
import Derived.Test.YtkckimhkbnigkaaCdC
namespace Go.Proofs.Ytkckimhkbnigkaa
open Go.ChangeShapes Go.WideShapes Go.ChangeAt Go.RowKit
open Dg (W B)
def LGot (r : Cd.R (List (List B))) (w : World) (e : Ending) (w' : World) : Prop :=
  (∃ c : Nat, r = .bad c ∧ 0 < c ∧ e = .returned (.tuple #[.slice none 0 0, .int .i64 0, .int .i64 (c : Int)]) ∧ Below w.heap.size w w') ∨
  ∃ l k a n c2, r = .ok l k ∧ k ≤ 300000000 ∧ e = .returned (.tuple #[.slice a n c2, .int .i64 (k : Int), .int .i64 0]) ∧ HasS w' w'.heap.size (.slice a n c2) (l.map bstr) ∧ Below w.heap.size w w'
theorem LGot.own {L : List B} {l : List (List B)} {k : Nat} {v : Value} {w w' : World} (h : Cd.getL L = .ok l k) (hk : k ≤ 300000000) (ho : OwnS w.heap.size w' v (l.map bstr)) (hb : Below w.heap.size w w') : LGot (Cd.getL L) w (.returned (.tuple #[v, .int .i64 (k : Int), .int .i64 0])) w' := by
  obtain ⟨a, cap, rfl⟩ := ho.has.form
  exact .inr ⟨l, k, a, _, cap, h, hk, rfl, ho.has, hb⟩
set_option maxRecDepth 100000 in
set_option maxHeartbeats 1000000 in
theorem list_any (L : List B) (N : Nat) (v : Value) (w : World) (hN : N ≤ w.heap.size) (hL : L.length ≤ 300000000) (h : HasB w N v L) :
    Calls Try.prog 48 #[v] w (LGot (Cd.getL L) w) := by
  have C0 := num_any L N v w hL h
  obtain ⟨a, cap, hv⟩ := h.form
  cases hI : Cd.getI L with
  | bad c =>
    rw [hI] at C0
    have C := Lib.hid C0
    have hc := getI_code hI
    have t1 : ((c : Int) != 0) = true := by rw [bne_iff_ne]; omega
    have hU := Lib.hid (show Cd.getL L = .bad c ∧ 0 < c by unfold Cd.getL; rw [hI]; exact ⟨rfl, by omega⟩)
    subst hv
    clear h C0 hI hc
    go_enter Try.func48, Try.ntmps48
    go_wp2_with fail
    refine (C.out).mono ?_; rintro e w' ⟨rfl, rfl⟩
    unfold nRes
    go_wp2_with fail
    go_ret3
    exact .inl ⟨c, hU.out.1, hU.out.2, rfl, Below.refl _ _⟩
  | ok n j =>
    rw [hI] at C0
    have C := Lib.hid C0
    obtain ⟨e1, e2, e3, e4⟩ := Cd.getI_inv hI
    unfold Cd.InR at e1
    by_cases hneg : n < 0
    · have t1 : decide (n < 0) = true := decide_eq_true hneg
      have hU := Lib.hid (show Cd.getL L = .bad 4 by unfold Cd.getL; rw [hI]; simp only []; rw [if_pos hneg])
      subst hv
      clear h C0 hI e1 e2 e3 e4 hneg
      go_enter Try.func48, Try.ntmps48
      go_wp2_with fail
      refine (C.out).mono ?_; rintro e w' ⟨rfl, rfl⟩
      unfold nRes
      go_wp2_with fail
      go_ret3
      exact .inl ⟨4, hU.out, by omega, rfl, Below.refl _ _⟩
    · have t1 : decide (n < 0) = false := decide_eq_false hneg
      have hU := Lib.hid (show Cd.getL L = Cd.rdL n.toNat (L.drop j) j by unfold Cd.getL; rw [hI]; simp only []; rw [if_neg hneg])
      obtain ⟨M, rfl⟩ : ∃ M : Nat, n = M := ⟨n.toNat, by omega⟩
      rw [Int.toNat_natCast] at hU
      have hM : M ≤ 9223372036854775807 := by omega
      have HMM := Lib.hid hM
      have HB := Lib.hid h
      have HJ := Lib.hid e3
      have HLL := Lib.hid hL
      have HNN := Lib.hid hN
      subst hv
      obtain ⟨m, hm⟩ : ∃ m, m = L.length := ⟨_, rfl⟩
      rw [← hm] at C HB ⊢
      have HM := Lib.hid hm
      clear h C0 hI e1 e2 e3 e4 hneg hL hm hN
      go_enter Try.func48, Try.ntmps48
      go_wp2_with fail
      refine (C.out).mono ?_; rintro e w' ⟨rfl, rfl⟩
      unfold nRes
      go_wp2
      go_loopw [6, 8, 24] (LMid L 0 M w) (fun _ _ i _ => M - (intOf i).toNat)
      case atStart =>
        refine ⟨0, j, [], by omega, rfl, rfl, by omega, HJ.out, by simp, World.ownsRow_nil _ _ _ _, Below.refl _ _, ?_⟩
        have hu := hU.out
        rw [Nat.sub_zero, Nat.sub_zero, List.drop_zero]
        cases hr : Cd.rdL M (L.drop j) j with
        | bad c => exact .inl ⟨c, rfl, by rw [hu, hr]⟩
        | ok l r => exact .inr ⟨l, r, rfl, by rw [hu, hr]; rfl⟩
      case round =>
        obtain ⟨k, q, ds, hk, rfl, rfl, -, hqL, hdq, ho, hb, hst⟩ := hrel
        rw [Nat.sub_zero, List.drop_zero] at hst
        have HO := Lib.hid ho; have HBL := Lib.hid hb; have HST := Lib.hid hst
        have HQ := Lib.hid (And.intro hqL hdq)
        obtain ⟨ao, co, hform⟩ := ho.has.form
        subst hform
        clear ho hb hst hqL hdq
        have hM := HMM.out
        by_cases hlt : k < M
        · have hq3 := HQ.out
          obtain ⟨a', hrun, hpart⟩ := bytes_from a m cap q wr N L (by have := HM.out; omega) HM.out (HB.out.below HBL.out HNN.out)
          have C2 := Lib.hid (piece_any (L.drop q) N _ wr (by rw [List.length_drop]; have := HLL.out; omega) hpart)
          have hrun2 := hrun wr q rfl
          obtain ⟨d, hd⟩ : ∃ d, d = m - q := ⟨_, rfl⟩
          obtain ⟨c', hc'⟩ : ∃ d, d = cap - q := ⟨_, rfl⟩
          rw [← hd, ← hc'] at C2 hrun2
          have hqm : q ≤ m := by have := HM.out; omega
          have hdl : ds.length ≤ 300000000 := by have := HLL.out; omega
          obtain ⟨dn, hdn⟩ : ∃ dn, dn = (ds.map bstr).length := ⟨_, rfl⟩
          rw [← hdn] at HO ⊢
          have hdn2 : dn ≤ 300000000 := by rw [hdn, List.length_map]; exact hdl
          have HDN := Lib.hid hdn
          clear hpart hrun hd hc' hq3 hdn hdl
          go_wp2_with fail
          refine (C2.out).mono ?_; rintro e w' (⟨c, hG, hcp, rfl, rfl⟩ | ⟨D, j', ad, nd, cd, hG, hj', rfl, hD, rfl⟩)
          · have t2 : ((c : Int) != 0) = true := by rw [bne_iff_ne]; omega
            have hfin := Lib.hid (mid_bad (by omega) hG HST.out)
            have HCP := Lib.hid hcp
            clear hG hcp
            go_wp2_with fail
            go_ret3
            exact .inl ⟨c, hfin.out, HCP.out, rfl, HBL.out⟩
          · obtain ⟨f1, f2, f3, f4⟩ := Cd.getB_inv hG
            rw [List.length_drop] at f3
            have hnext := Lib.hid (mid_ok (m := M - (k + 1)) hG (by rw [show M - (k + 1) + 1 = M - k by omega]; exact HST.out))
            obtain ⟨q', hq'⟩ : ∃ q', q' = q + j' := ⟨_, rfl⟩
            have hsum : (q : Int) + (j' : Int) = (q' : Int) := by omega
            have hq4 : Hid (q' ≤ L.length ∧ ds.length + 1 ≤ q' ∧ q + j' = q') := Lib.hid (by have := HQ.out; omega)
            have hq5 : q' ≤ 300000000 := by have := hq4.out; have := HLL.out; omega
            have hconv := conv_any D _ wr (hD.wide (Nat.le_trans HNN.out HBL.out.size))
            have hlit : (wr.alloc (.cells #[.string (bstr D)] 9)).cell? ⟨wr.heap.size, 0, none⟩ = some (.string (bstr D)) := by go_simp
            clear hG f1 f2 f3 f4 hq' hD hj'
            go_wp2_with (at_builtin; refine wpList_append_str rfl (.tmp 37) (.tmp 40) rfl w.heap.size _ (ds.map bstr) (bstr D) wr.heap.size 1 rfl (HO.out.alloc _) rfl hlit (by have := HDN.out; omega) (by have := HBL.out.size; simp; omega) ?_)
            intro g3 cap3 w3 own3 grow3
            have BEL := Lib.hid (Below.grown (HBL.out.alloc HBL.out.size (.cells #[.string (bstr D)] 9)) grow3 (by have := HBL.out.size; simp; omega) (fun kk hkk => (World.ownsRow.lt (HO.out.alloc (.cells #[.string (bstr D)] 9)) kk hkk).1))
            have OWN := Lib.hid own3
            clear own3 grow3 hconv hlit
            go_wp2_with fail
            go_roundw
            case rel =>
              have h4 := hq4.out
              refine ⟨k + 1, q', ds ++ [D], by omega, by go_num, rfl, by omega, h4.1, by simp; omega, by rw [List.map_append]; exact OWN.out, BEL.out, ?_⟩
              have := hnext.out
              rw [List.drop_drop, h4.2.2] at this
              rw [Nat.sub_zero, List.drop_zero]
              exact this
            case measure => simp [intOf]; omega
        · obtain rfl : k = M := by omega
          go_wp2_with fail
          go_ret3
          rcases HST.out with ⟨c, g1, g2⟩ | ⟨l, r, g1, g2⟩
          · rw [Nat.sub_self, Cd.rdL] at g1; cases g1
          · rw [Nat.sub_self, Cd.rdL] at g1
            simp only [Cd.R.ok.injEq] at g1
            obtain ⟨rfl, rfl⟩ := g1
            rw [List.append_nil] at g2
            exact LGot.own g2 (by have := HQ.out; have := HLL.out; omega) HO.out HBL.out
set_option maxHeartbeats 1000000 in
theorem frame_any (L : List B) (N : Nat) (v : Value) (w : World) (hL : L.length ≤ 300000000) (h : HasB w N v L) :
    Calls Try.prog 49 #[v] w (PGot (Cd.unframe L) N w) := by
  have C := Lib.hid (piece_any L N v w hL h)
  have H := Lib.hid h
  obtain ⟨a, cap, rfl⟩ := h.form
  have HLL := Lib.hid hL
  obtain ⟨m, hm⟩ : ∃ m, m = L.length := ⟨_, rfl⟩
  rw [← hm] at C H ⊢
  have HM := Lib.hid hm
  clear h hL hm
  go_enter Try.func49, Try.ntmps49
  go_wp2_with fail
  refine (C.out).mono ?_; rintro e w' (⟨c, hG, hcp, rfl, rfl⟩ | ⟨D, k, ad, nd, cd, hG, hk, rfl, hD, rfl⟩)
  · have t2 : ((c : Int) != 0) = true := by rw [bne_iff_ne]; omega
    have hU := Lib.hid (show Cd.unframe L = .bad c ∧ 0 < c by unfold Cd.unframe; rw [hG]; exact ⟨rfl, hcp⟩)
    clear hG hcp
    go_wp2_with fail
    go_ret3
    exact .inl ⟨c, hU.out.1, hU.out.2, rfl, rfl⟩
  · obtain ⟨f1, f2, f3, f4⟩ := Cd.getB_inv hG
    have hDl : D.length ≤ 300000000 := by
      have := congrArg List.length f4
      rw [Cd.putB_len, List.length_take] at this
      omega
    obtain ⟨a', hrun, hpart⟩ := bytes_from a m cap k w N L (by have := HM.out; omega) HM.out H.out
    have C2 := Lib.hid (digof_any (L.drop k) N _ w (by rw [List.length_drop]; have := HLL.out; omega) hpart)
    have hrun2 := hrun w k rfl
    obtain ⟨d, hd⟩ : ∃ d, d = m - k := ⟨_, rfl⟩
    obtain ⟨c', hc'⟩ : ∃ d, d = cap - k := ⟨_, rfl⟩
    rw [← hd, ← hc'] at C2 hrun2
    have hkm : k ≤ m := by have := HM.out; omega
    have HG := Lib.hid hG
    have HD := Lib.hid hD; have HDL := Lib.hid hDl
    have HF3 := Lib.hid (And.intro f3 HLL.out)
    clear hpart hrun hd hc' hG f1 f2 f3 f4 hD hDl
    go_wp2_with fail
    refine (C2.out).mono ?_; rintro e w' (⟨g1, rfl, rfl⟩ | ⟨x, g1, rfl, rfl⟩)
    · have hU := Lib.hid (show Cd.unframe L = .bad 5 by unfold Cd.unframe; rw [HG.out]; simp only []; rw [g1])
      clear g1
      go_wp2_with fail
      go_ret3
      exact .inl ⟨5, hU.out, by omega, rfl, rfl⟩
    · have hUf : Cd.unframe L = if x = Dg.ofB D then .ok D (k + 8) else .bad 9 := by unfold Cd.unframe; rw [HG.out]; simp only []; rw [g1]
      have hk8 : Hid (k + 8 ≤ 300000000) := by
        refine Lib.hid ?_
        have := Cd.getD_inv g1
        rw [List.length_drop] at this
        have := HF3.out
        omega
      clear g1
      by_cases hx : x = Dg.ofB D
      · have t1 : (uv x != uv (Dg.ofB D)) = false := by rw [hx]; simp
        rw [if_pos hx] at hUf
        have hU := Lib.hid hUf
        clear hx hUf
        go_wp2_with fail
        refine (of_any D _ _ _ (by have := HDL.out; omega) HD.out).mono ?_; rintro e w' ⟨rfl, rfl⟩
        go_wp2_with fail
        go_ret3
        exact .inr ⟨D, k + 8, ad, nd, cd, hU.out, hk8.out, rfl, HD.out, rfl⟩
      · have t1 : (uv x != uv (Dg.ofB D)) = true := by rw [bne_iff_ne]; exact fun g => hx (uv_inj.1 g)
        rw [if_neg hx] at hUf
        have hU := Lib.hid hUf
        clear hx hUf
        go_wp2_with fail
        refine (of_any D _ _ _ (by have := HDL.out; omega) HD.out).mono ?_; rintro e w' ⟨rfl, rfl⟩
        go_wp2_with fail
        go_ret3
        exact .inl ⟨9, hU.out, by omega, rfl, rfl⟩
end Go.Proofs.Ytkckimhkbnigkaa
