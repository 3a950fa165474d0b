/-
  The walk of QuorumSets: it returns true, and nothing that was there has changed. No condition.
-/
import Derived.Test.YtjhjielenbeoiaaQSets
import Derived.Test.YtjhjielenbeoiaaSeq
import Derived.Test.YtjhjielenbeoiaaOpen
namespace Go.Proofs.Ytjhjielenbeoiaa.quorumSets
open Go.ChangeShapes Go.WideShapes Go.ChangeAt Go.RowKit
open Dg (W B)
theorem out_of (v : Value) (l : List B) (w : World) (h : HasB w w.heap.size v l) (hl : 60 < l.length) :
    Calls Try.prog 4 #[v] w fun e w' => e = .returned (.bool true) ∧ Below w.heap.size w w' := by
  obtain ⟨a, cap, rfl⟩ := h.form
  generalize l.length = n at *
  have t1 : (60 : Int) < (n : Int) := by omega
  clear h hl
  go_enter Try.func4, Try.ntmps4
  go_wp2_with fail
  refine (awake_any _).mono ?_; rintro e w1 ⟨rfl, b1⟩
  go_wp2_with fail
  go_ret
  exact ⟨rfl, b1⟩
def AddRel (n : Nat) (N : Nat) (w : World) (s i : Value) (wr : World) : Prop := ∃ (k : Nat) (S : W), k ≤ n ∧ i = .int .i64 (k : Int) ∧ s = .int .i64 (uv S) ∧ Qm.Small S ∧ InS wr N S ∧ Below w.heap.size w wr
def SeenRel (S : W) (N : Nat) (lv : Value) (w : World) (c i : Value) (wr : World) : Prop := ∃ k : Nat, k ≤ 16 ∧ i = .int .i64 (k : Int) ∧ c = .int .i64 ((Qm.lst S k).length : Int) ∧ InS wr N S ∧ HasI wr wr.heap.size lv (Qm.lstI S 16) ∧ Below w.heap.size w wr
set_option maxRecDepth 100000 in
set_option maxHeartbeats 2000000 in
theorem in_of (v : Value) (l : List B) (w : World) (h : HasB w w.heap.size v l) (hl : l.length ≤ 60) :
    Calls Try.prog 4 #[v] w fun e w' => e = .returned (.bool true) ∧ Below w.heap.size w w' := by
  obtain ⟨a, cap, rfl⟩ := h.form
  obtain ⟨n, hn⟩ : ∃ n, n = l.length := ⟨_, rfl⟩
  rw [← hn] at h hl ⊢
  have H := Lib.hid h; have HN := Lib.hid hn
  have t1 : ¬ (60 : Int) < (n : Int) := by omega
  have hz := zero_b32
  obtain ⟨w0, hw0⟩ : ∃ w0, w0 = w.alloc (.cells zerosB32 31) := ⟨_, rfl⟩
  have a0 : Hid (InS w0 w.heap.size 0#64) := Lib.hid (by rw [hw0]; exact ins_zero w _)
  have b0 : Hid (Below w.heap.size w w0) := Lib.hid (by rw [hw0]; exact (Below.refl _ _).alloc (Nat.le_refl _) _)
  have W0 := Lib.hid hw0
  obtain ⟨N, hN⟩ : ∃ N, N = w.heap.size := ⟨_, rfl⟩
  rw [← hN] at a0
  have HNN := Lib.hid hN
  clear h hn hw0 hN
  go_enter Try.func4, Try.ntmps4
  go_wp2_with fail
  rw [← W0.out, ← HNN.out]
  clear hz
  go_loopw [3, 19] (AddRel n N w) (fun _ i _ => n - (intOf i).toNat)
  case atStart => exact ⟨0, 0#64, by omega, rfl, rfl, by unfold Qm.Small; decide, a0.out, b0.out⟩
  case round =>
    obtain ⟨k, S, hk, rfl, rfl, hS, hin, hb⟩ := hrel
    have HS := Lib.hid hS; have HI := Lib.hid hin; have HB := Lib.hid hb
    by_cases hlt : k < n
    · obtain ⟨b', off', rfl, hcell⟩ := byte_later H.out hb k hlt
      generalize l.getD k 0 = r at hcell
      obtain ⟨rn, hrn⟩ : ∃ rn : Nat, rn = r.toNat := ⟨_, rfl⟩
      have hr256 : rn < 256 := by rw [hrn]; exact r.isLt
      have hbv : bv r = (rn : Int) := by rw [hrn]; rfl
      rw [hbv] at hcell
      obtain ⟨x, hx⟩ : ∃ x, x = rn % 20 := ⟨_, rfl⟩
      have t2 : (rn : Int) % 20 = (x : Int) := by omega
      have t2' : (rn : Int).tmod 20 = (x : Int) := by rw [Int.tmod_eq_emod_of_nonneg (by omega)]; exact t2
      have hx20 : x < 20 := by omega
      have C1 := Lib.hid fun w' => qsize_any (uv S) w'
      rw [Qm.qw_uv] at C1
      have C2 := Lib.hid fun w' => qadd_any (uv S) (x : Int) w'
      rw [Qm.qw_uv] at C2
      clear hrn hbv hx hb
      by_cases h16 : x < 16
      · have t3 : (x : Int) < 16 := by omega
        rw [Qm.add_in hS x h16] at C2
        have C3 := Lib.hid fun w' => qsize_any (uv (S ||| Qm.bit x)) w'
        rw [Qm.qw_uv] at C3
        have C4 := Lib.hid fun w' => qhas_any (uv (S ||| Qm.bit x)) (x : Int) w'
        rw [Qm.has_in x h16, BitVec.getLsbD_or, Qm.bit_at x x (by omega), decide_eq_true rfl, Bool.or_true] at C4
        have cle := Qm.cnt_le S
        have X16 := Lib.hid h16
        cases hbit : S.getLsbD x
        · rw [Qm.cnt_new h16 hbit] at C3
          generalize Qm.cnt S = c at C1 C3 cle
          have HBIT := Lib.hid hbit
          clear hS hin hbit h16
          go_wp2_with fail
          refine (C1.out _).mono ?_; rintro e w1 ⟨rfl, b1⟩
          have I1 := Lib.hid (HI.out.below b1); have B1 := Lib.hid (HB.out.trans (b1.mono HB.out.size)); clear b1
          go_wp2_with fail
          refine (C2.out _).mono ?_; rintro e w' ⟨rfl, rfl⟩
          go_wp2_with fail
          refine (C3.out _).mono ?_; rintro e w2 ⟨rfl, b1⟩
          have I2 := Lib.hid (I1.out.below b1); have B2 := Lib.hid (B1.out.trans (b1.mono B1.out.size)); clear b1
          obtain ⟨hc, hfz⟩ := I2.out.2 x (by omega)
          rw [HBIT.out] at hc
          have I3 := Lib.hid (I2.out.put x)
          have B3 := Lib.hid (B2.out.setCell (p := ⟨N, x, none⟩) (by rw [HNN.out]; exact Nat.le_refl _) (.bool true))
          go_wp2_with fail
          refine (C4.out _).mono ?_; rintro e w' ⟨rfl, rfl⟩
          go_wp2_with fail
          go_roundw
          case rel => exact ⟨k + 1, S ||| Qm.bit x, by omega, by go_num, rfl, Qm.small_or HS.out x X16.out, I3.out, B3.out⟩
          case measure => simp [intOf]; omega
        · rw [Qm.or_old hbit] at C2 C3 C4
          generalize Qm.cnt S = c at C1 C3 cle
          have t5 : ((c : Int) != (c : Int) + 1) = true := by simp; omega
          have HBIT := Lib.hid hbit
          clear hS hin hbit h16
          go_wp2_with fail
          refine (C1.out _).mono ?_; rintro e w1 ⟨rfl, b1⟩
          have I1 := Lib.hid (HI.out.below b1); have B1 := Lib.hid (HB.out.trans (b1.mono HB.out.size)); clear b1
          go_wp2_with fail
          refine (C2.out _).mono ?_; rintro e w' ⟨rfl, rfl⟩
          go_wp2_with fail
          refine (C3.out _).mono ?_; rintro e w2 ⟨rfl, b1⟩
          have I2 := Lib.hid (I1.out.below b1); have B2 := Lib.hid (B1.out.trans (b1.mono B1.out.size)); clear b1
          obtain ⟨hc, hfz⟩ := I2.out.2 x (by omega)
          rw [HBIT.out] at hc
          have I3 : Hid (InS (w2.setCell ⟨N, x, none⟩ (.bool true)) N S) := Lib.hid (by have := I2.out.put x; rw [Qm.or_old HBIT.out] at this; exact this)
          have B3 := Lib.hid (B2.out.setCell (p := ⟨N, x, none⟩) (by rw [HNN.out]; exact Nat.le_refl _) (.bool true))
          go_wp2_with fail
          refine (C4.out _).mono ?_; rintro e w' ⟨rfl, rfl⟩
          go_wp2_with fail
          go_roundw
          case rel => exact ⟨k + 1, S, by omega, by go_num, rfl, HS.out, I3.out, B3.out⟩
          case measure => simp [intOf]; omega
      · have t3 : ¬ (x : Int) < 16 := by omega
        rw [Qm.add_out hS x (by omega)] at C2
        have C4 := Lib.hid fun w' => qhas_any (uv S) (x : Int) w'
        rw [Qm.has_out x (by omega)] at C4
        generalize Qm.cnt S = c at C1
        clear hS hin h16
        go_wp2_with fail
        refine (C1.out _).mono ?_; rintro e w1 ⟨rfl, b1⟩
        have I1 := Lib.hid (HI.out.below b1); have B1 := Lib.hid (HB.out.trans (b1.mono HB.out.size)); clear b1
        go_wp2_with fail
        refine (C2.out _).mono ?_; rintro e w' ⟨rfl, rfl⟩
        go_wp2_with fail
        refine (C4.out _).mono ?_; rintro e w' ⟨rfl, rfl⟩
        go_wp2_with fail
        go_roundw
        case rel => exact ⟨k + 1, S, by omega, by go_num, rfl, HS.out, I1.out, B1.out⟩
        case measure => simp [intOf]; omega
    · obtain rfl : k = n := by omega
      have C5 := Lib.hid fun w' => qlist_any (uv S) w'
      have C6 := Lib.hid fun w' => qsize_any (uv S) w'
      rw [Qm.qw_uv] at C5 C6
      obtain ⟨c, hc⟩ : ∃ c, c = Qm.cnt S := ⟨_, rfl⟩
      have HC := Lib.hid hc
      have hc16 : c ≤ 16 := by rw [hc]; exact Qm.cnt_le S
      rw [← hc] at C5 C6
      clear hS hin hb hc
      go_wp2_with fail
      refine (C5.out _).mono ?_; rintro e w1 ⟨al, cl, rfl, o, b1⟩
      have I1 := Lib.hid (HI.out.below b1); have B1 := Lib.hid (HB.out.trans (b1.mono HB.out.size)); have O1 := Lib.hid o
      clear o b1
      go_wp2_with fail
      go_loopw [11, 74] (SeenRel S N (.slice al c cl) w) (fun _ i _ => 16 - (intOf i).toNat)
      case atStart => exact ⟨0, by omega, rfl, rfl, I1.out, O1.out, B1.out⟩
      case round =>
        obtain ⟨i, hi, rfl, rfl, hin, hls, hb⟩ := hrel
        have HI2 := Lib.hid hin; have HL2 := Lib.hid hls; have HB2 := Lib.hid hb
        obtain ⟨kk, hkk⟩ : ∃ kk, kk = (Qm.lst S i).length := ⟨_, rfl⟩
        rw [← hkk]
        have HK := Lib.hid hkk
        have kle : kk ≤ i := by rw [hkk]; exact Qm.lst_le S i
        by_cases hlt : i < 16
        · have C7 := Lib.hid fun w' => qhas_any (uv S) (i : Int) w'
          rw [Qm.has_in i hlt] at C7
          obtain ⟨x0, hfz⟩ := hin.2 i (by omega)
          have t6 : (i : Int) < 16 := by omega
          have t10 : (i : Int) < 32 := by omega
          have t11 : ¬ (i : Int) < 0 := by omega
          have hsu : (Qm.lst S (i + 1)).length = kk + Qm.one (S.getLsbD i) := by rw [hkk, Qm.lst_len, Qm.lst_len]; rfl
          have HSU := Lib.hid hsu
          cases hbit : S.getLsbD i
          · rw [hbit] at C7 x0 HSU
            by_cases hk : kk < c
            · have hmiss := Qm.lst_miss hlt hbit (by rw [← hkk, ← HC.out]; exact hk)
              rw [← hkk] at hmiss
              obtain ⟨bl, ol, rfl, x1⟩ := hls.at kk hk
              obtain ⟨y, hy⟩ : ∃ y : Nat, y = (Qm.lst S 16).getD kk 0 := ⟨_, rfl⟩
              have hyl : (Qm.lstI S 16).getD kk 0 = (y : Int) := by rw [hy]; unfold Qm.lstI; simp only [List.getD_eq_getElem?_getD, List.getElem?_map]; cases (Qm.lst S 16)[kk]? <;> rfl
              rw [hyl] at x1
              rw [← hy] at hmiss
              have t7 : ((y : Int) == (i : Int)) = false := by simp; omega
              have t8 : (kk : Int) < (c : Int) := by omega
              clear hin hls hb hkk hsu hbit hmiss hy hyl
              go_wp2_with fail
              refine wp_region_seq [(0, true), (1, true), (2, true), (3, true), (4, true), (5, false), (6, true), (7, true), (8, true), (9, true), (10, true), (11, true), (12, true), (13, true), (14, true), (15, true), (16, true), (17, true), (18, true), (19, true), (20, true), (21, true), (22, true), (23, true), (24, true)] (by kernel_rfl) (by kernel_rfl) (by kernel_rfl) (by kernel_rfl) ?_
              iterate 5 (refine wpSeq_pure (v := ?_) rfl (by rfl) (fun w' hw' => ?_) ?_; rotate_left; (focus (have y0 := qkept hw' x0; have y1 := qkept hw' x1; go_simp; try with_reducible rfl)); try simp only [Act.put, List.setIfInBounds_toArray, List.set_cons_zero, List.set_cons_succ])
              refine wpSeq_call rfl (fun K' hK => ?_)
              go_simp
              go_at_call 18
              refine (C7.out _).mono ?_; rintro e w' ⟨rfl, rfl⟩
              refine hK.out _ _ (Below.refl _ _) ?_
              clear hK K'
              try simp only [Act.put, List.setIfInBounds_toArray, List.set_cons_zero, List.set_cons_succ]
              iterate 19 (refine wpSeq_pure (v := ?_) rfl (by rfl) (fun w' hw' => ?_) ?_; rotate_left; (focus (have y0 := qkept hw' x0; have y1 := qkept hw' x1; go_simp; try with_reducible rfl)); try simp only [Act.put, List.setIfInBounds_toArray, List.set_cons_zero, List.set_cons_succ])
              refine wpSeq_nil ?_
              go_wp2_with fail
              go_roundw
              case rel => exact ⟨i + 1, by omega, by go_num, by rw [HSU.out]; simp [Qm.one], HI2.out, HL2.out, HB2.out.drew⟩
              case measure => simp [intOf]; omega
            · have t8 : ¬ (kk : Int) < (c : Int) := by omega
              have x1 := x0
              clear hin hls hb hkk hsu hbit
              go_wp2_with fail
              refine wp_region_seq [(0, true), (1, true), (2, true), (3, true), (4, true), (5, false), (6, true), (7, true), (8, true), (9, true), (10, true), (11, true), (12, true), (13, true), (14, true), (15, true), (16, true), (17, true), (18, true), (19, true), (20, true), (21, true), (22, true), (23, true), (24, true)] (by kernel_rfl) (by kernel_rfl) (by kernel_rfl) (by kernel_rfl) ?_
              iterate 5 (refine wpSeq_pure (v := ?_) rfl (by rfl) (fun w' hw' => ?_) ?_; rotate_left; (focus (have y0 := qkept hw' x0; have y1 := qkept hw' x1; go_simp; try with_reducible rfl)); try simp only [Act.put, List.setIfInBounds_toArray, List.set_cons_zero, List.set_cons_succ])
              refine wpSeq_call rfl (fun K' hK => ?_)
              go_simp
              go_at_call 18
              refine (C7.out _).mono ?_; rintro e w' ⟨rfl, rfl⟩
              refine hK.out _ _ (Below.refl _ _) ?_
              clear hK K'
              try simp only [Act.put, List.setIfInBounds_toArray, List.set_cons_zero, List.set_cons_succ]
              iterate 10 (refine wpSeq_pure (v := ?_) rfl (by rfl) (fun w' hw' => ?_) ?_; rotate_left; (focus (have y0 := qkept hw' x0; have y1 := qkept hw' x1; go_simp; try with_reducible rfl)); try simp only [Act.put, List.setIfInBounds_toArray, List.set_cons_zero, List.set_cons_succ])
              iterate 6 (refine wpSeq_skip rfl (by rfl) ?_; try simp only [Act.put, List.setIfInBounds_toArray, List.set_cons_zero, List.set_cons_succ])
              iterate 3 (refine wpSeq_pure (v := ?_) rfl (by rfl) (fun w' hw' => ?_) ?_; rotate_left; (focus (have y0 := qkept hw' x0; have y1 := qkept hw' x1; go_simp; try with_reducible rfl)); try simp only [Act.put, List.setIfInBounds_toArray, List.set_cons_zero, List.set_cons_succ])
              refine wpSeq_nil ?_
              go_wp2_with fail
              go_roundw
              case rel => exact ⟨i + 1, by omega, by go_num, by rw [HSU.out]; simp [Qm.one], HI2.out, HL2.out, HB2.out.drew⟩
              case measure => simp [intOf]; omega
          · rw [hbit] at C7 x0 HSU
            obtain ⟨g1, g2⟩ := Qm.lst_hit hlt hbit
            rw [← hkk, ← HC.out] at g1
            rw [← hkk] at g2
            obtain ⟨bl, ol, rfl, x1⟩ := hls.at kk g1
            have hyl : (Qm.lstI S 16).getD kk 0 = (i : Int) := by rw [← g2]; unfold Qm.lstI; simp only [List.getD_eq_getElem?_getD, List.getElem?_map]; cases (Qm.lst S 16)[kk]? <;> rfl
            rw [hyl] at x1
            have t8 : (kk : Int) < (c : Int) := by omega
            clear hin hls hb hkk hsu hbit g1 g2 hyl
            go_wp2_with fail
            refine wp_region_seq [(0, true), (1, true), (2, true), (3, true), (4, true), (5, false), (6, true), (7, true), (8, true), (9, true), (10, true), (11, true), (12, true), (13, true), (14, true), (15, true), (16, true), (17, true), (18, true), (19, true), (20, true), (21, true), (22, true), (23, true), (24, true)] (by kernel_rfl) (by kernel_rfl) (by kernel_rfl) (by kernel_rfl) ?_
            iterate 5 (refine wpSeq_pure (v := ?_) rfl (by rfl) (fun w' hw' => ?_) ?_; rotate_left; (focus (have y0 := qkept hw' x0; have y1 := qkept hw' x1; go_simp; try with_reducible rfl)); try simp only [Act.put, List.setIfInBounds_toArray, List.set_cons_zero, List.set_cons_succ])
            refine wpSeq_call rfl (fun K' hK => ?_)
            go_simp
            go_at_call 18
            refine (C7.out _).mono ?_; rintro e w' ⟨rfl, rfl⟩
            refine hK.out _ _ (Below.refl _ _) ?_
            clear hK K'
            try simp only [Act.put, List.setIfInBounds_toArray, List.set_cons_zero, List.set_cons_succ]
            iterate 19 (refine wpSeq_pure (v := ?_) rfl (by rfl) (fun w' hw' => ?_) ?_; rotate_left; (focus (have y0 := qkept hw' x0; have y1 := qkept hw' x1; go_simp; try with_reducible rfl)); try simp only [Act.put, List.setIfInBounds_toArray, List.set_cons_zero, List.set_cons_succ])
            refine wpSeq_nil ?_
            go_wp2_with fail
            go_roundw
            case rel => exact ⟨i + 1, by omega, by go_num, by rw [HSU.out]; simp [Qm.one], HI2.out, HL2.out, HB2.out.drew⟩
            case measure => simp [intOf]; omega
        · obtain rfl : i = 16 := by omega
          have hkc : kk = c := by rw [hkk, HC.out]; rfl
          have t9 : ((kk : Int) == (c : Int)) = true := by rw [hkc]; simp
          have HKC := Lib.hid hkc
          clear hin hls hb hkk hkc
          go_wp2_with fail
          refine (C6.out _).mono ?_; rintro e w5 ⟨rfl, b⟩
          have B5 := Lib.hid (HB2.out.trans (b.mono HB2.out.size)); clear b
          go_wp2_with fail
          refine (awake_any _).mono ?_; rintro e w6 ⟨rfl, b⟩
          have B6 := Lib.hid (B5.out.trans (b.mono B5.out.size)); clear b
          go_wp2_with fail
          go_ret
          exact ⟨rfl, B6.out⟩
end Go.Proofs.Ytjhjielenbeoiaa.quorumSets
