/-
  The law that the root of twice as many leaves, if they are a power of two, is the pair of the roots of both halves (MerkleJoins), returns true. No condition.
-/
import Derived.Test.YtekghohjjecenaaOwn
namespace Go.Proofs.Ytekghohjjecenaa
open Go.ChangeShapes Go.WideShapes Go.ChangeAt Go.RowKit
open Dg (W B)
theorem words_mid (b off len cap k m : Nat) (w : World) (h : k < m) (h2 : m ≤ cap) (x y : Int) (hx : x = k) (hy : y = m) :
    (Instr.slice 22 (.slice (some ⟨b, off, none⟩) len cap) (some (.int .i64 x)) (some (.int .i64 y)) none).run Try.prog w = .ok (.slice (some ⟨b, off + k, none⟩) (m - k) (cap - k)) w := by
  subst hx; subst hy
  have he : (sizeOf (Try.prog.elem 22)).run Try.prog w = .ok 1 w := by kernel_rfl
  rw [run_slice_lh w 22 _ len cap (by kernel_rfl) .i64 .i64 (k : Int) (m : Int) (by omega) (by omega) (by omega), he]
  show Result.ok (sliced _ _ _ _ _) w = _
  unfold sliced
  rw [Int.toNat_natCast, Int.toNat_natCast, if_neg (by omega), Option.map_some, Nat.mul_one, add_plain']
namespace merkleJoins
theorem halves {l : List W} {j : Nat} (h : 2 * 2 ^ j ≤ l.length) : (l.take (2 * 2 ^ j)).length = 2 ^ (j + 1) ∧ (l.take (2 * 2 ^ j)).take (2 ^ j) = l.take (2 ^ j) ∧ (l.take (2 * 2 ^ j)).drop (2 ^ j) = (l.drop (2 ^ j)).take (2 ^ j) := by
  refine ⟨by rw [List.length_take, Nat.pow_succ]; omega, by rw [List.take_take]; congr 1; omega, ?_⟩
  rw [List.drop_take]; congr 1; omega
theorem shl_small {j m : Nat} (hm : 2 ^ j = m) (h : j < 4) : wrap64 ((2 : Int) ^ j) = (m : Int) ∧ 1 ≤ m ∧ m ≤ 8 := by
  subst hm
  have : j = 0 ∨ j = 1 ∨ j = 2 ∨ j = 3 := by omega
  rcases this with rfl | rfl | rfl | rfl <;> exact ⟨by kernel_rfl, by decide, by decide⟩
theorem walk_awake (a : Option Addr) (n cap : Nat) (k : Int) (j m : Nat) (i : Int) (w : World) (hk : (Lit.int .u8 k).wf = true) (hj : k % 4 = j) (hj4 : j < 4) (hm : 2 ^ j = m) (hx : n ≤ maxLen) (hn : n < 2 * m ∨ 100 < n) :
    Calls Try.prog 7 #[.slice a n cap, .int .u8 k, .int .i64 i] w fun e w' => e = .returned (.bool true) ∧ Below w.heap.size w w' := by
  have hb := bounds_u8 hk
  obtain ⟨hs, hm1, hm8⟩ := shl_small hm hj4
  clear hm
  unfold maxLen at hx
  by_cases h1 : n < 2 * m
  · have t1 : (n : Int) < 2 * (m : Int) := by omega
    clear h1 hn
    go_enter Try.func7, Try.ntmps7
    go_wp2_with fail
    refine (awake_any _).mono ?_; rintro e w' ⟨rfl, hb⟩
    have HB := Lib.hid hb; clear hb
    go_wp2_with fail
    go_ret
    exact ⟨rfl, HB.out⟩
  · have t1 : ¬ (n : Int) < 2 * (m : Int) := by omega
    have t2 : (100 : Int) < n := by omega
    clear h1 hn
    go_enter Try.func7, Try.ntmps7
    go_wp2_with fail
    refine (awake_any _).mono ?_; rintro e w' ⟨rfl, hb⟩
    have HB := Lib.hid hb; clear hb
    go_wp2_with fail
    go_ret
    exact ⟨rfl, HB.out⟩
set_option maxRecDepth 100000 in
set_option maxHeartbeats 2000000 in
theorem walk_some (l : List W) (b off cap : Nat) (k : Int) (j m : Nat) (i : Int) (w : World) (hk : (Lit.int .u8 k).wf = true) (hj : k % 4 = j) (hj4 : j < 4) (hm : 2 ^ j = m) (hi : (Lit.int .i64 i).wf = true) (h1 : 2 * m ≤ l.length) (h5 : l.length ≤ 100) (hcap : l.length ≤ cap) (hb : b < w.heap.size)
    (hc : ∀ i, i < l.length → w.cell? ⟨b, off + i, none⟩ = some (.int .u64 (uv (l.getD i 0)))) :
    Calls Try.prog 7 #[.slice (some ⟨b, off, none⟩) l.length cap, .int .u8 k, .int .i64 i] w fun e w' => e = .returned (.bool true) ∧ Below w.heap.size w w' := by
  have hb8 := bounds_u8 hk
  obtain ⟨hs, hm1, hm8⟩ := shl_small hm hj4
  obtain ⟨q, hq, hq2⟩ := mod_nat i m hm1
  have HQ := Lib.hid hq; clear hq
  have rA := fun W => words_to b off l.length cap m W (by omega) _ rfl
  have rB := fun W => words_mid b off l.length cap m (2 * m) W (by omega) (by omega) (m : Int) (2 * (m : Int)) rfl (by omega)
  have rL := fun W => words_to b off l.length cap (2 * m) W (by omega) (2 * (m : Int)) (by omega)
  rw [show 2 * m - m = m by omega] at rB
  obtain ⟨hv1, hv2, hv3⟩ := halves (l := l) (j := j) (by rw [hm]; omega)
  rw [hm] at hv1 hv2 hv3
  have lA : (l.take m).length = m := by simp; omega
  have lB : ((l.drop m).take m).length = m := by simp; omega
  have lL : (l.take (2 * m)).length = 2 * m := by simp; omega
  have p1 := Mt.path_first (i := q) hv1 (by omega)
  have p2 := Mt.path_second (i := m + q) hv1 (by omega)
  have p3 := Mt.root_halves hv1
  rw [hm, hv2, hv3] at p1 p2 p3
  rw [show m + q - m = q by omega] at p2
  have hA : HasW w w.heap.size (.slice (some ⟨b, off, none⟩) m cap) (l.take m) := .inr ⟨b, off, cap, by rw [lA], by omega, hb, take_cells m hc⟩
  have hL : HasW w w.heap.size (.slice (some ⟨b, off, none⟩) (2 * m) cap) (l.take (2 * m)) := .inr ⟨b, off, cap, by rw [lL], by omega, hb, take_cells (2 * m) hc⟩
  have hB : HasW w w.heap.size (.slice (some ⟨b, off + m, none⟩) m (cap - m)) ((l.drop m).take m) := .inr ⟨b, off + m, cap - m, by rw [lB], by omega, hb, take_cells m (drop_cells m hc)⟩
  generalize l.take m = A at *
  generalize (l.drop m).take m = D at *
  generalize l.take (2 * m) = L at *
  have CA := Lib.hid fun W (h : Below w.heap.size w W) => path_ok A q q rfl _ W (by omega) (by omega) ((hA.below h (Nat.le_refl _)).wide h.size)
  have CL := Lib.hid fun W (h : Below w.heap.size w W) => path_ok L q q rfl _ W (by omega) (by omega) ((hL.below h (Nat.le_refl _)).wide h.size)
  have CM := Lib.hid fun W (h : Below w.heap.size w W) => path_ok L (m + q) ((m : Int) + q) (by omega) _ W (by omega) (by omega) ((hL.below h (Nat.le_refl _)).wide h.size)
  have CB := Lib.hid fun W (h : Below w.heap.size w W) => path_ok D q q rfl _ W (by omega) (by omega) ((hB.below h (Nat.le_refl _)).wide h.size)
  have RA := Lib.hid fun W (h : Below w.heap.size w W) => root_any A _ _ W (by omega) (hA.below h (Nat.le_refl _))
  have RB := Lib.hid fun W (h : Below w.heap.size w W) => root_any D _ _ W (by omega) (hB.below h (Nat.le_refl _))
  have RL := Lib.hid fun W (h : Below w.heap.size w W) => root_any L _ _ W (by omega) (hL.below h (Nat.le_refl _))
  have HP1 := Lib.hid p1
  have HP2 := Lib.hid p2
  have HP3 := Lib.hid p3
  have n1 := Lib.hid (path_20 (l := A) (i := q) (by omega) (by omega))
  have n2 := Lib.hid (path_20 (l := D) (i := q) (by omega) (by omega))
  have ll := Lib.hid (path_20 (l := L) (i := q) (by omega) (by omega))
  have ll2 := Lib.hid (path_20 (l := L) (i := m + q) (by omega) (by omega))
  have t1 : ¬ (l.length : Int) < 2 * (m : Int) := by omega
  have t2 : ¬ (100 : Int) < l.length := by omega
  clear p1 p2 p3 hv1 hv2 hv3 hA hL hB lA lB lL hm hc
  obtain ⟨i0, hi0, hz0, hz1, hz2⟩ := info_parts infoWord
  go_enter Try.func7, Try.ntmps7
  go_wp2_with fail
  go_quiet (fail)
  go_wp2_with fail
  refine (mod_to _ _ q HQ.out _ hi (by omega) (by omega)).mono ?_; rintro e w' ⟨rfl, rfl⟩
  have B0 := Lib.hid (below_drewN (Below.refl w.heap.size w) nq)
  go_wp2_with fail
  refine (CA.out _ B0.out).mono ?_; rintro e w1 ⟨v1, rfl, o1, bb1⟩
  have O1 := Lib.hid o1; have E1 := Lib.hid (B0.out.trans (bb1.mono (Nat.le_refl _))); clear o1 bb1
  go_wp2_with fail
  refine (CL.out _ E1.out).mono ?_; rintro e w2 ⟨v2, rfl, o2, bb2⟩
  have O2 := Lib.hid o2; have O12 := Lib.hid (O1.out.below bb2); have E2 := Lib.hid (E1.out.trans (bb2.mono E1.out.size)); have S2 := Lib.hid bb2.size; clear o2 bb2
  go_wp2_with fail
  refine (CM.out _ E2.out).mono ?_; rintro e w3 ⟨v3, rfl, o3, bb3⟩
  have O3 := Lib.hid o3; have O13 := Lib.hid (O12.out.below bb3); have O23 := Lib.hid (O2.out.below bb3); have E3 := Lib.hid (E2.out.trans (bb3.mono E2.out.size)); have S3 := Lib.hid bb3.size; clear o3 bb3
  go_wp2_with fail
  refine (CB.out _ E3.out).mono ?_; rintro e w4 ⟨v4, rfl, o4, bb4⟩
  have O4 := Lib.hid o4; have O14 := Lib.hid (O13.out.below bb4); have O24 := Lib.hid (O23.out.below bb4); have O34 := Lib.hid (O3.out.below bb4); have E4 := Lib.hid (E3.out.trans (bb4.mono E3.out.size)); have S4 := Lib.hid bb4.size; clear o4 bb4
  have c1 : (uv (Mt.root L) == uv (Dg.pairW (Mt.root A) (Mt.root D))) = true := by rw [HP3.out, beq_iff_eq]
  go_wp2_with fail
  refine (RL.out _ E4.out).mono ?_; rintro e w' ⟨rfl, m1, rfl⟩
  go_wp2_with fail
  refine (RA.out _ (below_drewN E4.out _)).mono ?_; rintro e w' ⟨rfl, m2, rfl⟩
  go_wp2_with fail
  refine (RB.out _ (below_drewN E4.out _)).mono ?_; rintro e w' ⟨rfl, m3, rfl⟩
  go_wp2_with fail
  refine (rpair_any _ _ _).mono ?_; rintro e w' ⟨rfl, rfl⟩
  go_wp2_with fail
  refine (RB.out _ (below_drewN E4.out _)).mono ?_; rintro e w' ⟨rfl, m4, rfl⟩
  go_wp2_with (at_builtin; refine wpList_append_word rfl (.tmp 105) (.tmp 108) rfl w.heap.size v1 (Mt.path A q) (Mt.root D) w4.heap.size 1 rfl (O14.out.alloc _) rfl (alloc_word _ _ _) (Nat.le_trans n1.out (by decide)) ?c1 ?_)
  case c1 => have := E4.out.size; simp; omega
  intro g5 cap5 w5 o5 grow5
  have E5 := Lib.hid (below_grown ((below_drewN E4.out _).alloc (by have := E4.out.size; simpa using this) _) (by have := E4.out.size; simp; omega) ((O14.out.drewN _).alloc _) grow5)
  have O25 := Lib.hid (((O24.out.drewN _).alloc _).kept grow5 (own_apart O1.out O2.out (Nat.le_refl _)))
  have O35 := Lib.hid (((O34.out.drewN _).alloc _).kept grow5 (own_apart O1.out O3.out S2.out))
  have O45 := Lib.hid (((O4.out.drewN _).alloc _).kept grow5 (own_apart O1.out O4.out (Nat.le_trans S2.out S3.out)))
  have SA := same_any _ _ _ _ _ _ w5 (Nat.le_trans ll.out (by decide)) O25.out.has o5.has
  rw [decide_eq_true HP1.out] at SA
  have SAME := Lib.hid SA
  clear o5 grow5 SA
  go_wp2_with fail
  refine (SAME.out).mono ?_; rintro e w' ⟨rfl, rfl⟩
  go_wp2_with fail
  refine (RA.out _ E5.out).mono ?_; rintro e w' ⟨rfl, m5, rfl⟩
  have D45 := Lib.hid (O45.out.mono (Nat.le_trans E2.out.size S3.out))
  go_wp2_with (at_builtin; refine wpList_append_word rfl (.tmp 114) (.tmp 117) rfl w.heap.size v4 (Mt.path D q) (Mt.root A) w5.heap.size 1 rfl (D45.out.alloc _) rfl (alloc_word _ _ _) (Nat.le_trans n2.out (by decide)) ?c2 ?_)
  case c2 => have := E5.out.size; simp; omega
  intro g6 cap6 w6 o6 grow6
  have E6 := Lib.hid (below_grown ((below_drewN E5.out _).alloc (by have := E5.out.size; simpa using this) _) (by have := E5.out.size; simp; omega) ((D45.out.drewN _).alloc _) grow6)
  have O36 := Lib.hid (((O35.out.drewN _).alloc _).kept grow6 (own_apart2 O3.out O4.out (Nat.le_refl _)))
  have SA := same_any _ _ _ _ _ _ w6 (Nat.le_trans ll2.out (by decide)) O36.out.has o6.has
  rw [decide_eq_true HP2.out] at SA
  have SAME2 := Lib.hid SA
  clear o6 grow6 SA
  go_wp2_with fail
  refine (SAME2.out).mono ?_; rintro e w' ⟨rfl, rfl⟩
  go_wp2_with fail
  refine (awake_any _).mono ?_; rintro e w7 ⟨rfl, hb7⟩
  have E7 := Lib.hid (E6.out.trans (hb7.mono E6.out.size)); clear hb7
  go_wp2_with fail
  go_ret
  exact ⟨rfl, E7.out⟩
theorem walk (w : World) (v0 : Value) (l0 : List W) (m0 : l0.length ≤ maxLen) (b0 : HasW w w.heap.size v0 l0) (a1 : Int) (w1 : (Lit.int .u8 a1).wf = true) (a2 : Int) (w2 : (Lit.int .i64 a2).wf = true) :
    Calls Try.prog 7 #[v0, .int .u8 a1, .int .i64 a2] w fun e w' => e = .returned (.bool true) ∧ Below w.heap.size w w' := by
  have hb := bounds_u8 w1
  obtain ⟨j, hj⟩ : ∃ j : Nat, a1 % 4 = j := ⟨(a1 % 4).toNat, by omega⟩
  have hj4 : j < 4 := by omega
  rcases b0 with ⟨a, cap, rfl, rfl⟩ | ⟨b, off, cap, rfl, h2, h3, h4⟩
  · exact walk_awake a 0 cap a1 j _ a2 w w1 hj hj4 rfl (by decide) (.inl (by have := Nat.one_le_two_pow (n := j); omega))
  · by_cases h : l0.length < 2 * 2 ^ j ∨ 100 < l0.length
    · exact walk_awake _ _ cap a1 j _ a2 w w1 hj hj4 rfl m0 h
    · exact walk_some l0 b off cap a1 j _ a2 w w1 hj hj4 rfl w2 (by omega) (by omega) h2 h3 h4
end merkleJoins
end Go.Proofs.Ytekghohjjecenaa
