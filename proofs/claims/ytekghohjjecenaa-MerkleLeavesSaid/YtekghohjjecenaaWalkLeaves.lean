/-
  The law that leaves of different indices, and of data that differ within one word, are different (MerkleLeaves), returns true. No condition.
-/
import Derived.Test.YtekghohjjecenaaClone
namespace Go.Proofs.Ytekghohjjecenaa
open Go.ChangeShapes Go.WideShapes Go.ChangeAt Go.RowKit
open Dg (W B)
theorem ofInt_inj {a b : Int} (ha : (Lit.int .i64 a).wf = true) (hb : (Lit.int .i64 b).wf = true) : BitVec.ofInt 64 a = BitVec.ofInt 64 b ↔ a = b := by
  refine ⟨fun h => ?_, fun h => by rw [h]⟩
  have h1 := bounds_i64 ha
  have h2 := bounds_i64 hb
  have e := congrArg BitVec.toNat h
  rw [BitVec.toNat_ofInt, BitVec.toNat_ofInt] at e
  omega
theorem leaf_eq_i {a b : Int} (ha : (Lit.int .i64 a).wf = true) (hb : (Lit.int .i64 b).wf = true) (l : List B) : (uv (leafW a l) == uv (leafW b l)) = decide (a = b) := by
  rw [uv_eq, Bool.eq_iff_iff, beq_iff_eq, decide_eq_true_iff, leafW, leafW, Dg.pair_l, ofInt_inj ha hb]
theorem leaf_eq_d (a : Int) {l m : List B} {j : Nat} (h : Dg.Near l m j) (hj : 8 * j < l.length) : (uv (leafW a l) == uv (leafW a m)) = decide (l = m) := by
  rw [uv_eq, Bool.eq_iff_iff, beq_iff_eq, decide_eq_true_iff, leafW, leafW, Dg.pair_r, Dg.near_of h hj]
theorem set_near (l : List B) (q : Nat) (x : B) : Dg.Near l (l.set q x) (q / 8) := by
  refine ⟨by simp, fun i hi => ?_⟩
  have : q ≠ i := by omega
  simp [List.getD, this]
theorem byte_add (x y : Int) (c : B) (h : x = bv c) : ∃ d : B, IntKind.u8.wrap (x + y) = bv d := by
  subst h
  refine ⟨BitVec.ofNat 8 (IntKind.u8.wrap (bv c + y)).toNat, ?_⟩
  unfold bv
  rw [BitVec.toNat_ofNat, IntKind.wrap_u8']
  omega
theorem leaf_same (i : Int) (l : List B) (N : Nat) (v : Value) (w : World) (hl : l.length ≤ 4611686018427387904) (h : HasB w N v l) :
    Calls Try.prog 14 #[.int .i64 i, v] w fun e w' => e = .returned (.int .u64 (uv (leafW i l))) ∧ w' = w :=
  (leaf_any i l N v w hl h).mono fun _ _ h => ⟨h.1, h.2.symm⟩
namespace merkleLeaves
theorem walk_awake (a : Option Addr) (n cap : Nat) (x y z u : Int) (w : World) (hn : n = 0 ∨ 200 < n) (hx : n ≤ maxLen) :
    Calls Try.prog 8 #[.slice a n cap, .int .i64 x, .int .i64 y, .int .i64 z, .int .i64 u] w fun e w' => e = .returned (.bool true) ∧ Below w.heap.size w w' := by
  unfold maxLen at hx
  rcases hn with rfl | hn
  · go_enter Try.func8, Try.ntmps8
    go_wp2_with fail
    refine (awake_any _).mono ?_; rintro e w' ⟨rfl, hb⟩
    have HB := Lib.hid hb; clear hb
    go_wp2_with fail
    go_ret
    exact ⟨rfl, HB.out⟩
  · have t1 : ((n : Int) == 0) = false := by rw [beq_eq_false_iff_ne]; omega
    have t2 : (200 : Int) < n := by omega
    clear hn
    go_enter Try.func8, Try.ntmps8
    go_wp2_with fail
    refine (awake_any _).mono ?_; rintro e w' ⟨rfl, hb⟩
    have HB := Lib.hid hb; clear hb
    go_wp2_with fail
    go_ret
    exact ⟨rfl, HB.out⟩
set_option maxRecDepth 100000 in
theorem walk_some (l : List B) (b off cap : Nat) (x y n u : Int) (w : World) (hx : (Lit.int .i64 x).wf = true) (hy : (Lit.int .i64 y).wf = true) (hn : (Lit.int .i64 n).wf = true) (h0 : 0 < l.length) (h5 : l.length ≤ 200) (hcap : l.length ≤ cap) (hb : b < w.heap.size)
    (hc : ∀ i, i < l.length → w.cell? ⟨b, off + i, none⟩ = some (.int .u8 (bv (l.getD i 0)))) :
    Calls Try.prog 8 #[.slice (some ⟨b, off, none⟩) l.length cap, .int .i64 x, .int .i64 y, .int .i64 n, .int .i64 u] w fun e w' => e = .returned (.bool true) ∧ Below w.heap.size w w' := by
  have HC := Lib.hid hc; clear hc
  have t1 : ((l.length : Int) == 0) = false := by rw [beq_eq_false_iff_ne]; omega
  have t2 : ¬ (200 : Int) < l.length := by omega
  have LI := Lib.hid (leaf_eq_i hx hy l)
  obtain ⟨i0, hi, hz0, hz1, hz2⟩ := info_parts infoByte
  obtain ⟨q, hq, hq2⟩ := mod_nat n l.length (by omega)
  have HQ := Lib.hid hq; clear hq
  go_enter Try.func8, Try.ntmps8
  go_wp2_with (at_builtin; refine wpList_append_lies _ rfl (.const (.slice none 0 0)) (.tmp 21) _ rfl w.heap.size 5 i0 _ 1 1 Try.underlying23 hi hz0 hz1 hz2 rfl (by omega) (.slice none 0 0) 0 [] rfl (World.ownsRow_nil _ _ _ _) ⟨b, off, none⟩ l.length cap (l.map bval') rfl (by simp) ?c1 ?c2 (by omega) (by unfold maxLen; omega) (by omega) (by omega) w.heap.size rfl ?_)
  case c1 =>
    intro j v hv
    obtain ⟨hj, e⟩ := List.getElem?_eq_some_iff.1 hv
    rw [HC.out j hj, ← e]
    simp [hj, bval']
  case c2 => intro x _; rfl
  intro g1 cap1 w4 own1 grow1 at1 lt1
  obtain ⟨b4, hg, lt4, hcap1, hcell, hfr⟩ := clone_facts (Below.refl _ _) own1 grow1
  clear own1 grow1 at1 lt1
  have hq4 : w4.cell? ⟨g1, q, none⟩ = some (.int .u8 (bv (l.getD q 0))) := by rw [hcell q hq2]; simp [hq2, bval']
  have hfz := hfr q
  have HF := Lib.hid hfr; clear hfr
  have HCELL := Lib.hid hcell; clear hcell
  have B4 := Lib.hid b4; clear b4
  go_wp2_with fail
  refine (mod_to _ _ q HQ.out _ hn (by omega) (by omega)).mono ?_; rintro e w' ⟨rfl, rfl⟩
  go_wp2_with fail
  obtain ⟨d, hd⟩ := byte_add (bv (l.getD q 0)) u _ rfl
  rw [IntKind.wrap_u8', show l.getD q 0 = l[q] by simp [hq2]] at hd
  rw [hd]
  obtain ⟨w5, hw5⟩ : ∃ w5, w5 = w4.setCell ⟨g1, q, none⟩ (.int .u8 (bv d)) := ⟨_, rfl⟩
  rw [← hw5]
  have b5 : Below w.heap.size w w5 := by rw [hw5]; exact B4.out.setCell hg _
  obtain ⟨m, hm⟩ : ∃ m, m = l.set q d := ⟨_, rfl⟩
  have hml : m.length = l.length := by rw [hm]; simp
  have hnear : Dg.Near l m (q / 8) := by rw [hm]; exact set_near l q d
  have hA : ∀ i, i < l.length → w5.drew.cell? ⟨b, off + i, none⟩ = some (.int .u8 (bv (l.getD i 0))) := by
    intro i hi
    rw [b5.drew.cell (p := ⟨b, off + i, none⟩) hb]; exact HC.out i hi
  have hB : ∀ i, i < m.length → w5.drew.cell? ⟨g1, 0 + i, none⟩ = some (.int .u8 (bv (m.getD i 0))) := by
    intro i hi
    rw [Nat.zero_add]
    show w5.cell? _ = _
    by_cases e : i = q
    · subst e
      rw [hw5, World.cell?_setCell_same _ _ _ hq4, hm]
      simp [hq2]
    · rw [hw5, World.cell?_setCell_other _ _ _ _ (by intro h; have := congrArg Addr.off h; simp only at this; omega), HCELL.out i (by omega), hm]
      have : i < l.length := by omega
      simp [List.getD, Ne.symm e, this, bval']
  have cA := conv_bytes l b off cap w5.drew hA
  have cB := conv_bytes m g1 0 cap1 w5.drew hB
  rw [hml] at cB
  have kA : HasB w5.drew w5.heap.size (.slice (some ⟨b, off, none⟩) l.length cap) l := .inr ⟨b, off, cap, rfl, hcap, Nat.lt_of_lt_of_le hb b5.size, hA⟩
  have kB : HasB w5.drew w5.heap.size (.slice (some ⟨g1, 0, none⟩) l.length cap1) m := .inr ⟨g1, 0, cap1, by rw [hml], by omega, by rw [hw5]; simpa using lt4, hB⟩
  have L1 := Lib.hid (leaf_same x l _ _ w5.drew (by omega) kA)
  have L2 := Lib.hid (leaf_same y l _ _ w5.drew (by omega) kA)
  have L3 := Lib.hid (leaf_same x m _ _ w5.drew (by omega) kB)
  have t3 := LI.out
  have t4 : (x == y) = decide (x = y) := by rw [Bool.eq_iff_iff, beq_iff_eq, decide_eq_true_iff]
  have t5 := leaf_eq_d x hnear (by omega)
  have t6 := bstr_test l m
  generalize decide (x = y) = c1 at t3 t4
  generalize decide (l = m) = c2 at t5 t6
  have B5 := Lib.hid b5
  clear hA hB kA kB hd hm hml hnear hw5 hq4 hfz b5
  go_wp2_with fail
  refine wp_region_still_tail 27 (by kernel_rfl) (by kernel_rfl) ?_
  simp only [List.take_succ_cons, List.take_zero, List.drop_succ_cons, List.drop_zero]
  repeat still_step
  still_call (L1.out)
  repeat still_step
  still_call (L2.out)
  repeat still_step
  still_call (L1.out)
  repeat still_step
  still_call (L3.out)
  repeat still_step
  refine wpStill_nil ?_
  change wpList _ _ _ _ _ w5.drew
  go_wp2_with fail
  refine (awake_any _).mono ?_; rintro e w6 ⟨rfl, hb6⟩
  have B6 := Lib.hid (B5.out.drew.trans (hb6.mono B5.out.drew.size)); clear hb6
  go_wp2_with fail
  go_ret
  exact ⟨rfl, B6.out⟩
theorem walk (w : World) (v0 : Value) (l0 : List B) (m0 : l0.length ≤ maxLen) (b0 : HasB w w.heap.size v0 l0) (a1 : Int) (w1 : (Lit.int .i64 a1).wf = true) (a2 : Int) (w2 : (Lit.int .i64 a2).wf = true) (a3 : Int) (w3 : (Lit.int .i64 a3).wf = true) (a4 : Int) (_ : (Lit.int .i64 a4).wf = true) :
    Calls Try.prog 8 #[v0, .int .i64 a1, .int .i64 a2, .int .i64 a3, .int .i64 a4] w fun e w' => e = .returned (.bool true) ∧ Below w.heap.size w w' := by
  rcases b0 with ⟨a, cap, rfl, rfl⟩ | ⟨b, off, cap, rfl, h2, h3, h4⟩
  · exact walk_awake a 0 cap a1 a2 a3 a4 w (.inl rfl) (by decide)
  · by_cases h : l0.length = 0 ∨ 200 < l0.length
    · exact walk_awake _ _ cap a1 a2 a3 a4 w h m0
    · exact walk_some l0 b off cap a1 a2 a3 a4 w w1 w2 w3 (by omega) (by omega) h2 h3 h4
end merkleLeaves
end Go.Proofs.Ytekghohjjecenaa
