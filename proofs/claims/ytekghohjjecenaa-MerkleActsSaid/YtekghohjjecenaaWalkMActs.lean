/-
  The law of what all functions of layer 5 return (MerkleActs) returns true. No condition.
-/
import Derived.Test.YtekghohjjecenaaRefPath
import Derived.Test.YtekghohjjecenaaOpen
namespace Go.Proofs.Ytekghohjjecenaa
open Go.ChangeShapes Go.WideShapes Go.ChangeAt Go.RowKit
open Dg (W B)
theorem HasB.below {w w' : World} {N M : Nat} {v : Value} {l : List B} (h : HasB w N v l) (hb : Below M w w') (hm : N ≤ M) : HasB w' N v l := by
  rcases h with ⟨a, cap, rfl, rfl⟩ | ⟨b, off, cap, rfl, h2, h3, h4⟩
  · exact .inl ⟨a, cap, rfl, rfl⟩
  · refine .inr ⟨b, off, cap, rfl, h2, h3, fun i hi => ?_⟩
    rw [hb.cell (p := ⟨b, off + i, none⟩) (Nat.lt_of_lt_of_le h3 hm)]; exact h4 i hi
/-- three numbers that are laid in memory -/
theorem three_at (w : World) (x0 x1 x2 : Int) (t : TypeId) (k : Nat) (hk : k < 3) : ∃ x, (w.alloc (.cells #[.int .i64 x0, .int .i64 x1, .int .i64 x2] t)).cell? ⟨w.heap.size, k, none⟩ = some (.int .i64 x) := by
  have : k = 0 ∨ k = 1 ∨ k = 2 := by omega
  rcases this with rfl | rfl | rfl
  · exact ⟨x0, by rw [World.cell?_alloc_new]; rfl⟩
  · exact ⟨x1, by rw [World.cell?_alloc_new]; rfl⟩
  · exact ⟨x2, by rw [World.cell?_alloc_new]; rfl⟩
theorem three_below {w w0 wr : World} {x0 x1 x2 : Int} {t : TypeId} (h0 : w0 = w.alloc (.cells #[.int .i64 x0, .int .i64 x1, .int .i64 x2] t)) (hb : Below w0.heap.size w0 wr) (k : Nat) (hk : k < 3) :
    ∃ x, wr.cell? ⟨w.heap.size, k, none⟩ = some (.int .i64 x) := by
  obtain ⟨x, hx⟩ := three_at w x0 x1 x2 t k hk
  refine ⟨x, ?_⟩
  rw [hb.cell (p := ⟨w.heap.size, k, none⟩) (by rw [h0]; simp), h0]; exact hx
/-- what both give for a path, as letters -/
theorem path_letters (l : List W) (i : Int) (h3 : l.length ≤ 1048576) : ∃ (q : List W) (c : Int), q.length ≤ 20 ∧
    (∀ (v : Value) (w : World), HasW w w.heap.size v l → Calls Try.prog 11 #[v, .int .i64 i] w fun e w' => ∃ u, e = .returned (.tuple #[u, .int .i64 c]) ∧ OwnW w.heap.size w' u q ∧ Below w.heap.size w w') ∧
    (∀ (v : Value) (w : World), HasW w w.heap.size v l → Calls Try.prog 12 #[v, .int .i64 i] w fun e w' => ∃ u, e = .returned (.tuple #[u, .int .i64 c]) ∧ OwnW w.heap.size w' u q ∧ Below w.heap.size w w') := by
  refine ⟨if 0 ≤ i ∧ i < l.length then Mt.path l i.toNat else [], if 0 ≤ i ∧ i < l.length then 0 else 2, ?_, fun v w h => path_any l i v w h3 h, fun v w h => rpath_any l i v w h3 h⟩
  split
  · exact path_20 (by omega) h3
  · simp
namespace merkleActs
def CountRel (w : World) (v : Value) (wr : World) : Prop := ∃ k : Nat, k ≤ 3 ∧ v = .int .i64 (k : Int) ∧ Below w.heap.size w wr
theorem walk_awake (a0 : Option Addr) (n0 c0 : Nat) (a1 : Option Addr) (n1 c1 : Nat) (a2 : Option Addr) (n2 c2 : Nat) (x y : Int) (r z : W) (w : World) (hn : 70 < n0 ∨ 30 < n1 ∨ 300 < n2) (h0 : n0 ≤ maxLen) (h1 : n1 ≤ maxLen) (h2 : n2 ≤ maxLen) :
    Calls Try.prog 3 #[.slice a0 n0 c0, .slice a1 n1 c1, .slice a2 n2 c2, .int .i64 x, .int .i64 y, .int .u64 (uv r), .int .u64 (uv z)] w fun e w' => e = .returned (.bool true) ∧ Below w.heap.size w w' := by
  unfold maxLen at h0 h1 h2
  by_cases g0 : 70 < n0
  · have t0 : decide ((70 : Int) < n0) = true := decide_eq_true (by omega)
    clear g0 hn
    go_enter Try.func3, Try.ntmps3
    go_wp2_with fail
    refine (awake_any _).mono ?_; rintro e w' ⟨rfl, hb⟩
    have HB := Lib.hid hb; clear hb
    go_wp2_with fail
    go_ret
    exact ⟨rfl, HB.out⟩
  · by_cases g1 : 30 < n1
    · have t0 : decide ((70 : Int) < n0) = false := decide_eq_false (by omega)
      have t1 : decide ((30 : Int) < n1) = true := decide_eq_true (by omega)
      clear g0 g1 hn
      go_enter Try.func3, Try.ntmps3
      go_wp2_with fail
      refine (awake_any _).mono ?_; rintro e w' ⟨rfl, hb⟩
      have HB := Lib.hid hb; clear hb
      go_wp2_with fail
      go_ret
      exact ⟨rfl, HB.out⟩
    · have t0 : decide ((70 : Int) < n0) = false := decide_eq_false (by omega)
      have t1 : decide ((30 : Int) < n1) = false := decide_eq_false (by omega)
      have t2 : decide ((300 : Int) < n2) = true := decide_eq_true (by omega)
      clear g0 g1 hn
      go_enter Try.func3, Try.ntmps3
      go_wp2_with fail
      refine (awake_any _).mono ?_; rintro e w' ⟨rfl, hb⟩
      have HB := Lib.hid hb; clear hb
      go_wp2_with fail
      go_ret
      exact ⟨rfl, HB.out⟩
set_option maxRecDepth 100000 in
set_option maxHeartbeats 2000000 in
theorem walk_some (l p : List W) (d : List B) (a0 : Option Addr) (n0 c0 : Nat) (a1 : Option Addr) (n1 c1 : Nat) (a2 : Option Addr) (n2 c2 : Nat) (x y : Int) (r z : W) (w : World)
    (e0 : n0 = l.length) (e1 : n1 = p.length) (e2 : n2 = d.length) (h0 : n0 ≤ 70) (h1 : n1 ≤ 30) (h2 : n2 ≤ 300) (hx : (Lit.int .i64 x).wf = true) (hy : (Lit.int .i64 y).wf = true)
    (hl : HasW w w.heap.size (.slice a0 n0 c0) l) (hp : HasW w w.heap.size (.slice a1 n1 c1) p) (hd : HasB w w.heap.size (.slice a2 n2 c2) d) :
    Calls Try.prog 3 #[.slice a0 n0 c0, .slice a1 n1 c1, .slice a2 n2 c2, .int .i64 x, .int .i64 y, .int .u64 (uv r), .int .u64 (uv z)] w fun e w' => e = .returned (.bool true) ∧ Below w.heap.size w w' := by
  have t0 : decide ((70 : Int) < n0) = false := decide_eq_false (by omega)
  have t1 : decide ((30 : Int) < n1) = false := decide_eq_false (by omega)
  have t2 : decide ((300 : Int) < n2) = false := decide_eq_false (by omega)
  obtain ⟨j1, hj1, hj1'⟩ := mod_nat y (n0 + 1) (by omega)
  obtain ⟨M, hM⟩ : ∃ M : Nat, max (1 : Int) (n0 : Int) = M := ⟨max 1 n0, by omega⟩
  have hM1 : 1 ≤ M := by omega
  have hM2 : M ≤ 70 := by omega
  obtain ⟨j2, hj2, hj2'⟩ := mod_nat y M hM1
  obtain ⟨j3, hj3, hj3'⟩ := mod_nat x 70 (by omega)
  have HJ1 := Lib.hid hj1
  have HJ2 := Lib.hid hj2
  have HJ3 := Lib.hid hj3
  have E0 := Lib.hid e0
  have E2 := Lib.hid e2
  have HL := Lib.hid hl
  have HPP := Lib.hid hp
  have HD := Lib.hid hd
  clear hj1 hj2 hj3 e0 e1 e2 hl hp hd
  go_enter Try.func3, Try.ntmps3
  go_wp2_with fail
  refine (mod_to _ _ j1 HJ1.out _ hy (by omega) (by omega)).mono ?_; rintro e w' ⟨rfl, rfl⟩
  go_wp2_with fail
  refine (mod_to _ _ j2 HJ2.out _ hy (by omega) (by omega)).mono ?_; rintro e w' ⟨rfl, rfl⟩
  go_wp2_with fail
  obtain ⟨w0, hw0⟩ : ∃ w0, w0 = w.alloc (.cells #[.int .i64 y, .int .i64 ((j1 : Int) - 1), .int .i64 (j2 : Int)] 3) := ⟨_, rfl⟩
  rw [← hw0]
  have b0 : Below w.heap.size w w0 := by rw [hw0]; exact (Below.refl _ _).alloc (Nat.le_refl _) _
  have B0 := Lib.hid b0
  have W0 := Lib.hid hw0
  clear hw0 b0 hM
  go_loopw [51] (CountRel w0) (fun v _ => 3 - (intOf v).toNat)
  case atStart => exact ⟨0, by omega, rfl, Below.refl _ _⟩
  case round =>
    obtain ⟨k, hk, rfl, hbr⟩ := hrel
    have HB := Lib.hid hbr
    have EB := Lib.hid (B0.out.trans (hbr.mono B0.out.size))
    by_cases hlt : k < 3
    · obtain ⟨i, hcell⟩ := three_below W0.out hbr k hlt
      obtain ⟨q, c, hq20, hp1, hp2⟩ := path_letters l i (by have := E0.out; omega)
      have P1 := Lib.hid (hp1 _ wr ((HL.out.below EB.out (Nat.le_refl _)).wide EB.out.size))
      have P2 := Lib.hid fun W (h : Below w.heap.size w W) => hp2 _ W ((HL.out.below h (Nat.le_refl _)).wide h.size)
      clear hp1 hp2 hbr
      go_wp2_with fail
      refine (P1.out).mono ?_; rintro e w1 ⟨v1, rfl, o1, bb1⟩
      have O1 := Lib.hid o1; have E1 := Lib.hid (EB.out.trans (bb1.mono EB.out.size)); have F1 := Lib.hid (HB.out.trans (bb1.mono HB.out.size)); clear o1 bb1
      go_wp2_with fail
      refine (P2.out _ E1.out).mono ?_; rintro e w2 ⟨v2, rfl, o2, bb2⟩
      have SA := same_any q q _ _ _ _ w2 (Nat.le_trans hq20 (by decide)) (O1.out.below bb2).has o2.has
      rw [decide_eq_true rfl] at SA
      have SAME := Lib.hid SA
      have O2 := Lib.hid o2; have E2' := Lib.hid (E1.out.trans (bb2.mono E1.out.size)); have F2 := Lib.hid (F1.out.trans (bb2.mono F1.out.size)); clear o2 bb2 SA
      have L1 := Lib.hid (leaf_any i d _ _ w2 (by have := E2.out; omega) (HD.out.below E2'.out (Nat.le_refl _)))
      have L2 := Lib.hid (rleaf_any i d _ _ w2 (by have := E2.out; omega) (HD.out.below E2'.out (Nat.le_refl _)))
      go_wp2_with fail
      refine (SAME.out).mono ?_; rintro e w' ⟨rfl, rfl⟩
      go_wp2_with fail
      refine (L1.out).mono ?_; rintro e w' ⟨rfl, rfl⟩
      go_wp2_with fail
      refine (L2.out).mono ?_; rintro e w' ⟨rfl, rfl⟩
      go_wp2_with fail
      refine (mod_to _ _ j3 HJ3.out _ hx (by omega) (by omega)).mono ?_; rintro e w' ⟨rfl, rfl⟩
      go_wp2_with fail
      obtain ⟨w3, hw3⟩ : ∃ w3, w3 = w2.alloc (.cells #[.int .i64 x, .int .i64 (n0 : Int), .int .i64 (j3 : Int)] 3) := ⟨_, rfl⟩
      rw [← hw3]
      have b3 : Below w.heap.size w w3 := by rw [hw3]; exact E2'.out.alloc E2'.out.size _
      have b3' : Below w0.heap.size w0 w3 := by rw [hw3]; exact F2.out.alloc F2.out.size _
      have o3 : OwnW w1.heap.size w3 v2 q := by rw [hw3]; exact O2.out.alloc _
      have B3 := Lib.hid b3
      have B3' := Lib.hid b3'
      have O3 := Lib.hid o3
      have W3 := Lib.hid hw3
      clear hw3 b3 b3' o3
      go_loopw [92] (CountRel w3) (fun v _ => 3 - (intOf v).toNat)
      case atStart => exact ⟨0, by omega, rfl, Below.refl _ _⟩
      case round =>
        obtain ⟨j, hj, rfl, hbr⟩ := hrel
        have HBJ := Lib.hid hbr
        have EBJ := Lib.hid (B3.out.trans (hbr.mono B3.out.size))
        by_cases hltj : j < 3
        · obtain ⟨n, hcelln⟩ := three_below W3.out hbr j hltj
          have RR := Lib.hid fun m => rroot_any l _ _ (wr.drewN m) (by have := E0.out; omega) (HL.out.below (below_drewN EBJ.out m) (Nat.le_refl _))
          have hqr := O3.out.has.below hbr (Nat.le_refl _)
          have K1 := Lib.hid fun m => check_any (Mt.root l) n i z q _ _ (wr.drewN m) hqr
          have K2 := Lib.hid fun m => rcheck_any (Mt.root l) n i z q _ _ (wr.drewN m) hqr
          have K3 := Lib.hid fun m => check_any r n i z p _ _ (wr.drewN m) (HPP.out.below (below_drewN EBJ.out m) (Nat.le_refl _))
          have K4 := Lib.hid fun m => rcheck_any r n i z p _ _ (wr.drewN m) (HPP.out.below (below_drewN EBJ.out m) (Nat.le_refl _))
          clear hbr hqr
          go_wp2_with fail
          refine (depth_any n i _).mono ?_; rintro e w' ⟨rfl, rfl⟩
          go_wp2_with fail
          refine (rdepth_any n i _).mono ?_; rintro e w' ⟨rfl, rfl⟩
          go_wp2_with fail
          refine (RR.out 0).mono ?_; rintro e w' ⟨rfl, m1, rfl⟩
          go_wp2_with fail
          refine (K1.out _).mono ?_; rintro e w' ⟨rfl, m2, rfl⟩
          go_wp2_with fail
          refine (RR.out _).mono ?_; rintro e w' ⟨rfl, m3, rfl⟩
          go_wp2_with fail
          refine (K2.out _).mono ?_; rintro e w' ⟨rfl, m4, rfl⟩
          go_wp2_with fail
          refine (K3.out _).mono ?_; rintro e w' ⟨rfl, m5, rfl⟩
          go_wp2_with fail
          refine (K4.out _).mono ?_; rintro e w' ⟨rfl, m6, rfl⟩
          go_wp2_with fail
          go_roundw
          case rel => exact ⟨j + 1, by omega, by go_num, below_drewN HBJ.out _⟩
          case measure => simp [intOf]; omega
        · obtain rfl : j = 3 := by omega
          clear hbr
          go_wp2_with fail
          go_roundw
          case rel => exact ⟨k + 1, by omega, by go_num, B3'.out.trans (HBJ.out.mono B3'.out.size)⟩
          case measure => simp [intOf]; omega
    · obtain rfl : k = 3 := by omega
      have R1 := Lib.hid (root_any l _ _ wr (by have := E0.out; omega) (HL.out.below EB.out (Nat.le_refl _)))
      have R2 := Lib.hid fun m => rroot_any l _ _ (wr.drewN m) (by have := E0.out; omega) (HL.out.below (below_drewN EB.out m) (Nat.le_refl _))
      clear hbr
      go_wp2_with fail
      refine (R1.out).mono ?_; rintro e w' ⟨rfl, m1, rfl⟩
      go_wp2_with fail
      refine (R2.out _).mono ?_; rintro e w' ⟨rfl, m2, rfl⟩
      go_wp2_with fail
      refine (awake_any _).mono ?_; rintro e w6 ⟨rfl, hb6⟩
      have B6 := Lib.hid ((below_drewN EB.out (m1 + m2)).trans (hb6.mono EB.out.size)); clear hb6
      go_wp2_with fail
      go_ret
      exact ⟨rfl, B6.out⟩
theorem walk (w : World) (v0 : Value) (l0 : List W) (m0 : l0.length ≤ maxLen) (b0 : HasW w w.heap.size v0 l0) (v1 : Value) (l1 : List W) (m1 : l1.length ≤ maxLen) (b1 : HasW w w.heap.size v1 l1) (v2 : Value) (l2 : List B) (m2 : l2.length ≤ maxLen) (b2 : HasB w w.heap.size v2 l2)
    (a3 : Int) (w3 : (Lit.int .i64 a3).wf = true) (a4 : Int) (w4 : (Lit.int .i64 a4).wf = true) (a5 : Int) (w5 : (Lit.int .u64 a5).wf = true) (a6 : Int) (w6 : (Lit.int .u64 a6).wf = true) :
    Calls Try.prog 3 #[v0, v1, v2, .int .i64 a3, .int .i64 a4, .int .u64 a5, .int .u64 a6] w fun e w' => e = .returned (.bool true) ∧ Below w.heap.size w w' := by
  obtain ⟨r, rfl⟩ := uv_of_wf a5 w5
  obtain ⟨z, rfl⟩ := uv_of_wf a6 w6
  obtain ⟨p0, c0, rfl⟩ := b0.form
  obtain ⟨p1, c1, rfl⟩ := b1.form
  obtain ⟨p2, c2, rfl⟩ := b2.form
  by_cases h : 70 < l0.length ∨ 30 < l1.length ∨ 300 < l2.length
  · exact walk_awake p0 _ c0 p1 _ c1 p2 _ c2 a3 a4 r z w h m0 m1 m2
  · exact walk_some l0 l1 l2 p0 _ c0 p1 _ c1 p2 _ c2 a3 a4 r z w rfl rfl rfl (by omega) (by omega) (by omega) w3 w4 b0 b1 b2
end merkleActs
end Go.Proofs.Ytekghohjjecenaa
