/-
  What Sign of package keyring returns, as the landed code computes it. Nothing that was there has changed. No condition.
-/
import Derived.Test.YthkkjocmglcjnaaRefSgn
import Derived.Test.YthkkjocmglcjnaaRing
namespace Go.Proofs.Ythkkjocmglcjnaa
open Go.ChangeShapes Go.WideShapes Go.ChangeAt Go.RowKit
open Dg (W B)
theorem ksign_range (s : W) (n u : Int) (d : W) (w : World) (h : n < 1 ∨ 64 < n ∨ u < 0) :
    Calls Try.prog 9 #[ringV s n u, .int .u64 (uv d)] w (SignNone s n u 2 w) := by
  unfold SignNone ringV
  by_cases h1 : 1 ≤ n ∧ n ≤ 64
  · have C0 := Lib.hid fun w' => kcount_yes n w' h1
    have t3 : decide (u < 0) = true := decide_eq_true (by omega)
    clear h h1
    go_enter Try.func9, Try.ntmps9
    go_wp2_with fail
    refine (C0.out _).mono ?_; rintro e w' ⟨rfl, rfl⟩
    go_wp2_with fail
    go_region
    go_wp2_with fail
    exact bodyPost_ret (results_cct rfl _ _ _ _ rfl rfl (load_mid ..) (load_top ..)) rfl ⟨rfl, below_three _ _ _ _⟩
  · have C0 := Lib.hid fun w' => kcount_no n w' h1
    clear h h1
    go_enter Try.func9, Try.ntmps9
    go_wp2_with fail
    refine (C0.out _).mono ?_; rintro e w' ⟨rfl, rfl⟩
    go_wp2_with fail
    go_region
    go_wp2_with fail
    exact bodyPost_ret (results_cct rfl _ _ _ _ rfl rfl (load_mid ..) (load_top ..)) rfl ⟨rfl, below_three _ _ _ _⟩
theorem ksign_used (s : W) (n u : Int) (d : W) (w : World) (h : 1 ≤ n ∧ n ≤ 64 ∧ n ≤ u) :
    Calls Try.prog 9 #[ringV s n u, .int .u64 (uv d)] w (SignNone s n u 10 w) := by
  unfold SignNone ringV
  have C0 := Lib.hid fun w' => kcount_yes n w' ⟨h.1, h.2.1⟩
  have t3 : decide (u < 0) = false := decide_eq_false (by omega)
  have t4 : decide (n ≤ u) = true := decide_eq_true h.2.2
  clear h
  go_enter Try.func9, Try.ntmps9
  go_wp2_with fail
  refine (C0.out _).mono ?_; rintro e w' ⟨rfl, rfl⟩
  go_wp2_with fail
  go_region
  go_wp2_with fail
  exact bodyPost_ret (results_cct rfl _ _ _ _ rfl rfl (load_mid ..) (load_top ..)) rfl ⟨rfl, below_three _ _ _ _⟩
theorem kpath_ring (s : W) (n k : Nat) (hk : k < n) (hn : n ≤ 64) (v : Value) (w : World) (h : HasW w w.heap.size v (Kr.leaves s n)) :
    Calls Try.prog 21 #[v, .int .i64 (k : Int)] w fun e w' => ∃ pv, e = .returned (.tuple #[pv, .int .i64 0]) ∧ OwnW w.heap.size w' pv (Kr.path s n k) ∧ Below w.heap.size w w' := by
  have hc : 0 ≤ (k : Int) ∧ (k : Int) < (Kr.leaves s n).length := by rw [Kr.leaves_len]; omega
  refine (path_any (Kr.leaves s n) (k : Int) v w (by rw [Kr.leaves_len]; omega) h).mono ?_
  rintro e w' ⟨pv, rfl, o, b⟩
  rw [if_pos hc] at o ⊢
  exact ⟨pv, rfl, o, b⟩
theorem Rec3.far3 {w : World} {N M : Nat} {a b c : Value} (h : Rec3 w N a b c) (hn : M ≠ N) (x y z : Value) : Rec3 (((w.setCell ⟨M, 0, none⟩ x).setCell ⟨M, 1, none⟩ y).setCell ⟨M, 2, none⟩ z) N a b c :=
  ((h.far ⟨M, 0, none⟩ hn x).far ⟨M, 1, none⟩ hn y).far ⟨M, 2, none⟩ hn z
/-- a signature and the ring behind it, as they lie in the blocks of the results -/
def SgnFin (w : World) (s : W) (n k : Nat) (d : W) (W : World) : Prop := ∃ cv pv, Rec3 W (w.heap.size + 1) (.int .i64 (k : Int)) cv pv ∧ Rec3 W (w.heap.size + 1 + 1) (.int .u64 (uv s)) (.int .i64 (n : Int)) (.int .i64 ((k : Int) + 1)) ∧ HasW W W.heap.size cv (Kr.chains s k d) ∧ HasW W W.heap.size pv (Kr.path s n k) ∧ Below w.heap.size w W
theorem rec_six {w : World} {N M : Nat} {a b c a' b' c' : Value} (q : Rec3 w N a b c) (r : Rec3 w M a' b' c') (hn : M ≠ N) (x y z x' y' z' : Value) :
    Rec3 ((((((w.setCell ⟨N, 0, none⟩ x).setCell ⟨N, 1, none⟩ y).setCell ⟨N, 2, none⟩ z).setCell ⟨M, 0, none⟩ x').setCell ⟨M, 1, none⟩ y').setCell ⟨M, 2, none⟩ z') N x y z ∧
    Rec3 ((((((w.setCell ⟨N, 0, none⟩ x).setCell ⟨N, 1, none⟩ y).setCell ⟨N, 2, none⟩ z).setCell ⟨M, 0, none⟩ x').setCell ⟨M, 1, none⟩ y').setCell ⟨M, 2, none⟩ z') M x' y' z' :=
  ⟨(q.put x y z).far3 hn x' y' z', (r.far3 hn.symm x y z).put x' y' z'⟩
theorem sgn_six {w w1 w5 wd we : World} {s d : W} {n k : Nat} {cv pv a b c a' b' c' : Value} {N M : Nat} (hN : w.heap.size ≤ N ∧ N < w1.heap.size) (hM : w.heap.size ≤ M ∧ M < w1.heap.size) (hn : M ≠ N) (h5 : w1.heap.size ≤ w5.heap.size) (b5 : Below w.heap.size w w5) (p5 : OwnW w1.heap.size w5 pv (Kr.path s n k))
    (d1 : Below w5.heap.size w5 wd) (d2 : Below wd.heap.size wd we) (e2 : MyW wd.heap.size we cv (Kr.chains s k d)) (q : Rec3 we N a b c) (r : Rec3 we M a' b' c') (x x' y' z' : Value) (W : World)
    (hW : W = (((((we.setCell ⟨N, 0, none⟩ x).setCell ⟨N, 1, none⟩ cv).setCell ⟨N, 2, none⟩ pv).setCell ⟨M, 0, none⟩ x').setCell ⟨M, 1, none⟩ y').setCell ⟨M, 2, none⟩ z') :
    ∃ cv pv, Rec3 W N x cv pv ∧ Rec3 W M x' y' z' ∧ HasW W W.heap.size cv (Kr.chains s k d) ∧ HasW W W.heap.size pv (Kr.path s n k) ∧ Below w.heap.size w W := by
  have s1 := d1.size
  have s2 := d2.size
  have pe : OwnW w1.heap.size we pv (Kr.path s n k) := OwnW.below (OwnW.below p5 d1) d2
  have be : Below w.heap.size w we := b5.trans ((d1.trans (d2.mono d1.size)).mono (by omega))
  have h6 := rec_six q r hn x cv pv x' y' z'
  have m6 : MyW wd.heap.size ((((((we.setCell ⟨N, 0, none⟩ x).setCell ⟨N, 1, none⟩ cv).setCell ⟨N, 2, none⟩ pv).setCell ⟨M, 0, none⟩ x').setCell ⟨M, 1, none⟩ y').setCell ⟨M, 2, none⟩ z') cv _ :=
    My.far (My.far (My.far (My.far (My.far (My.far e2 ⟨N, 0, none⟩ (.inl (show N < _ by omega)) x) ⟨N, 1, none⟩ (.inl (show N < _ by omega)) cv) ⟨N, 2, none⟩ (.inl (show N < _ by omega)) pv) ⟨M, 0, none⟩ (.inl (show M < _ by omega)) x') ⟨M, 1, none⟩ (.inl (show M < _ by omega)) y') ⟨M, 2, none⟩ (.inl (show M < _ by omega)) z'
  have o6 : OwnW w1.heap.size ((((((we.setCell ⟨N, 0, none⟩ x).setCell ⟨N, 1, none⟩ cv).setCell ⟨N, 2, none⟩ pv).setCell ⟨M, 0, none⟩ x').setCell ⟨M, 1, none⟩ y').setCell ⟨M, 2, none⟩ z') pv _ :=
    OwnW.far (OwnW.far (OwnW.far (OwnW.far (OwnW.far (OwnW.far pe ⟨N, 0, none⟩ hN.2 x) ⟨N, 1, none⟩ hN.2 cv) ⟨N, 2, none⟩ hN.2 pv) ⟨M, 0, none⟩ hM.2 x') ⟨M, 1, none⟩ hM.2 y') ⟨M, 2, none⟩ hM.2 z'
  have b6 := (((((be.setCell (p := ⟨N, 0, none⟩) hN.1 x).setCell (p := ⟨N, 1, none⟩) hN.1 cv).setCell (p := ⟨N, 2, none⟩) hN.1 pv).setCell (p := ⟨M, 0, none⟩) hM.1 x').setCell (p := ⟨M, 1, none⟩) hM.1 y').setCell (p := ⟨M, 2, none⟩) hM.1 z'
  rw [← hW] at h6 m6 o6 b6
  exact ⟨cv, pv, h6.1, h6.2, m6.has, o6.has, b6⟩
theorem sgn_fin {w w1 w5 wd we : World} {s d : W} {n k : Nat} {cv pv a b c a' b' c' : Value} (h0 : w.heap.size + 3 ≤ w1.heap.size) (h5 : w1.heap.size ≤ w5.heap.size) (b5 : Below w.heap.size w w5) (p5 : OwnW w1.heap.size w5 pv (Kr.path s n k))
    (d1 : Below w5.heap.size w5 wd) (d2 : Below wd.heap.size wd we) (e2 : MyW wd.heap.size we cv (Kr.chains s k d)) (q : Rec3 we (w.heap.size + 1) a b c) (r : Rec3 we (w.heap.size + 1 + 1) a' b' c') :
    SgnFin w s n k d ((((((we.setCell ⟨w.heap.size + 1, 0, none⟩ (.int .i64 (k : Int))).setCell ⟨w.heap.size + 1, 1, none⟩ cv).setCell ⟨w.heap.size + 1, 2, none⟩ pv).setCell ⟨w.heap.size + 1 + 1, 0, none⟩ (.int .u64 (uv s))).setCell ⟨w.heap.size + 1 + 1, 1, none⟩ (.int .i64 (n : Int))).setCell ⟨w.heap.size + 1 + 1, 2, none⟩ (.int .i64 ((k : Int) + 1))) :=
  sgn_six (N := w.heap.size + 1) (M := w.heap.size + 1 + 1) ⟨by omega, by omega⟩ ⟨by omega, by omega⟩ (by omega) h5 b5 p5 d1 d2 e2 q r _ _ _ _ _ rfl
theorem Rec3.kept {w w' : World} {N : Nat} {a b c : Value} (h : Rec3 w N a b c) (hb : Below w.heap.size w w') : Rec3 w' N a b c := h.below hb h.1
theorem Rec3.keptFar {w w' : World} {N M : Nat} {a b c x y z : Value} (h : Rec3 w N a b c) (hn : M ≠ N) (hb : Below (((w.setCell ⟨M, 0, none⟩ x).setCell ⟨M, 1, none⟩ y).setCell ⟨M, 2, none⟩ z).heap.size (((w.setCell ⟨M, 0, none⟩ x).setCell ⟨M, 1, none⟩ y).setCell ⟨M, 2, none⟩ z) w') : Rec3 w' N a b c := (h.far3 hn x y z).kept hb
theorem Rec3.keptPut {w w' : World} {N : Nat} {a b c x y z : Value} (h : Rec3 w N a b c) (hb : Below (((w.setCell ⟨N, 0, none⟩ x).setCell ⟨N, 1, none⟩ y).setCell ⟨N, 2, none⟩ z).heap.size (((w.setCell ⟨N, 0, none⟩ x).setCell ⟨N, 1, none⟩ y).setCell ⟨N, 2, none⟩ z) w') : Rec3 w' N x y z := (h.put x y z).kept hb
theorem Rec3.keptFarD {w w' : World} {N M : Nat} {a b c x y z : Value} (h : Rec3 w.drew N a b c) (hn : M ≠ N) (hb : Below (((w.setCell ⟨M, 0, none⟩ x).setCell ⟨M, 1, none⟩ y).setCell ⟨M, 2, none⟩ z).drew.heap.size (((w.setCell ⟨M, 0, none⟩ x).setCell ⟨M, 1, none⟩ y).setCell ⟨M, 2, none⟩ z).drew w') : Rec3 w' N a b c := Rec3.kept (Rec3.drew (Rec3.far3 (w := w) h hn x y z)) hb
theorem Rec3.keptPutD {w w' : World} {N : Nat} {a b c x y z : Value} (h : Rec3 w.drew N a b c) (hb : Below (((w.setCell ⟨N, 0, none⟩ x).setCell ⟨N, 1, none⟩ y).setCell ⟨N, 2, none⟩ z).drew.heap.size (((w.setCell ⟨N, 0, none⟩ x).setCell ⟨N, 1, none⟩ y).setCell ⟨N, 2, none⟩ z).drew w') : Rec3 w' N x y z := Rec3.kept (Rec3.drew (Rec3.put (w := w) h x y z)) hb
theorem kset3D {w : World} {N M j : Nat} {v : Value} (h : w.drew.cell? ⟨N, j, none⟩ = some v) (hn : N ≠ M) (a b c : Value) : (((w.setCell ⟨M, 0, none⟩ a).setCell ⟨M, 1, none⟩ b).setCell ⟨M, 2, none⟩ c).drew.cell? ⟨N, j, none⟩ = some v := kset3 (w := w) h hn a b c
set_option maxHeartbeats 1000000 in
theorem ksign_good (s : W) (n k : Nat) (d : W) (w : World) (hk : k < n) (hn : n ≤ 64) :
    Calls Try.prog 9 #[ringV s n k, .int .u64 (uv d)] w fun e w' => ∃ cv pv, e = .returned (.tuple #[sigV k cv pv, ringV s n ((k + 1 : Nat) : Int), .int .i64 0]) ∧ HasW w' w'.heap.size cv (Kr.chains s k d) ∧ HasW w' w'.heap.size pv (Kr.path s n k) ∧ Below w.heap.size w w' := by
  unfold ringV
  have C0 := Lib.hid fun w' => kcount_yes (n : Int) w' ⟨by omega, by omega⟩
  have t3 : decide ((k : Int) < 0) = false := decide_eq_false (by omega)
  have t4 : decide (n ≤ k) = false := decide_eq_false (by omega)
  obtain ⟨w0, hw0⟩ : ∃ w0, w0 = ((w.alloc (.cells #[.int .u64 (uv s), .int .i64 (n : Int), .int .i64 (k : Int)] 25)).alloc (.cells #[.int .i64 0, .slice none 0 0, .slice none 0 0] 28)).alloc (.cells #[.int .u64 0, .int .i64 0, .int .i64 0] 25) := ⟨_, rfl⟩
  have r0 : Rec3 w0 w.heap.size (.int .u64 (uv s)) (.int .i64 (n : Int)) (.int .i64 (k : Int)) := by rw [hw0]; exact ⟨by simp; omega, ⟨by go_simp, by go_simp, by go_simp⟩, by go_simp, by go_simp, by go_simp⟩
  have s0 : w0.heap.size = w.heap.size + 3 := by rw [hw0]; simp
  have BW0 : Hid (Below w.heap.size w w0) := Lib.hid (by rw [hw0]; exact below_3 w _ _ _)
  have rs : Rec3 w0 (w.heap.size + 1) (.int .i64 0) (.slice none 0 0) (.slice none 0 0) := by rw [hw0]; exact ⟨by simp <;> omega, ⟨by go_simp, by go_simp, by go_simp⟩, by go_simp, by go_simp, by go_simp⟩
  have rr : Rec3 w0 (w.heap.size + 1 + 1) (.int .u64 0) (.int .i64 0) (.int .i64 0) := by rw [hw0]; exact ⟨by simp <;> omega, ⟨by go_simp, by go_simp, by go_simp⟩, by go_simp, by go_simp, by go_simp⟩
  have RS := Lib.hid rs; have RR := Lib.hid rr; clear rs rr
  have R0 := Lib.hid r0; have S0 := Lib.hid s0; have W0 := Lib.hid hw0
  clear r0 s0 hw0
  have HK := Lib.hid hk; have HN := Lib.hid hn
  clear hk hn
  go_enter Try.func9, Try.ntmps9
  go_wp2_with fail
  rw [← W0.out]
  refine (C0.out _).mono ?_; rintro e w' ⟨rfl, rfl⟩
  obtain ⟨xl, ⟨q0, q1, q2⟩, x4, x5, x6⟩ := R0.out
  clear xl x4 x5 x6
  go_wp2_with fail
  refine (kleaves_any s n HN.out _).mono ?_; rintro e w1 ⟨v1, rfl, o1, b1⟩
  have R1 := Lib.hid (R0.out.below b1 R0.out.1); have RS1 := Lib.hid (RS.out.below b1 RS.out.1); have RR1 := Lib.hid (RR.out.below b1 RR.out.1)
  have B1 := Lib.hid b1; have O1 := Lib.hid o1
  clear b1 o1 q0 q1 q2
  go_wp2_with fail
  refine (kpath_ring s n k HK.out HN.out v1 _ O1.out).mono ?_; rintro e w2 ⟨v2, rfl, o2, b2⟩
  obtain ⟨a2, n2, cap2, hv2⟩ : ∃ a m c, v2 = .slice a m c := (by obtain ⟨a, c, h⟩ := o2.has.form; exact ⟨a, _, c, h⟩)
  rw [hv2] at o2 ⊢; clear hv2
  have R2 := Lib.hid (R1.out.below b2 R1.out.1); have RS2 := Lib.hid (RS1.out.below b2 RS1.out.1); have RR2 := Lib.hid (RR1.out.below b2 RR1.out.1)
  have B2 := Lib.hid (B1.out.trans (b2.mono B1.out.size)); have O2 := Lib.hid o2
  have W1 := Lib.hid (show w.heap.size + 3 ≤ w1.heap.size by have := B1.out.size; have := S0.out; omega)
  have W2 := Lib.hid (show w1.heap.size ≤ w2.heap.size from b2.size)
  obtain ⟨xl, ⟨q0, q1, q2⟩, x4, x5, x6⟩ := R2.out
  have k64 : k ≤ 64 := by have := HK.out; have := HN.out; omega
  clear b2 o2 C0 R1 RS1 RR1
  go_wp2_with fail
  obtain ⟨w5, hw5⟩ : ∃ w5, w5 = w2.setCell ⟨w.heap.size, 2, none⟩ (.int .i64 ((k : Int) + 1)) := ⟨_, rfl⟩
  have l1 := W1.out; have l2 := W2.out
  have R5 : Rec3 w5.drew w.heap.size (.int .u64 (uv s)) (.int .i64 (n : Int)) (.int .i64 ((k : Int) + 1)) := by rw [hw5]; exact Rec3.third ⟨xl, ⟨q0, q1, q2⟩, x4, x5, x6⟩ _
  have RS5 : Hid (Rec3 w5.drew (w.heap.size + 1) (.int .i64 0) (.slice none 0 0) (.slice none 0 0)) := Lib.hid (by rw [hw5]; exact RS2.out.far _ (by simp) _)
  have RR5 : Hid (Rec3 w5.drew (w.heap.size + 1 + 1) (.int .u64 0) (.int .i64 0) (.int .i64 0)) := Lib.hid (by rw [hw5]; exact RR2.out.far _ (by simp; omega) _)
  have P5 : Hid (OwnW w1.heap.size w5.drew (.slice a2 n2 cap2) (Kr.path s n k)) := Lib.hid (by rw [hw5]; exact OwnW.far O2.out _ (by simp; omega) _)
  have B5 : Hid (Below w.heap.size w w5.drew) := Lib.hid (by rw [hw5]; exact (Below.setCell (Below.trans BW0.out (B2.out.mono (by have := S0.out; omega))) (Nat.le_refl _) _).drew)
  have S5 : Hid (w1.heap.size ≤ w5.drew.heap.size) := Lib.hid (by rw [hw5]; simpa using l2)
  rw [← hw5]
  clear hw5 xl q0 q1 q2 x4 x5 x6 l1 l2 R2 RS2 RR2 B2 O2 W2
  have NN := Lib.hid R5
  clear k64 t3 t4
  obtain ⟨-, ⟨g0, g1, g2⟩, -⟩ := R5
  obtain ⟨-, ⟨c0, c1, c3⟩, c4, c5, c6⟩ := RS5.out
  obtain ⟨-, ⟨d0, d1, d3⟩, d4, d5, d6⟩ := RR5.out
  have C1 := Lib.hid fun w' => kseed_to s k w'
  have C2 := Lib.hid fun w' => sign_any (Kr.seed s (Ot.num k)) d w'
  have NN5 := Lib.hid (show w.heap.size + 1 + 1 ≠ w.heap.size by omega)
  have NN4 := Lib.hid (show w.heap.size + 1 + 1 ≠ w.heap.size + 1 by omega)
  go_cut [6] (fun s6 wx => s6 = .int .i64 0 ∧ SgnFin w s n k d wx)
  case rest =>
    obtain ⟨rfl, cv, pv, r6, r7, hc, hp, hb⟩ := hcut
    have l6 := load_sig _ _ (k : Int) _ _ r6.2.1.1 r6.2.1.2.1 r6.2.1.2.2
    have l7 := load_ring _ _ s (n : Int) ((k : Int) + 1) r7.2.1.1 r7.2.1.2.1 r7.2.1.2.2
    have HC := Lib.hid hc; have HP := Lib.hid hp; have HB := Lib.hid hb
    clear r6 r7 hc hp hb
    go_wp2_with fail
    exact bodyPost_ret (results_cct rfl _ _ ⟨w.heap.size + 1, 0, none⟩ ⟨w.heap.size + 1 + 1, 0, none⟩ rfl rfl l6 l7) rfl ⟨_, _, rfl, HC.out, HP.out, HB.out⟩
  go_region_with
    (first
      | (go_at_call 14; refine (C1.out _).mono ?_; rintro e wd ⟨rfl, b1⟩; have D1 := Lib.hid b1;
         (first
         | (have r1 : Rec3 wd w.heap.size _ _ _ := (by with_reducible exact Rec3.kept NN.out b1); have q1 : Rec3 wd (w.heap.size + 1) _ _ _ := (by with_reducible exact Rec3.kept RS5.out b1); have p1 : Rec3 wd (w.heap.size + 1 + 1) _ _ _ := (by with_reducible exact Rec3.kept RR5.out b1))
         | (have r1 : Rec3 wd w.heap.size _ _ _ := (by with_reducible exact Rec3.keptFarD NN.out NN5.out b1); have q1 : Rec3 wd (w.heap.size + 1) _ _ _ := (by with_reducible exact Rec3.keptFarD RS5.out NN4.out b1); have p1 : Rec3 wd (w.heap.size + 1 + 1) _ _ _ := (by with_reducible exact Rec3.keptPutD RR5.out b1))
         | (trace_state; fail));
         have R1 := Lib.hid r1; have Q1 := Lib.hid q1; have P1 := Lib.hid p1; clear b1 r1 q1 p1;
         obtain ⟨-, ⟨z0, z1, z2⟩, -⟩ := R1.out; obtain ⟨-, ⟨m0, m1, m3⟩, m4, m5, m6⟩ := Q1.out; obtain ⟨-, ⟨l0, l1, l3⟩, l4, l5, l6⟩ := P1.out)
      | (go_at_call 23; refine (C2.out _).mono ?_; rintro e we ⟨v2, rfl, o2, b2⟩; obtain ⟨a3, n3, cap3, hv2⟩ : ∃ a m c, v2 = .slice a m c := (by obtain ⟨a, c, h⟩ := o2.has.form; exact ⟨a, _, c, h⟩); rw [hv2] at o2 ⊢; clear hv2; have D2 := Lib.hid b2; have E2 := Lib.hid o2;
         (first
         | (have r2 : Rec3 we w.heap.size _ _ _ := (by with_reducible exact Rec3.kept R1.out b2); have q2 : Rec3 we (w.heap.size + 1) _ _ _ := (by with_reducible exact Rec3.kept Q1.out b2); have p2 : Rec3 we (w.heap.size + 1 + 1) _ _ _ := (by with_reducible exact Rec3.kept P1.out b2))
         | (have r2 : Rec3 we w.heap.size _ _ _ := (by with_reducible exact Rec3.keptFar R1.out NN5.out b2); have q2 : Rec3 we (w.heap.size + 1) _ _ _ := (by with_reducible exact Rec3.keptFar Q1.out NN4.out b2); have p2 : Rec3 we (w.heap.size + 1 + 1) _ _ _ := (by with_reducible exact Rec3.keptPut P1.out b2))
         | (trace_state; fail));
         have R2 := Lib.hid r2; have Q2 := Lib.hid q2; have P2 := Lib.hid p2; clear b2 o2 r2 q2 p2 z0 z1 z2 m0 m1 m3 m4 m5 m6 l0 l1 l3 l4 l5 l6 c0 c1 c3 c4 c5 c6 d0 d1 d3 d4 d5 d6;
         obtain ⟨-, ⟨y0, y1, y2⟩, -⟩ := R2.out; obtain ⟨-, ⟨i0, i1, i3⟩, i4, i5, i6⟩ := Q2.out; obtain ⟨-, ⟨j0, j1, j3⟩, j4, j5, j6⟩ := P2.out))
  all_goals (go_wp2_with fail; go_meet; exact ⟨rfl, sgn_fin W1.out S5.out B5.out P5.out D1.out D2.out E2.out Q2.out P2.out⟩)
end Go.Proofs.Ythkkjocmglcjnaa
