/-
  The contracts of package keyring in the forms that the laws' walks come to; and that the sanity check of layer 7 returns true and nothing that was there has changed. No condition.
-/
import Derived.Test.YthkkjocmglcjnaaRingSgn
import Derived.Test.YthkkjocmglcjnaaRingVer
namespace Go.Proofs.Ythkkjocmglcjnaa
open Go.ChangeShapes Go.WideShapes Go.ChangeAt Go.RowKit
open Dg (W B)
/-- a signature that a ring has made -/
def Signed (s : W) (n k : Nat) (d : W) (w : World) (e : Ending) (w' : World) : Prop :=
  ∃ a1 c1 a2 c2 m, e = .returned (.tuple #[.agg #[.int .i64 (k : Int), .slice a1 18 c1, .slice a2 m c2], .agg #[.int .u64 (uv s), .int .i64 (n : Int), .int .i64 ((k : Int) + 1)], .int .i64 0]) ∧ Hid (m = (Kr.path s n k).length) ∧ HasW w' w'.heap.size (.slice a1 18 c1) (Kr.chains s k d) ∧ HasW w' w'.heap.size (.slice a2 m c2) (Kr.path s n k) ∧ Below w.heap.size w w'
theorem ksign_to (s : W) (n k : Nat) (d : W) (x N K y : Int) (hx : x = uv s) (hN : N = n) (hK : K = k) (hy : y = uv d) (hk : k < n) (hn : n ≤ 64) (w : World) :
    Calls Try.prog 9 #[.agg #[.int .u64 x, .int .i64 N, .int .i64 K], .int .u64 y] w (Signed s n k d w) := by
  subst hx; subst hN; subst hK; subst hy
  refine (ksign_good s n k d w hk hn).mono ?_
  rintro e w' ⟨cv, pv, rfl, hc, hp, hb⟩
  obtain ⟨a1, c1, rfl⟩ := hc.form
  obtain ⟨a2, c2, rfl⟩ := hp.form
  rw [Kr.chains_len] at hc
  exact ⟨a1, c1, a2, c2, _, by rw [Kr.chains_len]; rfl, Lib.hid rfl, hc, hp, hb⟩
def Nothing (x N K c : Int) (w : World) (e : Ending) (w' : World) : Prop := e = .returned (.tuple #[.agg #[.int .i64 0, .slice none 0 0, .slice none 0 0], .agg #[.int .u64 x, .int .i64 N, .int .i64 K], .int .i64 c]) ∧ Below w.heap.size w w'
theorem ksign_end (s : W) (N K : Int) (d : W) (x y : Int) (hx : x = uv s) (hy : y = uv d) (h : 1 ≤ N ∧ N ≤ 64 ∧ N ≤ K) (w : World) :
    Calls Try.prog 9 #[.agg #[.int .u64 x, .int .i64 N, .int .i64 K], .int .u64 y] w (Nothing x N K 10 w) := by
  subst hx; subst hy
  exact ksign_used s N K d w h
theorem kroot_to (s : W) (n : Nat) (x N : Int) (hx : x = uv s) (hN : N = n) (h1 : 1 ≤ n) (hn : n ≤ 64) (w : World) :
    Calls Try.prog 12 #[.int .u64 x, .int .i64 N] w fun e w' => e = .returned (.tuple #[.int .u64 (uv (Kr.root s n)), .int .i64 0]) ∧ Below w.heap.size w w' := by
  subst hx; subst hN
  refine (kroot_any s n w).mono ?_
  rintro e w' ⟨rfl, hb⟩
  have h : 1 ≤ (n : Int) ∧ (n : Int) ≤ 64 := by omega
  rw [if_pos h, if_pos h, Int.toNat_natCast]
  exact ⟨rfl, hb⟩
theorem kverify_to (r : W) (n : Int) (d : W) (key : Int) (c p : List W) (cv pv : Value) (y : Int) (hy : y = uv d) (b : Bool) (w : World) (hc : HasW w w.heap.size cv c) (hp : HasW w w.heap.size pv p) (hb : verB r n d key c p = b) :
    Calls Try.prog 16 #[.int .u64 (uv r), .int .i64 n, .int .u64 y, .agg #[.int .i64 key, cv, pv]] w fun e w' => e = .returned (.bool b) ∧ Below w.heap.size w w' := by
  subst hy; subst hb; exact kverify_any r n d key c p cv pv w hc hp
theorem checkB_eq (r : W) (n k : Nat) (x : W) (p : List W) (hk : k < n) (hn : n ≤ 64) (hp : p.length = Mt.depth n k) : checkB r n k x p = decide (Mt.up n k x p = r) := by
  unfold checkB depthI
  rw [if_pos (by omega)]
  simp only [Int.toNat_natCast]
  by_cases h : Mt.up n k x p = r
  · rw [decide_eq_true h, decide_eq_true ⟨by rw [hp], h⟩]
  · rw [decide_eq_false h, decide_eq_false (fun g => h g.2)]
/-- what Verify says of chains and a path that are long enough -/
theorem verB_eq (r : W) (n k : Nat) (d : W) (c p : List W) (hk : k < n) (hn : n ≤ 64) (hc : c.length = 18) (hp : p.length = Mt.depth n k) : verB r n d k c p = decide (Kr.top n k d c p = r) := by
  unfold verB
  rw [if_pos (by omega), Int.toNat_natCast, checkB_eq r n k _ p hk hn hp]
  rfl
theorem verB_signed (s : W) (n k : Nat) (d : W) (hk : k < n) (hn : n ≤ 64) : verB (Kr.root s n) n d k (Kr.chains s k d) (Kr.path s n k) = true := by
  rw [verB_eq _ n k d _ _ hk hn (Kr.chains_len _ _ _) (Kr.path_len _ _ _), decide_eq_true (Kr.top_sign s n k d hk)]
theorem verB_other : verB (Kr.root 3#64 2) 2 8#64 0 (Kr.chains 3#64 0 9#64) (Kr.path 3#64 2 0) = false := by
  have := verB_eq (Kr.root 3#64 2) 2 0 8#64 (Kr.chains 3#64 0 9#64) (Kr.path 3#64 2 0) (by decide) (by decide) (Kr.chains_len _ _ _) (Kr.path_len _ _ _)
  rw [show ((2 : Nat) : Int) = 2 from rfl, show ((0 : Nat) : Int) = 0 from rfl] at this
  rw [this, decide_eq_false Kr.top_other]
set_option maxHeartbeats 1000000 in
theorem awake_any (w : World) :
    Calls Try.prog 7 #[] w fun e w' => e = .returned (.bool true) ∧ Below w.heap.size w w' := by
  have V1 := Lib.hid (verB_signed 3#64 2 0 9#64 (by decide) (by decide))
  have V2 := Lib.hid verB_other
  obtain ⟨r, hr⟩ : ∃ r, r = Kr.root 3#64 2 := ⟨_, rfl⟩
  rw [← hr] at V1 V2
  have HR := Lib.hid hr; clear hr
  go_enter Try.func7, Try.ntmps7
  go_wp2_with fail
  refine (kroot_to 3#64 2 _ _ (by decide) rfl (by decide) (by decide) _).mono ?_; rintro e w1 ⟨rfl, b1⟩
  rw [← HR.out]
  have B1 := Lib.hid b1; clear b1
  go_wp2_with fail
  refine (ksign_to 3#64 2 0 9#64 _ _ _ _ (by decide) rfl rfl (by decide) (by decide) (by decide) _).mono ?_; rintro e w2 ⟨a1, c1, a2, c2, m, rfl, hm, o1, o2, b2⟩
  have B2 := Lib.hid (B1.out.trans (b2.mono B1.out.size)); clear b2
  have O1 := Lib.hid o1; have O2 := Lib.hid o2; clear o1 o2
  go_wp2_with fail
  obtain ⟨wa, hwa⟩ : ∃ wa, wa = (w2.alloc (.cells #[.int .i64 0, .slice a1 18 c1, .slice a2 m c2] 28)).alloc (.cells #[.int .u64 (uv 3#64), .int .i64 2, .int .i64 1] 25) := ⟨_, rfl⟩
  have SA : Rec3 wa w2.heap.size (.int .i64 0) (.slice a1 18 c1) (.slice a2 m c2) := by rw [hwa]; exact (Rec3.new w2 _ _ _ _).below ((Below.refl _ _).alloc (Nat.le_refl _) _) (by simp)
  have RA : Rec3 wa (w2.heap.size + 1) (.int .u64 (uv 3#64)) (.int .i64 2) (.int .i64 1) := by
    have := Rec3.new (w2.alloc (.cells #[.int .i64 0, .slice a1 18 c1, .slice a2 m c2] 28)) (.int .u64 (uv 3#64)) (.int .i64 2) (.int .i64 1) 25
    rw [hwa]; simpa using this
  have BA : Below w.heap.size w wa := by rw [hwa]; exact (B2.out.alloc B2.out.size _).alloc (by have := B2.out.size; simp; omega) _
  have ZA : wa.heap.size = w2.heap.size + 2 := by rw [hwa]; simp
  have OA1 : HasW wa w2.heap.size (.slice a1 18 c1) (Kr.chains 3#64 0 9#64) := by rw [hwa]; exact O1.out.below (((Below.refl w2.heap.size _).alloc (Nat.le_refl _) _).alloc (by simp) _) (Nat.le_refl _)
  have OA2 : HasW wa w2.heap.size (.slice a2 m c2) (Kr.path 3#64 2 0) := by rw [hwa]; exact O2.out.below (((Below.refl w2.heap.size _).alloc (Nat.le_refl _) _).alloc (by simp) _) (Nat.le_refl _)
  rw [← hwa]
  have HSA := Lib.hid SA; have HRA := Lib.hid RA; have HBA := Lib.hid BA; have HZA := Lib.hid ZA; have HO1 := Lib.hid OA1; have HO2 := Lib.hid OA2
  clear hwa SA RA BA ZA OA1 OA2
  refine (ksign_to 3#64 2 1 9#64 _ _ _ _ (by decide) rfl rfl (by decide) (by decide) (by decide) _).mono ?_; rintro e w3 ⟨a3, c3, a4, c4, m3, rfl, hm3, o3, o4, b3⟩
  obtain ⟨l1, ⟨p1, p2, p3⟩, f1, f2, f3⟩ := HRA.out.below b3 (by rw [HZA.out]; omega)
  have B3 := Lib.hid b3
  have q1 : w2.heap.size + 1 < w3.heap.size := l1
  clear o3 o4 b3 l1 hm3
  go_wp2_with fail
  obtain ⟨wb, hwb⟩ : ∃ wb, wb = (((w3.setCell ⟨w2.heap.size + 1, 0, none⟩ (.int .u64 (uv 3#64))).setCell ⟨w2.heap.size + 1, 1, none⟩ (.int .i64 2)).setCell ⟨w2.heap.size + 1, 2, none⟩ (.int .i64 2)).alloc (.cells #[.int .i64 1, .slice a3 18 c3, .slice a4 m3 c4] 28) := ⟨_, rfl⟩
  have BB : Below (w2.heap.size + 1) wa wb := by
    rw [hwb]
    exact ((((Below.mono (B' := w2.heap.size + 1) B3.out (by rw [HZA.out]; omega)).setCell (p := ⟨w2.heap.size + 1, 0, none⟩) (Nat.le_refl _) _).setCell (p := ⟨w2.heap.size + 1, 1, none⟩) (Nat.le_refl _) _).setCell (p := ⟨w2.heap.size + 1, 2, none⟩) (Nat.le_refl _) _).alloc (by simpa using Nat.le_of_lt q1) _
  have RB : Rec3 wb (w2.heap.size + 1) (.int .u64 (uv 3#64)) (.int .i64 2) (.int .i64 2) := by
    rw [hwb]
    exact (Rec3.put ⟨q1, ⟨p1, p2, p3⟩, f1, f2, f3⟩ (.int .u64 (uv 3#64)) (.int .i64 2) (.int .i64 2)).below ((Below.refl _ _).alloc (Nat.le_refl _) _) (by simpa using q1)
  have ZB : w2.heap.size + 2 ≤ wb.heap.size := by rw [hwb]; simp; omega
  have SB : Rec3 wb w2.heap.size (.int .i64 0) (.slice a1 18 c1) (.slice a2 m c2) := HSA.out.below BB (by omega)
  rw [← hwb]
  have HRB := Lib.hid RB; have HSB := Lib.hid SB; have HBB := Lib.hid BB; have HZB := Lib.hid ZB
  clear hwb RB SB BB ZB p1 p2 p3 f1 f2 f3 q1
  refine (ksign_end 3#64 2 2 9#64 _ _ rfl (by decide) (by decide) _).mono ?_; rintro e w4 ⟨rfl, b4⟩
  have hz := HZB.out
  obtain ⟨l1, ⟨p1, p2, p3⟩, -⟩ := HRB.out.below b4 (by omega)
  obtain ⟨l2, ⟨x1, x2, x3⟩, -⟩ := HSB.out.below b4 (by omega)
  have B4 := Lib.hid ((HBB.out.trans (b4.mono (by omega))))
  clear b4 hz
  go_wp2_with fail
  obtain ⟨w5, hw5⟩ : ∃ w5, w5 = (w4.alloc (.cells #[.int .i64 0, .slice none 0 0, .slice none 0 0] 28)).alloc (.cells #[.int .u64 (uv 3#64), .int .i64 2, .int .i64 2] 25) := ⟨_, rfl⟩
  have b5 : Below w4.heap.size w4 w5 := by rw [hw5]; exact ((Below.refl _ _).alloc (Nat.le_refl _) _).alloc (by simp) _
  rw [← hw5]
  clear hw5
  have hz := HZB.out
  have d5 : Below (w2.heap.size + 1) wa w5 := B4.out.trans (b5.mono (by omega))
  have B5 := Lib.hid (HBA.out.trans (d5.mono (by have := B2.out.size; omega)))
  have H1 : HasW w5 w5.heap.size (.slice a1 18 c1) (Kr.chains 3#64 0 9#64) := (HO1.out.below d5 (by omega)).wide (by have := b5.size; omega)
  have H2 : HasW w5 w5.heap.size (.slice a2 m c2) (Kr.path 3#64 2 0) := (HO2.out.below d5 (by omega)).wide (by have := b5.size; omega)
  have y1 := kept b5 x1; have y2 := kept b5 x2; have y3 := kept b5 x3
  have K1 := Lib.hid H1; have K2 := Lib.hid H2
  clear d5 b5 hz H1 H2 x1 x2 x3 p1 p2 p3 l1
  refine (kverify_to r 2 9#64 0 _ _ _ _ _ (by decide) true _ K1.out K2.out V1.out).mono ?_; rintro e w6 ⟨rfl, b6⟩
  have x1 := kept b6 y1; have x2 := kept b6 y2; have x3 := kept b6 y3
  have B6 := Lib.hid (B5.out.trans (b6.mono B5.out.size))
  have M1 := Lib.hid ((K1.out.below b6 (Nat.le_refl _)).wide b6.size); have M2 := Lib.hid ((K2.out.below b6 (Nat.le_refl _)).wide b6.size)
  clear b6
  go_wp2_with fail
  refine (kverify_to r 2 8#64 0 _ _ _ _ _ (by decide) false _ M1.out M2.out V2.out).mono ?_; rintro e w7 ⟨rfl, b7⟩
  have B7 := Lib.hid (B6.out.trans (b7.mono B6.out.size)); clear b7
  go_wp2_with fail
  go_ret
  exact ⟨rfl, B7.out⟩
end Go.Proofs.Ythkkjocmglcjnaa
