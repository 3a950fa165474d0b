/-
  The walk of KeyringSigns: it returns true. No condition.
-/
import Derived.Test.YthkkjocmglcjnaaKAwake
import Derived.Test.YthkkjocmglcjnaaFlip
namespace Go.Proofs.Ythkkjocmglcjnaa.keyringSigns
open Go.ChangeShapes Go.WideShapes Go.ChangeAt Go.RowKit
open Dg (W B)
def SRel (s : W) (n N : Nat) (w : World) (i : Value) (wr : World) : Prop := ∃ k : Nat, k ≤ n ∧ i = .int .i64 (k : Int) ∧ Rec3 wr N (.int .u64 (uv s)) (.int .i64 (n : Int)) (.int .i64 (k : Int)) ∧ Below w.heap.size w wr
set_option maxRecDepth 100000 in
set_option maxHeartbeats 1000000 in
theorem walk (w : World) (a0 : Int) (w0 : (Lit.int .u64 a0).wf = true) (a1 : Int) (w1 : (Lit.int .i64 a1).wf = true) (v2 : Value) (l : List W) (_ : l.length ≤ maxLen) (h2 : HasW w w.heap.size v2 l) :
    Calls Try.prog 4 #[.int .u64 a0, .int .i64 a1, v2] w fun e w' => e = .returned (.bool true) ∧ Below w.heap.size w w' := by
  obtain ⟨s, rfl⟩ := uv_of_wf a0 w0
  obtain ⟨q, hq, hq2⟩ := mod_nat a1 4 (by omega)
  obtain ⟨n, hn⟩ : ∃ n : Nat, n = q + 1 := ⟨_, rfl⟩
  have HQ := Lib.hid hq; clear hq
  obtain ⟨lp, cap, rfl⟩ := h2.form
  obtain ⟨m, hm⟩ : ∃ m, m = l.length := ⟨_, rfl⟩
  rw [← hm] at h2 ⊢
  have HM := Lib.hid hm; have H2 := Lib.hid h2
  have hsum : (1 : Int) + (q : Int) = (n : Int) := by omega
  have hn1 : 1 ≤ n := by omega
  have hn4 : n ≤ 4 := by omega
  have HN := Lib.hid (And.intro hn1 hn4)
  clear hm h2 hn
  go_enter Try.func4, Try.ntmps4
  go_wp2_with fail
  refine (mod_to _ _ q HQ.out _ w1 (by omega) (by omega)).mono ?_; rintro e w' ⟨rfl, rfl⟩
  go_wp2_with fail
  refine (kroot_to s n _ _ rfl rfl HN.out.1 (by have := HN.out.2; omega) _).mono ?_; rintro e w1 ⟨rfl, b1⟩
  obtain ⟨r, hr⟩ : ∃ r, r = Kr.root s n := ⟨_, rfl⟩
  rw [← hr]
  have HR := Lib.hid hr
  have B1 := Lib.hid b1
  have r1 := Rec3.new w1 (.int .u64 (uv s)) (.int .i64 (n : Int)) (.int .i64 0) 25
  have R1 := Lib.hid r1
  have BB := Lib.hid (b1.alloc b1.size (.cells #[.int .u64 (uv s), .int .i64 (n : Int), .int .i64 0] 25))
  clear b1 r1 hr
  go_wp2
  go_loopw [34] (SRel s n w1.heap.size w) (fun i _ => n - (intOf i).toNat)
  case atStart => exact ⟨0, by omega, rfl, R1.out, BB.out⟩
  case round =>
    obtain ⟨k, hk, rfl, hr, hb⟩ := hrel
    have HR3 := Lib.hid hr; have HB := Lib.hid hb
    obtain ⟨y0, ⟨y1, y2, y3⟩, -⟩ := hr
    clear hb
    by_cases hlt : k < n
    · have t1 : (k : Int) < (n : Int) := by omega
      have hz0 : IntKind.u64.wrap (k : Int) = uv (Ot.num k) := by rw [← ofI_num]; exact wrap_word _
      have hd : ∃ d : W, (k < m ∧ ∃ b off, lp = some ⟨b, off, none⟩ ∧ wr.cell? ⟨b, off + k, none⟩ = some (.int .u64 (uv d))) ∨ (¬ k < m ∧ IntKind.u64.wrap (k : Int) = uv d) := by
        by_cases h : k < m
        · refine ⟨l.getD k 0, .inl ⟨h, ?_⟩⟩
          obtain ⟨b', off', e, c⟩ := leaves_cell (H2.out.below HB.out (Nat.le_refl _)) k (by have := HM.out; omega)
          exact ⟨b', off', e, c⟩
        · exact ⟨Ot.num k, .inr ⟨h, hz0⟩⟩
      obtain ⟨d, hd⟩ := hd
      clear hz0
      have hkn := hlt
      have VK := Lib.hid (verB_signed s n k d hlt (by have := HN.out.2; omega))
      rw [← HR.out] at VK
      have HB2 := HB
      rcases hd with ⟨c1, b', off', rfl, c2⟩ | ⟨c1, c2⟩
      all_goals
        go_wp2_with fail
        clear c1 c2
        refine (ksign_to s n k d _ _ _ _ rfl rfl rfl rfl hkn (by have := HN.out.2; omega) _).mono ?_; rintro e w2 ⟨p1, q1, p2, q2, m2, rfl, hm2, o1, o2, b2⟩
        obtain ⟨w3, hw3⟩ : ∃ w3, w3 = (w2.alloc (.cells #[.int .i64 (k : Int), .slice p1 18 q1, .slice p2 m2 q2] 28)).alloc (.cells #[.int .u64 (uv s), .int .i64 (n : Int), .int .i64 ((k : Int) + 1)] 25) := ⟨_, rfl⟩
        have sa : Rec3 w3 w2.heap.size (.int .i64 (k : Int)) (.slice p1 18 q1) (.slice p2 m2 q2) := by rw [hw3]; exact (Rec3.new w2 _ _ _ _).below ((Below.refl _ _).alloc (Nat.le_refl _) _) (by simp)
        have ra : Rec3 w3 (w2.heap.size + 1) (.int .u64 (uv s)) (.int .i64 (n : Int)) (.int .i64 ((k : Int) + 1)) := by
          have := Rec3.new (w2.alloc (.cells #[.int .i64 (k : Int), .slice p1 18 q1, .slice p2 m2 q2] 28)) (.int .u64 (uv s)) (.int .i64 (n : Int)) (.int .i64 ((k : Int) + 1)) 25
          rw [hw3]; simpa using this
        have b23 : Below w2.heap.size w2 w3 := by rw [hw3]; exact ((Below.refl _ _).alloc (Nat.le_refl _) _).alloc (by simp) _
        have HW2 := Lib.hid b2.size
        have B3 := Lib.hid ((b2.trans (b23.mono b2.size)))
        have O1 := Lib.hid ((o1.below b23 (Nat.le_refl _)).wide b23.size)
        have O2 := Lib.hid ((o2.below b23 (Nat.le_refl _)).wide b23.size)
        have SA := Lib.hid sa; have RA := Lib.hid ra; have W3 := Lib.hid hw3
        clear o1 o2 b2 b23 sa ra hw3
        go_wp2_with fail
        rw [← W3.out]
        refine (kverify_to r n d k _ _ _ _ _ rfl true _ O1.out O2.out VK.out).mono ?_; rintro e w4 ⟨rfl, b4⟩
        have lt3 := B3.out.size
        have hz3 : w3.heap.size = w2.heap.size + 2 := by rw [W3.out]; simp
        have lt2 : wr.heap.size ≤ w2.heap.size := HW2.out
        have D4 := Lib.hid (B3.out.trans (b4.mono lt3))
        obtain ⟨-, ⟨e1, e2, e3⟩, -⟩ := RA.out.below b4 (by omega)
        obtain ⟨l1, ⟨g1, g2, g3⟩, g4, g5, g6⟩ := HR3.out.below D4.out y0
        have PUT := Lib.hid (Rec3.put ⟨l1, ⟨g1, g2, g3⟩, g4, g5, g6⟩ (.int .u64 (uv s)) (.int .i64 (n : Int)) (.int .i64 ((k : Int) + 1)))
        have BEL := Lib.hid ((((HB.out.trans (D4.out.mono HB.out.size)).setCell (p := ⟨w1.heap.size, 0, none⟩) B1.out.size (.int .u64 (uv s))).setCell (p := ⟨w1.heap.size, 1, none⟩) B1.out.size (.int .i64 (n : Int))).setCell (p := ⟨w1.heap.size, 2, none⟩) B1.out.size (.int .i64 ((k : Int) + 1)))
        clear b4 lt3 hz3 lt2 l1
        go_wp2_with fail
        go_roundw
        case rel => exact ⟨k + 1, by omega, by go_num, PUT.out, BEL.out⟩
        case measure => simp [intOf]; omega
    · obtain rfl : k = n := by omega
      go_wp2_with fail
      refine (ksign_end s k k 1#64 _ _ rfl (by decide) (by have := HN.out; omega) _).mono ?_; rintro e w2 ⟨rfl, b2⟩
      have g1 := kept b2 y1; have g2 := kept b2 y2; have g3 := kept b2 y3
      have B2 := Lib.hid (HB.out.trans (b2.mono HB.out.size))
      have b0 : w1.heap.size < w2.heap.size := Nat.lt_of_lt_of_le y0 b2.size
      have AW := Lib.hid (awake_any ((w2.alloc (.cells #[.int .i64 0, .slice none 0 0, .slice none 0 0] 28)).alloc (.cells #[.int .u64 (uv s), .int .i64 (k : Int), .int .i64 (k : Int)] 25)))
      clear b2 y1 y2 y3
      go_wp2_with fail
      refine (AW.out).mono ?_; rintro e w3 ⟨rfl, b3⟩
      have B3 := Lib.hid ((((B2.out.alloc B2.out.size (.cells #[.int .i64 0, .slice none 0 0, .slice none 0 0] 28)).alloc (by have := B2.out.size; simp; omega) (.cells #[.int .u64 (uv s), .int .i64 (k : Int), .int .i64 (k : Int)] 25)).trans (b3.mono (by have := B2.out.size; simp; omega))))
      clear b3
      go_wp2_with fail
      go_ret
      exact ⟨rfl, B3.out⟩
end Go.Proofs.Ythkkjocmglcjnaa.keyringSigns
