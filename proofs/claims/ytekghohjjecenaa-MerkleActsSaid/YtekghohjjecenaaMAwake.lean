/-
  What Leaf of package merkle and of the chapter return: the pair of the index and the digest of the data; and that the sanity check of layer 5 returns true and nothing that was there has changed. Condition: the data are shorter than 2^62.
-/
import Derived.Test.YtekghohjjecenaaPath
import Derived.Test.YtekghohjjecenaaSame
import Derived.Test.YtekghohjjecenaaCheck
namespace Go.Proofs.Ytekghohjjecenaa
open Go.ChangeShapes Go.WideShapes Go.ChangeAt Go.RowKit
open Dg (W B pairW)

theorem wrap_word (i : Int) : IntKind.u64.wrap i = uv (BitVec.ofInt 64 i) := by
  unfold uv
  rw [BitVec.toNat_ofInt, IntKind.wrap_u64]
  omega
def leafW (i : Int) (l : List B) : W := pairW (BitVec.ofInt 64 i) (Dg.ofB l)
theorem pair_to (a b : W) (n : Int) (h : n = uv a) (w : World) :
    Calls Try.prog 25 #[.int .u64 n, .int .u64 (uv b)] w fun e w' => e = .returned (.int .u64 (uv (Dg.pairW a b))) ∧ w = w' := by
  subst h; exact pair_any a b w
theorem rpair_to (a b : W) (n m : Int) (h : n = uv a) (h2 : m = uv b) (w : World) :
    Calls Try.prog 22 #[.int .u64 n, .int .u64 m] w fun e w' => e = .returned (.int .u64 (uv (Dg.pairW a b))) ∧ w = w' := by
  subst h; subst h2; exact rpair_any a b w
theorem leaf_any (i : Int) (l : List B) (N : Nat) (v : Value) (w : World) (hl : l.length ≤ 4611686018427387904) (h : HasB w N v l) :
    Calls Try.prog 14 #[.int .i64 i, v] w fun e w' => e = .returned (.int .u64 (uv (leafW i l))) ∧ w = w' := by
  have H := Lib.hid h; clear h
  have q := wrap_word i
  go_enter Try.func14, Try.ntmps14
  go_wp2_with fail
  refine (of_any l N _ _ hl H.out).mono ?_; rintro e w' ⟨rfl, rfl⟩
  go_wp2_with fail
  refine (pair_any (BitVec.ofInt 64 i) _ _).mono ?_; rintro e w' ⟨rfl, rfl⟩
  go_wp2_with fail
  go_ret
  exact ⟨rfl, rfl⟩
theorem rleaf_any (i : Int) (l : List B) (N : Nat) (v : Value) (w : World) (hl : l.length ≤ 4611686018427387904) (h : HasB w N v l) :
    Calls Try.prog 15 #[.int .i64 i, v] w fun e w' => e = .returned (.int .u64 (uv (leafW i l))) ∧ w = w' := by
  have H := Lib.hid h; clear h
  have q := wrap_word i
  go_enter Try.func15, Try.ntmps15
  go_wp2_with fail
  refine (rof_any l N _ _ hl H.out).mono ?_; rintro e w' ⟨rfl, rfl⟩
  go_wp2_with fail
  refine (rpair_any (BitVec.ofInt 64 i) _ _).mono ?_; rintro e w' ⟨rfl, rfl⟩
  go_wp2_with fail
  go_ret
  exact ⟨rfl, rfl⟩
/-! ### slices that stay -/
theorem HasW.below {w w' : World} {N M : Nat} {v : Value} {l : List W} (h : HasW w N v l) (hb : Below M w w') (hm : N ≤ M) : HasW w' N v l := by
  rcases h with ⟨a, cap, rfl, rfl⟩ | ⟨b, off, cap, rfl, h2, h3, h4⟩
  · exact .inl ⟨a, cap, rfl, rfl⟩
  · refine .inr ⟨b, off, cap, rfl, h2, h3, fun i hi => ?_⟩
    rw [hb.cell (p := ⟨b, off + i, none⟩) (Nat.lt_of_lt_of_le h3 hm)]; exact h4 i hi
theorem HasW.wide {w : World} {N M : Nat} {v : Value} {l : List W} (h : HasW w N v l) (hm : N ≤ M) : HasW w M v l := by
  rcases h with ⟨a, cap, rfl, rfl⟩ | ⟨b, off, cap, rfl, h2, h3, h4⟩
  · exact .inl ⟨a, cap, rfl, rfl⟩
  · exact .inr ⟨b, off, cap, rfl, h2, Nat.lt_of_lt_of_le h3 hm, h4⟩
theorem OwnW.has {base : Nat} {w : World} {v : Value} {l : List W} (h : OwnW base w v l) : HasW w w.heap.size v l := by
  rcases h.2 with ⟨rfl, h0⟩ | ⟨g, cap, cur, rfl, h1, h2, h3, h4, h5, h6⟩
  · exact .inl ⟨none, 0, rfl, List.length_eq_zero_iff.1 h0⟩
  · refine .inr ⟨g, 0, cap, rfl, h3, (Array.getElem?_eq_some_iff.1 h2).1, fun i hi => ?_⟩
    rw [Nat.zero_add, cell_of_row w g i _ _ _ h2]
    have e := congrArg (fun L : List Value => L[i]?) h6
    simp only [Nat.mul_one, List.getElem?_take, if_pos hi, List.getElem?_map] at e
    rw [← Array.getElem?_toList, e]
    simp [hi, wval]
/-- a slice that is built of words -/
theorem built_has (w : World) (l : List W) (t : TypeId) (cs : Array Value) (hc : cs = (l.map wval).toArray) : HasW (w.alloc (.cells cs t)) (w.heap.size + 1) (.slice (some ⟨w.heap.size, 0, none⟩) l.length l.length) l := by
  subst hc
  refine .inr ⟨w.heap.size, 0, l.length, rfl, Nat.le_refl _, by omega, fun i hi => ?_⟩
  rw [Nat.zero_add, World.cell?_alloc_new]
  simp [hi, wval]
theorem part3 : Mt.part 3 = 2 := Mt.part_is (j := 1) (by decide) (by decide)
theorem part2 : Mt.part 2 = 1 := Mt.part_is (j := 0) (by decide) (by decide)
theorem root3 (a b c : W) : Mt.root [a, b, c] = pairW (pairW a b) c := by
  have e2 : Mt.root [a, b] = pairW a b := by
    rw [Mt.root_two (l := [a, b]) (by simp), show [a, b].length = 2 from rfl, part2]
    show pairW (Mt.root [a]) (Mt.root [b]) = _
    rw [Mt.root_one, Mt.root_one]
  rw [Mt.root_two (l := [a, b, c]) (by simp), show [a, b, c].length = 3 from rfl, part3]
  show pairW (Mt.root [a, b]) (Mt.root [c]) = _
  rw [e2, Mt.root_one]
theorem path3 (a b c : W) : Mt.path [a, b, c] 0 = [b, c] := by
  have e2 : Mt.path [a, b] 0 = [b] := by
    rw [path_l (l := [a, b]) (by simp) (by rw [show [a, b].length = 2 from rfl, part2]; omega), show [a, b].length = 2 from rfl, part2]
    show Mt.path [a] 0 ++ [Mt.root [b]] = _
    rw [path_one (by simp), Mt.root_one]; rfl
  rw [path_l (l := [a, b, c]) (by simp) (by rw [show [a, b, c].length = 3 from rfl, part3]; omega), show [a, b, c].length = 3 from rfl, part3]
  show Mt.path [a, b] 0 ++ [Mt.root [c]] = _
  rw [e2, Mt.root_one]; rfl
theorem check3 (a b c : W) : checkB (Mt.root [a, b, c]) 3 0 a [b, c] = true := by
  have h := Mt.up_path [a, b, c] 0 (by simp)
  have hl := Mt.path_len [a, b, c] 0
  rw [path3] at h hl
  have hd : depthI 3 0 = (Mt.depth 3 0 : Int) := depthI_nat (n := 3) (i := 0) (by decide) (by decide)
  rw [checkB, decide_eq_true_iff, hd]
  exact ⟨congrArg (fun n : Nat => (n : Int)) hl, h⟩
theorem awake_any (w : World) :
    Calls Try.prog 9 #[] w fun e w' => e = .returned (.bool true) ∧ Below w.heap.size w w' := by
  obtain ⟨w0, hw0⟩ : ∃ w0, w0 = w.alloc (.cells #[.int .u64 5, .int .u64 6, .int .u64 7] 25) := ⟨_, rfl⟩
  have b0 : Below w.heap.size w w0 := by rw [hw0]; exact (Below.refl _ _).alloc (Nat.le_refl _) _
  have s0 : w0.heap.size = w.heap.size + 1 := by rw [hw0]; simp
  have h0 : HasW w0 w0.heap.size (.slice (some ⟨w.heap.size, 0, none⟩) 3 3) [5#64, 6#64, 7#64] := by
    rw [s0, hw0]; exact built_has w [5#64, 6#64, 7#64] _ _ rfl
  have P0 := Lib.hid (path_ok [5#64, 6#64, 7#64] 0 0 rfl _ w0 (by decide) (by decide) h0)
  have W0 := Lib.hid hw0; clear hw0
  have B0 := Lib.hid b0; clear b0
  have S0 := Lib.hid s0; clear s0
  have H0 := Lib.hid h0; clear h0
  go_enter Try.func9, Try.ntmps9
  go_wp2_with fail
  rw [← W0.out]
  refine (P0.out).mono ?_; rintro e w1 ⟨v1, rfl, own1, bel1⟩
  rw [path3] at own1
  obtain ⟨w2, hw2⟩ : ∃ w2, w2 = w1.alloc (.cells #[.int .u64 6, .int .u64 7] 25) := ⟨_, rfl⟩
  have b2 : Below w1.heap.size w1 w2 := by rw [hw2]; exact (Below.refl _ _).alloc (Nat.le_refl _) _
  have k1 : HasW w2 w1.heap.size v1 [6#64, 7#64] := own1.has.below b2 (Nat.le_refl _)
  have k2 : HasW w2 (w1.heap.size + 1) (.slice (some ⟨w1.heap.size, 0, none⟩) 2 2) [6#64, 7#64] := by rw [hw2]; exact built_has w1 [6#64, 7#64] _ _ rfl
  have k0 : HasW w2 w0.heap.size (.slice (some ⟨w.heap.size, 0, none⟩) 3 3) [5#64, 6#64, 7#64] := (H0.out.below bel1 (Nat.le_refl _)).below b2 bel1.size
  have bel2 : Below w.heap.size w w2 := (B0.out.trans (bel1.mono B0.out.size)).trans (b2.mono (Nat.le_trans B0.out.size bel1.size))
  have c1 : (uv (Mt.root [5#64, 6#64, 7#64]) == uv (pairW (pairW 5#64 6#64) 7#64)) = true := by rw [root3, beq_iff_eq]
  have SAME := Lib.hid (same_any [6#64, 7#64] [6#64, 7#64] _ _ _ _ w2 (by decide) k1 k2)
  have ROOT := Lib.hid fun n => root_any [5#64, 6#64, 7#64] _ _ (w2.drewN n) (by decide) k0
  have CHECK := Lib.hid fun n => check_any (Mt.root [5#64, 6#64, 7#64]) 3 0 5#64 [6#64, 7#64] _ _ (w2.drewN n) k1
  have W2 := Lib.hid hw2; clear hw2
  have BEL2 := Lib.hid bel2; clear bel2
  clear own1 bel1 b2 k0 k1 k2
  go_wp2_with fail
  rw [← W2.out]
  refine (SAME.out).mono ?_; rintro e w' ⟨rfl, rfl⟩
  go_wp2_with fail
  refine (ROOT.out 0).mono ?_; rintro e w' ⟨rfl, n, rfl⟩
  go_wp2_with fail
  refine (rpair_to 5#64 6#64 _ _ (by decide) (by decide) _).mono ?_; rintro e w' ⟨rfl, rfl⟩
  go_wp2_with fail
  refine (rpair_to _ 7#64 _ _ rfl (by decide) _).mono ?_; rintro e w' ⟨rfl, rfl⟩
  go_wp2_with fail
  refine (ROOT.out _).mono ?_; rintro e w' ⟨rfl, m, rfl⟩
  go_wp2_with fail
  refine (CHECK.out _).mono ?_; rintro e w' ⟨rfl, j, rfl⟩
  rw [check3]
  go_wp2_with fail
  go_ret
  exact ⟨rfl, below_drewN BEL2.out _⟩
end Go.Proofs.Ytekghohjjecenaa
