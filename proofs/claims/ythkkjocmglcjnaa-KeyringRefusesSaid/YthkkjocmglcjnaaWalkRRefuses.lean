/-
  The walk of KeyringRefuses: it returns true. No condition.
-/
import Derived.Test.YthkkjocmglcjnaaKAwake
import Derived.Test.YthkkjocmglcjnaaFlip
namespace Go.Proofs.Ythkkjocmglcjnaa.keyringRefuses
open Go.ChangeShapes Go.WideShapes Go.ChangeAt Go.RowKit
open Dg (W B)
theorem no_chain (s d : W) (n k : Nat) (hk : k < n) (hn : n ≤ 64) (i b : Nat) (hi : i < 18) (hb : b < 64) :
    verB (Kr.root s n) n d k ((Kr.chains s k d).set i (flip ((Kr.chains s k d).getD i 0) b)) (Kr.path s n k) = false := by
  rw [verB_eq _ n k d _ _ hk hn (by rw [List.length_set, Kr.chains_len]) (Kr.path_len _ _ _)]
  exact decide_eq_false fun h => flip_ne _ b hb ((Kr.top_chain s n k d i _ hk hi).1 h).symm
theorem no_path (s d : W) (n k : Nat) (hk : k < n) (hn : n ≤ 64) (i b : Nat) (hi : i < (Kr.path s n k).length) (hb : b < 64) :
    verB (Kr.root s n) n d k (Kr.chains s k d) ((Kr.path s n k).set i (flip ((Kr.path s n k).getD i 0) b)) = false := by
  rw [verB_eq _ n k d _ _ hk hn (Kr.chains_len _ _ _) (by rw [List.length_set, Kr.path_len])]
  exact decide_eq_false fun h => flip_ne _ b hb ((Kr.top_path s n k d i _ hk hi).1 h)
theorem no_root (s d : W) (n k : Nat) (hk : k < n) (hn : n ≤ 64) (b : Nat) (hb : b < 64) :
    verB (flip (Kr.root s n) b) n d k (Kr.chains s k d) (Kr.path s n k) = false := by
  rw [verB_eq _ n k d _ _ hk hn (Kr.chains_len _ _ _) (Kr.path_len _ _ _), Kr.top_sign s n k d hk]
  exact decide_eq_false fun h => flip_ne _ b hb h.symm
theorem depth_64 {n k : Nat} (hk : k < n) (hn : n ≤ 64) : Mt.depth n k ≤ 64 := by
  have := depth_lt (n := n) (i := k) hk (by omega)
  omega
def RRel (n : Nat) (w : World) (i : Value) (wr : World) : Prop := ∃ k : Nat, k ≤ n ∧ i = .int .i64 (k : Int) ∧ Below w.heap.size w wr
theorem mod_lt (a : Int) (n : Nat) (h : 1 ≤ n) : ∃ k : Nat, a % (n : Int) = k ∧ k < n := mod_nat a n (by omega)
set_option maxRecDepth 100000 in
set_option maxHeartbeats 2000000 in
theorem walk (w : World) (a0 : Int) (w0 : (Lit.int .u64 a0).wf = true) (a1 : Int) (w1 : (Lit.int .u64 a1).wf = true) (a2 : Int) (w2 : (Lit.int .i64 a2).wf = true) (a3 : Int) (w3 : (Lit.int .i64 a3).wf = true) (a4 : Int) (w4 : (Lit.int .u8 a4).wf = true) :
    Calls Try.prog 5 #[.int .u64 a0, .int .u64 a1, .int .i64 a2, .int .i64 a3, .int .u8 a4] w fun e w' => e = .returned (.bool true) ∧ Below w.heap.size w w' := by
  obtain ⟨s, rfl⟩ := uv_of_wf a0 w0
  obtain ⟨d, rfl⟩ := uv_of_wf a1 w1
  obtain ⟨q, hq, hq2⟩ := mod_nat a2 4 (by omega)
  obtain ⟨n, hn⟩ : ∃ n : Nat, n = q + 1 := ⟨_, rfl⟩
  have HQ := Lib.hid hq; clear hq
  have hb8 := bounds_u8 w4
  obtain ⟨b, hb, hb2⟩ := bit_of a4 w4
  have hsum : (1 : Int) + (q : Int) = (n : Int) := by omega
  have HN := Lib.hid (show 1 ≤ n ∧ n ≤ 4 by omega)
  obtain ⟨k, hk, hk2⟩ := mod_lt a3 n (by omega)
  have HK := Lib.hid hk; clear hk
  have NC := Lib.hid (no_chain s d n k hk2 (by omega))
  have NP := Lib.hid (no_path s d n k hk2 (by omega))
  have NR := Lib.hid (no_root s d n k hk2 (by omega) b hb2)
  have NV := Lib.hid (verB_signed s n k d hk2 (by omega))
  clear hn
  go_enter Try.func5, Try.ntmps5
  go_wp2_with fail
  refine (mod_to _ _ q HQ.out _ w2 (by omega) (by omega)).mono ?_; rintro e w' ⟨rfl, rfl⟩
  go_wp2_with fail
  refine (kroot_to s n _ _ rfl rfl HN.out.1 (by have := HN.out.2; omega) _).mono ?_; rintro e w1 ⟨rfl, b1⟩
  obtain ⟨r, hr⟩ : ∃ r, r = Kr.root s n := ⟨_, rfl⟩
  rw [← hr] at NC NP NR NV ⊢
  have B1 := Lib.hid b1
  clear hr b1
  go_wp2_with fail
  refine (mod_to _ _ k HK.out _ w3 (by have := HN.out; omega) (by have := HN.out; omega)).mono ?_; rintro e w' ⟨rfl, rfl⟩
  go_wp2_with fail
  refine (ksign_to s n k d _ _ _ _ rfl rfl rfl rfl hk2 (by have := HN.out.2; omega) _).mono ?_; rintro e w2 ⟨p1, q1, p2, q2, m2, rfl, hm2, o1, o2, b2⟩
  have hC := Kr.chains_len s k d
  have lP : m2 ≤ 64 := by rw [hm2.out, Kr.path_len]; exact depth_64 hk2 (by have := HN.out; omega)
  rw [show (Kr.path s n k).length = m2 from hm2.out.symm] at NP
  generalize Kr.chains s k d = C at o1 NC NP NR NV hC
  obtain ⟨P, hP⟩ : ∃ P, P = Kr.path s n k := ⟨_, rfl⟩
  rw [← hP] at o2 NC NP NR NV hm2
  clear hP
  obtain ⟨w3, hw3⟩ : ∃ w3, w3 = (w2.alloc (.cells #[.int .i64 (k : Int), .slice p1 18 q1, .slice p2 m2 q2] 28)).alloc (.cells #[.int .u64 (uv s), .int .i64 (n : Int), .int .i64 ((k : Int) + 1)] 25) := ⟨_, rfl⟩
  have sa : Rec3 w3 w2.heap.size (.int .i64 (k : Int)) (.slice p1 18 q1) (.slice p2 m2 q2) := by rw [hw3]; exact (Rec3.new w2 _ _ _ _).below ((Below.refl _ _).alloc (Nat.le_refl _) _) (by simp)
  have b23 : Below w2.heap.size w2 w3 := by rw [hw3]; exact ((Below.refl _ _).alloc (Nat.le_refl _) _).alloc (by simp) _
  have z3 : w3.heap.size = w2.heap.size + 2 := by rw [hw3]; simp
  have B3 := Lib.hid (((B1.out.trans (b2.mono B1.out.size)).trans (b23.mono (by have := B1.out.size; have := b2.size; omega))))
  have O1 := Lib.hid ((o1.below b23 (Nat.le_refl _)).wide b23.size)
  have O2 := Lib.hid ((o2.below b23 (Nat.le_refl _)).wide b23.size)
  have SA := Lib.hid sa; have W3 := Lib.hid hw3; have Z3 := Lib.hid z3; have HC := Lib.hid hC; have LP := Lib.hid lP
  clear o1 o2 b2 b23 sa hw3 z3 hC lP
  obtain ⟨i0, hi0, hz0, hz1, hz2⟩ := info_parts infoWord
  go_wp2
  rw [← W3.out]
  go_loopw [57] (RRel 18 w3) (fun i _ => 18 - (intOf i).toNat)
  case atStart => exact ⟨0, by omega, rfl, Below.refl _ _⟩
  case round =>
    obtain ⟨j, hj, rfl, hb3⟩ := hrel
    have HB := Lib.hid hb3
    have z3 := Z3.out
    obtain ⟨y0, ⟨y1, y2, y3⟩, -⟩ := SA.out.below hb3 (by omega)
    clear hb3
    by_cases hlt : j < 18
    · obtain ⟨bb, oo, cc, he, hle, hbb, hcell⟩ : ∃ bb oo cc, (Value.slice p1 18 q1) = .slice (some ⟨bb, oo, none⟩) 18 cc ∧ 18 ≤ cc ∧ bb < w3.heap.size ∧ ∀ i, i < 18 → wr.cell? ⟨bb, oo + i, none⟩ = some (.int .u64 (uv (C.getD i 0))) := by
        rcases O1.out.below HB.out (Nat.le_refl _) with ⟨a, c, h1, h2⟩ | ⟨a, o, c, h1, h2, h3, h4⟩
        · have := HC.out; rw [h2] at this; simp at this
        · rw [HC.out] at h1 h2 h4; exact ⟨a, o, c, h1, h2, h3, h4⟩
      simp only [Value.slice.injEq, true_and] at he
      obtain ⟨rfl, rfl⟩ := he
      have HCELL := Lib.hid hcell
      clear hcell
      obtain ⟨wx, hwx⟩ : ∃ wx, wx = wr.alloc (.cells #[.int .i64 (k : Int), .slice (some ⟨bb, oo, none⟩) 18 q1, .slice p2 m2 q2] 28) := ⟨_, rfl⟩
      have zx : wx.heap.size = wr.heap.size + 1 := by rw [hwx]; simp
      have hX : Rec3 wx wr.heap.size (.int .i64 (k : Int)) (.slice (some ⟨bb, oo, none⟩) 18 q1) (.slice p2 m2 q2) := by rw [hwx]; exact Rec3.new wr _ _ _ _
      have hbx : Below wr.heap.size wr wx := by rw [hwx]; exact (Below.refl _ _).alloc (Nat.le_refl _) _
      have HX := Lib.hid hX; have HBX := Lib.hid hbx; have ZX := Lib.hid zx; have WX := Lib.hid hwx
      clear hX hbx zx hwx
      go_wp2_with (at_builtin; rw [← WX.out]; refine wpList_append_lies _ rfl (.const (.slice none 0 0)) (.tmp 62) _ rfl wx.heap.size 23 i0 _ 1 8 Try.underlying26 hi0 hz0 hz1 hz2 rfl (by omega) (.slice none 0 0) 0 [] rfl (World.ownsRow_nil _ _ _ _) ⟨bb, oo, none⟩ 18 q1 (C.map wval) rfl (by rw [List.length_map]; exact HC.out) ?c1 ?c2 (by omega) (by unfold maxLen; omega) (by omega) (Nat.le_refl _) _ rfl ?_)
      case c1 =>
        intro i v hv
        have hv' : (C.map wval)[i]? = some v := by simpa using hv
        rw [List.getElem?_map] at hv'
        obtain ⟨u, hu, rfl⟩ := Option.map_eq_some_iff.1 hv'
        obtain ⟨hi, e⟩ := List.getElem?_eq_some_iff.1 hu
        have hc18 := HC.out
        have hlt := HB.out.size
        rw [add_plain', HBX.out.cell (p := ⟨bb, oo + i, none⟩) (by simp; omega), HCELL.out i (by omega), ← e]
        simp [hi, wval]
      case c2 => intro v hv; obtain ⟨u, _, rfl⟩ := List.mem_map.1 (show v ∈ C.map wval by simpa using hv); rfl
      intro g1 cap1 w4 own1 grow1 _ _
      obtain ⟨b4, hg, lt4, hcap1, hcell, hfr⟩ := clone_facts (Below.refl _ _) own1 grow1
      clear own1 grow1
      have hgx : wr.heap.size < g1 := by have := ZX.out; omega
      obtain ⟨l4, ⟨x1, x2, x3⟩, f1, f2, f3⟩ := HX.out.below b4 (by have := ZX.out; omega)
      have hq4 : w4.cell? ⟨g1, j, none⟩ = some (.int .u64 (uv (C.getD j 0))) := by have := HC.out; rw [hcell j hlt]; simp [show j < C.length by omega, wval]
      have hfz := hfr j
      have hf := flip_int (C.getD j 0) b hb2
      obtain ⟨w5, hw5⟩ : ∃ w5, w5 = w4.setCell ⟨wr.heap.size, 1, none⟩ (.slice (some ⟨g1, 0, none⟩) 18 cap1) := ⟨_, rfl⟩
      have c5 : ∀ i, i < 18 → w5.cell? ⟨g1, i, none⟩ = (C.map wval)[i]? := fun i hi => by rw [hw5, World.cell?_setCell_far _ _ _ _ (by simp; omega)]; exact hcell i hi
      have z5 : w5.heap.size = w4.heap.size := by rw [hw5]; simp
      have hset := set_has (y := flip (C.getD j 0) b) HC.out.symm hcap1 (by rw [z5]; exact lt4) hlt c5
      have b5 : Below wr.heap.size wr w5 := by rw [hw5]; exact (HBX.out.trans (b4.mono (by have := ZX.out; omega))).setCell (Nat.le_refl _) _
      have F := Lib.hid (NC.out j b hlt hb2)
      obtain ⟨w6, hw6⟩ : ∃ w6, w6 = w5.setCell ⟨g1, j, none⟩ (.int .u64 (uv (flip (C.getD j 0) b))) := ⟨_, rfl⟩
      have b6 : Below wr.heap.size wr w6 := by rw [hw6]; exact b5.setCell (Nat.le_of_lt hgx) _
      rw [← hw6] at hset
      have B6 := Lib.hid (HB.out.trans (b6.mono HB.out.size))
      have SET := Lib.hid (hset.wide (show w5.heap.size ≤ w6.heap.size by rw [hw6]; simp))
      have W6 : Hid (w6 = (w4.setCell ⟨wr.heap.size, 1, none⟩ (.slice (some ⟨g1, 0, none⟩) 18 cap1)).setCell ⟨g1, j, none⟩ (.int .u64 (uv (flip (C.getD j 0) b)))) := Lib.hid (by rw [hw6, hw5])
      clear hcell hfr c5 z5 hset b5 b6 hw5 hw6 b4 hcap1
      generalize C.getD j 0 = z at hq4 hf F SET W6
      go_wp2_with fail
      rw [← W6.out]
      refine (kverify_to r n d k _ _ _ _ _ rfl false _ SET.out ((O2.out.below B6.out (Nat.le_refl _)).wide B6.out.size) F.out).mono ?_; rintro e w7 ⟨rfl, b7⟩
      have B7 := Lib.hid (B6.out.trans (b7.mono B6.out.size)); clear b7
      go_wp2_with fail
      go_roundw
      case rel => exact ⟨j + 1, by omega, by go_num, B7.out⟩
      case measure => simp [intOf]; omega
    · obtain rfl : j = 18 := by omega
      go_wp2
      go_loopw [84] (RRel m2 w3) (fun i _ => m2 - (intOf i).toNat)
      case atStart => exact ⟨0, by omega, rfl, HB.out⟩
      case round =>
        obtain ⟨t, ht, rfl, hb3⟩ := hrel
        have HB2 := Lib.hid hb3
        have p64 := LP.out
        have z3 := Z3.out
        clear y1 y2 y3 y0
        obtain ⟨y0, ⟨y1, y2, y3⟩, -⟩ := SA.out.below hb3 (by omega)
        clear hb3
        by_cases hlt : t < m2
        · obtain ⟨bb, oo, cc, he, hle, hbb, hcell⟩ : ∃ bb oo cc, (Value.slice p2 m2 q2) = .slice (some ⟨bb, oo, none⟩) m2 cc ∧ m2 ≤ cc ∧ bb < w3.heap.size ∧ ∀ i, i < m2 → wr.cell? ⟨bb, oo + i, none⟩ = some (.int .u64 (uv (P.getD i 0))) := by
            rcases O2.out.below HB2.out (Nat.le_refl _) with ⟨a, c, h1, h2⟩ | ⟨a, o, c, h1, h2, h3, h4⟩
            · have := hm2.out; rw [h2] at this; simp at this; omega
            · rw [← hm2.out] at h1 h2 h4; exact ⟨a, o, c, h1, h2, h3, h4⟩
          simp only [Value.slice.injEq, true_and] at he
          obtain ⟨rfl, rfl⟩ := he
          have HCELL := Lib.hid hcell
          clear hcell
          obtain ⟨wx, hwx⟩ : ∃ wx, wx = wr.alloc (.cells #[.int .i64 (k : Int), .slice p1 18 q1, .slice (some ⟨bb, oo, none⟩) m2 q2] 28) := ⟨_, rfl⟩
          have zx : wx.heap.size = wr.heap.size + 1 := by rw [hwx]; simp
          have hX : Rec3 wx wr.heap.size (.int .i64 (k : Int)) (.slice p1 18 q1) (.slice (some ⟨bb, oo, none⟩) m2 q2) := by rw [hwx]; exact Rec3.new wr _ _ _ _
          have hbx : Below wr.heap.size wr wx := by rw [hwx]; exact (Below.refl _ _).alloc (Nat.le_refl _) _
          have HX := Lib.hid hX; have HBX := Lib.hid hbx; have ZX := Lib.hid zx; have WX := Lib.hid hwx
          clear hX hbx zx hwx
          go_wp2_with (at_builtin; rw [← WX.out]; refine wpList_append_lies _ rfl (.const (.slice none 0 0)) (.tmp 89) _ rfl wx.heap.size 23 i0 _ 1 8 Try.underlying26 hi0 hz0 hz1 hz2 rfl (by omega) (.slice none 0 0) 0 [] rfl (World.ownsRow_nil _ _ _ _) ⟨bb, oo, none⟩ m2 q2 (P.map wval) rfl (by have := hm2.out; simp; omega) ?c1 ?c2 (by omega) (by have := LP.out; unfold maxLen; omega) (by have := LP.out; omega) (Nat.le_refl _) _ rfl ?_)
          case c1 =>
            intro i v hv
            have hv' : (P.map wval)[i]? = some v := by simpa using hv
            rw [List.getElem?_map] at hv'
            obtain ⟨u, hu, rfl⟩ := Option.map_eq_some_iff.1 hv'
            obtain ⟨hi, e⟩ := List.getElem?_eq_some_iff.1 hu
            have hc18 := hm2.out
            have hlt := HB2.out.size
            rw [add_plain', HBX.out.cell (p := ⟨bb, oo + i, none⟩) (by simp; omega), HCELL.out i (by omega), ← e]
            simp [hi, wval]
          case c2 => intro v hv; obtain ⟨u, _, rfl⟩ := List.mem_map.1 (show v ∈ P.map wval by simpa using hv); rfl
          intro g1 cap1 w4 own1 grow1 _ _
          obtain ⟨b4, hg, lt4, hcap1, hcell, hfr⟩ := clone_facts (Below.refl _ _) own1 grow1
          clear own1 grow1
          have hgx : wr.heap.size < g1 := by have := ZX.out; omega
          obtain ⟨l4, ⟨x1, x2, x3⟩, f1, f2, f3⟩ := HX.out.below b4 (by have := ZX.out; omega)
          have hq4 : w4.cell? ⟨g1, t, none⟩ = some (.int .u64 (uv (P.getD t 0))) := by have := hm2.out; rw [hcell t hlt]; simp [show t < P.length by omega, wval]
          have hfz := hfr t
          have hf := flip_int (P.getD t 0) b hb2
          obtain ⟨w5, hw5⟩ : ∃ w5, w5 = w4.setCell ⟨wr.heap.size, 2, none⟩ (.slice (some ⟨g1, 0, none⟩) m2 cap1) := ⟨_, rfl⟩
          have c5 : ∀ i, i < m2 → w5.cell? ⟨g1, i, none⟩ = (P.map wval)[i]? := fun i hi => by rw [hw5, World.cell?_setCell_far _ _ _ _ (by simp; omega)]; exact hcell i hi
          have z5 : w5.heap.size = w4.heap.size := by rw [hw5]; simp
          have hset := set_has (y := flip (P.getD t 0) b) hm2.out hcap1 (by rw [z5]; exact lt4) hlt c5
          have b5 : Below wr.heap.size wr w5 := by rw [hw5]; exact (HBX.out.trans (b4.mono (by have := ZX.out; omega))).setCell (Nat.le_refl _) _
          have F := Lib.hid (NP.out t b hlt hb2)
          obtain ⟨w6, hw6⟩ : ∃ w6, w6 = w5.setCell ⟨g1, t, none⟩ (.int .u64 (uv (flip (P.getD t 0) b))) := ⟨_, rfl⟩
          have b6 : Below wr.heap.size wr w6 := by rw [hw6]; exact b5.setCell (Nat.le_of_lt hgx) _
          rw [← hw6] at hset
          have B6 := Lib.hid (HB2.out.trans (b6.mono HB2.out.size))
          have SET := Lib.hid (hset.wide (show w5.heap.size ≤ w6.heap.size by rw [hw6]; simp))
          have W6 : Hid (w6 = (w4.setCell ⟨wr.heap.size, 2, none⟩ (.slice (some ⟨g1, 0, none⟩) m2 cap1)).setCell ⟨g1, t, none⟩ (.int .u64 (uv (flip (P.getD t 0) b)))) := Lib.hid (by rw [hw6, hw5])
          clear hcell hfr c5 z5 hset b5 b6 hw5 hw6 b4 hcap1
          generalize P.getD t 0 = z at hq4 hf F SET W6
          go_wp2_with fail
          rw [← W6.out]
          refine (kverify_to r n d k _ _ _ _ _ rfl false _ ((O1.out.below B6.out (Nat.le_refl _)).wide B6.out.size) SET.out F.out).mono ?_; rintro e w7 ⟨rfl, b7⟩
          have B7 := Lib.hid (B6.out.trans (b7.mono B6.out.size)); clear b7
          go_wp2_with fail
          go_roundw
          case rel => (repeat apply Exists.intro); exact ⟨⟨t + 1, by omega, by go_num, B7.out⟩, rfl⟩
          case measure => simp [intOf]; omega
        · obtain rfl : t = m2 := by omega
          have hf := flip_int r b hb2
          go_wp2_with fail
          refine (kverify_to (flip r b) n d k _ _ _ _ _ rfl false _ ((O1.out.below HB2.out (Nat.le_refl _)).wide HB2.out.size) ((O2.out.below HB2.out (Nat.le_refl _)).wide HB2.out.size) NR.out).mono ?_; rintro e w7 ⟨rfl, b7⟩
          have g1 := kept b7 y1; have g2 := kept b7 y2; have g3 := kept b7 y3
          have B7 := Lib.hid (HB2.out.trans (b7.mono HB2.out.size)); clear b7
          go_wp2_with fail
          refine (kverify_to r n d k _ _ _ _ _ rfl true _ ((O1.out.below B7.out (Nat.le_refl _)).wide B7.out.size) ((O2.out.below B7.out (Nat.le_refl _)).wide B7.out.size) NV.out).mono ?_; rintro e w8 ⟨rfl, b8⟩
          have B8 := Lib.hid (B7.out.trans (b8.mono B7.out.size)); clear b8
          go_wp2_with fail
          refine (awake_any _).mono ?_; rintro e w9 ⟨rfl, b9⟩
          have B9 := Lib.hid (B3.out.trans ((B8.out.trans (b9.mono B8.out.size)).mono B3.out.size)); clear b9
          go_wp2_with fail
          go_ret
          exact ⟨rfl, B9.out⟩
end Go.Proofs.Ythkkjocmglcjnaa.keyringRefuses
