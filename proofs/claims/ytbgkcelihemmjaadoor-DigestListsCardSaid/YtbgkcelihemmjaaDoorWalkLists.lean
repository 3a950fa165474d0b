/-
  The law of lists and pairs (DigestLists) returns true. Condition: the library's table math/bits.deBruijn64tab holds what it is laid with.
-/
import Derived.Test.YtbgkcelihemmjaaDoorWalkWords
namespace Go.Proofs.YtbgkcelihemmjaaDoor
open Go.ChangeShapes Go.WideShapes Go.ChangeAt Go.RowKit
open Dg (W B)
theorem infoWord : (Tryd.prog.info? 24).map (fun i => (i.zero, i.size, i.bytes)) = some (some (.int .u64 0), 1, 8) := by kernel_rfl
theorem text_test (x y : W) : ((str (Dg.text x)).toList == (str (Dg.text y)).toList) = decide (x = y) := by
  rw [Bool.eq_iff_iff, beq_iff_eq, ByteArray.toList_eq, ByteArray.toList_eq, decide_eq_true_iff]
  exact ⟨fun h => Dg.text_inj.1 (str_inj.1 (bytes_inj h)), fun h => by rw [h]⟩
theorem text_size (x : W) : (str (Dg.text x)).size = 16 := by rw [str_size]; exact Dg.digs_len x 16
theorem word_eq (a c : W) : (uv a == uv c) = decide (a = c) := by
  rw [uv_eq, Bool.eq_iff_iff, beq_iff_eq, decide_eq_true_iff]
theorem pair_eq_r (x y z : W) : (uv (Dg.pairW x y) == uv (Dg.pairW x z)) = decide (y = z) := by
  rw [uv_eq, Bool.eq_iff_iff, beq_iff_eq, decide_eq_true_iff, Dg.pair_r]
theorem pair_eq_l (x y z : W) : (uv (Dg.pairW x y) == uv (Dg.pairW z y)) = decide (x = z) := by
  rw [uv_eq, Bool.eq_iff_iff, beq_iff_eq, decide_eq_true_iff, Dg.pair_l]
theorem list_eq (l m : List W) (i : Nat) (x : W) (hi : i < l.length) (hm : m = l.set i x) : (uv (Dg.listW l) == uv (Dg.listW m)) = decide (l = m) := by
  subst hm
  rw [uv_eq, Bool.eq_iff_iff, beq_iff_eq, decide_eq_true_iff, Dg.list_set l i x hi]
def wval (x : W) : Value := .int .u64 (uv x)
namespace digestLists
theorem walk_awake (v : Value) (a : Option Addr) (n cap : Nat) (m : Int) (x y z : W) (w : World) (h : Tab w) (hv : v = .slice a n cap) (hn : 100 < n) (hx : n ≤ maxLen) :
    Calls Tryd.prog 6 #[v, .int .i64 m, .int .u64 (uv x), .int .u64 (uv y), .int .u64 (uv z)] w fun e w' => e = .returned (.bool true) ∧ Below w.heap.size w w' := by
  subst hv
  have H := Lib.hid h; clear h
  unfold maxLen at hx
  have e : (100 : Int) < n := by omega
  clear hn
  go_enter Tryd.func6, Tryd.ntmps6
  go_wp2_with fail
  refine (awake_any _ H.out).mono ?_; rintro e w' ⟨rfl, hb⟩
  have HB := Lib.hid hb; clear hb
  go_wp2
  go_ret
  exact ⟨rfl, HB.out⟩
set_option maxRecDepth 100000 in
theorem walk_some (l : List W) (b off cap : Nat) (n : Int) (x y z : W) (w : World) (h : Tab w) (hn : (Lit.int .i64 n).wf = true) (h0 : 0 < l.length) (h5 : l.length ≤ 100) (hcap : l.length ≤ cap) (hb : b < w.heap.size)
    (hc : ∀ i, i < l.length → w.cell? ⟨b, off + i, none⟩ = some (.int .u64 (uv (l.getD i 0)))) :
    Calls Tryd.prog 6 #[.slice (some ⟨b, off, none⟩) l.length cap, .int .i64 n, .int .u64 (uv x), .int .u64 (uv y), .int .u64 (uv z)] w fun e w' => e = .returned (.bool true) ∧ Below w.heap.size w w' := by
  have H := Lib.hid h; clear h
  have HC := Lib.hid hc; clear hc
  have t1 := pair_eq_r x y z
  have t2 := word_eq y z
  have t3 := pair_eq_l x y z
  have t4 := word_eq x z
  have t5 := text_test x y
  have t6 := word_eq x y
  have t7 := text_size x
  have t8 : ((l.length : Int) == 0) = false := by rw [beq_eq_false_iff_ne]; omega
  generalize decide (y = z) = c1 at t1 t2
  generalize decide (x = z) = c2 at t3 t4
  generalize decide (x = y) = c3 at t5 t6
  obtain ⟨i0, hi, hz0, hz1, hz2⟩ := info_parts infoWord
  go_enter Tryd.func6, Tryd.ntmps6
  go_wp2_with (go_at_call 12; refine (pair_any _ _ _).mono ?_; rintro e w' ⟨rfl, rfl⟩)
  refine (text_any x _ H.out).mono ?_; rintro e w1 ⟨rfl, hb1⟩
  have T1 := Lib.hid (tab_below H.out hb1)
  have HB1 := Lib.hid hb1; clear hb1
  go_wp2_with fail
  refine (text_any y _ T1.out).mono ?_; rintro e w2 ⟨rfl, hb2⟩
  have T2 := Lib.hid (tab_below T1.out hb2)
  have HB2 := Lib.hid (HB1.out.trans (hb2.mono HB1.out.size)); clear hb2
  go_wp2_with fail
  refine (text_any x _ T2.out).mono ?_; rintro e w3 ⟨rfl, hb3⟩
  have T3 := Lib.hid (tab_below T2.out hb3)
  have HB3 := Lib.hid (HB2.out.trans (hb3.mono HB2.out.size)); clear hb3
  clear t1 t2 t3 t4 t5 t6
  have h5' : ¬ (100 : Int) < l.length := by omega
  go_wp2_with (at_builtin; refine wpList_append_lies _ rfl (.const (.slice none 0 0)) (.tmp 61) _ rfl w.heap.size 24 i0 _ 1 8 Tryd.underlying25 hi hz0 hz1 hz2 rfl (by omega) (.slice none 0 0) 0 [] rfl (World.ownsRow_nil _ _ _ _) ⟨b, off, none⟩ l.length cap (l.map wval) rfl (by simp) ?c1 ?c2 (by omega) (by unfold maxLen; omega) (by omega) HB3.out.size w3.heap.size rfl ?_)
  case c1 =>
    intro j v hv
    have hv' : (l.map wval)[j]? = some v := hv
    rw [List.getElem?_map] at hv'
    obtain ⟨u, hu, rfl⟩ := Option.map_eq_some_iff.1 hv'
    obtain ⟨hj, e⟩ := List.getElem?_eq_some_iff.1 hu
    have g := HC.out j hj
    rw [add_plain', HB3.out.cell (p := ⟨b, off + j, none⟩) hb, g, ← e]
    simp [hj, wval]
  case c2 => intro v hv; obtain ⟨u, _, rfl⟩ := List.mem_map.1 (show v ∈ l.map wval from hv); rfl
  intro g1 cap1 w4 own1 grow1 at1 lt1
  have hq0 : 0 ≤ n % (l.length : Int) := Int.emod_nonneg _ (by omega)
  have hq1 : n % (l.length : Int) < (l.length : Int) := Int.emod_lt_of_pos _ (by omega)
  obtain ⟨q, hq⟩ : ∃ q : Nat, n % (l.length : Int) = q := ⟨_, (Int.toNat_of_nonneg hq0).symm⟩
  rw [hq] at hq0 hq1
  have q8 : q < l.length := by omega
  have HQ := Lib.hid hq; clear hq hq0 hq1
  rcases own1.2 with ⟨hv, _⟩ | ⟨g, c, cur, hv, hgb, hg, hle, hmx, hsz, htake⟩
  · cases hv
  simp only [Value.slice.injEq, Option.some.injEq, Addr.mk.injEq, true_and, and_true] at hv
  obtain ⟨rfl, rfl⟩ := hv
  have hb4 : Below w.heap.size w w4 := HB3.out.grown grow1 HB3.out.size (fun k hk => by simp [Value.ownBlock] at hk)
  have HB4 := Lib.hid hb4; clear hb4
  clear grow1 at1 own1
  have hcell : ∀ i, i < l.length → w4.cell? ⟨g1, i, none⟩ = some (.int .u64 (uv (l.getD i 0))) := by
    intro i hi
    rw [cell_of_row w4 g1 i _ _ _ hg]
    have e := congrArg (fun L : List Value => L[i]?) htake
    simp only [Nat.mul_one, List.getElem?_take, if_pos hi, List.getElem?_map] at e
    rw [← Array.getElem?_toList, e]
    simp [hi, wval]
  have hq4 := hcell q q8
  have hfz : w4.frozen? ⟨g1, q, none⟩ = false := by simp [World.frozen?, hg]
  have HCELL := Lib.hid hcell; clear hcell htake hg
  have T4 := Lib.hid (tab_below H.out HB4.out)
  go_wp2_with fail
  refine (mod_to _ _ q HQ.out _ hn (by omega) (by omega)).mono ?_; rintro e w' ⟨rfl, rfl⟩
  obtain ⟨m, hm⟩ : ∃ m, m = l.set q x := ⟨_, rfl⟩
  have hml : l.length = m.length := by rw [hm]; simp
  have hbl : ∀ i, i < l.length → (w4.setCell ⟨g1, q, none⟩ (.int .u64 (uv x))).cell? ⟨b, off + i, none⟩ = some (.int .u64 (uv (l.getD i 0))) := by
    intro i hi
    rw [World.cell?_setCell_other _ _ _ _ (by intro e; have := congrArg Addr.block e; simp only at this; omega), HB4.out.cell (p := ⟨b, off + i, none⟩) hb]
    exact HC.out i hi
  have hbm : ∀ i, i < m.length → (w4.setCell ⟨g1, q, none⟩ (.int .u64 (uv x))).cell? ⟨g1, 0 + i, none⟩ = some (.int .u64 (uv (m.getD i 0))) := by
    intro i hi
    rw [Nat.zero_add]
    by_cases e : i = q
    · subst e
      rw [World.cell?_setCell_same _ _ _ hq4, hm]
      simp [q8]
    · rw [World.cell?_setCell_other _ _ _ _ (by intro h; have := congrArg Addr.off h; simp only at this; omega), HCELL.out i (by omega), hm]
      simp [List.getD, Ne.symm e]
  have t1 := list_eq l m q x q8 hm
  have S := same_some l m b off cap g1 0 cap1 (w4.setCell ⟨g1, q, none⟩ (.int .u64 (uv x))) (by omega) hml hbl hbm
  rw [← hml] at S
  have hA : HasW (w4.setCell ⟨g1, q, none⟩ (.int .u64 (uv x))) w4.heap.size (.slice (some ⟨b, off, none⟩) l.length cap) l := .inr ⟨b, off, cap, rfl, hcap, by have := HB4.out.size; omega, hbl⟩
  have hB : HasW (w4.setCell ⟨g1, q, none⟩ (.int .u64 (uv x))) w4.heap.size (.slice (some ⟨g1, 0, none⟩) l.length cap1) m := .inr ⟨g1, 0, cap1, by rw [hml], by omega, lt1, hbm⟩
  have LA := list_any l _ _ _ (by omega) hA
  have LB := list_any m _ _ _ (by omega) hB
  have hb5 : Below w.heap.size w (w4.setCell ⟨g1, q, none⟩ (.int .u64 (uv x))) := HB4.out.setCell hgb _
  have T5 := Lib.hid (tab_below H.out hb5)
  have HB5 := Lib.hid hb5
  have SS := Lib.hid S
  have LAA := Lib.hid LA
  have LBB := Lib.hid LB
  clear S LA LB hA hB hbl hbm hb5 hm hml
  generalize decide (l = m) = c4 at t1 SS
  go_wp2_with fail
  refine (LAA.out).mono ?_; rintro e w' ⟨rfl, rfl⟩
  go_wp2_with fail
  refine (LBB.out).mono ?_; rintro e w' ⟨rfl, rfl⟩
  go_wp2_with fail
  refine (SS.out).mono ?_; rintro e w' ⟨rfl, rfl⟩
  go_wp2_with fail
  refine (awake_any _ T5.out).mono ?_; rintro e w6 ⟨rfl, hb6⟩
  have HB6 := Lib.hid (HB5.out.trans (hb6.mono HB5.out.size)); clear hb6
  go_wp2
  go_ret
  exact ⟨rfl, HB6.out⟩
set_option maxRecDepth 100000 in
theorem walk_none (a : Option Addr) (cap : Nat) (n : Int) (x y z : W) (w : World) (h : Tab w) :
    Calls Tryd.prog 6 #[.slice a 0 cap, .int .i64 n, .int .u64 (uv x), .int .u64 (uv y), .int .u64 (uv z)] w fun e w' => e = .returned (.bool true) ∧ Below w.heap.size w w' := by
  have H := Lib.hid h; clear h
  have t1 := pair_eq_r x y z
  have t2 := word_eq y z
  have t3 := pair_eq_l x y z
  have t4 := word_eq x z
  have t5 := text_test x y
  have t6 := word_eq x y
  have t7 := text_size x
  generalize decide (y = z) = c1 at t1 t2
  generalize decide (x = z) = c2 at t3 t4
  generalize decide (x = y) = c3 at t5 t6
  go_enter Tryd.func6, Tryd.ntmps6
  go_wp2_with (go_at_call 12; refine (pair_any _ _ _).mono ?_; rintro e w' ⟨rfl, rfl⟩)
  refine (text_any x _ H.out).mono ?_; rintro e w1 ⟨rfl, hb1⟩
  have T1 := Lib.hid (tab_below H.out hb1)
  have HB1 := Lib.hid hb1; clear hb1
  go_wp2_with fail
  refine (text_any y _ T1.out).mono ?_; rintro e w2 ⟨rfl, hb2⟩
  have T2 := Lib.hid (tab_below T1.out hb2)
  have HB2 := Lib.hid (HB1.out.trans (hb2.mono HB1.out.size)); clear hb2
  go_wp2_with fail
  refine (text_any x _ T2.out).mono ?_; rintro e w3 ⟨rfl, hb3⟩
  have T3 := Lib.hid (tab_below T2.out hb3)
  have HB3 := Lib.hid (HB2.out.trans (hb3.mono HB2.out.size)); clear hb3
  go_wp2_with fail
  refine (awake_any _ T3.out).mono ?_; rintro e w6 ⟨rfl, hb6⟩
  have HB6 := Lib.hid (HB3.out.trans (hb6.mono HB3.out.size)); clear hb6
  go_wp2
  go_ret
  exact ⟨rfl, HB6.out⟩
theorem walk (w : World) (h : Tab w) (v0 : Value) (l0 : List W) (m0 : l0.length ≤ maxLen) (b0 : HasW w w.heap.size v0 l0) (a1 : Int) (w1 : (Lit.int .i64 a1).wf = true) (a2 : Int) (w2 : (Lit.int .u64 a2).wf = true) (a3 : Int) (w3 : (Lit.int .u64 a3).wf = true) (a4 : Int) (w4 : (Lit.int .u64 a4).wf = true) :
    Calls Tryd.prog 6 #[v0, .int .i64 a1, .int .u64 a2, .int .u64 a3, .int .u64 a4] w fun e w' => e = .returned (.bool true) ∧ Below w.heap.size w w' := by
  obtain ⟨x, rfl⟩ := uv_of_wf a2 w2
  obtain ⟨y, rfl⟩ := uv_of_wf a3 w3
  obtain ⟨z, rfl⟩ := uv_of_wf a4 w4
  rcases b0 with ⟨a, cap, rfl, rfl⟩ | ⟨b, off, cap, rfl, h2, h3, h4⟩
  · exact walk_none a cap a1 x y z w h
  · by_cases h0 : l0.length = 0
    · rw [h0]; exact walk_none _ cap a1 x y z w h
    · by_cases hc : 100 < l0.length
      · exact walk_awake _ _ _ cap a1 x y z w h rfl hc m0
      · exact walk_some l0 b off cap a1 x y z w h w1 (by omega) (by omega) h2 h3 h4
end digestLists
end Go.Proofs.YtbgkcelihemmjaaDoor
