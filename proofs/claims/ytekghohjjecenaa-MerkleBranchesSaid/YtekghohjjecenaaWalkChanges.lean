/-
  The law that a leaf, or an element of a path, that is changed does not fit (MerkleChanges) returns true. No condition.
-/
import Derived.Test.YtekghohjjecenaaOwn
import Derived.Test.YtekghohjjecenaaOpen
namespace Go.Proofs.Ytekghohjjecenaa
open Go.ChangeShapes Go.WideShapes Go.ChangeAt Go.RowKit
open Dg (W B)
theorem check_to (r : W) (n i : Int) (x : W) (p : List W) (c : Bool) (hb : checkB r n i x p = c) (N : Nat) (v : Value) (w : World) (h : HasW w N v p) :
    Calls Try.prog 18 #[.int .u64 (uv r), .int .i64 n, .int .i64 i, .int .u64 (uv x), v] w fun e w' => e = .returned (.bool c) ∧ ∃ k, w' = w.drewN k := by
  subst hb; exact check_any r n i x p N v w h
theorem check_leaf (l : List W) (q : Nat) (hq : q < l.length) (h40 : l.length ≤ 1048576) (y : W) : checkB (Mt.root l) l.length q y (Mt.path l q) = decide (y = l.getD q 0) := by
  rw [checkB, decide_eq_decide, Int.toNat_natCast, Int.toNat_natCast, ← Mt.up_path l q hq, Mt.up_inj, depthI_nat hq h40, Mt.path_len]
  simp
theorem check_elem (l : List W) (q : Nat) (hq : q < l.length) (h40 : l.length ≤ 1048576) (y : W) (k : Nat) (hk : k < (Mt.path l q).length) :
    checkB (Mt.root l) l.length q (l.getD q 0) ((Mt.path l q).set k y) = decide (y = (Mt.path l q).getD k 0) := by
  rw [checkB, decide_eq_decide, Int.toNat_natCast, Int.toNat_natCast, ← Mt.up_path l q hq, Mt.up_set _ _ _ _ _ _ hk, depthI_nat hq h40, List.length_set, Mt.path_len]
  simp
theorem root_test (l : List W) (k : Nat) (hk : k < l.length) (y : W) : (uv (Mt.root (l.set k y)) == uv (Mt.root l)) = decide (l = l.set k y) := by
  rw [uv_eq, Bool.eq_iff_iff, beq_iff_eq, decide_eq_true_iff, Mt.root_set l k y hk]
/-- a copy in which one word is changed -/
theorem set_has {w4 : World} {g n cap : Nat} {L : List W} {k : Nat} {y : W} (hn : n = L.length) (hcap : n ≤ cap) (hg : g < w4.heap.size) (hk : k < n)
    (hc : ∀ i, i < n → w4.cell? ⟨g, i, none⟩ = (L.map wval)[i]?) : HasW (w4.setCell ⟨g, k, none⟩ (.int .u64 (uv y))) w4.heap.size (.slice (some ⟨g, 0, none⟩) n cap) (L.set k y) := by
  subst hn
  refine .inr ⟨g, 0, cap, by simp, by simpa using hcap, hg, fun i hi => ?_⟩
  have hi' : i < L.length := by simpa using hi
  rw [Nat.zero_add]
  by_cases e : i = k
  · subst e
    rw [World.cell?_setCell_same (u := wval (L.getD i 0)) _ _ _ (by rw [hc i hi']; simp [hi'])]
    simp [hi']
  · rw [World.cell?_setCell_other _ _ _ _ (by intro h; have := congrArg Addr.off h; simp only at this; omega), hc i hi']
    simp [List.getD, Ne.symm e, hi', wval]
namespace merkleChanges
theorem walk_awake (a : Option Addr) (n cap : Nat) (x y : Int) (z : W) (w : World) (hn : n = 0 ∨ 40 < n) (hx : n ≤ maxLen) :
    Calls Try.prog 5 #[.slice a n cap, .int .i64 x, .int .i64 y, .int .u64 (uv z)] w fun e w' => e = .returned (.bool true) ∧ Below w.heap.size w w' := by
  unfold maxLen at hx
  rcases hn with rfl | hn
  · go_enter Try.func5, Try.ntmps5
    go_wp2_with fail
    refine (awake_any _).mono ?_; rintro e w' ⟨rfl, hb⟩
    have HB := Lib.hid hb; clear hb
    go_wp2_with fail
    go_ret
    exact ⟨rfl, HB.out⟩
  · have t1 : ((n : Int) == 0) = false := by rw [beq_eq_false_iff_ne]; omega
    have t2 : (40 : Int) < n := by omega
    clear hn
    go_enter Try.func5, Try.ntmps5
    go_wp2_with fail
    refine (awake_any _).mono ?_; rintro e w' ⟨rfl, hb⟩
    have HB := Lib.hid hb; clear hb
    go_wp2_with fail
    go_ret
    exact ⟨rfl, HB.out⟩
def PathRel (n : Nat) (w : World) (v : Value) (wr : World) : Prop := ∃ k : Nat, k ≤ n ∧ v = .int .i64 (k : Int) ∧ Below w.heap.size w wr
set_option maxRecDepth 100000 in
set_option maxHeartbeats 2000000 in
theorem walk_some (l : List W) (b off cap : Nat) (a1 a2 : Int) (y : W) (w : World) (h1 : (Lit.int .i64 a1).wf = true) (h2 : (Lit.int .i64 a2).wf = true) (h0 : 0 < l.length) (h5 : l.length ≤ 40) (hcap : l.length ≤ cap) (hb : b < w.heap.size)
    (hc : ∀ i, i < l.length → w.cell? ⟨b, off + i, none⟩ = some (.int .u64 (uv (l.getD i 0)))) :
    Calls Try.prog 5 #[.slice (some ⟨b, off, none⟩) l.length cap, .int .i64 a1, .int .i64 a2, .int .u64 (uv y)] w fun e w' => e = .returned (.bool true) ∧ Below w.heap.size w w' := by
  have t1 : ((l.length : Int) == 0) = false := by rw [beq_eq_false_iff_ne]; omega
  have t2 : decide ((40 : Int) < l.length) = false := decide_eq_false (by omega)
  obtain ⟨q, hq, hq2⟩ := mod_nat a1 l.length (by omega)
  obtain ⟨q', hq', hq2'⟩ := mod_nat a2 l.length (by omega)
  have HQ := Lib.hid hq; clear hq
  have HQ' := Lib.hid hq'; clear hq'
  have hL : HasW w w.heap.size (.slice (some ⟨b, off, none⟩) l.length cap) l := .inr ⟨b, off, cap, rfl, hcap, hb, hc⟩
  have RL := Lib.hid (root_any l _ _ w (by omega) hL)
  have CP := Lib.hid fun n => path_ok l q q rfl _ (w.drewN n) (by omega) hq2 hL
  have f0 := check_leaf l q hq2 (by omega) y
  have f1 := Lib.hid fun k hk => check_elem l q hq2 (by omega) y k hk
  have f2 := Lib.hid (root_test l q' hq2' y)
  have n20 := Lib.hid (path_20 (l := l) (i := q) hq2 (by omega))
  have hcz := hc q hq2
  have HL := Lib.hid hL; clear hL
  have HC := Lib.hid hc; clear hc
  generalize hR : Mt.root l = R at *
  generalize hP : Mt.path l q = P at *
  generalize hZ : l.getD q 0 = z at *
  obtain ⟨i0, hi0, hz0, hz1, hz2⟩ := info_parts infoWord
  go_enter Try.func5, Try.ntmps5
  go_wp2_with fail
  refine (mod_to _ _ q HQ.out _ h1 (by omega) (by omega)).mono ?_; rintro e w' ⟨rfl, rfl⟩
  go_wp2_with fail
  refine (RL.out).mono ?_; rintro e w' ⟨rfl, r0, rfl⟩
  rw [hR]
  go_wp2_with fail
  refine (CP.out _).mono ?_; rintro e w1 ⟨v1, rfl, o1, bb1⟩
  rw [hP] at o1
  clear hP hR hZ
  obtain ⟨p1, cp, rfl⟩ := o1.has.form
  have b1 : Below w.heap.size w w1 := (below_drewN (Below.refl _ _) r0).trans bb1
  have O1 := Lib.hid o1
  have B1 := Lib.hid b1
  have hcz1 : w1.cell? ⟨b, off + q, none⟩ = some (.int .u64 (uv z)) := by rw [b1.cell (p := ⟨b, off + q, none⟩) hb]; exact hcz
  have g0 := word_eq y z
  generalize decide (y = z) = c0 at f0 g0
  have C0 := Lib.hid fun n => Calls.quiet_of (check_to R l.length q y P c0 f0 _ _ (w1.drewN n) o1.has)
  clear o1 b1 bb1 f0
  go_wp2_with fail
  go_quiet (first
    | (go_at_call 18; with_reducible exact C0.out _))
  go_wp2_with fail
  clear g0 C0
  go_loopw [57] (PathRel P.length w1) (fun i _ => P.length - (intOf i).toNat)
  case atStart => exact ⟨0, by omega, rfl, below_drewN (Below.refl _ _) _⟩
  case round =>
    obtain ⟨k, hk, rfl, hbr⟩ := hrel
    have HB := Lib.hid hbr
    have p20 := n20.out
    by_cases hlt : k < P.length
    · obtain ⟨gp, cp', he, hg1, hg2⟩ := O1.out.form (by omega)
      simp only [Value.slice.injEq, true_and] at he
      obtain ⟨rfl, rfl⟩ := he
      have hPr := fun i hi => (O1.out.below hbr).cellAt i hi
      have HPR := Lib.hid hPr; clear hPr
      clear hbr
      go_wp2_with (at_builtin; refine wpList_append_lies _ rfl (.const (.slice none 0 0)) (.tmp 60) _ rfl w1.heap.size 25 i0 _ 1 8 Try.underlying22 hi0 hz0 hz1 hz2 rfl (by omega) (.slice none 0 0) 0 [] rfl (World.ownsRow_nil _ _ _ _) ⟨gp, 0, none⟩ P.length cp (P.map wval) rfl (by simp) ?c1 ?c2 (by omega) (by unfold maxLen; omega) (by omega) HB.out.size _ rfl ?_)
      case c1 =>
        intro j v hv
        have hj : j < P.length := by
          have := (List.getElem?_eq_some_iff.1 hv).1
          simpa using this
        rw [add_plain', Nat.zero_add, HPR.out j (by omega)]; simpa using hv
      case c2 => intro v hv; obtain ⟨u, _, rfl⟩ := List.mem_map.1 (show v ∈ P.map wval by simpa using hv); rfl
      intro g1 cap1 w4 own1 grow1 _ _
      obtain ⟨b4, hg, lt4, hcap1, hcell, hfr⟩ := clone_facts HB.out own1 grow1
      clear own1 grow1
      have hq4 : w4.cell? ⟨g1, k, none⟩ = some (.int .u64 (uv (P.getD k 0))) := by rw [hcell k hlt]; simp [hlt, wval]
      have hfz := hfr k
      have HSET := Lib.hid (set_has (y := y) rfl hcap1 lt4 hlt hcell)
      have b5 : Below w1.heap.size w1 (w4.setCell ⟨g1, k, none⟩ (.int .u64 (uv y))) := b4.setCell hg _
      have hcz5 : (w4.setCell ⟨g1, k, none⟩ (.int .u64 (uv y))).cell? ⟨b, off + q, none⟩ = some (.int .u64 (uv z)) := by
        rw [b5.cell (p := ⟨b, off + q, none⟩) (Nat.lt_of_lt_of_le hb B1.out.size)]; exact hcz1
      have hpk5 : (w4.setCell ⟨g1, k, none⟩ (.int .u64 (uv y))).cell? ⟨gp, k, none⟩ = some (.int .u64 (uv (P.getD k 0))) := by
        rw [b5.cell (p := ⟨gp, k, none⟩) hg2, (O1.out.cellAt k (by omega))]; simp [hlt, wval]
      have f := f1.out k hlt
      have B5 := Lib.hid b5; clear b5
      clear hcell hfr hcz hcz1 b4
      generalize P.getD k 0 = t at hq4 hpk5 f
      have g0 := word_eq y t
      generalize decide (y = t) = c1 at f g0
      go_wp2_with fail
      obtain ⟨w5, hw5⟩ : ∃ w5, w5 = w4.setCell ⟨g1, k, none⟩ (.int .u64 (uv y)) := ⟨_, rfl⟩
      rw [← hw5] at B5 HSET hcz5 hpk5
      rw [← hw5]
      clear hw5 hq4 hfz
      have C1 := Lib.hid fun n => Calls.quiet_of (check_to R l.length q z (P.set k y) c1 f _ _ (w5.drewN n) HSET.out)
      clear f
      go_quiet (first
        | (go_at_call 18; with_reducible exact C1.out _))
      go_wp2_with fail
      go_roundw
      case rel => exact ⟨k + 1, by omega, by go_num, below_drewN B5.out _⟩
      case measure => simp [intOf]; omega
    · obtain rfl : k = P.length := by omega
      have EB : Below w.heap.size w wr := B1.out.trans (hbr.mono B1.out.size)
      have HEB := Lib.hid EB
      clear hbr EB hcz hcz1
      go_wp2_with (at_builtin; refine wpList_append_lies _ rfl (.const (.slice none 0 0)) (.tmp 84) _ rfl w.heap.size 25 i0 _ 1 8 Try.underlying22 hi0 hz0 hz1 hz2 rfl (by omega) (.slice none 0 0) 0 [] rfl (World.ownsRow_nil _ _ _ _) ⟨b, off, none⟩ l.length cap (l.map wval) rfl (by simp) ?d1 ?d2 (by omega) (by unfold maxLen; omega) (by omega) HEB.out.size _ rfl ?_)
      case d1 =>
        intro j v hv
        have hv' : (l.map wval)[j]? = some v := by simpa using hv
        rw [List.getElem?_map] at hv'
        obtain ⟨u, hu, rfl⟩ := Option.map_eq_some_iff.1 hv'
        obtain ⟨hj, e⟩ := List.getElem?_eq_some_iff.1 hu
        rw [add_plain', HEB.out.cell (p := ⟨b, off + j, none⟩) hb, HC.out j hj, ← e]
        simp [hj, wval]
      case d2 => intro v hv; obtain ⟨u, _, rfl⟩ := List.mem_map.1 (show v ∈ l.map wval by simpa using hv); rfl
      intro g1 cap1 w4 own1 grow1 _ _
      obtain ⟨b4, hg, lt4, hcap1, hcell, hfr⟩ := clone_facts HEB.out own1 grow1
      clear own1 grow1
      have hq4 : w4.cell? ⟨g1, q', none⟩ = some (.int .u64 (uv (l.getD q' 0))) := by rw [hcell q' hq2']; simp [hq2', wval]
      have hfz := hfr q'
      obtain ⟨w5, hw5⟩ : ∃ w5, w5 = w4.setCell ⟨g1, q', none⟩ (.int .u64 (uv y)) := ⟨_, rfl⟩
      have hset := set_has (y := y) rfl hcap1 lt4 hq2' hcell
      have b5 : Below w.heap.size w (w4.setCell ⟨g1, q', none⟩ (.int .u64 (uv y))) := b4.setCell hg _
      rw [← hw5] at hset b5
      have RM := Lib.hid (root_any (l.set q' y) _ _ w5 (by simp; omega) hset)
      have SA := Lib.hid fun n => same_any l (l.set q' y) _ _ _ _ (w5.drewN n) (by omega) (HL.out.below (below_drewN b5 n) (Nat.le_refl _)) hset
      have B5 := Lib.hid b5
      have g2 := f2.out
      have HW5 := Lib.hid hw5
      clear hcell hfr b4 hset b5 hw5
      generalize decide (l = l.set q' y) = c2 at g2 SA
      go_wp2_with fail
      refine (mod_to _ _ q' HQ'.out _ h2 (by omega) (by omega)).mono ?_; rintro e w' ⟨rfl, rfl⟩
      go_wp2_with fail
      rw [← HW5.out]
      refine (RM.out).mono ?_; rintro e w' ⟨rfl, r1, rfl⟩
      go_wp2_with fail
      refine (SA.out _).mono ?_; rintro e w' ⟨rfl, rfl⟩
      go_wp2_with fail
      refine (awake_any _).mono ?_; rintro e w6 ⟨rfl, hb6⟩
      have B6 := Lib.hid ((below_drewN B5.out r1).trans (hb6.mono B5.out.size)); clear hb6
      go_wp2_with fail
      go_ret
      exact ⟨rfl, B6.out⟩
theorem walk (w : World) (v0 : Value) (l0 : List W) (m0 : l0.length ≤ maxLen) (b0 : HasW w w.heap.size v0 l0) (a1 : Int) (w1 : (Lit.int .i64 a1).wf = true) (a2 : Int) (w2 : (Lit.int .i64 a2).wf = true) (a3 : Int) (w3 : (Lit.int .u64 a3).wf = true) :
    Calls Try.prog 5 #[v0, .int .i64 a1, .int .i64 a2, .int .u64 a3] w fun e w' => e = .returned (.bool true) ∧ Below w.heap.size w w' := by
  obtain ⟨y, rfl⟩ := uv_of_wf a3 w3
  rcases b0 with ⟨a, cap, rfl, rfl⟩ | ⟨b, off, cap, rfl, h2, h3, h4⟩
  · exact walk_awake a 0 cap a1 a2 y w (.inl rfl) (by decide)
  · by_cases h : l0.length = 0 ∨ 40 < l0.length
    · exact walk_awake _ _ cap a1 a2 y w h m0
    · exact walk_some l0 b off cap a1 a2 y w w1 w2 (by omega) (by omega) h2 h3 h4
end merkleChanges
end Go.Proofs.Ytekghohjjecenaa
