/-
  What Sign of the chapter of rings returns. Nothing that was there has changed. No condition.
-/
import Derived.Test.YthkkjocmglcjnaaRefSig
import Derived.Test.YthkkjocmglcjnaaRec
import Derived.BigRegion
import Derived.Deep.RegionHeld3
import Derived.Deep.DeepCutAuto
namespace Go.Proofs.Ythkkjocmglcjnaa
open Go.ChangeShapes Go.WideShapes Go.ChangeAt Go.RowKit
open Dg (W B)
theorem Kr.chains_len (s : W) (k : Nat) (d : W) : (Kr.chains s k d).length = 18 := Ot.sign_len _ _
def ringV (s : W) (n u : Int) : Value := .agg #[.int .u64 (uv s), .int .i64 n, .int .i64 u]
def sigV (k : Int) (c p : Value) : Value := .agg #[.int .i64 k, c, p]
def noSig : Value := sigV 0 (.slice none 0 0) (.slice none 0 0)
theorem load_ring (w : World) (N : Nat) (s : W) (n u : Int) (h0 : w.cell? ⟨N, 0, none⟩ = some (.int .u64 (uv s))) (h1 : w.cell? ⟨N, 1, none⟩ = some (.int .i64 n)) (h2 : w.cell? ⟨N, 2, none⟩ = some (.int .i64 u)) :
    (loadVar 25 ⟨N, 0, none⟩).run Try.prog w = .ok (ringV s n u) w := by
  simp [loadVar, go_sem, h0, h1, h2, ringV]
theorem load_sig (w : World) (N : Nat) (k : Int) (c p : Value) (h0 : w.cell? ⟨N, 0, none⟩ = some (.int .i64 k)) (h1 : w.cell? ⟨N, 1, none⟩ = some c) (h2 : w.cell? ⟨N, 2, none⟩ = some p) :
    (loadVar 28 ⟨N, 0, none⟩).run Try.prog w = .ok (sigV k c p) w := by
  simp [loadVar, go_sem, h0, h1, h2, sigV]
theorem load_mid (w : World) (a : Obj) (t t' : TypeId) (k : Int) (c p : Value) (y0 y1 y2 : Value) :
    (loadVar 28 ⟨w.heap.size + 1, 0, none⟩).run Try.prog (((w.alloc a).alloc (.cells #[.int .i64 k, c, p] t)).alloc (.cells #[y0, y1, y2] t')).drew = .ok (sigV k c p) (((w.alloc a).alloc (.cells #[.int .i64 k, c, p] t)).alloc (.cells #[y0, y1, y2] t')).drew :=
  load_sig _ _ k c p (by go_simp) (by go_simp) (by go_simp)
theorem load_top (w : World) (a b : Obj) (t : TypeId) (s : W) (n u : Int) :
    (loadVar 25 ⟨w.heap.size + 1 + 1, 0, none⟩).run Try.prog (((w.alloc a).alloc b).alloc (.cells #[.int .u64 (uv s), .int .i64 n, .int .i64 u] t)).drew = .ok (ringV s n u) (((w.alloc a).alloc b).alloc (.cells #[.int .u64 (uv s), .int .i64 n, .int .i64 u] t)).drew :=
  load_ring _ _ s n u (by go_simp) (by go_simp) (by go_simp)
/-- what Sign returns with a ring that it refuses -/
def SignNone (s : W) (n u : Int) (c : Int) (w : World) (e : Ending) (w' : World) : Prop := e = .returned (.tuple #[noSig, ringV s n u, .int .i64 c]) ∧ Below w.heap.size w w'
theorem rksign_range (s : W) (n u : Int) (d : W) (w : World) (h : n < 1 ∨ 64 < n ∨ u < 0) :
    Calls Try.prog 10 #[ringV s n u, .int .u64 (uv d)] w (SignNone s n u 2 w) := by
  unfold SignNone ringV
  by_cases h1 : n < 1
  · have t1 : decide (n < 1) = true := decide_eq_true h1
    clear h h1
    go_enter Try.func10, Try.ntmps10
    go_wp2_with fail
    go_region
    go_wp2_with fail
    exact bodyPost_ret (results_cct rfl _ _ _ _ rfl rfl (load_mid ..) (load_top ..)) rfl ⟨rfl, below_three _ _ _ _⟩
  · have t1 : decide (n < 1) = false := decide_eq_false h1
    by_cases h2 : 64 < n
    · have t2 : decide (64 < n) = true := decide_eq_true h2
      clear h h1 h2
      go_enter Try.func10, Try.ntmps10
      go_wp2_with fail
      go_region
      go_wp2_with fail
      exact bodyPost_ret (results_cct rfl _ _ _ _ rfl rfl (load_mid ..) (load_top ..)) rfl ⟨rfl, below_three _ _ _ _⟩
    · have t2 : decide (64 < n) = false := decide_eq_false h2
      have t3 : decide (u < 0) = true := decide_eq_true (by omega)
      clear h h1 h2
      go_enter Try.func10, Try.ntmps10
      go_wp2_with fail
      go_region
      go_wp2_with fail
      exact bodyPost_ret (results_cct rfl _ _ _ _ rfl rfl (load_mid ..) (load_top ..)) rfl ⟨rfl, below_three _ _ _ _⟩
theorem rksign_used (s : W) (n u : Int) (d : W) (w : World) (h : 1 ≤ n ∧ n ≤ 64 ∧ n ≤ u) :
    Calls Try.prog 10 #[ringV s n u, .int .u64 (uv d)] w (SignNone s n u 10 w) := by
  unfold SignNone ringV
  have t1 : decide (n < 1) = false := decide_eq_false (by omega)
  have t2 : decide (64 < n) = false := decide_eq_false (by omega)
  have t3 : decide (u < 0) = false := decide_eq_false (by omega)
  have t4 : decide (n ≤ u) = true := decide_eq_true h.2.2
  clear h
  go_enter Try.func10, Try.ntmps10
  go_wp2_with fail
  go_region
  go_wp2_with fail
  exact bodyPost_ret (results_cct rfl _ _ _ _ rfl rfl (load_mid ..) (load_top ..)) rfl ⟨rfl, below_three _ _ _ _⟩
/-- the signature that is being made: it lies in a block of its own, its chains in another one -/
def SignMid (B : Nat) (w0 : World) (k : Int) (c : List W) (pv : Value) (s7 : Value) (wx : World) : Prop :=
  ∃ M cv, s7 = .pointer (some ⟨M, 0, none⟩) ∧ B ≤ M ∧ Rec3 wx M (.int .i64 k) cv pv ∧ Below B w0 wx ∧ MyW B wx cv c ∧ ∀ g n cap, cv = .slice (some ⟨g, 0, none⟩) n cap → g ≠ M
theorem mid_new {B base : Nat} {w0 w2 : World} {k : Int} {v pv : Value} {c : List W} {t : TypeId} (hB : B ≤ base) (hb : Below B w0 w2) (h : MyW base w2 v c) : SignMid B w0 k c pv (.pointer (some ⟨w2.heap.size, 0, none⟩)) (w2.alloc (.cells #[.int .i64 k, v, pv] t)) := by
  have hs : B ≤ w2.heap.size := by obtain ⟨g, _, _, h2, h3, _⟩ := h; omega
  refine ⟨w2.heap.size, v, rfl, hs, Rec3.new _ _ _ _ _, hb.alloc hs _, (h.mono hB).alloc _, ?_⟩
  rintro g n cap rfl
  obtain ⟨g', cap', e, h2, h3, _⟩ := h
  simp only [Value.slice.injEq, Option.some.injEq, Addr.mk.injEq] at e
  omega
theorem mid_old {B base M : Nat} {w0 w2 : World} {k : Int} {v pv a b c' : Value} {c : List W} (hB : B ≤ M) (hM : M < base) (hb : Below B w0 w2) (h : MyW base w2 v c) (q : Rec3 w2 M a b c') :
    SignMid B w0 k c pv (.pointer (some ⟨M, 0, none⟩)) (((w2.setCell ⟨M, 0, none⟩ (.int .i64 k)).setCell ⟨M, 1, none⟩ v).setCell ⟨M, 2, none⟩ pv) := by
  refine ⟨M, v, rfl, hB, q.put _ _ _, ((hb.setCell (p := ⟨M, 0, none⟩) hB _).setCell (p := ⟨M, 1, none⟩) hB _).setCell (p := ⟨M, 2, none⟩) hB _, MyW.mono (((h.far ⟨M, 0, none⟩ (.inl hM) _).far ⟨M, 1, none⟩ (.inl hM) _).far ⟨M, 2, none⟩ (.inl hM) _) (by omega), ?_⟩
  rintro g n cap rfl
  obtain ⟨g', cap', e, h2, h3, _⟩ := h
  simp only [Value.slice.injEq, Option.some.injEq, Addr.mk.injEq] at e
  omega
theorem mid_1 {w0 w1 w2 : World} {k : Int} {v pv : Value} {c : List W} {t : TypeId} (b1 : Below w0.drew.heap.size w0.drew w1) (b2 : Below w1.heap.size w1 w2) (o : MyW w1.heap.size w2 v c) :
    SignMid w0.heap.size w0 k c pv (.pointer (some ⟨w2.heap.size, 0, none⟩)) (w2.alloc (.cells #[.int .i64 k, v, pv] t)) := by
  have d : Below w0.heap.size w0 w1 := (Below.refl _ w0).drew.trans b1
  have hs := d.size
  exact mid_new hs (d.trans (b2.mono hs)) o
theorem mid_2 {w0 w1 w2 : World} {k : Int} {v pv a b c' : Value} {c : List W} {z : Obj} (b1 : Below w0.drew.heap.size w0.drew w1) (b2 : Below (w1.alloc z).heap.size (w1.alloc z) w2) (o : MyW (w1.alloc z).heap.size w2 v c) (q : Rec3 w2 w1.heap.size a b c') :
    SignMid w0.heap.size w0 k c pv (.pointer (some ⟨w1.heap.size, 0, none⟩)) (((w2.setCell ⟨w1.heap.size, 0, none⟩ (.int .i64 k)).setCell ⟨w1.heap.size, 1, none⟩ v).setCell ⟨w1.heap.size, 2, none⟩ pv) := by
  have d : Below w0.heap.size w0 w1 := (Below.refl _ w0).drew.trans b1
  have hs := d.size
  have e := d.alloc hs z
  exact mid_old hs (by simp) (e.trans (b2.mono e.size)) o q
theorem mid_3 {w0 w1 w2 : World} {k : Int} {v pv a b c' : Value} {c : List W} {z : Obj} (b1 : Below (w0.alloc z).drew.heap.size (w0.alloc z).drew w1) (b2 : Below w1.heap.size w1 w2) (o : MyW w1.heap.size w2 v c) (q : Rec3 w2 w0.heap.size a b c') :
    SignMid w0.heap.size w0 k c pv (.pointer (some ⟨w0.heap.size, 0, none⟩)) (((w2.setCell ⟨w0.heap.size, 0, none⟩ (.int .i64 k)).setCell ⟨w0.heap.size, 1, none⟩ v).setCell ⟨w0.heap.size, 2, none⟩ pv) := by
  have e : Below w0.heap.size w0 (w0.alloc z).drew := ((Below.refl _ w0).alloc (Nat.le_refl _) z).drew
  have d := e.trans (b1.mono e.size)
  have hs := b1.size
  have hm : w0.heap.size < w1.heap.size := Nat.lt_of_lt_of_le (by simp) hs
  exact mid_old (Nat.le_refl _) hm (d.trans (b2.mono d.size)) o q
theorem rpath_ring (s : W) (n k : Nat) (hk : k < n) (hn : n ≤ 64) (v : Value) (w : World) (h : HasW w w.heap.size v (Kr.leaves s n)) :
    Calls Try.prog 25 #[v, .int .i64 (k : Int)] w fun e w' => ∃ pv, e = .returned (.tuple #[pv, .int .i64 0]) ∧ OwnW w.heap.size w' pv (Kr.path s n k) ∧ Below w.heap.size w w' := by
  have hc : 0 ≤ (k : Int) ∧ (k : Int) < (Kr.leaves s n).length := by rw [Kr.leaves_len]; omega
  refine (rpath_any (Kr.leaves s n) (k : Int) v w (by rw [Kr.leaves_len]; omega) h).mono ?_
  rintro e w' ⟨pv, rfl, o, b⟩
  rw [if_pos hc] at o ⊢
  exact ⟨pv, rfl, o, b⟩
set_option maxHeartbeats 1000000 in
theorem rksign_apart (s : W) (n k : Nat) (d : W) (w : World) (hk : k < n) (hn : n ≤ 64) :
    Calls Try.prog 10 #[ringV s n k, .int .u64 (uv d)] w fun e w' => ∃ cv pv B, e = .returned (.tuple #[sigV k cv pv, ringV s n ((k + 1 : Nat) : Int), .int .i64 0]) ∧ MyW w.heap.size w' cv (Kr.chains s k d) ∧ OwnW B w' pv (Kr.path s n k) ∧ Below w.heap.size w w' ∧ w.heap.size ≤ B ∧ ∀ g m cap, cv = .slice (some ⟨g, 0, none⟩) m cap → g < B := by
  unfold ringV
  have t1 : decide ((n : Int) < 1) = false := decide_eq_false (by omega)
  have t2 : decide ((64 : Int) < (n : Int)) = false := decide_eq_false (by omega)
  have t3 : decide ((k : Int) < 0) = false := decide_eq_false (by omega)
  have t4 : decide (n ≤ k) = false := decide_eq_false (by omega)
  obtain ⟨w0, hw0⟩ : ∃ w0, w0 = ((w.alloc (.cells #[.int .u64 (uv s), .int .i64 (n : Int), .int .i64 (k : Int)] 25)).alloc (.cells #[.int .i64 0, .slice none 0 0, .slice none 0 0] 28)).alloc (.cells #[.int .u64 0, .int .i64 0, .int .i64 0] 25) := ⟨_, rfl⟩
  have r0 : Rec3 w0 w.heap.size (.int .u64 (uv s)) (.int .i64 (n : Int)) (.int .i64 (k : Int)) := by rw [hw0]; exact ⟨by simp; omega, ⟨by go_simp, by go_simp, by go_simp⟩, by go_simp, by go_simp, by go_simp⟩
  have s0 : w0.heap.size = w.heap.size + 3 := by rw [hw0]; simp
  have BW0 : Hid (Below w.heap.size w w0) := Lib.hid (by rw [hw0]; exact below_3 w _ _ _)
  have rs : Rec3 w0 (w.heap.size + 1) (.int .i64 0) (.slice none 0 0) (.slice none 0 0) := by rw [hw0]; exact ⟨by simp <;> omega, ⟨by go_simp, by go_simp, by go_simp⟩, by go_simp, by go_simp, by go_simp⟩
  have rr : Rec3 w0 (w.heap.size + 1 + 1) (.int .u64 0) (.int .i64 0) (.int .i64 0) := by rw [hw0]; exact ⟨by simp <;> omega, ⟨by go_simp, by go_simp, by go_simp⟩, by go_simp, by go_simp, by go_simp⟩
  have RS := Lib.hid rs; have RR := Lib.hid rr; clear rs rr
  have R0 := Lib.hid r0; have S0 := Lib.hid s0; have W0 := Lib.hid hw0
  clear r0 s0 hw0
  have HK := Lib.hid hk; have HN := Lib.hid hn
  clear hk hn
  go_enter Try.func10, Try.ntmps10
  go_wp2_with fail
  rw [← W0.out]
  go_cut [7] (fun s7 wx => SignMid w0.heap.size w0 k (Kr.chains s k d) (.slice none 0 0) s7 wx)
  case first =>
    have u0 : w0.cell? ⟨w.heap.size, 0, none⟩ = some (.int .u64 (uv s)) := R0.out.2.1.1
    have u2 : w0.cell? ⟨w.heap.size, 2, none⟩ = some (.int .i64 (k : Int)) := R0.out.2.1.2.2
    have x0 : w0.drew.cell? ⟨w.heap.size, 0, none⟩ = some (.int .u64 (uv s)) := R0.out.2.1.1
    have x2 : w0.drew.cell? ⟨w.heap.size, 2, none⟩ = some (.int .i64 (k : Int)) := R0.out.2.1.2.2
    have nm0 : w.heap.size ≠ w0.heap.size := by rw [S0.out]; omega
    have C1 := Lib.hid fun w' => rkseed_to s k w'
    have C2 := Lib.hid fun w' => rsign_any (Kr.seed s (Ot.num k)) d w'
    go_region_held3 (fun wy => wy.cell? ⟨w.heap.size, 0, none⟩ = some (.int .u64 (uv s)) ∧ wy.cell? ⟨w.heap.size, 2, none⟩ = some (.int .i64 (k : Int))) (first | exact ⟨by assumption, by assumption⟩ | with_reducible exact ⟨kalloc z0 _, kalloc z2 _⟩ | with_reducible exact ⟨kalloc y0 _, kalloc y2 _⟩ | with_reducible exact ⟨kallocD u0 _, kallocD u2 _⟩ | with_reducible exact ⟨kset3 z0 nm1 _ _ _, kset3 z2 nm1 _ _ _⟩ | with_reducible exact ⟨kset3 z0 nm0 _ _ _, kset3 z2 nm0 _ _ _⟩) (first
      | (go_at_call 15; refine (C1.out _).mono ?_; rintro e w1 ⟨rfl, b1⟩; have y0 := kept b1 (by first | exact x0 | exact kallocD u0 _); have y2 := kept b1 (by first | exact x2 | exact kallocD u2 _); have B1 := Lib.hid b1; have nm1 : w.heap.size ≠ w1.heap.size := (by have := b1.size; simp at this; have := S0.out; omega); (try (have q1 : Rec3 w1 w0.heap.size (.int .i64 0) (.slice none 0 0) (.slice none 0 0) := (Rec3.new w0.drew _ _ _ _).below b1 (by simp); obtain ⟨l1, ⟨p1, p2, p3⟩, f1, f2, f3⟩ := q1)); clear b1)
      | (go_at_call 24; refine (C2.out _).mono ?_; rintro e w2 ⟨v2, rfl, o2, b2⟩; obtain ⟨a2, cap2, hv2⟩ := o2.has.form; rw [hv2] at o2 ⊢; clear hv2; have O2 := Lib.hid o2; have z0 := kept b2 (by first | exact y0 | exact kalloc y0 _); have z2 := kept b2 (by first | exact y2 | exact kalloc y2 _); have B2 := Lib.hid b2; (try (have q2 : Rec3 w2 w0.heap.size (.int .i64 0) (.slice none 0 0) (.slice none 0 0) := Rec3.below ⟨l1, ⟨p1, p2, p3⟩, f1, f2, f3⟩ b2 l1; obtain ⟨l2, ⟨p4, p5, p6⟩, f4, f5, f6⟩ := q2)); (try (have q2 : Rec3 w2 w1.heap.size (.int .i64 0) (.slice none 0 0) (.slice none 0 0) := (Rec3.new w1 _ _ _ _).below b2 (by simp); obtain ⟨l2, ⟨p4, p5, p6⟩, f4, f5, f6⟩ := q2)); clear b2 o2))
    all_goals (go_wp2_with fail; go_meet)
    · exact mid_1 B1.out B2.out (OwnW.my O2.out (by rw [Kr.chains_len]; omega))
    · exact mid_2 B1.out B2.out (OwnW.my O2.out (by rw [Kr.chains_len]; omega)) ⟨l2, ⟨p4, p5, p6⟩, f4, f5, f6⟩
    · exact mid_3 B1.out B2.out (OwnW.my O2.out (by rw [Kr.chains_len]; omega)) ⟨l2, ⟨p4, p5, p6⟩, f4, f5, f6⟩
  case rest =>
    obtain ⟨M, cv, rfl, hM, rec, bel, my, ne⟩ := hcut
    have rbox := R0.out.below bel (by rw [S0.out]; omega)
    obtain ⟨g, cap, rfl⟩ := my.form
    have HNE := Lib.hid (ne _ _ _ rfl)
    have LG : Hid (g < wc.heap.size) := Lib.hid (by
      obtain ⟨g', cap', e', _, h3, _⟩ := my
      simp only [Value.slice.injEq, Option.some.injEq, Addr.mk.injEq] at e'
      omega)
    have REC := Lib.hid rec; have BEL := Lib.hid bel; have MY := Lib.hid my
    obtain ⟨xl, ⟨x0, x1, x2⟩, x4, x5, x6⟩ := rbox
    have nmM : w.heap.size ≠ M := by have := S0.out; omega
    have LM := Lib.hid (show w.heap.size + 3 ≤ M by have := S0.out; omega)
    obtain ⟨rl, ⟨r1, r2, r3⟩, r4, r5, r6⟩ := rec
    clear hM bel my rl r1 r2 r3 r4 r5 r6 xl x4 x5 x6 ne
    have C1 := Lib.hid fun w' => rkleaves_any s n HN.out w'
    have C2 := Lib.hid fun v (w' : World) (h : OwnW wc.drew.heap.size w' v (Kr.leaves s n)) => rpath_ring s n k HK.out HN.out v w' h.has
    go_wp2_with fail
    have y0 : wc.drew.cell? ⟨w.heap.size, 0, none⟩ = some (.int .u64 (uv s)) := x0
    have y1 : wc.drew.cell? ⟨w.heap.size, 1, none⟩ = some (.int .i64 (n : Int)) := x1
    have y2 : wc.drew.cell? ⟨w.heap.size, 2, none⟩ = some (.int .i64 (k : Int)) := x2
    go_region_held3 (fun wy => wy.cell? ⟨w.heap.size, 0, none⟩ = some (.int .u64 (uv s)) ∧ wy.cell? ⟨w.heap.size, 1, none⟩ = some (.int .i64 (n : Int)) ∧ wy.cell? ⟨w.heap.size, 2, none⟩ = some (.int .i64 (k : Int))) (first | exact ⟨by assumption, by assumption, by assumption⟩ | with_reducible exact ⟨kset1 u0 nmM _, kset1 u1 nmM _, kset1 u2 nmM _⟩ | (trace_state; fail)) (first
      | (go_at_call 26; refine (C1.out _).mono ?_; rintro e w1 ⟨v1, rfl, o1, b1⟩; have z0 := kept b1 y0; have z1 := kept b1 y1; have z2 := kept b1 y2; have O1 := Lib.hid o1; have d1 : Below wc.heap.size wc w1 := (Below.refl _ wc).drew.trans b1; have B1 := Lib.hid d1; clear b1 o1 d1)
      | (go_at_call 25; refine (C2.out _ _ O1.out).mono ?_; rintro e w2 ⟨v2, rfl, o2, b2⟩; obtain ⟨a2, cap2, hv2⟩ := o2.has.form; rw [hv2] at o2 ⊢; clear hv2; have O2 := Lib.hid o2; have u0 := kept b2 z0; have u1 := kept b2 z1; have u2 := kept b2 z2; have B2 := Lib.hid b2; obtain ⟨rl, ⟨r1, r2, r3⟩, r4, r5, r6⟩ := (REC.out.below B1.out REC.out.1).below B2.out (Nat.lt_of_lt_of_le REC.out.1 B1.out.size); clear b2 o2))
    have lM : M < w1.heap.size := Nat.lt_of_lt_of_le REC.out.1 B1.out.size
    have lN : w.heap.size + 3 ≤ M := LM.out
    have s0 := S0.out
    have bel2 : Below w0.heap.size w0 w2 := (BEL.out.trans (B1.out.mono BEL.out.size)).trans (B2.out.mono (Nat.le_trans BEL.out.size B1.out.size))
    obtain ⟨w4, hw4⟩ : ∃ w4, w4 = w2.setCell ⟨M, 2, none⟩ (.slice a2 (Kr.path s n k).length cap2) := ⟨_, rfl⟩
    have OW4 : Hid (OwnW w1.heap.size w4 (.slice a2 (Kr.path s n k).length cap2) (Kr.path s n k)) := Lib.hid (by rw [hw4]; exact OwnW.far O2.out ⟨M, 2, none⟩ lM _)
    have RM4 : Hid (Rec3 w4 M (.int .i64 k) (.slice (some ⟨g, 0, none⟩) (Kr.chains s k d).length cap) (.slice a2 (Kr.path s n k).length cap2)) := Lib.hid (by rw [hw4]; exact ((REC.out.below B1.out REC.out.1).below B2.out lM).third _)
    have RN4 : Rec3 w4 w.heap.size (.int .u64 (uv s)) (.int .i64 (n : Int)) (.int .i64 (k : Int)) := by rw [hw4]; exact (R0.out.below bel2 (by omega)).far ⟨M, 2, none⟩ (by simp; omega) _
    have RS4 : Hid (Rec3 w4 (w.heap.size + 1) (.int .i64 0) (.slice none 0 0) (.slice none 0 0)) := Lib.hid (by rw [hw4]; exact (RS.out.below bel2 (by omega)).far ⟨M, 2, none⟩ (by simp; omega) _)
    have RR4 : Hid (Rec3 w4 (w.heap.size + 1 + 1) (.int .u64 0) (.int .i64 0) (.int .i64 0)) := Lib.hid (by rw [hw4]; exact (RR.out.below bel2 (by omega)).far ⟨M, 2, none⟩ (by simp; omega) _)
    have MY4 : Hid (MyW w0.heap.size w4 (.slice (some ⟨g, 0, none⟩) (Kr.chains s k d).length cap) (Kr.chains s k d)) := Lib.hid (by rw [hw4]; exact ((MY.out.below B1.out).below B2.out).farNe ⟨M, 2, none⟩ (by rintro g' n' c' e; simp only [Value.slice.injEq, Option.some.injEq, Addr.mk.injEq] at e; have := HNE.out; simp; omega) _)
    have B4 : Hid (Below w0.heap.size w0 w4) := Lib.hid (by rw [hw4]; exact bel2.setCell (p := ⟨M, 2, none⟩) (by simp; omega) _)
    have HK2 := Lib.hid (show k ≤ 64 by have := HK.out; have := HN.out; omega)
    rw [← hw4]
    obtain ⟨xl, ⟨q0, q1, q2⟩, x4, x5, x6⟩ := RN4
    have k64 := HK2.out
    clear hw4 bel2 u0 u1 u2 rl r1 r2 r3 r4 r5 r6 z0 z1 z2 y0 y1 y2 x0 x1 x2 s0 lN lM
    go_wp2_with fail
    obtain ⟨w5, hw5⟩ : ∃ w5, w5 = w4.setCell ⟨w.heap.size, 2, none⟩ (.int .i64 ((k : Int) + 1)) := ⟨_, rfl⟩
    have s0 := S0.out; have lN := LM.out
    have RM5 : Rec3 w5 M (.int .i64 k) (.slice (some ⟨g, 0, none⟩) (Kr.chains s k d).length cap) (.slice a2 (Kr.path s n k).length cap2) := by rw [hw5]; exact RM4.out.far _ (by simp; omega) _
    have RN5 : Rec3 w5 w.heap.size (.int .u64 (uv s)) (.int .i64 (n : Int)) (.int .i64 ((k : Int) + 1)) := by rw [hw5]; exact Rec3.third ⟨xl, ⟨q0, q1, q2⟩, x4, x5, x6⟩ _
    have RS5 : Rec3 w5 (w.heap.size + 1) (.int .i64 0) (.slice none 0 0) (.slice none 0 0) := by rw [hw5]; exact RS4.out.far _ (by simp) _
    have RR5 : Rec3 w5 (w.heap.size + 1 + 1) (.int .u64 0) (.int .i64 0) (.int .i64 0) := by rw [hw5]; exact RR4.out.far _ (by simp; omega) _
    have MY5 : MyW w0.heap.size w5 (.slice (some ⟨g, 0, none⟩) (Kr.chains s k d).length cap) (Kr.chains s k d) := by rw [hw5]; exact My.far MY4.out _ (.inl (by simp; omega)) _
    have OW5 : OwnW w1.heap.size w5 (.slice a2 (Kr.path s n k).length cap2) (Kr.path s n k) := by rw [hw5]; exact OwnW.far OW4.out _ (by have := BEL.out.size; have := B1.out.size; simp; omega) _
    have B5 : Below w.heap.size w w5 := by rw [hw5]; exact Below.setCell (Below.trans BW0.out (B4.out.mono (by omega))) (Nat.le_refl _) _
    rw [← hw5]
    have HM5 := Lib.hid MY5; have HO5 := Lib.hid OW5; have HB5 := Lib.hid B5; have HS5 := Lib.hid RS5; have HR5 := Lib.hid RR5; have HW1 := Lib.hid (show w.heap.size + 3 ≤ w1.heap.size by have := BEL.out.size; have := B1.out.size; omega)
    obtain ⟨-, ⟨a0, a1, a3⟩, -⟩ := RM5
    obtain ⟨-, ⟨b0, b1, b3⟩, -⟩ := RN5
    obtain ⟨-, ⟨c0, c1, c3⟩, c4, c5, c6⟩ := RS5
    obtain ⟨-, ⟨d0, d1, d3⟩, d4, d5, d6⟩ := RR5
    clear hw5 MY5 OW5 B5 q0 q1 q2 xl x4 x5 x6 s0 lN
    go_region
    all_goals go_wp2_with fail
    have r6 := Rec3.drew ((((HS5.out.put (.int .i64 k) (.slice (some ⟨g, 0, none⟩) (Kr.chains s k d).length cap) (.slice a2 (Kr.path s n k).length cap2)).far ⟨w.heap.size + 1 + 1, 0, none⟩ (by simp) (.int .u64 (uv s))).far ⟨w.heap.size + 1 + 1, 1, none⟩ (by simp) (.int .i64 (n : Int))).far ⟨w.heap.size + 1 + 1, 2, none⟩ (by simp) (.int .i64 ((k : Int) + 1)))
    have r7 := Rec3.drew ((((HR5.out.far ⟨w.heap.size + 1, 0, none⟩ (by simp) (.int .i64 k)).far ⟨w.heap.size + 1, 1, none⟩ (by simp) (.slice (some ⟨g, 0, none⟩) (Kr.chains s k d).length cap)).far ⟨w.heap.size + 1, 2, none⟩ (by simp) (.slice a2 (Kr.path s n k).length cap2)).put (.int .u64 (uv s)) (.int .i64 (n : Int)) (.int .i64 ((k : Int) + 1)))
    have s0 := S0.out; have hw1 := HW1.out
    have l6 := load_sig _ _ (k : Int) _ _ r6.2.1.1 r6.2.1.2.1 r6.2.1.2.2
    have l7 := load_ring _ _ s (n : Int) ((k : Int) + 1) r7.2.1.1 r7.2.1.2.1 r7.2.1.2.2
    clear r6 r7
    refine bodyPost_ret (results_cct rfl _ _ ⟨w.heap.size + 1, 0, none⟩ ⟨w.heap.size + 1 + 1, 0, none⟩ rfl rfl l6 l7) rfl ⟨_, _, w1.heap.size, rfl, ?_, ?_, ?_, ?_, ?_⟩
    · exact MyW.mono (MyW.six HM5.out (by omega) (by omega) _ _ _ _ _ _) (by omega)
    · exact OwnW.six HO5.out (by omega) (by omega) _ _ _ _ _ _
    · exact below_six HB5.out (by omega) (by omega) _ _ _ _ _ _
    · omega
    · rintro g' m' cap' e'
      simp only [Value.slice.injEq, Option.some.injEq, Addr.mk.injEq] at e'
      have := LG.out; have := B1.out.size
      omega
theorem rksign_good (s : W) (n k : Nat) (d : W) (w : World) (hk : k < n) (hn : n ≤ 64) :
    Calls Try.prog 10 #[ringV s n k, .int .u64 (uv d)] w fun e w' => ∃ cv pv, e = .returned (.tuple #[sigV k cv pv, ringV s n ((k + 1 : Nat) : Int), .int .i64 0]) ∧ MyW w.heap.size w' cv (Kr.chains s k d) ∧ OwnW w.heap.size w' pv (Kr.path s n k) ∧ Below w.heap.size w w' := by
  refine (rksign_apart s n k d w hk hn).mono ?_
  rintro e w' ⟨cv, pv, B, h1, h2, h3, h4, h5, _⟩
  exact ⟨cv, pv, h1, h2, OwnW.mono h3 h5, h4⟩
end Go.Proofs.Ythkkjocmglcjnaa
