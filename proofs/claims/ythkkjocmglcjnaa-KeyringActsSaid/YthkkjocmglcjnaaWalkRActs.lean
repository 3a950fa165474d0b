/-
  The walk of KeyringActs: it returns true. No condition.
-/
import Derived.Test.YthkkjocmglcjnaaSgn
import Derived.Test.YthkkjocmglcjnaaFlip
import Derived.Test.YthkkjocmglcjnaaOpenSig
import Derived.Deep.DeepCutAuto
import Derived.Deep.CutBlock
namespace Go.Proofs.Ythkkjocmglcjnaa.keyringActs
open Go.ChangeShapes Go.WideShapes Go.ChangeAt Go.RowKit
open Dg (W B)
set_option maxRecDepth 100000 in
set_option maxHeartbeats 1000000 in
theorem walk_awake (w : World) (s0 n0 u0 k0 : Int) (a1 : Option Addr) (m1 c1 : Nat) (a2 : Option Addr) (m2 c2 : Nat) (r d a4 a5 a6 sd : Int) (h1 : m1 ≤ maxLen) (h2 : m2 ≤ maxLen) (h : 30 < m1 ∨ 20 < m2) :
    Calls Try.prog 3 #[.agg #[.int .u64 s0, .int .i64 n0, .int .i64 u0], .agg #[.int .i64 k0, .slice a1 m1 c1, .slice a2 m2 c2], .int .u64 r, .int .u64 d, .int .i64 a4, .int .i64 a5, .int .i64 a6, .int .u64 sd] w fun e w' => e = .returned (.bool true) ∧ Below w.heap.size w w' := by
  unfold maxLen at h1 h2
  have B0 := Lib.hid (((Below.refl w.heap.size w).alloc (Nat.le_refl _) (.cells #[.int .u64 s0, .int .i64 n0, .int .i64 u0] 25)).alloc (by simp) (.cells #[.int .i64 k0, .slice a1 m1 c1, .slice a2 m2 c2] 28))
  by_cases h3 : 30 < m1
  · have t1 : decide ((30 : Int) < (m1 : Int)) = true := decide_eq_true (by omega)
    clear h
    go_enter Try.func3, Try.ntmps3
    go_wp2_with fail
    refine (awake_any _).mono ?_; rintro e w1 ⟨rfl, hb⟩
    have B1 := Lib.hid (B0.out.trans (hb.mono B0.out.size)); clear hb
    go_wp2_with fail
    go_ret
    exact ⟨rfl, B1.out⟩
  · have t1 : decide ((30 : Int) < (m1 : Int)) = false := decide_eq_false (by omega)
    have t2 : decide ((20 : Int) < (m2 : Int)) = true := decide_eq_true (by omega)
    clear h h3
    go_enter Try.func3, Try.ntmps3
    go_wp2_with fail
    refine (awake_any _).mono ?_; rintro e w1 ⟨rfl, hb⟩
    have B1 := Lib.hid (B0.out.trans (hb.mono B0.out.size)); clear hb
    go_wp2_with fail
    go_ret
    exact ⟨rfl, B1.out⟩
theorem same_sig (k : Int) (c p : List W) (u1 v1 u2 v2 : Value) (w : World) (lc : c.length ≤ 64) (lp : p.length ≤ 64)
    (hc1 : HasW w w.heap.size u1 c) (hp1 : HasW w w.heap.size v1 p) (hc2 : HasW w w.heap.size u2 c) (hp2 : HasW w w.heap.size v2 p) :
    Calls Try.prog 11 #[.agg #[.int .i64 k, u1, v1], .agg #[.int .i64 k, u2, v2]] w fun e w' => e = .returned (.bool true) ∧ Below w.heap.size w w' := by
  refine (rksame_any k k c p c p u1 v1 u2 v2 w (by omega) (by omega) hc1 hp1 hc2 hp2).mono ?_
  rintro e w' ⟨rfl, hb⟩
  exact ⟨by simp, hb⟩
def rv (s : W) (m : Int) : Int := if 1 ≤ m ∧ m ≤ 64 then uv (Kr.root s m.toNat) else 0
def rc (m : Int) : Int := if 1 ≤ m ∧ m ≤ 64 then 0 else 2
def RPost (s : W) (m : Int) (w : World) (e : Ending) (w' : World) : Prop := e = .returned (.tuple #[.int .u64 (rv s m), .int .i64 (rc m)]) ∧ Below w.heap.size w w'
theorem kroot_gen (s : W) (m : Int) (w : World) : Calls Try.prog 12 #[.int .u64 (uv s), .int .i64 m] w (RPost s m w) := kroot_any s m w
theorem rkroot_gen (s : W) (m : Int) (w : World) : Calls Try.prog 13 #[.int .u64 (uv s), .int .i64 m] w (RPost s m w) := rkroot_any s m w
theorem rv_nat (s : W) (n : Nat) (h1 : 1 ≤ n) (h2 : n ≤ 64) : rv s n = uv (Kr.root s n) := by unfold rv; rw [if_pos (by omega), Int.toNat_natCast]
theorem rkroot_to (s : W) (n : Nat) (h1 : 1 ≤ n) (hn : n ≤ 64) (w : World) :
    Calls Try.prog 13 #[.int .u64 (uv s), .int .i64 (n : Int)] w fun e w' => e = .returned (.tuple #[.int .u64 (uv (Kr.root s n)), .int .i64 0]) ∧ Below w.heap.size w w' := by
  refine (rkroot_any s n w).mono ?_
  rintro e w' ⟨rfl, hb⟩
  have h : 1 ≤ (n : Int) ∧ (n : Int) ≤ 64 := by omega
  rw [if_pos h, if_pos h, Int.toNat_natCast]
  exact ⟨rfl, hb⟩
/-- a signature of the chapter: what it is made of may be written; its chains lie below its path -/
def RSigned (s : W) (n k : Nat) (d : W) (w : World) (e : Ending) (w' : World) : Prop :=
  ∃ g c1 a2 m c2 B, e = .returned (.tuple #[.agg #[.int .i64 (k : Int), .slice (some ⟨g, 0, none⟩) 18 c1, .slice a2 m c2], .agg #[.int .u64 (uv s), .int .i64 (n : Int), .int .i64 ((k : Int) + 1)], .int .i64 0])
    ∧ Hid (m = (Kr.path s n k).length) ∧ MyW w.heap.size w' (.slice (some ⟨g, 0, none⟩) 18 c1) (Kr.chains s k d) ∧ OwnW B w' (.slice a2 m c2) (Kr.path s n k) ∧ Below w.heap.size w w' ∧ w.heap.size ≤ B ∧ g < B ∧ B ≤ w'.heap.size
theorem rksign_to (s : W) (n k : Nat) (d : W) (hk : k < n) (hn : n ≤ 64) (w : World) : Calls Try.prog 10 #[.agg #[.int .u64 (uv s), .int .i64 (n : Int), .int .i64 (k : Int)], .int .u64 (uv d)] w (RSigned s n k d w) := by
  refine (rksign_apart s n k d w hk hn).mono ?_
  rintro e w' ⟨cv, pv, B, rfl, hc, hp, hb, hB, hg⟩
  obtain ⟨a2, c2, rfl⟩ := (OwnW.has hp).form
  obtain ⟨g, c1, h⟩ := id hc
  obtain ⟨rfl, _⟩ := h
  have hg' := hg g _ c1 rfl
  rw [Kr.chains_len] at hc
  have hg2 : g < w'.heap.size := by
    obtain ⟨g', c', e, _, h3, _⟩ := hc
    simp only [Value.slice.injEq, Option.some.injEq, Addr.mk.injEq] at e
    omega
  have hs := hb.size
  exact ⟨g, c1, a2, _, c2, min B w'.heap.size, by rw [Kr.chains_len]; rfl, Lib.hid rfl, hc, OwnW.mono hp (Nat.min_le_left _ _), hb, by omega, by omega, Nat.min_le_right _ _⟩
theorem MyW.put {base : Nat} {w : World} {g n c : Nat} {l : List W} (h : MyW base w (.slice (some ⟨g, 0, none⟩) n c) l) (i : Nat) (hi : i < n) (x : W) : HasW (w.setCell ⟨g, i, none⟩ (.int .u64 (uv x))) w.heap.size (.slice (some ⟨g, 0, none⟩) n c) (l.set i x) := by
  obtain ⟨g', c', e, h1, h2, h3, h4⟩ := h
  simp only [Value.slice.injEq, Option.some.injEq, Addr.mk.injEq] at e
  obtain ⟨⟨rfl, _⟩, rfl, rfl⟩ := e
  exact set_has rfl h3 h2 hi fun j hj => by rw [(h4 j hj).1]; simp [hj]
theorem MyW.at {base : Nat} {w : World} {g n c : Nat} {l : List W} (h : MyW base w (.slice (some ⟨g, 0, none⟩) n c) l) (i : Nat) (hi : i < n) : w.cell? ⟨g, i, none⟩ = some (.int .u64 (uv (l.getD i 0))) ∧ w.frozen? ⟨g, i, none⟩ = false := by
  obtain ⟨g', c', e, h1, h2, h3, h4⟩ := h
  simp only [Value.slice.injEq, Option.some.injEq, Addr.mk.injEq] at e
  obtain ⟨⟨rfl, _⟩, rfl, rfl⟩ := e
  exact h4 i hi
theorem MyW.hasAt {base B : Nat} {w : World} {g n c : Nat} {l : List W} (h : MyW base w (.slice (some ⟨g, 0, none⟩) n c) l) (hg : g < B) : HasW w B (.slice (some ⟨g, 0, none⟩) n c) l := by
  obtain ⟨g', c', e, h1, h2, h3, h4⟩ := h
  simp only [Value.slice.injEq, Option.some.injEq, Addr.mk.injEq] at e
  obtain ⟨⟨rfl, _⟩, rfl, rfl⟩ := e
  exact .inr ⟨g, 0, c, rfl, h3, hg, fun i hi => by rw [Nat.zero_add]; exact (h4 i hi).1⟩
theorem OwnW.farNe {base : Nat} {w : World} {v : Value} {l : List W} (h : OwnW base w v l) (p : Addr) (hp : ∀ g n cap, v = .slice (some ⟨g, 0, none⟩) n cap → g ≠ p.block) (x : Value) : OwnW base (w.setCell p x) v l := by
  obtain ⟨h1, h2⟩ := h
  refine ⟨h1, h2.imp id ?_⟩
  rintro ⟨g, cap, cur, e1, e2, e3, e4⟩
  exact ⟨g, cap, cur, e1, e2, by rw [Below.heap_setCell _ _ _ _ (hp _ _ _ e1)]; exact e3, e4⟩
theorem OwnW.has' {base : Nat} {w : World} {a : Option Addr} {n c : Nat} {l : List W} {x : W} (h : OwnW base w (.slice a (n + 1) c) (l ++ [x])) : HasW w w.heap.size (.slice a (n + 1) c) (l ++ [x]) := OwnW.has h
theorem ring_block (w : World) (o1 o2 : Obj) : ((w.alloc o1).alloc o2).heap[w.heap.size]? = some o1 := by
  have h : ((w.alloc o1).alloc o2).heap[w.heap.size]? = (w.alloc o1).heap[w.heap.size]? := ((Below.refl (w.heap.size + 1) (w.alloc o1)).alloc (by simp) o2).block w.heap.size (Nat.lt_succ_self _)
  rw [h]
  show (w.heap.push o1)[w.heap.size]? = some o1
  simp
theorem hasD {w : World} {N : Nat} {v : Value} {l : List W} {p : Addr} {x : Value} (h : HasW (w.setCell p x) N v l) (hn : N = w.heap.size := by rfl) : HasW (w.setCell p x).drew (w.setCell p x).drew.heap.size v l := by
  subst hn
  exact HasW.wide (show HasW (w.setCell p x).drew w.heap.size v l from h) (by simp)
theorem OwnW.lt' {base : Nat} {w : World} {v : Value} {l : List W} {g n c : Nat} (h : OwnW base w v l) (e : v = .slice (some ⟨g, 0, none⟩) n c) : base ≤ g ∧ g < w.heap.size := by
  subst e; exact World.ownsRow.lt h g rfl
theorem OwnW.typed {base : Nat} {w : World} {g n c : Nat} {l : List W} (h : OwnW base w (.slice (some ⟨g, 0, none⟩) n c) l) : ∃ cur, w.heap[g]? = some (.cells cur 23 (0, 0)) := by
  rcases h.2 with ⟨e, _⟩ | ⟨g', cap, cur, e1, e2, e3, e4⟩
  · cases e
  · simp only [Value.slice.injEq, Option.some.injEq, Addr.mk.injEq] at e1
    obtain ⟨⟨rfl, _⟩, _⟩ := e1
    exact ⟨cur, e3⟩
theorem Rec3.of_block {w w' : World} {N : Nat} {a b c : Value} (h : Rec3 w N a b c) (hs : w.heap.size ≤ w'.heap.size) (hb : w'.heap[N]? = w.heap[N]?) : Rec3 w' N a b c := by
  obtain ⟨h1, ⟨h2, h3, h4⟩, h5, h6, h7⟩ := h
  exact ⟨by omega, ⟨(World.cell?_of_block hb).trans h2, (World.cell?_of_block hb).trans h3, (World.cell?_of_block hb).trans h4⟩, (World.frozen?_of_block hb).trans h5, (World.frozen?_of_block hb).trans h6, (World.frozen?_of_block hb).trans h7⟩
theorem Rec3.first {w : World} {N : Nat} {a b c : Value} (h : Rec3 w N a b c) (x : Value) : Rec3 (w.setCell ⟨N, 0, none⟩ x) N x b c := by
  obtain ⟨h1, ⟨h2, h3, h4⟩, h5, h6, h7⟩ := h
  exact ⟨by simpa using h1, ⟨World.cell?_setCell_same _ _ _ h2, by rw [World.cell?_setCell_other _ _ _ _ (by simp)]; exact h3, by rw [World.cell?_setCell_other _ _ _ _ (by simp)]; exact h4⟩, by rw [World.frozen?_setCell]; exact h5, by rw [World.frozen?_setCell]; exact h6, by rw [World.frozen?_setCell]; exact h7⟩
def Kept (w0 w w' : World) : Prop := Below w0.heap.size w0 w' ∧ ∀ p v, w.cell? p = some v → w'.cell? p = some v
theorem kept_of {w0 w w' : World} (h0 : Below w0.heap.size w0 w) (h : Below w.heap.size w w') : Below w0.heap.size w0 w' ∧ ∀ p v, w.cell? p = some v → w'.cell? p = some v := ⟨h0.trans (h.mono h0.size), fun _ _ g => kept h g⟩
theorem kv (r : W) (n : Int) (d : W) (key : Int) (c p : List W) (cv pv : Value) (y : Int) (hy : y = uv d) (b : Bool) (w0 w : World) (hc : HasW w0 w0.heap.size cv c) (hp : HasW w0 w0.heap.size pv p) (hw : Below w0.heap.size w0 w) (hb : verB r n d key c p = b) :
    Calls Try.prog 16 #[.int .u64 (uv r), .int .i64 n, .int .u64 y, .agg #[.int .i64 key, cv, pv]] w fun e w' => e = .returned (.bool b) ∧ Below w0.heap.size w0 w' ∧ ∀ p v, w.cell? p = some v → w'.cell? p = some v := by
  subst hy; subst hb
  refine (kverify_any r n d key c p cv pv w ((hc.below hw (Nat.le_refl _)).wide hw.size) ((hp.below hw (Nat.le_refl _)).wide hw.size)).mono ?_
  rintro e w' ⟨rfl, h⟩
  exact ⟨rfl, kept_of hw h⟩
theorem rkv (r : W) (n : Int) (d : W) (key : Int) (c p : List W) (cv pv : Value) (y : Int) (hy : y = uv d) (b : Bool) (w0 w : World) (hc : HasW w0 w0.heap.size cv c) (hp : HasW w0 w0.heap.size pv p) (hw : Below w0.heap.size w0 w) (hb : verB r n d key c p = b) :
    Calls Try.prog 17 #[.int .u64 (uv r), .int .i64 n, .int .u64 y, .agg #[.int .i64 key, cv, pv]] w fun e w' => e = .returned (.bool b) ∧ Below w0.heap.size w0 w' ∧ ∀ p v, w.cell? p = some v → w'.cell? p = some v := by
  subst hy; subst hb
  refine (rkverify_any r n d key c p cv pv w ((hc.below hw (Nat.le_refl _)).wide hw.size) ((hp.below hw (Nat.le_refl _)).wide hw.size)).mono ?_
  rintro e w' ⟨rfl, h⟩
  exact ⟨rfl, kept_of hw h⟩
theorem aw (w0 w : World) (hw : Below w0.heap.size w0 w) : Calls Try.prog 7 #[] w fun e w' => e = .returned (.bool true) ∧ Below w0.heap.size w0 w' ∧ ∀ p v, w.cell? p = some v → w'.cell? p = some v := by
  refine (awake_any w).mono ?_
  rintro e w' ⟨rfl, h⟩
  exact ⟨rfl, kept_of hw h⟩
def XRel (w : World) (X : Nat) (wx : World) : Prop :=
  ∃ ky a1 l1 c1 a2 l2 c2 C P, Rec3 wx X (.int .i64 ky) (.slice a1 l1 c1) (.slice a2 l2 c2) ∧ HasW wx wx.heap.size (.slice a1 l1 c1) C ∧ HasW wx wx.heap.size (.slice a2 l2 c2) P ∧ Below w.heap.size w wx
def SRel (w : World) (i : Value) (wr : World) : Prop := ∃ k : Nat, k ≤ 3 ∧ i = .int .i64 (k : Int) ∧ Below w.heap.size w wr
set_option maxRecDepth 100000 in
set_option maxHeartbeats 4000000 in
theorem walk_main (w : World) (s0 : W) (n0 u0 : Int) (wn : (Lit.int .i64 n0).wf = true) (_ : (Lit.int .i64 u0).wf = true) (k0 : Int) (_ : (Lit.int .i64 k0).wf = true) (p1 : Option Addr) (m1 c1 : Nat) (p2 : Option Addr) (m2 c2 : Nat) (C P : List W) (hC : HasW w w.heap.size (.slice p1 m1 c1) C) (hP : HasW w w.heap.size (.slice p2 m2 c2) P)
    (h1 : m1 ≤ 30) (h2 : m2 ≤ 20) (r d : W) (a4 : Int) (w4 : (Lit.int .i64 a4).wf = true) (a5 : Int) (w5 : (Lit.int .i64 a5).wf = true) (a6 : Int) (w6 : (Lit.int .i64 a6).wf = true) (sd : W) :
    Calls Try.prog 3 #[.agg #[.int .u64 (uv s0), .int .i64 n0, .int .i64 u0], .agg #[.int .i64 k0, .slice p1 m1 c1, .slice p2 m2 c2], .int .u64 (uv r), .int .u64 (uv d), .int .i64 a4, .int .i64 a5, .int .i64 a6, .int .u64 (uv sd)] w fun e w' => e = .returned (.bool true) ∧ Below w.heap.size w w' := by
  obtain ⟨q, hq, hq2⟩ := mod_nat a4 5 (by omega)
  obtain ⟨n, hn⟩ : ∃ n : Nat, n = q + 1 := ⟨_, rfl⟩
  have hsum : (1 : Int) + (q : Int) = (n : Int) := by omega
  obtain ⟨v, hv, hv2⟩ := mod_nat a6 (n + 2) (by omega)
  obtain ⟨z, hz, hz2⟩ := mod_nat n0 8 (by omega)
  obtain ⟨q3, hq3, hq32⟩ := mod_nat a4 3 (by omega)
  have HQ3 := Lib.hid hq3; clear hq3
  obtain ⟨k6, hk6, hk62⟩ := mod_nat a6 n (by omega)
  have HK6 := Lib.hid hk6; clear hk6
  obtain ⟨q6, hq6, hq62⟩ := mod_nat a5 6 (by omega)
  have HQ6 := Lib.hid hq6; clear hq6
  obtain ⟨q18, hq18, hq182⟩ := mod_nat a6 18 (by omega)
  have HQ18 := Lib.hid hq18; clear hq18
  have t1 : decide ((30 : Int) < (m1 : Int)) = false := decide_eq_false (by omega)
  have t2 : decide ((20 : Int) < (m2 : Int)) = false := decide_eq_false (by omega)
  have hv : a6 % ((n : Int) + 2) = (v : Int) := by rw [← hv]; rfl
  have HQ := Lib.hid hq; have HV := Lib.hid hv; have HZ := Lib.hid hz
  have n1 : 1 ≤ n := by omega
  have n5 : n ≤ 5 := by omega
  clear hq hv hz hn
  go_enter Try.func3, Try.ntmps3
  go_wp2_with fail
  refine (mod_to _ _ q HQ.out _ w4 (by omega) (by omega)).mono ?_; rintro e w' ⟨rfl, rfl⟩
  go_wp2_with fail
  refine (mod_to _ _ v HV.out _ w6 (by omega) (by omega)).mono ?_; rintro e w' ⟨rfl, rfl⟩
  go_wp2_with fail
  obtain ⟨wa, hwa⟩ : ∃ wa, wa = ((w.alloc (.cells #[.int .u64 (uv s0), .int .i64 n0, .int .i64 u0] 25)).alloc (.cells #[.int .i64 k0, .slice p1 m1 c1, .slice p2 m2 c2] 28)).alloc (.cells #[.int .u64 (uv sd), .int .i64 (n : Int), .int .i64 ((v : Int) - 1)] 25) := ⟨_, rfl⟩
  have r8 : Rec3 wa w.heap.size (.int .u64 (uv s0)) (.int .i64 n0) (.int .i64 u0) := by rw [hwa]; exact ⟨by simp; omega, ⟨by go_simp, by go_simp, by go_simp⟩, by go_simp, by go_simp, by go_simp⟩
  have r9 : Rec3 wa (w.heap.size + 1) (.int .i64 k0) (.slice p1 m1 c1) (.slice p2 m2 c2) := by rw [hwa]; exact ⟨by simp <;> omega, ⟨by go_simp, by go_simp, by go_simp⟩, by go_simp, by go_simp, by go_simp⟩
  have r18 : Rec3 wa (w.heap.size + 1 + 1) (.int .u64 (uv sd)) (.int .i64 (n : Int)) (.int .i64 ((v : Int) - 1)) := by rw [hwa]; exact ⟨by simp <;> omega, ⟨by go_simp, by go_simp, by go_simp⟩, by go_simp, by go_simp, by go_simp⟩
  have ba : Below w.heap.size w wa := by rw [hwa]; exact below_3 w _ _ _
  have za : wa.heap.size = w.heap.size + 3 := by rw [hwa]; simp
  rw [← hwa]
  have R9 := Lib.hid r9; have BA := Lib.hid ba; have ZA := Lib.hid za
  obtain ⟨-, ⟨u0', u1', u2'⟩, -⟩ := r8
  obtain ⟨-, ⟨v0', v1', v2'⟩, -⟩ := r18
  clear hwa r9 ba za
  have x0 : wa.drew.cell? ⟨w.heap.size, 0, none⟩ = some (.int .u64 (uv s0)) := u0'
  have x1 : wa.drew.cell? ⟨w.heap.size, 1, none⟩ = some (.int .i64 n0) := u1'
  have x2 : wa.drew.cell? ⟨w.heap.size, 2, none⟩ = some (.int .i64 u0) := u2'
  have y0 : wa.drew.cell? ⟨w.heap.size + 1 + 1, 0, none⟩ = some (.int .u64 (uv sd)) := v0'
  have y1 : wa.drew.cell? ⟨w.heap.size + 1 + 1, 1, none⟩ = some (.int .i64 (n : Int)) := v1'
  have y2 : wa.drew.cell? ⟨w.heap.size + 1 + 1, 2, none⟩ = some (.int .i64 ((v : Int) - 1)) := v2'
  have hwz : IntKind.i64.wrap ((z : Int) - 1) = (z : Int) - 1 := IntWalk.i64_in _ (by omega)
  go_region_held3 (fun wy => (wy.cell? ⟨w.heap.size, 0, none⟩ = some (.int .u64 (uv s0)) ∧ wy.cell? ⟨w.heap.size, 1, none⟩ = some (.int .i64 n0) ∧ wy.cell? ⟨w.heap.size, 2, none⟩ = some (.int .i64 u0)) ∧ wy.cell? ⟨w.heap.size + 1 + 1, 0, none⟩ = some (.int .u64 (uv sd)) ∧ wy.cell? ⟨w.heap.size + 1 + 1, 1, none⟩ = some (.int .i64 (n : Int)) ∧ wy.cell? ⟨w.heap.size + 1 + 1, 2, none⟩ = some (.int .i64 ((v : Int) - 1)))
    (first | exact ⟨⟨by assumption, by assumption, by assumption⟩, by assumption, by assumption, by assumption⟩ | with_reducible exact ⟨⟨kallocD u0' _, kallocD u1' _, kallocD u2' _⟩, kallocD v0' _, kallocD v1' _, kallocD v2' _⟩ | (trace_state; fail)) (first
    | (go_at_call 8; refine (mod_to _ _ z HZ.out _ wn (by omega) (by omega)).mono ?_; rintro e w' ⟨rfl, rfl⟩))
  obtain ⟨wb, hwb⟩ : ∃ wb, wb = (wa.alloc (.cells #[.int .u64 (uv sd), .int .i64 (n : Int), .int .i64 ((v : Int) - 1), .int .u64 (uv s0), .int .i64 ((z : Int) - 1), .int .i64 u0, .int .u64 1, .int .i64 65, .int .i64 0] 25)).drew := ⟨_, rfl⟩
  have rows : ∀ k, k < 3 → ∃ s' n' u', wb.cell? ⟨wa.heap.size, k * 3, none⟩ = some (.int .u64 (uv s')) ∧ wb.cell? ⟨wa.heap.size, k * 3 + 1, none⟩ = some (.int .i64 n') ∧ wb.cell? ⟨wa.heap.size, k * 3 + 2, none⟩ = some (.int .i64 u') := by
    intro k hk
    rw [hwb]
    obtain rfl | rfl | rfl : k = 0 ∨ k = 1 ∨ k = 2 := by omega
    · exact ⟨sd, n, (v : Int) - 1, by go_simp, by go_simp, by go_simp⟩
    · exact ⟨s0, (z : Int) - 1, u0, by go_simp, by go_simp, by go_simp⟩
    · exact ⟨1#64, 65, 0, by go_simp; decide, by go_simp, by go_simp⟩
  have bb : Below wa.heap.size wa wb := by rw [hwb]; exact ((Below.refl _ _).alloc (Nat.le_refl _) _).drew
  have zb : wa.heap.size < wb.heap.size := by rw [hwb]; simp
  rw [← hwb]
  have ROWS := Lib.hid rows; have BB := Lib.hid bb; have ZB := Lib.hid zb
  clear hwb rows bb zb x0 x1 x2 y0 y1 y2 u0' u1' u2' v0' v1' v2' hwz
  go_wp2
  go_loopw [73] (SRel wb) (fun i _ => 3 - (intOf i).toNat)
  case atStart => exact ⟨0, by omega, rfl, Below.refl _ _⟩
  case round =>
    obtain ⟨k, hk, rfl, hb⟩ := hrel
    have HB := Lib.hid hb
    by_cases hlt : k < 3
    · obtain ⟨s', n', u', e0, e1, e2⟩ := ROWS.out k hlt
      have zb := ZB.out
      have g0 := kept hb e0; have g1 := kept hb e1; have g2 := kept hb e2
      clear hb e0 e1 e2
      have hN := Rec3.new wr (.int .u64 (uv s')) (.int .i64 n') (.int .i64 u') 25
      have HNR := Lib.hid hN; clear hN
      go_wp2_with fail
      refine (ksign_any s' n' u' d _ _ rfl rfl _).mono ?_; rintro e w2 ⟨a1, l1, q1, a2, l2, q2, rfl, o1, o2, b2⟩
      obtain ⟨x9, ⟨x0, x1, x2⟩, -⟩ := HNR.out.below b2 (by simp)
      obtain ⟨ky, hky⟩ : ∃ ky, ky = Sg.key n' u' := ⟨_, rfl⟩
      obtain ⟨us, hus⟩ : ∃ us, us = Sg.used n' u' := ⟨_, rfl⟩
      obtain ⟨cd, hcd⟩ : ∃ cd, cd = Sg.code n' u' := ⟨_, rfl⟩
      have KY := Lib.hid hky; have US := Lib.hid hus; have CD := Lib.hid hcd
      rw [← hky, ← hus, ← hcd]
      clear hky hus hcd
      obtain ⟨w3, hw3⟩ : ∃ w3, w3 = (w2.alloc (.cells #[.int .i64 ky, .slice a1 l1 q1, .slice a2 l2 q2] 28)).alloc (.cells #[.int .u64 (uv s'), .int .i64 n', .int .i64 us] 25) := ⟨_, rfl⟩
      have b23 : Below w2.heap.size w2 w3 := by rw [hw3]; exact ((Below.refl _ _).alloc (Nat.le_refl _) _).alloc (by simp) _
      have z3 : w3.heap.size = w2.heap.size + 2 := by rw [hw3]; simp
      have sa : Rec3 w3 w2.heap.size (.int .i64 ky) (.slice a1 l1 q1) (.slice a2 l2 q2) := by rw [hw3]; exact (Rec3.new w2 _ _ _ _).below ((Below.refl _ _).alloc (Nat.le_refl _) _) (by simp)
      have ra : Rec3 w3 (w2.heap.size + 1) (.int .u64 (uv s')) (.int .i64 n') (.int .i64 us) := by
        have := Rec3.new (w2.alloc (.cells #[.int .i64 ky, .slice a1 l1 q1, .slice a2 l2 q2] 28)) (.int .u64 (uv s')) (.int .i64 n') (.int .i64 us) 25
        rw [hw3]; simpa using this
      have SA := Lib.hid sa; have RA := Lib.hid ra; have Z3 := Lib.hid z3; have W3 := Lib.hid hw3
      have O1 := Lib.hid ((o1.below b23 (Nat.le_refl _)).wide b23.size); have O2 := Lib.hid ((o2.below b23 (Nat.le_refl _)).wide b23.size)
      have B3 := Lib.hid ((HB.out.trans (((Below.refl _ wr).alloc (Nat.le_refl _) (.cells #[.int .u64 (uv s'), .int .i64 n', .int .i64 u'] 25)).trans (b2.mono (by simp)) |>.mono HB.out.size)).trans (b23.mono (by have := b2.size; have := HB.out.size; simp at *; omega)))
      clear b2 b23 z3 sa ra hw3 o1 o2
      go_wp2_with fail
      rw [← W3.out]
      refine (rksign_any s' n' u' d _ _ rfl rfl _).mono ?_; rintro e w4 ⟨a3, l3, q3, a4', l4, q4, rfl, o3, o4, b4⟩
      rw [← KY.out, ← US.out, ← CD.out]
      have z3 := Z3.out
      obtain ⟨l9, ⟨h0, h1, h2⟩, -⟩ := SA.out.below b4 (by omega)
      obtain ⟨l8, ⟨g0, g1, g2⟩, -⟩ := RA.out.below b4 (by omega)
      obtain ⟨w5, hw5⟩ : ∃ w5, w5 = (w4.alloc (.cells #[.int .i64 ky, .slice a3 l3 q3, .slice a4' l4 q4] 28)).alloc (.cells #[.int .u64 (uv s'), .int .i64 n', .int .i64 us] 25) := ⟨_, rfl⟩
      have b45 : Below w4.heap.size w4 w5 := by rw [hw5]; exact ((Below.refl _ _).alloc (Nat.le_refl _) _).alloc (by simp) _
      have b35 : Below w3.heap.size w3 w5 := b4.trans (b45.mono b4.size)
      have W5 := Lib.hid hw5
      have SM := Lib.hid (same_sig ky (Sg.ch s' n' u' d) (Sg.pa s' n' u') _ _ _ _ w5 (Sg.ch_len ..) (Sg.pa_len ..) ((O1.out.below b35 (Nat.le_refl _)).wide b35.size) ((O2.out.below b35 (Nat.le_refl _)).wide b35.size) ((o3.below b45 (Nat.le_refl _)).wide b45.size) ((o4.below b45 (Nat.le_refl _)).wide b45.size))
      have r1 := (RA.out.below b35 (by omega))
      have r2 : Rec3 w5 (w4.heap.size + 1) (.int .u64 (uv s')) (.int .i64 n') (.int .i64 us) := by
        have := Rec3.new (w4.alloc (.cells #[.int .i64 ky, .slice a3 l3 q3, .slice a4' l4 q4] 28)) (.int .u64 (uv s')) (.int .i64 n') (.int .i64 us) 25
        rw [hw5]; simpa using this
      have R1 := Lib.hid r1; have R2 := Lib.hid r2
      have B5 := Lib.hid (B3.out.trans (b35.mono B3.out.size))
      clear b4 b45 b35 hw5 r1 r2 o3 o4
      go_wp2_with fail
      rw [← W5.out]
      refine (SM.out).mono ?_; rintro e w6 ⟨rfl, b6⟩
      have B6 := Lib.hid (B5.out.trans (b6.mono B5.out.size))
      obtain ⟨-, ⟨c0, c1', c2'⟩, -⟩ := R1.out.below b6 (World.block_lt_of_cell? _ _ R1.out.2.1.1)
      obtain ⟨-, ⟨d0, d1, d2⟩, -⟩ := R2.out.below b6 (World.block_lt_of_cell? _ _ R2.out.2.1.1)
      clear b6
      go_wp2_with fail
      go_roundw
      case rel => exact ⟨k + 1, by omega, by go_num, B6.out⟩
      case measure => simp [intOf]; omega
    · obtain rfl : k = 3 := by omega
      go_wp2_with fail
      obtain ⟨R, hR⟩ : ∃ R, R = Kr.root sd n := ⟨_, rfl⟩
      refine (kroot_to sd n _ _ rfl rfl n1 (by omega) _).mono ?_; rintro e w1 ⟨rfl, b1⟩
      have B1 := Lib.hid (HB.out.trans (b1.mono HB.out.size)); clear b1
      rw [← hR]
      go_wp2_with fail
      refine (rkroot_to sd n n1 (by omega) _).mono ?_; rintro e w2 ⟨rfl, b2⟩
      have B2 := Lib.hid (B1.out.trans (b2.mono B1.out.size)); clear b2
      rw [← hR]
      clear hR
      go_wp2_with fail
      refine (mod_to _ _ q3 HQ3.out _ w4 (by omega) (by omega)).mono ?_; rintro e w' ⟨rfl, rfl⟩
      go_wp2_with fail
      refine (kroot_gen sd ((q3 : Int) - 1) _).mono ?_; rintro e w3 ⟨rfl, b3⟩
      have B3 := Lib.hid (B2.out.trans (b3.mono B2.out.size)); clear b3
      obtain ⟨x3, hx3⟩ : ∃ x, x = rv sd ((q3 : Int) - 1) := ⟨_, rfl⟩
      obtain ⟨y3, hy3⟩ : ∃ y, y = rc ((q3 : Int) - 1) := ⟨_, rfl⟩
      rw [← hx3, ← hy3]
      have HX3 := Lib.hid hx3; have HY3 := Lib.hid hy3
      clear hx3 hy3
      go_wp2_with fail
      refine (mod_to _ _ q3 HQ3.out _ w4 (by omega) (by omega)).mono ?_; rintro e w' ⟨rfl, rfl⟩
      go_wp2_with fail
      refine (rkroot_gen sd ((q3 : Int) - 1) _).mono ?_; rintro e w4' ⟨rfl, b4⟩
      have B4 := Lib.hid (B3.out.trans (b4.mono B3.out.size)); clear b4
      rw [← HX3.out, ← HY3.out]
      clear HX3 HY3
      go_wp2_with fail
      refine (kseed_any sd a6 _).mono ?_; rintro e wv ⟨rfl, b5⟩
      have B5 := Lib.hid (B4.out.trans (b5.mono B4.out.size)); clear b5
      go_wp2_with fail
      refine (rkseed_any sd a6 _).mono ?_; rintro e w6' ⟨rfl, b6⟩
      have B6 := Lib.hid (B5.out.trans (b6.mono B5.out.size)); clear b6
      go_wp2_with fail
      refine (mod_to _ _ k6 HK6.out _ w6 (by omega) (by omega)).mono ?_; rintro e w' ⟨rfl, rfl⟩
      go_wp2_with fail
      refine (rksign_to sd n k6 d hk62 (by omega) _).mono ?_; rintro e w7' ⟨g, c3, a2, m, c4, BP, rfl, hm, o1, o2, b7, hBP, hgB, hB7⟩
      have HB7 := Lib.hid hB7; clear hB7
      have HBP := Lib.hid hBP; have HGB := Lib.hid hgB; clear hBP hgB
      have B7 := Lib.hid (B6.out.trans (b7.mono B6.out.size)); clear b7
      have O1 := Lib.hid o1; have O2 := Lib.hid o2; clear o1 o2
      go_wp2_with fail
      refine (mod_to _ _ q6 HQ6.out _ w5 (by omega) (by omega)).mono ?_; rintro e w' ⟨rfl, rfl⟩
      obtain ⟨w8, hw8⟩ : ∃ w8, w8 = (w7'.alloc (.cells #[.int .i64 (k6 : Int), .slice (some ⟨g, 0, none⟩) 18 c3, .slice a2 m c4] 28)).alloc (.cells #[.int .u64 (uv sd), .int .i64 (n : Int), .int .i64 ((k6 : Int) + 1)] 25) := ⟨_, rfl⟩
      rw [← hw8]
      have W8 := Lib.hid hw8; clear hw8
      go_upto_block 2 with fail
      go_cut [] (fun wx => XRel wb w7'.heap.size wx)
      case first =>
        have sx : Rec3 w8 w7'.heap.size (.int .i64 (k6 : Int)) (.slice (some ⟨g, 0, none⟩) 18 c3) (.slice a2 m c4) := by rw [W8.out]; exact (Rec3.new w7' _ _ _ _).below ((Below.refl _ _).alloc (Nat.le_refl _) _) (by simp)
        have b78 : Below w7'.heap.size w7' w8 := by rw [W8.out]; exact ((Below.refl _ _).alloc (Nat.le_refl _) _).alloc (by simp) _
        have my : MyW w6'.heap.size w8 (.slice (some ⟨g, 0, none⟩) 18 c3) (Kr.chains sd k6 d) := O1.out.below b78
        have ow : OwnW BP w8 (.slice a2 m c4) (Kr.path sd n k6) := OwnW.below O2.out b78
        have lg : w6'.heap.size ≤ g ∧ g < w7'.heap.size := by
          obtain ⟨g', cap', e, h2, h3, _⟩ := O1.out
          simp only [Value.slice.injEq, Option.some.injEq, Addr.mk.injEq] at e
          omega
        have l6 := B6.out.size
        have l7 := B7.out.size
        have l67 : w6'.heap.size ≤ w7'.heap.size := by omega
        have B8 := Lib.hid (B7.out.trans (b78.mono l7))
        have SX := Lib.hid sx; have MY := Lib.hid my; have OW := Lib.hid ow
        have lm : m ≤ 64 := by rw [hm.out, Kr.path_len]; have := depth_lt (n := n) (i := k6) hk62 (by omega); omega
        generalize Kr.chains sd k6 d = C0 at my ow MY O1
        obtain ⟨P0, hP0⟩ : ∃ P, P = Kr.path sd n k6 := ⟨_, rfl⟩
        rw [← hP0] at ow hm OW O2
        clear hP0
        obtain ⟨l9, ⟨y0, y1, y2⟩, y3, y4, y5⟩ := sx
        have HL := Lib.hid lg
        have L67 := Lib.hid (And.intro l6 (And.intro l7 l67))
        have h7B : BP ≤ w8.heap.size ∧ w8.heap.size = w7'.heap.size + 2 := by
          have : w8.heap.size = w7'.heap.size + 2 := by rw [W8.out]; simp
          have := HB7.out
          omega
        have H7B := Lib.hid h7B
        have CB : Hid (HasW w8 BP (.slice (some ⟨g, 0, none⟩) 18 c3) C0) := Lib.hid (MyW.hasAt MY.out HGB.out)
        clear lg my ow b78 l6 l7 l67 h7B
        by_cases h0 : q6 = 0
        · obtain rfl := h0
          go_wp2_with fail
          refine (mod_to _ _ v HV.out _ w6 (by omega) (by omega)).mono ?_; rintro e w' ⟨rfl, rfl⟩
          go_wp2_with fail
          go_meet
          have hx := L67.out; have h7 := H7B.out; have hl := HL.out
          exact ⟨_, _, _, _, _, _, _, _, _, Rec3.first SX.out _, MyW.has (My.farNe MY.out ⟨w7'.heap.size, 0, none⟩ (by rintro g' n' c' e'; simp only [Value.slice.injEq, Option.some.injEq, Addr.mk.injEq] at e'; simp; omega) _), OwnW.has (OwnW.farNe OW.out ⟨w7'.heap.size, 0, none⟩ (by rintro g' n' c' e'; have := OwnW.lt' O2.out e'; simp; omega) _), B8.out.setCell (p := ⟨w7'.heap.size, 0, none⟩) (by simp; omega) _⟩
        · by_cases h1 : q6 = 1
          · obtain rfl := h1
            obtain ⟨cc, cf⟩ := MyW.at MY.out q18 hq182
            have hadd := uv_add (C0.getD q18 0) 1#64 1 (by decide)
            have hi18 : (q18 : Int) < 18 := by omega
            have hi0 : (0 : Int) ≤ (q18 : Int) := by omega
            have HSET := Lib.hid (MyW.put MY.out q18 hq182 (C0.getD q18 0 + 1#64))
            generalize C0.getD q18 0 = zc at cc hadd HSET
            go_wp2_with fail
            go_region_with (first | (go_at_call 8; refine (mod_to _ _ q18 HQ18.out _ w6 (by omega) (by omega)).mono ?_; rintro e w' ⟨rfl, rfl⟩))
            all_goals go_wp2_with fail
            all_goals go_meet
            all_goals
              have hx := L67.out; have h7 := H7B.out; have hl := HL.out; have hgb := HGB.out
              exact ⟨_, _, _, _, _, _, _, _, _, Rec3.drew (Rec3.far SX.out ⟨g, q18, none⟩ (by simp; omega) _), hasD HSET.out, OwnW.has (OwnW.drew (OwnW.far OW.out ⟨g, q18, none⟩ (by simp; omega) _)), (B8.out.setCell (p := ⟨g, q18, none⟩) (by simp; omega) _).drew⟩
          · by_cases h2 : q6 = 2
            · obtain rfl := h2
              go_wp2_with (at_builtin; refine wpList_append_word rfl (.tmp 196) (.tmp 197) rfl BP _ P0 1#64 w8.heap.size 1 rfl (by have := OwnW.alloc OW.out (.cells #[.int .u64 1] 23); rw [hm.out] at this ⊢; exact this) rfl (by go_simp; rfl) (by rw [← hm.out]; omega) ?c1 ?_)
              case c1 => have := H7B.out; simp; omega
              intro g3 cap3 w9 own3 grow3
              have h7 := H7B.out; have hx := L67.out
              have ba : Below w8.heap.size w8 (w8.alloc (.cells #[.int .u64 1] 23)) := (Below.refl _ _).alloc (Nat.le_refl _) _
              have hne : ∀ kk, (Value.slice a2 m c4).ownBlock = some kk → kk < w7'.heap.size := fun kk hk => (World.ownsRow.lt O2.out kk hk).2
              have hblk : w9.heap[w7'.heap.size]? = w8.heap[w7'.heap.size]? := by
                rw [grow3.block w7'.heap.size (by simp; omega) (fun e => by have := hne _ e.symm; omega)]
                exact ba.block w7'.heap.size (by omega)
              have hsz : w8.heap.size ≤ w9.heap.size := by have := grow3.size; simp at this; omega
              have sx9 := Rec3.of_block SX.out hsz hblk
              have b89 : Below BP w8 w9 := Below.grown ((Below.refl BP w8).alloc h7.1 _) grow3 (by simp; omega) (fun kk hk => (World.ownsRow.lt OW.out kk hk).1)
              have hg3 : g3 ≠ w7'.heap.size := by
                rintro rfl
                obtain ⟨cur, hcur⟩ := OwnW.typed own3
                rw [hblk, W8.out] at hcur
                rw [ring_block] at hcur
                simp only [Option.some.injEq, Obj.cells.injEq] at hcur
                exact absurd hcur.2.1 (by decide)
              have SX9 := Lib.hid sx9; have B89 := Lib.hid b89; have OW9 := Lib.hid own3; have HG3 := Lib.hid hg3; have SZ9 := Lib.hid hsz
              obtain ⟨-, ⟨u0, u1, u2⟩, u3, u4, u5⟩ := sx9
              clear own3 grow3 ba hne hblk hsz b89 hg3 h7 hx
              go_wp2_with fail
              go_meet
              have h7 := H7B.out; have hx := L67.out; have hbp := HBP.out
              have hl : P0.length + 1 = m + 1 := by rw [hm.out]
              have b9 : Below BP w8 (w9.setCell ⟨w7'.heap.size, 2, none⟩ (.slice (some ⟨g3, 0, none⟩) (P0.length + 1) cap3)) := B89.out.setCell (p := ⟨w7'.heap.size, 2, none⟩) (by have := HB7.out; simp; omega) _
              exact ⟨_, _, _, _, _, _, _, _, _, Rec3.third SX9.out _, (HasW.below CB.out b9 (Nat.le_refl _)).wide (by have := SZ9.out; simp; omega), (OwnW.has' (OwnW.farNe OW9.out ⟨w7'.heap.size, 2, none⟩ (by rintro g' n' c' e'; simp only [Value.slice.injEq, Option.some.injEq, Addr.mk.injEq] at e'; have := HG3.out; simp; omega) _)), B8.out.trans (b9.mono (by omega))⟩
            · by_cases h3 : q6 = 3
              · obtain rfl := h3
                by_cases m0 : m = 0
                · subst m0
                  go_wp2_with fail
                  go_meet
                  exact ⟨_, _, _, _, _, _, _, _, _, SX.out, MyW.has MY.out, OwnW.has OW.out, B8.out⟩
                · have my := OwnW.my OW.out (by rw [← hm.out]; omega)
                  obtain ⟨gp, cp, e, hgp, hgp2, _⟩ := id my
                  simp only [Value.slice.injEq] at e
                  obtain ⟨rfl, e2, rfl⟩ := e
                  obtain ⟨cc, cf⟩ := MyW.at my 0 (by omega)
                  have hadd := uv_add (P0.getD 0 0) 1#64 1 (by decide)
                  have HSET := Lib.hid (MyW.put my 0 (by omega) (P0.getD 0 0 + 1#64))
                  have hgp3 := (World.ownsRow.lt O2.out gp rfl)
                  have HGP := Lib.hid hgp3
                  have mpos : (0 : Int) < (m : Int) := by omega
                  generalize P0.getD 0 0 = zc at cc hadd HSET
                  clear my hgp hgp2 e2 hgp3
                  go_wp2_with fail
                  go_meet
                  have h7 := H7B.out; have hx := L67.out; have hbp := HBP.out; have hgp := HGP.out
                  have b9 : Below BP w8 (w8.setCell ⟨gp, 0, none⟩ (.int .u64 (uv (zc + 1#64)))) := (Below.refl BP w8).setCell (p := ⟨gp, 0, none⟩) hgp.1 _
                  exact ⟨_, _, _, _, _, _, _, _, _, Rec3.far SX.out ⟨gp, 0, none⟩ (by simp; omega) _, (HasW.below CB.out b9 (Nat.le_refl _)).wide (by simp; omega), HSET.out.wide (by simp), B8.out.trans (b9.mono (by omega))⟩
              · have t0 : ((q6 : Int) == 0) = false := by rw [beq_eq_false_iff_ne]; omega
                have t1 : ((q6 : Int) == 1) = false := by rw [beq_eq_false_iff_ne]; omega
                have t2 : ((q6 : Int) == 2) = false := by rw [beq_eq_false_iff_ne]; omega
                have t3 : ((q6 : Int) == 3) = false := by rw [beq_eq_false_iff_ne]; omega
                go_wp2_with fail
                go_meet
                exact ⟨_, _, _, _, _, _, _, _, _, SX.out, MyW.has MY.out, OwnW.has OW.out, B8.out⟩
      case rest =>
        obtain ⟨ky, e1, l1, f1, e2, l2, f2, C', P', rx, hc, hp, hb⟩ := hcut
        have bac : Below wa.heap.size wa wc := BB.out.trans (hb.mono BB.out.size)
        have r9 := R9.out.below bac (by have := ZA.out; omega)
        have hwc : w.heap.size ≤ wc.heap.size := by have := bac.size; have := ZA.out; omega
        have baw : Below w.heap.size w wc := BA.out.trans (bac.mono BA.out.size)
        obtain ⟨lx, ⟨x0, x1', x2⟩, -⟩ := rx
        obtain ⟨l9, ⟨z0, z1, z2⟩, -⟩ := r9
        have KC := Lib.hid ((hC.below baw (Nat.le_refl _)).wide baw.size); have KP := Lib.hid ((hP.below baw (Nat.le_refl _)).wide baw.size)
        have XC := Lib.hid hc; have XP := Lib.hid hp; have BW := Lib.hid baw
        obtain ⟨va, hva⟩ : ∃ b, b = verB R n d ky C' P' := ⟨_, rfl⟩
        obtain ⟨vb, hvb⟩ : ∃ b, b = verB r a4 d k0 C P := ⟨_, rfl⟩
        obtain ⟨vc, hvc⟩ : ∃ b, b = verB R n (d + 1#64) ky C' P' := ⟨_, rfl⟩
        have VA := Lib.hid hva.symm; have VB := Lib.hid hvb.symm; have VC := Lib.hid hvc.symm
        have hd1 : IntKind.u64.wrap (uv d + 1) = uv (d + 1#64) := uv_add d 1#64 1 (by decide)
        clear hc hp hb baw bac hva hvb hvc
        go_wp2
        have hcur : Below wc.heap.size wc wc.drew := (Below.refl _ wc).drew
        have x0 : wc.drew.cell? ⟨w7'.heap.size, 0, none⟩ = some (.int .i64 ky) := x0
        have x1' : wc.drew.cell? ⟨w7'.heap.size, 1, none⟩ = some (.slice e1 l1 f1) := x1'
        have x2 : wc.drew.cell? ⟨w7'.heap.size, 2, none⟩ = some (.slice e2 l2 f2) := x2
        have z0 : wc.drew.cell? ⟨w.heap.size + 1, 0, none⟩ = some (.int .i64 k0) := z0
        have z1 : wc.drew.cell? ⟨w.heap.size + 1, 1, none⟩ = some (.slice p1 m1 c1) := z1
        have z2 : wc.drew.cell? ⟨w.heap.size + 1, 2, none⟩ = some (.slice p2 m2 c2) := z2
        go_region_held3 (fun wy => (wy.cell? ⟨w7'.heap.size, 0, none⟩ = some (.int .i64 ky) ∧ wy.cell? ⟨w7'.heap.size, 1, none⟩ = some (.slice e1 l1 f1) ∧ wy.cell? ⟨w7'.heap.size, 2, none⟩ = some (.slice e2 l2 f2)) ∧ wy.cell? ⟨w.heap.size + 1, 0, none⟩ = some (.int .i64 k0) ∧ wy.cell? ⟨w.heap.size + 1, 1, none⟩ = some (.slice p1 m1 c1) ∧ wy.cell? ⟨w.heap.size + 1, 2, none⟩ = some (.slice p2 m2 c2))
          (first | exact ⟨⟨x0, x1', x2⟩, z0, z1, z2⟩ | (trace_state; fail)) (first
          | (go_at_call 16; (first
              | with_reducible refine (kv R n d ky C' P' _ _ _ rfl va wc _ XC.out XP.out hcur VA.out).mono ?_
              | with_reducible refine (kv r a4 d k0 C P _ _ _ rfl vb wc _ KC.out KP.out hcur VB.out).mono ?_
              | with_reducible refine (kv R n (d + 1#64) ky C' P' _ _ _ rfl vc wc _ XC.out XP.out hcur VC.out).mono ?_); rintro e wn ⟨rfl, hcur, hk⟩; have x0 := hk _ _ x0; have x1' := hk _ _ x1'; have x2 := hk _ _ x2; have z0 := hk _ _ z0; have z1 := hk _ _ z1; have z2 := hk _ _ z2)
          | (go_at_call 17; (first
              | with_reducible refine (rkv R n d ky C' P' _ _ _ rfl va wc _ XC.out XP.out hcur VA.out).mono ?_
              | with_reducible refine (rkv r a4 d k0 C P _ _ _ rfl vb wc _ KC.out KP.out hcur VB.out).mono ?_
              | with_reducible refine (rkv R n (d + 1#64) ky C' P' _ _ _ rfl vc wc _ XC.out XP.out hcur VC.out).mono ?_); rintro e wn ⟨rfl, hcur, hk⟩; have x0 := hk _ _ x0; have x1' := hk _ _ x1'; have x2 := hk _ _ x2; have z0 := hk _ _ z0; have z1 := hk _ _ z1; have z2 := hk _ _ z2)
          | (go_at_call 7; refine (aw wc _ hcur).mono ?_; rintro e wn ⟨rfl, hcur, hk⟩; have x0 := hk _ _ x0; have x1' := hk _ _ x1'; have x2 := hk _ _ x2; have z0 := hk _ _ z0; have z1 := hk _ _ z1; have z2 := hk _ _ z2))
        go_wp2_with fail
        go_ret
        exact ⟨rfl, BW.out.trans (hcur.mono BW.out.size)⟩
theorem walk (w : World) (ra0 rb0 rc0 : Int) (rwa0 : (Lit.int .u64 ra0).wf = true) (rwb0 : (Lit.int .i64 rb0).wf = true) (rwc0 : (Lit.int .i64 rc0).wf = true)
    (k0 : Int) (cv pv : Value) (C P : List W) (wk : (Lit.int .i64 k0).wf = true) (lc : C.length ≤ maxLen) (hC : HasW w w.heap.size cv C) (lp : P.length ≤ maxLen) (hP : HasW w w.heap.size pv P)
    (a2 : Int) (w2 : (Lit.int .u64 a2).wf = true) (a3 : Int) (w3 : (Lit.int .u64 a3).wf = true) (a4 : Int) (w4 : (Lit.int .i64 a4).wf = true) (a5 : Int) (w5 : (Lit.int .i64 a5).wf = true) (a6 : Int) (w6 : (Lit.int .i64 a6).wf = true) (a7 : Int) (w7 : (Lit.int .u64 a7).wf = true) :
    Calls Try.prog 3 #[.agg #[.int .u64 ra0, .int .i64 rb0, .int .i64 rc0], .agg #[.int .i64 k0, cv, pv], .int .u64 a2, .int .u64 a3, .int .i64 a4, .int .i64 a5, .int .i64 a6, .int .u64 a7] w fun e w' => e = .returned (.bool true) ∧ Below w.heap.size w w' := by
  obtain ⟨s0, rfl⟩ := uv_of_wf ra0 rwa0
  obtain ⟨r, rfl⟩ := uv_of_wf a2 w2
  obtain ⟨d, rfl⟩ := uv_of_wf a3 w3
  obtain ⟨sd, rfl⟩ := uv_of_wf a7 w7
  obtain ⟨p1, c1, rfl⟩ := hC.form
  obtain ⟨p2, c2, rfl⟩ := hP.form
  by_cases h : 30 < C.length ∨ 20 < P.length
  · exact walk_awake w (uv s0) rb0 rc0 k0 p1 _ c1 p2 _ c2 (uv r) (uv d) a4 a5 a6 (uv sd) lc lp h
  · exact walk_main w s0 rb0 rc0 rwb0 rwc0 k0 wk p1 _ c1 p2 _ c2 C P hC hP (by omega) (by omega) r d a4 w4 a5 w5 a6 w6 sd
end Go.Proofs.Ythkkjocmglcjnaa.keyringActs
