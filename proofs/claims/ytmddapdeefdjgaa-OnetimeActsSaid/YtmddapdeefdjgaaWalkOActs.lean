/-
  The law of what all functions of layer 6 return (OnetimeActs) returns true. No condition.
-/
import Derived.Test.YtmddapdeefdjgaaWalkKeys
namespace Go.Proofs.Ytmddapdeefdjgaa
open Go.ChangeShapes Go.WideShapes Go.ChangeAt Go.RowKit
open Dg (W B)
/-- three slices that are laid in memory -/
theorem slices_at {w wr : World} {N : Nat} {v0 v1 v2 : Value} {l0 l1 l2 : List W} {t : TypeId} (h0 : HasW w N v0 l0) (h1 : HasW w N v1 l1) (h2 : HasW w N v2 l2) (hN : N ≤ w.heap.size)
    (hb : Below (w.heap.size + 1) (w.alloc (.cells #[v0, v1, v2] t)) wr) (k : Nat) (hk : k < 3) : ∃ v l, wr.cell? ⟨w.heap.size, k, none⟩ = some v ∧ HasW wr N v l := by
  have ba : Below w.heap.size w (w.alloc (.cells #[v0, v1, v2] t)) := (Below.refl _ _).alloc (Nat.le_refl _) _
  have bb : Below w.heap.size w wr := ba.trans (hb.mono (by omega))
  have : k = 0 ∨ k = 1 ∨ k = 2 := by omega
  rcases this with rfl | rfl | rfl
  · exact ⟨v0, l0, by rw [hb.cell (p := ⟨w.heap.size, 0, none⟩) (by simp), World.cell?_alloc_new]; rfl, h0.below bb hN⟩
  · exact ⟨v1, l1, by rw [hb.cell (p := ⟨w.heap.size, 1, none⟩) (by simp), World.cell?_alloc_new]; rfl, h1.below bb hN⟩
  · exact ⟨v2, l2, by rw [hb.cell (p := ⟨w.heap.size, 2, none⟩) (by simp), World.cell?_alloc_new]; rfl, h2.below bb hN⟩
/-- what both give for a list, as letters -/
theorem recover_letters (d : W) (l : List W) : ∃ x c : Int,
    (∀ (v : Value) (w : World), HasW w w.heap.size v l → Calls Try.prog 21 #[.int .u64 (uv d), v] w fun e w' => e = .returned (.tuple #[.int .u64 x, .int .i64 c]) ∧ Below w.heap.size w w') ∧
    (∀ (v : Value) (w : World), HasW w w.heap.size v l → Calls Try.prog 22 #[.int .u64 (uv d), v] w fun e w' => e = .returned (.tuple #[.int .u64 x, .int .i64 c]) ∧ Below w.heap.size w w') := by
  by_cases h : l.length = 18
  · exact ⟨_, _, fun v w hv => recover_18 d l v w h hv, fun v w hv => rrecover_18 d l v w h hv⟩
  · exact ⟨_, _, fun v w hv => recover_bad d l v w h hv, fun v w hv => rrecover_bad d l v w h hv⟩
namespace onetimeActs
def LoopRel (m : Nat) (w : World) (v : Value) (wr : World) : Prop := ∃ k : Nat, k ≤ m ∧ v = .int .i64 (k : Int) ∧ Below w.heap.size w wr
theorem walk_awake (a : Option Addr) (n cap : Nat) (s d : W) (x y z : Int) (w : World) (hn : 40 < n) (hx : n ≤ maxLen) :
    Calls Try.prog 3 #[.int .u64 (uv s), .int .u64 (uv d), .int .i64 x, .int .i64 y, .int .i64 z, .slice a n cap] w fun e w' => e = .returned (.bool true) ∧ Below w.heap.size w w' := by
  unfold maxLen at hx
  have t2 : (40 : Int) < n := by omega
  clear hn
  go_enter Try.func3, Try.ntmps3
  go_wp2_with fail
  refine (awake_any _).mono ?_; rintro e w' ⟨rfl, hb⟩
  have HB := Lib.hid hb; clear hb
  go_wp2_with fail
  go_ret
  exact ⟨rfl, HB.out⟩
set_option maxRecDepth 100000 in
set_option maxHeartbeats 2000000 in
theorem walk_some (l : List W) (ao : Option Addr) (n cap : Nat) (s d : W) (x y z : Int) (w : World) (hy : (Lit.int .i64 y).wf = true) (hz : (Lit.int .i64 z).wf = true) (hn : n = l.length) (h40 : n ≤ 40) (hl : HasW w w.heap.size (.slice ao n cap) l) :
    Calls Try.prog 3 #[.int .u64 (uv s), .int .u64 (uv d), .int .i64 x, .int .i64 y, .int .i64 z, .slice ao n cap] w fun e w' => e = .returned (.bool true) ∧ Below w.heap.size w w' := by
  have t2 : decide ((40 : Int) < n) = false := decide_eq_false (by omega)
  obtain ⟨f, hf, hf2⟩ := mod_nat y 16 (by omega)
  obtain ⟨j, hj, hj2⟩ := mod_nat z 18 (by omega)
  have HF := Lib.hid hf; have HJ := Lib.hid hj; have HL := Lib.hid hl
  clear hf hj hl hn
  have L18 := Lib.hid (Ot.sign_len s d)
  go_enter Try.func3, Try.ntmps3
  go_wp2_with fail
  refine (mod_to _ _ f HF.out _ hy (by omega) (by omega)).mono ?_; rintro e w' ⟨rfl, rfl⟩
  go_wp2_with fail
  refine (mod_to _ _ j HJ.out _ hz (by omega) (by omega)).mono ?_; rintro e w' ⟨rfl, rfl⟩
  go_wp2_with fail
  refine (digits_to d _ rfl _).mono ?_; rintro e wa ⟨pa, ca, rfl, oa, ba⟩
  have OA := Lib.hid oa; have BA := Lib.hid ba; clear oa ba
  go_wp2_with fail
  refine (rdigits_to d _).mono ?_; rintro e wb ⟨pb, cb, rfl, ob, bb⟩
  have BB := Lib.hid (BA.out.trans (bb.mono BA.out.size)); have OB := Lib.hid (OA.out.below bb); have QB := Lib.hid ob; clear bb ob
  go_wp2_with fail
  refine (step_any d x f ((j : Int) - 1) _ _ (by omega) (by omega) (by omega) rfl).mono ?_; rintro e wc ⟨rfl, bc⟩
  have BC := Lib.hid (BB.out.trans (bc.mono BB.out.size)); have OC := Lib.hid (OB.out.below bc); have QC := Lib.hid (QB.out.below bc); clear bc
  go_wp2_with fail
  refine (rstep_any d x f ((j : Int) - 1) _ _ (by omega) (by omega) (by omega) rfl).mono ?_; rintro e wd ⟨rfl, bd⟩
  have BD := Lib.hid (BC.out.trans (bd.mono BC.out.size)); have OD := Lib.hid (OC.out.below bd); have QD := Lib.hid (QC.out.below bd); clear bd
  go_wp2_with fail
  refine (secret_any s x _).mono ?_; rintro e we ⟨rfl, be⟩
  have BE := Lib.hid (BD.out.trans (be.mono BD.out.size)); have OE := Lib.hid (OD.out.below be); have QE := Lib.hid (QD.out.below be); clear be
  go_wp2_with fail
  refine (rsecret_any s x _).mono ?_; rintro e wf ⟨rfl, bf⟩
  have BF := Lib.hid (BE.out.trans (bf.mono BE.out.size)); have OF := Lib.hid (OE.out.below bf); have QF := Lib.hid (QE.out.below bf); clear bf
  go_wp2_with fail
  refine (public_any s _).mono ?_; rintro e wg ⟨rfl, bg⟩
  have BG := Lib.hid (BF.out.trans (bg.mono BF.out.size)); have OG := Lib.hid (OF.out.below bg); have QG := Lib.hid (QF.out.below bg); clear bg
  go_wp2_with fail
  refine (rpublic_any s _).mono ?_; rintro e wh ⟨rfl, bh⟩
  have BH := Lib.hid (BG.out.trans (bh.mono BG.out.size)); have OH := Lib.hid (OG.out.below bh); have QH := Lib.hid (QG.out.below bh); clear bh
  go_wp2_with fail
  go_loopw [75] (LoopRel 18 wh) (fun v _ => 18 - (intOf v).toNat)
  case atStart => exact ⟨0, by omega, rfl, Below.refl _ _⟩
  case round =>
    obtain ⟨k, hk, rfl, hbr⟩ := hrel
    have HB := Lib.hid hbr
    by_cases hlt : k < 18
    · obtain ⟨g1, o1, rfl, c1⟩ := (OH.out.below hbr).has.at k hlt
      obtain ⟨g2, o2, rfl, c2⟩ := (QH.out.below hbr).has.at k hlt
      generalize (digI d 18).getD k 0 = v at c1 c2
      clear hbr
      go_wp2_with fail
      go_roundw
      case rel => exact ⟨k + 1, by omega, by go_num, HB.out⟩
      case measure => simp [intOf]; omega
    · obtain rfl : k = 18 := by omega
      have EB := Lib.hid (BH.out.trans (hbr.mono BH.out.size))
      clear hbr
      go_wp2_with fail
      refine (rsign_to s d _).mono ?_; rintro e wi ⟨pi, ci, rfl, oi, bi⟩
      have BI := Lib.hid (EB.out.trans (bi.mono EB.out.size)); have OI := Lib.hid oi; clear bi oi
      go_wp2_with fail
      refine (sign_to s d _ _ rfl rfl _).mono ?_; rintro e wj ⟨pj, cj, rfl, oj, bj⟩
      have BJ := Lib.hid (BI.out.trans (bj.mono BI.out.size)); have OJ := Lib.hid (OI.out.below bj); have QJ := Lib.hid oj; clear bj oj
      go_wp2_with fail
      refine (same_any (Ot.sign s d) (Ot.sign s d) _ _ _ _ _ (by rw [L18.out]; omega) QJ.out.has OJ.out.has).mono ?_; rintro e w' ⟨rfl, rfl⟩
      rw [decide_eq_true rfl]
      obtain ⟨g, c', hv, _, _, hcap', _⟩ := OJ.out
      have hl18 := L18.out
      simp only [Value.slice.injEq] at hv
      obtain ⟨rfl, hx, rfl⟩ := hv
      clear hx
      have hcap : 18 ≤ ci := by omega
      clear hcap' hl18
      obtain ⟨a', ra, ha⟩ := words_tail g 18 ci (by omega) hcap
      have h2 := MyW.tail L18.out OJ.out (by omega) hcap ha
      have h1 := (HL.out.below BJ.out (Nat.le_refl _)).wide BJ.out.size
      have H0 := Lib.hid OJ.out.has; have H1 := Lib.hid h1; have H2 := Lib.hid h2
      have ra' : ∀ w, (Instr.slice 24 (.slice (some ⟨g, 0, none⟩) 18 ci) (some (.int .i64 1)) none none).run Try.prog w = .ok (.slice a' 17 (ci - 1)) w := ra
      obtain ⟨w3, hw3⟩ : ∃ w3, w3 = wj.alloc (.cells #[.slice (some ⟨g, 0, none⟩) 18 ci, .slice ao n cap, .slice a' 17 (ci - 1)] 24) := ⟨_, rfl⟩
      have hsz : w3.heap.size = wj.heap.size + 1 := by rw [hw3]; simp
      have b3 : Below w.heap.size w w3 := by rw [hw3]; exact BJ.out.alloc BJ.out.size _
      have W3 := Lib.hid hw3; have SZ := Lib.hid hsz; have B3 := Lib.hid b3
      clear ra ha h1 h2 hw3 hsz b3 hcap
      go_wp2_with fail
      rw [← W3.out]
      go_loopw [102] (LoopRel 3 w3) (fun v _ => 3 - (intOf v).toNat)
      case atStart => exact ⟨0, by omega, rfl, Below.refl _ _⟩
      case round =>
        obtain ⟨k, hk, rfl, hbr⟩ := hrel
        have HB2 := Lib.hid hbr
        have EB2 := Lib.hid (B3.out.trans (hbr.mono B3.out.size))
        by_cases hlt : k < 3
        · have hb3 : Below (wj.heap.size + 1) (wj.alloc (.cells #[.slice (some ⟨g, 0, none⟩) 18 ci, .slice ao n cap, .slice a' 17 (ci - 1)] 24)) wr := by rw [← W3.out, ← SZ.out]; exact hbr
          obtain ⟨v, L, hcell, hv⟩ := slices_at H0.out H1.out H2.out (Nat.le_refl _) hb3 k hlt
          obtain ⟨X, C, p1, p2⟩ := recover_letters d L
          have hsz2 : wj.heap.size ≤ wr.heap.size := by have := SZ.out; have := HB2.out.size; omega
          have P1 := Lib.hid (p1 v wr (hv.wide hsz2))
          have P2 := Lib.hid fun W (h : Below wr.heap.size wr W) => p2 v W (((hv.wide hsz2).below h (Nat.le_refl _)).wide h.size)
          clear hbr hb3 hv p1 p2
          go_wp2_with fail
          refine (P1.out).mono ?_; rintro e wk ⟨rfl, bk⟩
          have BK := Lib.hid bk; clear bk
          go_wp2_with fail
          refine (P2.out _ BK.out).mono ?_; rintro e wl ⟨rfl, bl⟩
          have BL := Lib.hid (HB2.out.trans ((BK.out.trans (bl.mono BK.out.size)).mono HB2.out.size)); clear bl
          go_wp2_with fail
          go_roundw
          case rel => exact ⟨k + 1, by omega, by go_num, BL.out⟩
          case measure => simp [intOf]; omega
        · obtain rfl : k = 3 := by omega
          clear hbr
          go_wp2_with fail
          refine (awake_any _).mono ?_; rintro e w6 ⟨rfl, hb6⟩
          have B6 := Lib.hid (EB2.out.trans (hb6.mono EB2.out.size)); clear hb6
          go_wp2_with fail
          go_ret
          exact ⟨rfl, B6.out⟩
theorem walk (w : World) (a0 : Int) (w0 : (Lit.int .u64 a0).wf = true) (a1 : Int) (w1 : (Lit.int .u64 a1).wf = true) (a2 : Int) (_ : (Lit.int .i64 a2).wf = true) (a3 : Int) (w3 : (Lit.int .i64 a3).wf = true) (a4 : Int) (w4 : (Lit.int .i64 a4).wf = true)
    (v5 : Value) (l5 : List W) (m5 : l5.length ≤ maxLen) (b5 : HasW w w.heap.size v5 l5) :
    Calls Try.prog 3 #[.int .u64 a0, .int .u64 a1, .int .i64 a2, .int .i64 a3, .int .i64 a4, v5] w fun e w' => e = .returned (.bool true) ∧ Below w.heap.size w w' := by
  obtain ⟨s, rfl⟩ := uv_of_wf a0 w0
  obtain ⟨d, rfl⟩ := uv_of_wf a1 w1
  obtain ⟨a, cap, rfl⟩ := b5.form
  by_cases h : 40 < l5.length
  · exact walk_awake a _ cap s d a2 a3 a4 w h m5
  · exact walk_some l5 a _ cap s d a2 a3 a4 w w3 w4 rfl (by omega) b5
end onetimeActs
end Go.Proofs.Ytmddapdeefdjgaa
