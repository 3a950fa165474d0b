/-
  What the reader of package message reads: numbers, digests, strings of bytes. Nothing else that was there has changed. Condition: the bytes are fewer than three hundred millions.
-/
import Derived.Test.YtgkckomccabmlaaGreatDoorLmC
import Derived.Test.YtgkckomccabmlaaGreatDoorLmD
import Derived.Test.YtgkckomccabmlaaGreatDoorLmA
namespace Go.Proofs.YtgkckomccabmlaaGreatDoor
open Go.ChangeShapes Go.WideShapes Go.ChangeAt Go.RowKit
open Dg (W B)
open Ms (Msg)
set_option linter.unusedVariables false
theorem clone_new (D : List B) (N : Nat) (v : Value) (w : World) (hD : D.length ≤ 300000000) (hN : N ≤ w.heap.size) (h : HasB w N v D) :
    Calls Tryz.prog 79 #[v] w fun e w' => ∃ v', e = .returned v' ∧ HasB w' w'.heap.size v' D ∧ Below w.heap.size w w' ∧ ∀ g, g < w.heap.size → Off g v' := by
  obtain ⟨a, cap, rfl⟩ := h.form
  have heq := fun (w : World) (a : Option Addr) (l c : Nat) => Lib.run_eql_slice_nil (P := Tryz.prog) w 24 5 a l c 0 0 Tryz.underlying24
  cases a with
  | none =>
    have hD0 : D = [] := by
      rcases h with ⟨_, _, _, e⟩ | ⟨_, _, _, e, _⟩
      · exact e
      · simp at e
    subst hD0
    clear h
    go_enter Tryz.func79, Tryz.ntmps79
    go_wp2_with fail
    go_ret
    exact ⟨_, rfl, .inl ⟨none, 0, rfl, rfl⟩, Below.refl _ _, fun g _ => Off.none _ _ _⟩
  | some ad =>
    have H := Lib.hid ((h.below ((Below.refl w.heap.size w).alloc (Nat.le_refl _) (.cells #[] 5)) hN).wide (show N ≤ (w.alloc (.cells #[] 5)).heap.size by simp; omega))
    obtain ⟨m, hm⟩ : ∃ m, m = D.length := ⟨_, rfl⟩
    rw [← hm] at hD H ⊢
    have HM := Lib.hid hm
    have HN := Lib.hid (made_nil w)
    clear h hm hN
    go_enter Tryz.func79, Tryz.ntmps79
    go_wp2_with (at_builtin; refine wpList_append_bytes rfl (.tmp 5) (.tmp 6) rfl w.heap.size _ _ [] D rfl HN.out rfl _ H.out (by have := HM.out; simp; omega) (by simp) m (by have := HM.out; simp; omega) ?_)
    intro a3 cap3 w3 own3 grow3
    have BEL := Lib.hid (below_grownB ((Below.refl w.heap.size w).alloc (Nat.le_refl _) (.cells #[] 5)) (by simp) HN.out grow3)
    have OWN := Lib.hid own3
    clear own3 grow3
    go_wp2_with fail
    go_ret
    exact ⟨_, rfl, OWN.out.has, BEL.out, fun g hg => OWN.out.off hg⟩
/-- the same as GotB, and what is returned is new -/
def GotN (r : Cd.R (List B)) (p : Nat) (w : World) (e : Ending) (w' : World) : Prop :=
  (∃ c : Nat, r = .bad c ∧ e = .returned (.tuple #[.slice none 0 0, .int .i64 (p : Int), .int .i64 (c : Int)]) ∧ Below w.heap.size w w') ∨
  ∃ D k v, r = .ok D k ∧ e = .returned (.tuple #[v, .int .i64 ((p + k : Nat) : Int), .int .i64 0]) ∧ HasB w' w'.heap.size v D ∧ Below w.heap.size w w' ∧ ∀ g, g < w.heap.size → Off g v
theorem cbytes_new (L : List B) (p : Nat) (v : Value) (w : World) (hp : p ≤ L.length) (hL : L.length ≤ 300000000) (h : HasB w w.heap.size v L) :
    Calls Tryz.prog 50 #[v, .int .i64 (p : Int)] w (GotN (Cd.getB (L.drop p)) p w) := by
  have C := Lib.hid (rat_piece_in L p v w hp hL h)
  have HLL := Lib.hid hL
  obtain ⟨a, cap, rfl⟩ := h.form
  clear h hp hL
  go_enter Tryz.func50, Tryz.ntmps50
  go_wp2_with fail
  refine (C.out).mono ?_
  rintro e w1 (⟨c, g1, rfl, rfl⟩ | ⟨x, k, a1, n1, c1, g0, rfl, g2, rfl⟩)
  · have G1 := Lib.hid g1
    clear g1
    go_wp2_with fail
    refine (clone_nil w).mono ?_; rintro e w' ⟨rfl, rfl⟩
    go_wp2_with fail
    go_ret3
    exact .inl ⟨c, G1.out, rfl, Below.refl _ _⟩
  · have G0 := Lib.hid g0
    have C2 := Lib.hid (clone_new x w.heap.size _ _ (getB_len g0 HLL.out) (Nat.le_refl _) g2)
    clear g0 g2
    go_wp2_with fail
    refine (C2.out).mono ?_
    rintro e w2 ⟨v2, rfl, h2, b2, of2⟩
    have H2 := Lib.hid h2; have B2 := Lib.hid b2; have OF := Lib.hid of2
    clear h2 b2 of2
    go_wp2_with fail
    go_ret3
    exact .inr ⟨x, k, _, G0.out, rfl, H2.out, B2.out, OF.out⟩
set_option maxRecDepth 100000 in
theorem next_int (L : List B) (p : Nat) (f : Bool) (v : Value) (rb : Nat) (w : World) (hr : RecN w rb [v, .int .i64 (p : Int), .bool f]) (h : HasB w w.heap.size v L) (hp : p ≤ L.length) (hL : L.length ≤ 300000000) :
    Calls Tryz.prog 45 #[.pointer (some ⟨rb, 0, none⟩), .func (.func 46) #[] #[]] w fun e w' => ∃ (x : Int) (q : Nat) (f' : Bool), e = .returned (.int .i64 x) ∧ Cd.InR x ∧ q ≤ L.length ∧ RecN w' rb [v, .int .i64 (q : Int), .bool f'] ∧ But rb w w' ∧
      ((f' = f ∧ ∃ k, Cd.getI (L.drop p) = .ok x k ∧ q = p + k) ∨ (f' = true ∧ ∃ c, Cd.getI (L.drop p) = .bad c)) := by
  have C := Lib.hid (cint_got L p v w.drew hp hL (show HasB w.drew w.drew.heap.size v L from h))
  obtain ⟨n, hn⟩ : ∃ n, n = L.length := ⟨_, rfl⟩
  obtain ⟨a, cap, rfl⟩ : ∃ a c, v = .slice a n c := by rw [hn]; exact h.form
  have R := Lib.hid hr; have HP := Lib.hid hp; have HL := Lib.hid hL; have HN := Lib.hid hn
  have hp3 : p ≤ 300000000 := by omega
  have x0 : w.drew.cell? ⟨rb, 0, none⟩ = some _ := hr.c 0 rfl
  have x1 : w.drew.cell? ⟨rb, 1, none⟩ = some _ := hr.c 1 rfl
  clear hr h hp hn hL
  go_enter Tryz.func45, Tryz.ntmps45
  go_wp2_with fail
  refine wp_region_seq [(0, true), (1, true), (2, true), (3, true), (4, true), (5, true), (6, true), (7, true), (8, true), (9, false), (10, true), (11, true), (12, true), (13, true), (14, true), (15, true), (16, true)] (by kernel_rfl) (by kernel_rfl) (by kernel_rfl) (by kernel_rfl) ?_
  iterate 9 (refine wpSeq_pure (v := ?_) rfl (by rfl) (fun w' hw' => ?_) ?_; rotate_left; (focus (have y0 := kept hw' x0; have y1 := kept hw' x1; go_simp; try with_reducible rfl)); try simp only [Act.put, List.setIfInBounds_toArray, List.set_cons_zero, List.set_cons_succ])
  refine wpSeq_call rfl (fun K' hK => ?_)
  go_simp
  go_at_call 46
  refine (C.out).mono ?_
  rintro e w1 ⟨rfl, b1⟩
  cases hI : Cd.getI (L.drop p) with
  | bad c =>
    have hc := getI_code hI
    have t1 : ((c : Int) != 0) = true := by rw [bne_iff_ne]; omega
    have HI := Lib.hid hI
    unfold numRes
    clear hI hc
    have R1 := Lib.hid ((show RecN w.drew rb _ from R.out).below b1 R.out.1)
    refine hK.out _ _ b1 ?_
    clear hK K' x0 x1
    have B1 := Lib.hid ((But.refl rb w).drew.trans (But.of b1)); clear b1
    iterate 7 (refine wpSeq_pure (v := ?_) rfl (by rfl) (fun w' hw' => ?_) ?_; rotate_left; (focus (go_simp; try with_reducible rfl)); try simp only [Act.put, List.setIfInBounds_toArray, List.set_cons_zero, List.set_cons_succ])
    refine wpSeq_nil ?_
    have x1 := R1.out.c 1 rfl; have f1 := R1.out.f 1 (by simp); have x2 := R1.out.c 2 rfl; have f2 := R1.out.f 2 (by simp)
    cases f
    all_goals
      go_wp2_with fail
      go_ret
      exact ⟨0, p, true, rfl, by unfold Cd.InR; omega, HP.out, (R1.out.set 1 (by simp) _).set 2 (by simp) _, (B1.out.setCell 1 _).setCell 2 _, .inr ⟨rfl, c, HI.out⟩⟩
  | ok n2 k =>
    obtain ⟨g1, g2, g3, g4⟩ := Cd.getI_inv hI
    rw [List.length_drop] at g3
    have HQ := Lib.hid (show p + k ≤ L.length by have := HP.out; omega); have HI2 := Lib.hid g1
    have hk3 : k ≤ 300000000 := by have := HL.out; omega
    have HI := Lib.hid hI
    unfold numRes
    clear hI g1 g2 g3 g4
    have R1 := Lib.hid ((show RecN w.drew rb _ from R.out).below b1 R.out.1)
    refine hK.out _ _ b1 ?_
    clear hK K' x0 x1
    have B1 := Lib.hid ((But.refl rb w).drew.trans (But.of b1)); clear b1
    iterate 7 (refine wpSeq_pure (v := ?_) rfl (by rfl) (fun w' hw' => ?_) ?_; rotate_left; (focus (go_simp; try with_reducible rfl)); try simp only [Act.put, List.setIfInBounds_toArray, List.set_cons_zero, List.set_cons_succ])
    refine wpSeq_nil ?_
    have x1 := R1.out.c 1 rfl; have f1 := R1.out.f 1 (by simp); have x2 := R1.out.c 2 rfl; have f2 := R1.out.f 2 (by simp)
    cases f
    all_goals
      go_wp2_with fail
      go_ret
      exact ⟨n2, p + k, _, rfl, HI2.out, HQ.out, (R1.out.set 1 (by simp) _).set 2 (by simp) _, (B1.out.setCell 1 _).setCell 2 _, .inl ⟨rfl, k, HI.out, rfl⟩⟩
set_option maxRecDepth 100000 in
theorem next_dig (L : List B) (p : Nat) (f : Bool) (v : Value) (rb : Nat) (w : World) (hr : RecN w rb [v, .int .i64 (p : Int), .bool f]) (h : HasB w w.heap.size v L) (hp : p ≤ L.length) (hL : L.length ≤ 300000000) :
    Calls Tryz.prog 47 #[.pointer (some ⟨rb, 0, none⟩), .func (.func 48) #[] #[]] w fun e w' => ∃ (x : W) (q : Nat) (f' : Bool), e = .returned (.int .u64 (uv x)) ∧ q ≤ L.length ∧ RecN w' rb [v, .int .i64 (q : Int), .bool f'] ∧ But rb w w' ∧
      ((f' = f ∧ ∃ k, Cd.getD (L.drop p) = .ok x k ∧ q = p + k) ∨ (f' = true ∧ ∃ c, Cd.getD (L.drop p) = .bad c)) := by
  have C := Lib.hid (cdgt_got L p v w.drew hp hL (show HasB w.drew w.drew.heap.size v L from h))
  obtain ⟨n, hn⟩ : ∃ n, n = L.length := ⟨_, rfl⟩
  obtain ⟨a, cap, rfl⟩ : ∃ a c, v = .slice a n c := by rw [hn]; exact h.form
  have R := Lib.hid hr; have HP := Lib.hid hp; have HL := Lib.hid hL; have HN := Lib.hid hn
  have hp3 : p ≤ 300000000 := by omega
  have x0 : w.drew.cell? ⟨rb, 0, none⟩ = some _ := hr.c 0 rfl
  have x1 : w.drew.cell? ⟨rb, 1, none⟩ = some _ := hr.c 1 rfl
  clear hr h hp hn hL
  go_enter Tryz.func47, Tryz.ntmps47
  go_wp2_with fail
  refine wp_region_seq [(0, true), (1, true), (2, true), (3, true), (4, true), (5, true), (6, true), (7, true), (8, true), (9, false), (10, true), (11, true), (12, true), (13, true), (14, true), (15, true), (16, true)] (by kernel_rfl) (by kernel_rfl) (by kernel_rfl) (by kernel_rfl) ?_
  iterate 9 (refine wpSeq_pure (v := ?_) rfl (by rfl) (fun w' hw' => ?_) ?_; rotate_left; (focus (have y0 := kept hw' x0; have y1 := kept hw' x1; go_simp; try with_reducible rfl)); try simp only [Act.put, List.setIfInBounds_toArray, List.set_cons_zero, List.set_cons_succ])
  refine wpSeq_call rfl (fun K' hK => ?_)
  go_simp
  go_at_call 48
  refine (C.out).mono ?_
  rintro e w1 (⟨c, hI, rfl, b1⟩ | ⟨x, k, hI, rfl, b1⟩)
  · have hc := getD_code hI
    have t1 : ((c : Int) != 0) = true := by rw [bne_iff_ne]; omega
    have HI := Lib.hid hI
    clear hI hc
    have R1 := Lib.hid ((show RecN w.drew rb _ from R.out).below b1 R.out.1)
    refine hK.out _ _ b1 ?_
    clear hK K' x0 x1
    try simp only [Act.put, List.setIfInBounds_toArray, List.set_cons_zero, List.set_cons_succ]
    have B1 := Lib.hid ((But.refl rb w).drew.trans (But.of b1)); clear b1
    iterate 7 (refine wpSeq_pure (v := ?_) rfl (by rfl) (fun w' hw' => ?_) ?_; rotate_left; (focus (go_simp; try with_reducible rfl)); try simp only [Act.put, List.setIfInBounds_toArray, List.set_cons_zero, List.set_cons_succ])
    refine wpSeq_nil ?_
    have x1 := R1.out.c 1 rfl; have f1 := R1.out.f 1 (by simp); have x2 := R1.out.c 2 rfl; have f2 := R1.out.f 2 (by simp)
    cases f
    all_goals
      go_wp2_with fail
      go_ret
      exact ⟨0#64, p, true, rfl, HP.out, (R1.out.set 1 (by simp) _).set 2 (by simp) _, (B1.out.setCell 1 _).setCell 2 _, .inr ⟨rfl, c, HI.out⟩⟩
  · obtain ⟨g1, g2, g3⟩ := Cd.getD_inv hI
    rw [List.length_drop] at g2
    have HQ := Lib.hid (show p + k ≤ L.length by have := HP.out; omega)
    have hk3 : k ≤ 300000000 := by have := HL.out; omega
    have HI := Lib.hid hI
    clear hI g1 g2 g3
    have R1 := Lib.hid ((show RecN w.drew rb _ from R.out).below b1 R.out.1)
    refine hK.out _ _ b1 ?_
    clear hK K' x0 x1
    try simp only [Act.put, List.setIfInBounds_toArray, List.set_cons_zero, List.set_cons_succ]
    have B1 := Lib.hid ((But.refl rb w).drew.trans (But.of b1)); clear b1
    iterate 7 (refine wpSeq_pure (v := ?_) rfl (by rfl) (fun w' hw' => ?_) ?_; rotate_left; (focus (go_simp; try with_reducible rfl)); try simp only [Act.put, List.setIfInBounds_toArray, List.set_cons_zero, List.set_cons_succ])
    refine wpSeq_nil ?_
    have x1 := R1.out.c 1 rfl; have f1 := R1.out.f 1 (by simp); have x2 := R1.out.c 2 rfl; have f2 := R1.out.f 2 (by simp)
    cases f
    all_goals
      go_wp2_with fail
      go_ret
      exact ⟨x, p + k, _, rfl, HQ.out, (R1.out.set 1 (by simp) _).set 2 (by simp) _, (B1.out.setCell 1 _).setCell 2 _, .inl ⟨rfl, k, HI.out, rfl⟩⟩
set_option maxRecDepth 100000 in
theorem next_bytes (L : List B) (p : Nat) (f : Bool) (v : Value) (rb : Nat) (w : World) (hr : RecN w rb [v, .int .i64 (p : Int), .bool f]) (h : HasB w w.heap.size v L) (hp : p ≤ L.length) (hL : L.length ≤ 300000000) :
    Calls Tryz.prog 49 #[.pointer (some ⟨rb, 0, none⟩), .func (.func 50) #[] #[]] w fun e w' => ∃ (x : List B) (dv : Value) (q : Nat) (f' : Bool), e = .returned (dv) ∧ HasB w' w'.heap.size dv x ∧ (∀ g, g < w.heap.size → Off g dv) ∧ x.length ≤ L.length ∧ q ≤ L.length ∧ RecN w' rb [v, .int .i64 (q : Int), .bool f'] ∧ But rb w w' ∧
      ((f' = f ∧ ∃ k, Cd.getB (L.drop p) = .ok x k ∧ q = p + k) ∨ (f' = true ∧ ∃ c, Cd.getB (L.drop p) = .bad c)) := by
  have C := Lib.hid (cbytes_new L p v w.drew hp hL (show HasB w.drew w.drew.heap.size v L from h))
  obtain ⟨n, hn⟩ : ∃ n, n = L.length := ⟨_, rfl⟩
  obtain ⟨a, cap, rfl⟩ : ∃ a c, v = .slice a n c := by rw [hn]; exact h.form
  have R := Lib.hid hr; have HP := Lib.hid hp; have HL := Lib.hid hL; have HN := Lib.hid hn
  have hp3 : p ≤ 300000000 := by omega
  have x0 : w.drew.cell? ⟨rb, 0, none⟩ = some _ := hr.c 0 rfl
  have x1 : w.drew.cell? ⟨rb, 1, none⟩ = some _ := hr.c 1 rfl
  clear hr h hp hn hL
  go_enter Tryz.func49, Tryz.ntmps49
  go_wp2_with fail
  refine wp_region_seq [(0, true), (1, true), (2, true), (3, true), (4, true), (5, true), (6, true), (7, true), (8, true), (9, false), (10, true), (11, true), (12, true), (13, true), (14, true), (15, true), (16, true)] (by kernel_rfl) (by kernel_rfl) (by kernel_rfl) (by kernel_rfl) ?_
  iterate 9 (refine wpSeq_pure (v := ?_) rfl (by rfl) (fun w' hw' => ?_) ?_; rotate_left; (focus (have y0 := kept hw' x0; have y1 := kept hw' x1; go_simp; try with_reducible rfl)); try simp only [Act.put, List.setIfInBounds_toArray, List.set_cons_zero, List.set_cons_succ])
  refine wpSeq_call rfl (fun K' hK => ?_)
  go_simp
  go_at_call 50
  refine (C.out).mono ?_
  rintro e w1 (⟨c, hI, rfl, b1⟩ | ⟨x, k, dv, hI, rfl, hd, b1, of1⟩)
  · have hc := getB_code hI
    have t1 : ((c : Int) != 0) = true := by rw [bne_iff_ne]; omega
    have HI := Lib.hid hI
    clear hI hc
    have R1 := Lib.hid ((show RecN w.drew rb _ from R.out).below b1 R.out.1)
    refine hK.out _ _ b1 ?_
    clear hK K' x0 x1
    try simp only [Act.put, List.setIfInBounds_toArray, List.set_cons_zero, List.set_cons_succ]
    have B1 := Lib.hid ((But.refl rb w).drew.trans (But.of b1)); clear b1
    iterate 7 (refine wpSeq_pure (v := ?_) rfl (by rfl) (fun w' hw' => ?_) ?_; rotate_left; (focus (go_simp; try with_reducible rfl)); try simp only [Act.put, List.setIfInBounds_toArray, List.set_cons_zero, List.set_cons_succ])
    refine wpSeq_nil ?_
    have x1 := R1.out.c 1 rfl; have f1 := R1.out.f 1 (by simp); have x2 := R1.out.c 2 rfl; have f2 := R1.out.f 2 (by simp)
    cases f
    all_goals
      go_wp2_with fail
      go_ret
      exact ⟨[], _, p, true, rfl, .inl ⟨none, 0, rfl, rfl⟩, fun g _ => Off.none _ _ _, by simp, HP.out, (R1.out.set 1 (by simp) _).set 2 (by simp) _, (B1.out.setCell 1 _).setCell 2 _, .inr ⟨rfl, c, HI.out⟩⟩
  · obtain ⟨g1, g2, g3, g4⟩ := Cd.getB_inv hI
    have hxl : x.length ≤ L.length := by
      have := congrArg List.length g4
      rw [Cd.putB_len, List.length_take, List.length_drop] at this
      omega
    have hkL : k ≤ L.length - p := by
      have := congrArg List.length g4
      first
        | (rw [List.length_drop] at g3; omega)
        | (rw [List.length_drop] at g2; omega)
    have HQ := Lib.hid (show p + k ≤ L.length by have := HP.out; omega); have HXL := Lib.hid hxl
    have hk3 : k ≤ 300000000 := by have := HL.out; omega
    have HI := Lib.hid hI
    have HD := Lib.hid hd; have OF := Lib.hid of1
    obtain ⟨n9, hn9⟩ : ∃ n, n = x.length := ⟨_, rfl⟩
    obtain ⟨a9, c9, rfl⟩ : ∃ a c, dv = .slice a n9 c := by rw [hn9]; exact hd.form
    clear hI g1 g2 g3 g4 hd of1 hxl hkL hn9
    have R1 := Lib.hid ((show RecN w.drew rb _ from R.out).below b1 R.out.1)
    refine hK.out _ _ b1 ?_
    clear hK K' x0 x1
    try simp only [Act.put, List.setIfInBounds_toArray, List.set_cons_zero, List.set_cons_succ]
    have B1 := Lib.hid ((But.refl rb w).drew.trans (But.of b1)); clear b1
    iterate 7 (refine wpSeq_pure (v := ?_) rfl (by rfl) (fun w' hw' => ?_) ?_; rotate_left; (focus (go_simp; try with_reducible rfl)); try simp only [Act.put, List.setIfInBounds_toArray, List.set_cons_zero, List.set_cons_succ])
    refine wpSeq_nil ?_
    have x1 := R1.out.c 1 rfl; have f1 := R1.out.f 1 (by simp); have x2 := R1.out.c 2 rfl; have f2 := R1.out.f 2 (by simp)
    cases f
    all_goals
      go_wp2_with fail
      go_ret
      exact ⟨x, _, p + k, _, rfl, (HD.out.but (OF.out rb R.out.1) (((But.refl rb _).setCell 1 _).setCell 2 _)).wide (by simp), OF.out, HXL.out, HQ.out, (R1.out.set 1 (by simp) _).set 2 (by simp) _, (B1.out.setCell 1 _).setCell 2 _, .inl ⟨rfl, k, HI.out, rfl⟩⟩
end Go.Proofs.YtgkckomccabmlaaGreatDoor
