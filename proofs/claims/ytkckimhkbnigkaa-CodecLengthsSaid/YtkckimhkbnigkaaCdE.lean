/-
  What the function readAt of package codec returns, for each function that it is given. Nothing that was there has changed. Condition: the bytes are fewer than three hundred millions.
-/
import Derived.Test.YtkckimhkbnigkaaCdD
namespace Go.Proofs.Ytkckimhkbnigkaa
open Go.ChangeShapes Go.WideShapes Go.ChangeAt Go.RowKit
open Dg (W B)
theorem rat_num_out (L : List B) (p : Int) (v : Value) (w : World) (hp : p < 0 ∨ (L.length : Int) < p) (h : HasB w w.heap.size v L) :
    Calls Try.prog 40 #[v, .int .i64 p, .func (.func 41) #[] #[]] w fun e w' => e = .returned (.tuple #[.int .i64 0, .int .i64 p, .int .i64 2]) ∧ w = w' := by
  obtain ⟨a, cap, rfl⟩ := h.form
  by_cases h1 : p < 0
  · have t1 : decide (p < 0) = true := decide_eq_true h1
    clear h hp h1
    go_enter Try.func40, Try.ntmps40
    go_wp2_with fail
    go_ret3
    exact ⟨rfl, rfl⟩
  · have t1 : decide (p < 0) = false := decide_eq_false h1
    have t2 : decide ((L.length : Int) < p) = true := decide_eq_true (by omega)
    clear h hp h1
    go_enter Try.func40, Try.ntmps40
    go_wp2_with fail
    go_ret3
    exact ⟨rfl, rfl⟩
theorem rat_num_in (L : List B) (p : Nat) (v : Value) (w : World) (hp : p ≤ L.length) (hL : L.length ≤ 300000000) (h : HasB w w.heap.size v L) :
    Calls Try.prog 40 #[v, .int .i64 (p : Int), .func (.func 41) #[] #[]] w (GotI (Cd.getI (L.drop p)) p w) := by
  obtain ⟨a, cap, rfl⟩ := h.form
  obtain ⟨m, hm⟩ : ∃ m, m = L.length := ⟨_, rfl⟩
  rw [← hm] at h hp ⊢
  obtain ⟨a', hrun, hpart⟩ := bytes_from a m cap p w w.heap.size L hp hm h
  have C := Lib.hid (num_any (L.drop p) w.heap.size _ w (by rw [List.length_drop]; omega) hpart)
  have hrun2 := hrun w p rfl
  obtain ⟨d, hd⟩ : ∃ d, d = m - p := ⟨_, rfl⟩
  obtain ⟨c', hc'⟩ : ∃ d, d = cap - p := ⟨_, rfl⟩
  rw [← hd, ← hc'] at C hrun2
  have t1 : decide ((p : Int) < 0) = false := decide_eq_false (by omega)
  have t2 : decide (m < p) = false := decide_eq_false (by omega)
  have hp3 : p ≤ 300000000 := by omega
  have HPL := Lib.hid (show (L.drop p).length ≤ 300000000 by rw [List.length_drop]; omega)
  clear h hm hL hpart hrun hd hc'
  go_enter Try.func40, Try.ntmps40
  go_wp2_with fail
  refine (C.out).mono ?_; rintro e w' ⟨rfl, rfl⟩
  cases hr : Cd.getI (L.drop p) with
  | bad c =>
    have hc := getI_code hr
    have t3 : ((c : Int) != 0) = true := by rw [bne_iff_ne]; omega
    have HR := Lib.hid hr
    clear hr hc
    unfold nRes
    go_wp2_with fail
    go_ret3
    exact ⟨by rw [HR.out]; rfl, Below.refl _ _⟩
  | ok n k =>
    have hk : k ≤ 300000000 := by have := (Cd.getI_inv hr).2.2.1; have := HPL.out; omega
    have HR := Lib.hid hr
    clear hr
    unfold nRes
    go_wp2_with fail
    go_ret3
    exact ⟨by rw [HR.out]; rfl, Below.refl _ _⟩
/-- a part of the bytes has been read, or an error -/
def QGot (r : Cd.R (List B)) (p : Nat) (w : World) (e : Ending) (w' : World) : Prop :=
  (∃ c : Nat, r = .bad c ∧ e = .returned (.tuple #[.slice none 0 0, .int .i64 (p : Int), .int .i64 (c : Int)]) ∧ w = w') ∨
  ∃ D k a n c2, r = .ok D k ∧ e = .returned (.tuple #[.slice a n c2, .int .i64 ((p + k : Nat) : Int), .int .i64 0]) ∧ HasB w w.heap.size (.slice a n c2) D ∧ w = w'
theorem rat_piece_out (L : List B) (p : Int) (v : Value) (w : World) (hp : p < 0 ∨ (L.length : Int) < p) (h : HasB w w.heap.size v L) :
    Calls Try.prog 42 #[v, .int .i64 p, .func (.func 43) #[] #[]] w fun e w' => e = .returned (.tuple #[.slice none 0 0, .int .i64 p, .int .i64 2]) ∧ w = w' := by
  obtain ⟨a, cap, rfl⟩ := h.form
  by_cases h1 : p < 0
  · have t1 : decide (p < 0) = true := decide_eq_true h1
    clear h hp h1
    go_enter Try.func42, Try.ntmps42
    go_wp2_with fail
    go_ret3
    exact ⟨rfl, rfl⟩
  · have t1 : decide (p < 0) = false := decide_eq_false h1
    have t2 : decide ((L.length : Int) < p) = true := decide_eq_true (by omega)
    clear h hp h1
    go_enter Try.func42, Try.ntmps42
    go_wp2_with fail
    go_ret3
    exact ⟨rfl, rfl⟩
theorem rat_piece_in (L : List B) (p : Nat) (v : Value) (w : World) (hp : p ≤ L.length) (hL : L.length ≤ 300000000) (h : HasB w w.heap.size v L) :
    Calls Try.prog 42 #[v, .int .i64 (p : Int), .func (.func 43) #[] #[]] w (QGot (Cd.getB (L.drop p)) p w) := by
  obtain ⟨a, cap, rfl⟩ := h.form
  obtain ⟨m, hm⟩ : ∃ m, m = L.length := ⟨_, rfl⟩
  rw [← hm] at h hp ⊢
  obtain ⟨a', hrun, hpart⟩ := bytes_from a m cap p w w.heap.size L hp hm h
  have C := Lib.hid (piece_any (L.drop p) w.heap.size _ w (by rw [List.length_drop]; omega) hpart)
  have hrun2 := hrun w p rfl
  obtain ⟨d, hd⟩ : ∃ d, d = m - p := ⟨_, rfl⟩
  obtain ⟨c', hc'⟩ : ∃ d, d = cap - p := ⟨_, rfl⟩
  rw [← hd, ← hc'] at C hrun2
  have t1 : decide ((p : Int) < 0) = false := decide_eq_false (by omega)
  have t2 : decide (m < p) = false := decide_eq_false (by omega)
  have hp3 : p ≤ 300000000 := by omega
  have HPL := Lib.hid (show (L.drop p).length ≤ 300000000 by rw [List.length_drop]; omega)
  clear h hm hL hpart hrun hd hc'
  go_enter Try.func42, Try.ntmps42
  go_wp2_with fail
  refine (C.out).mono ?_; rintro e w' (⟨c, hG, hcp, rfl, rfl⟩ | ⟨D, k, ad, nd, cd, hG, hk, rfl, hD, rfl⟩)
  · have t3 : ((c : Int) != 0) = true := by rw [bne_iff_ne]; omega
    have HG := Lib.hid hG
    clear hG hcp
    go_wp2_with fail
    go_ret3
    exact .inl ⟨c, HG.out, rfl, rfl⟩
  · have HG := Lib.hid hG; have HD := Lib.hid hD
    obtain ⟨q, hq⟩ : ∃ q, q = p + k := ⟨_, rfl⟩
    have hsum : (p : Int) + (k : Int) = (q : Int) := by omega
    have hq3 : q ≤ 600000000 := by omega
    have HQ := Lib.hid hq
    clear hG hD hq
    go_wp2_with fail
    go_ret3
    exact .inr ⟨D, k, ad, nd, cd, HG.out, by rw [← HQ.out]; rfl, HD.out, rfl⟩
theorem rat_frame_out (L : List B) (p : Int) (v : Value) (w : World) (hp : p < 0 ∨ (L.length : Int) < p) (h : HasB w w.heap.size v L) :
    Calls Try.prog 42 #[v, .int .i64 p, .func (.func 49) #[] #[]] w fun e w' => e = .returned (.tuple #[.slice none 0 0, .int .i64 p, .int .i64 2]) ∧ w = w' := by
  obtain ⟨a, cap, rfl⟩ := h.form
  by_cases h1 : p < 0
  · have t1 : decide (p < 0) = true := decide_eq_true h1
    clear h hp h1
    go_enter Try.func42, Try.ntmps42
    go_wp2_with fail
    go_ret3
    exact ⟨rfl, rfl⟩
  · have t1 : decide (p < 0) = false := decide_eq_false h1
    have t2 : decide ((L.length : Int) < p) = true := decide_eq_true (by omega)
    clear h hp h1
    go_enter Try.func42, Try.ntmps42
    go_wp2_with fail
    go_ret3
    exact ⟨rfl, rfl⟩
theorem rat_frame_in (L : List B) (p : Nat) (v : Value) (w : World) (hp : p ≤ L.length) (hL : L.length ≤ 300000000) (h : HasB w w.heap.size v L) :
    Calls Try.prog 42 #[v, .int .i64 (p : Int), .func (.func 49) #[] #[]] w (QGot (Cd.unframe (L.drop p)) p w) := by
  obtain ⟨a, cap, rfl⟩ := h.form
  obtain ⟨m, hm⟩ : ∃ m, m = L.length := ⟨_, rfl⟩
  rw [← hm] at h hp ⊢
  obtain ⟨a', hrun, hpart⟩ := bytes_from a m cap p w w.heap.size L hp hm h
  have C := Lib.hid (frame_any (L.drop p) w.heap.size _ w (by rw [List.length_drop]; omega) hpart)
  have hrun2 := hrun w p rfl
  obtain ⟨d, hd⟩ : ∃ d, d = m - p := ⟨_, rfl⟩
  obtain ⟨c', hc'⟩ : ∃ d, d = cap - p := ⟨_, rfl⟩
  rw [← hd, ← hc'] at C hrun2
  have t1 : decide ((p : Int) < 0) = false := decide_eq_false (by omega)
  have t2 : decide (m < p) = false := decide_eq_false (by omega)
  have hp3 : p ≤ 300000000 := by omega
  have HPL := Lib.hid (show (L.drop p).length ≤ 300000000 by rw [List.length_drop]; omega)
  clear h hm hL hpart hrun hd hc'
  go_enter Try.func42, Try.ntmps42
  go_wp2_with fail
  refine (C.out).mono ?_; rintro e w' (⟨c, hG, hcp, rfl, rfl⟩ | ⟨D, k, ad, nd, cd, hG, hk, rfl, hD, rfl⟩)
  · have t3 : ((c : Int) != 0) = true := by rw [bne_iff_ne]; omega
    have HG := Lib.hid hG
    clear hG hcp
    go_wp2_with fail
    go_ret3
    exact .inl ⟨c, HG.out, rfl, rfl⟩
  · have HG := Lib.hid hG; have HD := Lib.hid hD
    obtain ⟨q, hq⟩ : ∃ q, q = p + k := ⟨_, rfl⟩
    have hsum : (p : Int) + (k : Int) = (q : Int) := by omega
    have hq3 : q ≤ 600000000 := by omega
    have HQ := Lib.hid hq
    clear hG hD hq
    go_wp2_with fail
    go_ret3
    exact .inr ⟨D, k, ad, nd, cd, HG.out, by rw [← HQ.out]; rfl, HD.out, rfl⟩
theorem rat_dig_out (L : List B) (p : Int) (v : Value) (w : World) (hp : p < 0 ∨ (L.length : Int) < p) (h : HasB w w.heap.size v L) :
    Calls Try.prog 45 #[v, .int .i64 p, .func (.func 46) #[] #[]] w fun e w' => e = .returned (.tuple #[.int .u64 0, .int .i64 p, .int .i64 2]) ∧ w = w' := by
  obtain ⟨a, cap, rfl⟩ := h.form
  by_cases h1 : p < 0
  · have t1 : decide (p < 0) = true := decide_eq_true h1
    clear h hp h1
    go_enter Try.func45, Try.ntmps45
    go_wp2_with fail
    go_ret3
    exact ⟨rfl, rfl⟩
  · have t1 : decide (p < 0) = false := decide_eq_false h1
    have t2 : decide ((L.length : Int) < p) = true := decide_eq_true (by omega)
    clear h hp h1
    go_enter Try.func45, Try.ntmps45
    go_wp2_with fail
    go_ret3
    exact ⟨rfl, rfl⟩
theorem rat_dig_in (L : List B) (p : Nat) (v : Value) (w : World) (hp : p ≤ L.length) (hL : L.length ≤ 300000000) (h : HasB w w.heap.size v L) :
    Calls Try.prog 45 #[v, .int .i64 (p : Int), .func (.func 46) #[] #[]] w (GotD (Cd.getD (L.drop p)) p w) := by
  obtain ⟨a, cap, rfl⟩ := h.form
  obtain ⟨m, hm⟩ : ∃ m, m = L.length := ⟨_, rfl⟩
  rw [← hm] at h hp ⊢
  obtain ⟨a', hrun, hpart⟩ := bytes_from a m cap p w w.heap.size L hp hm h
  have C := Lib.hid (digof_any (L.drop p) w.heap.size _ w (by rw [List.length_drop]; omega) hpart)
  have hrun2 := hrun w p rfl
  obtain ⟨d, hd⟩ : ∃ d, d = m - p := ⟨_, rfl⟩
  obtain ⟨c', hc'⟩ : ∃ d, d = cap - p := ⟨_, rfl⟩
  rw [← hd, ← hc'] at C hrun2
  have t1 : decide ((p : Int) < 0) = false := decide_eq_false (by omega)
  have t2 : decide (m < p) = false := decide_eq_false (by omega)
  have hp3 : p ≤ 300000000 := by omega
  have HPL := Lib.hid (show (L.drop p).length ≤ 300000000 by rw [List.length_drop]; omega)
  clear h hm hL hpart hrun hd hc'
  go_enter Try.func45, Try.ntmps45
  go_wp2_with fail
  refine (C.out).mono ?_; rintro e w' (⟨hG, rfl, rfl⟩ | ⟨x, hG, rfl, rfl⟩)
  · have HG := Lib.hid hG
    clear hG
    go_wp2_with fail
    go_ret3
    exact .inl ⟨5, HG.out, rfl, Below.refl _ _⟩
  · have HG := Lib.hid hG
    clear hG
    go_wp2_with fail
    go_ret3
    exact .inr ⟨x, 8, HG.out, rfl, Below.refl _ _⟩
theorem rat_list_out (L : List B) (p : Int) (v : Value) (w : World) (hp : p < 0 ∨ (L.length : Int) < p) (h : HasB w w.heap.size v L) :
    Calls Try.prog 47 #[v, .int .i64 p, .func (.func 48) #[] #[]] w fun e w' => e = .returned (.tuple #[.slice none 0 0, .int .i64 p, .int .i64 2]) ∧ w = w' := by
  obtain ⟨a, cap, rfl⟩ := h.form
  by_cases h1 : p < 0
  · have t1 : decide (p < 0) = true := decide_eq_true h1
    clear h hp h1
    go_enter Try.func47, Try.ntmps47
    go_wp2_with fail
    go_ret3
    exact ⟨rfl, rfl⟩
  · have t1 : decide (p < 0) = false := decide_eq_false h1
    have t2 : decide ((L.length : Int) < p) = true := decide_eq_true (by omega)
    clear h hp h1
    go_enter Try.func47, Try.ntmps47
    go_wp2_with fail
    go_ret3
    exact ⟨rfl, rfl⟩
theorem rat_list_in (L : List B) (p : Nat) (v : Value) (w : World) (hp : p ≤ L.length) (hL : L.length ≤ 300000000) (h : HasB w w.heap.size v L) :
    Calls Try.prog 47 #[v, .int .i64 (p : Int), .func (.func 48) #[] #[]] w (GotL (Cd.getL (L.drop p)) p w) := by
  obtain ⟨a, cap, rfl⟩ := h.form
  obtain ⟨m, hm⟩ : ∃ m, m = L.length := ⟨_, rfl⟩
  rw [← hm] at h hp ⊢
  obtain ⟨a', hrun, hpart⟩ := bytes_from a m cap p w w.heap.size L hp hm h
  have C := Lib.hid (list_any (L.drop p) w.heap.size _ w (Nat.le_refl _) (by rw [List.length_drop]; omega) hpart)
  have hrun2 := hrun w p rfl
  obtain ⟨d, hd⟩ : ∃ d, d = m - p := ⟨_, rfl⟩
  obtain ⟨c', hc'⟩ : ∃ d, d = cap - p := ⟨_, rfl⟩
  rw [← hd, ← hc'] at C hrun2
  have t1 : decide ((p : Int) < 0) = false := decide_eq_false (by omega)
  have t2 : decide (m < p) = false := decide_eq_false (by omega)
  have hp3 : p ≤ 300000000 := by omega
  have HPL := Lib.hid (show (L.drop p).length ≤ 300000000 by rw [List.length_drop]; omega)
  clear h hm hL hpart hrun hd hc'
  go_enter Try.func47, Try.ntmps47
  go_wp2_with fail
  refine (C.out).mono ?_; rintro e w' (⟨c, hG, hcp, rfl, hb⟩ | ⟨l, k, ad, nd, cd, hG, hk, rfl, hS, hb⟩)
  · have t3 : ((c : Int) != 0) = true := by rw [bne_iff_ne]; omega
    have HG := Lib.hid hG; have HBL := Lib.hid hb
    clear hG hcp hb
    go_wp2_with fail
    go_ret3
    exact .inl ⟨c, HG.out, rfl, HBL.out⟩
  · have HG := Lib.hid hG; have HS := Lib.hid hS; have HBL := Lib.hid hb
    obtain ⟨q, hq⟩ : ∃ q, q = p + k := ⟨_, rfl⟩
    have hsum : (p : Int) + (k : Int) = (q : Int) := by omega
    have hq3 : q ≤ 600000000 := by omega
    have HQ := Lib.hid hq
    clear hG hS hb hq
    go_wp2_with fail
    go_ret3
    exact .inr ⟨l, k, _, HG.out, by rw [← HQ.out]; rfl, HS.out, HBL.out⟩
end Go.Proofs.Ytkckimhkbnigkaa
