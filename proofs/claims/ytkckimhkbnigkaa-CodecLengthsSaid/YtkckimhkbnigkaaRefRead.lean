/-
  What Bytes of the chapter of bytes returns, and Int anywhere. Nothing that was there has changed. Condition: the bytes are fewer than three hundred millions.
-/
import Derived.Test.YtkckimhkbnigkaaRefInt
namespace Go.Proofs.Ytkckimhkbnigkaa
open Go.ChangeShapes Go.WideShapes Go.ChangeAt Go.RowKit
open Dg (W B)
theorem rint_out (L : List B) (p : Int) (v : Value) (w : World) (hp : p < 0 ∨ (L.length : Int) < p) (h : HasB w w.heap.size v L) :
    Calls Try.prog 29 #[v, .int .i64 p] w fun e w' => e = .returned (.tuple #[.int .i64 0, .int .i64 p, .int .i64 2]) ∧ w = w' := by
  obtain ⟨a, cap, rfl⟩ := h.form
  by_cases h1 : p < 0
  · have t1 : decide (p < 0) = true := decide_eq_true h1
    clear h hp h1
    go_enter Try.func29, Try.ntmps29
    go_wp2_with fail
    go_ret3
    exact ⟨rfl, rfl⟩
  · have t1 : decide (p < 0) = false := decide_eq_false h1
    have t2 : decide ((L.length : Int) < p) = true := decide_eq_true (by omega)
    clear h hp h1
    go_enter Try.func29, Try.ntmps29
    go_wp2_with fail
    go_ret3
    exact ⟨rfl, rfl⟩
theorem rint_ok (L : List B) (p k : Nat) (n : Int) (v : Value) (w : World) (hp : p ≤ L.length) (hL : L.length ≤ 300000000) (h : HasB w w.heap.size v L) (hr : Cd.getI (L.drop p) = .ok n k) :
    Calls Try.prog 29 #[v, .int .i64 (p : Int)] w fun e w' => e = .returned (.tuple #[.int .i64 n, .int .i64 ((p + k : Nat) : Int), .int .i64 0]) ∧ w = w' := by
  refine (rint_in L p v w hp hL h).mono ?_
  rintro e w' ⟨rfl, rfl⟩
  exact ⟨by rw [hr, numRes]; rfl, rfl⟩
theorem rint_bad (L : List B) (p c : Nat) (v : Value) (w : World) (hp : p ≤ L.length) (hL : L.length ≤ 300000000) (h : HasB w w.heap.size v L) (hr : Cd.getI (L.drop p) = .bad c) :
    Calls Try.prog 29 #[v, .int .i64 (p : Int)] w fun e w' => e = .returned (.tuple #[.int .i64 0, .int .i64 (p : Int), .int .i64 (c : Int)]) ∧ w = w' := by
  refine (rint_in L p v w hp hL h).mono ?_
  rintro e w' ⟨rfl, rfl⟩
  exact ⟨by rw [hr, numRes], rfl⟩
theorem rd_code : ∀ (l : List B) (i acc c : Nat), Cd.rd i acc l = .bad c → c = 4 ∨ c = 5
  | [], i, acc, c, h => by simp [Cd.rd] at h; omega
  | x :: t, i, acc, c, h => by
    rw [Cd.rd] at h
    split at h
    · simp at h; omega
    · split at h
      · cases h
      · exact rd_code t _ _ c h
theorem getI_code {l : List B} {c : Nat} (h : Cd.getI l = .bad c) : c = 4 ∨ c = 5 := by
  unfold Cd.getI at h
  split at h
  · cases h
  · rename_i c' hr
    simp at h; subst h
    exact rd_code _ _ _ _ hr
theorem rbytes_out (L : List B) (p : Int) (v : Value) (w : World) (hp : p < 0 ∨ (L.length : Int) < p) (h : HasB w w.heap.size v L) :
    Calls Try.prog 30 #[v, .int .i64 p] w fun e w' => e = .returned (.tuple #[.slice none 0 0, .int .i64 p, .int .i64 2]) ∧ w = w' := by
  have C := Lib.hid (rint_out L p v w hp h)
  obtain ⟨a, cap, rfl⟩ := h.form
  clear h hp
  go_enter Try.func30, Try.ntmps30
  go_wp2_with fail
  refine (C.out).mono ?_; rintro e w' ⟨rfl, rfl⟩
  go_wp2_with fail
  go_ret3
  exact ⟨rfl, rfl⟩
theorem rbytes_bad (L : List B) (p c : Nat) (v : Value) (w : World) (hp : p ≤ L.length) (hL : L.length ≤ 300000000) (h : HasB w w.heap.size v L) (hr : Cd.getB (L.drop p) = .bad c) :
    Calls Try.prog 30 #[v, .int .i64 (p : Int)] w fun e w' => e = .returned (.tuple #[.slice none 0 0, .int .i64 (p : Int), .int .i64 (c : Int)]) ∧ w = w' := by
  unfold Cd.getB at hr
  obtain ⟨a, cap, hv⟩ := h.form
  cases hI : Cd.getI (L.drop p) with
  | bad c' =>
    rw [hI] at hr
    simp only [Cd.R.bad.injEq] at hr
    subst hr
    have C := Lib.hid (rint_bad L p c' v w hp hL h hI)
    have hc := getI_code hI
    have t1 : ((c' : Int) != 0) = true := by rw [bne_iff_ne]; omega
    subst hv
    clear h hp hI hc
    go_enter Try.func30, Try.ntmps30
    go_wp2_with fail
    refine (C.out).mono ?_; rintro e w' ⟨rfl, rfl⟩
    go_wp2_with fail
    go_ret3
    exact ⟨rfl, rfl⟩
  | ok n k =>
    rw [hI] at hr
    simp only [] at hr
    have C := Lib.hid (rint_ok L p k n v w hp hL h hI)
    obtain ⟨e1, e2, e3, e4⟩ := Cd.getI_inv hI
    rw [List.length_drop] at e3
    subst hv
    unfold Cd.InR at e1
    by_cases hneg : n < 0
    · rw [if_pos hneg] at hr
      simp only [Cd.R.bad.injEq] at hr
      subst hr
      have t1 : decide (n < 0) = true := decide_eq_true hneg
      clear h hp hI e1 e2 e3 e4 hneg
      go_enter Try.func30, Try.ntmps30
      go_wp2_with fail
      refine (C.out).mono ?_; rintro e w' ⟨rfl, rfl⟩
      go_wp2_with fail
      go_ret3
      exact ⟨rfl, rfl⟩
    · rw [if_neg hneg] at hr
      split at hr
      · rename_i hlong
        simp only [Cd.R.bad.injEq] at hr
        subst hr
        have t1 : decide (n < 0) = false := decide_eq_false hneg
        obtain ⟨j, hj⟩ : ∃ j, j = p + k := ⟨_, rfl⟩
        obtain ⟨m, hm⟩ : ∃ m, m = L.length := ⟨_, rfl⟩
        rw [List.length_drop] at hlong
        rw [← hj] at C
        rw [← hm] at C e3 hlong hL hp ⊢
        have t2 : (m : Int) - (j : Int) < n := by omega
        have hjm : j ≤ m := by omega
        clear h hI e1 e2 e3 e4 hneg hlong hj hm hp
        go_enter Try.func30, Try.ntmps30
        go_wp2_with fail
        refine (C.out).mono ?_; rintro e w' ⟨rfl, rfl⟩
        go_wp2_with fail
        go_ret3
        exact ⟨rfl, rfl⟩
      · cases hr
/-- a part of a slice of bytes -/
theorem bytes_part (b off len cap k m : Nat) (w : World) (h : k ≤ m) (h2 : m ≤ cap) : ∃ a', (∀ x y : Int, x = k → y = m →
    (Instr.slice 22 (.slice (some ⟨b, off, none⟩) len cap) (some (.int .i64 x)) (some (.int .i64 y)) none).run Try.prog w = .ok (.slice a' (m - k) (cap - k)) w) ∧ (k < m → a' = some ⟨b, off + k, none⟩) := by
  have he : (sizeOf (Try.prog.elem 22)).run Try.prog w = .ok 1 w := by kernel_rfl
  have key : ∃ a', (Instr.slice 22 (.slice (some ⟨b, off, none⟩) len cap) (some (.int .i64 (k : Int))) (some (.int .i64 (m : Int))) none).run Try.prog w = .ok (.slice a' (m - k) (cap - k)) w ∧ (k < m → a' = some ⟨b, off + k, none⟩) := by
    rw [run_slice_lh w 22 _ len cap (by kernel_rfl) .i64 .i64 (k : Int) (m : Int) (by omega) (by omega) (by omega), he]
    show ∃ a', Result.ok (sliced _ _ _ _ _) w = _ ∧ _
    unfold sliced
    have e1 : ((k : Int)).toNat = k := by omega
    have e2 : ((m : Int)).toNat = m := by omega
    rw [e1, e2]
    split
    · rename_i h0
      exact ⟨_, rfl, fun hk => by omega⟩
    · rename_i h0
      refine ⟨_, rfl, fun hk => ?_⟩
      simp [Addr.add]
  obtain ⟨a', h3, h4⟩ := key
  exact ⟨a', fun x y hx hy => by subst hx; subst hy; exact h3, h4⟩
theorem part_has {w : World} {b off cap k m N : Nat} {L : List B} {a' : Option Addr} (hm : m ≤ L.length) (hk : k ≤ m) (hcap : L.length ≤ cap) (hb : b < N) (hc : ∀ i, i < L.length → w.cell? ⟨b, off + i, none⟩ = some (.int .u8 (bv (L.getD i 0)))) (ha : k < m → a' = some ⟨b, off + k, none⟩) :
    HasB w N (.slice a' (m - k) (cap - k)) ((L.drop k).take (m - k)) := by
  have hl : ((L.drop k).take (m - k)).length = m - k := by simp; omega
  by_cases h : k < m
  · obtain rfl := ha h
    refine .inr ⟨b, off + k, cap - k, by rw [hl], by rw [hl]; omega, hb, fun i hi => ?_⟩
    rw [hl] at hi
    rw [Nat.add_assoc, hc (k + i) (by omega)]
    simp [List.getD, hi, List.getElem?_drop]
  · refine .inl ⟨a', cap - k, by rw [show m - k = 0 by omega], List.length_eq_zero_iff.1 (by omega)⟩
set_option maxHeartbeats 1000000 in
theorem rbytes_ok (L D : List B) (p k : Nat) (v : Value) (w : World) (hp : p ≤ L.length) (hL : L.length ≤ 300000000) (h : HasB w w.heap.size v L) (hr : Cd.getB (L.drop p) = .ok D k) :
    Calls Try.prog 30 #[v, .int .i64 (p : Int)] w fun e w' => ∃ dv, e = .returned (.tuple #[dv, .int .i64 ((p + k : Nat) : Int), .int .i64 0]) ∧ OwnB w.heap.size w' dv D ∧ Below w.heap.size w w' := by
  unfold Cd.getB at hr
  cases hI : Cd.getI (L.drop p) with
  | bad c' => rw [hI] at hr; cases hr
  | ok n j =>
    rw [hI] at hr
    simp only [] at hr
    have C := Lib.hid (rint_ok L p j n v w hp hL h hI)
    obtain ⟨e1, e2, e3, e4⟩ := Cd.getI_inv hI
    rw [List.length_drop] at e3
    unfold Cd.InR at e1
    by_cases hneg : n < 0
    · rw [if_pos hneg] at hr; cases hr
    · rw [if_neg hneg] at hr
      split at hr
      · cases hr
      · rename_i hlong
        simp only [Cd.R.ok.injEq] at hr
        obtain ⟨hD, hk⟩ := hr
        rw [List.length_drop] at hlong
        obtain ⟨q, rfl⟩ : ∃ q : Nat, n = q := ⟨n.toNat, by omega⟩
        rw [Int.toNat_natCast] at hD hk
        rcases h with ⟨a, cap, rfl, rfl⟩ | ⟨b, off, cap, rfl, h2, h3, h4⟩
        · simp at e3; omega
        · obtain ⟨s, hs⟩ : ∃ s, s = p + j := ⟨_, rfl⟩
          obtain ⟨m, hm⟩ : ∃ m, m = s + q := ⟨_, rfl⟩
          obtain ⟨a', hrun, ha⟩ := bytes_part b off L.length cap s m w (by omega) (by omega)
          have hpart : HasB w w.heap.size (.slice a' (m - s) (cap - s)) D := by
            have := part_has (a' := a') (N := w.heap.size) (k := s) (m := m) (by omega) (by omega) h2 h3 h4 ha
            rw [← hD, List.drop_drop, ← hs]
            rw [show m - s = q by omega] at this ⊢
            exact this
          have hDl : D.length = m - s := by rw [← hD]; simp; omega
          rw [← hs] at C
          have hsum : (s : Int) + (q : Int) = (m : Int) := by omega
          have t1 : decide ((q : Int) < 0) = false := decide_eq_false (by omega)
          obtain ⟨ln, hln⟩ : ∃ ln, ln = L.length := ⟨_, rfl⟩
          rw [← hln] at hL hrun C h2 hlong e3 hp ⊢
          have t2 : ¬ (ln : Int) - (s : Int) < (q : Int) := by omega
          have hsl : s ≤ ln := by omega
          have hml : m ≤ ln := by omega
          have hrun2 := hrun s m rfl rfl
          have hkk : Hid (p + k = m) := Lib.hid (by omega)
          have HP := Lib.hid hpart; have HDL := Lib.hid hDl
          obtain ⟨df, hdf⟩ : ∃ df, df = m - s := ⟨_, rfl⟩
          rw [← hdf] at hrun2 HP HDL
          have hdf2 : df ≤ 300000000 := by omega
          clear hI e1 e2 e3 e4 hneg hlong hD hk hs hln hp hrun ha hpart hDl h4 h3 hm hdf
          go_enter Try.func30, Try.ntmps30
          go_wp2_with fail
          refine (C.out).mono ?_; rintro e w' ⟨rfl, rfl⟩
          go_wp2_with (at_builtin; refine wpList_append_bytes rfl (.const (.slice none 0 0)) (.tmp 39) rfl w.heap.size _ _ [] D rfl (OwnB.nil w _) rfl w.heap.size HP.out (by have := HDL.out; simp; omega) (Nat.le_refl _) df (by have := HDL.out; simp; omega) ?_)
          intro a1 cap1 w1 own1 grow1
          have OWN1 := Lib.hid own1
          have BEL1 := Lib.hid (below_grownB (Below.refl _ _) (Nat.le_refl _) (OwnB.nil w w.heap.size) grow1)
          clear own1 grow1
          go_wp2_with fail
          go_ret3
          exact ⟨_, by rw [hkk.out]; rfl, OWN1.out, BEL1.out⟩
end Go.Proofs.Ytkckimhkbnigkaa
