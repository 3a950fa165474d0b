/-
  What the functions of package codec return. Each says its own conditions; nothing that was there has changed.
-/
import Derived.Test.YtgkckomccabmlaaGreatDoorLmB
import Derived.Lib.LazyBuf
namespace Go.Proofs.YtgkckomccabmlaaGreatDoor
open Go.ChangeShapes Go.WideShapes Go.ChangeAt Go.RowKit
open Dg (W B)
/-- a call has returned these bytes -/
def Gives (l : List B) (w : World) (e : Ending) (w' : World) : Prop := ∃ v, e = .returned v ∧ HasB w' w'.heap.size v l ∧ Below w.heap.size w w'
theorem Gives.of {l : List B} {w w' : World} {e : Ending} (h : ∃ v, e = .returned v ∧ OwnB w.heap.size w' v l ∧ Below w.heap.size w w') : Gives l w e w' := by
  obtain ⟨v, h1, h2, h3⟩ := h; exact ⟨v, h1, h2.has, h3⟩
/-- a number has been read, or an error -/
def GotI (r : Cd.R Int) (p : Nat) (w : World) (e : Ending) (w' : World) : Prop := e = .returned (numRes p r) ∧ Below w.heap.size w w'
/-- a string of bytes has been read, or an error -/
def GotB (r : Cd.R (List B)) (p : Nat) (w : World) (e : Ending) (w' : World) : Prop :=
  (∃ c : Nat, r = .bad c ∧ e = .returned (.tuple #[.slice none 0 0, .int .i64 (p : Int), .int .i64 (c : Int)]) ∧ Below w.heap.size w w') ∨
  ∃ D k v, r = .ok D k ∧ e = .returned (.tuple #[v, .int .i64 ((p + k : Nat) : Int), .int .i64 0]) ∧ HasB w' w'.heap.size v D ∧ Below w.heap.size w w'
/-- a digest has been read, or an error -/
def GotD (r : Cd.R W) (p : Nat) (w : World) (e : Ending) (w' : World) : Prop :=
  (∃ c : Nat, r = .bad c ∧ e = .returned (.tuple #[.int .u64 0, .int .i64 (p : Int), .int .i64 (c : Int)]) ∧ Below w.heap.size w w') ∨
  ∃ d k, r = .ok d k ∧ e = .returned (.tuple #[.int .u64 (uv d), .int .i64 ((p + k : Nat) : Int), .int .i64 0]) ∧ Below w.heap.size w w'
/-- a list has been read, or an error -/
def GotL (r : Cd.R (List (List B))) (p : Nat) (w : World) (e : Ending) (w' : World) : Prop :=
  (∃ c : Nat, r = .bad c ∧ e = .returned (.tuple #[.slice none 0 0, .int .i64 (p : Int), .int .i64 (c : Int)]) ∧ Below w.heap.size w w') ∨
  ∃ l k v, r = .ok l k ∧ e = .returned (.tuple #[v, .int .i64 ((p + k : Nat) : Int), .int .i64 0]) ∧ HasS w' w'.heap.size v (l.map bstr) ∧ Below w.heap.size w w'
/-- a position that is not there -/
def Out3 (z : Value) (p : Int) (w : World) (e : Ending) (w' : World) : Prop := e = .returned (.tuple #[z, .int .i64 p, .int .i64 2]) ∧ Below w.heap.size w w'
/-! ### the chapter's, in these forms -/
theorem rbytes_got (L : List B) (p : Nat) (v : Value) (w : World) (hp : p ≤ L.length) (hL : L.length ≤ 300000000) (h : HasB w w.heap.size v L) : Calls Tryz.prog 54 #[v, .int .i64 (p : Int)] w (GotB (Cd.getB (L.drop p)) p w) := by
  cases hr : Cd.getB (L.drop p) with
  | bad c => exact (rbytes_bad L p c v w hp hL h hr).mono fun e w' g => .inl ⟨c, rfl, g.1, by rw [← g.2]; exact Below.refl _ _⟩
  | ok D k => exact (rbytes_ok L D p k v w hp hL h hr).mono fun e w' ⟨dv, g1, g2, g3⟩ => .inr ⟨D, k, dv, rfl, g1, g2.has, g3⟩
theorem rdgt_got (L : List B) (p : Nat) (v : Value) (w : World) (hp : p ≤ L.length) (hL : L.length ≤ 300000000) (h : HasB w w.heap.size v L) : Calls Tryz.prog 53 #[v, .int .i64 (p : Int)] w (GotD (Cd.getD (L.drop p)) p w) := by
  cases hr : Cd.getD (L.drop p) with
  | bad c => exact (rdgt_bad L p c v w hp h hr).mono fun e w' g => .inl ⟨c, rfl, g.1, by rw [← g.2]; exact Below.refl _ _⟩
  | ok d k =>
    obtain ⟨rfl, -, -⟩ := Cd.getD_inv hr
    exact (rdgt_ok L p 8 d v w hp hL h hr).mono fun e w' g => .inr ⟨d, 8, rfl, g.1, by rw [← g.2]; exact Below.refl _ _⟩
theorem rint_got (L : List B) (p : Nat) (v : Value) (w : World) (hp : p ≤ L.length) (hL : L.length ≤ 300000000) (h : HasB w w.heap.size v L) : Calls Tryz.prog 52 #[v, .int .i64 (p : Int)] w (GotI (Cd.getI (L.drop p)) p w) :=
  (rint_in L p v w hp hL h).mono fun e w' g => ⟨g.1, by rw [← g.2]; exact Below.refl _ _⟩
end Go.Proofs.YtgkckomccabmlaaGreatDoor
namespace Go.Proofs.YtgkckomccabmlaaGreatDoor
open Go.ChangeShapes Go.WideShapes Go.ChangeAt Go.RowKit
open Dg (W B)
theorem unfolded_any (u : Nat) (w : World) (hu : u < 18446744073709551616) :
    Calls Tryz.prog 95 #[.int .u64 (u : Int)] w fun e w' => e = .returned (.int .i64 (Cd.zag u)) ∧ w = w' := by
  obtain ⟨x, hx⟩ : ∃ x, x = u / 2 := ⟨_, rfl⟩
  have hxI : (u : Int) / 2 = (x : Int) := by omega
  have hx63 : x ≤ 9223372036854775807 := by omega
  by_cases h : u % 2 = 1
  · have t1 : (u : Int) % 2 = 1 := by omega
    have hz := Lib.hid (show Cd.zag u = -(x : Int) - 1 by unfold Cd.zag; rw [if_pos h, ← hx])
    clear hx h
    go_enter Tryz.func95, Tryz.ntmps95
    go_wp2_with fail
    go_ret
    exact ⟨by rw [hz.out]; rfl, rfl⟩
  · have t1 : (u : Int) % 2 = 0 := by omega
    have hz := Lib.hid (show Cd.zag u = (x : Int) by unfold Cd.zag; rw [if_neg h, ← hx])
    clear hx h
    go_enter Tryz.func95, Tryz.ntmps95
    go_wp2_with fail
    go_ret
    exact ⟨by rw [hz.out]; rfl, rfl⟩
/-- what number returns -/
def nRes : Cd.R Int → Value
  | .ok n k => .tuple #[.int .i64 n, .int .i64 (k : Int), .int .i64 0]
  | .bad c => .tuple #[.int .i64 0, .int .i64 0, .int .i64 (c : Int)]
def NRel (L : List B) (w : World) (u i : Value) (wr : World) : Prop :=
  ∃ (k acc : Nat), k ≤ 9 ∧ u = .int .u64 (acc : Int) ∧ i = .int .i64 (k : Int) ∧ acc < 128 ^ k ∧ k ≤ L.length ∧ Cd.rd 0 0 L = Cd.rd k acc (L.drop k) ∧ w = wr
set_option maxRecDepth 100000 in
set_option maxHeartbeats 2000000 in
theorem num_any (L : List B) (N : Nat) (v : Value) (w : World) (hL : L.length ≤ 300000000) (h : HasB w N v L) :
    Calls Tryz.prog 74 #[v] w fun e w' => e = .returned (nRes (Cd.getI L)) ∧ w = w' := by
  obtain ⟨a, cap, rfl⟩ := h.form
  obtain ⟨m, hm⟩ : ∃ m, m = L.length := ⟨_, rfl⟩
  rw [← hm] at h hL ⊢
  have HM := Lib.hid hm; have H := Lib.hid h
  clear hm h
  go_enter Tryz.func74, Tryz.ntmps74
  go_wp2_with fail
  go_loopw [5, 10] (NRel L w) (fun _ i _ => 10 - (intOf i).toNat)
  case atStart => exact ⟨0, 0, by omega, rfl, rfl, by simp, by omega, by simp, rfl⟩
  case round =>
    obtain ⟨k, acc, hk, rfl, rfl, hacc, hpk, hrd, rfl⟩ := hrel
    have HRD := Lib.hid hrd; clear hrd
    have HACC := Lib.hid hacc; clear hacc
    rw [← HM.out] at hpk
    have k9 : k ≤ 9 := hk
    by_cases hend : m ≤ k
    · have hnil : L.drop k = [] := List.drop_eq_nil_of_le (by have := HM.out; omega)
      have hres : Cd.getI L = .bad 5 := by unfold Cd.getI; rw [HRD.out, hnil]; rfl
      have HRES := Lib.hid hres; clear hres hnil
      obtain rfl : k = m := by omega
      go_wp2_with fail
      go_ret3
      exact ⟨by rw [HRES.out]; rfl, rfl⟩
    · have t3 : k < m := by omega
      obtain ⟨b', off', rfl, hcell⟩ := H.out.at k t3
      have hcons := drop_cons (L := L) (j := k) (by have := HM.out; omega)
      generalize L.getD k 0 = c at hcell hcons
      have HC := Lib.hid hcons; clear hcons
      obtain ⟨cv, hcv⟩ : ∃ cv, cv = c.toNat := ⟨_, rfl⟩
      have hbn : bv c = (cv : Int) := by rw [hcv]; rfl
      have c256 : cv < 256 := by rw [hcv]; exact c.isLt
      rw [hbn] at hcell
      have HCV := Lib.hid hcv
      clear hbn hcv
      by_cases hbad : (k = 9 ∧ 1 < cv) ∨ (0 < k ∧ cv = 0)
      · have hres : Cd.getI L = .bad 4 := by unfold Cd.getI; rw [HRD.out, HC.out, Cd.rd, ← HCV.out, if_pos hbad]
        have HRES := Lib.hid hres; clear hres
        rcases hbad with ⟨hb9, hb⟩ | ⟨hb, hc0⟩
        · subst hb9
          have q1 : (1 : Int) < (cv : Int) := by omega
          have q4 : ((cv : Int) == 0) = false := by rw [beq_eq_false_iff_ne]; omega
          go_wp2_with fail
          go_ret3
          exact ⟨by rw [HRES.out]; rfl, rfl⟩
        · subst hc0
          have q2 : (0 : Int) < (k : Int) := by omega
          go_wp2_with fail
          go_ret3
          exact ⟨by rw [HRES.out]; rfl, rfl⟩
      · have hok := rd_step (L.drop (k + 1)) k acc c cv HCV.out hbad
        have HOK := Lib.hid hok; clear hok
        have hor := or_shift acc (cv % 128) k k9 HACC.out (by omega) (by omega)
        obtain ⟨sh, hsh⟩ : ∃ sh : Nat, sh = 7 * k := ⟨_, rfl⟩
        rw [← hsh] at hor
        have hways : (k = 9 ∧ cv = 1) ∨ (k = 0) ∨ (0 < k ∧ k < 9 ∧ 0 < cv) := by omega
        obtain ⟨u, hu⟩ : ∃ u, u = acc + cv % 128 * 128 ^ k := ⟨_, rfl⟩
        have hulo : u < 128 ^ (k + 1) := by
          have h1 : cv % 128 * 128 ^ k ≤ 127 * 128 ^ k := Nat.mul_le_mul_right _ (by omega)
          have := HACC.out
          rw [hu, Nat.pow_succ]; omega
        have hu64 : u < 18446744073709551616 := by
          rcases Nat.lt_or_ge k 9 with h | h
          · have : (128 : Nat) ^ (k + 1) ≤ 128 ^ 9 := Nat.pow_le_pow_right (by decide) (by omega)
            exact Nat.lt_of_lt_of_le hulo (Nat.le_trans this (by decide))
          · obtain rfl : k = 9 := by omega
            have := HACC.out
            have h1 : cv % 128 ≤ 1 := by omega
            rw [hu]
            have h2 : cv % 128 * 128 ^ 9 ≤ 1 * 128 ^ 9 := Nat.mul_le_mul_right _ h1
            have h3 : (128 : Nat) ^ 9 = 9223372036854775808 := by decide
            omega
        rw [← hu] at hor HOK
        have HU := Lib.hid hu; have HULO := Lib.hid hulo
        rw [show ((cv % 128 : Nat) : Int) = (cv : Int) % 128 by omega] at hor
        clear hu hulo
        have CU := Lib.hid (unfolded_any u w hu64)
        clear hu64
        by_cases hsm : cv < 128
        · have hres : Cd.getI L = .ok (Cd.zag u) (k + 1) := by unfold Cd.getI; rw [HRD.out, HC.out, HOK.out, if_pos hsm]
          have HRES := Lib.hid hres; clear hres
          have hsmI : (cv : Int) < 128 := by omega
          have hfin : Hid (((k + 1 : Nat) : Int) = (k : Int) + 1) := Lib.hid (by omega)
          generalize Cd.zag u = zv at CU HRES
          rcases hways with ⟨h9, hc1⟩ | h0 | ⟨h0, h9, hc1⟩
          · subst h9; subst hc1
            have e63 : (2 : Int) ^ sh = 9223372036854775808 := by rw [hsh]; decide
            clear hsh
            rw [e63] at hor
            have hor9 : bits .or .u64 (acc : Int) 9223372036854775808 = (u : Int) := by rw [← hor]; rfl
            clear hor e63
            go_wp2_with fail
            refine (CU.out).mono ?_; rintro e w' ⟨rfl, rfl⟩
            go_wp2_with fail
            go_ret3
            exact ⟨by rw [HRES.out]; rfl, rfl⟩
          · have q3 : ((k : Int) == 9) = false := by rw [beq_eq_false_iff_ne]; omega
            have q2 : ¬ (0 : Int) < (k : Int) := by omega
            have h7 : (7 : Int) * (k : Int) = (sh : Int) := by omega
            have hs60 : sh ≤ 60 := by omega
            clear h0 hsh
            go_wp2_with fail
            refine (CU.out).mono ?_; rintro e w' ⟨rfl, rfl⟩
            go_wp2_with fail
            go_ret3
            exact ⟨by rw [HRES.out, nRes, hfin.out]; rfl, rfl⟩
          · have q3 : ((k : Int) == 9) = false := by rw [beq_eq_false_iff_ne]; omega
            have q2 : (0 : Int) < (k : Int) := by omega
            have q4 : ((cv : Int) == 0) = false := by rw [beq_eq_false_iff_ne]; omega
            have h7 : (7 : Int) * (k : Int) = (sh : Int) := by omega
            have hs60 : sh ≤ 60 := by omega
            clear h0 hc1 hsh
            go_wp2_with fail
            refine (CU.out).mono ?_; rintro e w' ⟨rfl, rfl⟩
            go_wp2_with fail
            go_ret3
            exact ⟨by rw [HRES.out, nRes, hfin.out]; rfl, rfl⟩
        · have hk8 : k ≤ 8 := by omega
          have hsmI : ¬ (cv : Int) < 128 := by omega
          have hnext : Hid (Cd.rd 0 0 L = Cd.rd (k + 1) u (L.drop (k + 1))) := Lib.hid (by rw [HRD.out, HC.out, HOK.out, if_neg hsm])
          by_cases hk0 : k = 0
          · have q3 : ((k : Int) == 9) = false := by rw [beq_eq_false_iff_ne]; omega
            have q2 : ¬ (0 : Int) < (k : Int) := by omega
            have h7 : (7 : Int) * (k : Int) = (sh : Int) := by omega
            have hs60 : sh ≤ 60 := by omega
            clear hk0 hways hsh
            go_wp2_with fail
            go_roundw
            case rel => exact ⟨k + 1, u, by omega, rfl, by go_num, HULO.out, by have := HM.out; omega, hnext.out, rfl⟩
            case measure => simp [intOf]; omega
          · have q3 : ((k : Int) == 9) = false := by rw [beq_eq_false_iff_ne]; omega
            have q2 : (0 : Int) < (k : Int) := by omega
            have q4 : ((cv : Int) == 0) = false := by rw [beq_eq_false_iff_ne]; omega
            have h7 : (7 : Int) * (k : Int) = (sh : Int) := by omega
            have hs60 : sh ≤ 60 := by omega
            clear hk0 hways hsh
            go_wp2_with fail
            go_roundw
            case rel => exact ⟨k + 1, u, by omega, rfl, by go_num, HULO.out, by have := HM.out; omega, hnext.out, rfl⟩
            case measure => simp [intOf]; omega
end Go.Proofs.YtgkckomccabmlaaGreatDoor
namespace Go.Proofs.YtgkckomccabmlaaGreatDoor
open Go.ChangeShapes Go.WideShapes Go.ChangeAt Go.RowKit
open Dg (W B)
/-- b[k:] -/
theorem bytes_from (a : Option Addr) (len cap k : Nat) (w : World) (N : Nat) (L : List B) (hk : k ≤ len) (hl : len = L.length) (h : HasB w N (.slice a len cap) L) :
    ∃ a', (∀ (w' : World) (x : Int), x = k → (Instr.slice 24 (.slice a len cap) (some (.int .i64 x)) none none).run Tryz.prog w' = .ok (.slice a' (len - k) (cap - k)) w') ∧ HasB w N (.slice a' (len - k) (cap - k)) (L.drop k) := by
  refine ⟨if cap = k then a else a.map (·.add (k * 1)), ?_, ?_⟩
  · rintro w' x rfl
    have he : (sizeOf (Tryz.prog.elem 24)).run Tryz.prog w' = .ok 1 w' := by kernel_rfl
    rw [run_slice_l w' 24 a len cap (by kernel_rfl) .i64 (k : Int) (by omega) (by omega), he]
    show Result.ok (sliced a ((k : Int)).toNat len cap 1) w' = _
    unfold sliced
    rw [Int.toNat_natCast]
  · subst hl
    by_cases hlt : k < L.length
    · rcases h with ⟨a', c, e, rfl⟩ | ⟨b, off, c, e, h1, h2, h3⟩
      · simp at hlt
      · simp only [Value.slice.injEq] at e
        obtain ⟨rfl, -, rfl⟩ := e
        rw [if_neg (by omega)]
        refine .inr ⟨b, off + k, cap - k, by simp [Addr.add], by rw [List.length_drop]; omega, h2, fun i hi => ?_⟩
        rw [List.length_drop] at hi
        rw [Nat.add_assoc, h3 (k + i) (by omega)]
        simp [List.getD, List.getElem?_drop]
    · refine .inl ⟨_, cap - k, by rw [show L.length - k = 0 by omega], List.drop_eq_nil_of_le (by omega)⟩
def PGot (r : Cd.R (List B)) (N : Nat) (w : World) (e : Ending) (w' : World) : Prop :=
  (∃ c : Nat, r = .bad c ∧ 0 < c ∧ e = .returned (.tuple #[.slice none 0 0, .int .i64 0, .int .i64 (c : Int)]) ∧ w = w') ∨
  ∃ D k a n c2, r = .ok D k ∧ k ≤ 300000000 ∧ e = .returned (.tuple #[.slice a n c2, .int .i64 (k : Int), .int .i64 0]) ∧ HasB w N (.slice a n c2) D ∧ w = w'
set_option maxHeartbeats 1000000 in
set_option maxRecDepth 100000 in
theorem piece_any (L : List B) (N : Nat) (v : Value) (w : World) (hL : L.length ≤ 300000000) (h : HasB w N v L) :
    Calls Tryz.prog 78 #[v] w (PGot (Cd.getB L) N w) := by
  have C0 := num_any L N v w hL h
  obtain ⟨a, cap, hv⟩ := h.form
  cases hI : Cd.getI L with
  | bad c =>
    rw [hI] at C0
    have C := Lib.hid C0
    have hc := getI_code hI
    have t1 : ((c : Int) != 0) = true := by rw [bne_iff_ne]; omega
    have hU := Lib.hid (show Cd.getB L = .bad c ∧ 0 < c by unfold Cd.getB; rw [hI]; exact ⟨rfl, by omega⟩)
    subst hv
    clear h C0 hI hc
    go_enter Tryz.func78, Tryz.ntmps78
    go_wp2_with fail
    refine (C.out).mono ?_; rintro e w' ⟨rfl, rfl⟩
    unfold nRes
    go_wp2_with fail
    go_ret3
    exact .inl ⟨c, hU.out.1, hU.out.2, rfl, rfl⟩
  | ok n k =>
    rw [hI] at C0
    have C := Lib.hid C0
    obtain ⟨e1, e2, e3, e4⟩ := Cd.getI_inv hI
    unfold Cd.InR at e1
    have hr : Cd.getB L = if n < 0 then .bad 4 else if (L.length : Int) - k < n then .bad 5 else .ok ((L.drop k).take n.toNat) (k + n.toNat) := by unfold Cd.getB; rw [hI]
    by_cases hneg : n < 0
    · rw [if_pos hneg] at hr
      have hU := Lib.hid hr
      have t1 : decide (n < 0) = true := decide_eq_true hneg
      subst hv
      clear h C0 hI e1 e2 e3 e4 hr hneg
      go_enter Tryz.func78, Tryz.ntmps78
      go_wp2_with fail
      refine (C.out).mono ?_; rintro e w' ⟨rfl, rfl⟩
      unfold nRes
      go_wp2_with fail
      go_ret3
      exact .inl ⟨4, hU.out, by omega, rfl, rfl⟩
    · rw [if_neg hneg] at hr
      obtain ⟨m, hm⟩ : ∃ m, m = L.length := ⟨_, rfl⟩
      by_cases hlong : (L.length : Int) - k < n
      · rw [if_pos hlong] at hr
        have hU := Lib.hid hr
        subst hv
        rw [← hm] at C hlong e3 hL ⊢
        have t1 : decide (n < 0) = false := decide_eq_false hneg
        have t2 : (m : Int) - (k : Int) < n := hlong
        have hkm : k ≤ m := e3
        clear h C0 hI e1 e2 e3 e4 hr hm hneg hlong
        go_enter Tryz.func78, Tryz.ntmps78
        go_wp2_with fail
        refine (C.out).mono ?_; rintro e w' ⟨rfl, rfl⟩
        unfold nRes
        go_wp2_with fail
        go_ret3
        exact .inl ⟨5, hU.out, by omega, rfl, rfl⟩
      · rw [if_neg hlong] at hr
        obtain ⟨q, rfl⟩ : ∃ q : Nat, n = q := ⟨n.toNat, by omega⟩
        rw [Int.toNat_natCast] at hr
        subst hv
        rcases h with ⟨a1, cap1, e, rfl⟩ | ⟨b, off, cap1, e, h2, h3, h4⟩
        · simp at e3; omega
        · simp only [Value.slice.injEq] at e
          obtain ⟨rfl, -, rfl⟩ := e
          obtain ⟨s, hs⟩ : ∃ s, s = k + q := ⟨_, rfl⟩
          obtain ⟨a', hrun, ha⟩ := bytes_part b off L.length cap k s w (by omega) (by omega)
          have hpart := part_has (a' := a') (N := N) (k := k) (m := s) (by omega) (by omega) h2 h3 h4 ha
          rw [show (L.drop k).take q = (L.drop k).take (s - k) by rw [hs]; congr 1; omega, ← hs] at hr
          have hrun2 := hrun k s rfl rfl
          have hsum : (k : Int) + (q : Int) = (s : Int) := by omega
          rw [← hm] at C hrun2 hlong e3 hL ⊢
          have hsm : s ≤ m := by omega
          have hkm : k ≤ m := by omega
          have t1 : decide ((q : Int) < 0) = false := decide_eq_false (by omega)
          have t2 : ¬ (m : Int) - (k : Int) < (q : Int) := by omega
          have HP := Lib.hid hpart; have HR := Lib.hid hr
          clear C0 hI e1 e2 e3 e4 hr hm hs hrun ha hpart h4 h3 h2 hneg hlong
          go_enter Tryz.func78, Tryz.ntmps78
          go_wp2_with fail
          refine (C.out).mono ?_; rintro e w' ⟨rfl, rfl⟩
          unfold nRes
          go_wp2_with fail
          go_ret3
          exact .inr ⟨_, s, a', _, _, HR.out, by omega, rfl, HP.out, rfl⟩
def DGot (r : Cd.R W) (w : World) (e : Ending) (w' : World) : Prop :=
  (r = .bad 5 ∧ e = .returned (.tuple #[.int .u64 0, .int .i64 0, .int .i64 5]) ∧ w = w') ∨
  ∃ d, r = .ok d 8 ∧ e = .returned (.tuple #[.int .u64 (uv d), .int .i64 8, .int .i64 0]) ∧ w = w'
set_option maxRecDepth 100000 in
set_option maxHeartbeats 1000000 in
set_option maxRecDepth 100000 in
theorem digof_any (L : List B) (N : Nat) (v : Value) (w : World) (hL : L.length ≤ 300000000) (h : HasB w N v L) :
    Calls Tryz.prog 76 #[v] w (DGot (Cd.getD L) w) := by
  obtain ⟨a, cap, rfl⟩ := h.form
  obtain ⟨m, hm⟩ : ∃ m, m = L.length := ⟨_, rfl⟩
  by_cases hs : L.length < 8
  · have hU := Lib.hid (show Cd.getD L = .bad 5 by unfold Cd.getD; rw [if_pos hs])
    rw [← hm] at hs ⊢
    have t1 : (m : Int) < 8 := by omega
    clear h hm hs
    go_enter Tryz.func76, Tryz.ntmps76
    go_wp2_with fail
    go_ret3
    exact .inl ⟨hU.out, rfl, rfl⟩
  · obtain ⟨d, hd⟩ : ∃ d, d = BitVec.ofNat 64 (Cd.dgN (L.take 8)) := ⟨_, rfl⟩
    have hU := Lib.hid (show Cd.getD L = .ok d 8 by unfold Cd.getD; rw [if_neg hs, hd])
    have hF := Lib.hid (show (Cd.dgN (L.take 8) : Int) = uv d by
      have := dgN_lt L 8 (by omega)
      rw [hd]
      unfold uv
      rw [BitVec.toNat_ofNat, Nat.mod_eq_of_lt (Nat.lt_of_lt_of_le this (by decide))])
    have H := Lib.hid h
    rw [← hm] at hs hL H ⊢
    have t1 : ¬ (m : Int) < 8 := by omega
    have HM := Lib.hid hm
    clear h hm hd
    go_enter Tryz.func76, Tryz.ntmps76
    go_wp2_with fail
    go_loopw [5, 10] (GRel L w) (fun _ i _ => 8 - (intOf i).toNat)
    case atStart => exact ⟨0, by omega, rfl, by simp [Cd.dgN], rfl⟩
    case round =>
      obtain ⟨k, hk, rfl, rfl, rfl⟩ := hrel
      by_cases hlt : k < 8
      · have tl : (k : Int) < 8 := by omega
        have tkm : k < m := by omega
        obtain ⟨b', off', rfl, hcell⟩ := H.out.at k (by omega)
        have hsucc := dgN_succ L k (by have := HM.out; omega)
        have hlo := dgN_lt L k (by have := HM.out; omega)
        have h56 : Cd.dgN (L.take k) < 72057594037927936 := Nat.lt_of_lt_of_le hlo (Nat.le_trans (Nat.pow_le_pow_right (by decide) (show k ≤ 7 by omega)) (by decide))
        generalize L.getD k 0 = c at hcell hsucc
        obtain ⟨cv, hcv⟩ : ∃ cv, cv = c.toNat := ⟨_, rfl⟩
        have hor := or8 (Cd.dgN (L.take k)) c cv hcv h56
        have hbn : bv c = (cv : Int) := by rw [hcv]; rfl
        have c256 : cv < 256 := by rw [hcv]; exact c.isLt
        rw [hbn] at hcell
        rw [← hcv] at hsucc
        have HSUCC := Lib.hid hsucc
        generalize Cd.dgN (L.take k) = acc at hor h56 HSUCC hlo
        have hor2 : bits .or .u64 ((acc : Int) * 256) (cv : Int) = ((acc * 256 + cv : Nat) : Int) := by rw [← hor, show IntKind.u64.wrap ((acc : Int) * 256) = (acc : Int) * 256 by rw [IntKind.wrap_u64]; omega]
        clear hcv hbn hsucc hlo
        have hwc : IntKind.u64.wrap (cv : Int) = (cv : Int) := by rw [IntKind.wrap_u64]; omega
        go_wp2_with fail
        go_roundw
        case rel => exact ⟨k + 1, by omega, by go_num, by rw [HSUCC.out]; first | rfl | (simp; done), rfl⟩
        case measure => simp [intOf]; omega
      · obtain rfl : k = 8 := by omega
        rw [hF.out]
        go_wp2_with fail
        go_ret3
        exact .inr ⟨d, hU.out, rfl, rfl⟩
/-- an empty slice that is made -/
theorem made_nil (w : World) : OwnB w.heap.size (w.alloc (.cells #[] 5)) (.slice (some ⟨w.heap.size, 0, none⟩) 0 0) [] := by
  refine ⟨rfl, .inr ⟨w.heap.size, 0, #[], rfl, Nat.le_refl _, heap_alloc_new w _, Nat.le_refl _, by unfold maxLen; omega, rfl, rfl⟩⟩
theorem clone_any (D : List B) (N : Nat) (v : Value) (w : World) (hD : D.length ≤ 300000000) (hN : N ≤ w.heap.size) (h : HasB w N v D) :
    Calls Tryz.prog 79 #[v] w fun e w' => ∃ v', e = .returned v' ∧ HasB w' w'.heap.size v' D ∧ Below w.heap.size w w' := by
  obtain ⟨a, cap, rfl⟩ := h.form
  have heq := fun (w : World) (a : Option Addr) (l c : Nat) => Lib.run_eql_slice_nil (P := Tryz.prog) w 24 5 a l c 0 0 Tryz.underlying24
  cases a with
  | none =>
    have hD0 : D = [] := by
      rcases h with ⟨_, _, _, e⟩ | ⟨_, _, _, e, _⟩
      · exact e
      · simp at e
    subst hD0
    clear h
    go_enter Tryz.func79, Tryz.ntmps79
    go_wp2_with fail
    go_ret
    exact ⟨_, rfl, .inl ⟨none, 0, rfl, rfl⟩, Below.refl _ _⟩
  | some ad =>
    have H := Lib.hid ((h.below ((Below.refl w.heap.size w).alloc (Nat.le_refl _) (.cells #[] 5)) hN).wide (show N ≤ (w.alloc (.cells #[] 5)).heap.size by simp; omega))
    obtain ⟨m, hm⟩ : ∃ m, m = D.length := ⟨_, rfl⟩
    rw [← hm] at hD H ⊢
    have HM := Lib.hid hm
    have HN := Lib.hid (made_nil w)
    clear h hm hN
    go_enter Tryz.func79, Tryz.ntmps79
    go_wp2_with (at_builtin; refine wpList_append_bytes rfl (.tmp 5) (.tmp 6) rfl w.heap.size _ _ [] D rfl HN.out rfl _ H.out (by have := HM.out; simp; omega) (by simp) m (by have := HM.out; simp; omega) ?_)
    intro a3 cap3 w3 own3 grow3
    have BEL := Lib.hid (below_grownB ((Below.refl w.heap.size w).alloc (Nat.le_refl _) (.cells #[] 5)) (by simp) HN.out grow3)
    have OWN := Lib.hid own3
    clear own3 grow3
    go_wp2_with fail
    go_ret
    exact ⟨_, rfl, OWN.out.has, BEL.out⟩
end Go.Proofs.YtgkckomccabmlaaGreatDoor
namespace Go.Proofs.YtgkckomccabmlaaGreatDoor
open Go.ChangeShapes Go.WideShapes Go.ChangeAt Go.RowKit
open Dg (W B)
def LGot (r : Cd.R (List (List B))) (w : World) (e : Ending) (w' : World) : Prop :=
  (∃ c : Nat, r = .bad c ∧ 0 < c ∧ e = .returned (.tuple #[.slice none 0 0, .int .i64 0, .int .i64 (c : Int)]) ∧ Below w.heap.size w w') ∨
  ∃ l k a n c2, r = .ok l k ∧ k ≤ 300000000 ∧ e = .returned (.tuple #[.slice a n c2, .int .i64 (k : Int), .int .i64 0]) ∧ HasS w' w'.heap.size (.slice a n c2) (l.map bstr) ∧ Below w.heap.size w w'
theorem LGot.own {L : List B} {l : List (List B)} {k : Nat} {v : Value} {w w' : World} (h : Cd.getL L = .ok l k) (hk : k ≤ 300000000) (ho : OwnS w.heap.size w' v (l.map bstr)) (hb : Below w.heap.size w w') : LGot (Cd.getL L) w (.returned (.tuple #[v, .int .i64 (k : Int), .int .i64 0])) w' := by
  obtain ⟨a, cap, rfl⟩ := ho.has.form
  exact .inr ⟨l, k, a, _, cap, h, hk, rfl, ho.has, hb⟩
end Go.Proofs.YtgkckomccabmlaaGreatDoor
namespace Go.Proofs.YtgkckomccabmlaaGreatDoor
open Go.ChangeShapes Go.WideShapes Go.ChangeAt Go.RowKit
open Dg (W B)
theorem rat_num_out (L : List B) (p : Int) (v : Value) (w : World) (hp : p < 0 ∨ (L.length : Int) < p) (h : HasB w w.heap.size v L) :
    Calls Tryz.prog 73 #[v, .int .i64 p, .func (.func 74) #[] #[]] w fun e w' => e = .returned (.tuple #[.int .i64 0, .int .i64 p, .int .i64 2]) ∧ w = w' := by
  obtain ⟨a, cap, rfl⟩ := h.form
  by_cases h1 : p < 0
  · have t1 : decide (p < 0) = true := decide_eq_true h1
    clear h hp h1
    go_enter Tryz.func73, Tryz.ntmps73
    go_wp2_with fail
    go_ret3
    exact ⟨rfl, rfl⟩
  · have t1 : decide (p < 0) = false := decide_eq_false h1
    have t2 : decide ((L.length : Int) < p) = true := decide_eq_true (by omega)
    clear h hp h1
    go_enter Tryz.func73, Tryz.ntmps73
    go_wp2_with fail
    go_ret3
    exact ⟨rfl, rfl⟩
theorem rat_num_in (L : List B) (p : Nat) (v : Value) (w : World) (hp : p ≤ L.length) (hL : L.length ≤ 300000000) (h : HasB w w.heap.size v L) :
    Calls Tryz.prog 73 #[v, .int .i64 (p : Int), .func (.func 74) #[] #[]] w (GotI (Cd.getI (L.drop p)) p w) := by
  obtain ⟨a, cap, rfl⟩ := h.form
  obtain ⟨m, hm⟩ : ∃ m, m = L.length := ⟨_, rfl⟩
  rw [← hm] at h hp ⊢
  obtain ⟨a', hrun, hpart⟩ := bytes_from a m cap p w w.heap.size L hp hm h
  have C := Lib.hid (num_any (L.drop p) w.heap.size _ w (by rw [List.length_drop]; omega) hpart)
  have hrun2 := hrun w p rfl
  obtain ⟨d, hd⟩ : ∃ d, d = m - p := ⟨_, rfl⟩
  obtain ⟨c', hc'⟩ : ∃ d, d = cap - p := ⟨_, rfl⟩
  rw [← hd, ← hc'] at C hrun2
  have t1 : decide ((p : Int) < 0) = false := decide_eq_false (by omega)
  have t2 : decide (m < p) = false := decide_eq_false (by omega)
  have hp3 : p ≤ 300000000 := by omega
  have HPL := Lib.hid (show (L.drop p).length ≤ 300000000 by rw [List.length_drop]; omega)
  clear h hm hL hpart hrun hd hc'
  go_enter Tryz.func73, Tryz.ntmps73
  go_wp2_with fail
  refine (C.out).mono ?_; rintro e w' ⟨rfl, rfl⟩
  cases hr : Cd.getI (L.drop p) with
  | bad c =>
    have hc := getI_code hr
    have t3 : ((c : Int) != 0) = true := by rw [bne_iff_ne]; omega
    have HR := Lib.hid hr
    clear hr hc
    unfold nRes
    go_wp2_with fail
    go_ret3
    exact ⟨by rw [HR.out]; rfl, Below.refl _ _⟩
  | ok n k =>
    have hk : k ≤ 300000000 := by have := (Cd.getI_inv hr).2.2.1; have := HPL.out; omega
    have HR := Lib.hid hr
    clear hr
    unfold nRes
    go_wp2_with fail
    go_ret3
    exact ⟨by rw [HR.out]; rfl, Below.refl _ _⟩
/-- a part of the bytes has been read, or an error -/
def QGot (r : Cd.R (List B)) (p : Nat) (w : World) (e : Ending) (w' : World) : Prop :=
  (∃ c : Nat, r = .bad c ∧ e = .returned (.tuple #[.slice none 0 0, .int .i64 (p : Int), .int .i64 (c : Int)]) ∧ w = w') ∨
  ∃ D k a n c2, r = .ok D k ∧ e = .returned (.tuple #[.slice a n c2, .int .i64 ((p + k : Nat) : Int), .int .i64 0]) ∧ HasB w w.heap.size (.slice a n c2) D ∧ w = w'
theorem rat_piece_out (L : List B) (p : Int) (v : Value) (w : World) (hp : p < 0 ∨ (L.length : Int) < p) (h : HasB w w.heap.size v L) :
    Calls Tryz.prog 77 #[v, .int .i64 p, .func (.func 78) #[] #[]] w fun e w' => e = .returned (.tuple #[.slice none 0 0, .int .i64 p, .int .i64 2]) ∧ w = w' := by
  obtain ⟨a, cap, rfl⟩ := h.form
  by_cases h1 : p < 0
  · have t1 : decide (p < 0) = true := decide_eq_true h1
    clear h hp h1
    go_enter Tryz.func77, Tryz.ntmps77
    go_wp2_with fail
    go_ret3
    exact ⟨rfl, rfl⟩
  · have t1 : decide (p < 0) = false := decide_eq_false h1
    have t2 : decide ((L.length : Int) < p) = true := decide_eq_true (by omega)
    clear h hp h1
    go_enter Tryz.func77, Tryz.ntmps77
    go_wp2_with fail
    go_ret3
    exact ⟨rfl, rfl⟩
theorem rat_piece_in (L : List B) (p : Nat) (v : Value) (w : World) (hp : p ≤ L.length) (hL : L.length ≤ 300000000) (h : HasB w w.heap.size v L) :
    Calls Tryz.prog 77 #[v, .int .i64 (p : Int), .func (.func 78) #[] #[]] w (QGot (Cd.getB (L.drop p)) p w) := by
  obtain ⟨a, cap, rfl⟩ := h.form
  obtain ⟨m, hm⟩ : ∃ m, m = L.length := ⟨_, rfl⟩
  rw [← hm] at h hp ⊢
  obtain ⟨a', hrun, hpart⟩ := bytes_from a m cap p w w.heap.size L hp hm h
  have C := Lib.hid (piece_any (L.drop p) w.heap.size _ w (by rw [List.length_drop]; omega) hpart)
  have hrun2 := hrun w p rfl
  obtain ⟨d, hd⟩ : ∃ d, d = m - p := ⟨_, rfl⟩
  obtain ⟨c', hc'⟩ : ∃ d, d = cap - p := ⟨_, rfl⟩
  rw [← hd, ← hc'] at C hrun2
  have t1 : decide ((p : Int) < 0) = false := decide_eq_false (by omega)
  have t2 : decide (m < p) = false := decide_eq_false (by omega)
  have hp3 : p ≤ 300000000 := by omega
  have HPL := Lib.hid (show (L.drop p).length ≤ 300000000 by rw [List.length_drop]; omega)
  clear h hm hL hpart hrun hd hc'
  go_enter Tryz.func77, Tryz.ntmps77
  go_wp2_with fail
  refine (C.out).mono ?_; rintro e w' (⟨c, hG, hcp, rfl, rfl⟩ | ⟨D, k, ad, nd, cd, hG, hk, rfl, hD, rfl⟩)
  · have t3 : ((c : Int) != 0) = true := by rw [bne_iff_ne]; omega
    have HG := Lib.hid hG
    clear hG hcp
    go_wp2_with fail
    go_ret3
    exact .inl ⟨c, HG.out, rfl, rfl⟩
  · have HG := Lib.hid hG; have HD := Lib.hid hD
    obtain ⟨q, hq⟩ : ∃ q, q = p + k := ⟨_, rfl⟩
    have hsum : (p : Int) + (k : Int) = (q : Int) := by omega
    have hq3 : q ≤ 600000000 := by omega
    have HQ := Lib.hid hq
    clear hG hD hq
    go_wp2_with fail
    go_ret3
    exact .inr ⟨D, k, ad, nd, cd, HG.out, by rw [← HQ.out]; rfl, HD.out, rfl⟩
theorem rat_dig_out (L : List B) (p : Int) (v : Value) (w : World) (hp : p < 0 ∨ (L.length : Int) < p) (h : HasB w w.heap.size v L) :
    Calls Tryz.prog 75 #[v, .int .i64 p, .func (.func 76) #[] #[]] w fun e w' => e = .returned (.tuple #[.int .u64 0, .int .i64 p, .int .i64 2]) ∧ w = w' := by
  obtain ⟨a, cap, rfl⟩ := h.form
  by_cases h1 : p < 0
  · have t1 : decide (p < 0) = true := decide_eq_true h1
    clear h hp h1
    go_enter Tryz.func75, Tryz.ntmps75
    go_wp2_with fail
    go_ret3
    exact ⟨rfl, rfl⟩
  · have t1 : decide (p < 0) = false := decide_eq_false h1
    have t2 : decide ((L.length : Int) < p) = true := decide_eq_true (by omega)
    clear h hp h1
    go_enter Tryz.func75, Tryz.ntmps75
    go_wp2_with fail
    go_ret3
    exact ⟨rfl, rfl⟩
theorem rat_dig_in (L : List B) (p : Nat) (v : Value) (w : World) (hp : p ≤ L.length) (hL : L.length ≤ 300000000) (h : HasB w w.heap.size v L) :
    Calls Tryz.prog 75 #[v, .int .i64 (p : Int), .func (.func 76) #[] #[]] w (GotD (Cd.getD (L.drop p)) p w) := by
  obtain ⟨a, cap, rfl⟩ := h.form
  obtain ⟨m, hm⟩ : ∃ m, m = L.length := ⟨_, rfl⟩
  rw [← hm] at h hp ⊢
  obtain ⟨a', hrun, hpart⟩ := bytes_from a m cap p w w.heap.size L hp hm h
  have C := Lib.hid (digof_any (L.drop p) w.heap.size _ w (by rw [List.length_drop]; omega) hpart)
  have hrun2 := hrun w p rfl
  obtain ⟨d, hd⟩ : ∃ d, d = m - p := ⟨_, rfl⟩
  obtain ⟨c', hc'⟩ : ∃ d, d = cap - p := ⟨_, rfl⟩
  rw [← hd, ← hc'] at C hrun2
  have t1 : decide ((p : Int) < 0) = false := decide_eq_false (by omega)
  have t2 : decide (m < p) = false := decide_eq_false (by omega)
  have hp3 : p ≤ 300000000 := by omega
  have HPL := Lib.hid (show (L.drop p).length ≤ 300000000 by rw [List.length_drop]; omega)
  clear h hm hL hpart hrun hd hc'
  go_enter Tryz.func75, Tryz.ntmps75
  go_wp2_with fail
  refine (C.out).mono ?_; rintro e w' (⟨hG, rfl, rfl⟩ | ⟨x, hG, rfl, rfl⟩)
  · have HG := Lib.hid hG
    clear hG
    go_wp2_with fail
    go_ret3
    exact .inl ⟨5, HG.out, rfl, Below.refl _ _⟩
  · have HG := Lib.hid hG
    clear hG
    go_wp2_with fail
    go_ret3
    exact .inr ⟨x, 8, HG.out, rfl, Below.refl _ _⟩
end Go.Proofs.YtgkckomccabmlaaGreatDoor
namespace Go.Proofs.YtgkckomccabmlaaGreatDoor
open Go.ChangeShapes Go.WideShapes Go.ChangeAt Go.RowKit
open Dg (W B)
theorem clip_any (a : Option Addr) (k cap : Nat) (w : World) (h : k ≤ cap) :
    Calls Tryz.prog 67 #[.slice a k cap] w fun e w' => e = .returned (.slice a k k) ∧ w = w' := by
  have hr := run_clip a k cap w h
  clear h
  go_enter Tryz.func67, Tryz.ntmps67
  go_wp2_with fail
  go_ret
  exact ⟨rfl, rfl⟩
theorem folded_any (n : Int) (w : World) (hn : (Lit.int .i64 n).wf = true) :
    Calls Tryz.prog 94 #[.int .i64 n] w fun e w' => e = .returned (.int .u64 (Cd.zig n : Int)) ∧ w = w' := by
  have hb2 := bounds_i64 hn
  by_cases h : n < 0
  · have t1 : decide (n < 0) = true := decide_eq_true h
    have hf := Lib.hid (show (Cd.zig n : Int) = -2 * n - 1 by unfold Cd.zig; rw [if_neg (by omega)]; omega)
    generalize Cd.zig n = z at hf
    go_enter Tryz.func94, Tryz.ntmps94
    go_wp2_with fail
    go_ret
    exact ⟨by show Ending.returned (Value.int .u64 (2 * -(n + 1) + 1)) = _; rw [show (2 * -(n + 1) + 1 : Int) = z by have := hf.out; omega], rfl⟩
  · have t1 : decide (n < 0) = false := decide_eq_false h
    have hf := Lib.hid (show (Cd.zig n : Int) = 2 * n by unfold Cd.zig; rw [if_pos (by omega)]; omega)
    generalize Cd.zig n = z at hf
    go_enter Tryz.func94, Tryz.ntmps94
    go_wp2_with fail
    go_ret
    exact ⟨by show Ending.returned (Value.int .u64 (2 * n)) = _; rw [show (2 * n : Int) = z by have := hf.out; omega], rfl⟩
def ARel (L : List B) (z : Nat) (base : Nat) (w : World) (out u : Value) (wr : World) : Prop := ∃ (v : Nat) (P : List B), u = .int .u64 (v : Int) ∧ P ++ Cd.put v = Cd.put z ∧ v ≤ z ∧ AppB base wr out (L ++ P) ∧ Below base w wr ∧ base ≤ wr.heap.size
set_option maxRecDepth 100000 in
set_option maxHeartbeats 1000000 in
theorem anum_any (n : Int) (L : List B) (v : Value) (base : Nat) (w : World) (hn : (Lit.int .i64 n).wf = true) (hL : L.length ≤ 400000000) (hb : AppB base w v L) (hbase : base ≤ w.heap.size) :
    Calls Tryz.prog 66 #[v, .int .i64 n] w fun e w' => ∃ v, e = .returned v ∧ OwnB base w' v (L ++ Cd.putI n) ∧ Below base w w' := by
  obtain ⟨a, cap, rfl⟩ := hb.form
  have hb2 := bounds_i64 hn
  have C := Lib.hid (folded_any n w hn)
  obtain ⟨m, hm⟩ : ∃ m, m = L.length := ⟨_, rfl⟩
  rw [← hm] at hb ⊢
  have HM := Lib.hid hm; have HB := Lib.hid hb
  have HBASE := Lib.hid hbase
  clear hm hb hbase
  obtain ⟨z, hz⟩ : ∃ z, z = Cd.zig n := ⟨_, rfl⟩
  have hzl : z < 18446744073709551616 := by rw [hz]; exact Cd.zig_lt (by unfold Cd.InR; omega)
  have HZL := Lib.hid hzl
  have hput : Hid (Cd.putI n = Cd.put z) := Lib.hid (by rw [hz]; rfl)
  rw [← hz] at C
  clear hz hn hb2
  go_enter Tryz.func66, Tryz.ntmps66
  go_wp2_with fail
  refine (C.out).mono ?_; rintro e w' ⟨rfl, rfl⟩
  go_wp2
  go_loopw [0, 5] (ARel L z base w) (fun _ u _ => (intOf u).toNat)
  case atStart => exact ⟨z, [], rfl, rfl, Nat.le_refl _, by rw [List.append_nil]; exact HB.out, Below.refl _ _, HBASE.out⟩
  case round =>
    obtain ⟨v, P, rfl, hp, hvz, ho, hb, hs⟩ := hrel
    have HO := Lib.hid ho; have HBL := Lib.hid hb; have HP := Lib.hid hp; have HS := Lib.hid hs
    obtain ⟨a2, cap2, hform⟩ := ho.form
    subst hform
    clear ho hb hp hs
    have hlenP : P.length ≤ 10 := by
      have h1 := congrArg List.length HP.out
      rw [List.length_append, Cd.put_len z] at h1
      have := Cd.need_le (u := z) HZL.out
      omega
    have v64 : (v : Int) < 18446744073709551616 := by have := HZL.out; omega
    obtain ⟨q, hq⟩ : ∃ q, q = (L ++ P).length := ⟨_, rfl⟩
    rw [← hq] at HO ⊢
    have HQ := Lib.hid hq
    have hq2 : q ≤ 400000010 := by rw [hq, List.length_append]; omega
    clear hq
    by_cases hlt : 127 < v
    · have t2 : (128 : Int) ≤ (v : Int) := by omega
      obtain ⟨y, hy⟩ : ∃ y, y = bits .or .u8 ((v : Int) % 128) 128 := ⟨_, rfl⟩
      have hor := hy.symm
      have HY := Lib.hid (show y = bv (Cd.byte (v % 128 + 128)) by
        have h1 := or128 (v % 128)
        rw [show IntKind.u8.wrap ((v % 128 : Nat) : Int) = (v : Int) % 128 by rw [IntKind.wrap_u8]; omega, show v % 128 % 128 = v % 128 by omega] at h1
        rw [hy, h1])
      clear hy
      go_wp2_with (at_builtin; refine wpList_append_app rfl (.tmp 10) (.tmp 15) rfl base _ _ (L ++ P) [Cd.byte (v % 128 + 128)] rfl (AppB.alloc HO.out _) rfl (wr.heap.size + 1) (one_byte wr _ _ HY.out) (by simp) (by have := HQ.out; simp only [List.length_singleton]; omega) (by have := HS.out; simp; omega) (q + 1) (by have := HQ.out; simp only [List.length_singleton]; omega) ?_)
      intro a3 cap3 w3 own3 bel3
      have BEL := Lib.hid ((HBL.out.alloc HS.out _).trans bel3)
      have OWN := Lib.hid own3
      clear own3 bel3 hor
      go_wp2_with fail
      go_roundw
      case rel => exact ⟨v / 128, P ++ [Cd.byte (v % 128 + 128)], by go_num, by rw [List.append_assoc, List.singleton_append, ← Cd.put_big hlt]; exact HP.out, by omega, by first | exact .inl OWN.out | (rw [← List.append_assoc]; exact .inl OWN.out), BEL.out, Nat.le_trans HBASE.out BEL.out.size⟩
      case measure => simp [intOf]; omega
    · have t2 : ¬ (128 : Int) ≤ (v : Int) := by omega
      have hlo := low8 v
      have hend : Hid (Cd.putI n = P ++ [Cd.byte v]) := Lib.hid (by rw [hput.out, ← HP.out, Cd.put_small hlt])
      go_wp2_with (at_builtin; refine wpList_append_app rfl (.tmp 19) (.tmp 22) rfl base _ _ (L ++ P) [Cd.byte v] rfl (AppB.alloc HO.out _) rfl (wr.heap.size + 1) (one_byte wr _ _ hlo) (by simp) (by have := HQ.out; simp only [List.length_singleton]; omega) (by have := HS.out; simp; omega) (q + 1) (by have := HQ.out; simp only [List.length_singleton]; omega) ?_)
      intro a3 cap3 w3 own3 bel3
      have BEL := Lib.hid ((HBL.out.alloc HS.out _).trans bel3)
      have OWN := Lib.hid own3
      clear own3 bel3 hlo
      go_wp2_with fail
      go_ret
      exact ⟨_, rfl, by rw [hend.out]; first | exact OWN.out | (rw [← List.append_assoc]; exact OWN.out), BEL.out⟩
theorem anum_len (k : Nat) (L : List B) (v : Value) (base : Nat) (w : World) (hk : k ≤ 400000000) (hL : L.length ≤ 400000000) (hb : AppB base w v L) (hbase : base ≤ w.heap.size) :
    Calls Tryz.prog 66 #[v, .int .i64 (k : Int)] w fun e w' => ∃ v, e = .returned v ∧ OwnB base w' v (L ++ Cd.putI k) ∧ Below base w w' :=
  anum_any k L v base w (WalkArith.wf_i64 (by omega)) hL hb hbase
theorem putI_short (k : Nat) (hk : k ≤ 400000000) : (Cd.putI (k : Int)).length ≤ 10 := by
  unfold Cd.putI
  rw [Cd.put_len]
  exact Cd.need_le (Cd.zig_lt (by unfold Cd.InR; omega))
set_option maxHeartbeats 1000000 in
theorem abytes_any (L D : List B) (v dv : Value) (base : Nat) (w : World) (hL : L.length ≤ 400000000) (hD : D.length ≤ 400000000) (hb : AppB base w v L) (hd : HasB w base dv D) (hbase : base ≤ w.heap.size) :
    Calls Tryz.prog 69 #[v, dv] w fun e w' => ∃ v, e = .returned v ∧ OwnB base w' v (L ++ Cd.putB D) ∧ Below base w w' := by
  obtain ⟨a0, cap0, rfl⟩ := hb.form
  obtain ⟨a, cap, rfl⟩ := hd.form
  have HD := Lib.hid hd
  have C := Lib.hid (anum_len D.length L _ base w hD hL hb hbase)
  have hlen := putI_short D.length hD
  obtain ⟨m, hm⟩ : ∃ m, m = D.length := ⟨_, rfl⟩
  obtain ⟨m0, hm0⟩ : ∃ m, m = L.length := ⟨_, rfl⟩
  rw [← hm] at HD C ⊢
  rw [← hm0] at C ⊢
  have HM := Lib.hid hm; have HM0 := Lib.hid hm0
  have HBASE := Lib.hid hbase
  rw [← hm] at hlen hD
  clear hm hd hb hm0 hbase
  go_enter Tryz.func69, Tryz.ntmps69
  go_wp2_with fail
  refine (C.out).mono ?_; rintro e w1 ⟨v1, rfl, o1, b1⟩
  have O1 := Lib.hid o1; have B1 := Lib.hid b1
  obtain ⟨q, hq⟩ : ∃ q, q = (L ++ Cd.putI (m : Int)).length := ⟨_, rfl⟩
  have hq2 : q ≤ 400000010 := by rw [hq, List.length_append]; omega
  have HQ := Lib.hid hq
  clear o1 b1 hq
  go_wp2_with (at_builtin; refine wpList_append_bytes rfl (.tmp 8) (.tmp 9) rfl base _ _ (L ++ Cd.putI (m : Int)) D rfl O1.out rfl base (HD.out.below B1.out (Nat.le_refl _)) (by have := HQ.out; have := HM.out; omega) (Nat.le_trans HBASE.out B1.out.size) (q + m) (by have := HQ.out; have := HM.out; omega) ?_)
  intro a3 cap3 w3 own3 grow3
  have BEL := Lib.hid (below_grownB B1.out (Nat.le_trans HBASE.out B1.out.size) O1.out grow3)
  have OWN := Lib.hid own3
  clear own3 grow3
  go_wp2_with fail
  go_ret
  exact ⟨_, rfl, by rw [Cd.putB, ← HM.out]; first | exact OWN.out | (rw [← List.append_assoc]; exact OWN.out), BEL.out⟩
def ADRel (L : List B) (d : W) (base : Nat) (w : World) (out i : Value) (wr : World) : Prop := ∃ j : Nat, j ≤ 8 ∧ i = .int .i64 (j : Int) ∧ AppB base wr out (L ++ (Cd.putD d).take j) ∧ Below base w wr ∧ base ≤ wr.heap.size ∧ (j = 8 → OwnB base wr out (L ++ Cd.putD d))
set_option maxHeartbeats 1000000 in
theorem adig_any (d : W) (L : List B) (v : Value) (base : Nat) (w : World) (hL : L.length ≤ 400000100) (hb : AppB base w v L) (hbase : base ≤ w.heap.size) :
    Calls Tryz.prog 68 #[v, .int .u64 (uv d)] w fun e w' => ∃ v, e = .returned v ∧ OwnB base w' v (L ++ Cd.putD d) ∧ Below base w w' := by
  obtain ⟨a, cap, rfl⟩ := hb.form
  obtain ⟨m, hm⟩ : ∃ m, m = L.length := ⟨_, rfl⟩
  rw [← hm] at hb ⊢
  have HM := Lib.hid hm; have HB := Lib.hid hb
  have HBASE := Lib.hid hbase
  clear hm hb hbase
  go_enter Tryz.func68, Tryz.ntmps68
  go_wp2
  go_loopw [0, 6] (ADRel L d base w) (fun _ i _ => (8 - intOf i).toNat)
  case atStart => exact ⟨0, by omega, rfl, by rw [List.take_zero, List.append_nil]; exact HB.out, Below.refl _ _, HBASE.out, by omega⟩
  case round =>
    obtain ⟨j, hj, rfl, ho, hb, hs, h8⟩ := hrel
    have HO := Lib.hid ho; have HBL := Lib.hid hb; have HS := Lib.hid hs; have H8 := Lib.hid h8
    obtain ⟨a2, cap2, hform⟩ := ho.form
    subst hform
    clear ho hb hs h8
    obtain ⟨q, hq⟩ : ∃ q, q = (L ++ (Cd.putD d).take j).length := ⟨_, rfl⟩
    rw [← hq] at HO H8 ⊢
    have HQ := Lib.hid hq
    have hq2 : q ≤ 400000108 := by rw [hq, List.length_append, List.length_take, Cd.putD_len]; omega
    clear hq
    by_cases hlt : j < 8
    · obtain ⟨s, hs⟩ : ∃ s : Nat, (8 : Int) * (7 - (j : Int)) = s := ⟨56 - 8 * j, by omega⟩
      have hs60 : s ≤ 60 := by omega
      have HT := Lib.hid (putD_take d j s hlt (by omega))
      have hlo := low_shift d s
      have tl : (j : Int) < 8 := by omega
      go_wp2_with (at_builtin; refine wpList_append_app rfl (.tmp 9) (.tmp 16) rfl base _ _ (L ++ (Cd.putD d).take j) [Cd.byte (d.toNat / 2 ^ s)] rfl (AppB.alloc HO.out _) rfl (wr.heap.size + 1) (one_byte wr _ _ hlo) (by simp) (by have := HQ.out; simp only [List.length_singleton]; omega) (by have := HS.out; simp; omega) (q + 1) (by have := HQ.out; simp only [List.length_singleton]; omega) ?_)
      intro a3 cap3 w3 own3 bel3
      have BEL := Lib.hid ((HBL.out.alloc HS.out _).trans bel3)
      have OWN := Lib.hid (show OwnB base w3 (.slice a3 (q + 1) cap3) (L ++ (Cd.putD d).take (j + 1)) by rw [HT.out]; first | exact own3 | (rw [← List.append_assoc]; exact own3))
      clear own3 bel3 hlo hs
      go_wp2_with fail
      go_roundw
      case rel => exact ⟨j + 1, by omega, by go_num, .inl OWN.out, BEL.out, Nat.le_trans HBASE.out BEL.out.size, fun e => by have := OWN.out; rw [e, List.take_of_length_le (by rw [Cd.putD_len]; omega)] at this; exact this⟩
      case measure => simp [intOf]; omega
    · obtain rfl : j = 8 := by omega
      go_wp2_with fail
      go_ret
      exact ⟨_, rfl, H8.out trivial, HBL.out⟩
end Go.Proofs.YtgkckomccabmlaaGreatDoor
namespace Go.Proofs.YtgkckomccabmlaaGreatDoor
open Go.ChangeShapes Go.WideShapes Go.ChangeAt Go.RowKit
open Dg (W B)
theorem cputint_any (n : Int) (L : List B) (bv0 : Value) (w : World) (hn : (Lit.int .i64 n).wf = true) (hL : L.length ≤ 100000000) (hb : HasB w w.heap.size bv0 L) :
    Calls Tryz.prog 41 #[bv0, .int .i64 n] w (Gives (L ++ Cd.putI n) w) := by
  obtain ⟨a, cap, rfl⟩ := hb.form
  have C1 := Lib.hid (clip_any a _ cap w hb.cap_le)
  have C := Lib.hid (anum_any n L _ w.heap.size w hn (by omega) (hb.app rfl w.heap.size) (Nat.le_refl _))
  clear hb
  go_enter Tryz.func41, Tryz.ntmps41
  go_wp2_with fail
  refine (C1.out).mono ?_; rintro e w' ⟨rfl, rfl⟩
  go_wp2_with fail
  refine (C.out).mono ?_; rintro e w1 ⟨v1, rfl, o1, b1⟩
  have O1 := Lib.hid o1; have B1 := Lib.hid b1
  clear o1 b1
  go_wp2_with fail
  go_ret
  exact ⟨_, rfl, O1.out.has, B1.out⟩
theorem cputbytes_any (L D : List B) (bv0 dv : Value) (w : World) (hL : L.length ≤ 100000000) (hD : D.length ≤ 100000000) (hb : HasB w w.heap.size bv0 L) (hd : HasB w w.heap.size dv D) :
    Calls Tryz.prog 43 #[bv0, dv] w (Gives (L ++ Cd.putB D) w) := by
  obtain ⟨a, cap, rfl⟩ := hb.form
  obtain ⟨a', cap', rfl⟩ := hd.form
  have C1 := Lib.hid (clip_any a _ cap w hb.cap_le)
  have C := Lib.hid (abytes_any L D _ _ w.heap.size w (by omega) (by omega) (hb.app rfl w.heap.size) hd (Nat.le_refl _))
  clear hb hd
  go_enter Tryz.func43, Tryz.ntmps43
  go_wp2_with fail
  refine (C1.out).mono ?_; rintro e w' ⟨rfl, rfl⟩
  go_wp2_with fail
  refine (C.out).mono ?_; rintro e w1 ⟨v1, rfl, o1, b1⟩
  have O1 := Lib.hid o1; have B1 := Lib.hid b1
  clear o1 b1
  go_wp2_with fail
  go_ret
  exact ⟨_, rfl, O1.out.has, B1.out⟩
theorem cputdigest_any (d : W) (L : List B) (bv0 : Value) (w : World) (hL : L.length ≤ 300000100) (hb : HasB w w.heap.size bv0 L) :
    Calls Tryz.prog 42 #[bv0, .int .u64 (uv d)] w (Gives (L ++ Cd.putD d) w) := by
  obtain ⟨a, cap, rfl⟩ := hb.form
  have C1 := Lib.hid (clip_any a _ cap w hb.cap_le)
  have C := Lib.hid (adig_any d L _ w.heap.size w (by omega) (hb.app rfl w.heap.size) (Nat.le_refl _))
  clear hb
  go_enter Tryz.func42, Tryz.ntmps42
  go_wp2_with fail
  refine (C1.out).mono ?_; rintro e w' ⟨rfl, rfl⟩
  go_wp2_with fail
  refine (C.out).mono ?_; rintro e w1 ⟨v1, rfl, o1, b1⟩
  have O1 := Lib.hid o1; have B1 := Lib.hid b1
  clear o1 b1
  go_wp2_with fail
  go_ret
  exact ⟨_, rfl, O1.out.has, B1.out⟩
end Go.Proofs.YtgkckomccabmlaaGreatDoor
namespace Go.Proofs.YtgkckomccabmlaaGreatDoor
open Go.ChangeShapes Go.WideShapes Go.ChangeAt Go.RowKit
open Dg (W B)
theorem clone_nil (w : World) : Calls Tryz.prog 79 #[.slice none 0 0] w fun e w' => e = .returned (.slice none 0 0) ∧ w = w' := by
  have heq := fun (w : World) (a : Option Addr) (l c : Nat) => Lib.run_eql_slice_nil (P := Tryz.prog) w 24 5 a l c 0 0 Tryz.underlying24
  go_enter Tryz.func79, Tryz.ntmps79
  go_wp2_with fail
  go_ret
  exact ⟨rfl, rfl⟩
theorem getB_len {L D : List B} {p k : Nat} (h : Cd.getB (L.drop p) = .ok D k) (hL : L.length ≤ 300000000) : D.length ≤ 300000000 := by
  obtain ⟨f1, f2, f3, f4⟩ := Cd.getB_inv h
  have := congrArg List.length f4
  rw [Cd.putB_len, List.length_take, List.length_drop] at this
  omega
theorem unframe_len {L D : List B} {p k : Nat} (h : Cd.unframe (L.drop p) = .ok D k) (hL : L.length ≤ 300000000) : D.length ≤ 300000000 := by
  unfold Cd.unframe at h
  split at h
  · cases h
  · rename_i d k' hB
    split at h
    · cases h
    · split at h
      · simp only [Cd.R.ok.injEq] at h
        obtain ⟨rfl, -⟩ := h
        exact getB_len hB hL
      · cases h
theorem cint_got (L : List B) (p : Nat) (v : Value) (w : World) (hp : p ≤ L.length) (hL : L.length ≤ 300000000) (h : HasB w w.heap.size v L) :
    Calls Tryz.prog 46 #[v, .int .i64 (p : Int)] w (GotI (Cd.getI (L.drop p)) p w) := by
  have C := Lib.hid (rat_num_in L p v w hp hL h)
  obtain ⟨a, cap, rfl⟩ := h.form
  clear h hp
  go_enter Tryz.func46, Tryz.ntmps46
  go_wp2_with fail
  refine (C.out).mono ?_
  rintro e w1 ⟨rfl, g2⟩
  have G2 := Lib.hid g2; clear g2
  cases hr : Cd.getI (L.drop p) with
  | bad c =>
    unfold numRes
    go_wp2_with fail
    go_ret3
    exact ⟨by rw [hr]; rfl, G2.out⟩
  | ok n k =>
    unfold numRes
    go_wp2_with fail
    go_ret3
    exact ⟨by rw [hr]; rfl, G2.out⟩
theorem cint_out (L : List B) (p : Int) (v : Value) (w : World) (hp : p < 0 ∨ (L.length : Int) < p) (h : HasB w w.heap.size v L) :
    Calls Tryz.prog 46 #[v, .int .i64 p] w (Out3 (.int .i64 0) p w) := by
  have C := Lib.hid (rat_num_out L p v w hp h)
  obtain ⟨a, cap, rfl⟩ := h.form
  clear h hp
  go_enter Tryz.func46, Tryz.ntmps46
  go_wp2_with fail
  refine (C.out).mono ?_; rintro e w' ⟨rfl, rfl⟩
  go_wp2_with fail
  go_ret3
  exact ⟨rfl, Below.refl _ _⟩
theorem cbytes_got (L : List B) (p : Nat) (v : Value) (w : World) (hp : p ≤ L.length) (hL : L.length ≤ 300000000) (h : HasB w w.heap.size v L) :
    Calls Tryz.prog 50 #[v, .int .i64 (p : Int)] w (GotB (Cd.getB (L.drop p)) p w) := by
  have C := Lib.hid (rat_piece_in L p v w hp hL h)
  have HLL := Lib.hid hL
  obtain ⟨a, cap, rfl⟩ := h.form
  clear h hp hL
  go_enter Tryz.func50, Tryz.ntmps50
  go_wp2_with fail
  refine (C.out).mono ?_
  rintro e w1 (⟨c, g1, rfl, rfl⟩ | ⟨x, k, a1, n1, c1, g0, rfl, g2, rfl⟩)
  · have G1 := Lib.hid g1
    clear g1
    go_wp2_with fail
    refine (clone_nil w).mono ?_; rintro e w' ⟨rfl, rfl⟩
    go_wp2_with fail
    go_ret3
    exact .inl ⟨c, G1.out, rfl, Below.refl _ _⟩
  · have G0 := Lib.hid g0
    have C2 := Lib.hid (clone_any x w.heap.size _ _ (getB_len g0 HLL.out) (Nat.le_refl _) g2)
    clear g0 g2
    go_wp2_with fail
    refine (C2.out).mono ?_
    rintro e w2 ⟨v2, rfl, h2, b2⟩
    have H2 := Lib.hid h2; have B2 := Lib.hid b2
    clear h2 b2
    go_wp2_with fail
    go_ret3
    exact .inr ⟨x, k, _, G0.out, rfl, H2.out, B2.out⟩
theorem cbytes_out (L : List B) (p : Int) (v : Value) (w : World) (hp : p < 0 ∨ (L.length : Int) < p) (h : HasB w w.heap.size v L) :
    Calls Tryz.prog 50 #[v, .int .i64 p] w (Out3 (.slice none 0 0) p w) := by
  have C := Lib.hid (rat_piece_out L p v w hp h)
  obtain ⟨a, cap, rfl⟩ := h.form
  clear h hp
  go_enter Tryz.func50, Tryz.ntmps50
  go_wp2_with fail
  refine (C.out).mono ?_; rintro e w' ⟨rfl, rfl⟩
  go_wp2_with fail
  refine (clone_nil w).mono ?_; rintro e w' ⟨rfl, rfl⟩
  go_wp2_with fail
  go_ret3
  exact ⟨rfl, Below.refl _ _⟩
theorem cdgt_got (L : List B) (p : Nat) (v : Value) (w : World) (hp : p ≤ L.length) (hL : L.length ≤ 300000000) (h : HasB w w.heap.size v L) :
    Calls Tryz.prog 48 #[v, .int .i64 (p : Int)] w (GotD (Cd.getD (L.drop p)) p w) := by
  have C := Lib.hid (rat_dig_in L p v w hp hL h)
  obtain ⟨a, cap, rfl⟩ := h.form
  clear h hp
  go_enter Tryz.func48, Tryz.ntmps48
  go_wp2_with fail
  refine (C.out).mono ?_
  rintro e w1 (⟨c, g1, rfl, g2⟩ | ⟨x, k, g0, rfl, g3⟩)
  · have G1 := Lib.hid g1; have G2 := Lib.hid g2
    clear g1 g2
    go_wp2_with fail
    go_ret3
    exact .inl ⟨c, G1.out, rfl, G2.out⟩
  · have G3 := Lib.hid g3; have G0 := Lib.hid g0
    clear g3 g0
    go_wp2_with fail
    go_ret3
    exact .inr ⟨x, k, G0.out, rfl, G3.out⟩
theorem cdgt_out (L : List B) (p : Int) (v : Value) (w : World) (hp : p < 0 ∨ (L.length : Int) < p) (h : HasB w w.heap.size v L) :
    Calls Tryz.prog 48 #[v, .int .i64 p] w (Out3 (.int .u64 0) p w) := by
  have C := Lib.hid (rat_dig_out L p v w hp h)
  obtain ⟨a, cap, rfl⟩ := h.form
  clear h hp
  go_enter Tryz.func48, Tryz.ntmps48
  go_wp2_with fail
  refine (C.out).mono ?_; rintro e w' ⟨rfl, rfl⟩
  go_wp2_with fail
  go_ret3
  exact ⟨rfl, Below.refl _ _⟩
end Go.Proofs.YtgkckomccabmlaaGreatDoor
