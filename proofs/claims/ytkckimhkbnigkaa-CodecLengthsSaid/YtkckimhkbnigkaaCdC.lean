/-
  What the inner functions of package codec that read strings and digests return, and bytes.Clone. Nothing that was there has changed. Condition: the bytes are fewer than three hundred millions.
-/
import Derived.Test.YtkckimhkbnigkaaCdB
import Derived.Lib.LazyBuf
namespace Go.Proofs.Ytkckimhkbnigkaa
open Go.ChangeShapes Go.WideShapes Go.ChangeAt Go.RowKit
open Dg (W B)
/-- b[k:] -/
theorem bytes_from (a : Option Addr) (len cap k : Nat) (w : World) (N : Nat) (L : List B) (hk : k ≤ len) (hl : len = L.length) (h : HasB w N (.slice a len cap) L) :
    ∃ a', (∀ (w' : World) (x : Int), x = k → (Instr.slice 22 (.slice a len cap) (some (.int .i64 x)) none none).run Try.prog w' = .ok (.slice a' (len - k) (cap - k)) w') ∧ HasB w N (.slice a' (len - k) (cap - k)) (L.drop k) := by
  refine ⟨if cap = k then a else a.map (·.add (k * 1)), ?_, ?_⟩
  · rintro w' x rfl
    have he : (sizeOf (Try.prog.elem 22)).run Try.prog w' = .ok 1 w' := by kernel_rfl
    rw [run_slice_l w' 22 a len cap (by kernel_rfl) .i64 (k : Int) (by omega) (by omega), he]
    show Result.ok (sliced a ((k : Int)).toNat len cap 1) w' = _
    unfold sliced
    rw [Int.toNat_natCast]
  · subst hl
    by_cases hlt : k < L.length
    · rcases h with ⟨a', c, e, rfl⟩ | ⟨b, off, c, e, h1, h2, h3⟩
      · simp at hlt
      · simp only [Value.slice.injEq] at e
        obtain ⟨rfl, -, rfl⟩ := e
        rw [if_neg (by omega)]
        refine .inr ⟨b, off + k, cap - k, by simp [Addr.add], by rw [List.length_drop]; omega, h2, fun i hi => ?_⟩
        rw [List.length_drop] at hi
        rw [Nat.add_assoc, h3 (k + i) (by omega)]
        simp [List.getD, List.getElem?_drop]
    · refine .inl ⟨_, cap - k, by rw [show L.length - k = 0 by omega], List.drop_eq_nil_of_le (by omega)⟩
def PGot (r : Cd.R (List B)) (N : Nat) (w : World) (e : Ending) (w' : World) : Prop :=
  (∃ c : Nat, r = .bad c ∧ 0 < c ∧ e = .returned (.tuple #[.slice none 0 0, .int .i64 0, .int .i64 (c : Int)]) ∧ w = w') ∨
  ∃ D k a n c2, r = .ok D k ∧ k ≤ 300000000 ∧ e = .returned (.tuple #[.slice a n c2, .int .i64 (k : Int), .int .i64 0]) ∧ HasB w N (.slice a n c2) D ∧ w = w'
set_option maxHeartbeats 1000000 in
theorem piece_any (L : List B) (N : Nat) (v : Value) (w : World) (hL : L.length ≤ 300000000) (h : HasB w N v L) :
    Calls Try.prog 43 #[v] w (PGot (Cd.getB L) N w) := by
  have C0 := num_any L N v w hL h
  obtain ⟨a, cap, hv⟩ := h.form
  cases hI : Cd.getI L with
  | bad c =>
    rw [hI] at C0
    have C := Lib.hid C0
    have hc := getI_code hI
    have t1 : ((c : Int) != 0) = true := by rw [bne_iff_ne]; omega
    have hU := Lib.hid (show Cd.getB L = .bad c ∧ 0 < c by unfold Cd.getB; rw [hI]; exact ⟨rfl, by omega⟩)
    subst hv
    clear h C0 hI hc
    go_enter Try.func43, Try.ntmps43
    go_wp2_with fail
    refine (C.out).mono ?_; rintro e w' ⟨rfl, rfl⟩
    unfold nRes
    go_wp2_with fail
    go_ret3
    exact .inl ⟨c, hU.out.1, hU.out.2, rfl, rfl⟩
  | ok n k =>
    rw [hI] at C0
    have C := Lib.hid C0
    obtain ⟨e1, e2, e3, e4⟩ := Cd.getI_inv hI
    unfold Cd.InR at e1
    have hr : Cd.getB L = if n < 0 then .bad 4 else if (L.length : Int) - k < n then .bad 5 else .ok ((L.drop k).take n.toNat) (k + n.toNat) := by unfold Cd.getB; rw [hI]
    by_cases hneg : n < 0
    · rw [if_pos hneg] at hr
      have hU := Lib.hid hr
      have t1 : decide (n < 0) = true := decide_eq_true hneg
      subst hv
      clear h C0 hI e1 e2 e3 e4 hr hneg
      go_enter Try.func43, Try.ntmps43
      go_wp2_with fail
      refine (C.out).mono ?_; rintro e w' ⟨rfl, rfl⟩
      unfold nRes
      go_wp2_with fail
      go_ret3
      exact .inl ⟨4, hU.out, by omega, rfl, rfl⟩
    · rw [if_neg hneg] at hr
      obtain ⟨m, hm⟩ : ∃ m, m = L.length := ⟨_, rfl⟩
      by_cases hlong : (L.length : Int) - k < n
      · rw [if_pos hlong] at hr
        have hU := Lib.hid hr
        subst hv
        rw [← hm] at C hlong e3 hL ⊢
        have t1 : decide (n < 0) = false := decide_eq_false hneg
        have t2 : (m : Int) - (k : Int) < n := hlong
        have hkm : k ≤ m := e3
        clear h C0 hI e1 e2 e3 e4 hr hm hneg hlong
        go_enter Try.func43, Try.ntmps43
        go_wp2_with fail
        refine (C.out).mono ?_; rintro e w' ⟨rfl, rfl⟩
        unfold nRes
        go_wp2_with fail
        go_ret3
        exact .inl ⟨5, hU.out, by omega, rfl, rfl⟩
      · rw [if_neg hlong] at hr
        obtain ⟨q, rfl⟩ : ∃ q : Nat, n = q := ⟨n.toNat, by omega⟩
        rw [Int.toNat_natCast] at hr
        subst hv
        rcases h with ⟨a1, cap1, e, rfl⟩ | ⟨b, off, cap1, e, h2, h3, h4⟩
        · simp at e3; omega
        · simp only [Value.slice.injEq] at e
          obtain ⟨rfl, -, rfl⟩ := e
          obtain ⟨s, hs⟩ : ∃ s, s = k + q := ⟨_, rfl⟩
          obtain ⟨a', hrun, ha⟩ := bytes_part b off L.length cap k s w (by omega) (by omega)
          have hpart := part_has (a' := a') (N := N) (k := k) (m := s) (by omega) (by omega) h2 h3 h4 ha
          rw [show (L.drop k).take q = (L.drop k).take (s - k) by rw [hs]; congr 1; omega, ← hs] at hr
          have hrun2 := hrun k s rfl rfl
          have hsum : (k : Int) + (q : Int) = (s : Int) := by omega
          rw [← hm] at C hrun2 hlong e3 hL ⊢
          have hsm : s ≤ m := by omega
          have hkm : k ≤ m := by omega
          have t1 : decide ((q : Int) < 0) = false := decide_eq_false (by omega)
          have t2 : ¬ (m : Int) - (k : Int) < (q : Int) := by omega
          have HP := Lib.hid hpart; have HR := Lib.hid hr
          clear C0 hI e1 e2 e3 e4 hr hm hs hrun ha hpart h4 h3 h2 hneg hlong
          go_enter Try.func43, Try.ntmps43
          go_wp2_with fail
          refine (C.out).mono ?_; rintro e w' ⟨rfl, rfl⟩
          unfold nRes
          go_wp2_with fail
          go_ret3
          exact .inr ⟨_, s, a', _, _, HR.out, by omega, rfl, HP.out, rfl⟩
def DGot (r : Cd.R W) (w : World) (e : Ending) (w' : World) : Prop :=
  (r = .bad 5 ∧ e = .returned (.tuple #[.int .u64 0, .int .i64 0, .int .i64 5]) ∧ w = w') ∨
  ∃ d, r = .ok d 8 ∧ e = .returned (.tuple #[.int .u64 (uv d), .int .i64 8, .int .i64 0]) ∧ w = w'
set_option maxRecDepth 100000 in
set_option maxHeartbeats 1000000 in
theorem digof_any (L : List B) (N : Nat) (v : Value) (w : World) (hL : L.length ≤ 300000000) (h : HasB w N v L) :
    Calls Try.prog 46 #[v] w (DGot (Cd.getD L) w) := by
  obtain ⟨a, cap, rfl⟩ := h.form
  obtain ⟨m, hm⟩ : ∃ m, m = L.length := ⟨_, rfl⟩
  by_cases hs : L.length < 8
  · have hU := Lib.hid (show Cd.getD L = .bad 5 by unfold Cd.getD; rw [if_pos hs])
    rw [← hm] at hs ⊢
    have t1 : (m : Int) < 8 := by omega
    clear h hm hs
    go_enter Try.func46, Try.ntmps46
    go_wp2_with fail
    go_ret3
    exact .inl ⟨hU.out, rfl, rfl⟩
  · obtain ⟨d, hd⟩ : ∃ d, d = BitVec.ofNat 64 (Cd.dgN (L.take 8)) := ⟨_, rfl⟩
    have hU := Lib.hid (show Cd.getD L = .ok d 8 by unfold Cd.getD; rw [if_neg hs, hd])
    have hF := Lib.hid (show (Cd.dgN (L.take 8) : Int) = uv d by
      have := dgN_lt L 8 (by omega)
      rw [hd]
      unfold uv
      rw [BitVec.toNat_ofNat, Nat.mod_eq_of_lt (Nat.lt_of_lt_of_le this (by decide))])
    have H := Lib.hid h
    rw [← hm] at hs hL H ⊢
    have t1 : ¬ (m : Int) < 8 := by omega
    have HM := Lib.hid hm
    clear h hm hd
    go_enter Try.func46, Try.ntmps46
    go_wp2_with fail
    go_loopw [5, 10] (GRel L w) (fun _ i _ => 8 - (intOf i).toNat)
    case atStart => exact ⟨0, by omega, rfl, by simp [Cd.dgN], rfl⟩
    case round =>
      obtain ⟨k, hk, rfl, rfl, rfl⟩ := hrel
      by_cases hlt : k < 8
      · have tl : (k : Int) < 8 := by omega
        have tkm : k < m := by omega
        obtain ⟨b', off', rfl, hcell⟩ := H.out.at k (by omega)
        have hsucc := dgN_succ L k (by have := HM.out; omega)
        have hlo := dgN_lt L k (by have := HM.out; omega)
        have h56 : Cd.dgN (L.take k) < 72057594037927936 := Nat.lt_of_lt_of_le hlo (Nat.le_trans (Nat.pow_le_pow_right (by decide) (show k ≤ 7 by omega)) (by decide))
        generalize L.getD k 0 = c at hcell hsucc
        obtain ⟨cv, hcv⟩ : ∃ cv, cv = c.toNat := ⟨_, rfl⟩
        have hor := or8 (Cd.dgN (L.take k)) c cv hcv h56
        have hbn : bv c = (cv : Int) := by rw [hcv]; rfl
        have c256 : cv < 256 := by rw [hcv]; exact c.isLt
        rw [hbn] at hcell
        rw [← hcv] at hsucc
        have HSUCC := Lib.hid hsucc
        generalize Cd.dgN (L.take k) = acc at hor h56 HSUCC hlo
        have hor2 : bits .or .u64 ((acc : Int) * 256) (cv : Int) = ((acc * 256 + cv : Nat) : Int) := by rw [← hor, show IntKind.u64.wrap ((acc : Int) * 256) = (acc : Int) * 256 by rw [IntKind.wrap_u64]; omega]
        clear hcv hbn hsucc hlo
        have hwc : IntKind.u64.wrap (cv : Int) = (cv : Int) := by rw [IntKind.wrap_u64]; omega
        go_wp2_with fail
        go_roundw
        case rel => exact ⟨k + 1, by omega, by go_num, by rw [HSUCC.out]; first | rfl | (simp; done), rfl⟩
        case measure => simp [intOf]; omega
      · obtain rfl : k = 8 := by omega
        rw [hF.out]
        go_wp2_with fail
        go_ret3
        exact .inr ⟨d, hU.out, rfl, rfl⟩
/-- an empty slice that is made -/
theorem made_nil (w : World) : OwnB w.heap.size (w.alloc (.cells #[] 5)) (.slice (some ⟨w.heap.size, 0, none⟩) 0 0) [] := by
  refine ⟨rfl, .inr ⟨w.heap.size, 0, #[], rfl, Nat.le_refl _, heap_alloc_new w _, Nat.le_refl _, by unfold maxLen; omega, rfl, rfl⟩⟩
theorem clone_any (D : List B) (N : Nat) (v : Value) (w : World) (hD : D.length ≤ 300000000) (hN : N ≤ w.heap.size) (h : HasB w N v D) :
    Calls Try.prog 44 #[v] w fun e w' => ∃ v', e = .returned v' ∧ HasB w' w'.heap.size v' D ∧ Below w.heap.size w w' := by
  obtain ⟨a, cap, rfl⟩ := h.form
  have heq := fun (w : World) (a : Option Addr) (l c : Nat) => Lib.run_eql_slice_nil (P := Try.prog) w 22 5 a l c 0 0 Try.underlying22
  cases a with
  | none =>
    have hD0 : D = [] := by
      rcases h with ⟨_, _, _, e⟩ | ⟨_, _, _, e, _⟩
      · exact e
      · simp at e
    subst hD0
    clear h
    go_enter Try.func44, Try.ntmps44
    go_wp2_with fail
    go_ret
    exact ⟨_, rfl, .inl ⟨none, 0, rfl, rfl⟩, Below.refl _ _⟩
  | some ad =>
    have H := Lib.hid ((h.below ((Below.refl w.heap.size w).alloc (Nat.le_refl _) (.cells #[] 5)) hN).wide (show N ≤ (w.alloc (.cells #[] 5)).heap.size by simp; omega))
    obtain ⟨m, hm⟩ : ∃ m, m = D.length := ⟨_, rfl⟩
    rw [← hm] at hD H ⊢
    have HM := Lib.hid hm
    have HN := Lib.hid (made_nil w)
    clear h hm hN
    go_enter Try.func44, Try.ntmps44
    go_wp2_with (at_builtin; refine wpList_append_bytes rfl (.tmp 5) (.tmp 6) rfl w.heap.size _ _ [] D rfl HN.out rfl _ H.out (by have := HM.out; simp; omega) (by simp) m (by have := HM.out; simp; omega) ?_)
    intro a3 cap3 w3 own3 grow3
    have BEL := Lib.hid (below_grownB ((Below.refl w.heap.size w).alloc (Nat.le_refl _) (.cells #[] 5)) (by simp) HN.out grow3)
    have OWN := Lib.hid own3
    clear own3 grow3
    go_wp2_with fail
    go_ret
    exact ⟨_, rfl, OWN.out.has, BEL.out⟩
end Go.Proofs.Ytkckimhkbnigkaa
