/-
  What Digest and Unframe of the chapter of bytes return. Nothing that was there has changed. Condition: the bytes are fewer than three hundred millions.
-/
import Derived.Test.YtkckimhkbnigkaaRefRead
namespace Go.Proofs.Ytkckimhkbnigkaa
open Go.ChangeShapes Go.WideShapes Go.ChangeAt Go.RowKit
open Dg (W B)
theorem or8 (a : Nat) (c : B) (cv : Nat) (hc : cv = c.toNat) (ha : a < 72057594037927936) : bits .or .u64 (IntKind.u64.wrap ((a : Int) * 256)) (cv : Int) = ((a * 256 + cv : Nat) : Int) := by
  have hlt := c.isLt
  have e1 : IntKind.u64.wrap ((a : Int) * 256) = uv (BitVec.ofNat 64 (a * 256)) := by
    unfold uv
    rw [IntKind.wrap_u64, BitVec.toNat_ofNat, Nat.mod_eq_of_lt (by omega)]
    omega
  have e2 : (cv : Int) = uv (BitVec.ofNat 64 cv) := by
    unfold uv
    rw [BitVec.toNat_ofNat, Nat.mod_eq_of_lt (by omega)]
  rw [e1, e2, uv_or]
  unfold uv
  rw [BitVec.toNat_or, BitVec.toNat_ofNat, BitVec.toNat_ofNat, Nat.mod_eq_of_lt (by omega), Nat.mod_eq_of_lt (by omega)]
  have := Nat.two_pow_add_eq_or_of_lt (i := 8) (b := cv) (by omega) a
  rw [Nat.mul_comm a 256]
  exact congrArg Int.ofNat this.symm
theorem dgN_succ (l : List B) (k : Nat) (h : k < l.length) : Cd.dgN (l.take (k + 1)) = Cd.dgN (l.take k) * 256 + (l.getD k 0).toNat := by
  unfold Cd.dgN
  rw [List.take_succ_eq_append_getElem h, List.foldl_append]
  simp [List.getD, h]
theorem dgN_lt (l : List B) : ∀ k, k ≤ l.length → Cd.dgN (l.take k) < 256 ^ k
  | 0, _ => by simp [Cd.dgN]
  | k + 1, h => by
    have h1 := dgN_lt l k (by omega)
    have h2 := (l.getD k 0).isLt
    rw [dgN_succ l k (by omega), Nat.pow_succ]
    omega
theorem rdgt_out (L : List B) (p : Int) (v : Value) (w : World) (hp : p < 0 ∨ (L.length : Int) < p) (h : HasB w w.heap.size v L) :
    Calls Try.prog 31 #[v, .int .i64 p] w fun e w' => e = .returned (.tuple #[.int .u64 0, .int .i64 p, .int .i64 2]) ∧ w = w' := by
  obtain ⟨a, cap, rfl⟩ := h.form
  by_cases h1 : p < 0
  · have t1 : decide (p < 0) = true := decide_eq_true h1
    clear h hp h1
    go_enter Try.func31, Try.ntmps31
    go_wp2_with fail
    go_ret3
    exact ⟨rfl, rfl⟩
  · have t1 : decide (p < 0) = false := decide_eq_false h1
    have t2 : decide ((L.length : Int) < p) = true := decide_eq_true (by omega)
    clear h hp h1
    go_enter Try.func31, Try.ntmps31
    go_wp2_with fail
    go_ret3
    exact ⟨rfl, rfl⟩
theorem rdgt_bad (L : List B) (p c : Nat) (v : Value) (w : World) (hp : p ≤ L.length) (h : HasB w w.heap.size v L) (hr : Cd.getD (L.drop p) = .bad c) :
    Calls Try.prog 31 #[v, .int .i64 (p : Int)] w fun e w' => e = .returned (.tuple #[.int .u64 0, .int .i64 (p : Int), .int .i64 (c : Int)]) ∧ w = w' := by
  obtain ⟨a, cap, rfl⟩ := h.form
  unfold Cd.getD at hr
  split at hr
  · rename_i hs
    simp only [Cd.R.bad.injEq] at hr
    subst hr
    rw [List.length_drop] at hs
    obtain ⟨m, hm⟩ : ∃ m, m = L.length := ⟨_, rfl⟩
    rw [← hm] at hp hs ⊢
    have t1 : decide ((p : Int) < 0) = false := decide_eq_false (by omega)
    have t2 : decide (m < p) = false := decide_eq_false (by omega)
    have t3 : (m : Int) - (p : Int) < 8 := by omega
    clear h hm hs
    go_enter Try.func31, Try.ntmps31
    go_wp2_with fail
    go_ret3
    exact ⟨rfl, rfl⟩
  · cases hr
def GRel (l : List B) (w : World) (u i : Value) (wr : World) : Prop := ∃ k : Nat, k ≤ 8 ∧ i = .int .i64 (k : Int) ∧ u = .int .u64 (Cd.dgN (l.take k) : Int) ∧ w = wr
set_option maxRecDepth 100000 in
set_option maxHeartbeats 1000000 in
theorem rdgt_ok (L : List B) (p k : Nat) (d : W) (v : Value) (w : World) (hp : p ≤ L.length) (hL : L.length ≤ 300000000) (h : HasB w w.heap.size v L) (hr : Cd.getD (L.drop p) = .ok d k) :
    Calls Try.prog 31 #[v, .int .i64 (p : Int)] w fun e w' => e = .returned (.tuple #[.int .u64 (uv d), .int .i64 ((p + 8 : Nat) : Int), .int .i64 0]) ∧ w = w' := by
  unfold Cd.getD at hr
  split at hr
  · cases hr
  · rename_i hs
    simp only [Cd.R.ok.injEq] at hr
    obtain ⟨hd, -⟩ := hr
    rw [List.length_drop] at hs
    rcases h with ⟨a, cap, rfl, rfl⟩ | ⟨b, off, cap, rfl, h2, h3, h4⟩
    · simp at hs
    · obtain ⟨q, hq⟩ : ∃ q, q = p + 8 := ⟨_, rfl⟩
      obtain ⟨a', hrun, ha⟩ := bytes_part b off L.length cap p q w (by omega) (by omega)
      obtain rfl := ha (by omega)
      have hpart := part_has (a' := some ⟨b, off + p, none⟩) (N := w.heap.size) (k := p) (m := q) (by omega) (by omega) h2 h3 h4 ha
      obtain ⟨l, hl⟩ : ∃ l, l = (L.drop p).take 8 := ⟨_, rfl⟩
      have hl8 : l.length = 8 := by rw [hl]; simp; omega
      rw [show q - p = 8 by omega, ← hl] at hpart
      rw [← hl] at hd
      have hfin : uv d = (Cd.dgN l : Int) := by
        have hlt := dgN_lt l 8 (by omega)
        rw [List.take_of_length_le (by omega)] at hlt
        rw [← hd]
        unfold uv
        rw [BitVec.toNat_ofNat, Nat.mod_eq_of_lt (Nat.lt_of_lt_of_le hlt (by decide))]
      have hrun2 := hrun p q rfl rfl
      rw [show q - p = 8 by omega] at hrun2
      have hqI : (p : Int) + 8 = (q : Int) := by omega
      obtain ⟨m, hm⟩ : ∃ m, m = L.length := ⟨_, rfl⟩
      rw [← hm] at hp hL hs hrun2 ⊢
      have t1 : decide ((p : Int) < 0) = false := decide_eq_false (by omega)
      have t2 : decide (m < p) = false := decide_eq_false (by omega)
      have t3 : ¬ (m : Int) - (p : Int) < 8 := by omega
      have hqm : q ≤ m := by omega
      have HP := Lib.hid hpart; have HL8 := Lib.hid hl8; have HF := Lib.hid hfin; have HQ := Lib.hid hq
      clear hm hs hd hl hl8 hpart hfin hrun ha h2 h3 h4 hq
      go_enter Try.func31, Try.ntmps31
      go_wp2_with fail
      go_loopw [7, 33] (GRel l w) (fun _ i _ => 8 - (intOf i).toNat)
      case atStart => exact ⟨0, by omega, rfl, by simp [Cd.dgN], rfl⟩
      case round =>
        obtain ⟨k, hk, rfl, rfl, rfl⟩ := hrel
        by_cases hlt : k < 8
        · obtain ⟨b', off', e, hcell⟩ := HP.out.at k (by omega)
          simp only [Option.some.injEq, Addr.mk.injEq] at e
          obtain ⟨rfl, rfl, -⟩ := e
          have hsucc := dgN_succ l k (by have := HL8.out; omega)
          have hlo := dgN_lt l k (by have := HL8.out; omega)
          have h56 : Cd.dgN (l.take k) < 72057594037927936 := Nat.lt_of_lt_of_le hlo (Nat.le_trans (Nat.pow_le_pow_right (by decide) (show k ≤ 7 by omega)) (by decide))
          generalize l.getD k 0 = c at hcell hsucc
          obtain ⟨cv, hcv⟩ : ∃ cv, cv = c.toNat := ⟨_, rfl⟩
          have hor := or8 (Cd.dgN (l.take k)) c cv hcv h56
          have hbn : bv c = (cv : Int) := by rw [hcv]; rfl
          have c256 : cv < 256 := by rw [hcv]; exact c.isLt
          rw [hbn] at hcell
          rw [← hcv] at hsucc
          have HSUCC := Lib.hid hsucc
          generalize Cd.dgN (l.take k) = acc at hor h56 HSUCC hlo
          have hor2 : bits .or .u64 ((acc : Int) * 256) (cv : Int) = ((acc * 256 + cv : Nat) : Int) := by rw [← hor, show IntKind.u64.wrap ((acc : Int) * 256) = (acc : Int) * 256 by rw [IntKind.wrap_u64]; omega]
          clear hcv hbn hsucc hlo
          have hwc : IntKind.u64.wrap (cv : Int) = (cv : Int) := by rw [IntKind.wrap_u64]; omega
          go_wp2_with fail
          go_roundw
          case rel => exact ⟨k + 1, by omega, by go_num, by rw [HSUCC.out]; first | rfl | (simp; done), rfl⟩
          case measure => simp [intOf]; omega
        · obtain rfl : k = 8 := by omega
          have hall : Hid (Cd.dgN (l.take 8) = Cd.dgN l) := Lib.hid (by rw [List.take_of_length_le (by have := HL8.out; omega)])
          rw [hall.out, ← HF.out]
          go_wp2_with fail
          go_ret3
          exact ⟨by rw [← HQ.out]; rfl, rfl⟩
/-- the digest of bytes, whatever they are -/
theorem rof_to (L : List B) (v : Value) (w : World) (hL : L.length ≤ 300000000) (h : HasB w w.heap.size v L) :
    Calls Try.prog 28 #[v] w fun e w' => e = .returned (.int .u64 (uv (Dg.ofB L))) ∧ w = w' := by
  rcases h with ⟨a, cap, rfl, rfl⟩ | ⟨b, off, cap, rfl, h2, h3, h4⟩
  · exact rof_none a cap w
  · exact rof_some L b off cap w (by omega) h4
theorem getB_code {l : List B} {c : Nat} (h : Cd.getB l = .bad c) : c = 4 ∨ c = 5 := by
  unfold Cd.getB at h
  split at h
  · rename_i c' hI
    simp at h; subst h
    exact getI_code hI
  · split at h
    · simp at h; omega
    · split at h
      · simp at h; omega
      · cases h
theorem getD_code {l : List B} {c : Nat} (h : Cd.getD l = .bad c) : c = 5 := by
  unfold Cd.getD at h
  split at h
  · simp at h; omega
  · cases h
set_option maxHeartbeats 1000000 in
theorem rframe_any (D : List B) (v : Value) (w : World) (hD : D.length ≤ 100000000) (h : HasB w w.heap.size v D) :
    Calls Try.prog 11 #[v] w fun e w' => ∃ fv, e = .returned fv ∧ OwnB w.heap.size w' fv (Cd.frame D) ∧ Below w.heap.size w w' := by
  have C1 := Lib.hid (rputbytes_any [] D (.slice none 0 0) v w (by simp) hD (OwnB.nil w w.heap.size).has h)
  have H := Lib.hid h
  obtain ⟨a, cap, rfl⟩ := h.form
  have hlen : (Cd.putB D).length ≤ 100000010 := by rw [Cd.putB_len]; have := putI_len D.length hD; omega
  clear h
  go_enter Try.func11, Try.ntmps11
  go_wp2_with fail
  refine (C1.out).mono ?_; rintro e w1 ⟨v1, rfl, o1, b1⟩
  rw [List.nil_append] at o1
  have O1 := Lib.hid o1; have B1 := Lib.hid b1
  clear o1 b1
  go_wp2_with fail
  refine (rof_to D _ w1 (by omega) ((H.out.below B1.out (Nat.le_refl _)).wide B1.out.size)).mono ?_; rintro e w' ⟨rfl, rfl⟩
  go_wp2_with fail
  refine (rputdigest_any (Dg.ofB D) (Cd.putB D) v1 w1 (by omega) O1.out.has).mono ?_; rintro e w2 ⟨v2, rfl, o2, b2⟩
  have O2 := Lib.hid o2; have B2 := Lib.hid (B1.out.trans (b2.mono B1.out.size))
  clear o2 b2
  go_wp2_with fail
  go_ret
  exact ⟨_, rfl, O2.out.mono B1.out.size, B2.out⟩
theorem runframe_out (L : List B) (p : Int) (v : Value) (w : World) (hp : p < 0 ∨ (L.length : Int) < p) (h : HasB w w.heap.size v L) :
    Calls Try.prog 33 #[v, .int .i64 p] w fun e w' => e = .returned (.tuple #[.slice none 0 0, .int .i64 p, .int .i64 2]) ∧ w = w' := by
  have C := Lib.hid (rbytes_out L p v w hp h)
  obtain ⟨a, cap, rfl⟩ := h.form
  clear h hp
  go_enter Try.func33, Try.ntmps33
  go_wp2_with fail
  refine (C.out).mono ?_; rintro e w' ⟨rfl, rfl⟩
  go_wp2_with fail
  go_ret3
  exact ⟨rfl, rfl⟩
/-- what Unframe returns at a position that is there -/
def UPost (L : List B) (p : Nat) (w : World) (e : Ending) (w' : World) : Prop :=
  match Cd.unframe (L.drop p) with
  | .ok D k => ∃ dv, e = .returned (.tuple #[dv, .int .i64 ((p + k : Nat) : Int), .int .i64 0]) ∧ OwnB w.heap.size w' dv D ∧ Below w.heap.size w w'
  | .bad c => e = .returned (.tuple #[.slice none 0 0, .int .i64 (p : Int), .int .i64 (c : Int)]) ∧ Below w.heap.size w w'
theorem UPost.of_bad {L : List B} {p c : Nat} {w w' : World} {e : Ending} (h : Cd.unframe (L.drop p) = .bad c) (he : e = .returned (.tuple #[.slice none 0 0, .int .i64 (p : Int), .int .i64 (c : Int)])) (hb : Below w.heap.size w w') : UPost L p w e w' := by
  unfold UPost; rw [h]; exact ⟨he, hb⟩
theorem UPost.of_ok {L D : List B} {p k : Nat} {w w' : World} {e : Ending} {dv : Value} (h : Cd.unframe (L.drop p) = .ok D k) (he : e = .returned (.tuple #[dv, .int .i64 ((p + k : Nat) : Int), .int .i64 0])) (ho : OwnB w.heap.size w' dv D) (hb : Below w.heap.size w w') : UPost L p w e w' := by
  unfold UPost; rw [h]; exact ⟨dv, he, ho, hb⟩
set_option maxHeartbeats 1000000 in
theorem runframe_in (L : List B) (p : Nat) (v : Value) (w : World) (hp : p ≤ L.length) (hL : L.length ≤ 300000000) (h : HasB w w.heap.size v L) :
    Calls Try.prog 33 #[v, .int .i64 (p : Int)] w (UPost L p w) := by
  cases hB : Cd.getB (L.drop p) with
  | bad c =>
    have C := Lib.hid (rbytes_bad L p c v w hp hL h hB)
    have hU := Lib.hid (show Cd.unframe (L.drop p) = .bad c by unfold Cd.unframe; rw [hB])
    have hc := getB_code hB
    have t1 : ((c : Int) != 0) = true := by rw [bne_iff_ne]; omega
    obtain ⟨a, cap, rfl⟩ := h.form
    clear h hp hB hc
    go_enter Try.func33, Try.ntmps33
    go_wp2_with fail
    refine (C.out).mono ?_; rintro e w' ⟨rfl, rfl⟩
    go_wp2_with fail
    go_ret3
    exact UPost.of_bad hU.out rfl (Below.refl _ _)
  | ok D k =>
    have C := Lib.hid (rbytes_ok L D p k v w hp hL h hB)
    obtain ⟨e1, e2, e3, e4⟩ := Cd.getB_inv hB
    rw [List.length_drop] at e3
    have H := Lib.hid h
    obtain ⟨a, cap, rfl⟩ := h.form
    have hDl : D.length ≤ 300000000 := by
      have := congrArg List.length e4
      rw [Cd.putB_len, List.length_take, List.length_drop] at this
      omega
    obtain ⟨q, hq⟩ : ∃ q, q = p + k := ⟨_, rfl⟩
    rw [← hq] at C
    have hqL : q ≤ L.length := by omega
    have HQL := Lib.hid hqL; have HLL := Lib.hid hL; have HDL := Lib.hid hDl
    clear h hp e1 e2 e3 e4 hDl hqL hL
    have HB := Lib.hid hB
    have hqD : Hid ((L.drop p).drop k = L.drop q) := Lib.hid (by rw [List.drop_drop, hq])
    clear hB
    obtain ⟨m, hm⟩ : ∃ m, m = L.length := ⟨_, rfl⟩
    rw [← hm] at C H HQL HLL ⊢
    have HM := Lib.hid hm; clear hm
    have HQE := Lib.hid hq; clear hq
    cases hG : Cd.getD (L.drop q) with
    | bad c =>
      have C2 := Lib.hid fun (w' : World) (hw : Below w.heap.size w w') => rdgt_bad L q c (.slice a m cap) w' (by have := HQL.out; have := HM.out; omega) ((H.out.below hw (Nat.le_refl _)).wide hw.size) hG
      have hc := getD_code hG
      have hU := Lib.hid (show Cd.unframe (L.drop p) = .bad c by unfold Cd.unframe; rw [HB.out]; simp only []; rw [hqD.out, hG])
      have t1 : ((c : Int) != 0) = true := by rw [bne_iff_ne]; omega
      clear hG hc
      go_enter Try.func33, Try.ntmps33
      go_wp2_with fail
      refine (C.out).mono ?_; rintro e w1 ⟨dv, rfl, o1, b1⟩
      have B1 := Lib.hid b1
      clear o1 b1
      go_wp2_with fail
      refine (C2.out _ B1.out).mono ?_; rintro e w' ⟨rfl, rfl⟩
      go_wp2_with fail
      go_ret3
      exact UPost.of_bad hU.out rfl B1.out
    | ok x j =>
      obtain ⟨rfl, -, -⟩ := Cd.getD_inv hG
      have hUf : Cd.unframe (L.drop p) = if x = Dg.ofB D then .ok D (k + 8) else .bad 9 := by unfold Cd.unframe; rw [HB.out]; simp only []; rw [hqD.out, hG]
      have C2 := Lib.hid fun (w' : World) (hw : Below w.heap.size w w') => rdgt_ok L q 8 x (.slice a m cap) w' (by have := HQL.out; have := HM.out; omega) (by have := HLL.out; have := HM.out; omega) ((H.out.below hw (Nat.le_refl _)).wide hw.size) hG
      clear hG
      by_cases hx : x = Dg.ofB D
      · have t1 : (uv x != uv (Dg.ofB D)) = false := by rw [hx]; simp
        rw [if_pos hx] at hUf
        have hU := Lib.hid hUf
        have hqq : Hid (q + 8 = p + (k + 8)) := Lib.hid (by have := HQE.out; omega)
        clear hx hUf
        go_enter Try.func33, Try.ntmps33
        go_wp2_with fail
        refine (C.out).mono ?_; rintro e w1 ⟨dv, rfl, o1, b1⟩
        have O1 := Lib.hid o1; have B1 := Lib.hid b1
        clear o1 b1
        go_wp2_with fail
        refine (C2.out _ B1.out).mono ?_; rintro e w' ⟨rfl, rfl⟩
        go_wp2_with fail
        refine (rof_to D _ _ HDL.out O1.out.has).mono ?_; rintro e w' ⟨rfl, rfl⟩
        go_wp2_with fail
        go_ret3
        exact UPost.of_ok hU.out (by rw [← hqq.out]; rfl) O1.out B1.out
      · have t1 : (uv x != uv (Dg.ofB D)) = true := by rw [bne_iff_ne]; exact fun g => hx (uv_inj.1 g)
        rw [if_neg hx] at hUf
        have hU := Lib.hid hUf
        clear hx hUf
        go_enter Try.func33, Try.ntmps33
        go_wp2_with fail
        refine (C.out).mono ?_; rintro e w1 ⟨dv, rfl, o1, b1⟩
        have O1 := Lib.hid o1; have B1 := Lib.hid b1
        clear o1 b1
        go_wp2_with fail
        refine (C2.out _ B1.out).mono ?_; rintro e w' ⟨rfl, rfl⟩
        go_wp2_with fail
        refine (rof_to D _ _ HDL.out O1.out.has).mono ?_; rintro e w' ⟨rfl, rfl⟩
        go_wp2_with fail
        go_ret3
        exact UPost.of_bad hU.out rfl B1.out
end Go.Proofs.Ytkckimhkbnigkaa
