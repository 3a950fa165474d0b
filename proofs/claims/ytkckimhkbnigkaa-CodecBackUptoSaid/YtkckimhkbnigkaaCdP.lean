/-
  What PutInt, PutBytes, PutDigest, PutList and Frame of package codec return. Nothing that was there has changed. Condition: the bytes are fewer than some millions.
-/
import Derived.Test.YtkckimhkbnigkaaCdA
namespace Go.Proofs.Ytkckimhkbnigkaa
open Go.ChangeShapes Go.WideShapes Go.ChangeAt Go.RowKit
open Dg (W B)
theorem HasB.cap_le {w : World} {N : Nat} {a : Option Addr} {m cap : Nat} {l : List B} (h : HasB w N (.slice a m cap) l) : m ≤ cap := by
  rcases h with ⟨a', c, e, rfl⟩ | ⟨b, off, c, e, h1, h2, h3⟩
  · simp only [Value.slice.injEq] at e; omega
  · simp only [Value.slice.injEq] at e; omega
theorem HasB.app {w : World} {N : Nat} {a : Option Addr} {m cap : Nat} {l : List B} (h : HasB w N (.slice a m cap) l) (hN : N = w.heap.size) (base : Nat) : AppB base w (.slice a m m) l := by
  subst hN
  rcases h with ⟨a', c, e, rfl⟩ | ⟨b, off, c, e, h1, h2, h3⟩
  · simp only [Value.slice.injEq] at e
    obtain ⟨-, rfl, -⟩ := e
    exact .inr ⟨a, rfl, .inl ⟨a, 0, rfl, rfl⟩⟩
  · simp only [Value.slice.injEq] at e
    obtain ⟨rfl, rfl, rfl⟩ := e
    exact .inr ⟨_, rfl, .inr ⟨b, off, _, rfl, Nat.le_refl _, h2, h3⟩⟩
theorem cputint_any (n : Int) (L : List B) (bv0 : Value) (w : World) (hn : (Lit.int .i64 n).wf = true) (hL : L.length ≤ 100000000) (hb : HasB w w.heap.size bv0 L) :
    Calls Try.prog 15 #[bv0, .int .i64 n] w (Gives (L ++ Cd.putI n) w) := by
  obtain ⟨a, cap, rfl⟩ := hb.form
  have C1 := Lib.hid (clip_any a _ cap w hb.cap_le)
  have C := Lib.hid (anum_any n L _ w.heap.size w hn (by omega) (hb.app rfl w.heap.size) (Nat.le_refl _))
  clear hb
  go_enter Try.func15, Try.ntmps15
  go_wp2_with fail
  refine (C1.out).mono ?_; rintro e w' ⟨rfl, rfl⟩
  go_wp2_with fail
  refine (C.out).mono ?_; rintro e w1 ⟨v1, rfl, o1, b1⟩
  have O1 := Lib.hid o1; have B1 := Lib.hid b1
  clear o1 b1
  go_wp2_with fail
  go_ret
  exact ⟨_, rfl, O1.out.has, B1.out⟩
theorem cputbytes_any (L D : List B) (bv0 dv : Value) (w : World) (hL : L.length ≤ 100000000) (hD : D.length ≤ 100000000) (hb : HasB w w.heap.size bv0 L) (hd : HasB w w.heap.size dv D) :
    Calls Try.prog 16 #[bv0, dv] w (Gives (L ++ Cd.putB D) w) := by
  obtain ⟨a, cap, rfl⟩ := hb.form
  obtain ⟨a', cap', rfl⟩ := hd.form
  have C1 := Lib.hid (clip_any a _ cap w hb.cap_le)
  have C := Lib.hid (abytes_any L D _ _ w.heap.size w (by omega) (by omega) (hb.app rfl w.heap.size) hd (Nat.le_refl _))
  clear hb hd
  go_enter Try.func16, Try.ntmps16
  go_wp2_with fail
  refine (C1.out).mono ?_; rintro e w' ⟨rfl, rfl⟩
  go_wp2_with fail
  refine (C.out).mono ?_; rintro e w1 ⟨v1, rfl, o1, b1⟩
  have O1 := Lib.hid o1; have B1 := Lib.hid b1
  clear o1 b1
  go_wp2_with fail
  go_ret
  exact ⟨_, rfl, O1.out.has, B1.out⟩
theorem cputdigest_any (d : W) (L : List B) (bv0 : Value) (w : World) (hL : L.length ≤ 300000100) (hb : HasB w w.heap.size bv0 L) :
    Calls Try.prog 18 #[bv0, .int .u64 (uv d)] w (Gives (L ++ Cd.putD d) w) := by
  obtain ⟨a, cap, rfl⟩ := hb.form
  have C1 := Lib.hid (clip_any a _ cap w hb.cap_le)
  have C := Lib.hid (adig_any d L _ w.heap.size w (by omega) (hb.app rfl w.heap.size) (Nat.le_refl _))
  clear hb
  go_enter Try.func18, Try.ntmps18
  go_wp2_with fail
  refine (C1.out).mono ?_; rintro e w' ⟨rfl, rfl⟩
  go_wp2_with fail
  refine (C.out).mono ?_; rintro e w1 ⟨v1, rfl, o1, b1⟩
  have O1 := Lib.hid o1; have B1 := Lib.hid b1
  clear o1 b1
  go_wp2_with fail
  go_ret
  exact ⟨_, rfl, O1.out.has, B1.out⟩
set_option maxHeartbeats 1000000 in
theorem cputlist_any (L : List B) (l : List ByteArray) (bv0 lv : Value) (w : World) (hl : l.length ≤ 1000000) (hL : L.length + (Cd.putL (l.map strB)).length ≤ 50000000) (hb : HasB w w.heap.size bv0 L) (hs : HasS w w.heap.size lv l) :
    Calls Try.prog 20 #[bv0, lv] w (Gives (L ++ Cd.putL (l.map strB)) w) := by
  have htot : L.length + (Cd.putI l.length).length + (Cd.putAll (l.map strB)).length ≤ 50000000 := by
    unfold Cd.putL at hL
    rw [List.length_append, List.length_map] at hL
    omega
  obtain ⟨a0, cap0, rfl⟩ := hb.form
  have C0 := Lib.hid (clip_any a0 _ cap0 w hb.cap_le)
  have C1 := Lib.hid (anum_len l.length L _ w.heap.size w (by omega) (by omega) (hb.app rfl w.heap.size) (Nat.le_refl _))
  obtain ⟨m0, hm0⟩ : ∃ m, m = L.length := ⟨_, rfl⟩
  rw [← hm0] at C0 C1 ⊢
  obtain ⟨a, cap, rfl⟩ := hs.form
  have H := Lib.hid hs
  have HT := Lib.hid htot
  have hmono := Lib.hid fun k => putAll_mono l k
  have hsnoc := Lib.hid fun k hk => take_snoc l k hk
  obtain ⟨m, hm⟩ : ∃ m, m = l.length := ⟨_, rfl⟩
  rw [← hm] at C1 H HT hl ⊢
  have HM := Lib.hid hm
  obtain ⟨I, hI⟩ : ∃ I, I = L ++ Cd.putI (m : Int) := ⟨_, rfl⟩
  have HI := Lib.hid hI
  rw [← hI] at C1
  have HM0 := Lib.hid hm0
  clear hs hb hm hI htot hL hm0
  go_enter Try.func20, Try.ntmps20
  go_wp2_with fail
  refine (C0.out).mono ?_; rintro e w' ⟨rfl, rfl⟩
  go_wp2_with fail
  refine (C1.out).mono ?_; rintro e w1 ⟨v1, rfl, o1, b1⟩
  have O1 := Lib.hid o1; have B1 := Lib.hid b1
  clear o1 b1
  go_wp2
  go_loopw [0, 14] (LRel L l w) (fun _ i _ => m - (intOf i).toNat)
  case atStart => exact ⟨0, by omega, rfl, by rw [← HM.out, ← HI.out]; simpa [Cd.putAll] using O1.out, B1.out⟩
  case round =>
    obtain ⟨k, hk, rfl, ho, hb⟩ := hrel
    rw [← HM.out, ← HI.out] at ho
    have hkm : k ≤ m := by have := HM.out; omega
    have HO := Lib.hid ho; have HBL := Lib.hid hb
    clear ho hb hk
    by_cases hlt : k < m
    · obtain ⟨b', off', rfl, hcell⟩ := (H.out.below HBL.out (Nat.le_refl _)).at k hlt
      have hsn := hsnoc.out k (by have := HM.out; omega)
      have hm1 := hmono.out (k + 1)
      generalize l.getD k ByteArray.empty = s at hcell hsn
      rw [hsn, putAll_snoc, List.length_append, Cd.putB_len] at hm1
      have hIl : I.length = L.length + (Cd.putI (m : Int)).length := by rw [HI.out, List.length_append]
      have htt := HT.out
      have HSN := Lib.hid hsn
      have hsize : (strB s).length ≤ 50000000 := by omega
      have hout : (I ++ Cd.putAll ((l.take k).map strB)).length ≤ 50000000 := by rw [List.length_append]; omega
      clear hsn hm1 htt hIl
      have CP := Lib.hid (atext_any (I ++ Cd.putAll ((l.take k).map strB)) s _ w.heap.size wr (by omega) (by omega) (.inl HO.out) HBL.out.size)
      clear hsize hout
      go_wp2_with fail
      refine (CP.out).mono ?_; rintro e w2 ⟨v2, rfl, o2, b2⟩
      have O2 := Lib.hid o2; have B2 := Lib.hid (HBL.out.trans b2)
      clear o2 b2
      go_wp2_with fail
      go_roundw
      case rel => exact ⟨k + 1, by have := HM.out; omega, by go_num, by rw [← HM.out, ← HI.out, HSN.out, putAll_snoc, ← List.append_assoc]; exact O2.out, B2.out⟩
      case measure => simp [intOf]; omega
    · obtain rfl : k = m := by omega
      go_wp2_with fail
      go_ret
      exact ⟨_, rfl, by have := HO.out; rw [List.take_of_length_le (by have := HM.out; omega), HI.out, HM.out] at this; unfold Cd.putL; rw [List.length_map, ← List.append_assoc]; exact this.has, HBL.out⟩
theorem cframe_any (D : List B) (v : Value) (w : World) (hD : D.length ≤ 100000000) (h : HasB w w.heap.size v D) :
    Calls Try.prog 21 #[v] w (Gives (Cd.frame D) w) := by
  have C1 := Lib.hid (abytes_any [] D (.slice none 0 0) v w.heap.size w (by simp) (by omega) (AppB.nil w _) h (Nat.le_refl _))
  have H := Lib.hid h
  obtain ⟨a, cap, rfl⟩ := h.form
  have hlen : (Cd.putB D).length ≤ 100000010 := by rw [Cd.putB_len]; have := putI_len D.length hD; omega
  clear h
  go_enter Try.func21, Try.ntmps21
  go_wp2_with fail
  refine (C1.out).mono ?_; rintro e w1 ⟨v1, rfl, o1, b1⟩
  rw [List.nil_append] at o1
  have O1 := Lib.hid o1; have B1 := Lib.hid b1
  clear o1 b1
  go_wp2_with fail
  refine (of_any D _ _ w1 (by omega) (H.out.below B1.out (Nat.le_refl _))).mono ?_; rintro e w' ⟨rfl, rfl⟩
  go_wp2_with fail
  refine (adig_any (Dg.ofB D) (Cd.putB D) v1 w.heap.size w1 (by omega) (.inl O1.out) B1.out.size).mono ?_; rintro e w2 ⟨v2, rfl, o2, b2⟩
  have O2 := Lib.hid o2; have B2 := Lib.hid (B1.out.trans b2)
  clear o2 b2
  go_wp2_with fail
  go_ret
  exact ⟨_, rfl, O2.out.has, B2.out⟩
end Go.Proofs.Ytkckimhkbnigkaa
