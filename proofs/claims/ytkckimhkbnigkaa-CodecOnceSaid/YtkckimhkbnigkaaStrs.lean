/-
  Strings: their bytes; slices of strings; what PutList of the chapter of bytes returns. Nothing that was there has changed. Condition: what is written is shorter than a hundred million bytes.
-/
import Derived.Test.YtkckimhkbnigkaaRefGetD
import Derived.Laws.IdiomStrings
namespace Go.Proofs.Ytkckimhkbnigkaa
open Go.ChangeShapes Go.WideShapes Go.ChangeAt Go.RowKit
open Dg (W B)
/-- the bytes of a string -/
def strB (s : ByteArray) : List B := s.data.toList.map UInt8.toBitVec
theorem strB_len (s : ByteArray) : (strB s).length = s.size := by unfold strB; rw [List.length_map, Array.length_toList]; rfl
theorem strB_at (s : ByteArray) (i : Nat) (h : i < s.data.size) : bv ((strB s).getD i 0) = (s.data[i].toNat : Int) := by
  have e : (strB s).getD i 0 = s.data[i].toBitVec := by unfold strB; rw [List.getD_eq_getElem?_getD, List.getElem?_map, Array.getElem?_toList, Array.getElem?_eq_getElem h]; rfl
  rw [e]; rfl
theorem strB_inj {s t : ByteArray} (h : strB s = strB t) : s = t := by
  have h2 : s.data.toList = t.data.toList := List.map_inj_right (fun _ _ e => UInt8.toBitVec_inj.1 e) |>.1 h
  cases s; cases t
  simp only [ByteArray.mk.injEq]
  exact Array.toList_inj.1 h2
/-- the value v is a slice whose strings are l, in blocks below N -/
def HasS (w : World) (N : Nat) (v : Value) (l : List ByteArray) : Prop :=
  (∃ a cap, v = .slice a 0 cap ∧ l = []) ∨ ∃ b off cap, v = .slice (some ⟨b, off, none⟩) l.length cap ∧ l.length ≤ cap ∧ b < N ∧ ∀ i, i < l.length → w.cell? ⟨b, off + i, none⟩ = some (.string (l.getD i ByteArray.empty))
theorem HasS.form {w : World} {N : Nat} {v : Value} {l : List ByteArray} (h : HasS w N v l) : ∃ a cap, v = .slice a l.length cap := by
  rcases h with ⟨a, cap, rfl, rfl⟩ | ⟨b, off, cap, rfl, _⟩
  · exact ⟨a, cap, rfl⟩
  · exact ⟨_, cap, rfl⟩
theorem HasS.below {w w' : World} {N M : Nat} {v : Value} {l : List ByteArray} (h : HasS w N v l) (hb : Below M w w') (hm : N ≤ M) : HasS w' N v l := by
  rcases h with ⟨a, cap, rfl, rfl⟩ | ⟨b, off, cap, rfl, h2, h3, h4⟩
  · exact .inl ⟨a, cap, rfl, rfl⟩
  · refine .inr ⟨b, off, cap, rfl, h2, h3, fun i hi => ?_⟩
    rw [hb.cell (p := ⟨b, off + i, none⟩) (Nat.lt_of_lt_of_le h3 hm)]; exact h4 i hi
theorem HasS.wide {w : World} {N M : Nat} {v : Value} {l : List ByteArray} (h : HasS w N v l) (hm : N ≤ M) : HasS w M v l := by
  rcases h with ⟨a, cap, rfl, rfl⟩ | ⟨b, off, cap, rfl, h2, h3, h4⟩
  · exact .inl ⟨a, cap, rfl, rfl⟩
  · exact .inr ⟨b, off, cap, rfl, h2, Nat.lt_of_lt_of_le h3 hm, h4⟩
theorem HasS.at {w : World} {N : Nat} {a : Option Addr} {n cap : Nat} {l : List ByteArray} (h : HasS w N (.slice a n cap) l) (k : Nat) (hk : k < n) : ∃ b off, a = some ⟨b, off, none⟩ ∧ w.cell? ⟨b, off + k, none⟩ = some (.string (l.getD k ByteArray.empty)) := by
  rcases h with ⟨a, c, e, rfl⟩ | ⟨b, off, c, e, _, _, h4⟩
  · simp only [Value.slice.injEq] at e; omega
  · simp only [Value.slice.injEq] at e
    exact ⟨b, off, e.1, h4 k (by omega)⟩
/-- the bytes that a string is turned into -/
theorem bytes_has (w : World) (s : ByteArray) (cap : Nat) (hc : s.size ≤ cap) (t : TypeId) : HasB (w.alloc (.cells (bytesRow s cap) t ((bytesRow s cap).size, (bytesRow s cap).size + 1))) (w.heap.size + 1) (.slice (some ⟨w.heap.size, 0, none⟩) s.size cap) (strB s) := by
  refine .inr ⟨w.heap.size, 0, cap, by rw [strB_len], by rw [strB_len]; exact hc, by omega, fun i hi => ?_⟩
  rw [strB_len] at hi
  rw [Nat.zero_add, World.cell?_alloc_mark, bytesRow_at s cap i hi, strB_at s i hi]
theorem putAll_snoc (l : List (List B)) (d : List B) : Cd.putAll (l ++ [d]) = Cd.putAll l ++ Cd.putB d := by
  induction l with
  | nil => simp [Cd.putAll]
  | cons x l ih => simp [Cd.putAll, ih]
theorem take_snoc (l : List ByteArray) (k : Nat) (h : k < l.length) : (l.take (k + 1)).map strB = (l.take k).map strB ++ [strB (l.getD k ByteArray.empty)] := by
  rw [List.take_succ_eq_append_getElem h, List.map_append]
  simp only [List.map_cons, List.map_nil, List.getD_eq_getElem?_getD, List.getElem?_eq_getElem h, Option.getD_some]
theorem putAll_mono (l : List ByteArray) (k : Nat) : (Cd.putAll ((l.take k).map strB)).length ≤ (Cd.putAll (l.map strB)).length := by
  have e : l.map strB = (l.take k).map strB ++ (l.drop k).map strB := by rw [← List.map_append, List.take_append_drop]
  have h2 : ∀ a b : List (List B), Cd.putAll (a ++ b) = Cd.putAll a ++ Cd.putAll b := by
    intro a b
    induction a with
    | nil => rfl
    | cons x a ih => simp [Cd.putAll, ih]
  rw [e, h2, List.length_append]
  omega
def LRel (L : List B) (l : List ByteArray) (w : World) (out i : Value) (wr : World) : Prop := ∃ k : Nat, k ≤ l.length ∧ i = .int .i64 (k : Int) ∧ OwnB w.heap.size wr out (L ++ Cd.putI l.length ++ Cd.putAll ((l.take k).map strB)) ∧ Below w.heap.size w wr
set_option maxHeartbeats 1000000 in
theorem rputlist_any (L : List B) (l : List ByteArray) (bv0 lv : Value) (w : World) (hl : l.length ≤ 1000000) (hL : L.length + (Cd.putL (l.map strB)).length ≤ 50000000) (hb : HasB w w.heap.size bv0 L) (hs : HasS w w.heap.size lv l) :
    Calls Try.prog 10 #[bv0, lv] w fun e w' => ∃ v, e = .returned v ∧ OwnB w.heap.size w' v (L ++ Cd.putL (l.map strB)) ∧ Below w.heap.size w w' := by
  have htot : L.length + (Cd.putI l.length).length + (Cd.putAll (l.map strB)).length ≤ 50000000 := by
    unfold Cd.putL at hL
    rw [List.length_append, List.length_map] at hL
    omega
  have C1 := Lib.hid (rputint_to l.length L bv0 w (by omega) (by omega) hb)
  obtain ⟨a, cap, rfl⟩ := hs.form
  have H := Lib.hid hs
  have HT := Lib.hid htot
  have hmono := Lib.hid fun k => putAll_mono l k
  have hsnoc := Lib.hid fun k hk => take_snoc l k hk
  have hconv := fun w s => run_bytes_of_string (P := Try.prog) w 9 22 5 s Try.underlying9 Try.underlying22 Try.underlying5
  obtain ⟨m, hm⟩ : ∃ m, m = l.length := ⟨_, rfl⟩
  rw [← hm] at C1 H HT hl ⊢
  have HM := Lib.hid hm
  obtain ⟨I, hI⟩ : ∃ I, I = L ++ Cd.putI (m : Int) := ⟨_, rfl⟩
  have HI := Lib.hid hI
  rw [← hI] at C1
  clear hs hb hm hI htot hL
  go_enter Try.func10, Try.ntmps10
  go_wp2_with fail
  refine (C1.out).mono ?_; rintro e w1 ⟨v1, rfl, o1, b1⟩
  have O1 := Lib.hid o1; have B1 := Lib.hid b1
  clear o1 b1
  go_wp2
  go_loopw [5, 14] (LRel L l w) (fun _ i _ => m - (intOf i).toNat)
  case atStart => exact ⟨0, by omega, rfl, by rw [← HM.out, ← HI.out]; simpa [Cd.putAll] using O1.out, B1.out⟩
  case round =>
    obtain ⟨k, hk, rfl, ho, hb⟩ := hrel
    rw [← HM.out, ← HI.out] at ho
    have hkm : k ≤ m := by have := HM.out; omega
    have HO := Lib.hid ho; have HBL := Lib.hid hb
    clear ho hb hk
    by_cases hlt : k < m
    · obtain ⟨b', off', rfl, hcell⟩ := (H.out.below HBL.out (Nat.le_refl _)).at k hlt
      have hsn := hsnoc.out k (by have := HM.out; omega)
      have hm1 := hmono.out (k + 1)
      generalize l.getD k ByteArray.empty = s at hcell hsn
      rw [hsn, putAll_snoc, List.length_append, Cd.putB_len] at hm1
      have hIl : I.length = L.length + (Cd.putI (m : Int)).length := by rw [HI.out, List.length_append]
      have htt := HT.out
      have HSN := Lib.hid hsn
      have hsize : (strB s).length ≤ 50000000 := by omega
      have hout : (I ++ Cd.putAll ((l.take k).map strB)).length ≤ 50000000 := by rw [List.length_append]; omega
      have hcapz := grownCap_ge wr s.size 0 5
      clear hsn hm1 htt hIl
      have bq : Below wr.heap.size wr (wr.alloc (.cells (bytesRow s (grownCap wr s.size 0 5)) 5 ((bytesRow s (grownCap wr s.size 0 5)).size, (bytesRow s (grownCap wr s.size 0 5)).size + 1))).drew := ((Below.refl _ _).alloc (Nat.le_refl _) _).drew
      have hsb := bytes_has wr s (grownCap wr s.size 0 5) hcapz 5
      have zq : (wr.alloc (.cells (bytesRow s (grownCap wr s.size 0 5)) 5 ((bytesRow s (grownCap wr s.size 0 5)).size, (bytesRow s (grownCap wr s.size 0 5)).size + 1))).drew.heap.size = wr.heap.size + 1 := by simp
      have CP := Lib.hid (rputbytes_any (I ++ Cd.putAll ((l.take k).map strB)) (strB s) u5 _ _ (by omega) (by omega) ((HO.out.has.below bq (Nat.le_refl _)).wide (by rw [zq]; omega)) (show HasB (wr.alloc (.cells (bytesRow s (grownCap wr s.size 0 5)) 5 ((bytesRow s (grownCap wr s.size 0 5)).size, (bytesRow s (grownCap wr s.size 0 5)).size + 1))).drew _ _ _ by rw [zq]; exact hsb))
      have BQ := Lib.hid (HBL.out.trans (bq.mono HBL.out.size))
      clear bq hsb zq hcapz hsize hout
      go_wp2_with fail
      refine (CP.out).mono ?_; rintro e w2 ⟨v2, rfl, o2, b2⟩
      have O2 := Lib.hid (o2.mono BQ.out.size); have B2 := Lib.hid (BQ.out.trans (b2.mono BQ.out.size))
      clear o2 b2
      go_wp2_with fail
      go_roundw
      case rel => exact ⟨k + 1, by have := HM.out; omega, by go_num, by rw [← HM.out, ← HI.out, HSN.out, putAll_snoc, ← List.append_assoc]; exact O2.out, B2.out⟩
      case measure => simp [intOf]; omega
    · obtain rfl : k = m := by omega
      go_wp2_with fail
      go_ret
      exact ⟨_, rfl, by have := HO.out; rw [List.take_of_length_le (by have := HM.out; omega), HI.out, HM.out] at this; unfold Cd.putL; rw [List.length_map, ← List.append_assoc]; exact this, HBL.out⟩
end Go.Proofs.Ytkckimhkbnigkaa
