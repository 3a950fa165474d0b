/-
  What the law's own comparison of lists of strings returns. Nothing has changed. No condition.
-/
import Derived.Test.YtkckimhkbnigkaaStrs
import Derived.Lib.SlicesS
namespace Go.Proofs.Ytkckimhkbnigkaa
open Go.ChangeShapes Go.WideShapes Go.ChangeAt Go.RowKit
open Dg (W B)
def StrsRel (l1 l2 : List ByteArray) (w : World) (i : Value) (wr : World) : Prop := ∃ k : Nat, k ≤ l1.length ∧ i = .int .i64 (k : Int) ∧ (∀ j, j < k → l1.getD j ByteArray.empty = l2.getD j ByteArray.empty) ∧ w = wr
set_option maxHeartbeats 1000000 in
theorem same_strs (l1 l2 : List ByteArray) (v1 v2 : Value) (w : World) (hl : l1.length ≤ 1000000000) (h1 : HasS w w.heap.size v1 l1) (h2 : HasS w w.heap.size v2 l2) :
    Calls Try.prog 26 #[v1, v2] w fun e w' => e = .returned (.bool (decide (l1 = l2))) ∧ w = w' := by
  obtain ⟨a1, c1, rfl⟩ := h1.form
  obtain ⟨a2, c2, rfl⟩ := h2.form
  obtain ⟨m1, hm1⟩ : ∃ m, m = l1.length := ⟨_, rfl⟩
  obtain ⟨m2, hm2⟩ : ∃ m, m = l2.length := ⟨_, rfl⟩
  rw [← hm1] at h1 hl ⊢
  rw [← hm2] at h2 ⊢
  have HM1 := Lib.hid hm1; have HM2 := Lib.hid hm2
  have H1 := Lib.hid h1; have H2 := Lib.hid h2
  clear hm1 hm2 h1 h2
  by_cases hne : m1 = m2
  · subst hne
    go_enter Try.func26, Try.ntmps26
    go_wp2_with fail
    go_loopw [14] (StrsRel l1 l2 w) (fun i _ => m1 - (intOf i).toNat)
    case atStart => exact ⟨0, by omega, rfl, fun j hj => by omega, rfl⟩
    case round =>
      obtain ⟨k, hk, rfl, heq, rfl⟩ := hrel
      have hkm : k ≤ m1 := by have := HM1.out; omega
      have HEQ := Lib.hid heq; clear heq hk
      by_cases hlt : k < m1
      · obtain ⟨b1, o1, rfl, g1⟩ := H1.out.at k hlt
        obtain ⟨b2, o2, rfl, g2⟩ := H2.out.at k hlt
        obtain ⟨s, hs⟩ : ∃ s, s = l1.getD k ByteArray.empty := ⟨_, rfl⟩
        obtain ⟨t, ht⟩ : ∃ t, t = l2.getD k ByteArray.empty := ⟨_, rfl⟩
        rw [← hs] at g1
        rw [← ht] at g2
        have HS := Lib.hid hs; have HT := Lib.hid ht
        clear hs ht
        by_cases he : t = s
        · subst he
          go_wp2_with fail
          go_roundw
          case rel => exact ⟨k + 1, by have := HM1.out; omega, by go_num, fun j hj => by
            rcases Nat.lt_or_ge j k with h | h
            · exact HEQ.out j h
            · obtain rfl : j = k := by omega
              rw [← HS.out, ← HT.out], rfl⟩
          case measure => simp [intOf]; omega
        · have q : (t.toList == s.toList) = false := (Lib.bytes_beq_false_iff t s).2 he
          have hres : Hid (decide (l1 = l2) = false) := Lib.hid (decide_eq_false fun h => he (by rw [HS.out, HT.out, h]))
          go_wp2_with fail
          go_ret
          exact ⟨by rw [hres.out]; rfl, rfl⟩
      · obtain rfl : k = m1 := by omega
        have hres : Hid (decide (l1 = l2) = true) := Lib.hid (decide_eq_true (by
          apply List.ext_getElem (by rw [← HM1.out, ← HM2.out])
          intro j h1 h2
          have := HEQ.out j (by have := HM1.out; omega)
          simpa [List.getD, h1, h2] using this))
        go_wp2_with fail
        go_ret
        exact ⟨by rw [hres.out]; rfl, rfl⟩
  · have t1 : ((m1 : Int) != (m2 : Int)) = true := by rw [bne_iff_ne]; omega
    have hres : Hid (decide (l1 = l2) = false) := Lib.hid (decide_eq_false fun h => hne (by rw [HM1.out, HM2.out, h]))
    go_enter Try.func26, Try.ntmps26
    go_wp2_with fail
    go_ret
    exact ⟨by rw [hres.out]; rfl, rfl⟩
end Go.Proofs.Ytkckimhkbnigkaa
