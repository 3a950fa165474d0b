/-
  The texts of messages of one-digit fields of the kinds 7, 8 and 9; different ones have different texts. No condition.
-/
import Derived.Test.YtgkckomccabmlaaGreatDoorLmH
import Derived.Test.YtgkckomccabmlaaGreatDoorKMsgS
namespace Go.Proofs.YtgkckomccabmlaaGreatDoor
open Go.ChangeShapes Go.WideShapes Go.ChangeAt Go.RowKit
open Ms (Msg)
def smsg (k e i r b : Nat) : Msg := ⟨(k : Int), (e : Int), (i : Int), (r : Int), (b : Int), 0#64, 0, [], []⟩
def dg (n : Nat) : UInt8 := UInt8.ofNat (48 + n)
theorem dg_inj {a b : Nat} (ha : a < 10) (hb : b < 10) (h : dg a = dg b) : a = b := by
  unfold dg at h
  have := congrArg UInt8.toNat h
  rw [UInt8.toNat_ofNat', UInt8.toNat_ofNat'] at this
  omega
/-- the text as a list of bytes -/
def stext (k e i r b : Nat) : List UInt8 := Ms.nameL.getD k [] ++ [40, dg e, 44, dg i, 44, dg r, 44, dg b, 41]
theorem smsg_of (k e i r b : Nat) (hk : k = 7 ∨ k = 8 ∨ k = 9) (he : e < 10) (hi : i < 10) (hr : r < 10) (hb : b < 10) : Ms.of (smsg k e i r b) = ⟨(stext k e i r b).toArray⟩ := by
  unfold Ms.of smsg
  dsimp only
  rw [if_neg (by omega), Int.toNat_natCast]
  have hf : Ms.fRound (k : Int) = true ∧ Ms.fBit (k : Int) = true := by rcases hk with rfl | rfl | rfl <;> exact ⟨rfl, rfl⟩
  unfold Ms.text Ms.text0 Ms.more
  rw [hf.1, hf.2, istr_one e he, istr_one i hi, istr_one r hr, istr_one b hb]
  unfold Ms.name stext dg
  ext1
  simp [ByteArray.data_append]
theorem smsg_inj {k e i r b k' e' i' r' b' : Nat} (hk : k = 7 ∨ k = 8 ∨ k = 9) (he : e < 10) (hi : i < 10) (hr : r < 10) (hb : b < 10) (hk' : k' = 7 ∨ k' = 8 ∨ k' = 9) (he' : e' < 10) (hi' : i' < 10) (hr' : r' < 10) (hb' : b' < 10)
    (h : Ms.of (smsg k e i r b) = Ms.of (smsg k' e' i' r' b')) : smsg k e i r b = smsg k' e' i' r' b' := by
  rw [smsg_of k e i r b hk he hi hr hb, smsg_of k' e' i' r' b' hk' he' hi' hr' hb'] at h
  have h2 : stext k e i r b = stext k' e' i' r' b' := by
    have := congrArg (fun x : ByteArray => x.data.toList) h
    simpa using this
  rcases hk with rfl | rfl | rfl <;> rcases hk' with rfl | rfl | rfl <;> simp [stext, Ms.nameL] at h2
  all_goals
    obtain ⟨h3, h4, h5, h6⟩ := h2
    rw [dg_inj he he' h3, dg_inj hi hi' h4, dg_inj hr hr' h5, dg_inj hb hb' h6]
theorem smsg_wf (k e i r b : Nat) (hk : k < 10) (he : e < 10) (hi : i < 10) (hr : r < 10) (hb : b < 10) : (smsg k e i r b).Wf := by constructor <;> (unfold Cd.InR smsg; simp; try omega)
end Go.Proofs.YtgkckomccabmlaaGreatDoor
