/-
  The texts of messages, by package message. Nothing that was there has changed. Condition: the tables hold what their initialisers lay.
-/
import Derived.Test.YtgkckomccabmlaaGreatDoorLmE
import Derived.Test.YtgkckomccabmlaaGreatDoorLmF
import Derived.Test.YtgkckomccabmlaaGreatDoorLmB
import Derived.Lib.Join
namespace Go.Proofs.YtgkckomccabmlaaGreatDoor
open Go.ChangeShapes Go.WideShapes Go.ChangeAt Go.RowKit
open Dg (W B)
open Ms (Msg)
set_option linter.unusedVariables false
def jstr (xs : List ByteArray) : ByteArray := ⟨(Lib.join (xs.map (·.data.toList)) ([44] : List UInt8)).toArray⟩
theorem ba_ext {a b : ByteArray} (h : a.data.toList = b.data.toList) : a = b := by
  cases a; cases b
  exact congrArg ByteArray.mk (Array.toList_inj.1 h)
theorem ba_j2 (a b : ByteArray) : (jstr [a, b]).data.toList = a.data.toList ++ ([44] ++ b.data.toList) := by simp [jstr, Lib.join, List.intercalate]
theorem ba_j3 (a b c : ByteArray) : (jstr [a, b, c]).data.toList = a.data.toList ++ ([44] ++ b.data.toList ++ ([44] ++ c.data.toList)) := by simp [jstr, Lib.join, List.intercalate]
theorem ba_j4 (a b c d : ByteArray) : (jstr [a, b, c, d]).data.toList = a.data.toList ++ ([44] ++ b.data.toList ++ ([44] ++ c.data.toList ++ ([44] ++ d.data.toList))) := by simp [jstr, Lib.join, List.intercalate]
def parts (fr fb : Bool) (E I R T : ByteArray) : List ByteArray := [E, I] ++ (if fr = true then [R] else []) ++ (if fb = true then [T] else [])
theorem text_parts (kn : Nat) (epoch inst round bit : Int) :
    Ms.text kn epoch inst round bit = Ms.name kn ++ { data := #[40] } ++ jstr (parts (Ms.fRound kn) (Ms.fBit kn) (istr epoch) (istr inst) (istr round) (istr bit)) ++ { data := #[41] } := by
  unfold Ms.text Ms.text0 Ms.more parts
  refine ba_ext ?_
  cases Ms.fRound kn <;> cases Ms.fBit kn
  · simp [ba_j2, cond]
  · simp [ba_j3, cond]
  · simp [ba_j3, cond]
  · simp [ba_j4, cond]
theorem built_ownS (w : World) (base : Nat) (l : List ByteArray) (cs : Array Value) (hc : cs = (l.map sval).toArray) (hb : base ≤ w.heap.size) (hl : l.length ≤ 1000000) :
    OwnS base (w.alloc (.cells cs 9)) (.slice (some ⟨w.heap.size, 0, none⟩) l.length l.length) l := by
  subst hc
  refine ⟨by simp, .inr ⟨w.heap.size, l.length, (l.map sval).toArray, rfl, hb, heap_alloc_new w _, Nat.le_refl _, by unfold maxLen; omega, by simp, by simp [List.take_of_length_le]⟩⟩
theorem below_grownS {base : Nat} {w0 w w3 : World} {v : Value} {l : List ByteArray} (hb : Below base w0 w) (hs : base ≤ w.heap.size) (own1 : OwnS base w v l) (grow : w.grownBy w3 v.ownBlock) : Below base w0 w3 :=
  hb.grown grow hs (fun k hk => (World.ownsRow.lt own1 k hk).1)
theorem Tab.under {N : Nat} {w w' : World} (h : Tab w) (hb : Below N w w') (hn : 1 < N ∧ 0 < N) : Tab w' := ⟨h.pow.of_block (hb.block _ hn.1), h.kinds.below hb hn.2⟩
theorem parts_len (fr fb : Bool) (E I R T : ByteArray) : 2 ≤ (parts fr fb E I R T).length ∧ (parts fr fb E I R T).length ≤ 4 := by cases fr <;> cases fb <;> simp [parts]
theorem parts_size (fr fb : Bool) (E I R T : ByteArray) (h1 : E.size ≤ 30) (h2 : I.size ≤ 30) (h3 : R.size ≤ 30) (h4 : T.size ≤ 30) : (Lib.join ((parts fr fb E I R T).map (·.data.toList)) ([44] : List UInt8)).length ≤ 200 := by
  have e1 : E.data.size ≤ 30 := h1
  have e2 : I.data.size ≤ 30 := h2
  have e3 : R.data.size ≤ 30 := h3
  have e4 : T.data.size ≤ 30 := h4
  cases fr <;> cases fb <;> simp [parts, Lib.join, List.intercalate] <;> omega
theorem jstr_size (l : List ByteArray) : (jstr l).size = (Lib.join (l.map (·.data.toList)) ([44] : List UInt8)).length := by
  show (jstr l).data.size = _
  simp [jstr]
theorem join_any (l : List ByteArray) (v : Value) (w : World) (h : HasS w w.heap.size v l) (hpos : 0 < l.length) (hl : l.length ≤ 4) (hs : (Lib.join (l.map (·.data.toList)) ([44] : List UInt8)).length ≤ 200) :
    Calls Tryz.prog 35 #[v, .string { data := #[44] }] w fun e w' => e = .returned (.string (jstr l)) ∧ Below w.heap.size w w' := by
  rcases h with ⟨a, cap, rfl, rfl⟩ | ⟨b, off, cap, rfl, h2, h3, h4⟩
  · simp at hpos
  · exact Tryz.strings_Join b off cap l { data := #[44] } w (fun j x hx => by
      obtain ⟨hj, e⟩ := List.getElem?_eq_some_iff.1 hx
      rw [h4 j hj, ← e]
      simp [hj]) h3 (by omega) h2 (by have := hs; simpa using Nat.le_trans this (by omega))
end Go.Proofs.YtgkckomccabmlaaGreatDoor
