/-
  What Numbers of chapter 4, and Step and Secret of chapter 6 return: the digest of a word and numbers; the steps of a chain; where a chain begins. Nothing that was there has changed. Conditions: at most 1000 numbers; a step's position from 0 to 1000, at most 1000 steps.
-/
import Derived.Test.YthkkjocmglcjnaaInts
import Derived.Test.YthkkjocmglcjnaaList
import Derived.Test.YthkkjocmglcjnaaOt
import Derived.Deep.LoopGhost
namespace Go.Proofs.Ythkkjocmglcjnaa
open Go.ChangeShapes Go.WideShapes Go.ChangeAt Go.RowKit
open Dg (W B)

def ofI (x : Int) : W := BitVec.ofInt 64 x
theorem ofI_nat (n : Nat) : ofI (n : Int) = BitVec.ofNat 64 n := by unfold ofI; rw [BitVec.ofInt_natCast]
def nums (d : W) (l : List Int) : List W := d :: l.map ofI
theorem nums_len (d : W) (l : List Int) : (nums d l).length = l.length + 1 := by simp [nums]
theorem nums_snoc (d : W) (l : List Int) (k : Nat) (hk : k < l.length) : nums d (l.take (k + 1)) = nums d (l.take k) ++ [ofI (l.getD k 0)] := by
  show d :: (l.take (k + 1)).map ofI = (d :: (l.take k).map ofI) ++ [ofI (l.getD k 0)]
  rw [List.take_succ_eq_append_getElem hk, List.map_append, List.cons_append]
  simp [List.getD, hk]
def NumRel (d : W) (l : List Int) (w : World) (v i : Value) (wr : World) : Prop := ∃ k : Nat, k ≤ l.length ∧ i = .int .i64 (k : Int) ∧ OwnW w.heap.size wr v (nums d (l.take k)) ∧ Below w.heap.size w wr
set_option maxHeartbeats 1000000 in
theorem numbers_any (d : W) (l : List Int) (v : Value) (w : World) (hl : l.length ≤ 1000) (h : HasI w w.heap.size v l) :
    Calls Try.prog 31 #[.int .u64 (uv d), v] w fun e w' => e = .returned (.int .u64 (uv (Dg.listW (nums d l)))) ∧ Below w.heap.size w w' := by
  obtain ⟨a, cap, rfl⟩ := h.form
  have H := Lib.hid h; clear h
  obtain ⟨n, hn⟩ : ∃ n, l.length = n := ⟨_, rfl⟩
  rw [hn] at hl H ⊢
  have HN := Lib.hid hn; clear hn
  obtain ⟨w0, hw0⟩ : ∃ w0, w0 = w.alloc (.cells #[.int .u64 (uv d)] 23) := ⟨_, rfl⟩
  have o0 : OwnW w.heap.size w0 (.slice (some ⟨w.heap.size, 0, none⟩) 1 1) (nums d (l.take 0)) := by rw [hw0]; exact built_own w w.heap.size [d] _ rfl (Nat.le_refl _) (by simp)
  have b0 : Below w.heap.size w w0 := by rw [hw0]; exact (Below.refl _ _).alloc (Nat.le_refl _) _
  have O0 := Lib.hid o0; have B0 := Lib.hid b0; have W0 := Lib.hid hw0
  clear o0 b0 hw0
  go_enter Try.func31, Try.ntmps31
  go_wp2_with fail
  rw [← W0.out]
  go_loopw [5, 12] (NumRel d l w) (fun _ i _ => n - (intOf i).toNat)
  case atStart => exact ⟨0, by omega, rfl, O0.out, B0.out⟩
  case round =>
    obtain ⟨k, hk, rfl, ho, hb⟩ := hrel
    rw [HN.out] at hk
    have HO := Lib.hid ho; have HB := Lib.hid hb
    by_cases hlt : k < n
    · obtain ⟨b, off, rfl, hcell⟩ := (H.out.below hb (Nat.le_refl _)).at k hlt
      have hsn := nums_snoc d l k (by rw [HN.out]; exact hlt)
      have hnl := nums_len d (l.take k)
      have hz := wrap_word (l.getD k 0)
      generalize l.getD k 0 = z at hcell hsn hz
      have HSN := Lib.hid hsn
      have HNL := Lib.hid hnl
      clear ho hb hsn hnl
      go_wp2_with (at_builtin; refine wpList_append_word rfl (.tmp 16) (.tmp 19) rfl w.heap.size _ (nums d (l.take k)) (ofI z) _ 1 rfl (HO.out.alloc _) rfl (alloc_word _ _ _) (by rw [HNL.out, List.length_take]; have := HN.out; omega) ?c1 ?_)
      case c1 => have := HB.out.size; simp; omega
      intro g3 cap3 w3 own3 grow3
      have BEL := Lib.hid (below_grown (HB.out.alloc HB.out.size _) (by have := HB.out.size; simp; omega) (HO.out.alloc _) grow3)
      have OWN := Lib.hid own3
      clear own3 grow3
      go_wp2_with fail
      go_roundw
      case rel => exact ⟨k + 1, by have := HN.out; omega, by go_num, by rw [HSN.out]; exact OWN.out, BEL.out⟩
      case measure => simp [intOf]; omega
    · obtain rfl : k = n := by omega
      have he : l.take k = l := List.take_of_length_le (by have := HN.out; omega)
      rw [he] at ho
      have RL := Lib.hid (rlist_any (nums d l) _ _ wr (by rw [nums_len]; have := HN.out; omega) ho.has)
      clear ho hb he
      go_wp2_with fail
      refine (RL.out).mono ?_; rintro e w' ⟨rfl, rfl⟩
      go_wp2_with fail
      go_ret
      exact ⟨rfl, HB.out⟩
/-- a word and two numbers -/
theorem numbers_two (d : W) (x y : Int) (w : World) :
    Calls Try.prog 31 #[.int .u64 (uv d), .slice (some ⟨w.heap.size, 0, none⟩) 2 2] (w.alloc (.cells #[.int .i64 x, .int .i64 y] 3)) fun e w' => e = .returned (.int .u64 (uv (Dg.listW [d, ofI x, ofI y]))) ∧ Below w.heap.size w w' := by
  have h := built_ints w [x, y] 3 #[.int .i64 x, .int .i64 y] rfl
  refine (numbers_any d [x, y] _ _ (by simp) (by simpa using h)).mono ?_
  rintro e w' ⟨rfl, hb⟩
  exact ⟨rfl, ((Below.refl w.heap.size w).alloc (Nat.le_refl _) _).trans (hb.mono (by simp))⟩
theorem rsecret_any (s : W) (c : Int) (w : World) :
    Calls Try.prog 39 #[.int .u64 (uv s), .int .i64 c] w fun e w' => e = .returned (.int .u64 (uv (Ot.secret s (ofI c)))) ∧ Below w.heap.size w w' := by
  have h7 : ofI 7 = 7#64 := by decide
  have C := Lib.hid (numbers_two s 7 c w)
  have H7 := Lib.hid h7; clear h7
  go_enter Try.func39, Try.ntmps39
  go_wp2_with fail
  refine (C.out).mono ?_; rintro e w' ⟨rfl, hb⟩
  have HB := Lib.hid hb; clear hb
  go_wp2_with fail
  go_ret
  exact ⟨by rw [Ot.secret, ← H7.out]; rfl, HB.out⟩
def StepRel (x c : W) (f n : Nat) (w : World) (v p : Value) (wr : World) : Prop := ∃ k : Nat, k ≤ n ∧ v = .int .u64 (uv (Ot.steps x c f k)) ∧ p = .int .i64 ((f + k : Nat) : Int) ∧ Below w.heap.size w wr
theorem step_next (x c : W) (f k : Nat) : Dg.listW [Ot.steps x c f k, c, ofI ((f + k : Nat) : Int)] = Ot.steps x c f (k + 1) := by
  rw [ofI_nat]; rfl
set_option maxHeartbeats 1000000 in
theorem rstep_any (x : W) (c : Int) (f : Nat) (t : Int) (n : Nat) (w : World) (hf : f ≤ 1000) (ht : -1000 ≤ t) (ht2 : t ≤ 1000) (hn : n = t.toNat) :
    Calls Try.prog 38 #[.int .u64 (uv x), .int .i64 c, .int .i64 (f : Int), .int .i64 t] w fun e w' => e = .returned (.int .u64 (uv (Ot.steps x (ofI c) f n))) ∧ Below w.heap.size w w' := by
  have HN := Lib.hid hn; clear hn
  go_enter Try.func38, Try.ntmps38
  go_wp2
  go_loopw [0, 9] (StepRel x (ofI c) f n w) (fun _ i _ => f + n - (intOf i).toNat)
  case atStart => exact ⟨0, by omega, rfl, rfl, Below.refl _ _⟩
  case round =>
    obtain ⟨k, hk, rfl, rfl, hb⟩ := hrel
    have HB := Lib.hid hb; clear hb
    have hn := HN.out
    obtain ⟨p, hp⟩ : ∃ p, f + k = p := ⟨_, rfl⟩
    rw [hp]
    by_cases hlt : k < n
    · have C := Lib.hid (numbers_two (Ot.steps x (ofI c) f k) c (p : Int) wr)
      have SN := Lib.hid (step_next x (ofI c) f k)
      have t1 : (p : Int) < (f : Int) + t := by omega
      have p2 : p ≤ 2000 := by omega
      have HP := Lib.hid hp
      clear hn hp
      go_wp2_with fail
      refine (C.out).mono ?_; rintro e w' ⟨rfl, hb⟩
      have HB2 := Lib.hid (HB.out.trans (hb.mono HB.out.size)); clear hb
      go_wp2_with fail
      go_roundw
      case rel => exact ⟨k + 1, by omega, by rw [← SN.out, HP.out], by rw [show f + (k + 1) = p + 1 by have := HP.out; omega]; go_num, HB2.out⟩
      case measure => simp [intOf]; have := HP.out; omega
    · obtain rfl : k = n := by omega
      have t1 : ¬ (p : Int) < (f : Int) + t := by omega
      have p2 : p ≤ 2000 := by omega
      clear hn hp
      go_wp2_with fail
      go_ret
      exact ⟨rfl, HB.out⟩
end Go.Proofs.Ythkkjocmglcjnaa
