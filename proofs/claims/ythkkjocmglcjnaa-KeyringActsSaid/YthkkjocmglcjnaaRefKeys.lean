/-
  What Public, Sign and Recover of the chapter of one-time signatures return: the public key, the signature in memory of its own, what a list of words leads to or the error. Nothing that was there has changed. Condition: the list is shorter than 2^62.
-/
import Derived.Test.YthkkjocmglcjnaaRefDigits
namespace Go.Proofs.Ythkkjocmglcjnaa
open Go.ChangeShapes Go.WideShapes Go.ChangeAt Go.RowKit
open Dg (W B)

theorem ofI_num (c : Nat) : ofI (c : Int) = Ot.num c := ofI_nat c
def endTo (s : W) (k : Nat) : List W := (List.range k).map fun c => Ot.steps (Ot.secret s (Ot.num c)) (Ot.num c) 0 15
theorem endTo_len (s : W) (k : Nat) : (endTo s k).length = k := by simp [endTo]
theorem endTo_succ (s : W) (k : Nat) : endTo s (k + 1) = endTo s k ++ [Ot.steps (Ot.secret s (Ot.num k)) (Ot.num k) 0 15] := by simp [endTo, List.range_succ]
def signTo (s d : W) (k : Nat) : List W := (List.range k).map fun c => Ot.steps (Ot.secret s (Ot.num c)) (Ot.num c) 0 (Ot.digit d c)
theorem signTo_len (s d : W) (k : Nat) : (signTo s d k).length = k := by simp [signTo]
theorem signTo_succ (s d : W) (k : Nat) : signTo s d (k + 1) = signTo s d k ++ [Ot.steps (Ot.secret s (Ot.num k)) (Ot.num k) 0 (Ot.digit d k)] := by simp [signTo, List.range_succ]
def leadTo (d : W) (l : List W) (k : Nat) : List W := (List.range k).map fun c => Ot.steps (l.getD c 0) (Ot.num c) (Ot.digit d c) (15 - Ot.digit d c)
theorem leadTo_len (d : W) (l : List W) (k : Nat) : (leadTo d l k).length = k := by simp [leadTo]
theorem leadTo_succ (d : W) (l : List W) (k : Nat) : leadTo d l (k + 1) = leadTo d l k ++ [Ot.steps (l.getD k 0) (Ot.num k) (Ot.digit d k) (15 - Ot.digit d k)] := by simp [leadTo, List.range_succ]
theorem rstep_to (x : W) (c : Nat) (f t : Int) (g n : Nat) (hf : f = (g : Int)) (hg : g ≤ 15) (ht : t = (n : Int)) (hn : n ≤ 15) (w : World) :
    Calls Try.prog 38 #[.int .u64 (uv x), .int .i64 (c : Int), .int .i64 f, .int .i64 t] w fun e w' => e = .returned (.int .u64 (uv (Ot.steps x (Ot.num c) g n))) ∧ Below w.heap.size w w' := by
  subst hf; subst ht
  rw [← ofI_num]
  exact rstep_any x c g n n w (by omega) (by omega) (by omega) (by omega)
theorem rsecret_to (s : W) (c : Nat) (w : World) :
    Calls Try.prog 39 #[.int .u64 (uv s), .int .i64 (c : Int)] w fun e w' => e = .returned (.int .u64 (uv (Ot.secret s (Ot.num c)))) ∧ Below w.heap.size w w' := by
  rw [← ofI_num]; exact rsecret_any s c w
def KeyRel (f : Nat → List W) (w : World) (v i : Value) (wr : World) : Prop := ∃ k : Nat, k ≤ 18 ∧ i = .int .i64 (k : Int) ∧ OwnW w.heap.size wr v (f k) ∧ Below w.heap.size w wr
set_option maxHeartbeats 1000000 in
theorem rpublic_any (s : W) (w : World) :
    Calls Try.prog 19 #[.int .u64 (uv s)] w fun e w' => e = .returned (.int .u64 (uv (Ot.publicW s))) ∧ Below w.heap.size w w' := by
  go_enter Try.func19, Try.ntmps19
  go_wp2
  go_loopw [3, 5] (KeyRel (endTo s) w) (fun _ i _ => 18 - (intOf i).toNat)
  case atStart => exact ⟨0, by omega, rfl, World.ownsRow_nil _ _ _ _, Below.refl _ _⟩
  case round =>
    obtain ⟨k, hk, rfl, ho, hb⟩ := hrel
    have HO := Lib.hid ho; have HB := Lib.hid hb
    by_cases hlt : k < 18
    · clear ho hb
      go_wp2_with fail
      refine (rsecret_to s k _).mono ?_; rintro e w1 ⟨rfl, hb1⟩
      have O1 := Lib.hid (HO.out.below hb1); have B1 := Lib.hid (HB.out.trans (hb1.mono HB.out.size)); clear hb1
      go_wp2_with fail
      refine (rstep_to (Ot.secret s (Ot.num k)) k 0 15 0 15 rfl (by omega) rfl (by omega) _).mono ?_; rintro e w2 ⟨rfl, hb2⟩
      have O2 := Lib.hid (O1.out.below hb2); have B2 := Lib.hid (B1.out.trans (hb2.mono B1.out.size)); clear hb2
      go_wp2_with (at_builtin; refine wpList_append_word rfl (.tmp 8) (.tmp 14) rfl w.heap.size _ (endTo s k) (Ot.steps (Ot.secret s (Ot.num k)) (Ot.num k) 0 15) w2.heap.size 1 rfl (O2.out.alloc _) rfl (alloc_word _ _ _) (by rw [endTo_len]; omega) ?c1 ?_)
      case c1 => have := B2.out.size; simp; omega
      intro g3 cap3 w3 own3 grow3
      have BEL := Lib.hid (below_grown (B2.out.alloc B2.out.size _) (by have := B2.out.size; simp; omega) (O2.out.alloc _) grow3)
      have OWN := Lib.hid own3
      clear own3 grow3
      go_wp2_with fail
      go_roundw
      case rel => exact ⟨k + 1, by omega, by go_num, by rw [endTo_succ]; exact OWN.out, BEL.out⟩
      case measure => simp [intOf]; omega
    · obtain rfl : k = 18 := by omega
      have RL := Lib.hid (rlist_any (endTo s 18) _ _ wr (by rw [endTo_len]; omega) ho.has)
      clear ho hb
      go_wp2_with fail
      refine (RL.out).mono ?_; rintro e w' ⟨rfl, rfl⟩
      go_wp2_with fail
      go_ret
      exact ⟨rfl, HB.out⟩
set_option maxHeartbeats 1000000 in
theorem rsign_any (s d : W) (w : World) :
    Calls Try.prog 24 #[.int .u64 (uv s), .int .u64 (uv d)] w fun e w' => ∃ v, e = .returned v ∧ OwnW w.heap.size w' v (Ot.sign s d) ∧ Below w.heap.size w w' := by
  go_enter Try.func24, Try.ntmps24
  go_wp2_with fail
  refine (rdigits_any d _).mono ?_; rintro e w0 ⟨v0, rfl, o0, b0⟩
  obtain ⟨a0, cap0, rfl⟩ := o0.has.form
  have hlen := digI_len d 18
  rw [hlen]
  have H0 := o0.has
  rw [hlen] at H0
  have HD := Lib.hid H0
  have B0 := Lib.hid b0
  clear o0 b0 hlen H0
  go_wp2
  go_loopw [5, 11] (KeyRel (signTo s d) w0) (fun _ i _ => 18 - (intOf i).toNat)
  case atStart => exact ⟨0, by omega, rfl, World.ownsRow_nil _ _ _ _, Below.refl _ _⟩
  case round =>
    obtain ⟨k, hk, rfl, ho, hb⟩ := hrel
    have HO := Lib.hid ho; have HB := Lib.hid hb
    by_cases hlt : k < 18
    · obtain ⟨b, off, rfl, hcell⟩ := (HD.out.below hb (Nat.le_refl _)).at k hlt
      rw [digI_at d 18 k hlt] at hcell
      have hd15 := Ot.digit_lt d k
      have hsn := signTo_succ s d k
      generalize Ot.digit d k = n at hcell hd15 hsn
      have HSN := Lib.hid hsn
      clear ho hb hsn
      go_wp2_with fail
      refine (rsecret_to s k _).mono ?_; rintro e w1 ⟨rfl, hb1⟩
      have O1 := Lib.hid (HO.out.below hb1); have B1 := Lib.hid (HB.out.trans (hb1.mono HB.out.size)); clear hb1
      go_wp2_with fail
      refine (rstep_to (Ot.secret s (Ot.num k)) k 0 n 0 n rfl (by omega) rfl (by omega) _).mono ?_; rintro e w2 ⟨rfl, hb2⟩
      have O2 := Lib.hid (O1.out.below hb2); have B2 := Lib.hid (B1.out.trans (hb2.mono B1.out.size)); clear hb2
      go_wp2_with (at_builtin; refine wpList_append_word rfl (.tmp 16) (.tmp 23) rfl w0.heap.size _ (signTo s d k) (Ot.steps (Ot.secret s (Ot.num k)) (Ot.num k) 0 n) w2.heap.size 1 rfl (O2.out.alloc _) rfl (alloc_word _ _ _) (by rw [signTo_len]; omega) ?c1 ?_)
      case c1 => have := B2.out.size; simp; omega
      intro g3 cap3 w3 own3 grow3
      have BEL := Lib.hid (below_grown (B2.out.alloc B2.out.size _) (by have := B2.out.size; simp; omega) (O2.out.alloc _) grow3)
      have OWN := Lib.hid own3
      clear own3 grow3
      go_wp2_with fail
      go_roundw
      case rel => exact ⟨k + 1, by omega, by go_num, by rw [HSN.out]; exact OWN.out, BEL.out⟩
      case measure => simp [intOf]; omega
    · obtain rfl : k = 18 := by omega
      clear ho hb
      go_wp2_with fail
      go_ret
      exact ⟨_, rfl, HO.out.mono B0.out.size, B0.out.trans (HB.out.mono B0.out.size)⟩
def RecoverPost (d : W) (l : List W) (w : World) (e : Ending) (w' : World) : Prop :=
  e = .returned (.tuple #[.int .u64 (if l.length = 18 then uv (Ot.recover d l) else 0), .int .i64 (if l.length = 18 then 0 else 4)]) ∧ Below w.heap.size w w'
set_option maxHeartbeats 1000000 in
theorem rrecover_any (d : W) (l : List W) (v : Value) (w : World) (h : HasW w w.heap.size v l) :
    Calls Try.prog 35 #[.int .u64 (uv d), v] w (RecoverPost d l w) := by
  obtain ⟨a, cap, rfl⟩ := h.form
  unfold RecoverPost
  by_cases hl : l.length = 18
  · simp only [if_pos hl]
    have H := Lib.hid h; clear h
    rw [hl] at H ⊢
    have HL := Lib.hid hl; clear hl
    go_enter Try.func35, Try.ntmps35
    go_wp2_with fail
    refine (rdigits_any d _).mono ?_; rintro e w0 ⟨v0, rfl, o0, b0⟩
    obtain ⟨a0, cap0, rfl⟩ := o0.has.form
    have hlen := digI_len d 18
    rw [hlen]
    have H0 := o0.has
    rw [hlen] at H0
    have HD := Lib.hid H0
    have B0 := Lib.hid b0
    clear o0 b0 hlen H0
    go_wp2
    go_loopw [6, 15] (KeyRel (leadTo d l) w0) (fun _ i _ => 18 - (intOf i).toNat)
    case atStart => exact ⟨0, by omega, rfl, World.ownsRow_nil _ _ _ _, Below.refl _ _⟩
    case round =>
      obtain ⟨k, hk, rfl, ho, hb⟩ := hrel
      have HO := Lib.hid ho; have HB := Lib.hid hb
      by_cases hlt : k < 18
      · obtain ⟨b, off, rfl, hcell⟩ := (HD.out.below hb (Nat.le_refl _)).at k hlt
        rw [digI_at d 18 k hlt] at hcell
        obtain ⟨b', off', rfl, hcell'⟩ := leaves_cell (H.out.below (B0.out.trans (hb.mono B0.out.size)) (Nat.le_refl _)) k hlt
        have hd15 := Ot.digit_lt d k
        have hsn := leadTo_succ d l k
        generalize Ot.digit d k = n at hcell hd15 hsn
        generalize l.getD k 0 = x at hcell' hsn
        have HSN := Lib.hid hsn
        clear ho hb hsn
        go_wp2_with fail
        refine (rstep_to x k n (15 - (n : Int)) n (15 - n) rfl (by omega) (by omega) (by omega) _).mono ?_; rintro e w2 ⟨rfl, hb2⟩
        have O2 := Lib.hid (HO.out.below hb2); have B2 := Lib.hid (HB.out.trans (hb2.mono HB.out.size)); clear hb2
        go_wp2_with (at_builtin; refine wpList_append_word rfl (.tmp 20) (.tmp 30) rfl w0.heap.size _ (leadTo d l k) (Ot.steps x (Ot.num k) n (15 - n)) w2.heap.size 1 rfl (O2.out.alloc _) rfl (alloc_word _ _ _) (by rw [leadTo_len]; omega) ?c1 ?_)
        case c1 => have := B2.out.size; simp; omega
        intro g3 cap3 w3 own3 grow3
        have BEL := Lib.hid (below_grown (B2.out.alloc B2.out.size _) (by have := B2.out.size; simp; omega) (O2.out.alloc _) grow3)
        have OWN := Lib.hid own3
        clear own3 grow3
        go_wp2_with fail
        go_roundw
        case rel => exact ⟨k + 1, by omega, by go_num, by rw [HSN.out]; exact OWN.out, BEL.out⟩
        case measure => simp [intOf]; omega
      · obtain rfl : k = 18 := by omega
        have RL := Lib.hid (rlist_any (leadTo d l 18) _ _ wr (by rw [leadTo_len]; omega) ho.has)
        clear ho hb
        go_wp2_with fail
        refine (RL.out).mono ?_; rintro e w' ⟨rfl, rfl⟩
        go_wp2_with fail
        go_ret2
        exact ⟨rfl, B0.out.trans (HB.out.mono B0.out.size)⟩
  · simp only [if_neg hl]
    have t1 : ((l.length : Int) != 18) = true := by rw [bne_iff_ne]; omega
    clear h hl
    go_enter Try.func35, Try.ntmps35
    go_wp2_with fail
    go_ret2
    exact ⟨rfl, Below.refl _ _⟩
theorem rrecover_18 (d : W) (l : List W) (v : Value) (w : World) (hl : l.length = 18) (h : HasW w w.heap.size v l) :
    Calls Try.prog 35 #[.int .u64 (uv d), v] w fun e w' => e = .returned (.tuple #[.int .u64 (uv (Ot.recover d l)), .int .i64 0]) ∧ Below w.heap.size w w' := by
  refine (rrecover_any d l v w h).mono ?_
  rintro e w' ⟨rfl, hb⟩
  exact ⟨by simp only [if_pos hl], hb⟩
theorem rrecover_bad (d : W) (l : List W) (v : Value) (w : World) (hl : l.length ≠ 18) (h : HasW w w.heap.size v l) :
    Calls Try.prog 35 #[.int .u64 (uv d), v] w fun e w' => e = .returned (.tuple #[.int .u64 0, .int .i64 4]) ∧ Below w.heap.size w w' := by
  refine (rrecover_any d l v w h).mono ?_
  rintro e w' ⟨rfl, hb⟩
  exact ⟨by simp only [if_neg hl], hb⟩
end Go.Proofs.Ythkkjocmglcjnaa
