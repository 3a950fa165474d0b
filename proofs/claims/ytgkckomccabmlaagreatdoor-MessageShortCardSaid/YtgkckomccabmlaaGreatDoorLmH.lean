/-
  The functions of package message; the sanity check. Each says its own conditions; nothing that was there has changed.
-/
import Derived.Test.YtgkckomccabmlaaGreatDoorMvE
import Derived.Test.YtgkckomccabmlaaGreatDoorMvD
import Derived.Test.YtgkckomccabmlaaGreatDoorMvS
import Derived.Test.YtgkckomccabmlaaGreatDoorMvO
namespace Go.Proofs.YtgkckomccabmlaaGreatDoor
open Go.ChangeShapes Go.WideShapes Go.ChangeAt Go.RowKit
open Dg (W B)
open Ms (Msg)
theorem rvalid_in (m : Msg) (dv pv : Value) (w : World) (hm : MsgIn w m dv pv) (hD : m.data.length ≤ 1000000) (hP : m.path.length ≤ 1000000) :
    Calls Tryz.prog 14 #[msgV m dv pv] w fun e w' => e = .returned (.int .i64 (Ms.valid m : Int)) ∧ Below w.heap.size w w' := by
  obtain ⟨ad, cd, hd⟩ := hm.data.form
  obtain ⟨ap, cp, hp⟩ := hm.path.form
  rw [hd, hp]
  exact rvalid_any m ad _ cd ap _ cp w rfl rfl (by omega) (by omega)
theorem mvalid_any (m : Msg) (dv pv : Value) (w : World) (hm : MsgIn w m dv pv) (ht : Tab w) :
    Calls Tryz.prog 13 #[msgV m dv pv] w fun e w' => e = .returned (.int .i64 (Ms.valid m : Int)) ∧ Below w.heap.size w w' := by
  obtain ⟨ad, cd, hd⟩ := hm.data.form
  obtain ⟨ap, cp, hp⟩ := hm.path.form
  rw [hd, hp]
  exact mvalid_raw m ad _ cd ap _ cp w rfl rfl ht
end Go.Proofs.YtgkckomccabmlaaGreatDoor
namespace Go.Proofs.YtgkckomccabmlaaGreatDoor
open Go.ChangeShapes Go.WideShapes Go.ChangeAt Go.RowKit
open Dg (W B)
open Ms (Msg)
def aux : Msg := ⟨8, 2, 1, 0, 1, 0#64, 0, [], []⟩
theorem aux_wf : aux.Wf := by constructor <;> (unfold Cd.InR aux; simp)
theorem aux_valid : Ms.valid aux = 0 := by decide
theorem istr_one (i : Nat) (h : i < 10) : istr (i : Int) = ⟨#[UInt8.ofNat (48 + i)]⟩ := by
  unfold istr Lib.itoa
  rw [if_neg (by omega), Int.toNat_natCast, Lib.decDigits_one h]
theorem aux_text : Ms.of aux = { data := #[97, 117, 120, 40, 50, 44, 49, 44, 48, 44, 49, 41] } := by
  have e : Ms.of aux = Ms.text 8 2 1 0 1 := rfl
  have i2 : istr 2 = ⟨#[50]⟩ := istr_one 2 (by omega)
  have i1 : istr 1 = ⟨#[49]⟩ := istr_one 1 (by omega)
  have i0 : istr 0 = ⟨#[48]⟩ := istr_one 0 (by omega)
  rw [e]
  unfold Ms.text Ms.text0 Ms.more
  rw [i2, i1, i0]
  rfl
theorem aux_long : 8 < (Ms.enc aux).length := by
  have h := Cd.put_len_pos (Cd.zig 8)
  unfold Ms.enc
  simp only [List.length_append, Cd.putD_len, Cd.putI]
  have h2 : 0 < (Cd.put (Cd.zig aux.kind)).length := Cd.put_len_pos _
  omega
set_option maxRecDepth 100000 in
set_option maxHeartbeats 1000000 in
theorem gawake_any (w : World) (ht : Tab w) : Calls Tryz.prog 9 #[] w fun e w' => e = .returned (.bool true) ∧ Below w.heap.size w w' := by
  have M0 : MsgIn w aux (.slice none 0 0) (.slice none 0 0) := ⟨aux_wf, .inl ⟨none, 0, rfl, rfl⟩, .inl ⟨none, 0, rfl, rfl⟩⟩
  have b0 : Below w.heap.size w (w.alloc (.cells #[.int .i64 8, .int .i64 2, .int .i64 1, .int .i64 0, .int .i64 1, .int .u64 0, .int .i64 0, .slice none 0 0, .slice none 0 0] 27)) := (Below.refl _ _).alloc (Nat.le_refl _) _
  have C1 := Lib.hid (mencode_any aux (.slice none 0 0) (.slice none 0 0) (w.alloc (.cells #[.int .i64 8, .int .i64 2, .int .i64 1, .int .i64 0, .int .i64 1, .int .u64 0, .int .i64 0, .slice none 0 0, .slice none 0 0] 27)) (M0.alloc _) (by simp [aux]) (by simp [aux]) (ht.below b0))
  have R0 := Lib.hid (RecN.new w #[.int .i64 8, .int .i64 2, .int .i64 1, .int .i64 0, .int .i64 1, .int .u64 0, .int .i64 0, .slice none 0 0, .slice none 0 0] 27)
  have B0 := Lib.hid b0; have HM := Lib.hid M0; have HT := Lib.hid ht
  clear M0 b0 ht
  have e0 : msgV aux (.slice none 0 0) (.slice none 0 0) = .agg #[.int .i64 8, .int .i64 2, .int .i64 1, .int .i64 0, .int .i64 1, .int .u64 0, .int .i64 0, .slice none 0 0, .slice none 0 0] := rfl
  rw [e0] at C1
  go_enter Tryz.func9, Tryz.ntmps9
  go_wp2_with fail
  refine (C1.out).mono ?_; rintro e w1 (⟨h1, -, -⟩ | ⟨-, v, rfl, h2, b1⟩)
  · exact absurd aux_valid h1
  · obtain ⟨L, hL⟩ : ∃ L, L = Ms.enc aux := ⟨_, rfl⟩
    have hlen := aux_long
    have hdec := Ms.dec_enc aux_wf aux_valid
    have hlen2 : (Ms.enc aux).length ≤ 1000 := by
      have h10 : ∀ n, Cd.InR n → (Cd.putI n).length ≤ 10 := fun n hn => Ms.putI_len10 hn
      unfold Ms.enc
      simp only [List.length_append, Cd.putD_len, Cd.putB, Ms.putP_len]
      have a1 := h10 aux.kind aux_wf.kind; have a2 := h10 aux.epoch aux_wf.epoch; have a3 := h10 aux.inst aux_wf.inst; have a4 := h10 aux.round aux_wf.round; have a5 := h10 aux.bit aux_wf.bit; have a6 := h10 aux.len aux_wf.len
      have a7 := h10 (aux.data.length : Int) (by unfold Cd.InR aux; simp); have a8 := h10 (aux.path.length : Int) (by unfold Cd.InR aux; simp)
      have a9 : aux.data.length = 0 := rfl
      have a10 : aux.path.length = 0 := rfl
      omega
    rw [← hL] at h2 hlen hdec hlen2
    obtain ⟨a, c, rfl⟩ := h2.form
    obtain ⟨n, hn⟩ : ∃ n, n = L.length := ⟨_, rfl⟩
    rw [← hn] at h2 hlen ⊢
    have C2 := Lib.hid (mdecode_any L _ w1 (by omega) h2 (HT.out.below (B0.out.trans (b1.mono B0.out.size))))
    have B1 := Lib.hid (B0.out.trans (b1.mono B0.out.size)); have R1 := Lib.hid (R0.out.below b1 R0.out.1)
    have HDEC := Lib.hid hdec; have HN := Lib.hid hn
    have hlenI : (8 : Int) < (n : Int) := by omega
    clear h2 b1 hdec hlen2 hL hn
    go_wp2_with fail
    refine (C2.out).mono ?_; rintro e w2 (⟨h1, -, -⟩ | ⟨m, dv, pv, h1, rfl, h3, b2⟩)
    · rw [HDEC.out] at h1; cases h1
    · rw [HDEC.out] at h1
      cases h1
      obtain ⟨a1, c1, hd1⟩ := h3.data.form
      obtain ⟨a2, c2, hp2⟩ := h3.path.form
      rw [show aux.data.length = 0 from rfl] at hd1
      rw [show aux.path.length = 0 from rfl] at hp2
      subst hd1; subst hp2
      have e1 : msgV aux (.slice a1 0 c1) (.slice a2 0 c2) = .agg #[.int .i64 8, .int .i64 2, .int .i64 1, .int .i64 0, .int .i64 1, .int .u64 0, .int .i64 0, .slice a1 0 c1, .slice a2 0 c2] := rfl
      rw [e1]
      have M3 := Lib.hid (h3.alloc (.cells #[.int .i64 8, .int .i64 2, .int .i64 1, .int .i64 0, .int .i64 1, .int .u64 0, .int .i64 0, .slice a1 0 c1, .slice a2 0 c2] 27))
      have b3 : Below w2.heap.size w2 (w2.alloc (.cells #[.int .i64 8, .int .i64 2, .int .i64 1, .int .i64 0, .int .i64 1, .int .u64 0, .int .i64 0, .slice a1 0 c1, .slice a2 0 c2] 27)) := (Below.refl _ _).alloc (Nat.le_refl _) _
      have B2 := Lib.hid (B1.out.trans (b2.mono B1.out.size))
      have R2 := Lib.hid (R1.out.below b2 R1.out.1)
      have B3 := Lib.hid (B2.out.trans (b3.mono B2.out.size))
      have R3 := Lib.hid (R2.out.alloc (.cells #[.int .i64 8, .int .i64 2, .int .i64 1, .int .i64 0, .int .i64 1, .int .u64 0, .int .i64 0, .slice a1 0 c1, .slice a2 0 c2] 27))
      have X3 := Lib.hid (RecN.new w2 #[.int .i64 8, .int .i64 2, .int .i64 1, .int .i64 0, .int .i64 1, .int .u64 0, .int .i64 0, .slice a1 0 c1, .slice a2 0 c2] 27)
      have C3 := Lib.hid (mof_any aux (.slice none 0 0) (.slice none 0 0) (w2.alloc (.cells #[.int .i64 8, .int .i64 2, .int .i64 1, .int .i64 0, .int .i64 1, .int .u64 0, .int .i64 0, .slice a1 0 c1, .slice a2 0 c2] 27)) aux_wf (HT.out.below B3.out))
      rw [e0, aux_text] at C3
      clear h3 b2 b3
      have x0 := R3.out.c 0 rfl; have x1 := R3.out.c 1 rfl; have x2 := R3.out.c 2 rfl; have x3 := R3.out.c 3 rfl; have x4 := R3.out.c 4 rfl; have x5 := R3.out.c 5 rfl; have x6 := R3.out.c 6 rfl; have x7 := R3.out.c 7 rfl; have x8 := R3.out.c 8 rfl
      have R2c := R2.out
      have z0 := R2c.c 0 rfl; have z1 := R2c.c 1 rfl; have z2 := R2c.c 2 rfl; have z3 := R2c.c 3 rfl; have z4 := R2c.c 4 rfl; have z5 := R2c.c 5 rfl; have z6 := R2c.c 6 rfl; have z7 := R2c.c 7 rfl; have z8 := R2c.c 8 rfl
      clear R2c
      go_wp2_with fail
      refine (C3.out).mono ?_; rintro e w4 ⟨rfl, b4⟩
      have B4 := Lib.hid (B3.out.trans (b4.mono B3.out.size))
      have R4 := Lib.hid (R3.out.below b4 R3.out.1)
      have X4 := Lib.hid (X3.out.below b4 X3.out.1)
      have C4 := Lib.hid (msame_any aux aux (.slice a1 0 c1) (.slice a2 0 c2) (.slice none 0 0) (.slice none 0 0) w4 (M3.out.below b4) (HM.out.below B4.out) (by simp [aux]))
      rw [e0, e1, Ms.same_self] at C4
      clear b4 x0 x1 x2 x3 x4 x5 x6 x7 x8 z0 z1 z2 z3 z4 z5 z6 z7 z8
      have x0 := R4.out.c 0 rfl; have x1 := R4.out.c 1 rfl; have x2 := R4.out.c 2 rfl; have x3 := R4.out.c 3 rfl; have x4 := R4.out.c 4 rfl; have x5 := R4.out.c 5 rfl; have x6 := R4.out.c 6 rfl; have x7 := R4.out.c 7 rfl; have x8 := R4.out.c 8 rfl
      have z0 := X4.out.c 0 rfl; have z1 := X4.out.c 1 rfl; have z2 := X4.out.c 2 rfl; have z3 := X4.out.c 3 rfl; have z4 := X4.out.c 4 rfl; have z5 := X4.out.c 5 rfl; have z6 := X4.out.c 6 rfl; have z7 := X4.out.c 7 rfl; have z8 := X4.out.c 8 rfl
      go_wp2_with fail
      refine (C4.out).mono ?_; rintro e w5 ⟨rfl, b5⟩
      have B5 := Lib.hid (B4.out.trans (b5.mono B4.out.size))
      clear b5
      go_wp2_with fail
      go_ret
      exact ⟨rfl, B5.out⟩
end Go.Proofs.YtgkckomccabmlaaGreatDoor
