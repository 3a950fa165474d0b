/-
  MessageLimits: which messages are valid at the limits of their fields. Nothing that was there has changed. Condition: the library's table of powers of ten holds what its initialiser lays.
-/
import Derived.Test.YtojomdlbijlgjaaDoorLmH
import Derived.Test.YtojomdlbijlgjaaDoorLmA
import Derived.Deep.DeepCutAuto
import Derived.Deep.CutBlock
namespace Go.Proofs.YtojomdlbijlgjaaDoor
open Go.ChangeShapes Go.WideShapes Go.ChangeAt Go.RowKit
open Dg (W B)
open Ms (Msg)
/-- a message lies in the block N, and what it holds -/
def MIn (w : World) (N : Nat) (D P : Nat) (w0 : World) : Prop := ∃ (m : Msg) (dv pv : Value), RecN w N (msgL m dv pv) ∧ MsgIn w m dv pv ∧ m.data.length ≤ D ∧ m.path.length ≤ P ∧ Below w0.heap.size w0 w
theorem made_has (w : World) (n : Nat) (t : TypeId) : HasB (w.alloc (.cells (madeCells #[.int .u8 0] n) t)) (w.heap.size + 1) (.slice (some ⟨w.heap.size, 0, none⟩) n n) (List.replicate n 0#8) := by
  refine .inr ⟨w.heap.size, 0, n, by rw [List.length_replicate], by rw [List.length_replicate]; omega, by omega, fun i hi => ?_⟩
  rw [List.length_replicate] at hi
  rw [Nat.zero_add, World.cell?_alloc_new, ← Array.getElem?_toList, toList_madeCells_one]
  simp [hi, List.getD, bv]
theorem made_hasW (w : World) (n : Nat) (t : TypeId) : HasW (w.alloc (.cells (madeCells #[.int .u64 0] n) t)) (w.heap.size + 1) (.slice (some ⟨w.heap.size, 0, none⟩) n n) (List.replicate n 0#64) := by
  refine .inr ⟨w.heap.size, 0, n, by rw [List.length_replicate], by rw [List.length_replicate]; omega, by omega, fun i hi => ?_⟩
  rw [List.length_replicate] at hi
  rw [Nat.zero_add, World.cell?_alloc_new, ← Array.getElem?_toList, toList_madeCells_one]
  simp [hi, List.getD, uv]
/-- what Encode returns beside the error -/
def encX (m : Msg) : List B := if Ms.valid m = 0 then Ms.enc m else []
theorem EncPost.both {m : Msg} {w w' : World} {e : Ending} (h : EncPost m w e w') : ∃ v, e = .returned (.tuple #[v, .int .i64 (Ms.valid m : Int)]) ∧ HasB w' w'.heap.size v (encX m) ∧ Below w.heap.size w w' := by
  unfold encX
  rcases h with ⟨h1, h2, h3⟩ | ⟨h1, v, h2, h3, h4⟩
  · rw [if_neg h1]; exact ⟨_, h2, .inl ⟨none, 0, rfl, rfl⟩, h3⟩
  · rw [if_pos h1, h1]; exact ⟨v, h2, h3, h4⟩
theorem InR.small {x : Int} (h1 : -100000000 ≤ x) (h2 : x ≤ 100000000) : Cd.InR x := by unfold Cd.InR; omega
set_option maxRecDepth 100000 in
set_option maxHeartbeats 8000000 in
theorem limits_any (kind field by_ : Int) (hk : (Lit.int .i64 kind).wf = true) (hf : (Lit.int .i64 field).wf = true) (hb : (Lit.int .i64 by_).wf = true) (w : World) (ht : Tab w) :
    Calls Tryd.prog 3 #[.int .i64 kind, .int .i64 field, .int .i64 by_] w fun e w' => e = .returned (.bool true) ∧ Below w.heap.size w w' := by
  obtain ⟨q1, hq1, hq1'⟩ := mod_nat kind 12 (by omega)
  obtain ⟨q2, hq2, hq2'⟩ := mod_nat by_ 3 (by omega)
  obtain ⟨q3, hq3, hq3'⟩ := mod_nat field 8 (by omega)
  have M1 := Lib.hid fun w' => mod_to kind 12 q1 hq1 w' hk (by omega) (by omega)
  have M2 := Lib.hid fun w' => mod_to by_ 3 q2 hq2 w' hb (by omega) (by omega)
  have M3 := Lib.hid fun w' => mod_to field 8 q3 hq3 w' hf (by omega) (by omega)
  obtain ⟨kn, hkn⟩ : ∃ kn, kn = 1 + q1 := ⟨_, rfl⟩
  have hkI : (1 : Int) + (q1 : Int) = (kn : Int) := by omega
  have kn12 : kn ≤ 12 := by omega
  have kn1 : 1 ≤ kn := by omega
  obtain ⟨k, hkk⟩ : ∃ k : Int, (q2 : Int) - 1 = k := ⟨_, rfl⟩
  have k1 : -1 ≤ k := by omega
  have k2 : k ≤ 1 := by omega
  have q38 : q3 < 8 := hq3'
  have HT := Lib.hid ht
  have hmk : ∀ (n : Nat) (w' : World), n ≤ 10000 → (Instr.makeSlice 25 (.int .i64 (n : Int)) (.int .i64 (n : Int))).run Tryd.prog w' = .ok (.slice (some ⟨w'.heap.size, 0, none⟩) n n) (w'.alloc (.cells (madeCells #[.int .u8 0] n) 5)) := fun n w' hn => by
    obtain ⟨i0, hi, hz0, hz1, hz2⟩ := info_parts infoU8
    have := run_make (P := Tryd.prog) w' 25 5 i0 _ Tryd.underlying25 hi hz0 .i64 .i64 n n (by omega) (by omega) (by rw [hz2]; omega) (by omega)
    rw [this, Int.toNat_natCast, hz1, Nat.mul_one]; rfl
  have hmw : ∀ (n : Nat) (w' : World), n ≤ 10000 → (Instr.makeSlice 26 (.int .i64 (n : Int)) (.int .i64 (n : Int))).run Tryd.prog w' = .ok (.slice (some ⟨w'.heap.size, 0, none⟩) n n) (w'.alloc (.cells (madeCells #[.int .u64 0] n) 24)) := fun n w' hn => by
    obtain ⟨i0, hi, hz0, hz1, hz2⟩ := info_parts infoWord
    have := run_make (P := Tryd.prog) w' 26 24 i0 _ Tryd.underlying26 hi hz0 .i64 .i64 n n (by omega) (by omega) (by rw [hz2]; omega) (by omega)
    rw [this, Int.toNat_natCast, hz1, Nat.mul_one]; rfl
  have HMK := Lib.hid hmk; have HMW := Lib.hid hmw
  have Z0 := Lib.hid (RecN.new w #[.int .i64 (kn : Int), .int .i64 0, .int .i64 0, .int .i64 0, .int .i64 0, .int .u64 0, .int .i64 0, .slice none 0 0, .slice none 0 0] 28)
  have b0 : Below w.heap.size w (w.alloc (.cells #[.int .i64 (kn : Int), .int .i64 0, .int .i64 0, .int .i64 0, .int .i64 0, .int .u64 0, .int .i64 0, .slice none 0 0, .slice none 0 0] 28)) := (Below.refl _ _).alloc (Nat.le_refl _) _
  have B0 := Lib.hid b0
  clear hq1 hq2 hq3 hk hf hb ht hkn hmk hmw b0 hq1' hq2'
  go_enter Tryd.func3, Tryd.ntmps3
  go_wp2_with fail
  refine (M1.out _).mono ?_; rintro e w' ⟨rfl, rfl⟩
  have key : ∃ (b0 : Int) (W0 : World), 0 ≤ b0 ∧ b0 ≤ 1 ∧ ((kn = 9 ∧ W0 = w.alloc (.cells #[.int .i64 (kn : Int), .int .i64 0, .int .i64 0, .int .i64 0, .int .i64 1, .int .u64 0, .int .i64 0, .slice none 0 0, .slice none 0 0] 28) ∧ b0 = 1) ∨ (¬ kn = 9 ∧ W0 = w.alloc (.cells #[.int .i64 (kn : Int), .int .i64 0, .int .i64 0, .int .i64 0, .int .i64 0, .int .u64 0, .int .i64 0, .slice none 0 0, .slice none 0 0] 28) ∧ b0 = 0)) := by
    by_cases h : kn = 9
    · exact ⟨1, _, by omega, by omega, .inl ⟨h, rfl, rfl⟩⟩
    · exact ⟨0, _, by omega, by omega, .inr ⟨h, rfl, rfl⟩⟩
  obtain ⟨b0, W0, hb0, hb1, hway⟩ := key
  have RW := Lib.hid (show RecN W0 w.heap.size (msgL ⟨(kn : Int), 0, 0, 0, b0, 0#64, 0, [], []⟩ (.slice none 0 0) (.slice none 0 0)) by
    rcases hway with ⟨-, rfl, rfl⟩ | ⟨-, rfl, rfl⟩
    · exact RecN.new w #[.int .i64 (kn : Int), .int .i64 0, .int .i64 0, .int .i64 0, .int .i64 1, .int .u64 0, .int .i64 0, .slice none 0 0, .slice none 0 0] 28
    · exact Z0.out)
  have BW := Lib.hid (show Below w.heap.size w W0 by
    rcases hway with ⟨-, rfl, -⟩ | ⟨-, rfl, -⟩
    · exact (Below.refl _ _).alloc (Nat.le_refl _) _
    · exact B0.out)
  have goal2 : True := trivial
  rcases hway with ⟨h9, hW, hbv⟩ | ⟨h9, hW, hbv⟩
  all_goals
    first
      | (have t9 : ((kn : Int) == 9) = true := by rw [beq_iff_eq]; omega)
      | (have t9 : ((kn : Int) == 9) = false := by rw [beq_eq_false_iff_ne]; omega)
    have HW := Lib.hid hW
    clear hW h9 hbv
    go_wp2_with fail
    rw [← HW.out]
    refine (M2.out _).mono ?_; rintro e w' ⟨rfl, rfl⟩
    go_wp2_with fail
    refine (M3.out _).mono ?_; rintro e w' ⟨rfl, rfl⟩
    go_upto_block 0 with fail
    go_cut [] (fun wx => MIn wx w.heap.size 4097 11 w)
    case first =>
      clear t9
      have x1 := RW.out.c 1 rfl; have x2 := RW.out.c 2 rfl; have x3 := RW.out.c 3 rfl; have x4 := RW.out.c 4 rfl; have x6 := RW.out.c 6 rfl; have x7 := RW.out.c 7 rfl; have x8 := RW.out.c 8 rfl
      have f1 := RW.out.f 1 (by simp [msgL])
      have f2 := RW.out.f 2 (by simp [msgL])
      have f3 := RW.out.f 3 (by simp [msgL])
      have f4 := RW.out.f 4 (by simp [msgL])
      have f6 := RW.out.f 6 (by simp [msgL])
      have f7 := RW.out.f 7 (by simp [msgL])
      have f8 := RW.out.f 8 (by simp [msgL])
      rcases (show q3 = 0 ∨ q3 = 1 ∨ q3 = 2 ∨ q3 = 3 ∨ q3 = 4 ∨ q3 = 5 ∨ q3 = 6 ∨ q3 = 7 by omega) with rfl | rfl | rfl | rfl | rfl | rfl | rfl | rfl
      · skip
        go_wp2_with fail
        go_meet
        exact ⟨⟨(kn : Int), 1048576 + k, 0, 0, b0, 0#64, 0, [], []⟩, .slice none 0 0, .slice none 0 0, RW.out.set 1 (by simp [msgL]) _, ⟨⟨InR.small (by dsimp only; omega) (by dsimp only; omega), InR.small (by dsimp only; omega) (by dsimp only; omega), InR.small (by dsimp only; omega) (by dsimp only; omega), InR.small (by dsimp only; omega) (by dsimp only; omega), InR.small (by dsimp only; omega) (by dsimp only; omega), InR.small (by dsimp only; omega) (by dsimp only; omega)⟩, .inl ⟨none, 0, rfl, rfl⟩, .inl ⟨none, 0, rfl, rfl⟩⟩, Nat.zero_le _, Nat.zero_le _, BW.out.setCell (p := ⟨w.heap.size, 1, none⟩) (Nat.le_refl _) _⟩
      · skip
        go_wp2_with fail
        go_meet
        exact ⟨⟨(kn : Int), 0, 15 + k, 0, b0, 0#64, 0, [], []⟩, .slice none 0 0, .slice none 0 0, RW.out.set 2 (by simp [msgL]) _, ⟨⟨InR.small (by dsimp only; omega) (by dsimp only; omega), InR.small (by dsimp only; omega) (by dsimp only; omega), InR.small (by dsimp only; omega) (by dsimp only; omega), InR.small (by dsimp only; omega) (by dsimp only; omega), InR.small (by dsimp only; omega) (by dsimp only; omega), InR.small (by dsimp only; omega) (by dsimp only; omega)⟩, .inl ⟨none, 0, rfl, rfl⟩, .inl ⟨none, 0, rfl, rfl⟩⟩, Nat.zero_le _, Nat.zero_le _, BW.out.setCell (p := ⟨w.heap.size, 2, none⟩) (Nat.le_refl _) _⟩
      · skip
        go_wp2_with fail
        go_meet
        exact ⟨⟨(kn : Int), 0, 0, 63 + k, b0, 0#64, 0, [], []⟩, .slice none 0 0, .slice none 0 0, RW.out.set 3 (by simp [msgL]) _, ⟨⟨InR.small (by dsimp only; omega) (by dsimp only; omega), InR.small (by dsimp only; omega) (by dsimp only; omega), InR.small (by dsimp only; omega) (by dsimp only; omega), InR.small (by dsimp only; omega) (by dsimp only; omega), InR.small (by dsimp only; omega) (by dsimp only; omega), InR.small (by dsimp only; omega) (by dsimp only; omega)⟩, .inl ⟨none, 0, rfl, rfl⟩, .inl ⟨none, 0, rfl, rfl⟩⟩, Nat.zero_le _, Nat.zero_le _, BW.out.setCell (p := ⟨w.heap.size, 3, none⟩) (Nat.le_refl _) _⟩
      · skip
        go_wp2_with fail
        go_meet
        exact ⟨⟨(kn : Int), 0, 0, 0, b0 + k, 0#64, 0, [], []⟩, .slice none 0 0, .slice none 0 0, RW.out.set 4 (by simp [msgL]) _, ⟨⟨InR.small (by dsimp only; omega) (by dsimp only; omega), InR.small (by dsimp only; omega) (by dsimp only; omega), InR.small (by dsimp only; omega) (by dsimp only; omega), InR.small (by dsimp only; omega) (by dsimp only; omega), InR.small (by dsimp only; omega) (by dsimp only; omega), InR.small (by dsimp only; omega) (by dsimp only; omega)⟩, .inl ⟨none, 0, rfl, rfl⟩, .inl ⟨none, 0, rfl, rfl⟩⟩, Nat.zero_le _, Nat.zero_le _, BW.out.setCell (p := ⟨w.heap.size, 4, none⟩) (Nat.le_refl _) _⟩
      · skip
        go_wp2_with fail
        go_meet
        exact ⟨⟨(kn : Int), 0, 0, 0, b0, 0#64, 4096 + k, [], []⟩, .slice none 0 0, .slice none 0 0, RW.out.set 6 (by simp [msgL]) _, ⟨⟨InR.small (by dsimp only; omega) (by dsimp only; omega), InR.small (by dsimp only; omega) (by dsimp only; omega), InR.small (by dsimp only; omega) (by dsimp only; omega), InR.small (by dsimp only; omega) (by dsimp only; omega), InR.small (by dsimp only; omega) (by dsimp only; omega), InR.small (by dsimp only; omega) (by dsimp only; omega)⟩, .inl ⟨none, 0, rfl, rfl⟩, .inl ⟨none, 0, rfl, rfl⟩⟩, Nat.zero_le _, Nat.zero_le _, BW.out.setCell (p := ⟨w.heap.size, 6, none⟩) (Nat.le_refl _) _⟩
      · obtain ⟨n, hn⟩ : ∃ n : Nat, (4096 : Int) + k = n := ⟨(4096 + k).toNat, by omega⟩
        have hn9 : n ≤ 4097 := by omega
        have hmk := fun w' => HMK.out n w' (by omega)
        have BA := Lib.hid (BW.out.alloc BW.out.size (.cells (madeCells #[.int .u8 0] n) 5))
        have RA := Lib.hid (RW.out.alloc (.cells (madeCells #[.int .u8 0] n) 5))
        have HA := Lib.hid (made_has W0 n 5)
        have hsz : w.heap.size ≠ W0.heap.size := by have := RW.out.1; omega
        have z7 := RA.out.c 7 rfl; have g7 := RA.out.f 7 (by simp [msgL]); have z8 := RA.out.c 8 rfl; have g8 := RA.out.f 8 (by simp [msgL])
        go_wp2_with fail
        go_meet
        exact ⟨⟨(kn : Int), 0, 0, 0, b0, 0#64, 0, List.replicate n 0#8, []⟩, .slice (some ⟨W0.heap.size, 0, none⟩) n n, .slice none 0 0, RA.out.set 7 (by simp [msgL]) _, ⟨⟨InR.small (by dsimp only; omega) (by dsimp only; omega), InR.small (by dsimp only; omega) (by dsimp only; omega), InR.small (by dsimp only; omega) (by dsimp only; omega), InR.small (by dsimp only; omega) (by dsimp only; omega), InR.small (by dsimp only; omega) (by dsimp only; omega), InR.small (by dsimp only; omega) (by dsimp only; omega)⟩, (HA.out.but (Off.some hsz.symm) ((But.refl w.heap.size _).setCell 7 _)).wide (by simp), .inl ⟨none, 0, rfl, rfl⟩⟩, by rw [List.length_replicate]; exact hn9, Nat.zero_le _, BA.out.setCell (p := ⟨w.heap.size, 7, none⟩) (Nat.le_refl _) _⟩
      · obtain ⟨n, hn⟩ : ∃ n : Nat, (10 : Int) + k = n := ⟨(10 + k).toNat, by omega⟩
        have hn9 : n ≤ 11 := by omega
        have hmk := fun w' => HMW.out n w' (by omega)
        have BA := Lib.hid (BW.out.alloc BW.out.size (.cells (madeCells #[.int .u64 0] n) 24))
        have RA := Lib.hid (RW.out.alloc (.cells (madeCells #[.int .u64 0] n) 24))
        have HA := Lib.hid (made_hasW W0 n 24)
        have hsz : w.heap.size ≠ W0.heap.size := by have := RW.out.1; omega
        have z7 := RA.out.c 7 rfl; have g7 := RA.out.f 7 (by simp [msgL]); have z8 := RA.out.c 8 rfl; have g8 := RA.out.f 8 (by simp [msgL])
        go_wp2_with fail
        go_meet
        exact ⟨⟨(kn : Int), 0, 0, 0, b0, 0#64, 0, [], List.replicate n 0#64⟩, .slice none 0 0, .slice (some ⟨W0.heap.size, 0, none⟩) n n, RA.out.set 8 (by simp [msgL]) _, ⟨⟨InR.small (by dsimp only; omega) (by dsimp only; omega), InR.small (by dsimp only; omega) (by dsimp only; omega), InR.small (by dsimp only; omega) (by dsimp only; omega), InR.small (by dsimp only; omega) (by dsimp only; omega), InR.small (by dsimp only; omega) (by dsimp only; omega), InR.small (by dsimp only; omega) (by dsimp only; omega)⟩, .inl ⟨none, 0, rfl, rfl⟩, (HA.out.but (Off.some hsz.symm) ((But.refl w.heap.size _).setCell 8 _)).wide (by simp)⟩, Nat.zero_le _, by rw [List.length_replicate]; exact hn9, BA.out.setCell (p := ⟨w.heap.size, 8, none⟩) (Nat.le_refl _) _⟩
      · skip
        go_wp2_with fail
        go_meet
        exact ⟨⟨(kn : Int), k, k, 0, b0, 0#64, 0, [], []⟩, .slice none 0 0, .slice none 0 0, (RW.out.set 1 (by simp [msgL]) _).set 2 (by simp [msgL]) _, ⟨⟨InR.small (by dsimp only; omega) (by dsimp only; omega), InR.small (by dsimp only; omega) (by dsimp only; omega), InR.small (by dsimp only; omega) (by dsimp only; omega), InR.small (by dsimp only; omega) (by dsimp only; omega), InR.small (by dsimp only; omega) (by dsimp only; omega), InR.small (by dsimp only; omega) (by dsimp only; omega)⟩, .inl ⟨none, 0, rfl, rfl⟩, .inl ⟨none, 0, rfl, rfl⟩⟩, Nat.zero_le _, Nat.zero_le _, (BW.out.setCell (p := ⟨w.heap.size, 1, none⟩) (Nat.le_refl _) _).setCell (p := ⟨w.heap.size, 2, none⟩) (Nat.le_refl _) _⟩
    case rest =>
      clear hb0 hb1 t9
      obtain ⟨m, dv, pv, hr, hm, hD, hP, hB⟩ := hcut
      obtain ⟨nd, hnd⟩ : ∃ n, n = m.data.length := ⟨_, rfl⟩
      obtain ⟨np, hnp⟩ : ∃ n, n = m.path.length := ⟨_, rfl⟩
      obtain ⟨ad, cd, rfl⟩ : ∃ a c, dv = .slice a nd c := by rw [hnd]; exact hm.data.form
      obtain ⟨ap, cp, rfl⟩ : ∃ a c, pv = .slice a np c := by rw [hnp]; exact hm.path.form
      have MD := Lib.hid (show m.data.length ≤ 1000000 ∧ m.path.length ≤ 1000000 by omega)
      have C1 := Lib.hid ((mencode_any m (.slice ad nd cd) (.slice ap np cp) wc hm MD.out.1 MD.out.2 (HT.out.below hB)).mono fun _ _ h => h.both)
      obtain ⟨vl, hvl⟩ : ∃ n, n = Ms.valid m := ⟨_, rfl⟩
      obtain ⟨X, hX⟩ : ∃ X, X = encX m := ⟨_, rfl⟩
      have RR := Lib.hid hr; have MM := Lib.hid hm; have BB := Lib.hid hB; have HVL := Lib.hid hvl; have HXX := Lib.hid hX
      rw [← hvl, ← hX] at C1
      have C2 := Lib.hid fun (w' : World) (hb : Below wc.heap.size wc w') => (rencode_any m (.slice ad nd cd) (.slice ap np cp) w' (MM.out.below hb) MD.out.1 MD.out.2).mono fun _ _ h => h.both
      have C3 := Lib.hid fun (w' : World) (hb : Below wc.heap.size wc w') => mvalid_any m (.slice ad nd cd) (.slice ap np cp) w' (MM.out.below hb) ((HT.out.below BB.out).below hb)
      have C4 := Lib.hid fun (w' : World) (hb : Below wc.heap.size wc w') => rvalid_in m (.slice ad nd cd) (.slice ap np cp) w' (MM.out.below hb) MD.out.1 MD.out.2
      rw [← hvl, ← hX] at C2
      rw [← hvl] at C3 C4
      unfold msgV at C1 C2 C3 C4
      have x0 := RR.out.c 0 rfl; have x1 := RR.out.c 1 rfl; have x2 := RR.out.c 2 rfl; have x3 := RR.out.c 3 rfl; have x4 := RR.out.c 4 rfl; have x5 := RR.out.c 5 rfl; have x6 := RR.out.c 6 rfl; have x7 := RR.out.c 7 rfl; have x8 := RR.out.c 8 rfl
      clear hr hm hD hP hB hnd hnp hvl hX
      go_wp2_with fail
      refine (C1.out).mono ?_; rintro e w1 ⟨v1, rfl, hv1, b1⟩
      obtain ⟨n1, hn1⟩ : ∃ n, n = X.length := ⟨_, rfl⟩
      obtain ⟨a1, c1, rfl⟩ : ∃ a c, v1 = .slice a n1 c := by rw [hn1]; exact hv1.form
      have B1 := Lib.hid b1; have R1 := Lib.hid (RR.out.below b1 RR.out.1); have V1 := Lib.hid hv1
      clear x0 x1 x2 x3 x4 x5 x6 x7 x8 b1 hv1 hn1
      have x0 := R1.out.c 0 rfl; have x1 := R1.out.c 1 rfl; have x2 := R1.out.c 2 rfl; have x3 := R1.out.c 3 rfl; have x4 := R1.out.c 4 rfl; have x5 := R1.out.c 5 rfl; have x6 := R1.out.c 6 rfl; have x7 := R1.out.c 7 rfl; have x8 := R1.out.c 8 rfl
      go_wp2_with fail
      refine (C2.out _ B1.out).mono ?_; rintro e w2 ⟨v2, rfl, hv2, b2⟩
      obtain ⟨n2, hn2⟩ : ∃ n, n = X.length := ⟨_, rfl⟩
      obtain ⟨a2, c2, rfl⟩ : ∃ a c, v2 = .slice a n2 c := by rw [hn2]; exact hv2.form
      have B2 := Lib.hid (B1.out.trans (b2.mono B1.out.size)); have R2 := Lib.hid ((R1.out.below b2 R1.out.1).drew); have V2 := Lib.hid hv2; have V12 := Lib.hid ((V1.out.below b2 (Nat.le_refl _)).wide b2.size)
      clear x0 x1 x2 x3 x4 x5 x6 x7 x8 b2 hv2 hn2
      have x0 := R2.out.c 0 rfl; have x1 := R2.out.c 1 rfl; have x2 := R2.out.c 2 rfl; have x3 := R2.out.c 3 rfl; have x4 := R2.out.c 4 rfl; have x5 := R2.out.c 5 rfl; have x6 := R2.out.c 6 rfl; have x7 := R2.out.c 7 rfl; have x8 := R2.out.c 8 rfl
      go_wp2_with fail
      refine wp_region_seq [(0, true), (2, true), (1, false), (3, false), (4, true), (5, true), (6, true), (7, true), (8, true), (9, true), (10, true), (11, true), (12, true), (13, true), (14, true), (15, true), (16, true), (17, true), (18, false), (19, true), (20, true)] (by kernel_rfl) (by kernel_rfl) (by kernel_rfl) (by kernel_rfl) ?_
      iterate 2 (refine wpSeq_pure (v := ?_) rfl (by rfl) (fun w' hw' => ?_) ?_; rotate_left; (focus (have y0 := kept hw' x0; have y1 := kept hw' x1; have y2 := kept hw' x2; have y3 := kept hw' x3; have y4 := kept hw' x4; have y5 := kept hw' x5; have y6 := kept hw' x6; have y7 := kept hw' x7; have y8 := kept hw' x8; go_simp; try with_reducible rfl)); try simp only [Act.put, List.setIfInBounds_toArray, List.set_cons_zero, List.set_cons_succ])
      refine wpSeq_call rfl (fun K' hK => ?_)
      go_simp
      go_at_call 7
      refine (C3.out _ B2.out.drew).mono ?_; rintro e w3 ⟨rfl, b3⟩
      refine hK.out _ _ b3 ?_
      clear hK K'
      try simp only [Act.put, List.setIfInBounds_toArray, List.set_cons_zero, List.set_cons_succ]
      have B3 := Lib.hid (B2.out.drew.trans (b3.mono B2.out.size))
      have V3 := Lib.hid ((V12.out.below (w := w2.drew) b3 (Nat.le_refl _)).wide b3.size); have V4 := Lib.hid ((V2.out.below (w := w2.drew) b3 (Nat.le_refl _)).wide b3.size)
      clear x0 x1 x2 x3 x4 x5 x6 x7 x8 b3
      refine wpSeq_call rfl (fun K' hK => ?_)
      go_simp
      go_at_call 8
      refine (C4.out _ B3.out).mono ?_; rintro e w4 ⟨rfl, b4⟩
      refine hK.out _ _ b4 ?_
      clear hK K'
      try simp only [Act.put, List.setIfInBounds_toArray, List.set_cons_zero, List.set_cons_succ]
      have B4 := Lib.hid (B3.out.trans (b4.mono B3.out.size))
      have V5 := Lib.hid ((V3.out.below b4 (Nat.le_refl _)).wide b4.size); have V6 := Lib.hid ((V4.out.below b4 (Nat.le_refl _)).wide b4.size)
      clear b4
      iterate 14 (refine wpSeq_pure (v := ?_) rfl (by rfl) (fun w' hw' => ?_) ?_; rotate_left; (focus (have kk1 := conv_all X (.slice a1 n1 c1) w' _ ((V5.out.below hw' (Nat.le_refl _)).wide hw'.size); have kk2 := conv_all X (.slice a2 n2 c2) w' _ ((V6.out.below hw' (Nat.le_refl _)).wide hw'.size); go_simp; try with_reducible rfl)); try simp only [Act.put, List.setIfInBounds_toArray, List.set_cons_zero, List.set_cons_succ])
      refine wpSeq_call rfl (fun K' hK => ?_)
      go_simp
      go_at_call 9
      refine (gawake_any w4 ((HT.out.below BB.out).below B4.out)).mono ?_; rintro e w5 ⟨rfl, b5⟩
      refine hK.out _ _ b5 ?_
      clear hK K'
      try simp only [Act.put, List.setIfInBounds_toArray, List.set_cons_zero, List.set_cons_succ]
      have B5 := Lib.hid (BB.out.trans ((B4.out.trans (b5.mono B4.out.size)).mono BB.out.size))
      clear b5
      iterate 2 (refine wpSeq_pure (v := ?_) rfl (by rfl) (fun w' hw' => ?_) ?_; rotate_left; (focus (go_simp; try with_reducible rfl)); try simp only [Act.put, List.setIfInBounds_toArray, List.set_cons_zero, List.set_cons_succ])
      refine wpSeq_nil ?_
      go_wp2_with fail
      go_ret
      exact ⟨rfl, B5.out⟩
end Go.Proofs.YtojomdlbijlgjaaDoor
