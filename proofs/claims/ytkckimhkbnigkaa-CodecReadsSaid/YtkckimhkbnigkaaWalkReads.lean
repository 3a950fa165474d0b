/-
  The walk of CodecReads: it returns true, and nothing that was there has changed. No condition.
-/
import Derived.Test.YtkckimhkbnigkaaCAwake
import Derived.Test.YtkckimhkbnigkaaFullB
import Derived.Test.YtkckimhkbnigkaaReads
import Derived.Test.YtkckimhkbnigkaaWalkCWrites
import Derived.Test.YtkckimhkbnigkaaWalkFrames
import Derived.Test.YtkckimhkbnigkaaOpen
import Derived.Deep.DeepCutAuto
namespace Go.Proofs.Ytkckimhkbnigkaa
open Go.ChangeShapes Go.WideShapes Go.ChangeAt Go.RowKit
open Dg (W B)
theorem built_strs3 (w : World) (s0 s1 s2 : ByteArray) (t : TypeId) : HasS (w.alloc (.cells #[.string s0, .string s1, .string s2] t)) (w.alloc (.cells #[.string s0, .string s1, .string s2] t)).heap.size (.slice (some ⟨w.heap.size, 0, none⟩) 3 3) [s0, s1, s2] := by
  refine .inr ⟨w.heap.size, 0, 3, rfl, Nat.le_refl _, by simp, fun i hi => ?_⟩
  rw [Nat.zero_add, World.cell?_alloc_new]
  obtain rfl | rfl | rfl : i = 0 ∨ i = 1 ∨ i = 2 := by simp at hi; omega
  all_goals rfl
/-- a slice of bytes that is read -/
def Rd (w : World) (v : Value) : Prop := ∃ L : List B, L.length ≤ 200000000 ∧ HasB w w.heap.size v L
theorem Rd.below {w w' : World} {v : Value} (h : Rd w v) (hb : Below w.heap.size w w') : Rd w' v := by
  obtain ⟨L, h1, h2⟩ := h
  exact ⟨L, h1, (h2.below hb (Nat.le_refl _)).wide hb.size⟩
/-- four of them in a block -/
def Four (w : World) (N : Nat) : Prop := N < w.heap.size ∧ ∀ j, j < 4 → ∃ v, w.cell? ⟨N, j, none⟩ = some v ∧ Rd w v
theorem Four.below {w w' : World} {N : Nat} (h : Four w N) (hb : Below w.heap.size w w') : Four w' N :=
  ⟨Nat.lt_of_lt_of_le h.1 hb.size, fun j hj => by
    obtain ⟨v, h1, h2⟩ := h.2 j hj
    exact ⟨v, by rw [hb.cell (p := ⟨N, j, none⟩) h.1]; exact h1, h2.below hb⟩⟩
theorem four_new (w : World) (v0 v1 v2 v3 : Value) (t : TypeId) (h0 : Rd w v0) (h1 : Rd w v1) (h2 : Rd w v2) (h3 : Rd w v3) : Four (w.alloc (.cells #[v0, v1, v2, v3] t)) w.heap.size := by
  have hb : Below w.heap.size w (w.alloc (.cells #[v0, v1, v2, v3] t)) := (Below.refl _ _).alloc (Nat.le_refl _) _
  refine ⟨by simp, fun j hj => ?_⟩
  rw [World.cell?_alloc_new]
  obtain rfl | rfl | rfl | rfl : j = 0 ∨ j = 1 ∨ j = 2 ∨ j = 3 := by omega
  · exact ⟨v0, rfl, h0.below hb⟩
  · exact ⟨v1, rfl, h1.below hb⟩
  · exact ⟨v2, rfl, h2.below hb⟩
  · exact ⟨v3, rfl, h3.below hb⟩
/-- four numbers in a block -/
def Pos (w : World) (N : Nat) : Prop := N < w.heap.size ∧ ∀ j, j < 4 → ∃ x : Int, w.cell? ⟨N, j, none⟩ = some (.int .i64 x)
theorem Pos.below {w w' : World} {N : Nat} (h : Pos w N) (hb : Below w.heap.size w w') : Pos w' N :=
  ⟨Nat.lt_of_lt_of_le h.1 hb.size, fun j hj => by
    obtain ⟨v, h1⟩ := h.2 j hj
    exact ⟨v, by rw [hb.cell (p := ⟨N, j, none⟩) h.1]; exact h1⟩⟩
theorem pos_new (w : World) (x0 x1 x2 x3 : Int) (t : TypeId) : Pos (w.alloc (.cells #[.int .i64 x0, .int .i64 x1, .int .i64 x2, .int .i64 x3] t)) w.heap.size := by
  refine ⟨by simp, fun j hj => ?_⟩
  rw [World.cell?_alloc_new]
  obtain rfl | rfl | rfl | rfl : j = 0 ∨ j = 1 ∨ j = 2 ∨ j = 3 := by omega
  · exact ⟨x0, rfl⟩
  · exact ⟨x1, rfl⟩
  · exact ⟨x2, rfl⟩
  · exact ⟨x3, rfl⟩
theorem xor_u8 (x : B) (c : Int) : ∃ y : B, bits .xor .u8 (bv x) c = bv y := by
  refine ⟨BitVec.ofNat 8 (BitVec.ofInt 8 (bv x) ^^^ BitVec.ofInt 8 c).toNat, ?_⟩
  show IntKind.u8.wrap ((BitVec.ofInt 8 (bv x) ^^^ BitVec.ofInt 8 c).toNat : Int) = _
  unfold bv
  rw [IntKind.wrap_u8, BitVec.toNat_ofNat]
  omega
def ReadRel (w : World) (N : Nat) (i : Value) (wr : World) : Prop := ∃ k : Nat, k ≤ 4 ∧ i = .int .i64 (k : Int) ∧ Four wr N ∧ Below w.heap.size w wr
def PlaceRel (w : World) (N M : Nat) (v : Value) (i : Value) (wr : World) : Prop := ∃ k : Nat, k ≤ 4 ∧ i = .int .i64 (k : Int) ∧ Four wr N ∧ Pos wr M ∧ Rd wr v ∧ Below w.heap.size w wr
theorem reads_out (v dv : Value) (L D : List B) (x y z : Int) (w : World) (h : HasB w w.heap.size v L) (hd : HasB w w.heap.size dv D) (hl : 200 < L.length ∨ 200 < D.length) :
    Calls Try.prog 3 #[v, .int .i64 x, dv, .int .i64 y, .int .i64 z] w fun e w' => e = .returned (.bool true) ∧ Below w.heap.size w w' := by
  obtain ⟨a, cap, rfl⟩ := h.form
  obtain ⟨a', cap', rfl⟩ := hd.form
  generalize L.length = n at *
  generalize D.length = m at *
  clear h hd
  by_cases h0 : 200 < n
  · have t1 : (200 : Int) < (n : Int) := by omega
    clear hl h0
    go_enter Try.func3, Try.ntmps3
    go_wp2_with fail
    refine (awake_any _).mono ?_; rintro e w1 ⟨rfl, b1⟩
    go_wp2_with fail
    go_ret
    exact ⟨rfl, b1⟩
  · have t1 : ¬ (200 : Int) < (n : Int) := by omega
    have t2 : (200 : Int) < (m : Int) := by omega
    clear hl h0
    go_enter Try.func3, Try.ntmps3
    go_wp2_with fail
    refine (awake_any _).mono ?_; rintro e w1 ⟨rfl, b1⟩
    go_wp2_with fail
    go_ret
    exact ⟨rfl, b1⟩
set_option maxRecDepth 100000 in
set_option maxHeartbeats 2000000 in
theorem reads_in (v dv : Value) (L D : List B) (x y z : Int) (w : World) (hb : HasB w w.heap.size v L) (hd : HasB w w.heap.size dv D) (h1 : L.length ≤ 200) (h2 : D.length ≤ 200) (hx : (Lit.int .i64 x).wf = true) (hy : (Lit.int .i64 y).wf = true) (hz : (Lit.int .i64 z).wf = true) :
    Calls Try.prog 3 #[v, .int .i64 x, dv, .int .i64 y, .int .i64 z] w fun e w' => e = .returned (.bool true) ∧ Below w.heap.size w w' := by
  obtain ⟨a, cap, rfl⟩ := hb.form
  obtain ⟨a2, cap2, rfl⟩ := hd.form
  have HL := Lib.hid fun w' (g : Below w.heap.size w w') => (hb.below g (Nat.le_refl _)).wide g.size
  have HD := Lib.hid fun w' (g : Below w.heap.size w w') => (hd.below g (Nat.le_refl _)).wide g.size
  have hfr : (Cd.frame D).length ≤ 218 := by unfold Cd.frame; rw [List.length_append, Cd.putD_len, Cd.putB_len]; have := putI_len D.length (by omega); omega
  have hpl : (Cd.putL ([bstr D, ⟨#[]⟩, ⟨#[120]⟩].map strB)).length ≤ 40000000 := by
    refine putL_bulk _ ?_ (by simp)
    have e : (bstr D).size = D.length := by rw [← strB_len, strB_bstr]
    simp only [bulkS, e]
    show D.length + 1 + (0 + 1 + (1 + 1 + 0)) ≤ _
    omega
  have P1 := Lib.hid fun w' g => rframe_any D _ w' (by omega) (HD.out w' g)
  obtain ⟨X, hX⟩ : ∃ X, X = Cd.frame D ++ Cd.putL ([bstr D, ⟨#[]⟩, ⟨#[120]⟩].map strB) := ⟨_, rfl⟩
  have hXl : X.length ≤ 40000218 := by rw [hX, List.length_append]; omega
  obtain ⟨G, hG⟩ : ∃ G, G = X ++ Cd.putI z := ⟨_, rfl⟩
  have hir : Cd.InR z := by have := bounds_i64 hz; unfold Cd.InR; omega
  have hGl : G.length ≤ 40000228 := by rw [hG, List.length_append]; have := putI_ten z hir; omega
  have hG0 : 0 < G.length := by rw [hG, List.length_append]; have : 0 < (Cd.putI z).length := (by unfold Cd.putI; exact Cd.put_len_pos _); omega
  obtain ⟨g, hg⟩ : ∃ g, g = G.length := ⟨_, rfl⟩
  obtain ⟨q, hq, hq1⟩ := mod_nat y (g + 1) (by omega)
  have M1 := Lib.hid fun w' => mod_to y ((g : Int) + 1) q (by rw [← hq]; simp) w' hy (by omega) (by omega)
  have FR := Lib.hid hfr; have PL := Lib.hid hpl; have XX := Lib.hid hX; have XL := Lib.hid hXl; have GG := Lib.hid hG; have GL := Lib.hid hGl; have G0 := Lib.hid hG0; have GE := Lib.hid hg; have QG := Lib.hid (show q ≤ g by omega)
  have WY := Lib.hid hy; have WX := Lib.hid hx; have WZ := Lib.hid hz
  have LL := Lib.hid h1
  obtain ⟨nb, hnb⟩ : ∃ m, m = L.length := ⟨_, rfl⟩
  obtain ⟨nd, hnd⟩ : ∃ m, m = D.length := ⟨_, rfl⟩
  rw [← hnb] at h1 HL
  rw [← hnd] at h2 HD P1
  rw [← hnb, ← hnd]
  have t1 : ¬ (200 : Int) < (nb : Int) := by omega
  have t2 : ¬ (200 : Int) < (nd : Int) := by omega
  have g4 : g ≤ 40000228 := by rw [hg]; exact hGl
  have B0 := Lib.hid (Below.refl w.heap.size w)
  clear hb hd hfr hpl hX hXl hG hir hGl hG0 hg hq hq1 hx hy hz hnb hnd h1 h2
  go_enter Try.func3, Try.ntmps3
  go_wp2_with fail
  have kk0 := conv_any _ _ _ (HD.out w.drew (Below.refl _ _).drew)
  have RP := Lib.hid fun (w' : World) (v lv : Value) (h1 : HasB w' w'.heap.size v (Cd.frame D)) (h2 : HasS w' w'.heap.size lv [bstr D, ⟨#[]⟩, ⟨#[120]⟩]) => rputlist_any (Cd.frame D) [bstr D, ⟨#[]⟩, ⟨#[120]⟩] v lv w' (by simp) (by have := FR.out; have := PL.out; omega) h1 h2
  have AB0 : Hid (Below w.heap.size w (w.alloc (.cells #[.string (bstr D), .string ⟨#[]⟩, .string ⟨#[120]⟩] 9)).drew) := Lib.hid ((Below.refl w.heap.size w).alloc (Nat.le_refl _) _).drew
  have HS0 : Hid (HasS (w.alloc (.cells #[.string (bstr D), .string ⟨#[]⟩, .string ⟨#[120]⟩] 9)).drew (w.alloc (.cells #[.string (bstr D), .string ⟨#[]⟩, .string ⟨#[120]⟩] 9)).drew.heap.size (.slice (some ⟨w.heap.size, 0, none⟩) 3 3) [bstr D, ⟨#[]⟩, ⟨#[120]⟩]) := Lib.hid (built_strs3 w _ _ _ _)
  go_cut [11] (fun s wx => ∃ a c, s = .slice a X.length c ∧ HasB wx wx.heap.size (.slice a X.length c) X ∧ Below w.heap.size w wx)
  case rest =>
    obtain ⟨a8, c8, rfl, o, hb⟩ := hcut
    have O2 := Lib.hid o; have B2 := Lib.hid hb
    clear o hb kk0 P1
    have P3 := Lib.hid (rputint_any z X _ wc WZ.out (by have := XL.out; omega) O2.out)
    go_wp2_with fail
    refine (P3.out).mono ?_; rintro e w3 ⟨v3, rfl, o, b⟩
    have B3 := Lib.hid (B2.out.trans (b.mono B2.out.size))
    rw [← GG.out] at o
    have O3h := o.has
    obtain ⟨af, cf, rfl⟩ := O3h.form
    rw [← GE.out] at O3h ⊢
    have room := O3h.room
    have named := O3h.named G0.out
    have SQ := fun w' => run_bto af g cf q (q : Int) w' (by have := QG.out; have := GE.out; omega) named rfl
    have SF := fun w' => run_bfull af g cf g (g : Int) (g : Int) w' (by have := GE.out; omega) named rfl rfl
    have O3 := Lib.hid O3h
    have t9 : IntKind.i64.wrap ((g : Int) + 1) = (g : Int) + 1 := by rw [IntKind.wrap_i64]; omega
    clear o b O3h room named P3
    go_wp2_with fail
    refine wp_region_seq [(0, true), (1, true), (2, true), (3, true), (4, true), (5, true), (6, true), (9, true), (10, true), (11, true), (12, true), (13, true), (14, true), (15, true), (19, true), (7, false), (8, true), (16, false), (17, false), (18, true)] (by kernel_rfl) (by kernel_rfl) (by kernel_rfl) (by kernel_rfl) ?_
    iterate 15 (refine wpSeq_pure (v := ?_) rfl (by rfl) (fun w' hw' => ?_) ?_; rotate_left; (focus (go_simp; try with_reducible rfl)); try simp only [Act.put, List.setIfInBounds_toArray, List.set_cons_zero, List.set_cons_succ])
    refine wpSeq_call rfl (fun K' hK => ?_)
    go_simp
    go_at_call 13
    refine (M1.out _).mono ?_; rintro e w' ⟨rfl, rfl⟩
    refine hK.out _ _ (Below.refl _ _) ?_
    clear hK K'
    try simp only [Act.put, List.setIfInBounds_toArray, List.set_cons_zero, List.set_cons_succ]
    (refine wpSeq_pure (v := ?_) rfl (by rfl) (fun w' hw' => ?_) ?_; rotate_left; (focus (go_simp; try with_reducible rfl)); try simp only [Act.put, List.setIfInBounds_toArray, List.set_cons_zero, List.set_cons_succ])
    refine wpSeq_append_fullb rfl (by rfl) (.tmp 49) (.tmp 50) rfl af g _ G L rfl ((O3.out.below (Below.refl _ _).drew (Nat.le_refl _)).full GE.out) GE.out rfl (HL.out _ B3.out.drew) (by have := GL.out; have := LL.out; omega) _ rfl ?_
    intro b4 c4 w4 o b
    try simp only [Act.put, List.setIfInBounds_toArray, List.set_cons_zero, List.set_cons_succ]
    have B4 := Lib.hid (B3.out.drew.trans (b.mono B3.out.drew.size))
    have F4 := Lib.hid (four_new w4 (.slice a nb cap) (.slice af g cf) (.slice af q cf) (.slice b4 (g + L.length) c4) 22
      ⟨L, by have := LL.out; omega, HL.out _ B4.out⟩
      ⟨G, by have := GL.out; omega, ((O3.out.below (Below.refl _ _).drew (Nat.le_refl _)).below b (Nat.le_refl _)).wide b.size⟩
      ⟨G.take q, by rw [List.length_take]; have := GL.out; omega, (((O3.out.take q (by have := QG.out; have := GE.out; omega)).below (Below.refl _ _).drew (Nat.le_refl _)).below b (Nat.le_refl _)).wide b.size⟩
      ⟨G ++ L, by rw [List.length_append]; have := GL.out; have := LL.out; omega, o⟩)
    clear o b SQ SF
    refine wpSeq_call rfl (fun K' hK => ?_)
    go_simp
    refine hK.out _ _ ((Below.refl _ _).alloc (Nat.le_refl _) _) ?_
    clear hK K'
    try simp only [Act.put, List.setIfInBounds_toArray, List.set_cons_zero, List.set_cons_succ]
    obtain ⟨w5, hw5⟩ : ∃ w5, w5 = w4.alloc (.cells #[.slice a nb cap, .slice af g cf, .slice af q cf, .slice b4 (g + L.length) c4] 22) := ⟨_, rfl⟩
    have B5 : Hid (Below w.heap.size w w5) := Lib.hid (by rw [hw5]; exact B4.out.alloc B4.out.size _)
    rw [← hw5] at F4
    obtain ⟨N, hN⟩ : ∃ N, N = w4.heap.size := ⟨_, rfl⟩
    rw [← hN] at F4
    have hNW : Hid (Below w.heap.size w w5 ∧ Four w5 N) := Lib.hid ⟨B5.out, F4.out⟩
    rw [← hw5, ← hN]
    clear hw5 hN F4 B4
    (refine wpSeq_pure (v := ?_) rfl (by rfl) (fun w' hw' => ?_) ?_; rotate_left; (focus (go_simp; try with_reducible rfl)); try simp only [Act.put, List.setIfInBounds_toArray, List.set_cons_zero, List.set_cons_succ])
    refine wpSeq_nil ?_
    go_wp2_with fail
    go_loopw [54] (ReadRel w N) (fun i _ => 4 - (intOf i).toNat)
    case atStart => exact ⟨0, by omega, rfl, hNW.out.2, hNW.out.1⟩
    case round =>
      obtain ⟨k, hk, rfl, h4, hb⟩ := hrel
      have BR := Lib.hid hb; have H4 := Lib.hid h4
      by_cases hlt : k < 4
      · obtain ⟨v, hcell, Lx, hLx, hv⟩ := h4.2 k hlt
        obtain ⟨ax, cx, rfl⟩ := hv.form
        obtain ⟨n, hn⟩ : ∃ n, n = Lx.length := ⟨_, rfl⟩
        rw [← hn] at hcell hv hLx
        obtain ⟨q4, hq4, hq5⟩ := mod_nat x (n + 2) (by omega)
        have M4 := Lib.hid fun w' => mod_to x ((n : Int) + 2) q4 (by rw [← hq4]; simp) w' WX.out (by omega) (by omega)
        have HV := Lib.hid hv; have HN := Lib.hid hn; have LX := Lib.hid hLx
        clear h4 hb hv hq4 hq5
        by_cases h0 : n = 0
        · have t3 : ¬ (0 : Int) < (n : Int) := by omega
          have H0 := Lib.hid h0
          clear hn h0
          go_wp2_with fail
          obtain ⟨wz, rfl⟩ : ∃ wz, wz = wr := ⟨_, rfl⟩
          have BZ := Lib.hid BR.out; have FZ := Lib.hid H4.out; have VZ := Lib.hid HV.out
          clear BR H4 HV
          refine (M4.out _).mono ?_; rintro e w' ⟨rfl, rfl⟩
          obtain ⟨w9, hw9⟩ : ∃ w9, w9 = wz.alloc (.cells #[.int .i64 x, .int .i64 (q4 : Int), .int .i64 0, .int .i64 (-1)] 3) := ⟨_, rfl⟩
          obtain ⟨M, hM⟩ : ∃ M, M = wz.heap.size := ⟨_, rfl⟩
          have A9 : Hid (Below wz.heap.size wz w9) := Lib.hid (by rw [hw9]; exact (Below.refl _ _).alloc (Nat.le_refl _) _)
          have P9 : Hid (Pos w9 M) := Lib.hid (by rw [hw9, hM]; exact pos_new wz _ _ _ _ _)
          have F9 := Lib.hid (FZ.out.below A9.out); have B9 := Lib.hid (BZ.out.trans (A9.out.mono BZ.out.size))
          have R9 : Hid (Rd w9 (.slice ax n cx)) := Lib.hid ⟨Lx, by have := LX.out; have := HN.out; omega, (VZ.out.below A9.out (Nat.le_refl _)).wide A9.out.size⟩
          go_wp2_with fail
          rw [← hw9, ← hM]
          clear hw9 hM
          go_loopw [89] (PlaceRel w N M (.slice ax n cx)) (fun i _ => 4 - (intOf i).toNat)
          case atStart => exact ⟨0, by omega, rfl, F9.out, P9.out, R9.out, B9.out⟩
          case round =>
            obtain ⟨k2, hk2, rfl, f4, ps, rd, hb2⟩ := hrel
            have F4 := Lib.hid f4; have HB2 := Lib.hid hb2
            by_cases hlt2 : k2 < 4
            · obtain ⟨p, hcell2⟩ := ps.2 k2 hlt2
              obtain ⟨L3, hL3, hv3⟩ := rd
              have RA := Lib.hid (reads_any L3 p _ _ (by omega) hv3)
              have PS := Lib.hid ps; have RD : Hid (Rd _ (.slice ax n cx)) := Lib.hid ⟨L3, hL3, hv3⟩
              clear f4 ps hv3 hb2
              go_wp2_with fail
              refine (RA.out).mono ?_; rintro e wq ⟨rfl, b⟩
              have F5 := Lib.hid (F4.out.below b); have PS5 := Lib.hid (PS.out.below b); have RD5 := Lib.hid (RD.out.below b); have HB5 := Lib.hid (HB2.out.trans (b.mono HB2.out.size))
              clear b
              go_wp2_with fail
              go_roundw
              case rel => exact ⟨k2 + 1, by omega, by go_num, F5.out, PS5.out, RD5.out, HB5.out⟩
              case measure => simp [intOf]; omega
            · obtain rfl : k2 = 4 := by omega
              clear f4 ps rd hb2
              go_wp2_with fail
              go_roundw
              case rel => exact ⟨k + 1, by omega, by go_num, F4.out, HB2.out⟩
              case measure => simp [intOf]; omega
        · have t3 : (0 : Int) < (n : Int) := by omega
          obtain ⟨j, hj, hj1⟩ := mod_nat z n (by omega)
          obtain ⟨q2, hq2, hq3⟩ := mod_nat y 255 (by omega)
          obtain ⟨q6, hq6, hq7⟩ := mod_nat x 12 (by omega)
          have M2 := Lib.hid fun w' => mod_to z (n : Int) j hj w' WZ.out (by omega) (by omega)
          have M3 := Lib.hid fun w' => mod_to y 255 q2 hq2 w' WY.out (by omega) (by omega)
          have M5 := Lib.hid fun w' => mod_to x 12 q6 hq6 w' WX.out (by omega) (by omega)
          obtain ⟨c, hc⟩ : ∃ c, c = 1 + q2 := ⟨_, rfl⟩
          have t5 : (1 : Int) + (q2 : Int) = (c : Int) := by omega
          have t6 : IntKind.u8.wrap (c : Int) = (c : Int) := by rw [IntKind.wrap_u8]; omega
          obtain ⟨y0, hxor⟩ := xor_u8 (Lx.getD j 0) (c : Int)
          have q254 : q2 < 255 := hq3
          have jn : (j : Int) < (n : Int) := by omega
          have JN := Lib.hid hj1
          have N0 := Lib.hid (show 0 < n by omega)
          clear hn h0 hj hj1 hq2 hq3 hq6 hc
          go_wp2_with (at_builtin; refine wpList_append_bytes rfl (.const (.slice none 0 0)) (.tmp 61) rfl wr.heap.size _ _ [] Lx rfl (OwnB.nil wr _) rfl wr.heap.size HV.out (by have := HN.out; have := LX.out; simp; omega) (Nat.le_refl _) n (by have := HN.out; simp; omega) ?_)
          intro a1 cap1 w6 own6 grow6
          have B6 := Lib.hid (below_grownB (Below.refl _ _) (Nat.le_refl _) (OwnB.nil wr wr.heap.size) grow6)
          obtain ⟨gb, cg, hgb, hg1, hg2, hg3, hcells⟩ := own6.cells (by have := HN.out; have := N0.out; omega)
          simp only [Value.slice.injEq] at hgb
          obtain ⟨rfl, -, rfl⟩ := hgb
          obtain ⟨hcell6, hfz⟩ := hcells j (by rw [← HN.out]; exact JN.out)
          have SET := Lib.hid (cells_set (n := n) (j := j) HN.out hg3 hg2 (fun i hi => (hcells i hi).1) (by rw [← HN.out]; exact JN.out) y0)
          have B7 := Lib.hid (B6.out.setCell (p := ⟨gb, j, none⟩) hg1 (.int .u8 (bv y0)))
          generalize Lx.getD j 0 = x0 at hcell6 hxor
          clear own6 grow6 hcells hg1 hg2 hg3 hcell
          go_wp2_with fail
          refine wp_region_still_tail 13 (by kernel_rfl) (by kernel_rfl) ?_
          simp only [List.take_succ_cons, List.take_zero, List.drop_succ_cons, List.drop_zero]
          repeat still_step
          still_call ((M2.out w6.drew).mono fun _ _ h => ⟨h.1, h.2.symm⟩)
          repeat still_step
          still_call ((M3.out w6.drew).mono fun _ _ h => ⟨h.1, h.2.symm⟩)
          repeat still_step
          refine wpStill_nil ?_
          change wpList _ _ _ _ _ w6.drew
          go_wp2_with fail
          refine (M5.out _).mono ?_; rintro e w' ⟨rfl, rfl⟩
          obtain ⟨w7, hw7⟩ : ∃ w7, w7 = (w6.setCell ⟨gb, j, none⟩ (.int .u8 (bv y0))).drew := ⟨_, rfl⟩
          have RA := Lib.hid (reads_any (Lx.set j y0) (q6 : Int) (.slice (some ⟨gb, 0, none⟩) n cap1) w7 (by rw [List.length_set]; have := HN.out; have := LX.out; omega) (by rw [hw7]; exact SET.out.wide (by simp)))
          have B8 : Hid (Below wr.heap.size wr w7) := Lib.hid (by rw [hw7]; exact B7.out.drew)
          go_wp2_with fail
          rw [← hw7]
          clear hw7 SET B7
          refine (RA.out).mono ?_; rintro e wz ⟨rfl, b⟩
          have bz := B8.out.trans (b.mono B8.out.size)
          have BZ := Lib.hid (BR.out.trans (bz.mono BR.out.size)); have FZ := Lib.hid (H4.out.below bz); have VZ := Lib.hid ((HV.out.below bz (Nat.le_refl _)).wide bz.size)
          clear b bz
          go_wp2_with fail
          refine (M4.out _).mono ?_; rintro e w' ⟨rfl, rfl⟩
          obtain ⟨w9, hw9⟩ : ∃ w9, w9 = wz.alloc (.cells #[.int .i64 x, .int .i64 (q4 : Int), .int .i64 0, .int .i64 (-1)] 3) := ⟨_, rfl⟩
          obtain ⟨M, hM⟩ : ∃ M, M = wz.heap.size := ⟨_, rfl⟩
          have A9 : Hid (Below wz.heap.size wz w9) := Lib.hid (by rw [hw9]; exact (Below.refl _ _).alloc (Nat.le_refl _) _)
          have P9 : Hid (Pos w9 M) := Lib.hid (by rw [hw9, hM]; exact pos_new wz _ _ _ _ _)
          have F9 := Lib.hid (FZ.out.below A9.out); have B9 := Lib.hid (BZ.out.trans (A9.out.mono BZ.out.size))
          have R9 : Hid (Rd w9 (.slice ax n cx)) := Lib.hid ⟨Lx, by have := LX.out; have := HN.out; omega, (VZ.out.below A9.out (Nat.le_refl _)).wide A9.out.size⟩
          go_wp2_with fail
          rw [← hw9, ← hM]
          clear hw9 hM
          go_loopw [89] (PlaceRel w N M (.slice ax n cx)) (fun i _ => 4 - (intOf i).toNat)
          case atStart => exact ⟨0, by omega, rfl, F9.out, P9.out, R9.out, B9.out⟩
          case round =>
            obtain ⟨k2, hk2, rfl, f4, ps, rd, hb2⟩ := hrel
            have F4 := Lib.hid f4; have HB2 := Lib.hid hb2
            by_cases hlt2 : k2 < 4
            · obtain ⟨p, hcell2⟩ := ps.2 k2 hlt2
              obtain ⟨L3, hL3, hv3⟩ := rd
              have RA := Lib.hid (reads_any L3 p _ _ (by omega) hv3)
              have PS := Lib.hid ps; have RD : Hid (Rd _ (.slice ax n cx)) := Lib.hid ⟨L3, hL3, hv3⟩
              clear f4 ps hv3 hb2
              go_wp2_with fail
              refine (RA.out).mono ?_; rintro e wq ⟨rfl, b⟩
              have F5 := Lib.hid (F4.out.below b); have PS5 := Lib.hid (PS.out.below b); have RD5 := Lib.hid (RD.out.below b); have HB5 := Lib.hid (HB2.out.trans (b.mono HB2.out.size))
              clear b
              go_wp2_with fail
              go_roundw
              case rel => exact ⟨k2 + 1, by omega, by go_num, F5.out, PS5.out, RD5.out, HB5.out⟩
              case measure => simp [intOf]; omega
            · obtain rfl : k2 = 4 := by omega
              clear f4 ps rd hb2
              go_wp2_with fail
              go_roundw
              case rel => exact ⟨k + 1, by omega, by go_num, F4.out, HB2.out⟩
              case measure => simp [intOf]; omega
      · obtain rfl : k = 4 := by omega
        clear h4 hb
        go_wp2_with fail
        refine (awake_any _).mono ?_; rintro e w9 ⟨rfl, b⟩
        have B9 := Lib.hid (BR.out.trans (b.mono BR.out.size))
        clear b
        go_wp2_with fail
        go_ret
        exact ⟨rfl, B9.out⟩
  go_region_with (first
    | (go_at_call 11;
       (first
       | (refine (P1.out _ (Below.refl _ _).drew).mono ?_; rintro e w1 ⟨v1, rfl, o, b⟩; have B1 := Lib.hid ((Below.refl _ _).drew.trans b))
       | (refine (P1.out _ AB0.out).mono ?_; rintro e w1 ⟨v1, rfl, o, b⟩; have B1 := Lib.hid (AB0.out.trans (b.mono AB0.out.size)); have HS1 := Lib.hid ((HS0.out.below b (Nat.le_refl _)).wide b.size)));
       have kk1 := conv_any _ _ _ (HD.out w1 B1.out);
       obtain ⟨a9, c9, hv9⟩ := o.form; rw [hv9] at o ⊢; clear hv9;
       have O1 := Lib.hid o.has;
       have AA1 := Lib.hid ((Below.refl w1.heap.size w1).alloc (Nat.le_refl _) (.cells #[.string (bstr D), .string ⟨#[]⟩, .string ⟨#[120]⟩] 9));
       have OA1 := Lib.hid ((O1.out.below AA1.out (Nat.le_refl _)).wide AA1.out.size);
       have SA1 := Lib.hid (built_strs3 w1 (bstr D) ⟨#[]⟩ ⟨#[120]⟩ 9);
       clear o b)
    | (go_at_call 10;
       (first
       | (refine (RP.out w1 _ _ O1.out HS1.out).mono ?_; rintro e w2 ⟨v2, rfl, o, b⟩; have B2 := Lib.hid (B1.out.trans (b.mono B1.out.size)))
       | (refine (RP.out _ _ _ OA1.out SA1.out).mono ?_; rintro e w2 ⟨v2, rfl, o, b⟩; have B2 := Lib.hid (B1.out.trans (AA1.out.trans (b.mono AA1.out.size) |>.mono B1.out.size))));
       rw [← XX.out] at o;
       obtain ⟨a8, c8, hv8⟩ := o.form; rw [hv8] at o ⊢; clear hv8;
       have O2 := Lib.hid o.has; clear o b))
  all_goals (go_wp2_with fail; go_meet; exact ⟨_, _, rfl, O2.out, B2.out⟩)
end Go.Proofs.Ytkckimhkbnigkaa
