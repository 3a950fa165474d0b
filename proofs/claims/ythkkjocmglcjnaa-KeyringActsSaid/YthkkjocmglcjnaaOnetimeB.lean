/-
  What digits of package onetime returns, as the landed code computes it: an array of the 18 digits. Nothing that was there has changed. No condition.
-/
import Derived.Test.YthkkjocmglcjnaaRefKeys
import Derived.Test.YthkkjocmglcjnaaArr
import Derived.Deep.MidRow
namespace Go.Proofs.Ythkkjocmglcjnaa
open Go.ChangeShapes Go.WideShapes Go.ChangeAt Go.RowKit
open Dg (W B)
theorem and15_i (n : Int) : bits .and .i64 n 15 = n % 16 := by
  have h15 : (BitVec.ofInt 64 15).toNat = 2 ^ 4 - 1 := by decide
  have key : (BitVec.ofInt 64 n &&& BitVec.ofInt 64 15).toNat = (n % ((2 ^ 64 : Nat) : Int)).toNat % 2 ^ 4 := by
    rw [BitVec.toNat_and, BitVec.toNat_ofInt, h15, Nat.and_two_pow_sub_one_eq_mod]
  show IntKind.i64.wrap ((BitVec.ofInt 64 n &&& BitVec.ofInt 64 15).toNat : Nat) = n % 16
  rw [key, IntKind.wrap_i64]
  omega
theorem nib_wrap (d : W) (p : Nat) : bits .and .i64 (wrap64 (uv d / (2 : Int) ^ (4 * p))) 15 = ((Dg.nib d p : Nat) : Int) := by
  rw [and15_i, uv_shr d (4 * p) _ (by simp)]
  have e : ∀ z : Int, wrap64 z % 16 = z % 16 := fun z => by unfold wrap64; omega
  rw [e]
  unfold uv Dg.nib
  omega
def zerosI18 : Array Value := Array.replicate 18 (.int .i64 0)
theorem zero_i18 (w : World) : (zeroValue 61).run Try.prog w = .ok (.agg zerosI18) w := by kernel_rfl
def ADigRel (d : W) (N : Nat) (w : World) (sum i : Value) (wr : World) : Prop := ∃ k : Nat, k ≤ 16 ∧ i = .int .i64 (k : Int) ∧ sum = .int .i64 (Ot.compTo d k : Int) ∧ Arr ival 0 18 wr N (digI d k) ∧ Arr ival 0 18 wr w.heap.size [] ∧ Below w.heap.size w wr
set_option maxHeartbeats 1000000 in
theorem adigits_any (d : W) (w : World) :
    Calls Try.prog 43 #[.int .u64 (uv d)] w fun e w' => e = .returned (.agg ((digI d 18).map ival).toArray) ∧ Below w.heap.size w w' := by
  have hz := zero_i18
  obtain ⟨w0, hw0⟩ : ∃ w0, w0 = (w.alloc (.cells zerosI18 61)).alloc (.cells zerosI18 61) := ⟨_, rfl⟩
  have a0 : Arr ival 0 18 w0 (w.heap.size + 1) (digI d 0) := by
    have := Arr.zero (α := Int) (f := ival) (d := 0) (n := 18) (w.alloc (.cells zerosI18 61)) 61 zerosI18 rfl
    have e : digI d 0 = [] := rfl
    rw [hw0, e]
    simpa using this
  have r0 : Arr ival 0 18 w0 w.heap.size [] := by
    rw [hw0]
    exact (Arr.zero (α := Int) (f := ival) (d := 0) (n := 18) w 61 zerosI18 rfl).below ((Below.refl (w.heap.size + 1) _).alloc (by simp) _) (by omega)
  have R0 := Lib.hid r0; clear r0
  have b0 : Below w.heap.size w w0 := by rw [hw0]; exact ((Below.refl _ _).alloc (Nat.le_refl _) _).alloc (by simp) _
  have W0 := Lib.hid hw0; have A0 := Lib.hid a0; have B0 := Lib.hid b0
  clear hw0 a0 b0
  go_enter Try.func43, Try.ntmps43
  go_wp2
  rw [← W0.out]
  clear hz
  go_loopw [4, 6] (ADigRel d (w.heap.size + 1) w) (fun _ i _ => 16 - (intOf i).toNat)
  case atStart => exact ⟨0, by omega, rfl, rfl, A0.out, R0.out, B0.out⟩
  case round =>
    obtain ⟨k, hk, rfl, rfl, ha, hr, hb⟩ := hrel
    have HR := Lib.hid hr
    have HA := Lib.hid ha; have HB := Lib.hid hb
    have hc := Ot.compTo_le d k
    by_cases hlt : k < 16
    · have hx := nib_wrap d (15 - k)
      have hx16 : Dg.nib d (15 - k) < 16 := Ot.dig_lt d k
      have hdk : Ot.digit d k = Dg.nib d (15 - k) := digit_low d k hlt
      have hck : Ot.compTo d (k + 1) = Ot.compTo d k + (15 - Dg.nib d (15 - k)) := rfl
      generalize Dg.nib d (15 - k) = x at hx hx16 hdk hck
      generalize hcc : Ot.compTo d k = c at hc hck
      have HDK := Lib.hid hdk
      have HCK := Lib.hid hck
      obtain ⟨hcell, hfz⟩ := ha.2 k (by omega)
      have A3 := Lib.hid (ha.push (digI_len d k) (by omega) (x : Int))
      have hx3 : (wr.setCell ⟨w.heap.size + 1, k, none⟩ (.int .i64 (x : Int))).cell? ⟨w.heap.size + 1, k, none⟩ = some (.int .i64 (x : Int)) := World.cell?_setCell_same _ _ _ hcell
      have B3 := Lib.hid (hb.setCell (p := ⟨w.heap.size + 1, k, none⟩) (Nat.le_succ _) (ival (x : Int)))
      have R3 := Lib.hid (hr.other ⟨w.heap.size + 1, k, none⟩ (ival (x : Int)) (by simp))
      clear ha hb hr hdk hck hcc
      go_wp2_with fail
      go_roundw
      case rel => exact ⟨k + 1, by omega, by go_num, by rw [HCK.out]; congr 1; omega, by rw [digI_succ, HDK.out]; exact A3.out, R3.out, B3.out⟩
      case measure => simp [intOf]; omega
    · obtain rfl : k = 16 := by omega
      have h16 : Ot.digit d 16 = Ot.compTo d 16 / 16 := rfl
      have h17 : Ot.digit d 17 = Ot.compTo d 16 % 16 := rfl
      generalize Ot.compTo d 16 = c at hc h16 h17
      have e : digI d 18 = (digI d 16 ++ [(c : Int) / 16]) ++ [(c : Int) % 16] := by
        rw [digI_succ, digI_succ, h16, h17]; simp
      obtain ⟨c16, f16⟩ := ha.2 16 (by omega)
      have a1 := ha.push (digI_len d 16) (by omega) ((c : Int) / 16)
      obtain ⟨c17, f17⟩ := ha.2 17 (by omega)
      have a2 := a1.push (k := 17) (by rw [List.length_append, digI_len]; rfl) (by omega) ((c : Int) % 16)
      rw [← e] at a2
      have b1 := hb.setCell (p := ⟨w.heap.size + 1, 16, none⟩) (Nat.le_succ _) (ival ((c : Int) / 16))
      have b2 := b1.setCell (p := ⟨w.heap.size + 1, 17, none⟩) (Nat.le_succ _) (ival ((c : Int) % 16))
      have r2 := (hr.other ⟨w.heap.size + 1, 16, none⟩ (ival ((c : Int) / 16)) (by simp)).other ⟨w.heap.size + 1, 17, none⟩ (ival ((c : Int) % 16)) (by simp)
      have hlen : ((digI d 18).map ival).length = 18 := by rw [List.length_map, digI_len]
      have hone : ∀ v ∈ (digI d 18).map ival, v.oneCell' = true := fun v hv => by obtain ⟨z, _, rfl⟩ := List.mem_map.1 hv; rfl
      have G2 := Lib.hid (a2.range (by rw [digI_len]; exact Nat.le_refl _))
      obtain ⟨wx, hwx⟩ : ∃ wx, wx = (wr.setCell ⟨w.heap.size + 1, 16, none⟩ (.int .i64 ((c : Int) / 16))).setCell ⟨w.heap.size + 1, 17, none⟩ (.int .i64 ((c : Int) % 16)) := ⟨_, rfl⟩
      have r3 : Arr ival 0 18 wx w.heap.size [] := by rw [hwx]; exact r2
      have b3 : Below w.heap.size w wx := by rw [hwx]; exact b2
      have hst : (storeCells ⟨w.heap.size, 0, none⟩ ((digI d 18).map ival) 0).run Try.prog wx = .ok () (wx.setCells w.heap.size 0 ((digI d 18).map ival)) := by
        have := run_storeCells_cells (P := Try.prog) w.heap.size 0 ((digI d 18).map ival) 0 wx (fun j hj => by simpa using (r3.there j (by omega)).1) (fun j hj => by simpa using (r3.there j (by omega)).2) hone
        simpa using this
      have H2 := Lib.hid (World.rangeAt_setCells_same wx w.heap.size 0 ((digI d 18).map ival) (by rw [hlen]; exact r3.there))
      have B2 := Lib.hid (below_setCells w.heap.size (Nat.le_refl _) ((digI d 18).map ival) 0 _ b3)
      have HLEN := Lib.hid hlen
      have hrun : (loadVar 61 ⟨w.heap.size, 0, none⟩).run Try.prog (wx.setCells w.heap.size 0 ((digI d 18).map ival)) = .ok (.agg ((digI d 18).map ival).toArray) (wx.setCells w.heap.size 0 ((digI d 18).map ival)) :=
        run_loadVar_mid _ _ _ _ _ _ H2.out Try.underlying61 rfl (by rw [hlen]; kernel_rfl)
      obtain ⟨wy, hwy⟩ : ∃ wy, wy = wx.setCells w.heap.size 0 ((digI d 18).map ival) := ⟨_, rfl⟩
      rw [← hwy] at hst hrun
      have BY : Hid (Below w.heap.size w wy) := Lib.hid (by rw [hwy]; exact B2.out)
      rw [hwx] at hst
      clear ha hb hr h16 h17 e a1 a2 b1 b2 r2 r3 b3 hlen hone H2 B2 hwy hwx HR
      unfold ival at c16 c17
      have hinfo : (Try.prog.info? 61).map (·.size) = some 18 := by kernel_rfl
      go_wp2_with (first
        | (refine wpList_load_mid rfl 61 (.tmp 3) rfl (w.heap.size + 1) 0 rfl ((digI d 18).map ival) _ G2.out Try.underlying61 rfl (by rw [HLEN.out]; exact hinfo) ?_))
      refine bodyPost_ret (results_cell rfl _ _ _ rfl hrun) rfl ⟨rfl, BY.out⟩
end Go.Proofs.Ythkkjocmglcjnaa
