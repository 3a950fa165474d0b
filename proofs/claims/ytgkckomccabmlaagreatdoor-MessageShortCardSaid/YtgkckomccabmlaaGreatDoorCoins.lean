/-
  What dice give: coins. At most the block of the dice has turned. No condition.
-/
import Derived.Test.YtgkckomccabmlaaGreatDoorKitB
import Derived.Test.YtgkckomccabmlaaGreatDoorLmA
import Derived.Deep.AppendLies
namespace Go.Proofs.YtgkckomccabmlaaGreatDoor
open Go.ChangeShapes Go.WideShapes Go.ChangeAt Go.RowKit
open Dg (W B)
theorem OwnI.off {base g : Nat} {w : World} {v : Value} {l : List Int} (h : OwnI base w v l) (hg : g < base) : Off g v := by
  rcases h.2 with ⟨rfl, h0⟩ | ⟨b, cap, cur, rfl, h1, _⟩
  · exact Off.none _ _ _
  · exact Off.some (by omega)
theorem OwnI.but {base g : Nat} {w w' : World} {v : Value} {l : List Int} (h : OwnI base w v l) (hb : But g w w') (hg : g < base) : OwnI base w' v l := by
  obtain ⟨h1, h2⟩ := h
  refine ⟨h1, ?_⟩
  rcases h2 with h2 | ⟨b, cap, cur, hv, hbb, hh, r⟩
  · exact .inl h2
  · exact .inr ⟨b, cap, cur, hv, hbb, by rw [hb.block b (Array.getElem?_eq_some_iff.1 hh).1 (by omega)]; exact hh, r⟩
theorem OwnI.far {base : Nat} {w : World} {v : Value} {l : List Int} (h : OwnI base w v l) (p : Addr) (hp : p.block < base) (x : Value) : OwnI base (w.setCell p x) v l := by
  obtain ⟨h1, h2⟩ := h
  refine ⟨h1, h2.imp id ?_⟩
  rintro ⟨g, cap, cur, e1, e2, e3, e4⟩
  exact ⟨g, cap, cur, e1, e2, by rw [Below.heap_setCell _ _ _ _ (by omega)]; exact e3, e4⟩
theorem OwnI.nil (w : World) (base : Nat) : OwnI base w (.slice none 0 0) [] := World.ownsRow_nil _ _ _ _
theorem OwnI.drew {base : Nat} {w : World} {v : Value} {l : List Int} (h : OwnI base w v l) : OwnI base w.drew v l := h
theorem OwnI.more {base : Nat} {w : World} {v : Value} {l : List Int} (h : OwnI base w v l) (o : Obj) : OwnI base (w.alloc o) v l := World.ownsRow.alloc h o
theorem OwnI.row {base n : Nat} {w : World} {v : Value} {l : List Int} (h : OwnI base w v l) (hn : n = l.length) : w.ownsRow base 3 1 v n (l.map ival) := by subst hn; exact h
theorem OwnI.of_row {base m : Nat} {w : World} {v : Value} {l : List Int} (h : w.ownsRow base 3 1 v m (l.map ival)) (hn : m = l.length) : OwnI base w v l := by subst hn; exact h
def coinsV (s : W) (bits : Value) : Value := .agg #[.int .u64 (uv s), bits]
theorem load_coins (w : World) (N : Nat) (s : W) (v : Value) (h0 : w.cell? ⟨N, 0, none⟩ = some (.int .u64 (uv s))) (h1 : w.cell? ⟨N, 1, none⟩ = some v) : (loadVar 56 ⟨N, 0, none⟩).run Tryz.prog w = .ok (coinsV s v) w := by
  simp [loadVar, go_sem, h0, h1, coinsV]
/-- the cells of a block stay -/
def KeepsBlock (N : Nat) (a b : World) : Prop := ∀ i, b.cell? ⟨N, i, none⟩ = a.cell? ⟨N, i, none⟩
theorem keepsWay (N : Nat) : Way (KeepsBlock N) := ⟨fun _ _ => rfl, fun h k i => (k i).trans (h i)⟩
theorem news_int (w : World) (x : Nat) (t : TypeId) : ∀ j u, [ival x][j]? = some u → (w.alloc (.cells #[.int .i64 (x : Int)] t)).cell? ((⟨w.heap.size, 0, none⟩ : Addr).add j) = some u := by
  intro j u hu
  obtain ⟨hj, e⟩ := List.getElem?_eq_some_iff.1 hu
  obtain rfl : j = 0 := by simp at hj; omega
  rw [add_plain', Nat.zero_add, World.cell?_alloc_new, ← e]; rfl
theorem two_ints (w : World) (t : TypeId) : ∀ j, j < ([0, 1] : List Int).length → (w.alloc (.cells #[.int .i64 0, .int .i64 1] t)).cell? ⟨w.heap.size, j, none⟩ = some (.int .i64 (([0, 1] : List Int).getD j 0)) := by
  intro j hj
  rw [World.cell?_alloc_new]
  rcases (show j = 0 ∨ j = 1 by simp at hj; omega) with rfl | rfl <;> rfl
theorem one_int (x : Int) : ∀ u ∈ [ival x], u.oneCell' = true := by
  intro u hu
  obtain rfl : u = ival x := by simpa using hu
  rfl
def CRel (g : Nat) (l : List Int) (s : Nat) (x : W) (kb : Nat) (w : World) (n : Value) (wr : World) : Prop :=
  ∃ (j t : Nat) (bv : Value) (bl : List Int), n = .int .i64 (j : Int) ∧ t + j ≤ s + 8 ∧ bl.length + j ≤ 5 ∧ RecN wr w.heap.size [.int .u64 0, .slice none 0 0] ∧ RecN wr kb [.int .u64 (uv x), bv] ∧ OwnI (kb + 1) wr bv bl ∧ kb + 1 ≤ wr.heap.size ∧ Dy g l s t w wr
/-- what is returned -/
def CPost (g : Nat) (l : List Int) (s : Nat) (w : World) (e : Ending) (w' : World) : Prop :=
  ∃ x bv bl t, e = .returned (coinsV x bv) ∧ OwnI w.heap.size w' bv bl ∧ bl.length ≤ 7 ∧ t ≤ s + 8 ∧ Dy g l s t w w'
theorem CPost.fin {g : Nat} {l : List Int} {s t kb : Nat} {w w1 : World} {x : W} {bv : Value} {bl : List Int} (ho : OwnI (kb + 1) w1 bv bl) (hk : w.heap.size < kb) (hb : bl.length ≤ 7) (ht : t ≤ s + 8) (hd : Dy g l s t w w1) (u v : Value) :
    CPost g l s w (.returned (coinsV x bv)) ((w1.setCell ⟨w.heap.size, 0, none⟩ u).setCell ⟨w.heap.size, 1, none⟩ v) :=
  ⟨x, bv, bl, t, rfl, ((ho.far ⟨w.heap.size, 0, none⟩ (by show w.heap.size < kb + 1; omega) _).far ⟨w.heap.size, 1, none⟩ (by show w.heap.size < kb + 1; omega) _).mono (by omega), hb, ht, (hd.setCell (p := ⟨w.heap.size, 0, none⟩) (Nat.le_refl _) _).setCell (p := ⟨w.heap.size, 1, none⟩) (Nat.le_refl _) _⟩
set_option maxRecDepth 100000 in
set_option maxHeartbeats 1000000 in
theorem coins_any (g : Nat) (l : List Int) (s : Nat) (w : World) (hd : IsDice w g l s) :
    Calls Tryz.prog 27 #[.pointer (some ⟨g, 0, none⟩)] w (CPost g l s w) := by
  have D0 := Lib.hid ((Dy.new hd).alloc (.cells #[.int .u64 0, .slice none 0 0] 56))
  have R0 := Lib.hid (RecN.new w #[.int .u64 0, .slice none 0 0] 56)
  have C := Lib.hid (next_dy 1000 g l s _ (by omega) (by omega) D0.out.dice)
  have hg : g < w.heap.size := hd.lt
  obtain ⟨i0, hi, hz0, hz1, hz2⟩ := info_parts infoInt
  clear hd
  go_enter Tryz.func27, Tryz.ntmps27
  go_wp2_with fail
  refine (C.out).mono ?_; rintro e w1 ⟨r, rfl, hr, -, d1⟩
  obtain ⟨x, hx⟩ : ∃ x : W, uv x = (r : Int) := ⟨BitVec.ofNat 64 r, by unfold uv; rw [BitVec.toNat_ofNat, Nat.mod_eq_of_lt (by omega)]⟩
  have D1 := Lib.hid (D0.out.trans d1)
  have R1 := Lib.hid (R0.out.but d1.but (by omega))
  have hs1 : w.heap.size < w1.heap.size := R1.out.1
  have D2 := Lib.hid (D1.out.alloc (.cells #[.int .u64 (uv x), .slice none 0 0] 56))
  have R2 := Lib.hid (R1.out.alloc (.cells #[.int .u64 (uv x), .slice none 0 0] 56))
  have K2 := Lib.hid (RecN.new w1 #[.int .u64 (uv x), .slice none 0 0] 56)
  have C2 := Lib.hid (next_dy 4 g l (s + 1) _ (by omega) (by omega) D2.out.dice)
  obtain ⟨kb, hkb⟩ : ∃ kb, kb = w1.heap.size := ⟨_, rfl⟩
  rw [← hkb] at K2 hs1
  have HKB := Lib.hid hkb
  clear d1 hkb
  rw [hx] at D2 R2 K2 C2
  have HX := Lib.hid hx
  clear hx
  go_wp2_with fail
  rw [← HKB.out]
  refine (C2.out).mono ?_; rintro e w3 ⟨r2, rfl, hr2, -, d2⟩
  have D3 := Lib.hid (D2.out.trans d2)
  have R3 := Lib.hid (R2.out.but d2.but (by omega))
  have K3 := Lib.hid (K2.out.but d2.but (by omega))
  have S3 := Lib.hid (show kb + 1 ≤ w3.heap.size from K3.out.1)
  clear d2
  by_cases h0 : r2 = 0
  · subst h0
    have x0 := K3.out.c 0 rfl; have x1 := K3.out.c 1 rfl
    have y0 := R3.out.c 0 rfl; have y1 := R3.out.c 1 rfl
    have z0 := R3.out.f 0 (by simp); have z1 := R3.out.f 1 (by simp)
    go_wp2_with fail
    refine bodyPost_ret (results_cell rfl _ _ ⟨w.heap.size, 0, none⟩ rfl (load_coins _ _ x (.slice none 0 0) (by rw [HX.out]; go_simp) (by go_simp))) rfl ?_
    exact CPost.fin (kb := kb) (OwnI.nil _ _) hs1 (Nat.zero_le _) (by omega) D3.out _ _
  · have t3 : (0 : Int) < (r2 : Int) := by omega
    have C3 := Lib.hid (next_dy 4 g l (s + 1 + 1) w3 (by omega) (by omega) D3.out.dice)
    go_wp2_with fail
    refine (C3.out).mono ?_; rintro e w4 ⟨r3, rfl, hr3, -, d3⟩
    have D4 := Lib.hid (D3.out.trans d3)
    have R4 := Lib.hid (R3.out.but d3.but (by omega))
    have K4 := Lib.hid (K3.out.but d3.but (by omega))
    have S4 := Lib.hid (show kb + 1 ≤ w4.heap.size from K4.out.1)
    obtain ⟨n0, hn0⟩ : ∃ n0, n0 = 2 + r3 := ⟨_, rfl⟩
    have hnI : (2 : Int) + (r3 : Int) = (n0 : Int) := by omega
    have hn5 : n0 ≤ 5 := by omega
    have HN := Lib.hid hn5
    clear d3 t3 h0 hr3 hn0
    go_wp2
    go_loopw [4] (CRel g l s x kb w) (fun n _ => (intOf n).toNat)
    case atStart => exact ⟨n0, s + 1 + 1 + 1, .slice none 0 0, [], rfl, by have := HN.out; omega, by have := HN.out; simp; omega, R4.out, by rw [HX.out]; exact K4.out, OwnI.nil _ _, S4.out, D4.out⟩
    case round =>
      obtain ⟨j, t, bv, bl, rfl, htj, hbj, hR, hK, hO, hS, hD⟩ := hrel
      have RR := Lib.hid hR; have KK := Lib.hid hK; have OO := Lib.hid hO; have SS := Lib.hid hS; have DD := Lib.hid hD; have HT := Lib.hid htj
      obtain ⟨a, cap, rfl⟩ := hO.has.form
      obtain ⟨q, hq⟩ : ∃ q, q = bl.length := ⟨_, rfl⟩
      rw [← hq] at KK OO hbj
      have HQ := Lib.hid hq
      rw [← hq] at hK
      clear hR hO hS hD htj hq
      by_cases hj : 0 < j
      · have tj : (0 : Int) < (j : Int) := by omega
        have C5 := Lib.hid (next_dy 2 g l t wr.drew (by omega) (by omega) DD.out.dice.drew)
        have x1 := hK.c 1 rfl
        clear hK
        have hkg : Hid (kb ≠ g) := Lib.hid (by omega)
        go_wp2_with fail
        go_region_law (first
          | (go_simp; go_at_call 24; refine (C5.out).mono ?_; rintro e w5 ⟨r5, rfl, hr5, -, d5⟩; have x5 : w5.cell? ⟨kb, 1, none⟩ = some (.slice a q cap) := d5.cell (by exact hkg.out) x1; have x5a : ∀ o, (w5.alloc o).cell? ⟨kb, 1, none⟩ = some (.slice a q cap) := fun o => kalloc x5 o; have R5 := Lib.hid (RR.out.drew.but d5.but (by omega)); have D5 := Lib.hid (DD.out.drew.trans d5); have K5 := Lib.hid (KK.out.drew.but d5.but hkg.out); have O5 := Lib.hid (OO.out.drew.but d5.but (by have := hkg.out; omega)); have S5 := Lib.hid (Nat.le_trans SS.out d5.but.size))
          | (refine step_append_lies _ rfl (.tmp 20) (.tmp 23) _ rfl (kb + 1) 3 i0 _ 1 8 Tryz.underlying28 hi hz0 hz1 hz2 rfl (by omega) (.slice a q cap) q (bl.map ival) rfl (OwnI.row (OwnI.more O5.out _) HQ.out) ⟨w5.heap.size, 0, none⟩ 1 1 [ival r5] rfl rfl (news_int w5 r5 _) (one_int r5) (by omega) (by unfold maxLen; omega) (by omega) (by have := S5.out; simp; omega) (w5.heap.size + 1) (by simp) ?_; intro g1 cap1 w6 own6 grow6 at6 lt6; have B6 := Lib.hid (below_grownI (Below.refl (kb + 1) _) (by have := S5.out; simp; omega) (OwnI.more O5.out _) grow6); have K6 := Lib.hid ((K5.out.alloc _).below B6.out (Nat.lt_succ_self _)); have x6 := K6.out.c 1 rfl; have f6 := K6.out.f 1 (by simp)))
        all_goals
          have O6 := Lib.hid (OwnI.of_row (l := bl ++ [(r5 : Int)]) (by rw [List.map_append]; exact own6) (by rw [List.length_append, ← HQ.out]; rfl))
          have R6 := Lib.hid ((R5.out.alloc (.cells #[.int .i64 (r5 : Int)] 3)).below B6.out (by omega))
          have D6 := Lib.hid ((D5.out.alloc (.cells #[.int .i64 (r5 : Int)] 3)).later (B6.out.mono (by omega)))
          have S6 := Lib.hid (show kb + 1 ≤ w6.heap.size from K6.out.1)
          clear own6 grow6 at6 lt6 x5 x5a
          go_wp2_with fail
          go_roundw
          case rel => exact ⟨j - 1, t + 1, _, bl ++ [(r5 : Int)], by go_num, by have := HT.out; omega, by have := HQ.out; simp only [List.length_append, List.length_singleton]; omega, R6.out.far ⟨kb, 1, none⟩ (by show kb ≠ _; omega) _, K6.out.set 1 (by simp) _, O6.out.far ⟨kb, 1, none⟩ (by show kb < kb + 1; omega) _, by simpa using S6.out, D6.out.setCell (p := ⟨kb, 1, none⟩) (by show _ ≤ kb; omega) _⟩
          case measure => simp [intOf]; omega
      · obtain rfl : j = 0 := by omega
        have x0 := hK.c 0 rfl; have x1 := hK.c 1 rfl
        have f1 := hK.f 1 (by simp)
        have y0 := RR.out.c 0 rfl; have y1 := RR.out.c 1 rfl
        have z0 := RR.out.f 0 (by simp); have z1 := RR.out.f 1 (by simp)
        clear hK
        go_wp2_with (at_builtin; refine wpList_append_ints rfl (.tmp 27) (.tmp 28) rfl (kb + 1) (.slice a q cap) bl [0, 1] wr.heap.size 2 2 rfl (OwnI.more OO.out _) rfl rfl (by omega) (two_ints wr _) (by have := HQ.out; omega) (by have := SS.out; simp; omega) ?_)
        intro g1 cap1 w6 own6 grow6
        have B6 := Lib.hid (below_grownI (Below.refl (kb + 1) _) (by have := SS.out; simp; omega) (OwnI.more OO.out (.cells #[.int .i64 0, .int .i64 1] 3)) grow6)
        have K6 := Lib.hid ((KK.out.alloc (.cells #[.int .i64 0, .int .i64 1] 3)).below B6.out (Nat.lt_succ_self _))
        have R6 := Lib.hid ((RR.out.alloc (.cells #[.int .i64 0, .int .i64 1] 3)).below B6.out (by omega))
        have D6 := Lib.hid ((DD.out.alloc (.cells #[.int .i64 0, .int .i64 1] 3)).later (B6.out.mono (by omega)))
        have O6 := Lib.hid own6
        clear own6 grow6 x0 x1 f1 y0 y1 z0 z1
        have x0 := K6.out.c 0 rfl; have x1 := K6.out.c 1 rfl; have f1 := K6.out.f 1 (by simp)
        have y0 := R6.out.c 0 rfl; have y1 := R6.out.c 1 rfl
        have z0 := R6.out.f 0 (by simp); have z1 := R6.out.f 1 (by simp)
        have hnk : w.heap.size ≠ kb := by omega
        have hnk2 : kb ≠ w.heap.size := by omega
        go_wp2_with fail
        refine bodyPost_ret (results_cell rfl _ _ ⟨w.heap.size, 0, none⟩ rfl (load_coins _ _ x (.slice (some ⟨g1, 0, none⟩) (bl.length + 2) cap1) (by go_simp) (by go_simp))) rfl ?_
        exact CPost.fin (kb := kb) (O6.out.far ⟨kb, 1, none⟩ (Nat.lt_succ_self _) _) hs1 (by have := HQ.out; simp; omega) (by have := HT.out; omega) (D6.out.setCell (p := ⟨kb, 1, none⟩) (by show _ ≤ kb; omega) _) _ _
end Go.Proofs.YtgkckomccabmlaaGreatDoor
