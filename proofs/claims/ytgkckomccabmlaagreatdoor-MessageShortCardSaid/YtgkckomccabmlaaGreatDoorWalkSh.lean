/-
  MessageShort's walk. Nothing that was there has changed. Condition: the library's table of powers of ten holds what its initialiser lays.
-/
import Derived.Test.YtgkckomccabmlaaGreatDoorWalkShort
namespace Go.Proofs.YtgkckomccabmlaaGreatDoor
open Go.ChangeShapes Go.WideShapes Go.ChangeAt Go.RowKit
open Go.Maps (Keyed has IsMap)
open Ms (Msg)
set_option linter.unusedVariables false
theorem IsDice.other {w w' : World} {g B t : Nat} {l : List Int} (h : IsDice w g l t) (hb : w.grownBy w' (some B)) (hB : g < B) (hs : B < w.heap.size) : IsDice w' g l t :=
  h.below (M := B) ⟨hb.os, hb.tape, hb.output, hb.size, fun k hk => by
    by_cases hlt : k < w.heap.size
    · exact hb.block k hlt (by simp; omega)
    · omega⟩ hB
theorem But.grown {g : Nat} {w w' : World} (h : But g w w') : w.grownBy w' (some g) := ⟨h.os, h.tape, h.output, h.size, fun k hk hne => h.block k hk (by simpa using hne)⟩
theorem Below.grownN {w w' : World} (h : Below w.heap.size w w') : w.grownBy w' none := ⟨h.os, h.tape, h.output, h.size, fun k hk _ => h.block k hk⟩
/-- what holds at the head of the loop -/
structure AtS (w : World) (g c0 B : Nat) (N F : Int) (l : List Int) (j : Nat) (wr : World) : Prop where
  gl : w.heap.size ≤ g
  gc : g < c0
  cB : c0 < B
  map : ∃ D : DataW Value, wr.ownsMap Tryz.prog 9 heldR B j D ∧ Seen D
  dice : ∃ t, IsDice wr g l t
  cN : wr.cell? ⟨c0, 0, none⟩ = some (.int .i64 N)
  cF : wr.cell? ⟨c0, 1, none⟩ = some (.int .i64 F)
  below : Below w.heap.size w wr
theorem AtS.start {w w1 w2 : World} {g t : Nat} {l : List Int} (hg : w.heap.size = g) (b1 : Below w.heap.size w w1) (dy : Dy g l 0 t w1 w2) (N F : Int) :
    AtS w g w2.heap.size (w2.heap.size + 1) N F l 0 ((w2.alloc (.cells #[.int .i64 N, .int .i64 F] 51)).alloc (.map #[] 0)) := by
  have hs := dy.size
  have hlt := dy.lt
  have h0 : w.heap.size ≤ w2.heap.size := Nat.le_trans b1.size hs
  have e1 : (w2.alloc (.cells #[.int .i64 N, .int .i64 F] 51)).heap.size = w2.heap.size + 1 := by simp
  have m0 : World.ownsMap ((w2.alloc (.cells #[.int .i64 N, .int .i64 F] 51)).alloc (.map #[] 0)) Tryz.prog 9 heldR (w2.heap.size + 1) 0 (.map []) := by
    have := World.ownsMap_made (w2.alloc (.cells #[.int .i64 N, .int .i64 F] 51)) Tryz.prog 9 heldR
    rw [e1] at this
    exact this
  exact {
    gl := by omega
    gc := by omega
    cB := by omega
    map := ⟨.map [], m0, Seen.empty⟩
    dice := ⟨t, (dy.dice.alloc _).alloc _⟩
    cN := by go_simp
    cF := by go_simp
    below := ((b1.trans (dy.but.under (by omega) b1.size)).alloc h0 _).alloc (by rw [e1]; omega) _ }
theorem kmsg_law (kind : Int) (hk : kind = 7 ∨ kind = 8 ∨ kind = 9) (cn cf epoch inst : Int) (g : Nat) (l : List Int) (s : Nat) (w : World) (hd : IsDice w g l s) :
    Calls Tryz.prog 26 #[.pointer (some ⟨g, 0, none⟩), .agg #[.int .i64 cn, .int .i64 cf], .agg #[.int .u64 0, .slice none 0 0], .int .u64 0, .int .i64 0, .int .i64 kind, .int .i64 epoch, .int .i64 inst] w fun e w' =>
      ∃ r b t : Nat, e = .returned (.agg #[.int .i64 kind, .int .i64 epoch, .int .i64 inst, .int .i64 (r : Int), .int .i64 (b : Int), .int .u64 0, .int .i64 0, .slice none 0 0, .slice none 0 0]) ∧ r < 3 ∧ b ≤ 3 ∧ Dy g l s t w w' :=
  (kmsg_short kind hk cn cf 0#64 (.slice none 0 0) 0 0 epoch inst g l s w hd).mono fun e w' ⟨r, b, t, h1, h2, h3, _, h5⟩ => ⟨r, b, t, h1, h2, h3, h5⟩
def Z9 : Array Value := #[.int .i64 0, .int .i64 0, .int .i64 0, .int .i64 0, .int .i64 0, .int .u64 0, .int .i64 0, .slice none 0 0, .slice none 0 0]
/-- behind the message's making -/
def Made (wr : World) (g B : Nat) (l : List Int) (p : Value) (wx : World) : Prop :=
  ∃ (M k e i r b : Nat), p = .pointer (some ⟨M, 0, none⟩) ∧ wr.heap.size ≤ M ∧ Small k e i r b ∧ RecN wx M [.int .i64 (k : Int), .int .i64 (e : Int), .int .i64 (i : Int), .int .i64 (r : Int), .int .i64 (b : Int), .int .u64 0, .int .i64 0, .slice none 0 0, .slice none 0 0] ∧ But g wr wx ∧ ∃ t, IsDice wx g l t
/-- below B nothing but block g has turned -/
structure Far (g B : Nat) (w w' : World) : Prop where
  os : w'.os = w.os
  tape : w'.tape = w.tape
  output : w'.output = w.output
  size : w.heap.size ≤ w'.heap.size
  block : ∀ k, k < B → k ≠ g → w'.heap[k]? = w.heap[k]?
theorem Far.refl (g B : Nat) (w : World) : Far g B w w := ⟨rfl, rfl, rfl, Nat.le_refl _, fun _ _ _ => rfl⟩
theorem Far.trans {g B : Nat} {a b c : World} (h : Far g B a b) (k : Far g B b c) : Far g B a c :=
  ⟨k.os.trans h.os, k.tape.trans h.tape, k.output.trans h.output, Nat.le_trans h.size k.size, fun j hj hg => (k.block j hj hg).trans (h.block j hj hg)⟩
theorem farWay (g B : Nat) : Way (Far g B) := ⟨Far.refl g B, fun h k => h.trans k⟩
theorem Far.of_but {g B : Nat} {w w' : World} (h : But g w w') (hB : B ≤ w.heap.size) : Far g B w w' := ⟨h.os, h.tape, h.output, h.size, fun k hk hg => h.block k (by omega) hg⟩
theorem Far.of_below {g B : Nat} {w w' : World} (h : Below B w w') : Far g B w w' := ⟨h.os, h.tape, h.output, h.size, fun k hk _ => h.block k hk⟩
theorem Far.alloc {g B : Nat} {w : World} (hB : B ≤ w.heap.size) (o : Obj) : Far g B w (w.alloc o) := Far.of_below ((Below.refl B w).alloc hB o)
theorem Far.but {g B : Nat} {w w' : World} (h : Far g B w w') (hB : w.heap.size = B) : But g w w' := ⟨h.os, h.tape, h.output, h.size, fun k hk hg => h.block k (by omega) hg⟩
theorem Far.cell {g B : Nat} {w w' : World} (h : Far g B w w') {p : Addr} {v : Value} (hp : p.block < B) (hg : p.block ≠ g) (hv : w.cell? p = some v) : w'.cell? p = some v :=
  (World.cell?_of_block (w := w) (h.block p.block hp hg)).trans hv
/-- nine cells written -/
def nine (w : World) (M : Nat) (a b c d e f h i j : Value) : World := ((((((((w.setCell ⟨M, 0, none⟩ a).setCell ⟨M, 1, none⟩ b).setCell ⟨M, 2, none⟩ c).setCell ⟨M, 3, none⟩ d).setCell ⟨M, 4, none⟩ e).setCell ⟨M, 5, none⟩ f).setCell ⟨M, 6, none⟩ h).setCell ⟨M, 7, none⟩ i).setCell ⟨M, 8, none⟩ j
theorem below_nine {B M : Nat} (w : World) (h : B ≤ M) (a b c d e f x i j : Value) : Below B w (nine w M a b c d e f x i j) :=
  ((((((((((Below.refl B w).setCell (p := ⟨M, 0, none⟩) h a).setCell (p := ⟨M, 1, none⟩) h b).setCell (p := ⟨M, 2, none⟩) h c).setCell (p := ⟨M, 3, none⟩) h d).setCell (p := ⟨M, 4, none⟩) h e).setCell (p := ⟨M, 5, none⟩) h f).setCell (p := ⟨M, 6, none⟩) h x).setCell (p := ⟨M, 7, none⟩) h i).setCell (p := ⟨M, 8, none⟩) h j)
theorem far_nine {g B M : Nat} {w : World} (h : B ≤ M) (a b c d e f x i j : Value) : Far g B w (nine w M a b c d e f x i j) := Far.of_below (below_nine w h a b c d e f x i j)
theorem rec_nine {M : Nat} {w : World} {z0 z1 z2 z3 z4 z5 z6 z7 z8 : Value} (h : RecN w M [z0, z1, z2, z3, z4, z5, z6, z7, z8]) (a b c d e f x i j : Value) : RecN (nine w M a b c d e f x i j) M [a, b, c, d, e, f, x, i, j] :=
  ((((((((h.set 0 (by simp) a).set 1 (by simp) b).set 2 (by simp) c).set 3 (by simp) d).set 4 (by simp) e).set 5 (by simp) f).set 6 (by simp) x).set 7 (by simp) i).set 8 (by simp) j
theorem dice_nine {g M t : Nat} {l : List Int} {w : World} (h : IsDice w g l t) (hM : g < M) (a b c d e f x i j : Value) : IsDice (nine w M a b c d e f x i j) g l t := h.below (below_nine w (Nat.le_refl M) a b c d e f x i j) hM
theorem next_three (g : Nat) (l : List Int) (s : Nat) (w : World) (hd : IsDice w g l s) : Calls Tryz.prog 24 #[.pointer (some ⟨g, 0, none⟩), .int .i64 3] w fun e w' => ∃ r : Nat, e = .returned (.int .i64 (r : Int)) ∧ r < 3 ∧ True ∧ Dy g l s (s + 1) w w' :=
  (next_dy 3 g l s w (by omega) (by omega) hd).mono fun e w' ⟨r, h1, h2, _, h4⟩ => ⟨r, h1, h2, trivial, h4⟩
theorem IsDice.later {w w' : World} {g t : Nat} {l : List Int} (h : IsDice w g l t) (hb : Below w.heap.size w w') : IsDice w' g l t := h.below hb h.lt
theorem AtS.but {w wr wx : World} {g c0 B j : Nat} {N F : Int} {l : List Int} (h : AtS w g c0 B N F l j wr) (hb : But g wr wx) (hd : ∃ t, IsDice wx g l t) : AtS w g c0 B N F l j wx := by
  obtain ⟨gl, gc, cB, ⟨D, m, sn⟩, -, cN, cF, bl⟩ := h
  exact ⟨gl, gc, cB, ⟨D, m.kept hb.grown (by simp; omega), sn⟩, hd, hb.kept (by show c0 ≠ g; omega) cN, hb.kept (by show c0 ≠ g; omega) cF, bl.trans (hb.under gl bl.size)⟩
theorem AtS.later {w wr wx : World} {g c0 B j : Nat} {N F : Int} {l : List Int} (h : AtS w g c0 B N F l j wr) (hb : Below wr.heap.size wr wx) : AtS w g c0 B N F l j wx := by
  obtain ⟨gl, gc, cB, ⟨D, m, sn⟩, ⟨t, d⟩, cN, cF, bl⟩ := h
  exact ⟨gl, gc, cB, ⟨D, m.kept (Below.grownN hb) (by simp), sn⟩, ⟨t, IsDice.later d hb⟩, (hb.cell (World.block_lt_of_cell? _ _ cN)).trans cN, (hb.cell (World.block_lt_of_cell? _ _ cF)).trans cF, bl.trans (hb.mono bl.size)⟩
theorem AtS.put {w wr wx : World} {g c0 B j : Nat} {N F : Int} {l : List Int} (h : AtS w g c0 B N F l j wr) {D : DataW Value} (m : wx.ownsMap Tryz.prog 9 heldR B (j + 1) D) (sn : Seen D) (hg : wr.grownBy wx (some B)) : AtS w g c0 B N F l (j + 1) wx := by
  obtain ⟨gl, gc, cB, ⟨D0, m0, -⟩, ⟨t, d⟩, cN, cF, bl⟩ := h
  have hl : B < wr.heap.size := m0.lt
  have hc : ∀ {p : Addr} {v : Value}, p.block ≠ B → wr.cell? p = some v → wx.cell? p = some v := fun hp hv => (World.cell?_of_block (hg.block _ (World.block_lt_of_cell? _ _ hv) (by simpa using hp))).trans hv
  exact ⟨gl, gc, cB, ⟨D, m, sn⟩, ⟨t, d.other hg (by omega) hl⟩, hc (by show c0 ≠ B; omega) cN, hc (by show c0 ≠ B; omega) cF, bl.grown hg bl.size (fun k e => by cases e; omega)⟩
/-- the text's length, and its last byte -/
theorem short_long {k e i r b : Nat} (hs : Small k e i r b) : 8 ≤ (Ms.of (smsg k e i r b)).size ∧ (Ms.of (smsg k e i r b)).size ≤ 100 := by
  obtain ⟨a1, a2, a3, a4, a5⟩ := hs
  rw [smsg_of k e i r b a1 a2 a3 a4 a5]
  show 8 ≤ (stext k e i r b).toArray.size ∧ (stext k e i r b).toArray.size ≤ 100
  rcases a1 with rfl | rfl | rfl <;> simp [stext, Ms.nameL]
theorem short_last {k e i r b : Nat} (hs : Small k e i r b) (n : Nat) (hn : n = (Ms.of (smsg k e i r b)).size) (w : World) : (Instr.index 9 (.string (Ms.of (smsg k e i r b))) (.int .i64 ((n : Int) - 1))).run Tryz.prog w = .ok (.int .u8 41) w := by
  have h8 := short_long hs
  rw [run_index_string w 9 _ .i64 _ Tryz.underlying9, dif_pos (by omega)]
  have h41 : ∀ (X : ByteArray) (hX : X = Ms.of (smsg k e i r b)) (q : Nat) (hq : q < X.size), q = n - 1 → X[q].toNat = 41 := by
    intro X hX q hq hqn
    obtain ⟨a1, a2, a3, a4, a5⟩ := hs
    rw [smsg_of k e i r b a1 a2 a3 a4 a5] at hX hn
    subst hX
    have hn2 : n = (stext k e i r b).length := by rw [hn]; show (stext k e i r b).toArray.size = _; simp
    show ((stext k e i r b).toArray[q]'hq).toNat = 41
    rw [List.getElem_toArray]
    subst hqn
    subst hn2
    rcases a1 with rfl | rfl | rfl <;> simp [stext, Ms.nameL]
  rw [h41 _ rfl _ _ (by omega)]
  rfl
theorem none_text : Ms.of ⟨0, 0, 0, 0, 0, 0#64, 0, [], []⟩ = { data := #[] } := rfl
theorem key_text : Ms.of ⟨12, 3, 0, 0, 0, 0#64, 0, [], []⟩ = { data := #[107, 101, 121, 40, 51, 44, 48, 41] } := by
  have e : Ms.of ⟨12, 3, 0, 0, 0, 0#64, 0, [], []⟩ = Ms.text 12 3 0 0 0 := rfl
  have i3 : istr 3 = ⟨#[51]⟩ := istr_one 3 (by omega)
  have i0 : istr 0 = ⟨#[48]⟩ := istr_one 0 (by omega)
  rw [e]
  unfold Ms.text Ms.text0 Ms.more
  rw [i3, i0]
  rfl
theorem small_wf {k e i r b : Nat} (hs : Small k e i r b) : (smsg k e i r b).Wf := by
  obtain ⟨a1, a2, a3, a4, a5⟩ := hs
  exact smsg_wf k e i r b (by omega) a2 a3 a4 a5
set_option maxRecDepth 100000 in
set_option maxHeartbeats 500000 in
theorem short_any (v : Value) (l : List Int) (w : World) (hl9 : l.length ≤ maxLen) (hv : HasI w w.heap.size v l) (hw : ∀ x ∈ l, (Lit.int .i64 x).wf = true) (ht : Tab w) :
    Calls Tryz.prog 7 #[v] w fun e w' => e = .returned (.bool true) ∧ Below w.heap.size w w' := by
  have CL := Lib.hid (light_any v l w hl9 hv)
  have CA := Lib.hid (fun (w' : World) (hb : Below w.heap.size w w') => gawake_any w' (ht.below hb))
  have HT := Lib.hid ht
  have hmm := @run_makeMap Tryz.prog
  by_cases hL : l.length ≤ 600
  · have CR := Lib.hid (roll_any v l w hL hv hw)
    rw [decide_eq_true hL] at CL
    clear hv hw ht hl9 hL
    go_enter Tryz.func7, Tryz.ntmps7
    go_wp2_with fail
    refine (CL.out).mono ?_; rintro e w' ⟨rfl, rfl⟩
    go_wp2_with fail
    refine (CR.out).mono ?_; rintro e w1 ⟨g, rfl, hg0, hd, b1⟩
    have hg := Lib.hid hg0
    clear hg0
    have CC := Lib.hid (kconfig_any g l 0 w1 hd)
    have B1 := Lib.hid b1
    clear hd b1
    go_wp2_with fail
    refine (CC.out).mono ?_; rintro e w2 ⟨N, F, rfl, hN1, hN7, -, dy⟩
    have A0 := Lib.hid (AtS.start hg.out.symm B1.out dy N F)
    clear dy
    unfold cfg
    go_wp2_with fail
    go_loopw [19] (fun k wr => ∃ j : Nat, k = .int .i64 (j : Int) ∧ j ≤ 12 ∧ AtS w g w2.heap.size (w2.heap.size + 1) N F l j wr) (fun k _ => 12 - (intOf k).toNat)
    case atStart => exact ⟨0, rfl, by omega, A0.out⟩
    case round =>
      obtain ⟨j, rfl, hj, at_⟩ := hrel
      have AT := Lib.hid at_
      obtain ⟨gl, gc, cB, -, ⟨t, dt⟩, cN, cF, -⟩ := at_
      by_cases hlt : j < 12
      · have hlt2 : (j : Int) < 12 := by omega
        have hc0 : w2.heap.size < wr.heap.size := World.block_lt_of_cell? _ _ cN
        have HGB := Lib.hid (show g < wr.heap.size from dt.lt)
        obtain ⟨v0, hv0⟩ : ∃ x, x = wr.drew := ⟨_, rfl⟩
        have u0 : v0.cell? ⟨w2.heap.size, 0, none⟩ = some (.int .i64 (N : Int)) := by rw [hv0]; exact cN
        have u1 : v0.cell? ⟨w2.heap.size, 1, none⟩ = some (.int .i64 (F : Int)) := by rw [hv0]; exact cF
        have D0 := Lib.hid (show IsDice v0 g l t by rw [hv0]; exact dt)
        have F0 := Lib.hid (show Far g wr.heap.size wr v0 by rw [hv0]; exact ⟨rfl, rfl, rfl, Nat.le_refl _, fun _ _ _ => rfl⟩)
        clear dt cN cF
        go_upto_region 8 with fail
        go_cut [6] (fun p wx => Made wr g (w2.heap.size + 1) l p wx)
        case first =>
          refine wp_region_tree (R := Far g wr.heap.size) (farWay _ _) (.read 0 (.read 1 (.read 2 (.read 3 (.read 6 (.read 8 (.read 9 (.read 10 (.two 4 (.read 5 (.two 7 (.two 11 (.two 12 (.call 13 (.call 14 .done)) 13 (.call 12 (.call 14 .done))) 13 (.call 11 (.call 12 (.call 14 .done)))) 13 (.call 7 (.call 11 (.call 12 (.call 14 .done)))))) 13 (.call 4 (.read 5 (.call 7 (.call 11 (.call 12 (.call 14 .done))))))))))))))) (by kernel_rfl) (by kernel_rfl) (by kernel_rfl) (by kernel_rfl) ?_
          rw [← hv0]
          clear hv0
          refine wpTree_read (v := ?_) rfl (by rfl) (fun w' hw' => ?_) ?_; rotate_left; (focus (go_simp; try with_reducible rfl)); try simp only [Act.put, List.setIfInBounds_toArray, List.set_cons_zero, List.set_cons_succ]
          refine wpTree_read (v := ?_) rfl (by rfl) (fun w' hw' => ?_) ?_; rotate_left; (focus (have z0 := hw'.cell (p := ⟨w2.heap.size, 0, none⟩) (by show w2.heap.size < wr.heap.size; omega) (by show w2.heap.size ≠ g; omega) u0; have z1 := hw'.cell (p := ⟨w2.heap.size, 1, none⟩) (by show w2.heap.size < wr.heap.size; omega) (by show w2.heap.size ≠ g; omega) u1; go_simp; try with_reducible rfl)); try simp only [Act.put, List.setIfInBounds_toArray, List.set_cons_zero, List.set_cons_succ]
          refine wpTree_read (v := ?_) rfl (by rfl) (fun w' hw' => ?_) ?_; rotate_left; (focus (go_simp; try with_reducible rfl)); try simp only [Act.put, List.setIfInBounds_toArray, List.set_cons_zero, List.set_cons_succ]
          refine wpTree_read (v := ?_) rfl (by rfl) (fun w' hw' => ?_) ?_; rotate_left; (focus (go_simp; try with_reducible rfl)); try simp only [Act.put, List.setIfInBounds_toArray, List.set_cons_zero, List.set_cons_succ]
          refine wpTree_read (v := ?_) rfl (by rfl) (fun w' hw' => ?_) ?_; rotate_left; (focus (go_simp; try with_reducible rfl)); try simp only [Act.put, List.setIfInBounds_toArray, List.set_cons_zero, List.set_cons_succ]
          refine wpTree_read (v := ?_) rfl (by rfl) (fun w' hw' => ?_) ?_; rotate_left; (focus (go_simp; try with_reducible rfl)); try simp only [Act.put, List.setIfInBounds_toArray, List.set_cons_zero, List.set_cons_succ]
          refine wpTree_read (v := ?_) rfl (by rfl) (fun w' hw' => ?_) ?_; rotate_left; (focus (go_simp; try with_reducible rfl)); try simp only [Act.put, List.setIfInBounds_toArray, List.set_cons_zero, List.set_cons_succ]
          refine wpTree_read (v := ?_) rfl (by rfl) (fun w' hw' => ?_) ?_; rotate_left; (focus (have z0 := hw'.cell (p := ⟨w2.heap.size, 0, none⟩) (by show w2.heap.size < wr.heap.size; omega) (by show w2.heap.size ≠ g; omega) u0; go_simp; try with_reducible rfl)); try simp only [Act.put, List.setIfInBounds_toArray, List.set_cons_zero, List.set_cons_succ]
          refine wpTree_two ?_ ?_
          · skip
            refine wpTree_call rfl (fun K' hK => ?_)
            go_simp
            go_at_call 24
            refine (next_three g l _ _ D0.out).mono ?_; rintro e v1 ⟨r1, rfl, h1, -, d1⟩
            refine hK.out _ _ (Far.of_but d1.but F0.out.size) ?_
            clear hK K'
            try simp only [Act.put, List.setIfInBounds_toArray, List.set_cons_zero, List.set_cons_succ]
            have D1 := Lib.hid d1.dice; have F1 := Lib.hid (F0.out.trans (Far.of_but d1.but F0.out.size))
            have hw7 : IntKind.i64.wrap (7 + (r1 : Int)) = ((7 + r1 : Nat) : Int) := (by rw [IntKind.wrap_i64]; omega)
            clear d1
            refine wpTree_read (v := ?_) rfl (by rfl) (fun w' hw' => ?_) ?_; rotate_left; (focus (go_simp; try with_reducible rfl)); try simp only [Act.put, List.setIfInBounds_toArray, List.set_cons_zero, List.set_cons_succ]
            refine wpTree_two ?_ ?_
            · skip
              refine wpTree_call rfl (fun K' hK => ?_)
              go_simp
              go_at_call 24
              refine (next_three g l _ _ D1.out).mono ?_; rintro e v2 ⟨r2, rfl, h2, -, d2⟩
              refine hK.out _ _ (Far.of_but d2.but F1.out.size) ?_
              clear hK K'
              try simp only [Act.put, List.setIfInBounds_toArray, List.set_cons_zero, List.set_cons_succ]
              have D2 := Lib.hid d2.dice; have F2 := Lib.hid (F1.out.trans (Far.of_but d2.but F1.out.size))
              clear d2
              refine wpTree_two ?_ ?_
              · skip
                refine wpTree_call rfl (fun K' hK => ?_)
                go_simp
                go_at_call 24
                refine (next_dy N g l _ _ (by omega) (by omega) D2.out).mono ?_; rintro e v3 ⟨r3, rfl, h3, -, d3⟩
                refine hK.out _ _ (Far.of_but d3.but F2.out.size) ?_
                clear hK K'
                try simp only [Act.put, List.setIfInBounds_toArray, List.set_cons_zero, List.set_cons_succ]
                have D3 := Lib.hid d3.dice; have F3 := Lib.hid (F2.out.trans (Far.of_but d3.but F2.out.size))
                clear d3
                refine wpTree_two ?_ ?_
                · skip
                  refine wpTree_call rfl (fun K' hK => ?_)
                  go_simp
                  go_at_call 26
                  refine (kmsg_law _ (by have := h1; omega) _ _ _ _ g l _ _ D3.out).mono ?_; rintro e v4 ⟨r4, b4, t4, rfl, hr4, hb4, d4⟩
                  refine hK.out _ _ (Far.of_but d4.but F3.out.size) ?_
                  clear hK K'
                  try simp only [Act.put, List.setIfInBounds_toArray, List.set_cons_zero, List.set_cons_succ]
                  have D4 := Lib.hid d4.dice; have F4 := Lib.hid (F3.out.trans (Far.of_but d4.but F3.out.size))
                  clear d4
                  refine wpTree_call rfl (fun K' hK => ?_)
                  go_simp
                  refine hK.out _ _ (Far.alloc F4.out.size _) ?_
                  clear hK K'
                  try simp only [Act.put, List.setIfInBounds_toArray, List.set_cons_zero, List.set_cons_succ]
                  have Ra := Lib.hid (RecN.new v4 #[.int .i64 0, .int .i64 0, .int .i64 0, .int .i64 0, .int .i64 0, .int .u64 0, .int .i64 0, .slice none 0 0, .slice none 0 0] 27); have Da := Lib.hid (D4.out.alloc (.cells #[.int .i64 0, .int .i64 0, .int .i64 0, .int .i64 0, .int .i64 0, .int .u64 0, .int .i64 0, .slice none 0 0, .slice none 0 0] 27)); have Fa := Lib.hid (F4.out.trans (Far.alloc F4.out.size (.cells #[.int .i64 0, .int .i64 0, .int .i64 0, .int .i64 0, .int .i64 0, .int .u64 0, .int .i64 0, .slice none 0 0, .slice none 0 0] 27)))
                  have HMb := Lib.hid (F4.out.size); have hlt := D4.out.lt
                  obtain ⟨va, hva⟩ : ∃ x, x = v4.alloc (.cells #[.int .i64 0, .int .i64 0, .int .i64 0, .int .i64 0, .int .i64 0, .int .u64 0, .int .i64 0, .slice none 0 0, .slice none 0 0] 27) := ⟨_, rfl⟩
                  obtain ⟨M, hM⟩ : ∃ x, x = v4.heap.size := ⟨_, rfl⟩
                  rw [← hva] at Ra Da Fa ⊢; rw [← hM] at Ra HMb hlt ⊢
                  have HMg := Lib.hid (show M ≠ g by omega); clear hva hM hlt
                  have m0 := Ra.out.c 0 rfl; have f0 := Ra.out.f 0 (by simp)
                  have m1 := Ra.out.c 1 rfl; have f1 := Ra.out.f 1 (by simp)
                  have m2 := Ra.out.c 2 rfl; have f2 := Ra.out.f 2 (by simp)
                  have m3 := Ra.out.c 3 rfl; have f3 := Ra.out.f 3 (by simp)
                  have m4 := Ra.out.c 4 rfl; have f4 := Ra.out.f 4 (by simp)
                  have m5 := Ra.out.c 5 rfl; have f5 := Ra.out.f 5 (by simp)
                  have m6 := Ra.out.c 6 rfl; have f6 := Ra.out.f 6 (by simp)
                  have m7 := Ra.out.c 7 rfl; have f7 := Ra.out.f 7 (by simp)
                  have m8 := Ra.out.c 8 rfl; have f8 := Ra.out.f 8 (by simp)
                  refine wpTree_call rfl (fun K' hK => ?_)
                  go_simp
                  refine hK.out _ _ (far_nine HMb.out _ _ _ _ _ _ _ _ _) ?_
                  clear hK K'
                  try simp only [Act.put, List.setIfInBounds_toArray, List.set_cons_zero, List.set_cons_succ]
                  clear m0 f0 m1 f1 m2 f2 m3 f3 m4 f4 m5 f5 m6 f6 m7 f7 m8 f8
                  refine wpTree_nil ?_
                  go_wp2_with fail
                  go_meet
                  exact ⟨M, 7 + r1, r2, r3, r4, b4, rfl, HMb.out, ⟨by omega, by omega, by omega, by omega, by omega⟩, rec_nine Ra.out _ _ _ _ _ _ _ _ _, Far.but (Fa.out.trans (far_nine HMb.out _ _ _ _ _ _ _ _ _)) rfl, _, dice_nine Da.out (by have := HMg.out; have := Da.out.lt; have := HMb.out; have := HGB.out; omega) _ _ _ _ _ _ _ _ _⟩
                · skip
                  refine wpTree_call rfl (fun K' hK => ?_)
                  go_simp
                  refine hK.out _ _ (Far.alloc F3.out.size _) ?_
                  clear hK K'
                  try simp only [Act.put, List.setIfInBounds_toArray, List.set_cons_zero, List.set_cons_succ]
                  have Ra := Lib.hid (RecN.new v3 #[.int .i64 0, .int .i64 0, .int .i64 0, .int .i64 0, .int .i64 0, .int .u64 0, .int .i64 0, .slice none 0 0, .slice none 0 0] 27); have Da := Lib.hid (D3.out.alloc (.cells #[.int .i64 0, .int .i64 0, .int .i64 0, .int .i64 0, .int .i64 0, .int .u64 0, .int .i64 0, .slice none 0 0, .slice none 0 0] 27)); have Fa := Lib.hid (F3.out.trans (Far.alloc F3.out.size (.cells #[.int .i64 0, .int .i64 0, .int .i64 0, .int .i64 0, .int .i64 0, .int .u64 0, .int .i64 0, .slice none 0 0, .slice none 0 0] 27)))
                  have HMb := Lib.hid (F3.out.size); have hlt := D3.out.lt
                  obtain ⟨va, hva⟩ : ∃ x, x = v3.alloc (.cells #[.int .i64 0, .int .i64 0, .int .i64 0, .int .i64 0, .int .i64 0, .int .u64 0, .int .i64 0, .slice none 0 0, .slice none 0 0] 27) := ⟨_, rfl⟩
                  obtain ⟨M, hM⟩ : ∃ x, x = v3.heap.size := ⟨_, rfl⟩
                  rw [← hva] at Ra Da Fa ⊢; rw [← hM] at Ra HMb hlt ⊢
                  have HMg := Lib.hid (show M ≠ g by omega); clear hva hM hlt
                  refine wpTree_call rfl (fun K' hK => ?_)
                  go_simp
                  go_at_call 26
                  refine (kmsg_law _ (by have := h1; omega) _ _ _ _ g l _ _ Da.out).mono ?_; rintro e v4 ⟨r4, b4, t4, rfl, hr4, hb4, d4⟩
                  refine hK.out _ _ (Far.of_but d4.but Fa.out.size) ?_
                  clear hK K'
                  try simp only [Act.put, List.setIfInBounds_toArray, List.set_cons_zero, List.set_cons_succ]
                  have D4 := Lib.hid d4.dice; have F4 := Lib.hid (Fa.out.trans (Far.of_but d4.but Fa.out.size))
                  have R4 := Lib.hid (Ra.out.but d4.but HMg.out)
                  clear d4
                  have m0 := R4.out.c 0 rfl; have f0 := R4.out.f 0 (by simp)
                  have m1 := R4.out.c 1 rfl; have f1 := R4.out.f 1 (by simp)
                  have m2 := R4.out.c 2 rfl; have f2 := R4.out.f 2 (by simp)
                  have m3 := R4.out.c 3 rfl; have f3 := R4.out.f 3 (by simp)
                  have m4 := R4.out.c 4 rfl; have f4 := R4.out.f 4 (by simp)
                  have m5 := R4.out.c 5 rfl; have f5 := R4.out.f 5 (by simp)
                  have m6 := R4.out.c 6 rfl; have f6 := R4.out.f 6 (by simp)
                  have m7 := R4.out.c 7 rfl; have f7 := R4.out.f 7 (by simp)
                  have m8 := R4.out.c 8 rfl; have f8 := R4.out.f 8 (by simp)
                  refine wpTree_call rfl (fun K' hK => ?_)
                  go_simp
                  refine hK.out _ _ (far_nine HMb.out _ _ _ _ _ _ _ _ _) ?_
                  clear hK K'
                  try simp only [Act.put, List.setIfInBounds_toArray, List.set_cons_zero, List.set_cons_succ]
                  clear m0 f0 m1 f1 m2 f2 m3 f3 m4 f4 m5 f5 m6 f6 m7 f7 m8 f8
                  refine wpTree_nil ?_
                  go_wp2_with fail
                  go_meet
                  exact ⟨M, 7 + r1, r2, r3, r4, b4, rfl, HMb.out, ⟨by omega, by omega, by omega, by omega, by omega⟩, rec_nine R4.out _ _ _ _ _ _ _ _ _, Far.but (F4.out.trans (far_nine HMb.out _ _ _ _ _ _ _ _ _)) rfl, _, dice_nine D4.out (by have := HMg.out; have := D4.out.lt; have := HMb.out; have := HGB.out; omega) _ _ _ _ _ _ _ _ _⟩
              · skip
                refine wpTree_call rfl (fun K' hK => ?_)
                go_simp
                refine hK.out _ _ (Far.alloc F2.out.size _) ?_
                clear hK K'
                try simp only [Act.put, List.setIfInBounds_toArray, List.set_cons_zero, List.set_cons_succ]
                have Ra := Lib.hid (RecN.new v2 #[.int .i64 0, .int .i64 0, .int .i64 0, .int .i64 0, .int .i64 0, .int .u64 0, .int .i64 0, .slice none 0 0, .slice none 0 0] 27); have Da := Lib.hid (D2.out.alloc (.cells #[.int .i64 0, .int .i64 0, .int .i64 0, .int .i64 0, .int .i64 0, .int .u64 0, .int .i64 0, .slice none 0 0, .slice none 0 0] 27)); have Fa := Lib.hid (F2.out.trans (Far.alloc F2.out.size (.cells #[.int .i64 0, .int .i64 0, .int .i64 0, .int .i64 0, .int .i64 0, .int .u64 0, .int .i64 0, .slice none 0 0, .slice none 0 0] 27)))
                have HMb := Lib.hid (F2.out.size); have hlt := D2.out.lt
                obtain ⟨va, hva⟩ : ∃ x, x = v2.alloc (.cells #[.int .i64 0, .int .i64 0, .int .i64 0, .int .i64 0, .int .i64 0, .int .u64 0, .int .i64 0, .slice none 0 0, .slice none 0 0] 27) := ⟨_, rfl⟩
                obtain ⟨M, hM⟩ : ∃ x, x = v2.heap.size := ⟨_, rfl⟩
                rw [← hva] at Ra Da Fa ⊢; rw [← hM] at Ra HMb hlt ⊢
                have HMg := Lib.hid (show M ≠ g by omega); clear hva hM hlt
                refine wpTree_call rfl (fun K' hK => ?_)
                go_simp
                go_at_call 24
                refine (next_dy N g l _ _ (by omega) (by omega) Da.out).mono ?_; rintro e v3 ⟨r3, rfl, h3, -, d3⟩
                refine hK.out _ _ (Far.of_but d3.but Fa.out.size) ?_
                clear hK K'
                try simp only [Act.put, List.setIfInBounds_toArray, List.set_cons_zero, List.set_cons_succ]
                have D3 := Lib.hid d3.dice; have F3 := Lib.hid (Fa.out.trans (Far.of_but d3.but Fa.out.size))
                have R3 := Lib.hid (Ra.out.but d3.but HMg.out)
                clear d3
                refine wpTree_call rfl (fun K' hK => ?_)
                go_simp
                go_at_call 26
                refine (kmsg_law _ (by have := h1; omega) _ _ _ _ g l _ _ D3.out).mono ?_; rintro e v4 ⟨r4, b4, t4, rfl, hr4, hb4, d4⟩
                refine hK.out _ _ (Far.of_but d4.but F3.out.size) ?_
                clear hK K'
                try simp only [Act.put, List.setIfInBounds_toArray, List.set_cons_zero, List.set_cons_succ]
                have D4 := Lib.hid d4.dice; have F4 := Lib.hid (F3.out.trans (Far.of_but d4.but F3.out.size))
                have R4 := Lib.hid (R3.out.but d4.but HMg.out)
                clear d4
                have m0 := R4.out.c 0 rfl; have f0 := R4.out.f 0 (by simp)
                have m1 := R4.out.c 1 rfl; have f1 := R4.out.f 1 (by simp)
                have m2 := R4.out.c 2 rfl; have f2 := R4.out.f 2 (by simp)
                have m3 := R4.out.c 3 rfl; have f3 := R4.out.f 3 (by simp)
                have m4 := R4.out.c 4 rfl; have f4 := R4.out.f 4 (by simp)
                have m5 := R4.out.c 5 rfl; have f5 := R4.out.f 5 (by simp)
                have m6 := R4.out.c 6 rfl; have f6 := R4.out.f 6 (by simp)
                have m7 := R4.out.c 7 rfl; have f7 := R4.out.f 7 (by simp)
                have m8 := R4.out.c 8 rfl; have f8 := R4.out.f 8 (by simp)
                refine wpTree_call rfl (fun K' hK => ?_)
                go_simp
                refine hK.out _ _ (far_nine HMb.out _ _ _ _ _ _ _ _ _) ?_
                clear hK K'
                try simp only [Act.put, List.setIfInBounds_toArray, List.set_cons_zero, List.set_cons_succ]
                clear m0 f0 m1 f1 m2 f2 m3 f3 m4 f4 m5 f5 m6 f6 m7 f7 m8 f8
                refine wpTree_nil ?_
                go_wp2_with fail
                go_meet
                exact ⟨M, 7 + r1, r2, r3, r4, b4, rfl, HMb.out, ⟨by omega, by omega, by omega, by omega, by omega⟩, rec_nine R4.out _ _ _ _ _ _ _ _ _, Far.but (F4.out.trans (far_nine HMb.out _ _ _ _ _ _ _ _ _)) rfl, _, dice_nine D4.out (by have := HMg.out; have := D4.out.lt; have := HMb.out; have := HGB.out; omega) _ _ _ _ _ _ _ _ _⟩
            · skip
              refine wpTree_call rfl (fun K' hK => ?_)
              go_simp
              refine hK.out _ _ (Far.alloc F1.out.size _) ?_
              clear hK K'
              try simp only [Act.put, List.setIfInBounds_toArray, List.set_cons_zero, List.set_cons_succ]
              have Ra := Lib.hid (RecN.new v1 #[.int .i64 0, .int .i64 0, .int .i64 0, .int .i64 0, .int .i64 0, .int .u64 0, .int .i64 0, .slice none 0 0, .slice none 0 0] 27); have Da := Lib.hid (D1.out.alloc (.cells #[.int .i64 0, .int .i64 0, .int .i64 0, .int .i64 0, .int .i64 0, .int .u64 0, .int .i64 0, .slice none 0 0, .slice none 0 0] 27)); have Fa := Lib.hid (F1.out.trans (Far.alloc F1.out.size (.cells #[.int .i64 0, .int .i64 0, .int .i64 0, .int .i64 0, .int .i64 0, .int .u64 0, .int .i64 0, .slice none 0 0, .slice none 0 0] 27)))
              have HMb := Lib.hid (F1.out.size); have hlt := D1.out.lt
              obtain ⟨va, hva⟩ : ∃ x, x = v1.alloc (.cells #[.int .i64 0, .int .i64 0, .int .i64 0, .int .i64 0, .int .i64 0, .int .u64 0, .int .i64 0, .slice none 0 0, .slice none 0 0] 27) := ⟨_, rfl⟩
              obtain ⟨M, hM⟩ : ∃ x, x = v1.heap.size := ⟨_, rfl⟩
              rw [← hva] at Ra Da Fa ⊢; rw [← hM] at Ra HMb hlt ⊢
              have HMg := Lib.hid (show M ≠ g by omega); clear hva hM hlt
              refine wpTree_call rfl (fun K' hK => ?_)
              go_simp
              go_at_call 24
              refine (next_three g l _ _ Da.out).mono ?_; rintro e v2 ⟨r2, rfl, h2, -, d2⟩
              refine hK.out _ _ (Far.of_but d2.but Fa.out.size) ?_
              clear hK K'
              try simp only [Act.put, List.setIfInBounds_toArray, List.set_cons_zero, List.set_cons_succ]
              have D2 := Lib.hid d2.dice; have F2 := Lib.hid (Fa.out.trans (Far.of_but d2.but Fa.out.size))
              have R2 := Lib.hid (Ra.out.but d2.but HMg.out)
              clear d2
              refine wpTree_call rfl (fun K' hK => ?_)
              go_simp
              go_at_call 24
              refine (next_dy N g l _ _ (by omega) (by omega) D2.out).mono ?_; rintro e v3 ⟨r3, rfl, h3, -, d3⟩
              refine hK.out _ _ (Far.of_but d3.but F2.out.size) ?_
              clear hK K'
              try simp only [Act.put, List.setIfInBounds_toArray, List.set_cons_zero, List.set_cons_succ]
              have D3 := Lib.hid d3.dice; have F3 := Lib.hid (F2.out.trans (Far.of_but d3.but F2.out.size))
              have R3 := Lib.hid (R2.out.but d3.but HMg.out)
              clear d3
              refine wpTree_call rfl (fun K' hK => ?_)
              go_simp
              go_at_call 26
              refine (kmsg_law _ (by have := h1; omega) _ _ _ _ g l _ _ D3.out).mono ?_; rintro e v4 ⟨r4, b4, t4, rfl, hr4, hb4, d4⟩
              refine hK.out _ _ (Far.of_but d4.but F3.out.size) ?_
              clear hK K'
              try simp only [Act.put, List.setIfInBounds_toArray, List.set_cons_zero, List.set_cons_succ]
              have D4 := Lib.hid d4.dice; have F4 := Lib.hid (F3.out.trans (Far.of_but d4.but F3.out.size))
              have R4 := Lib.hid (R3.out.but d4.but HMg.out)
              clear d4
              have m0 := R4.out.c 0 rfl; have f0 := R4.out.f 0 (by simp)
              have m1 := R4.out.c 1 rfl; have f1 := R4.out.f 1 (by simp)
              have m2 := R4.out.c 2 rfl; have f2 := R4.out.f 2 (by simp)
              have m3 := R4.out.c 3 rfl; have f3 := R4.out.f 3 (by simp)
              have m4 := R4.out.c 4 rfl; have f4 := R4.out.f 4 (by simp)
              have m5 := R4.out.c 5 rfl; have f5 := R4.out.f 5 (by simp)
              have m6 := R4.out.c 6 rfl; have f6 := R4.out.f 6 (by simp)
              have m7 := R4.out.c 7 rfl; have f7 := R4.out.f 7 (by simp)
              have m8 := R4.out.c 8 rfl; have f8 := R4.out.f 8 (by simp)
              refine wpTree_call rfl (fun K' hK => ?_)
              go_simp
              refine hK.out _ _ (far_nine HMb.out _ _ _ _ _ _ _ _ _) ?_
              clear hK K'
              try simp only [Act.put, List.setIfInBounds_toArray, List.set_cons_zero, List.set_cons_succ]
              clear m0 f0 m1 f1 m2 f2 m3 f3 m4 f4 m5 f5 m6 f6 m7 f7 m8 f8
              refine wpTree_nil ?_
              go_wp2_with fail
              go_meet
              exact ⟨M, 7 + r1, r2, r3, r4, b4, rfl, HMb.out, ⟨by omega, by omega, by omega, by omega, by omega⟩, rec_nine R4.out _ _ _ _ _ _ _ _ _, Far.but (F4.out.trans (far_nine HMb.out _ _ _ _ _ _ _ _ _)) rfl, _, dice_nine D4.out (by have := HMg.out; have := D4.out.lt; have := HMb.out; have := HGB.out; omega) _ _ _ _ _ _ _ _ _⟩
          · skip
            refine wpTree_call rfl (fun K' hK => ?_)
            go_simp
            refine hK.out _ _ (Far.alloc F0.out.size _) ?_
            clear hK K'
            try simp only [Act.put, List.setIfInBounds_toArray, List.set_cons_zero, List.set_cons_succ]
            have Ra := Lib.hid (RecN.new v0 #[.int .i64 0, .int .i64 0, .int .i64 0, .int .i64 0, .int .i64 0, .int .u64 0, .int .i64 0, .slice none 0 0, .slice none 0 0] 27); have Da := Lib.hid (D0.out.alloc (.cells #[.int .i64 0, .int .i64 0, .int .i64 0, .int .i64 0, .int .i64 0, .int .u64 0, .int .i64 0, .slice none 0 0, .slice none 0 0] 27)); have Fa := Lib.hid (F0.out.trans (Far.alloc F0.out.size (.cells #[.int .i64 0, .int .i64 0, .int .i64 0, .int .i64 0, .int .i64 0, .int .u64 0, .int .i64 0, .slice none 0 0, .slice none 0 0] 27)))
            have HMb := Lib.hid (F0.out.size); have hlt := D0.out.lt
            obtain ⟨va, hva⟩ : ∃ x, x = v0.alloc (.cells #[.int .i64 0, .int .i64 0, .int .i64 0, .int .i64 0, .int .i64 0, .int .u64 0, .int .i64 0, .slice none 0 0, .slice none 0 0] 27) := ⟨_, rfl⟩
            obtain ⟨M, hM⟩ : ∃ x, x = v0.heap.size := ⟨_, rfl⟩
            rw [← hva] at Ra Da Fa ⊢; rw [← hM] at Ra HMb hlt ⊢
            have HMg := Lib.hid (show M ≠ g by omega); clear hva hM hlt
            refine wpTree_call rfl (fun K' hK => ?_)
            go_simp
            go_at_call 24
            refine (next_three g l _ _ Da.out).mono ?_; rintro e v1 ⟨r1, rfl, h1, -, d1⟩
            refine hK.out _ _ (Far.of_but d1.but Fa.out.size) ?_
            clear hK K'
            try simp only [Act.put, List.setIfInBounds_toArray, List.set_cons_zero, List.set_cons_succ]
            have D1 := Lib.hid d1.dice; have F1 := Lib.hid (Fa.out.trans (Far.of_but d1.but Fa.out.size))
            have hw7 : IntKind.i64.wrap (7 + (r1 : Int)) = ((7 + r1 : Nat) : Int) := (by rw [IntKind.wrap_i64]; omega)
            have R1 := Lib.hid (Ra.out.but d1.but HMg.out)
            clear d1
            refine wpTree_read (v := ?_) rfl (by rfl) (fun w' hw' => ?_) ?_; rotate_left; (focus (go_simp; try with_reducible rfl)); try simp only [Act.put, List.setIfInBounds_toArray, List.set_cons_zero, List.set_cons_succ]
            refine wpTree_call rfl (fun K' hK => ?_)
            go_simp
            go_at_call 24
            refine (next_three g l _ _ D1.out).mono ?_; rintro e v2 ⟨r2, rfl, h2, -, d2⟩
            refine hK.out _ _ (Far.of_but d2.but F1.out.size) ?_
            clear hK K'
            try simp only [Act.put, List.setIfInBounds_toArray, List.set_cons_zero, List.set_cons_succ]
            have D2 := Lib.hid d2.dice; have F2 := Lib.hid (F1.out.trans (Far.of_but d2.but F1.out.size))
            have R2 := Lib.hid (R1.out.but d2.but HMg.out)
            clear d2
            refine wpTree_call rfl (fun K' hK => ?_)
            go_simp
            go_at_call 24
            refine (next_dy N g l _ _ (by omega) (by omega) D2.out).mono ?_; rintro e v3 ⟨r3, rfl, h3, -, d3⟩
            refine hK.out _ _ (Far.of_but d3.but F2.out.size) ?_
            clear hK K'
            try simp only [Act.put, List.setIfInBounds_toArray, List.set_cons_zero, List.set_cons_succ]
            have D3 := Lib.hid d3.dice; have F3 := Lib.hid (F2.out.trans (Far.of_but d3.but F2.out.size))
            have R3 := Lib.hid (R2.out.but d3.but HMg.out)
            clear d3
            refine wpTree_call rfl (fun K' hK => ?_)
            go_simp
            go_at_call 26
            refine (kmsg_law _ (by have := h1; omega) _ _ _ _ g l _ _ D3.out).mono ?_; rintro e v4 ⟨r4, b4, t4, rfl, hr4, hb4, d4⟩
            refine hK.out _ _ (Far.of_but d4.but F3.out.size) ?_
            clear hK K'
            try simp only [Act.put, List.setIfInBounds_toArray, List.set_cons_zero, List.set_cons_succ]
            have D4 := Lib.hid d4.dice; have F4 := Lib.hid (F3.out.trans (Far.of_but d4.but F3.out.size))
            have R4 := Lib.hid (R3.out.but d4.but HMg.out)
            clear d4
            have m0 := R4.out.c 0 rfl; have f0 := R4.out.f 0 (by simp)
            have m1 := R4.out.c 1 rfl; have f1 := R4.out.f 1 (by simp)
            have m2 := R4.out.c 2 rfl; have f2 := R4.out.f 2 (by simp)
            have m3 := R4.out.c 3 rfl; have f3 := R4.out.f 3 (by simp)
            have m4 := R4.out.c 4 rfl; have f4 := R4.out.f 4 (by simp)
            have m5 := R4.out.c 5 rfl; have f5 := R4.out.f 5 (by simp)
            have m6 := R4.out.c 6 rfl; have f6 := R4.out.f 6 (by simp)
            have m7 := R4.out.c 7 rfl; have f7 := R4.out.f 7 (by simp)
            have m8 := R4.out.c 8 rfl; have f8 := R4.out.f 8 (by simp)
            refine wpTree_call rfl (fun K' hK => ?_)
            go_simp
            refine hK.out _ _ (far_nine HMb.out _ _ _ _ _ _ _ _ _) ?_
            clear hK K'
            try simp only [Act.put, List.setIfInBounds_toArray, List.set_cons_zero, List.set_cons_succ]
            clear m0 f0 m1 f1 m2 f2 m3 f3 m4 f4 m5 f5 m6 f6 m7 f7 m8 f8
            refine wpTree_nil ?_
            go_wp2_with fail
            go_meet
            exact ⟨M, 7 + r1, r2, r3, r4, b4, rfl, HMb.out, ⟨by omega, by omega, by omega, by omega, by omega⟩, rec_nine R4.out _ _ _ _ _ _ _ _ _, Far.but (F4.out.trans (far_nine HMb.out _ _ _ _ _ _ _ _ _)) rfl, _, dice_nine D4.out (by have := HMg.out; have := D4.out.lt; have := HMb.out; have := HGB.out; omega) _ _ _ _ _ _ _ _ _⟩
        case rest =>
          obtain ⟨M, k, e, i, r, b, rfl, hM, hs, rm, bt, ⟨t2, dt2⟩⟩ := hcut
          have A1 := Lib.hid (AT.out.but bt ⟨t2, dt2⟩)
          have hj9 : Hid (j < 12) := Lib.hid hlt
          have CO := Lib.hid (mof_any (smsg k e i r b) (.slice none 0 0) (.slice none 0 0) wc (small_wf hs) (HT.out.below A1.out.below))
          rw [smV_eq] at CO; unfold smV at CO
          have RM := Lib.hid rm
          have hlen := short_long hs
          obtain ⟨n, hn⟩ : ∃ n, n = (Ms.of (smsg k e i r b)).size := ⟨_, rfl⟩
          have hix := short_last hs n hn
          rw [← hn] at hlen
          have hKey := Lib.hid (keyOf_msg hs)
          obtain ⟨TX, hTX⟩ : ∃ x, x = Ms.of (smsg k e i r b) := ⟨_, rfl⟩
          rw [← hTX] at CO hn hix hKey
          have hn' := hn.symm
          clear hn rm bt dt2 hM hTX
          obtain ⟨hn8, hn100⟩ := hlen
          have t8 : decide (n < 8) = false := decide_eq_false (by omega)
          have m0 := RM.out.c 0 rfl; have m1 := RM.out.c 1 rfl; have m2 := RM.out.c 2 rfl; have m3 := RM.out.c 3 rfl; have m4 := RM.out.c 4 rfl; have m5 := RM.out.c 5 rfl; have m6 := RM.out.c 6 rfl; have m7 := RM.out.c 7 rfl; have m8 := RM.out.c 8 rfl
          go_wp2_with fail
          refine (CO.out).mono ?_; rintro e4 wy ⟨rfl, b4⟩
          have A2 := Lib.hid (A1.out.later b4)
          have RM2 := Lib.hid (RM.out.below b4 RM.out.1)
          clear b4 m0 m1 m2 m3 m4 m5 m6 m7 m8
          go_upto_region 12 with fail
          obtain ⟨D, mp, sn⟩ := A2.out.map
          have HM := Lib.hid mp; have SN := Lib.hid sn
          have HS := Lib.hid hs
          obtain ⟨vv, ps, hrun, hvv⟩ := mp.look_ok lawStr Tryz.underlying53 (zeroM9 wy) (zd := .held zmV) (zp := []) rfl hKey.out
          have hvv2 : DataW.held vv = D.atKey (keyL k e i r b) (.held zmV) := by
            have := congrArg (fun z => z.map Prod.fst) hvv
            simpa [heldR] using this
          cases hh : has D (keyL k e i r b) with
          | false =>
            rw [Maps.atKey_of_not_has hh] at hvv2
            rw [hh] at hrun
            cases hvv2
            unfold zmV at hrun
            have A5 := Lib.hid (A2.out.later ((Below.refl _ _).alloc (Nat.le_refl _) (.cells #[.int .i64 0, .int .i64 0, .int .i64 0, .int .i64 0, .int .i64 0, .int .u64 0, .int .i64 0, .slice none 0 0, .slice none 0 0] 27)))
            have RM5 := Lib.hid (RM2.out.alloc (.cells #[.int .i64 0, .int .i64 0, .int .i64 0, .int .i64 0, .int .i64 0, .int .u64 0, .int .i64 0, .slice none 0 0, .slice none 0 0] 27))
            obtain ⟨w7, hrun7, own7, grow7⟩ := (HM.out.alloc (.cells #[.int .i64 0, .int .i64 0, .int .i64 0, .int .i64 0, .int .i64 0, .int .u64 0, .int .i64 0, .slice none 0 0, .slice none 0 0] 27)).update lawStr Tryz.underlying53 (by unfold maxLen; have := hj9.out; omega) hKey.out (show heldR (smV k e i r b) = some (.held (smV k e i r b), []) from rfl)
            have A7 := Lib.hid (A5.out.put own7 (SN.out.put HS.out) grow7)
            unfold smV at hrun7
            clear own7 grow7 mp sn hs hvv hh hlt
            have m0 := RM5.out.c 0 rfl; have m1 := RM5.out.c 1 rfl; have m2 := RM5.out.c 2 rfl; have m3 := RM5.out.c 3 rfl; have m4 := RM5.out.c 4 rfl; have m5 := RM5.out.c 5 rfl; have m6 := RM5.out.c 6 rfl; have m7 := RM5.out.c 7 rfl; have m8 := RM5.out.c 8 rfl
            go_wp2_with fail
            go_roundw
            case rel => exact ⟨j + 1, by go_num, by have := hj9.out; omega, A7.out⟩
            case measure => have := hj9.out; simp [intOf]; omega
          | true =>
            obtain ⟨k', e', i', r', b', q1, q2, q3⟩ := sn.2 _ hh
            rw [q3, ← keyL_inj hs q1 q2] at hvv2
            rw [hh] at hrun
            cases hvv2
            unfold smV at hrun
            have A5 := Lib.hid (A2.out.later ((Below.refl _ _).alloc (Nat.le_refl _) (.cells #[.int .i64 (k : Int), .int .i64 (e : Int), .int .i64 (i : Int), .int .i64 (r : Int), .int .i64 (b : Int), .int .u64 0, .int .i64 0, .slice none 0 0, .slice none 0 0] 27)))
            have RM5 := Lib.hid (RM2.out.alloc (.cells #[.int .i64 (k : Int), .int .i64 (e : Int), .int .i64 (i : Int), .int .i64 (r : Int), .int .i64 (b : Int), .int .u64 0, .int .i64 0, .slice none 0 0, .slice none 0 0] 27))
            have M5 : MsgIn (wy.alloc (.cells #[.int .i64 (k : Int), .int .i64 (e : Int), .int .i64 (i : Int), .int .i64 (r : Int), .int .i64 (b : Int), .int .u64 0, .int .i64 0, .slice none 0 0, .slice none 0 0] 27)) (smsg k e i r b) (.slice none 0 0) (.slice none 0 0) := ⟨small_wf hs, .inl ⟨none, 0, rfl, rfl⟩, .inl ⟨none, 0, rfl, rfl⟩⟩
            have CS := Lib.hid (msame_any (smsg k e i r b) (smsg k e i r b) (.slice none 0 0) (.slice none 0 0) (.slice none 0 0) (.slice none 0 0) _ M5 M5 (by simp [smsg]))
            rw [Ms.same_self, smV_eq] at CS; unfold smV at CS
            clear mp sn hs hvv hh hlt q1 q2 q3 M5
            have m0 := RM5.out.c 0 rfl; have m1 := RM5.out.c 1 rfl; have m2 := RM5.out.c 2 rfl; have m3 := RM5.out.c 3 rfl; have m4 := RM5.out.c 4 rfl; have m5 := RM5.out.c 5 rfl; have m6 := RM5.out.c 6 rfl; have m7 := RM5.out.c 7 rfl; have m8 := RM5.out.c 8 rfl
            go_wp2_with fail
            refine (CS.out).mono ?_; rintro e6 w6 ⟨rfl, b6⟩
            have A6 := Lib.hid (A5.out.later b6)
            have RM6 := Lib.hid (RM5.out.below b6 RM5.out.1)
            obtain ⟨D6, mp6, sn6⟩ := A6.out.map
            obtain ⟨w7, hrun7, own7, grow7⟩ := mp6.update lawStr Tryz.underlying53 (by unfold maxLen; have := hj9.out; omega) hKey.out (show heldR (smV k e i r b) = some (.held (smV k e i r b), []) from rfl)
            have A7 := Lib.hid (A6.out.put own7 (sn6.put HS.out) grow7)
            unfold smV at hrun7
            clear own7 grow7 mp6 sn6 b6 m0 m1 m2 m3 m4 m5 m6 m7 m8
            have m0 := RM6.out.c 0 rfl; have m1 := RM6.out.c 1 rfl; have m2 := RM6.out.c 2 rfl; have m3 := RM6.out.c 3 rfl; have m4 := RM6.out.c 4 rfl; have m5 := RM6.out.c 5 rfl; have m6 := RM6.out.c 6 rfl; have m7 := RM6.out.c 7 rfl; have m8 := RM6.out.c 8 rfl
            go_wp2_with fail
            go_roundw
            case rel => exact ⟨j + 1, by go_num, by have := hj9.out; omega, A7.out⟩
            case measure => have := hj9.out; simp [intOf]; omega
      · obtain rfl : j = 12 := by omega
        have CN := Lib.hid (mof_any ⟨0, 0, 0, 0, 0, 0#64, 0, [], []⟩ (.slice none 0 0) (.slice none 0 0) wr (by constructor <;> (unfold Cd.InR; simp)) (HT.out.below AT.out.below))
        rw [none_text] at CN
        have CK := Lib.hid (fun (w' : World) (hb : Below w.heap.size w w') => mof_any ⟨12, 3, 0, 0, 0, 0#64, 0, [], []⟩ (.slice none 0 0) (.slice none 0 0) w' (by constructor <;> (unfold Cd.InR; simp)) (HT.out.below hb))
        rw [key_text] at CK
        clear dt cN cF
        go_wp2_with fail
        refine (CN.out).mono ?_; rintro e4 w4 ⟨rfl, b4⟩
        have B4 := Lib.hid (AT.out.below.trans (b4.mono AT.out.below.size)); clear b4
        go_wp2_with fail
        refine (CK.out _ B4.out).mono ?_; rintro e5 w5 ⟨rfl, b5⟩
        have B5 := Lib.hid (B4.out.trans (b5.mono B4.out.size)); clear b5
        go_wp2_with fail
        refine (CA.out _ B5.out).mono ?_; rintro e6 w6 ⟨rfl, b6⟩
        have B6 := Lib.hid (B5.out.trans (b6.mono B5.out.size)); clear b6
        go_wp2_with fail
        go_ret
        exact ⟨rfl, B6.out⟩
  · rw [decide_eq_false hL] at CL
    clear hv hw ht hl9 hL
    go_enter Tryz.func7, Tryz.ntmps7
    go_wp2_with fail
    refine (CL.out).mono ?_; rintro e w' ⟨rfl, rfl⟩
    go_wp2_with fail
    refine (CA.out _ (Below.refl _ _)).mono ?_; rintro e w2 ⟨rfl, b2⟩
    have B2 := Lib.hid b2
    clear b2
    go_wp2_with fail
    go_ret
    exact ⟨rfl, B2.out⟩
end Go.Proofs.YtgkckomccabmlaaGreatDoor
