/-
  What the reader of package message reads: the path of a message. Nothing else that was there has changed. Condition: the bytes are fewer than three hundred millions.
-/
import Derived.Test.YtgkckomccabmlaaGreatDoorMvC
import Derived.Test.YtgkckomccabmlaaGreatDoorLmF
namespace Go.Proofs.YtgkckomccabmlaaGreatDoor
open Go.ChangeShapes Go.WideShapes Go.ChangeAt Go.RowKit
open Dg (W B)
open Ms (Msg)
set_option linter.unusedVariables false
namespace Ms
/-- what is read behind the root, behind the data -/
def tail2 (xs : List Int) (root : W) (data : List B) (b : List B) : Option (Msg × List B) :=
  andThen Cd.getI b fun n b => if n < 0 ∨ 10 < n then none else andThen (rdP n.toNat) b fun path b =>
    some (⟨xs.getD 0 0, xs.getD 1 0, xs.getD 2 0, xs.getD 3 0, xs.getD 4 0, root, xs.getD 5 0, data, path⟩, b)
def tail1 (xs : List Int) (root : W) (b : List B) : Option (Msg × List B) := andThen Cd.getB b fun data b => tail2 xs root data b
theorem tail_one (xs : List Int) (b : List B) : tail xs b = andThen Cd.getD b fun root b => tail1 xs root b := rfl
theorem tail2_rest {xs : List Int} {root : W} {data b : List B} {n k : Nat} (h : Cd.getI b = .ok (n : Int) k) (hn : n ≤ 10) : tail2 xs root data b = rest xs root data [] n (b.drop k) := by
  unfold tail2
  rw [andThen_ok h, if_neg (by omega)]
  rfl
theorem tail2_bad {xs : List Int} {root : W} {data b : List B} {c : Nat} (h : Cd.getI b = .bad c) : tail2 xs root data b = none := by
  unfold tail2
  rw [andThen_bad h]
theorem tail2_out {xs : List Int} {root : W} {data b : List B} {n : Int} {k : Nat} (h : Cd.getI b = .ok n k) (hn : n < 0 ∨ 10 < n) : tail2 xs root data b = none := by
  unfold tail2
  rw [andThen_ok h, if_pos hn]
end Ms
theorem OwnW.but {base g : Nat} {w w' : World} {v : Value} {l : List W} (h : OwnW base w v l) (hb : But g w w') (hg : g < base) : OwnW base w' v l := by
  obtain ⟨h1, h2⟩ := h
  refine ⟨h1, ?_⟩
  rcases h2 with h2 | ⟨b, cap, cur, hv, hbb, hh, r⟩
  · exact .inl h2
  · exact .inr ⟨b, cap, cur, hv, hbb, by rw [hb.block b (Array.getElem?_eq_some_iff.1 hh).1 (by omega)]; exact hh, r⟩
theorem But.later {g : Nat} {a b c : World} (h : But g a b) (k : Below a.heap.size b c) : But g a c :=
  ⟨k.os.trans h.os, k.tape.trans h.tape, k.output.trans h.output, Nat.le_trans h.size k.size, fun i hi hg => (k.block i hi).trans (h.block i hi hg)⟩
/-- so many elements of the path have been read -/
def PathRel (L : List B) (q : Nat) (f : Bool) (v : Value) (rb N : Nat) (w : World) (lv i : Value) (wr : World) : Prop :=
  ∃ (j q1 : Nat) (f1 : Bool) (ds : List W), j ≤ N ∧ i = .int .i64 (j : Int) ∧ ds.length = j ∧ q1 ≤ L.length ∧ OwnW w.heap.size wr lv ds ∧ RecN wr rb [v, .int .i64 (q1 : Int), .bool f1] ∧ But rb w wr ∧
    ((f1 = f ∧ ∀ xs root data, Ms.tail2 xs root data (L.drop q) = Ms.rest xs root data ds (N - j) (L.drop q1)) ∨ (f1 = true ∧ ∀ xs root data, Ms.tail2 xs root data (L.drop q) = none))
set_option maxRecDepth 100000 in
set_option maxHeartbeats 1000000 in
theorem path_any (L : List B) (q : Nat) (f : Bool) (v : Value) (rb : Nat) (w : World) (hr : RecN w rb [v, .int .i64 (q : Int), .bool f]) (h : HasB w w.heap.size v L) (ho : Off rb v) (hq : q ≤ L.length) (hL : L.length ≤ 300000000) :
    Calls Tryz.prog 51 #[.pointer (some ⟨rb, 0, none⟩)] w fun e w' => ∃ (ds : List W) (pv : Value) (q' : Nat) (f' : Bool), e = .returned pv ∧ HasW w' w'.heap.size pv ds ∧ (∀ g, g < w.heap.size → Off g pv) ∧ ds.length ≤ 10 ∧ q' ≤ L.length ∧ RecN w' rb [v, .int .i64 (q' : Int), .bool f'] ∧ But rb w w' ∧
      ((f' = f ∧ ∀ (xs : List Int) root data, Ms.tail2 xs root data (L.drop q) = some (⟨xs.getD 0 0, xs.getD 1 0, xs.getD 2 0, xs.getD 3 0, xs.getD 4 0, root, xs.getD 5 0, data, ds⟩, L.drop q')) ∨ (f' = true ∧ ∀ xs root data, Ms.tail2 xs root data (L.drop q) = none)) := by
  have C := Lib.hid (next_int L q f v rb w hr h hq hL)
  have H := Lib.hid h; have HO := Lib.hid ho; have HL := Lib.hid hL
  have RL := Lib.hid hr.1
  clear hr h ho hq hL
  go_enter Tryz.func51, Tryz.ntmps51
  go_wp2_with fail
  refine (C.out).mono ?_; rintro e w1 ⟨n, q1, f1, rfl, hn, hq1, r1, b1, st⟩
  have R1 := Lib.hid r1; have B1 := Lib.hid b1; have HQ1 := Lib.hid hq1; have ST := Lib.hid st
  have H1 := Lib.hid ((H.out.but HO.out b1).wide b1.size)
  clear C r1 b1 hq1 st hn
  go_wp2_with fail
  refine (between_any n 0 10 _).mono ?_; rintro e w' ⟨rfl, rfl⟩
  by_cases hr : 0 ≤ n ∧ n ≤ 10
  · rw [show btw n 0 10 = true by unfold btw; rw [decide_eq_true hr.1, decide_eq_true hr.2]; rfl]
    obtain ⟨N, rfl⟩ : ∃ N : Nat, n = N := ⟨n.toNat, by omega⟩
    have hN10 : N ≤ 10 := by omega
    clear hr
    go_wp2
    go_loopw [4, 14] (PathRel L q f v rb N w) (fun _ i _ => N - (intOf i).toNat)
    case atStart =>
      refine ⟨0, q1, f1, [], by omega, rfl, rfl, HQ1.out, World.ownsRow_nil _ _ _ _, R1.out, B1.out, ?_⟩
      rcases ST.out with ⟨rfl, k, g1, rfl⟩ | ⟨rfl, c, g1⟩
      · exact .inl ⟨rfl, fun xs root data => by rw [Ms.tail2_rest g1 hN10, List.drop_drop, Nat.sub_zero]⟩
      · exact .inr ⟨rfl, fun xs root data => Ms.tail2_bad g1⟩
    case round =>
      obtain ⟨j, q2, f2, ds, hj, rfl, hds, hq2, own, r2, b2, st⟩ := hrel
      have R2 := Lib.hid r2; have B2 := Lib.hid b2; have HQ2 := Lib.hid hq2; have ST2 := Lib.hid st; have OW := Lib.hid own; have HDS := Lib.hid hds
      have H2 := Lib.hid ((H.out.but HO.out b2).wide b2.size)
      obtain ⟨al, cl, hlv⟩ := own.has.form
      rw [hds] at hlv
      subst hlv
      clear r2 b2 hq2 st own hds ST R1 B1 H1 HQ1
      by_cases hlt : j < N
      · have tk : (j : Int) < (N : Int) := by omega
        have C2 := Lib.hid (next_dig L q2 f2 v rb wr R2.out H2.out HQ2.out HL.out)
        go_wp2_with fail
        refine (C2.out).mono ?_; rintro e w3 ⟨x, q3, f3, rfl, hq3, r3, b3, st3⟩
        have hrl : rb < w.heap.size := RL.out
        have OW3 := Lib.hid (OW.out.but b3 hrl); have R3 := Lib.hid r3; have B3 := Lib.hid (B2.out.trans b3); have HQ3 := Lib.hid hq3; have ST3 := Lib.hid st3
        have hlit : (w3.alloc (.cells #[.int .u64 (uv x)] 23)).cell? ⟨w3.heap.size, 0, none⟩ = some (wval x) := by go_simp; rfl
        have hsz : w.heap.size ≤ w3.heap.size := B3.out.size
        clear r3 b3 hq3 st3 C2
        go_wp2_with (at_builtin; refine wpList_append_word rfl (.tmp 16) (.tmp 19) rfl w.heap.size _ ds x w3.heap.size 1 rfl (OW3.out.alloc _) rfl hlit (by have := HDS.out; omega) (by simp; omega) ?_)
        intro g1 cap1 w6 own6 grow6
        have B6 := Lib.hid ((((Below.refl w.heap.size w3).alloc hsz (.cells #[.int .u64 (uv x)] 23))).trans (below_grown (Below.refl w.heap.size _) (by simp; omega) (OW3.out.alloc (.cells #[.int .u64 (uv x)] 23)) grow6))
        have OW6 := Lib.hid own6
        clear own6 grow6 hlit
        go_wp2_with fail
        go_roundw
        case rel =>
          refine ⟨j + 1, q3, f3, ds ++ [x], by omega, by go_num, by rw [List.length_append, HDS.out]; rfl, HQ3.out, OW6.out, R3.out.below B6.out hrl, B3.out.later B6.out, ?_⟩
          rcases ST2.out with ⟨e2, g2⟩ | ⟨e2, g2⟩
          · rcases ST3.out with ⟨e3, k, g3, rfl⟩ | ⟨e3, c, g3⟩
            · refine .inl ⟨e3.trans e2, fun xs root data => ?_⟩
              rw [g2 xs root data, show N - j = (N - (j + 1)) + 1 by omega, Ms.rest_ok g3, List.drop_drop]
            · exact .inr ⟨e3, fun xs root data => by rw [g2 xs root data, show N - j = (N - (j + 1)) + 1 by omega, Ms.rest_bad g3]⟩
          · rcases ST3.out with ⟨e3, k, g3, rfl⟩ | ⟨e3, c, g3⟩
            · exact .inr ⟨e3.trans e2, g2⟩
            · exact .inr ⟨e3, g2⟩
        case measure => simp [intOf]; omega
      · obtain rfl : j = N := by omega
        go_wp2_with fail
        go_ret
        refine ⟨ds, _, q2, f2, rfl, OW.out.has, fun g hg => offW OW.out hg, by rw [HDS.out]; exact hN10, HQ2.out, R2.out, B2.out, ?_⟩
        rcases ST2.out with ⟨e2, g2⟩ | ⟨e2, g2⟩
        · exact .inl ⟨e2, fun xs root data => by rw [g2 xs root data, Nat.sub_self, Ms.rest_zero]⟩
        · exact .inr ⟨e2, g2⟩
  · rw [show btw n 0 10 = false by unfold btw; rw [Bool.and_eq_false_iff, decide_eq_false_iff_not, decide_eq_false_iff_not]; omega]
    have x2 := R1.out.c 2 rfl; have g2 := R1.out.f 2 (by simp)
    have HR := Lib.hid hr
    clear hr
    go_wp2_with fail
    go_ret
    refine ⟨[], _, q1, true, rfl, .inl ⟨none, 0, rfl, rfl⟩, fun g _ => Off.none _ _ _, by simp, HQ1.out, R1.out.set 2 (by simp) _, B1.out.setCell 2 _, .inr ⟨rfl, fun xs root data => ?_⟩⟩
    rcases ST.out with ⟨-, k, g1, -⟩ | ⟨-, c, g1⟩
    · exact Ms.tail2_out g1 (by have := HR.out; omega)
    · exact Ms.tail2_bad g1
end Go.Proofs.YtgkckomccabmlaaGreatDoor
