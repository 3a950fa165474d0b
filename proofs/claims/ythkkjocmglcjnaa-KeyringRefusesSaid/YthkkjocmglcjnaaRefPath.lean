/-
  What Path of the chapter returns: the path of the leaf, in memory of its own; nothing that was there has changed. Condition: the list has at most 2^20 digests.
-/
import Derived.Test.YthkkjocmglcjnaaCheck
import Derived.Test.YthkkjocmglcjnaaPath
namespace Go.Proofs.Ythkkjocmglcjnaa
open Go.ChangeShapes Go.WideShapes Go.ChangeAt Go.RowKit
open Dg (W B pairW)
set_option maxHeartbeats 2000000 in
theorem rpath_some (k : Nat) : ∀ (l : List W) (i : Nat) (b off cap : Nat) (w : World), l.length ≤ k → i < l.length → l.length ≤ 1048576 → l.length ≤ cap → b < w.heap.size →
    (∀ i, i < l.length → w.cell? ⟨b, off + i, none⟩ = some (.int .u64 (uv (l.getD i 0)))) →
    Calls Try.prog 25 #[.slice (some ⟨b, off, none⟩) l.length cap, .int .i64 (i : Int)] w (PathOk l i w) := by
  induction k with
  | zero => intro l i b off cap w h1 h2; omega
  | succ k ih =>
    intro l i b off cap w h1 h2 h3 h4 hb hc
    have q1 : decide ((i : Int) < 0) = false := decide_eq_false (by omega)
    have q2 : decide (l.length ≤ i) = false := decide_eq_false (by omega)
    by_cases h5 : 2 ≤ l.length
    · have hp := Mt.part_lt h5
      have hp1 := Mt.part_pos l.length
      have e1 : ((l.length : Int) == 1) = false := by rw [beq_eq_false_iff_ne]; omega
      have hpl := fun i => @path_l l i h5
      have hpr := fun i => @path_r l i h5
      have lt : (l.take (Mt.part l.length)).length = Mt.part l.length := by simp; omega
      have ld : (l.drop (Mt.part l.length)).length = l.length - Mt.part l.length := by simp
      generalize hpp : Mt.part l.length = m at hp hp1 hpl hpr lt ld
      have HP := Lib.hid hpp; clear hpp
      have r1 := fun w => words_to b off l.length cap m w (by omega) _ rfl
      have r2 := fun w => words_from b off l.length cap m w (by omega) h4 _ rfl
      by_cases hk : i < m
      · have hq := hpl i hk
        have h20 := path_20 (l := l.take m) (i := i) (by omega) (by omega)
        have c1 := ih (l.take m) i b off cap w (by omega) (by omega) (by omega) (by omega) hb (take_cells m hc)
        rw [lt] at c1
        have c2 := fun w' (hw : Below w.heap.size w w') => rroot_some (l.drop m).length (l.drop m) b (off + m) (cap - m) w' (Nat.le_refl _) (by omega) (by omega) (by omega) (below_cell (w := w) hb hw (drop_cells (w := w) m hc))
        rw [ld] at c2
        have C1 := Lib.hid c1
        have C2 := Lib.hid c2
        have HQ := Lib.hid hq
        have H20 := Lib.hid h20
        clear c1 c2 hq hpl hpr hc ih lt ld h20
        go_enter Try.func25, Try.ntmps25
        go_wp2_with fail
        refine (part_to l.length m HP.out _ h5 (by omega)).mono ?_; rintro e w' ⟨rfl, rfl⟩
        go_wp2_with fail
        refine (C1.out).mono ?_; rintro e w1 ⟨v1, rfl, own1, bel1⟩
        have OWN1 := Lib.hid own1; have BEL1 := Lib.hid bel1; clear own1 bel1
        go_wp2_with fail
        refine (C2.out _ BEL1.out).mono ?_; rintro e w2 ⟨rfl, nr, rfl⟩
        go_wp2_with (at_builtin; refine wpList_append_word rfl (.tmp 36) (.tmp 41) rfl w.heap.size v1 (Mt.path (l.take m) i) (Mt.root (l.drop m)) w1.heap.size 1 rfl (OWN1.out.alloc _) rfl (alloc_word _ _ _) (Nat.le_trans H20.out (by decide)) ?c1 ?_)
        case c1 => have := BEL1.out.size; simp; omega
        intro g3 cap3 w3 own3 grow3
        have BEL := Lib.hid (below_grown ((below_drewN BEL1.out _).alloc (by have := BEL1.out.size; simpa using this) _) (by have := BEL1.out.size; simp; omega) ((OWN1.out.drewN _).alloc _) grow3)
        have OWN := Lib.hid own3
        clear own3 grow3
        go_wp2_with fail
        go_ret2
        exact ⟨_, rfl, by rw [HQ.out]; exact OWN.out, BEL.out⟩
      · have hq := hpr i hk
        have h20 := path_20 (l := l.drop m) (i := i - m) (by omega) (by omega)
        have c1 := ih (l.drop m) (i - m) b (off + m) (cap - m) w (by omega) (by omega) (by omega) (by omega) hb (drop_cells m hc)
        rw [ld, Int.ofNat_sub (by omega)] at c1
        have c2 := fun w' (hw : Below w.heap.size w w') => rroot_some (l.take m).length (l.take m) b off cap w' (Nat.le_refl _) (by omega) (by omega) (by omega) (below_cell (w := w) hb hw (take_cells (w := w) m hc))
        rw [lt] at c2
        have C1 := Lib.hid c1
        have C2 := Lib.hid c2
        have HQ := Lib.hid hq
        have H20 := Lib.hid h20
        clear c1 c2 hq hpl hpr hc ih lt ld h20
        go_enter Try.func25, Try.ntmps25
        go_wp2_with fail
        refine (part_to l.length m HP.out _ h5 (by omega)).mono ?_; rintro e w' ⟨rfl, rfl⟩
        go_wp2_with fail
        refine (C1.out).mono ?_; rintro e w1 ⟨v1, rfl, own1, bel1⟩
        have OWN1 := Lib.hid own1; have BEL1 := Lib.hid bel1; clear own1 bel1
        go_wp2_with fail
        refine (C2.out _ BEL1.out).mono ?_; rintro e w2 ⟨rfl, nr, rfl⟩
        go_wp2_with (at_builtin; refine wpList_append_word rfl (.tmp 53) (.tmp 58) rfl w.heap.size v1 (Mt.path (l.drop m) (i - m)) (Mt.root (l.take m)) w1.heap.size 1 rfl (OWN1.out.alloc _) rfl (alloc_word _ _ _) (Nat.le_trans H20.out (by decide)) ?c1 ?_)
        case c1 => have := BEL1.out.size; simp; omega
        intro g3 cap3 w3 own3 grow3
        have BEL := Lib.hid (below_grown ((below_drewN BEL1.out _).alloc (by have := BEL1.out.size; simpa using this) _) (by have := BEL1.out.size; simp; omega) ((OWN1.out.drewN _).alloc _) grow3)
        have OWN := Lib.hid own3
        clear own3 grow3
        go_wp2_with fail
        go_ret2
        exact ⟨_, rfl, by rw [HQ.out]; exact OWN.out, BEL.out⟩
    · have e1 : ((l.length : Int) == 1) = true := by rw [beq_iff_eq]; omega
      have HQ := Lib.hid (path_one h5 i)
      clear ih hc
      go_enter Try.func25, Try.ntmps25
      go_wp2_with fail
      go_ret2
      exact ⟨_, rfl, by rw [HQ.out]; exact World.ownsRow_nil _ _ _ _, Below.refl _ _⟩
theorem rpath_out (a : Option Addr) (n cap : Nat) (l : List W) (hn : n = l.length) (i : Int) (w : World) (h : ¬ (0 ≤ i ∧ i < l.length)) :
    Calls Try.prog 25 #[.slice a n cap, .int .i64 i] w (PathRes l i w) := by
  subst hn
  unfold PathRes
  simp only [if_neg h]
  go_enter Try.func25, Try.ntmps25
  by_cases c1 : i < 0
  · go_wp2_with fail
    go_ret2
    exact ⟨_, rfl, World.ownsRow_nil _ _ _ _, Below.refl _ _⟩
  · have c2 : (l.length : Int) ≤ i := by omega
    go_wp2_with fail
    go_ret2
    exact ⟨_, rfl, World.ownsRow_nil _ _ _ _, Below.refl _ _⟩
theorem rpath_any (l : List W) (i : Int) (v : Value) (w : World) (h3 : l.length ≤ 1048576) (h : HasW w w.heap.size v l) :
    Calls Try.prog 25 #[v, .int .i64 i] w (PathRes l i w) := by
  by_cases hi : 0 ≤ i ∧ i < l.length
  · rcases h with ⟨a, cap, rfl, rfl⟩ | ⟨b, off, cap, rfl, g2, g3, g4⟩
    · simp at hi; omega
    · obtain ⟨j, rfl⟩ : ∃ j : Nat, i = j := ⟨i.toNat, by omega⟩
      refine (rpath_some l.length l j b off cap w (Nat.le_refl _) (by omega) h3 g2 g3 g4).mono ?_
      rintro e w' ⟨u, rfl, h1, h2⟩
      exact ⟨u, by rw [if_pos hi], by rw [if_pos hi, Int.toNat_natCast]; exact h1, h2⟩
  · obtain ⟨a, cap, rfl⟩ := h.form
    exact rpath_out a _ cap l rfl i w hi
end Go.Proofs.Ythkkjocmglcjnaa
