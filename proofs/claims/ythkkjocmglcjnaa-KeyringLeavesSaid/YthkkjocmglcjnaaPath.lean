/-
  What pathIn and Path of package merkle return: the path of the leaf, in memory of its own; nothing that was there has changed. Conditions: the list has at most 2^20 digests; for pathIn the index is less than its length.
-/
import Derived.Test.YthkkjocmglcjnaaRefUp
import Derived.Deep.RegionHeld3
import Derived.Deep.Onto
namespace Go.Proofs.Ythkkjocmglcjnaa
open Go.ChangeShapes Go.WideShapes Go.ChangeAt Go.RowKit
open Dg (W B pairW)

def PathPost (l : List W) (i : Nat) (w : World) (e : Ending) (w' : World) : Prop := ∃ v, e = .returned v ∧ OwnW w.heap.size w' v (Mt.path l i) ∧ Below w.heap.size w w'
theorem path_l {l : List W} {i : Nat} (h : 2 ≤ l.length) (hi : i < Mt.part l.length) : Mt.path l i = Mt.path (l.take (Mt.part l.length)) i ++ [Mt.root (l.drop (Mt.part l.length))] := by
  unfold Mt.path; rw [Mt.down_l h hi, List.reverse_cons]
theorem path_r {l : List W} {i : Nat} (h : 2 ≤ l.length) (hi : ¬ i < Mt.part l.length) : Mt.path l i = Mt.path (l.drop (Mt.part l.length)) (i - Mt.part l.length) ++ [Mt.root (l.take (Mt.part l.length))] := by
  unfold Mt.path; rw [Mt.down_r h hi, List.reverse_cons]
theorem path_one {l : List W} (h : ¬ 2 ≤ l.length) (i : Nat) : Mt.path l i = [] := by unfold Mt.path; rw [Mt.down_one h]; rfl
theorem path_20 {l : List W} {i : Nat} (h : i < l.length) (h2 : l.length ≤ 1048576) : (Mt.path l i).length ≤ 20 := by rw [Mt.path_len]; exact depth_lt h h2
theorem path_below {w w1 w3 : World} {v1 : Value} {l' : List W} {nr : Nat} {o : Obj} (own1 : OwnW w.drew.heap.size w1 v1 l') (bel1 : Below w.drew.heap.size w.drew w1) (grow : ((w1.drewN nr).alloc o).grownBy w3 v1.ownBlock) : Below w.heap.size w w3 := by
  have h1 : Below w.heap.size w w1 := ((Below.refl w.heap.size w).drew).trans bel1
  have h2 : Below w.heap.size w ((w1.drewN nr).alloc o) := (below_drewN h1 nr).alloc (by have := h1.size; exact this) o
  refine h2.grown grow ?_ (fun k hk => (own1.lt k hk).1)
  have := h1.size
  simp; omega
set_option maxHeartbeats 1000000 in
theorem pathIn_some (k : Nat) : ∀ (l : List W) (i : Nat) (b off cap : Nat) (w : World), l.length ≤ k → i < l.length → l.length ≤ 1048576 → l.length ≤ cap → b < w.heap.size →
    (∀ i, i < l.length → w.cell? ⟨b, off + i, none⟩ = some (.int .u64 (uv (l.getD i 0)))) →
    Calls Try.prog 41 #[.slice (some ⟨b, off, none⟩) l.length cap, .int .i64 (i : Int)] w (PathPost l i w) := by
  induction k with
  | zero => intro l i b off cap w h1 h2; omega
  | succ k ih =>
    intro l i b off cap w h1 h2 h3 h4 hb hc
    by_cases h5 : 2 ≤ l.length
    · have hp := Mt.part_lt h5
      have hp1 := Mt.part_pos l.length
      have e1 : ((l.length : Int) == 1) = false := by rw [beq_eq_false_iff_ne]; omega
      have hpl := fun i => @path_l l i h5
      have hpr := fun i => @path_r l i h5
      have lt : (l.take (Mt.part l.length)).length = Mt.part l.length := by simp; omega
      have ld : (l.drop (Mt.part l.length)).length = l.length - Mt.part l.length := by simp
      obtain ⟨i0, hi, hz0, hz1, hz2⟩ := info_parts infoWord
      generalize hpp : Mt.part l.length = m at hp hp1 hpl hpr lt ld
      have HP := Lib.hid hpp; clear hpp
      have r1 := fun w => words_to b off l.length cap m w (by omega) _ rfl
      have r2 := fun w => words_from b off l.length cap m w (by omega) h4 _ rfl
      by_cases hk : i < m
      · have hq := hpl i hk
        have h20 := path_20 (l := l.take m) (i := i) (by omega) (by omega)
        have c1 := ih (l.take m) i b off cap w.drew (by omega) (by omega) (by omega) (by omega) hb (take_cells m hc)
        rw [lt] at c1
        have c2 := fun w' (hw : Below w.heap.size w.drew w') => root_some (l.drop m).length (l.drop m) b (off + m) (cap - m) w' (Nat.le_refl _) (by omega) (by omega) (by omega) (below_cell (w := w.drew) hb hw (drop_cells (w := w.drew) m hc))
        rw [ld] at c2
        have C1 := Lib.hid c1
        have C2 := Lib.hid c2
        have HQ := Lib.hid hq
        have HC := Lib.hid hc
        have H20 := Lib.hid h20
        clear c1 c2 hq hpl hpr hc ih lt ld h20
        go_enter Try.func41, Try.ntmps41
        go_wp2_with fail
        refine (first_to l.length m HP.out _ h5 (by omega)).mono ?_; rintro e w' ⟨rfl, rfl⟩
        go_wp2_with fail
        go_region_held3 (fun _ => True) (trivial) (first
          | (go_at_call 41; refine (C1.out).mono ?_; rintro e w1 ⟨v1, rfl, own1, bel1⟩; have OWN1 := Lib.hid own1; have BEL1 := Lib.hid bel1; clear own1 bel1)
          | (go_at_call 28; refine (C2.out _ BEL1.out).mono ?_; rintro e w2 ⟨rfl, nr, rfl⟩)
          | (refine step_append_lies _ rfl (.tmp 19) (.tmp 24) _ rfl w.heap.size 23 i0 _ 1 8 Try.underlying26 hi hz0 hz1 hz2 rfl (by omega) v1 _ ((Mt.path (l.take m) i).map wval) rfl (by exact OWN1.out.alloc _) ⟨w1.heap.size, 0, none⟩ 1 1 [wval (Mt.root (l.drop m))] rfl rfl (news_one w1 nr _ _) (one_one _) (by omega) (by have := H20.out; unfold maxLen; omega) (by have := H20.out; omega) (by have := BEL1.out.size; simp at this ⊢; omega) (w1.heap.size + 1) (by simp) ?_; intro g1 cap1 w3 own3 grow3 at3 lt3))
        have OWN := Lib.hid (own_snoc own3)
        have BEL := Lib.hid (path_below OWN1.out BEL1.out grow3)
        clear own3 grow3 at3
        go_wp2_with fail
        go_ret
        exact ⟨_, rfl, by rw [HQ.out]; exact OWN.out, BEL.out⟩
      · have hq := hpr i hk
        have h20 := path_20 (l := l.drop m) (i := i - m) (by omega) (by omega)
        have c1 := ih (l.drop m) (i - m) b (off + m) (cap - m) w.drew (by omega) (by omega) (by omega) (by omega) hb (drop_cells m hc)
        rw [ld, Int.ofNat_sub (by omega)] at c1
        have c2 := fun w' (hw : Below w.heap.size w.drew w') => root_some (l.take m).length (l.take m) b off cap w' (Nat.le_refl _) (by omega) (by omega) (by omega) (below_cell (w := w.drew) hb hw (take_cells (w := w.drew) m hc))
        rw [lt] at c2
        have C1 := Lib.hid c1
        have C2 := Lib.hid c2
        have HQ := Lib.hid hq
        have HC := Lib.hid hc
        have H20 := Lib.hid h20
        clear c1 c2 hq hpl hpr hc ih lt ld h20
        have hw : IntKind.i64.wrap ((i : Int) - (m : Int)) = (i : Int) - m := IntWalk.i64_in _ (by omega)
        have hw2 : wrap64 ((i : Int) - (m : Int)) = (i : Int) - m := by unfold wrap64; omega
        go_enter Try.func41, Try.ntmps41
        go_wp2_with fail
        refine (first_to l.length m HP.out _ h5 (by omega)).mono ?_; rintro e w' ⟨rfl, rfl⟩
        go_wp2_with fail
        go_region_held3 (fun _ => True) (trivial) (first
          | (go_at_call 41; refine (C1.out).mono ?_; rintro e w1 ⟨v1, rfl, own1, bel1⟩; have OWN1 := Lib.hid own1; have BEL1 := Lib.hid bel1; clear own1 bel1)
          | (go_at_call 28; refine (C2.out _ BEL1.out).mono ?_; rintro e w2 ⟨rfl, nr, rfl⟩)
          | (refine step_append_lies _ rfl (.tmp 32) (.tmp 37) _ rfl w.heap.size 23 i0 _ 1 8 Try.underlying26 hi hz0 hz1 hz2 rfl (by omega) v1 _ ((Mt.path (l.drop m) (i - m)).map wval) rfl (by exact OWN1.out.alloc _) ⟨w1.heap.size, 0, none⟩ 1 1 [wval (Mt.root (l.take m))] rfl rfl (news_one w1 nr _ _) (one_one _) (by omega) (by have := H20.out; unfold maxLen; omega) (by have := H20.out; omega) (by have := BEL1.out.size; simp at this ⊢; omega) (w1.heap.size + 1) (by simp) ?_; intro g1 cap1 w3 own3 grow3 at3 lt3))
        have OWN := Lib.hid (own_snoc own3)
        have BEL := Lib.hid (path_below OWN1.out BEL1.out grow3)
        clear own3 grow3 at3
        go_wp2_with fail
        go_ret
        exact ⟨_, rfl, by rw [HQ.out]; exact OWN.out, BEL.out⟩
    · have e1 : ((l.length : Int) == 1) = true := by rw [beq_iff_eq]; omega
      have HQ := Lib.hid (path_one h5 i)
      clear ih hc
      go_enter Try.func41, Try.ntmps41
      go_wp2_with fail
      go_ret
      exact ⟨_, rfl, by rw [HQ.out]; exact World.ownsRow_nil _ _ _ _, Below.refl _ _⟩
/-! ### Path -/
def PathRes (l : List W) (i : Int) (w : World) (e : Ending) (w' : World) : Prop :=
  ∃ v, e = .returned (.tuple #[v, .int .i64 (if 0 ≤ i ∧ i < l.length then 0 else 2)]) ∧ OwnW w.heap.size w' v (if 0 ≤ i ∧ i < l.length then Mt.path l i.toNat else []) ∧ Below w.heap.size w w'
theorem path_out (a : Option Addr) (n cap : Nat) (l : List W) (hn : n = l.length) (i : Int) (w : World) (h : ¬ (0 ≤ i ∧ i < l.length)) :
    Calls Try.prog 21 #[.slice a n cap, .int .i64 i] w (PathRes l i w) := by
  subst hn
  unfold PathRes
  simp only [if_neg h]
  go_enter Try.func21, Try.ntmps21
  by_cases c1 : i < 0
  · go_wp2_with fail
    go_ret2
    exact ⟨_, rfl, World.ownsRow_nil _ _ _ _, Below.refl _ _⟩
  · have c2 : (l.length : Int) ≤ i := by omega
    go_wp2_with fail
    go_ret2
    exact ⟨_, rfl, World.ownsRow_nil _ _ _ _, Below.refl _ _⟩
theorem path_some (l : List W) (i : Nat) (b off cap : Nat) (w : World) (h2 : i < l.length) (h3 : l.length ≤ 1048576) (h4 : l.length ≤ cap) (hb : b < w.heap.size)
    (hc : ∀ i, i < l.length → w.cell? ⟨b, off + i, none⟩ = some (.int .u64 (uv (l.getD i 0)))) :
    Calls Try.prog 21 #[.slice (some ⟨b, off, none⟩) l.length cap, .int .i64 (i : Int)] w (PathRes l i w) := by
  have h : 0 ≤ (i : Int) ∧ (i : Int) < l.length := by omega
  unfold PathRes
  simp only [if_pos h, Int.toNat_natCast]
  have C := Lib.hid (pathIn_some l.length l i b off cap w (Nat.le_refl _) h2 h3 h4 hb hc)
  have q1 : decide ((i : Int) < 0) = false := decide_eq_false (by omega)
  have q2 : decide (l.length ≤ i) = false := decide_eq_false (by omega)
  clear hc
  go_enter Try.func21, Try.ntmps21
  go_wp2_with fail
  refine (C.out).mono ?_; rintro e w1 ⟨v1, rfl, own1, bel1⟩
  have OWN1 := Lib.hid own1
  have BEL1 := Lib.hid bel1
  clear own1 bel1
  go_wp2_with fail
  go_ret2
  exact ⟨_, rfl, OWN1.out, BEL1.out⟩
theorem path_any (l : List W) (i : Int) (v : Value) (w : World) (h3 : l.length ≤ 1048576) (h : HasW w w.heap.size v l) :
    Calls Try.prog 21 #[v, .int .i64 i] w (PathRes l i w) := by
  by_cases hi : 0 ≤ i ∧ i < l.length
  · rcases h with ⟨a, cap, rfl, rfl⟩ | ⟨b, off, cap, rfl, g2, g3, g4⟩
    · simp at hi; omega
    · obtain ⟨j, rfl⟩ : ∃ j : Nat, i = j := ⟨i.toNat, by omega⟩
      exact path_some l j b off cap w (by omega) h3 g2 g3 g4
  · obtain ⟨a, cap, rfl⟩ := h.form
    exact path_out a _ cap l rfl i w hi
def PathOk (l : List W) (i : Nat) (w : World) (e : Ending) (w' : World) : Prop :=
  ∃ v, e = .returned (.tuple #[v, .int .i64 0]) ∧ OwnW w.heap.size w' v (Mt.path l i) ∧ Below w.heap.size w w'
theorem path_ok (l : List W) (i : Nat) (n : Int) (hn : n = i) (v : Value) (w : World) (h3 : l.length ≤ 1048576) (hi : i < l.length) (h : HasW w w.heap.size v l) :
    Calls Try.prog 21 #[v, .int .i64 n] w (PathOk l i w) := by
  subst hn
  refine (path_any l i v w h3 h).mono ?_
  rintro e w' ⟨u, rfl, h1, h2⟩
  have hh : 0 ≤ (i : Int) ∧ (i : Int) < l.length := by omega
  rw [if_pos hh, Int.toNat_natCast] at h1
  exact ⟨u, by rw [if_pos hh], h1, h2⟩
end Go.Proofs.Ythkkjocmglcjnaa
