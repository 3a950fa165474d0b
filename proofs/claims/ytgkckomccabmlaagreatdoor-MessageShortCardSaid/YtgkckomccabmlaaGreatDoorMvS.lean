/-
  Which messages are equal, by package message. Nothing that was there has changed. Condition: the messages have fewer than a million digests.
-/
import Derived.Test.YtgkckomccabmlaaGreatDoorLmD
import Derived.Test.YtgkckomccabmlaaGreatDoorLmA
namespace Go.Proofs.YtgkckomccabmlaaGreatDoor
open Go.ChangeShapes Go.WideShapes Go.ChangeAt Go.RowKit
open Dg (W B)
open Ms (Msg)
theorem bequal_any (l m : List B) (v u : Value) (N M : Nat) (w : World) (h : HasB w N v l) (h' : HasB w M u m) :
    Calls Tryz.prog 37 #[v, u] w fun e w' => e = .returned (.bool (l == m)) ∧ w = w' := by
  have k1 := conv_all l v w N h
  have k2 := conv_all m u w M h'
  have hs : ((bstr l).toList = (bstr m).toList) = ((l == m) = true) := propext (by rw [ByteArray.toList_eq, ByteArray.toList_eq, Array.toList_inj, beq_iff_eq]; exact ⟨fun h => bstr_inj.1 (by cases hx : bstr l; cases hy : bstr m; rw [hx, hy] at h; exact congrArg ByteArray.mk h), fun h => by rw [h]⟩)
  obtain ⟨a, c, hv⟩ := h.form
  obtain ⟨a', c', hu⟩ := h'.form
  obtain ⟨n1, hn1⟩ : ∃ n, n = l.length := ⟨_, rfl⟩
  obtain ⟨n2, hn2⟩ : ∃ n, n = m.length := ⟨_, rfl⟩
  rw [← hn1] at hv; rw [← hn2] at hu
  generalize (l == m) = c8 at hs ⊢
  subst hv; subst hu
  clear h h' hn1 hn2
  go_enter Tryz.func37, Tryz.ntmps37
  go_wp2_with fail
  go_ret
  refine ⟨?_, rfl⟩
  have q : ((bstr l).toList == (bstr m).toList) = c8 := by rw [Bool.eq_iff_iff, beq_iff_eq, hs]
  first | (rw [← q]; rfl) | (simp [← q]; done)
set_option maxRecDepth 100000 in
set_option maxHeartbeats 400000 in
theorem ssame_some (l m : List W) (b off cap b' off' cap' : Nat) (w : World) (hl : l.length ≤ 4611686018427387904) (he : l.length = m.length)
    (hc : ∀ i, i < l.length → w.cell? ⟨b, off + i, none⟩ = some (.int .u64 (uv (l.getD i 0))))
    (hd : ∀ i, i < m.length → w.cell? ⟨b', off' + i, none⟩ = some (.int .u64 (uv (m.getD i 0)))) :
    Calls Tryz.prog 38 #[.slice (some ⟨b, off, none⟩) l.length cap, .slice (some ⟨b', off', none⟩) m.length cap'] w fun e w' => e = .returned (.bool (decide (l = m))) ∧ Below w.heap.size w w' := by
  have HC := Lib.hid hc; clear hc
  have HD := Lib.hid hd; clear hd
  have HE := Lib.hid he
  rw [← he]
  clear he
  go_enter Tryz.func38, Tryz.ntmps38
  go_wp2
  go_loopw [13] (fun i wr => SameRel l m i ∧ Below w.heap.size w wr) (fun i _ => l.length - (intOf i).toNat)
  case atStart => exact ⟨⟨0, by omega, rfl, fun j h => absurd h (by omega)⟩, Below.refl _ _⟩
  case round =>
    obtain ⟨⟨k, hk, rfl, hs⟩, hb⟩ := hrel
    have HS := Lib.hid hs; have HBL := Lib.hid hb; clear hs
    by_cases hlt : k < l.length
    · have hlm : k < m.length := by have := HE.out; omega
      have hck := fun (w' : World) (h : Below wr.drew.heap.size wr.drew w') => kept h (kept (w := w) (w' := wr.drew) hb.drew (HC.out k hlt))
      have hdk := fun (w' : World) (h : Below wr.drew.heap.size wr.drew w') => kept h (kept (w := w) (w' := wr.drew) hb.drew (HD.out k hlm))
      have HCK := Lib.hid hck; have HDK := Lib.hid hdk; clear hck hdk hb
      by_cases hx : l.getD k 0 = m.getD k 0
      · have c1 : (uv m[k] != uv l[k]) = false := by
          rw [same_test l m k hlt hlm, decide_eq_true hx]; rfl
        have c2 : (uv l[k] != uv m[k]) = false := by rw [bne_comm]; exact c1
        have HX := Lib.hid hx; clear hx
        go_wp2_with fail
        refine wp_region_seq [(0, true), (1, true), (2, true), (3, true), (4, true), (5, true), (6, true), (7, true), (8, true)] (by kernel_rfl) (by kernel_rfl) (by kernel_rfl) (by kernel_rfl) ?_
        iterate 9 (refine wpSeq_pure (v := ?_) rfl (by rfl) (fun w' hw' => ?_) ?_; rotate_left; (focus (have y1 := HCK.out w' hw'; have y2 := HDK.out w' hw'; go_simp; try with_reducible rfl)); try simp only [Act.put, List.setIfInBounds_toArray, List.set_cons_zero, List.set_cons_succ])
        refine wpSeq_nil ?_
        go_wp2_with fail
        go_roundw
        case rel => exact ⟨⟨k + 1, by omega, by go_num, fun j hj => by
          by_cases e : j = k
          · subst e; exact HX.out
          · exact HS.out j (by omega)⟩, HBL.out.drew⟩
        case measure => simp [intOf]; omega
      · have c1 : (uv m[k] != uv l[k]) = true := by
          rw [same_test l m k hlt hlm, decide_eq_false hx]; rfl
        have c2 : (uv l[k] != uv m[k]) = true := by rw [bne_comm]; exact c1
        have HX := Lib.hid hx; clear hx
        have d : decide (l = m) = false := by simp; intro e; apply HX.out; rw [e]
        have HDD := Lib.hid d; clear d
        go_wp2_with fail
        refine wp_region_seq [(0, true), (1, true), (2, true), (3, true), (4, true), (5, true), (6, true), (7, true), (8, true)] (by kernel_rfl) (by kernel_rfl) (by kernel_rfl) (by kernel_rfl) ?_
        iterate 9 (refine wpSeq_pure (v := ?_) rfl (by rfl) (fun w' hw' => ?_) ?_; rotate_left; (focus (have y1 := HCK.out w' hw'; have y2 := HDK.out w' hw'; go_simp; try with_reducible rfl)); try simp only [Act.put, List.setIfInBounds_toArray, List.set_cons_zero, List.set_cons_succ])
        refine wpSeq_nil ?_
        go_wp2_with fail
        go_ret
        exact ⟨by rw [HDD.out]; rfl, HBL.out.drew⟩
    · have d : decide (l = m) = true := by simp; exact same_all HE.out fun j hj => HS.out j (by omega)
      have HDD := Lib.hid d; clear d
      go_wp2
      go_ret
      exact ⟨by rw [HDD.out]; rfl, HBL.out⟩
theorem ssame_len (a a' : Option Addr) (n n' cap cap' : Nat) (w : World) (h : n ≠ n') :
    Calls Tryz.prog 38 #[.slice a n cap, .slice a' n' cap'] w fun e w' => e = .returned (.bool false) ∧ Below w.heap.size w w' := by
  have q : ((n : Int) != (n' : Int)) = true := by rw [bne_iff_ne]; omega
  go_enter Tryz.func38, Tryz.ntmps38
  go_wp2
  go_ret
  exact ⟨rfl, Below.refl _ _⟩
theorem ssame_zero (a a' : Option Addr) (cap cap' : Nat) (w : World) :
    Calls Tryz.prog 38 #[.slice a 0 cap, .slice a' 0 cap'] w fun e w' => e = .returned (.bool true) ∧ Below w.heap.size w w' := by
  go_enter Tryz.func38, Tryz.ntmps38
  go_wp2
  refine wp_loop_rounds 1 ?_
  rw [rounds_succ]
  go_wp2
  go_ret
  exact ⟨rfl, Below.refl _ _⟩
theorem ssame_any (l m : List W) (N M : Nat) (v u : Value) (w : World) (hl : l.length ≤ 4611686018427387904) (h : HasW w N v l) (h' : HasW w M u m) :
    Calls Tryz.prog 38 #[v, u] w fun e w' => e = .returned (.bool (decide (l = m))) ∧ Below w.heap.size w w' := by
  by_cases e : l.length = m.length
  · by_cases h0 : l.length = 0
    · obtain rfl : l = [] := List.length_eq_zero_iff.1 h0
      obtain rfl : m = [] := List.length_eq_zero_iff.1 e.symm
      obtain ⟨a, c, rfl⟩ := h.form
      obtain ⟨a', c', rfl⟩ := h'.form
      exact ssame_zero a a' c c' w
    · rcases h with ⟨a, cap, rfl, rfl⟩ | ⟨b, off, cap, rfl, h2, h3, h4⟩
      · exact absurd rfl h0
      · rcases h' with ⟨a', cap', rfl, rfl⟩ | ⟨b', off', cap', rfl, g2, g3, g4⟩
        · exact absurd e h0
        · exact ssame_some l m b off cap b' off' cap' w hl e h4 g4
  · obtain ⟨a, c, rfl⟩ := h.form
    obtain ⟨a', c', rfl⟩ := h'.form
    rw [decide_eq_false (fun h => e (by rw [h]))]
    exact ssame_len a a' _ _ c c' w e
set_option maxRecDepth 100000 in
set_option maxHeartbeats 4000000 in
theorem msame_any (m m' : Msg) (dv pv dv' pv' : Value) (w : World) (hm : MsgIn w m dv pv) (hm' : MsgIn w m' dv' pv') (hP : m.path.length ≤ 1000000) :
    Calls Tryz.prog 17 #[msgV m dv pv, msgV m' dv' pv'] w fun e w' => e = .returned (.bool (Ms.same m m')) ∧ Below w.heap.size w w' := by
  obtain ⟨kind, epoch, inst, round, bit, root, len, data, path⟩ := m
  obtain ⟨kind', epoch', inst', round', bit', root', len', data', path'⟩ := m'
  unfold msgV
  have b1 := ((Below.refl w.heap.size w).alloc (Nat.le_refl _) (.cells #[.int .i64 kind, .int .i64 epoch, .int .i64 inst, .int .i64 round, .int .i64 bit, .int .u64 (uv root), .int .i64 len, dv, pv] 27)).alloc (by simp) (.cells #[.int .i64 kind', .int .i64 epoch', .int .i64 inst', .int .i64 round', .int .i64 bit', .int .u64 (uv root'), .int .i64 len', dv', pv'] 27)
  have R1 := Lib.hid ((RecN.new w #[.int .i64 kind, .int .i64 epoch, .int .i64 inst, .int .i64 round, .int .i64 bit, .int .u64 (uv root), .int .i64 len, dv, pv] 27).alloc (.cells #[.int .i64 kind', .int .i64 epoch', .int .i64 inst', .int .i64 round', .int .i64 bit', .int .u64 (uv root'), .int .i64 len', dv', pv'] 27))
  have R2 := Lib.hid (RecN.new (w.alloc (.cells #[.int .i64 kind, .int .i64 epoch, .int .i64 inst, .int .i64 round, .int .i64 bit, .int .u64 (uv root), .int .i64 len, dv, pv] 27)) #[.int .i64 kind', .int .i64 epoch', .int .i64 inst', .int .i64 round', .int .i64 bit', .int .u64 (uv root'), .int .i64 len', dv', pv'] 27)
  have hsz : (w.alloc (.cells #[.int .i64 kind, .int .i64 epoch, .int .i64 inst, .int .i64 round, .int .i64 bit, .int .u64 (uv root), .int .i64 len, dv, pv] 27)).heap.size = w.heap.size + 1 := by simp
  rw [hsz] at R2
  obtain ⟨W1, hW1⟩ : ∃ W1, W1 = (w.alloc (.cells #[.int .i64 kind, .int .i64 epoch, .int .i64 inst, .int .i64 round, .int .i64 bit, .int .u64 (uv root), .int .i64 len, dv, pv] 27)).alloc (.cells #[.int .i64 kind', .int .i64 epoch', .int .i64 inst', .int .i64 round', .int .i64 bit', .int .u64 (uv root'), .int .i64 len', dv', pv'] 27) := ⟨_, rfl⟩
  have HW1 := Lib.hid hW1
  rw [← hW1] at b1 R1 R2
  have B1 := Lib.hid b1
  have CQ := Lib.hid (bequal_any data data' dv dv' _ _ W1 (hm.data.below b1 (Nat.le_refl _)) (hm'.data.below b1 (Nat.le_refl _)))
  have C := Lib.hid (ssame_any path path' _ _ pv pv' W1 (by exact Nat.le_trans hP (by omega)) (hm.path.below b1 (Nat.le_refl _)) (hm'.path.below b1 (Nat.le_refl _)))
  have hWs := hW1.symm
  clear hm hm' hP hsz b1 hW1 HW1
  have x0 := R1.out.c 0 rfl; have z0 := R2.out.c 0 rfl
  have x1 := R1.out.c 1 rfl; have z1 := R2.out.c 1 rfl
  have x2 := R1.out.c 2 rfl; have z2 := R2.out.c 2 rfl
  have x3 := R1.out.c 3 rfl; have z3 := R2.out.c 3 rfl
  have x4 := R1.out.c 4 rfl; have z4 := R2.out.c 4 rfl
  have x5 := R1.out.c 5 rfl; have z5 := R2.out.c 5 rfl
  have x6 := R1.out.c 6 rfl; have z6 := R2.out.c 6 rfl
  have x7 := R1.out.c 7 rfl; have z7 := R2.out.c 7 rfl; have x8 := R1.out.c 8 rfl; have z8 := R2.out.c 8 rfl
  have key : ∀ (c1 c2 c3 c4 c5 c6 c7 c8 : Bool), (kind == kind') = c1 → (epoch == epoch') = c2 → (inst == inst') = c3 → (round == round') = c4 → (bit == bit') = c5 → (root == root') = c6 → (len == len') = c7 → (data == data') = c8 → Ms.same ⟨kind, epoch, inst, round, bit, root, len, data, path⟩ ⟨kind', epoch', inst', round', bit', root', len', data', path'⟩ = (c1 && (c2 && (c3 && (c4 && (c5 && (c6 && (c7 && (c8 && (path == path'))))))))) := by
    rintro _ _ _ _ _ _ _ _ rfl rfl rfl rfl rfl rfl rfl rfl; rfl
  have hu : (uv root == uv root') = (root == root') := by rw [Bool.eq_iff_iff, beq_iff_eq, beq_iff_eq]; exact uv_inj
  have hp : decide (path = path') = (path == path') := by rw [Bool.eq_iff_iff, decide_eq_true_iff, beq_iff_eq]
  generalize (path == path') = c9 at key hp
  rw [hp] at C
  generalize h1 : (kind == kind') = c1
  generalize h2 : (epoch == epoch') = c2
  generalize h3 : (inst == inst') = c3
  generalize h4 : (round == round') = c4
  generalize h5 : (bit == bit') = c5
  generalize h6 : (root == root') = c6 at hu
  generalize h7 : (len == len') = c7
  generalize h8 : (data == data') = c8 at CQ
  rw [key c1 c2 c3 c4 c5 c6 c7 c8 h1 h2 h3 h4 h5 h6 h7 h8]
  clear key h6 h8 hp
  go_enter Tryz.func17, Tryz.ntmps17
  go_wp2_with (first | (go_at_call 37; refine (CQ.out).mono ?_; rintro e w' ⟨rfl, rfl⟩) | (go_at_call 38; refine (C.out).mono ?_; rintro e w' ⟨rfl, bz⟩; have BZ := Lib.hid (B1.out.trans (bz.mono B1.out.size)); clear bz))
  all_goals
    go_ret
    refine ⟨?_, by first | exact B1.out | exact BZ.out⟩
    simp_all
    done
end Go.Proofs.YtgkckomccabmlaaGreatDoor
