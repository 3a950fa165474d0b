/-
  The law of words (DigestWords) returns true. Condition: the library's table math/bits.deBruijn64tab holds what it is laid with.
-/
import Derived.Test.YtbgkcelihemmjaaDoorAwake
import Derived.Test.YtbgkcelihemmjaaDoorOpen
import Derived.Deep.QuietTactic
import Derived.BigQuiet
import Derived.Laws.AppendOwn
import Derived.Laws.CopyOwn
import Derived.Deep.AppendLies
import Derived.Deep.RegionLaw
import Derived.StillTailTactics
import Derived.WalkLawsBesides
import Derived.Outline
namespace Go.Proofs.YtbgkcelihemmjaaDoor
open Go.ChangeShapes Go.WideShapes Go.ChangeAt Go.RowKit
open Dg (W B)
theorem infoByte : (Tryd.prog.info? 5).map (fun i => (i.zero, i.size, i.bytes)) = some (some (.int .u8 0), 1, 1) := by kernel_rfl
theorem info_parts {P : Program} {t : TypeId} {z : Value} {s b : Nat} (h : (P.info? t).map (fun i => (i.zero, i.size, i.bytes)) = some (some z, s, b)) :
    ∃ i, P.info? t = some i ∧ i.zero = some z ∧ i.size = s ∧ i.bytes = b := by
  cases h' : P.info? t with
  | none => rw [h'] at h; cases h
  | some i =>
    rw [h'] at h
    have := Option.some.inj h
    simp only [Prod.mk.injEq] at this
    exact ⟨i, rfl, this.1, this.2.1, this.2.2⟩
theorem mod_to (n m : Int) (q : Nat) (h : n % m = q) (w : World) (hn : (Lit.int .i64 n).wf = true) (h1 : 1 ≤ m) (h2 : m ≤ 4611686018427387904) :
    Calls Tryd.prog 18 #[.int .i64 n, .int .i64 m] w fun e w' => e = .returned (.int .i64 (q : Int)) ∧ w = w' := by
  rw [← h]; exact mod_pos n m w hn h1 h2
/-- where a slice of a slice begins, at a place that is not its end -/
theorem run_from (b off len cap k : Nat) (w : World) (h : k < len) (hc : len ≤ cap) (x : Int) (hx : x = k) :
    (Instr.slice 22 (.slice (some ⟨b, off, none⟩) len cap) (some (.int .i64 x)) none none).run Tryd.prog w = .ok (.slice (some ⟨b, off + k, none⟩) (len - k) (cap - k)) w := by
  subst hx
  have he : (sizeOf (Tryd.prog.elem 22)).run Tryd.prog w = .ok 1 w := by kernel_rfl
  rw [run_slice_l w 22 _ len cap (by kernel_rfl) .i64 (k : Int) (by omega) (by omega), he]
  show Result.ok (sliced _ _ _ _ _) w = _
  unfold sliced
  rw [Int.toNat_natCast, if_neg (by omega), Option.map_some, Nat.mul_one, add_plain']
theorem run_head (N m : Nat) (w : World) (h : m ≤ 8) :
    (Instr.sliceAt 35 (.pointer (some ⟨N, 0, none⟩)) none (some (.int .i64 (m : Int))) none).run Tryd.prog w = .ok (.slice (some ⟨N, 0, none⟩) m 8) w := by
  have hal : Tryd.prog.arrayLen 35 = 8 := by kernel_rfl
  have he : (sizeOf (Tryd.prog.elem 35)).run Tryd.prog w = .ok 1 w := by kernel_rfl
  rw [run_sliceAt_array_h w 35 ⟨N, 0, none⟩ (by kernel_rfl) .i64 (m : Int) (by omega) (by rw [hal]; omega), hal, he]
  show Result.ok (slicedAt _ _ _ _ _) w = _
  unfold slicedAt
  rw [if_neg (by decide), Int.toNat_natCast, Nat.zero_mul, add_plain', Nat.sub_zero]
/-- the string of bytes -/
def bstr (l : List B) : ByteArray := ⟨(l.map UInt8.ofBitVec).toArray⟩
theorem bstr_inj {a b : List B} : bstr a = bstr b ↔ a = b := by
  refine ⟨fun h => ?_, fun h => by rw [h]⟩
  have := congrArg (fun s : ByteArray => s.data.toList) h
  have h2 : a.map UInt8.ofBitVec = b.map UInt8.ofBitVec := by simpa [bstr] using this
  have h3 := congrArg (List.map UInt8.toBitVec) h2
  simpa [List.map_map, Function.comp_def] using h3
theorem conv_bytes (l : List B) (b off cap : Nat) (w : World) (hc : ∀ i, i < l.length → w.cell? ⟨b, off + i, none⟩ = some (.int .u8 (bv (l.getD i 0)))) :
    (convert 22 9 (.slice (some ⟨b, off, none⟩) l.length cap)).run Tryd.prog w = .ok (.string (bstr l)) w := by
  have := run_convert_bytes_back (P := Tryd.prog) w 22 9 5 ⟨b, off, none⟩ cap (l.map UInt8.ofBitVec) Tryd.underlying22 Tryd.underlying5 Tryd.underlying9 (fun j hj => by
    have hj' : j < l.length := by simpa using hj
    rw [add_plain', hc j hj']
    simp [List.getD, hj', bv])
  rw [List.length_map] at this
  exact this
/-- l with the word number q in place of u -/
def put8 (l u : List B) (q m : Nat) : List B := l.take (q * 8) ++ (u.take m ++ l.drop (q * 8 + m))
theorem put8_len (l u : List B) (q m : Nat) (hu : u.length = 8) (hm : m = min 8 (l.length - q * 8)) (hq : q * 8 < l.length) : (put8 l u q m).length = l.length := by
  simp [put8]; omega
theorem put8_near (l u : List B) (q m : Nat) (hu : u.length = 8) (hm : m = min 8 (l.length - q * 8)) (hq : q * 8 < l.length) : Dg.Near l (put8 l u q m) q := by
  refine ⟨(put8_len l u q m hu hm hq).symm, fun i hi => ?_⟩
  unfold put8
  rcases hi with hi | hi
  · have h1 : i < l.length := by omega
    rw [List.getD, List.getD, List.getElem?_append_left (by simp; omega), List.getElem?_take, if_pos (by omega)]
  · by_cases h1 : i < l.length
    · have e1 : ¬ i < q * 8 := by omega
      have e2 : (l.take (q * 8)).length = q * 8 := by simp; omega
      have e3 : (u.take m).length = m := by simp; omega
      rw [List.getD, List.getD, List.getElem?_append_right (by omega), e2, List.getElem?_append_right (by omega), e3, List.getElem?_drop]
      congr 2; omega
    · have hl := put8_len l u q m hu hm hq
      unfold put8 at hl
      simp [List.getD, h1, hl]
theorem put8_map (l u : List B) (q m : Nat) (cur : List Value) (hu : u.length = 8) (hm : m = min 8 (l.length - q * 8)) (hq : q * 8 < l.length) (ht : cur.take l.length = l.map bval) :
    (splice cur (q * 8) ((u.map bval).take m)).take l.length = (put8 l u q m).map bval := by
  have hR : cur = l.map bval ++ cur.drop l.length := by rw [← ht, List.take_append_drop]
  have e3 : ((u.map bval).take m).length = m := by simp; omega
  have hlen := put8_len l u q m hu hm hq
  have f1 : List.take (q * 8) cur = List.take (q * 8) (l.map bval) := by rw [hR, List.take_append_of_le_length (by simp; omega)]
  have f2 : List.drop (q * 8 + m) cur = List.drop (q * 8 + m) (l.map bval) ++ cur.drop l.length := by
    rw [← List.drop_append_of_le_length (by simp; omega), ← hR]
  unfold splice
  rw [e3, f1, f2]
  have e5 : List.take (q * 8) (l.map bval) ++ ((u.map bval).take m ++ (List.drop (q * 8 + m) (l.map bval) ++ cur.drop l.length)) = (put8 l u q m).map bval ++ cur.drop l.length := by
    unfold put8
    rw [List.map_append, List.map_append, List.map_take, List.map_take, List.map_drop, List.append_assoc, List.append_assoc]
  rw [e5, List.take_append_of_le_length (by simp; omega), List.take_of_length_le (by simp; omega)]
theorem tab_below {w w' : World} (h : Tab w) (hb : Below w.heap.size w w') : Tab w' := by
  have hlt := World.block_lt_of_cell? w _ h
  unfold Tab at h ⊢
  rw [hb.cell hlt]; exact h
theorem of_same (l : List B) (N : Nat) (v : Value) (w : World) (hl : l.length ≤ 4611686018427387904) (h : HasB w N v l) :
    Calls Tryd.prog 10 #[v] w fun e w' => e = .returned (.int .u64 (uv (Dg.ofB l))) ∧ w' = w :=
  (of_any l N v w hl h).mono fun _ _ h => ⟨h.1, h.2.symm⟩
theorem bstr_test (l m : List B) : ((bstr l).toList == (bstr m).toList) = decide (l = m) := by
  rw [Bool.eq_iff_iff, beq_iff_eq, ByteArray.toList_eq, ByteArray.toList_eq, decide_eq_true_iff]
  refine ⟨fun h => bstr_inj.1 (bytes_inj h), fun h => by rw [h]⟩
namespace digestWords

set_option maxRecDepth 100000 in
theorem walk_some (l : List B) (u : List B) (b off cap : Nat) (n : Int) (w : World) (h : Tab w) (hu : u.length = 8) (hn : (Lit.int .i64 n).wf = true) (h0 : 0 < l.length) (h5 : l.length ≤ 500) (hcap : l.length ≤ cap) (hb : b < w.heap.size)
    (hc : ∀ i, i < l.length → w.cell? ⟨b, off + i, none⟩ = some (.int .u8 (bv (l.getD i 0)))) :
    Calls Tryd.prog 5 #[.slice (some ⟨b, off, none⟩) l.length cap, .int .i64 n, .agg (u.map bval).toArray] w fun e w' => e = .returned (.bool true) ∧ Below w.heap.size w w' := by
  have H := Lib.hid h; clear h
  have HC := Lib.hid hc; clear hc
  have t1 : ((l.length : Int) == 0) = false := by rw [beq_eq_false_iff_ne]; omega
  have t2 : ¬ (500 : Int) < l.length := by omega
  obtain ⟨i0, hi, hz0, hz1, hz2⟩ := info_parts infoByte
  have HW := Lib.hid (rfl : w.alloc (.cells (u.map bval).toArray 35) = w.alloc (.cells (u.map bval).toArray 35))
  go_enter Tryd.func5, Tryd.ntmps5
  go_wp2_with (at_builtin; refine wpList_append_lies _ rfl (.const (.slice none 0 0)) (.tmp 18) _ rfl w.heap.size 5 i0 _ 1 1 Tryd.underlying22 hi hz0 hz1 hz2 rfl (by omega) (.slice none 0 0) 0 [] rfl (World.ownsRow_nil _ _ _ _) ⟨b, off, none⟩ l.length cap (l.map bval) rfl (by simp) ?c1 ?c2 (by omega) (by unfold maxLen; omega) (by omega) (by simp) (w.heap.size + 1) (by simp) ?_)
  case c1 =>
    intro j v hv
    obtain ⟨hj, e⟩ := List.getElem?_eq_some_iff.1 hv
    rw [HC.out j hj, ← e]
    simp [hj, bval]
  case c2 => intro x _; rfl
  intro g1 cap1 w1 own1 grow1 at1 lt1
  have hq0 : 0 ≤ n % (((l.length : Int) + 7) / 8) := Int.emod_nonneg _ (by omega)
  have hq1 : n % (((l.length : Int) + 7) / 8) < ((l.length : Int) + 7) / 8 := Int.emod_lt_of_pos _ (by omega)
  obtain ⟨q, hq⟩ : ∃ q : Nat, n % (((l.length : Int) + 7) / 8) = q := ⟨_, (Int.toNat_of_nonneg hq0).symm⟩
  rw [hq] at hq0 hq1
  have q8 : q * 8 < l.length := by omega
  have HQ := Lib.hid hq; clear hq hq0 hq1
  rcases own1.2 with ⟨hv, _⟩ | ⟨g, c, cur, hv, hgb, hg, hle, hmx, hsz, htake⟩
  · cases hv
  simp only [Value.slice.injEq, Option.some.injEq, Addr.mk.injEq, true_and, and_true] at hv
  obtain ⟨rfl, rfl⟩ := hv
  have G1 := Lib.hid grow1; clear grow1 at1 own1
  go_wp2_with fail
  refine (mod_to _ _ q HQ.out _ hn (by omega) (by omega)).mono ?_; rintro e w' ⟨rfl, rfl⟩
  obtain ⟨m, hm⟩ : ∃ m : Nat, m = min 8 (l.length - q * 8) := ⟨_, rfl⟩
  have hsA := fun W => run_from g1 0 l.length cap1 (q * 8) W q8 hle ((q : Int) * 8) (by omega)
  have hsB := fun W => run_head w.heap.size m W (by omega)
  have hsw : IntKind.i64.wrap ((l.length : Int) - (q : Int) * 8) = (l.length : Int) - (q : Int) * 8 := IntWalk.i64_in _ (by omega)
  have hmn : min 8 ((l.length : Int) - (q : Int) * 8) = (m : Int) := by omega
  have HM := Lib.hid hm; clear hm
  go_wp2
  go_still_tail 9, (by kernel_rfl)
  change wpList _ _ _ _ _ w1.drew
  have HT := Lib.hid htake; clear htake
  have hcs : ((u.map bval).take m).length = m := by simp; have := HM.out; omega
  have HCS := Lib.hid hcs
  refine wpList_copy_splice rfl (.tmp 29) (.tmp 35) 22 22 rfl 5 Tryd.underlying22 (by kernel_rfl) (some ⟨g1, q * 8, none⟩) (some ⟨w.heap.size, 0, none⟩) (l.length - q * 8) (cap1 - q * 8) m 8 rfl rfl
    g1 (q * 8) cur.toList 5 ?d1 ((u.map bval).take m) ?d2 ?d3 ?d4 ?d5 w.heap.size w ?d6 hgb ?_
  case d1 => show w1.heap[g1]? = _; simpa using hg
  case d2 => rw [hcs]; have := HM.out; show m = min _ _; omega
  case d3 =>
    intro _
    refine ⟨rfl, _, rfl, fun j v hv => ?_⟩
    have hblk : w1.heap[w.heap.size]? = some (.cells (u.map bval).toArray 35 (0, 0)) :=
      (G1.out.block w.heap.size (by simp) (by simp [Value.ownBlock])).trans (heap_alloc_new w _)
    refine World.news_of_block (w := w1.drew) hblk j v ?_
    rw [List.getElem?_take] at hv
    split at hv
    · exact hv
    · cases hv
  case d4 => rw [hcs]; simp; have := HM.out; omega
  case d5 => intro v hv; have hv := List.mem_of_mem_take hv; simp [bval] at hv; obtain ⟨x, _, rfl⟩ := hv; rfl
  case d6 => exact ((((Below.refl _ _).alloc (Nat.le_refl _) _).grown G1.out (by simp) (fun k hk => by simp [Value.ownBlock] at hk)).drew)
  intro w2 hg2 hb2
  clear hcs hsA hsB hsw hmn
  have hbl : ∀ i, i < l.length → w2.cell? ⟨b, off + i, none⟩ = some (.int .u8 (bv (l.getD i 0))) := by
    intro i hi
    rw [hb2.cell (p := ⟨b, off + i, none⟩) hb]
    exact HC.out i hi
  obtain ⟨l', hl'⟩ : ∃ l', l' = put8 l u q m := ⟨_, rfl⟩
  have hll : l'.length = l.length := by rw [hl']; exact put8_len l u q m hu HM.out q8
  have hln : Dg.Near l l' q := by rw [hl']; exact put8_near l u q m hu HM.out q8
  have hbl' : ∀ i, i < l'.length → w2.cell? ⟨g1, 0 + i, none⟩ = some (.int .u8 (bv (l'.getD i 0))) := by
    intro i hi
    have hm2 := put8_map l u q m cur.toList hu HM.out q8 (by simpa using HT.out)
    rw [← hl'] at hm2
    rw [Nat.zero_add, cell_of_row w2 g1 i _ _ _ hg2.out]
    have h1 : (splice cur.toList (q * 8) ((u.map bval).take m))[i]? = (l'.map bval)[i]? := by rw [← hm2, List.getElem?_take, if_pos (by omega)]
    rw [List.getElem?_toArray, h1]
    simp [hi, bval]
  have g2 : g1 < w2.heap.size := by
    have := (Array.getElem?_eq_some_iff.1 hg2.out).1; exact this
  have hA : HasB w2.drew w2.heap.size (.slice (some ⟨b, off, none⟩) l.length cap) l := .inr ⟨b, off, cap, rfl, hcap, by have := hb2.size; omega, hbl⟩
  have hB : HasB w2.drew w2.heap.size (.slice (some ⟨g1, 0, none⟩) l.length cap1) l' := .inr ⟨g1, 0, cap1, by rw [hll], by omega, g2, hbl'⟩
  have cA := conv_bytes l b off cap w2.drew hbl
  have cB := conv_bytes l' g1 0 cap1 w2.drew hbl'
  rw [hll] at cB
  have HA := Lib.hid hA; clear hA
  have HB := Lib.hid hB; clear hB
  have HT := Lib.hid (tab_below H.out hb2.drew)
  have t3 : (uv (Dg.ofB l) == uv (Dg.ofB l')) = decide (l = l') := by
    rw [uv_eq, Bool.eq_iff_iff, beq_iff_eq, Dg.near_of hln (by omega), decide_eq_true_iff]
  have t4 := bstr_test l l'
  have L1 : Hid (l'.length ≤ 4611686018427387904) := by rw [hll]; exact Nat.le_trans h5 (by decide)
  have HB2 := Lib.hid hb2; clear hb2
  clear hl' hll hln hbl hbl' hg2 g2
  by_cases hd : l = l'
  · rw [decide_eq_true hd] at t3 t4
    have HD := Lib.hid hd; clear hd
    go_wp2
    refine wp_region_still_tail 12 (by kernel_rfl) (by kernel_rfl) ?_
    simp only [List.take_succ_cons, List.take_zero, List.drop_succ_cons, List.drop_zero]
    still_step
    still_call (of_same l _ _ _ (by omega) HA.out)
    still_step
    still_call (of_same l' _ _ _ L1.out HB.out)
    repeat still_step
    refine wpStill_nil ?_
    change wpList _ _ _ _ _ w2.drew
    go_wp2_with fail
    refine (awake_any _ HT.out).mono ?_; rintro e w3 ⟨rfl, hb3⟩
    have HB3 := Lib.hid hb3; clear hb3
    go_wp2
    go_ret
    exact ⟨rfl, HB2.out.drew.trans (HB3.out.mono HB2.out.drew.size)⟩
  · rw [decide_eq_false hd] at t3 t4
    have HD := Lib.hid hd; clear hd
    go_wp2
    refine wp_region_still_tail 12 (by kernel_rfl) (by kernel_rfl) ?_
    simp only [List.take_succ_cons, List.take_zero, List.drop_succ_cons, List.drop_zero]
    still_step
    still_call (of_same l _ _ _ (by omega) HA.out)
    still_step
    still_call (of_same l' _ _ _ L1.out HB.out)
    repeat still_step
    refine wpStill_nil ?_
    change wpList _ _ _ _ _ w2.drew
    go_wp2_with fail
    refine (awake_any _ HT.out).mono ?_; rintro e w3 ⟨rfl, hb3⟩
    have HB3 := Lib.hid hb3; clear hb3
    go_wp2
    go_ret
    exact ⟨rfl, HB2.out.drew.trans (HB3.out.mono HB2.out.drew.size)⟩
theorem walk_awake (v : Value) (a : Option Addr) (n cap : Nat) (m : Int) (u : List B) (w : World) (h : Tab w) (hv : v = .slice a n cap) (hn : n = 0 ∨ 500 < n) (hx : n ≤ maxLen) :
    Calls Tryd.prog 5 #[v, .int .i64 m, .agg (u.map bval).toArray] w fun e w' => e = .returned (.bool true) ∧ Below w.heap.size w w' := by
  subst hv
  have H := Lib.hid (tab_alloc h (.cells (u.map bval).toArray 35)); clear h
  unfold maxLen at hx
  have e : ((n : Int) == 0) = true ∨ ((n : Int) == 0) = false ∧ (500 : Int) < n := by
    rcases hn with rfl | h
    · exact .inl rfl
    · exact .inr ⟨by rw [beq_eq_false_iff_ne]; omega, by omega⟩
  clear hn
  rcases e with e | ⟨e, e2⟩
  all_goals
    go_enter Tryd.func5, Tryd.ntmps5
    go_wp2_with fail
    refine (awake_any _ H.out).mono ?_; rintro e w' ⟨rfl, hb⟩
    have HB := Lib.hid hb; clear hb
    go_wp2
    go_ret
    exact ⟨rfl, ((Below.refl _ _).alloc (Nat.le_refl _) _).trans (HB.out.mono (by simp))⟩
theorem walk (w : World) (h : Tab w) (v0 : Value) (l0 : List B) (m0 : l0.length ≤ maxLen) (b0 : HasB w w.heap.size v0 l0) (a1 : Int) (w1 : (Lit.int .i64 a1).wf = true) (u2 : List B) (hu2 : u2.length = 8) :
    Calls Tryd.prog 5 #[v0, .int .i64 a1, .agg (u2.map bval).toArray] w fun e w' => e = .returned (.bool true) ∧ Below w.heap.size w w' := by
  rcases b0 with ⟨a, cap, rfl, rfl⟩ | ⟨b, off, cap, rfl, h2, h3, h4⟩
  · exact walk_awake _ a 0 cap a1 u2 w h rfl (.inl rfl) (Nat.zero_le _)
  · by_cases hc : l0.length = 0 ∨ 500 < l0.length
    · exact walk_awake _ _ _ cap a1 u2 w h rfl hc m0
    · exact walk_some l0 u2 b off cap a1 w h hu2 w1 (by omega) (by omega) h2 h3 h4
end digestWords
end Go.Proofs.YtbgkcelihemmjaaDoor
