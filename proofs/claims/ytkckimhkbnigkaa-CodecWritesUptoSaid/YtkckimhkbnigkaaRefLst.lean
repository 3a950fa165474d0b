/-
  What List of the chapter of bytes returns. Nothing that was there has changed. Condition: the bytes are fewer than three hundred millions.
-/
import Derived.Test.YtkckimhkbnigkaaSameS
namespace Go.Proofs.Ytkckimhkbnigkaa
open Go.ChangeShapes Go.WideShapes Go.ChangeAt Go.RowKit
open Dg (W B)
theorem infoStr : (Try.prog.info? 9).map (fun i => (i.zero, i.size, i.bytes)) = some (some (.string ByteArray.empty), 1, 16) := by kernel_rfl
def sval (x : ByteArray) : Value := .string x
/-- the value v is a slice of the call's own, its strings are l -/
def OwnS (base : Nat) (w : World) (v : Value) (l : List ByteArray) : Prop := w.ownsRow base 9 1 v l.length (l.map sval)
theorem OwnS.has {base : Nat} {w : World} {v : Value} {l : List ByteArray} (h : OwnS base w v l) : HasS w w.heap.size v l := by
  rcases h.2 with ⟨rfl, h0⟩ | ⟨g, cap, cur, rfl, h1, h2, h3, h4, h5, h6⟩
  · exact .inl ⟨none, 0, rfl, List.length_eq_zero_iff.1 h0⟩
  · refine .inr ⟨g, 0, cap, rfl, h3, (Array.getElem?_eq_some_iff.1 h2).1, fun i hi => ?_⟩
    rw [Nat.zero_add, cell_of_row w g i _ _ _ h2]
    have e := congrArg (fun L : List Value => L[i]?) h6
    simp only [Nat.mul_one, List.getElem?_take, if_pos hi, List.getElem?_map] at e
    rw [← Array.getElem?_toList, e]
    simp [hi, sval]
theorem OwnS.below {base : Nat} {w w' : World} {v : Value} {l : List ByteArray} (h : OwnS base w v l) (hb : Below w.heap.size w w') : OwnS base w' v l := by
  obtain ⟨h1, h2⟩ := h
  refine ⟨h1, ?_⟩
  rcases h2 with h2 | ⟨g, cap, cur, hv, hg, hh, r⟩
  · exact .inl h2
  · exact .inr ⟨g, cap, cur, hv, hg, by rw [hb.block g (Array.getElem?_eq_some_iff.1 hh).1]; exact hh, r⟩
theorem OwnS.alloc {base : Nat} {w : World} {v : Value} {l : List ByteArray} (h : OwnS base w v l) (o : Obj) : OwnS base (w.alloc o) v l := World.ownsRow.alloc h o
theorem OwnS.mono {base base' : Nat} {w : World} {v : Value} {l : List ByteArray} (h : OwnS base w v l) (hb : base' ≤ base) : OwnS base' w v l := World.ownsRow.mono h hb
/-- an append of one string to an owned slice -/
theorem wpList_append_str {ops : Array Oper} {rest : List Oper} {o : Oper} {a : Act} {Q : Exit → Act → World → Prop} {w : World} (hw : Region.wanted o (yielded ops a.tmps) = true) (s x : Operand)
    (ho : o.op = .call { callee := .builtin .append, args := #[s, x], argTypes := #[26, 26] })
    (base : Nat) (v : Value) (l : List ByteArray) (y : ByteArray) (b c : Nat) (hs : a.eval s = v) (own : OwnS base w v l) (hx : a.eval x = .slice (some ⟨b, 0, none⟩) 1 c)
    (hy : w.cell? ⟨b, 0, none⟩ = some (.string y)) (hl : l.length ≤ 1000000000) (hbase : base ≤ w.heap.size)
    (h : ∀ g cap w', OwnS base w' (.slice (some ⟨g, 0, none⟩) (l.length + 1) cap) (l ++ [y]) → w.grownBy w' v.ownBlock → wpList Try.prog ops Q rest (a.put o.dst (.slice (some ⟨g, 0, none⟩) (l.length + 1) cap)) w') :
    wpList Try.prog ops Q (o :: rest) a w := by
  obtain ⟨i0, hi, hz0, hz1, hz2⟩ := info_parts infoStr
  refine wpList_step fun K hK => ?_
  rw [if_pos hw]
  refine wp_append_lies w s x _ ho base 9 i0 _ 1 16 Try.underlying26 hi hz0 hz1 hz2 rfl (by omega) v l.length (l.map sval) hs own ⟨b, 0, none⟩ 1 c [sval y] hx rfl ?_ ?_ (by omega) (by unfold maxLen; omega) (by omega) hbase _ rfl ?_
  · intro j u hu
    obtain ⟨hj, e⟩ := List.getElem?_eq_some_iff.1 hu
    obtain rfl : j = 0 := by simp at hj; omega
    rw [add_plain', Nat.zero_add, hy, ← e]; rfl
  · intro u hu
    obtain rfl : u = sval y := by simpa using hu
    rfl
  · intro g cap w' h2 h3 _ _
    refine hK _ _ (h g cap w' ?_ h3)
    unfold OwnS
    rw [List.length_append, List.map_append]; exact h2
theorem strB_bstr (l : List B) : strB (bstr l) = l := by
  unfold strB bstr
  have e : (UInt8.toBitVec ∘ UInt8.ofBitVec) = id := by funext x; rfl
  simp [e]
/-- bytes as a string, whatever slice they lie in -/
theorem conv_any (l : List B) (v : Value) (w : World) (h : HasB w w.heap.size v l) : (convert 22 9 v).run Try.prog w = .ok (.string (bstr l)) w := by
  rcases h with ⟨a, cap, rfl, rfl⟩ | ⟨b, off, cap, rfl, h2, h3, h4⟩
  · cases a with
    | none => kernel_rfl
    | some ad => exact run_convert_bytes_back (P := Try.prog) w 22 9 5 ad cap [] Try.underlying22 Try.underlying5 Try.underlying9 (fun j hj => by simp at hj)
  · exact conv_bytes l b off cap w h4
theorem rdL_bad {m p c : Nat} {b : List B} (hm : 0 < m) (h : Cd.getB b = .bad c) : Cd.rdL m b p = .bad c := by
  obtain ⟨k, rfl⟩ : ∃ k, m = k + 1 := ⟨m - 1, by omega⟩
  rw [Cd.rdL, h]
theorem mid_bad {m p c : Nat} {b : List B} {ds : List (List B)} {X : Cd.R (List (List B))} (hm : 0 < m) (h : Cd.getB b = .bad c)
    (hst : (∃ c, Cd.rdL m b p = .bad c ∧ X = .bad c) ∨ ∃ l r, Cd.rdL m b p = .ok l r ∧ X = .ok (ds ++ l) r) : X = .bad c := by
  have e := rdL_bad (p := p) hm h
  rcases hst with ⟨c', g1, g2⟩ | ⟨l, r, g1, g2⟩
  · rw [e] at g1; simp only [Cd.R.bad.injEq] at g1; rw [g2, ← g1]
  · rw [e] at g1; cases g1
theorem mid_ok {m p j : Nat} {b D : List B} {ds : List (List B)} {X : Cd.R (List (List B))} (h : Cd.getB b = .ok D j)
    (hst : (∃ c, Cd.rdL (m + 1) b p = .bad c ∧ X = .bad c) ∨ ∃ l r, Cd.rdL (m + 1) b p = .ok l r ∧ X = .ok (ds ++ l) r) :
    (∃ c, Cd.rdL m (b.drop j) (p + j) = .bad c ∧ X = .bad c) ∨ ∃ l r, Cd.rdL m (b.drop j) (p + j) = .ok l r ∧ X = .ok ((ds ++ [D]) ++ l) r := by
  rw [Cd.rdL, h] at hst
  simp only [] at hst
  cases hr : Cd.rdL m (b.drop j) (p + j) with
  | bad c =>
    rw [hr] at hst
    rcases hst with ⟨c', g1, g2⟩ | ⟨l, r, g1, g2⟩
    · exact .inl ⟨c', g1, g2⟩
    · cases g1
  | ok l r =>
    rw [hr] at hst
    rcases hst with ⟨c', g1, g2⟩ | ⟨l', r', g1, g2⟩
    · cases g1
    · simp only [Cd.R.ok.injEq] at g1
      obtain ⟨rfl, rfl⟩ := g1
      exact .inr ⟨l, r, rfl, by rw [g2]; simp⟩
/-- what is read of a list when so many strings have been read -/
def LMid (L : List B) (p n : Nat) (w : World) (pv out i : Value) (wr : World) : Prop :=
  ∃ (k q : Nat) (ds : List (List B)), k ≤ n ∧ i = .int .i64 (k : Int) ∧ pv = .int .i64 (q : Int) ∧ p ≤ q ∧ q ≤ L.length ∧ ds.length ≤ q ∧ OwnS w.heap.size wr out (ds.map bstr) ∧ Below w.heap.size w wr ∧
    ((∃ c, Cd.rdL (n - k) (L.drop q) (q - p) = .bad c ∧ Cd.getL (L.drop p) = .bad c) ∨ ∃ l r, Cd.rdL (n - k) (L.drop q) (q - p) = .ok l r ∧ Cd.getL (L.drop p) = .ok (ds ++ l) r)
def LPost (L : List B) (p : Nat) (w : World) (e : Ending) (w' : World) : Prop :=
  (∃ c : Nat, Cd.getL (L.drop p) = .bad c ∧ e = .returned (.tuple #[.slice none 0 0, .int .i64 (p : Int), .int .i64 (c : Int)]) ∧ Below w.heap.size w w') ∨
  ∃ l k v, Cd.getL (L.drop p) = .ok l k ∧ e = .returned (.tuple #[v, .int .i64 ((p + k : Nat) : Int), .int .i64 0]) ∧ OwnS w.heap.size w' v (l.map bstr) ∧ Below w.heap.size w w'
set_option maxRecDepth 100000 in
set_option maxHeartbeats 1000000 in
theorem rlist_in (L : List B) (p : Nat) (v : Value) (w : World) (hp : p ≤ L.length) (hL : L.length ≤ 300000000) (h : HasB w w.heap.size v L) :
    Calls Try.prog 32 #[v, .int .i64 (p : Int)] w (LPost L p w) := by
  cases hI : Cd.getI (L.drop p) with
  | bad c =>
    have C := Lib.hid (rint_bad L p c v w hp hL h hI)
    have hc := getI_code hI
    have t1 : ((c : Int) != 0) = true := by rw [bne_iff_ne]; omega
    have hU := Lib.hid (show Cd.getL (L.drop p) = .bad c by unfold Cd.getL; rw [hI])
    obtain ⟨a, cap, rfl⟩ := h.form
    clear h hp hI hc
    go_enter Try.func32, Try.ntmps32
    go_wp2_with fail
    refine (C.out).mono ?_; rintro e w' ⟨rfl, rfl⟩
    go_wp2_with fail
    go_ret3
    exact .inl ⟨c, hU.out, rfl, Below.refl _ _⟩
  | ok n j =>
    have C := Lib.hid (rint_ok L p j n v w hp hL h hI)
    obtain ⟨e1, e2, e3, e4⟩ := Cd.getI_inv hI
    rw [List.length_drop] at e3
    unfold Cd.InR at e1
    by_cases hneg : n < 0
    · have t1 : decide (n < 0) = true := decide_eq_true hneg
      have hU := Lib.hid (show Cd.getL (L.drop p) = .bad 4 by unfold Cd.getL; rw [hI]; simp only []; rw [if_pos hneg])
      obtain ⟨a, cap, rfl⟩ := h.form
      clear h hp hI e1 e2 e3 e4 hneg
      go_enter Try.func32, Try.ntmps32
      go_wp2_with fail
      refine (C.out).mono ?_; rintro e w' ⟨rfl, rfl⟩
      go_wp2_with fail
      go_ret3
      exact .inl ⟨4, hU.out, rfl, Below.refl _ _⟩
    · have t1 : decide (n < 0) = false := decide_eq_false hneg
      have hU := Lib.hid (show Cd.getL (L.drop p) = Cd.rdL n.toNat (L.drop (p + j)) j by unfold Cd.getL; rw [hI]; simp only []; rw [if_neg hneg, List.drop_drop])
      obtain ⟨N, rfl⟩ : ∃ N : Nat, n = N := ⟨n.toNat, by omega⟩
      rw [Int.toNat_natCast] at hU
      obtain ⟨s, hs⟩ : ∃ s, s = p + j := ⟨_, rfl⟩
      rw [← hs] at C hU
      have hN : N ≤ 9223372036854775807 := by omega
      have HN := Lib.hid hN
      have HB := Lib.hid h
      have hps : p ≤ s ∧ s ≤ L.length ∧ s - p = j := by omega
      have HPS := Lib.hid hps
      have HLL := Lib.hid hL
      obtain ⟨a, cap, rfl⟩ := h.form
      obtain ⟨m, hm⟩ : ∃ m, m = L.length := ⟨_, rfl⟩
      rw [← hm] at C HB ⊢
      have HM := Lib.hid hm
      clear h hp hI e1 e2 e3 e4 hneg hs hps hL hm
      go_enter Try.func32, Try.ntmps32
      go_wp2_with fail
      refine (C.out).mono ?_; rintro e w' ⟨rfl, rfl⟩
      go_wp2
      go_loopw [8, 10, 31] (LMid L p N w) (fun _ _ i _ => N - (intOf i).toNat)
      case atStart =>
        refine ⟨0, s, [], by omega, rfl, rfl, HPS.out.1, HPS.out.2.1, by simp, World.ownsRow_nil _ _ _ _, Below.refl _ _, ?_⟩
        have hu := hU.out
        rw [Nat.sub_zero, HPS.out.2.2]
        cases hr : Cd.rdL N (L.drop s) j with
        | bad c => exact .inl ⟨c, rfl, by rw [hu, hr]⟩
        | ok l r => exact .inr ⟨l, r, rfl, by rw [hu, hr]; rfl⟩
      case round =>
        obtain ⟨k, q, ds, hk, rfl, rfl, hpq, hqL, hdq, ho, hb, hst⟩ := hrel
        have HO := Lib.hid ho; have HBL := Lib.hid hb; have HST := Lib.hid hst
        have HQ := Lib.hid (And.intro hpq (And.intro hqL hdq))
        clear ho hb hst hpq hqL hdq
        have hN := HN.out
        by_cases hlt : k < N
        · have hq3 := HQ.out
          have HBr := Lib.hid ((HB.out.below HBL.out (Nat.le_refl _)).wide HBL.out.size)
          have tk : (k : Int) < (N : Int) := by omega
          cases hG : Cd.getB (L.drop q) with
          | bad c =>
            have C2 := Lib.hid (rbytes_bad L q c _ wr hq3.2.1 HLL.out HBr.out hG)
            have hc := getB_code hG
            have t2 : ((c : Int) != 0) = true := by rw [bne_iff_ne]; omega
            have hfin := Lib.hid (mid_bad (by omega) hG HST.out)
            clear hG hc hq3
            go_wp2_with fail
            refine (C2.out).mono ?_; rintro e w' ⟨rfl, rfl⟩
            go_wp2_with fail
            go_ret3
            exact .inl ⟨c, hfin.out, rfl, HBL.out⟩
          | ok D j' =>
            have C2 := Lib.hid (rbytes_ok L D q j' _ wr hq3.2.1 HLL.out HBr.out hG)
            obtain ⟨f1, f2, f3, f4⟩ := Cd.getB_inv hG
            rw [List.length_drop] at f3
            have hnext := Lib.hid (mid_ok (m := N - (k + 1)) hG (by rw [show N - (k + 1) + 1 = N - k by omega]; exact HST.out))
            obtain ⟨q', hq'⟩ : ∃ q', q' = q + j' := ⟨_, rfl⟩
            rw [← hq'] at C2
            have hq4 : Hid (p ≤ q' ∧ q' ≤ L.length ∧ ds.length + 1 ≤ q' ∧ q - p + j' = q' - p ∧ q + j' = q') := Lib.hid (by omega)
            have hdl : ds.length ≤ 300000000 := by have := HLL.out; omega
            obtain ⟨dn, hdn⟩ : ∃ dn, dn = (ds.map bstr).length := ⟨_, rfl⟩
            have hdn2 : dn ≤ 300000000 := by rw [hdn, List.length_map]; exact hdl
            have HDN := Lib.hid hdn
            clear hG f1 f2 f3 f4 hq' hq3 hdn hdl
            go_wp2_with fail
            refine (C2.out).mono ?_; rintro e w2 ⟨dv, rfl, o2, b2⟩
            have hconv := conv_any D dv w2 o2.has
            have HO2 := Lib.hid (HO.out.below b2)
            have B2 := Lib.hid (HBL.out.trans (b2.mono HBL.out.size))
            clear o2 b2
            have hlit : (w2.alloc (.cells #[.string (bstr D)] 9)).cell? ⟨w2.heap.size, 0, none⟩ = some (.string (bstr D)) := by go_simp
            go_wp2_with (at_builtin; refine wpList_append_str rfl (.tmp 44) (.tmp 47) rfl w.heap.size _ (ds.map bstr) (bstr D) w2.heap.size 1 rfl (HO2.out.alloc _) rfl hlit (by have := HDN.out; omega) (by have := B2.out.size; simp; omega) ?_)
            intro g3 cap3 w3 own3 grow3
            have BEL := Lib.hid (Below.grown (B2.out.alloc B2.out.size (.cells #[.string (bstr D)] 9)) grow3 (by have := B2.out.size; simp; omega) (fun kk hkk => (World.ownsRow.lt (HO2.out.alloc (.cells #[.string (bstr D)] 9)) kk hkk).1))
            have OWN := Lib.hid own3
            clear own3 grow3 hconv hlit
            go_wp2_with fail
            go_roundw
            case rel =>
              have h4 := hq4.out
              refine ⟨k + 1, q', ds ++ [D], by omega, by go_num, rfl, h4.1, h4.2.1, by simp; omega, by rw [List.map_append]; exact OWN.out, BEL.out, ?_⟩
              have := hnext.out
              rw [List.drop_drop, h4.2.2.2.2, h4.2.2.2.1] at this
              exact this
            case measure => simp [intOf]; omega
        · obtain rfl : k = N := by omega
          go_wp2_with fail
          go_ret3
          refine .inr ?_
          rcases HST.out with ⟨c, g1, g2⟩ | ⟨l, r, g1, g2⟩
          · rw [Nat.sub_self, Cd.rdL] at g1; cases g1
          · rw [Nat.sub_self, Cd.rdL] at g1
            simp only [Cd.R.ok.injEq] at g1
            obtain ⟨rfl, rfl⟩ := g1
            rw [List.append_nil] at g2
            exact ⟨ds, _, _, g2, by rw [show p + (q - p) = q by have := HQ.out; omega]; rfl, HO.out, HBL.out⟩
theorem rlist_out (L : List B) (p : Int) (v : Value) (w : World) (hp : p < 0 ∨ (L.length : Int) < p) (h : HasB w w.heap.size v L) :
    Calls Try.prog 32 #[v, .int .i64 p] w fun e w' => e = .returned (.tuple #[.slice none 0 0, .int .i64 p, .int .i64 2]) ∧ w = w' := by
  have C := Lib.hid (rint_out L p v w hp h)
  obtain ⟨a, cap, rfl⟩ := h.form
  clear h hp
  go_enter Try.func32, Try.ntmps32
  go_wp2_with fail
  refine (C.out).mono ?_; rintro e w' ⟨rfl, rfl⟩
  go_wp2_with fail
  go_ret3
  exact ⟨rfl, rfl⟩
end Go.Proofs.Ytkckimhkbnigkaa
