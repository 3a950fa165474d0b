/-
  The walk of CodecBack: it returns true, and nothing that was there has changed. Condition: the strings have fewer than some millions of bytes in all.
-/
import Derived.Test.YtkckimhkbnigkaaCAwake
import Derived.Test.YtkckimhkbnigkaaFullB
import Derived.Test.YtkckimhkbnigkaaWalkCWrites
namespace Go.Proofs.Ytkckimhkbnigkaa
open Go.ChangeShapes Go.WideShapes Go.ChangeAt Go.RowKit
open Dg (W B)
set_option maxRecDepth 100000 in
theorem back_out (bv0 av0 dv lv : Value) (L A D : List B) (l : List ByteArray) (n : Int) (d : W) (w : World) (hb : HasB w w.heap.size bv0 L) (ha : HasB w w.heap.size av0 A) (hd : HasB w w.heap.size dv D) (hs : HasS w w.heap.size lv l)
    (h : 50 < L.length ∨ 50 < A.length ∨ 300 < D.length ∨ 30 < l.length) :
    Calls Try.prog 5 #[bv0, av0, dv, .int .i64 n, .int .u64 (uv d), lv] w fun e w' => e = .returned (.bool true) ∧ Below w.heap.size w w' := by
  obtain ⟨a, cap, rfl⟩ := hb.form
  obtain ⟨a', cap', rfl⟩ := ha.form
  obtain ⟨a2, cap2, rfl⟩ := hd.form
  obtain ⟨a3, cap3, rfl⟩ := hs.form
  generalize L.length = m1 at *
  generalize A.length = m2 at *
  generalize D.length = m3 at *
  generalize l.length = m4 at *
  clear hb ha hd hs
  have key : ∀ c1 c2 c3 c4 : Bool, decide ((50 : Int) < (m1 : Int)) = c1 → decide ((50 : Int) < (m2 : Int)) = c2 → decide ((300 : Int) < (m3 : Int)) = c3 → decide ((30 : Int) < (m4 : Int)) = c4 → (c1 || c2 || c3 || c4) = true →
      Calls Try.prog 5 #[.slice a m1 cap, .slice a' m2 cap', .slice a2 m3 cap2, .int .i64 n, .int .u64 (uv d), .slice a3 m4 cap3] w fun e w' => e = .returned (.bool true) ∧ Below w.heap.size w w' := by
    intro c1 c2 c3 c4 t1 t2 t3 t4 t5
    clear h
    cases c1
    · cases c2
      · cases c3
        · cases c4
          · cases t5
          · clear t5
            go_enter Try.func5, Try.ntmps5
            go_wp2_with fail
            refine (awake_any _).mono ?_; rintro e w1 ⟨rfl, b1⟩
            go_wp2_with fail
            go_ret
            exact ⟨rfl, b1⟩
        · clear t4 t5
          go_enter Try.func5, Try.ntmps5
          go_wp2_with fail
          refine (awake_any _).mono ?_; rintro e w1 ⟨rfl, b1⟩
          go_wp2_with fail
          go_ret
          exact ⟨rfl, b1⟩
      · clear t3 t4 t5
        go_enter Try.func5, Try.ntmps5
        go_wp2_with fail
        refine (awake_any _).mono ?_; rintro e w1 ⟨rfl, b1⟩
        go_wp2_with fail
        go_ret
        exact ⟨rfl, b1⟩
    · clear t2 t3 t4 t5
      go_enter Try.func5, Try.ntmps5
      go_wp2_with fail
      refine (awake_any _).mono ?_; rintro e w1 ⟨rfl, b1⟩
      go_wp2_with fail
      go_ret
      exact ⟨rfl, b1⟩
  refine key _ _ _ _ rfl rfl rfl rfl ?_
  simp
  omega
set_option maxRecDepth 100000 in
set_option maxHeartbeats 4000000 in
theorem back_in (bv0 av0 dv lv : Value) (L A D : List B) (l : List ByteArray) (n : Int) (d : W) (w : World) (hb : HasB w w.heap.size bv0 L) (hz : ∀ n c, bv0 = .slice none n c → c = 0) (ha : HasB w w.heap.size av0 A) (hd : HasB w w.heap.size dv D) (hs : HasS w w.heap.size lv l) (hn : (Lit.int .i64 n).wf = true)
    (h1 : L.length ≤ 50) (h2 : A.length ≤ 50) (h3 : D.length ≤ 300) (h4 : l.length ≤ 30) (hp : (Cd.putL (l.map strB)).length ≤ 40000000) :
    Calls Try.prog 5 #[bv0, av0, dv, .int .i64 n, .int .u64 (uv d), lv] w fun e w' => e = .returned (.bool true) ∧ Below w.heap.size w w' := by
  obtain ⟨a, cap, rfl⟩ := hb.form
  obtain ⟨a', cap', rfl⟩ := ha.form
  obtain ⟨a2, cap2, rfl⟩ := hd.form
  obtain ⟨a3, cap3, rfl⟩ := hs.form
  have hir : Cd.InR n := by have := bounds_i64 hn; unfold Cd.InR; omega
  have hpI : (Cd.putI n).length ≤ 10 := putI_ten n hir
  have hpB : (Cd.putB D).length ≤ 310 := by rw [Cd.putB_len]; have := putI_len D.length (by omega); omega
  have hfr : (Cd.frame D).length ≤ 318 := by unfold Cd.frame; rw [List.length_append, Cd.putD_len]; omega
  have hsl : ∀ x ∈ l.map strB, x.length ≤ 9223372036854775807 := by
    intro x hx
    have hle : ∀ (ls : List (List B)), x ∈ ls → x.length ≤ (Cd.putAll ls).length := by
      intro ls
      induction ls with
      | nil => intro h; cases h
      | cons y ls ih =>
        intro h
        simp only [Cd.putAll, List.length_append, Cd.putB_len]
        rcases List.mem_cons.1 h with rfl | h
        · omega
        · have := ih h; omega
    have := hle _ hx
    unfold Cd.putL at hp
    rw [List.length_append] at hp
    omega
  have G1 := Lib.hid (show Cd.getI ((L ++ (Cd.putI n ++ A)).drop L.length) = .ok n (Cd.putI n).length by rw [List.drop_left]; exact Cd.getI_put hir A)
  have G2 := Lib.hid (show Cd.getB ((L ++ (Cd.putB D ++ A)).drop L.length) = .ok D (Cd.putB D).length by rw [List.drop_left]; exact Cd.getB_put (by omega) A)
  have G3 := Lib.hid (show Cd.getD ((L ++ (Cd.putD d ++ A)).drop L.length) = .ok d (Cd.putD d).length by rw [List.drop_left]; exact Cd.getD_put d A)
  have G4 := Lib.hid (show Cd.getL ((L ++ (Cd.putL (l.map strB) ++ A)).drop L.length) = .ok (l.map strB) (Cd.putL (l.map strB)).length by rw [List.drop_left]; exact Cd.getL_put (by rw [List.length_map]; omega) hsl A)
  have G5 := Lib.hid (show Cd.unframe ((L ++ (Cd.frame D ++ A)).drop L.length) = .ok D (Cd.frame D).length by rw [List.drop_left]; exact Cd.unframe_frame (by omega) A)
  have pI := Lib.hid hpI; have pB := Lib.hid hpB; have pF := Lib.hid hfr; have pL := Lib.hid hp; have pA := Lib.hid h2
  have pD : Hid ((Cd.putD d).length ≤ 8) := Lib.hid (by rw [Cd.putD_len]; omega)
  have qI : Hid (0 < (Cd.putI n).length) := Lib.hid (by unfold Cd.putI; exact Cd.put_len_pos _)
  have qB : Hid (0 < (Cd.putB D).length) := Lib.hid (by rw [Cd.putB_len]; have : 0 < (Cd.putI (D.length : Int)).length := (by unfold Cd.putI; exact Cd.put_len_pos _); omega)
  have qD : Hid (0 < (Cd.putD d).length) := Lib.hid (by rw [Cd.putD_len]; omega)
  have qL : Hid (0 < (Cd.putL (l.map strB)).length) := Lib.hid (by unfold Cd.putL; rw [List.length_append]; have : 0 < (Cd.putI ((l.map strB).length : Int)).length := (by unfold Cd.putI; exact Cd.put_len_pos _); omega)
  have qF : Hid (0 < (Cd.frame D).length) := Lib.hid (by unfold Cd.frame; rw [List.length_append, Cd.putD_len]; omega)
  have HL := Lib.hid fun w' (g : Below w.heap.size w w') => (hb.below g (Nat.le_refl _)).wide g.size
  have HA := Lib.hid fun w' (g : Below w.heap.size w w') => (ha.below g (Nat.le_refl _)).wide g.size
  have HD := Lib.hid fun w' (g : Below w.heap.size w w') => (hd.below g (Nat.le_refl _)).wide g.size
  have HS := Lib.hid fun w' (g : Below w.heap.size w w') => (hs.below g (Nat.le_refl _)).wide g.size
  have hroom := hb.room
  have hz' : a = none → cap = 0 := fun e => hz _ _ (by rw [e])
  have SB := Lib.hid fun w' => run_bfull a L.length cap L.length (L.length : Int) (L.length : Int) w' hroom hz' rfl rfl
  have P1 := Lib.hid fun w' g => cputint_any n L _ w' hn (by omega) (HL.out w' g)
  have P2 := Lib.hid fun w' g => cputbytes_any L D _ _ w' (by omega) (by omega) (HL.out w' g) (HD.out w' g)
  have P3 := Lib.hid fun w' g => cputdigest_any d L _ w' (by omega) (HL.out w' g)
  have P4 := Lib.hid fun w' g => cputlist_any L l _ _ w' (by omega) (by omega) (HL.out w' g) (HS.out w' g)
  have P5 := Lib.hid fun w' g => cframe_any D _ w' (by omega) (HD.out w' g)
  have LL := Lib.hid h1
  have ll := Lib.hid h4
  obtain ⟨nb, hnb⟩ : ∃ m, m = L.length := ⟨_, rfl⟩
  obtain ⟨na, hna⟩ : ∃ m, m = A.length := ⟨_, rfl⟩
  obtain ⟨nd, hnd⟩ : ∃ m, m = D.length := ⟨_, rfl⟩
  obtain ⟨nl, hnl⟩ : ∃ m, m = l.length := ⟨_, rfl⟩
  rw [← hnb] at h1 G1 G2 G3 G4 G5 HL SB P1 P2 P3 P4
  rw [← hna] at h2 HA
  rw [← hnd] at h3 HD P2 P5
  rw [← hnl] at h4 HS P4
  rw [← hnb, ← hna, ← hnd, ← hnl]
  have NB := Lib.hid hnb; have NA := Lib.hid hna
  have t1 : ¬ (50 : Int) < (nb : Int) := by omega
  have t2 : ¬ (50 : Int) < (na : Int) := by omega
  have t3 : ¬ (300 : Int) < (nd : Int) := by omega
  have t4 : ¬ (30 : Int) < (nl : Int) := by omega
  have B0 := Lib.hid (Below.refl w.heap.size w)
  clear hb hz ha hd hs hn hp hir hpI hpB hfr hsl hroom hz' hnb hna hnd hnl h1 h2 h3 h4
  go_enter Try.func5, Try.ntmps5
  go_wp2_with fail
  refine (P1.out _ B0.out).mono ?_; rintro e wa ⟨v, rfl, o, b⟩
  have BA := Lib.hid (B0.out.trans (b.mono B0.out.size))
  obtain ⟨ax, cx, rfl⟩ := o.form
  obtain ⟨m, hm⟩ : ∃ m, m = (L ++ Cd.putI n).length := ⟨_, rfl⟩
  rw [← hm] at o ⊢
  have SX := fun w' => run_bfull ax m cx m (m : Int) (m : Int) w' (by rw [hm]; exact o.room) (o.named (by rw [List.length_append]; have := qI.out; omega)) rfl rfl
  have OX := Lib.hid (o.full hm)
  have HM := Lib.hid hm
  have hq : nb + (Cd.putI n).length = m := by rw [hm, List.length_append, NB.out]
  have HQ := Lib.hid hq
  clear o b hm hq
  go_wp2_with (at_builtin; refine wpList_append_fullb rfl (.tmp 51) (.tmp 52) rfl ax m _ (L ++ Cd.putI n) A rfl OX.out HM.out rfl (HA.out _ BA.out) (by rw [List.length_append]; have := pI.out; have := pA.out; have := LL.out; omega) _ rfl ?_)
  intro b2 cb wb o2 bb
  have BB := Lib.hid (BA.out.trans (bb.mono BA.out.size))
  try rw [List.append_assoc] at o2
  obtain ⟨m2, hm2⟩ : ∃ m2, m2 = m + A.length := ⟨_, rfl⟩
  rw [← hm2] at o2 ⊢
  have GG := Lib.hid (cint_got (L ++ (Cd.putI n ++ A)) nb _ wb (by rw [List.length_append, NB.out]; omega) (by rw [List.length_append, List.length_append]; have := pI.out; have := pA.out; have := LL.out; omega) o2)
  rw [G1.out] at GG
  clear o2 bb SX hm2 OX
  go_wp2_with fail
  refine (GG.out).mono ?_; rintro e wc h
  obtain ⟨rfl, b⟩ := h.ok HQ.out
  have B1 := Lib.hid (BB.out.trans (b.mono BB.out.size))
  clear h b GG HM HQ BA BB
  go_wp2_with fail
  refine (P2.out _ B1.out).mono ?_; rintro e wa ⟨v, rfl, o, b⟩
  have BA := Lib.hid (B1.out.trans (b.mono B1.out.size))
  obtain ⟨ax, cx, rfl⟩ := o.form
  obtain ⟨m, hm⟩ : ∃ m, m = (L ++ Cd.putB D).length := ⟨_, rfl⟩
  rw [← hm] at o ⊢
  have SX := fun w' => run_bfull ax m cx m (m : Int) (m : Int) w' (by rw [hm]; exact o.room) (o.named (by rw [List.length_append]; have := qB.out; omega)) rfl rfl
  have OX := Lib.hid (o.full hm)
  have HM := Lib.hid hm
  have hq : nb + (Cd.putB D).length = m := by rw [hm, List.length_append, NB.out]
  have HQ := Lib.hid hq
  clear o b hm hq
  go_wp2_with (at_builtin; refine wpList_append_fullb rfl (.tmp 81) (.tmp 82) rfl ax m _ (L ++ Cd.putB D) A rfl OX.out HM.out rfl (HA.out _ BA.out) (by rw [List.length_append]; have := pB.out; have := pA.out; have := LL.out; omega) _ rfl ?_)
  intro b2 cb wb o2 bb
  have BB := Lib.hid (BA.out.trans (bb.mono BA.out.size))
  try rw [List.append_assoc] at o2
  obtain ⟨m2, hm2⟩ : ∃ m2, m2 = m + A.length := ⟨_, rfl⟩
  rw [← hm2] at o2 ⊢
  have GG := Lib.hid (cbytes_got (L ++ (Cd.putB D ++ A)) nb _ wb (by rw [List.length_append, NB.out]; omega) (by rw [List.length_append, List.length_append]; have := pB.out; have := pA.out; have := LL.out; omega) o2)
  rw [G2.out] at GG
  clear o2 bb SX hm2 OX
  go_wp2_with fail
  refine (GG.out).mono ?_; rintro e wc h
  obtain ⟨vd, rfl, od, b⟩ := h.ok HQ.out
  have B2 := Lib.hid (BB.out.trans (b.mono BB.out.size))
  have k1 := conv_any _ _ _ od
  have k2 := conv_any _ _ _ (HD.out _ B2.out)
  clear h b od GG HM HQ BA BB
  go_wp2_with fail
  clear k1 k2
  refine (P3.out _ B2.out).mono ?_; rintro e wa ⟨v, rfl, o, b⟩
  have BA := Lib.hid (B2.out.trans (b.mono B2.out.size))
  obtain ⟨ax, cx, rfl⟩ := o.form
  obtain ⟨m, hm⟩ : ∃ m, m = (L ++ Cd.putD d).length := ⟨_, rfl⟩
  rw [← hm] at o ⊢
  have SX := fun w' => run_bfull ax m cx m (m : Int) (m : Int) w' (by rw [hm]; exact o.room) (o.named (by rw [List.length_append]; have := qD.out; omega)) rfl rfl
  have OX := Lib.hid (o.full hm)
  have HM := Lib.hid hm
  have hq : nb + (Cd.putD d).length = m := by rw [hm, List.length_append, NB.out]
  have HQ := Lib.hid hq
  clear o b hm hq
  go_wp2_with (at_builtin; refine wpList_append_fullb rfl (.tmp 113) (.tmp 114) rfl ax m _ (L ++ Cd.putD d) A rfl OX.out HM.out rfl (HA.out _ BA.out) (by rw [List.length_append]; have := pD.out; have := pA.out; have := LL.out; omega) _ rfl ?_)
  intro b2 cb wb o2 bb
  have BB := Lib.hid (BA.out.trans (bb.mono BA.out.size))
  try rw [List.append_assoc] at o2
  obtain ⟨m2, hm2⟩ : ∃ m2, m2 = m + A.length := ⟨_, rfl⟩
  rw [← hm2] at o2 ⊢
  have GG := Lib.hid (cdgt_got (L ++ (Cd.putD d ++ A)) nb _ wb (by rw [List.length_append, NB.out]; omega) (by rw [List.length_append, List.length_append]; have := pD.out; have := pA.out; have := LL.out; omega) o2)
  rw [G3.out] at GG
  clear o2 bb SX hm2 OX
  go_wp2_with fail
  refine (GG.out).mono ?_; rintro e wc h
  obtain ⟨rfl, b⟩ := h.ok HQ.out
  have B3 := Lib.hid (BB.out.trans (b.mono BB.out.size))
  clear h b GG HM HQ BA BB
  go_wp2_with fail
  refine (P4.out _ B3.out).mono ?_; rintro e wa ⟨v, rfl, o, b⟩
  have BA := Lib.hid (B3.out.trans (b.mono B3.out.size))
  obtain ⟨ax, cx, rfl⟩ := o.form
  obtain ⟨m, hm⟩ : ∃ m, m = (L ++ Cd.putL (l.map strB)).length := ⟨_, rfl⟩
  rw [← hm] at o ⊢
  have SX := fun w' => run_bfull ax m cx m (m : Int) (m : Int) w' (by rw [hm]; exact o.room) (o.named (by rw [List.length_append]; have := qL.out; omega)) rfl rfl
  have OX := Lib.hid (o.full hm)
  have HM := Lib.hid hm
  have hq : nb + (Cd.putL (l.map strB)).length = m := by rw [hm, List.length_append, NB.out]
  have HQ := Lib.hid hq
  clear o b hm hq
  go_wp2_with (at_builtin; refine wpList_append_fullb rfl (.tmp 143) (.tmp 144) rfl ax m _ (L ++ Cd.putL (l.map strB)) A rfl OX.out HM.out rfl (HA.out _ BA.out) (by rw [List.length_append]; have := pL.out; have := pA.out; have := LL.out; omega) _ rfl ?_)
  intro b2 cb wb o2 bb
  have BB := Lib.hid (BA.out.trans (bb.mono BA.out.size))
  try rw [List.append_assoc] at o2
  obtain ⟨m2, hm2⟩ : ∃ m2, m2 = m + A.length := ⟨_, rfl⟩
  rw [← hm2] at o2 ⊢
  have GG := Lib.hid (clist_got (L ++ (Cd.putL (l.map strB) ++ A)) nb _ wb (by rw [List.length_append, NB.out]; omega) (by rw [List.length_append, List.length_append]; have := pL.out; have := pA.out; have := LL.out; omega) o2)
  rw [G4.out] at GG
  clear o2 bb SX hm2 OX
  go_wp2_with fail
  refine (GG.out).mono ?_; rintro e wc h
  obtain ⟨vd, rfl, od, b⟩ := h.ok HQ.out
  have B4 := Lib.hid (BB.out.trans (b.mono BB.out.size))
  rw [bstr_map] at od
  have SS := Lib.hid (same_strs l l _ _ wc (by have := ll.out; omega) od (HS.out _ B4.out))
  clear h b od GG HM HQ BA BB
  go_wp2_with fail
  refine (SS.out).mono ?_; rintro e w' ⟨rfl, rfl⟩
  rw [decide_eq_true trivial]
  go_wp2_with fail
  refine wp_region_seq [(0, true), (1, true), (2, true), (3, true), (4, true), (5, false), (6, false), (7, true)] (by kernel_rfl) (by kernel_rfl) (by kernel_rfl) (by kernel_rfl) ?_
  have SB0 := SB.out
  iterate 5 (refine wpSeq_pure (v := ?_) rfl (by rfl) (fun w' hw' => ?_) ?_; rotate_left; (focus (go_simp; try with_reducible rfl)); try simp only [Act.put, List.setIfInBounds_toArray, List.set_cons_zero, List.set_cons_succ])
  refine wpSeq_call rfl (fun K' hK => ?_)
  go_simp
  go_at_call 21
  refine (P5.out _ (B4.out.drew)).mono ?_; rintro e wf ⟨vf, rfl, of, bf⟩
  refine hK.out _ _ bf ?_
  clear hK K'
  try simp only [Act.put, List.setIfInBounds_toArray, List.set_cons_zero, List.set_cons_succ]
  have BF := Lib.hid (B4.out.drew.trans (bf.mono B4.out.drew.size)); have OF := Lib.hid of; clear of bf SB0
  refine wpSeq_append_fullb rfl (by rfl) (.tmp 168) (.tmp 170) rfl a nb _ L (Cd.frame D) rfl ((HL.out _ BF.out).full NB.out) NB.out rfl OF.out (by have := LL.out; have := pF.out; omega) _ rfl ?_
  intro bx cx wa o b
  have BA := Lib.hid (BF.out.trans (b.mono BF.out.size))
  try simp only [Act.put, List.setIfInBounds_toArray, List.set_cons_zero, List.set_cons_succ]
  (refine wpSeq_pure (v := ?_) rfl (by rfl) (fun w' hw' => ?_) ?_; rotate_left; (focus (go_simp; try with_reducible rfl)); try simp only [Act.put, List.setIfInBounds_toArray, List.set_cons_zero, List.set_cons_succ])
  refine wpSeq_nil ?_
  have hxl : nb + (Cd.frame D).length = (L ++ Cd.frame D).length := by rw [List.length_append, NB.out]
  rw [hxl] at o ⊢
  obtain ⟨m, hm⟩ : ∃ m, m = (L ++ Cd.frame D).length := ⟨_, rfl⟩
  rw [← hm] at o ⊢
  have SX := fun w' => run_bfull bx m cx m (m : Int) (m : Int) w' (by rw [hm]; exact o.room) (o.named (by rw [List.length_append]; have := qF.out; omega)) rfl rfl
  have OX := Lib.hid (o.full hm)
  have HM := Lib.hid hm
  have hq : nb + (Cd.frame D).length = m := by rw [hm, List.length_append, NB.out]
  have HQ := Lib.hid hq
  clear o b hm hq hxl
  go_wp2_with (at_builtin; refine wpList_append_fullb rfl (.tmp 178) (.tmp 179) rfl bx m _ (L ++ Cd.frame D) A rfl OX.out HM.out rfl (HA.out _ BA.out) (by rw [List.length_append]; have := pF.out; have := pA.out; have := LL.out; omega) _ rfl ?_)
  intro b2 cb wb o2 bb
  have BB := Lib.hid (BA.out.trans (bb.mono BA.out.size))
  try rw [List.append_assoc] at o2
  obtain ⟨m2, hm2⟩ : ∃ m2, m2 = m + A.length := ⟨_, rfl⟩
  rw [← hm2] at o2 ⊢
  have GG := Lib.hid (cunframe_got (L ++ (Cd.frame D ++ A)) nb _ wb (by rw [List.length_append, NB.out]; omega) (by rw [List.length_append, List.length_append]; have := pF.out; have := pA.out; have := LL.out; omega) o2)
  rw [G5.out] at GG
  clear o2 bb SX hm2 OX
  go_wp2_with fail
  refine (GG.out).mono ?_; rintro e wc h
  obtain ⟨vd, rfl, od, b⟩ := h.ok HQ.out
  have B5 := Lib.hid (BB.out.trans (b.mono BB.out.size))
  have k1 := conv_any _ _ _ od
  have k2 := conv_any _ _ _ (HD.out _ B5.out)
  clear h b od GG HM HQ BA BB
  go_wp2_with fail
  refine (awake_any _).mono ?_; rintro e w9 ⟨rfl, b⟩
  have B9 := Lib.hid (B5.out.trans (b.mono B5.out.size))
  clear b
  go_wp2_with fail
  go_ret
  exact ⟨rfl, B9.out⟩
end Go.Proofs.Ytkckimhkbnigkaa
