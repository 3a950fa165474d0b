/-
  The law that each leaf fits with its path, and with no shorter or longer one (MerkleBranches), returns true. No condition.
-/
import Derived.Test.YtekghohjjecenaaWalkChanges
import Derived.Test.YtekghohjjecenaaWalkShape
import Derived.ArgAppend
namespace Go.Proofs.Ytekghohjjecenaa
open Go.ChangeShapes Go.WideShapes Go.ChangeAt Go.RowKit
open Dg (W B)
theorem words_max (ao : Option Addr) (len cap n : Nat) (w : World) (h : n ≤ cap) (x : Int) (hx : x = n) :
    (Instr.slice 22 (.slice ao len cap) none (some (.int .i64 x)) (some (.int .i64 x))).run Try.prog w = .ok (.slice ao n n) w := by
  subst hx
  have he : (sizeOf (Try.prog.elem 22)).run Try.prog w = .ok 1 w := by kernel_rfl
  rw [run_slice_hm w 22 ao len cap (by kernel_rfl) .i64 .i64 (n : Int) (n : Int) (by omega) (by omega) (by omega), he]
  show Result.ok (sliced _ _ _ _ _) w = _
  unfold sliced
  rw [Int.toNat_natCast]
  split
  · simp
  · cases ao <;> simp [Addr.add]
theorem words_tail (g len cap : Nat) (h1 : 1 ≤ len) (h2 : len ≤ cap) : ∃ a', (∀ w, (Instr.slice 22 (.slice (some ⟨g, 0, none⟩) len cap) (some (.int .i64 1)) none none).run Try.prog w = .ok (.slice a' (len - 1) (cap - 1)) w) ∧ (1 < len → a' = some ⟨g, 1, none⟩) := by
  by_cases h : 1 < len
  · exact ⟨some ⟨g, 0 + 1, none⟩, fun w => words_from g 0 len cap 1 w h h2 1 rfl, fun _ => rfl⟩
  · refine ⟨if cap - 1 = 0 then some ⟨g, 0, none⟩ else some ⟨g, 1, none⟩, fun w => ?_, fun h' => absurd h' h⟩
    have he : (sizeOf (Try.prog.elem 22)).run Try.prog w = .ok 1 w := by kernel_rfl
    rw [run_slice_l w 22 _ len cap (by kernel_rfl) .i64 1 (by omega) (by omega), he]
    show Result.ok (sliced _ _ _ _ _) w = _
    unfold sliced
    have e : (1 : Int).toNat = 1 := rfl
    rw [e]
    split
    · rename_i h0; rw [if_pos (by omega)]
    · rename_i h0; rw [if_neg (by omega)]; rfl
theorem own_parts {base : Nat} {w : World} {v : Value} {l : List W} (h : OwnW base w v l) :
    ∃ ao cp, v = .slice ao l.length cp ∧ l.length ≤ cp ∧ (ao = none → l.length = 0) ∧ (∀ A, ao = some A → ∃ g, A = ⟨g, 0, none⟩ ∧ g < w.heap.size) ∧ ∀ A, ao = some A → ∀ j u, (l.map wval)[j]? = some u → w.cell? (A.add j) = some u := by
  rcases h.2 with ⟨rfl, h0⟩ | ⟨g, cap, cur, rfl, h1, h2, h3, h4, h5, h6⟩
  · exact ⟨none, 0, by rw [h0], by omega, fun _ => h0, fun A e => (by cases e), fun A e => (by cases e)⟩
  · refine ⟨some ⟨g, 0, none⟩, cap, rfl, h3, fun e => (by cases e), fun A e => ⟨g, (Option.some.inj e).symm, (Array.getElem?_eq_some_iff.1 h2).1⟩, fun A e j u hu => ?_⟩
    obtain rfl := Option.some.inj e
    have hj : j < l.length := by have := (List.getElem?_eq_some_iff.1 hu).1; simpa using this
    rw [add_plain', Nat.zero_add, h.cellAt j (by omega)]; exact hu
/-- an append of one word to a slice without room -/
theorem wpList_append_full {ops : Array Oper} {rest : List Oper} {o : Oper} {a : Act} {Q : Exit → Act → World → Prop} {w : World} (hw : Region.wanted o (yielded ops a.tmps) = true) (s x : Operand)
    (ho : o.op = .call { callee := .builtin .append, args := #[s, x], argTypes := #[22, 22] })
    (ao : Option Addr) (n : Nat) (l : List W) (y : W) (b c : Nat) (hs : a.eval s = .slice ao n n) (hn : n = l.length) (base cp : Nat) (own : OwnW base w (.slice ao n cp) l)
    (hx : a.eval x = .slice (some ⟨b, 0, none⟩) 1 c) (hy : w.cell? ⟨b, 0, none⟩ = some (wval y)) (hl : l.length ≤ 1000000)
    (h : ∀ v' w', OwnW w.heap.size w' v' (l ++ [y]) → w.grownBy w' none → wpList Try.prog ops Q rest (a.put o.dst v') w') :
    wpList Try.prog ops Q (o :: rest) a w := by
  subst hn
  obtain ⟨ao', cp', he, _, hnone, _, hcells⟩ := own_parts own
  simp only [Value.slice.injEq] at he
  obtain ⟨rfl, _, _⟩ := he
  obtain ⟨i0, hi, hz0, hz1, hz2⟩ := info_parts infoWord
  have hnews : ∀ j u, [wval y][j]? = some u → w.cell? ((⟨b, 0, none⟩ : Addr).add j) = some u := by
    intro j u hu
    obtain ⟨hj, e⟩ := List.getElem?_eq_some_iff.1 hu
    obtain rfl : j = 0 := by simp at hj; omega
    rw [add_plain', Nat.add_zero, hy, ← e]; rfl
  refine wpList_step fun K hK => ?_
  rw [if_pos hw]
  cases ao with
  | some A =>
    obtain ⟨v', w', hrun, r1, r2⟩ := run_append_arg_grows (P := Try.prog) w 22 o.type 25 i0 _ 1 8 Try.underlying22 hi hz0 hz1 hz2 rfl (by omega) A l.length l.length (l.map wval) (by simp) (hcells A rfl) ⟨b, 0, none⟩ 1 c [wval y] rfl hnews (by omega) (by unfold maxLen; omega) (by omega)
    unfold Oper.wp
    simp [execOp, ho, resolve, invoke, builtin, hs, hx, hrun, Result.andThen]
    exact hK _ _ (h v' w' (own_snoc r1) r2)
  | none =>
    have h0 := hnone rfl
    obtain rfl : l = [] := List.length_eq_zero_iff.1 h0
    obtain ⟨v', w', hrun, r1, r2, _⟩ := run_append_own (P := Try.prog) w w.heap.size 22 o.type 25 i0 _ 1 8 Try.underlying22 hi hz0 hz1 hz2 rfl (by omega) (.slice none 0 0) 0 [] (World.ownsRow_nil w _ _ _) ⟨b, 0, none⟩ 1 c [wval y] rfl hnews (one_one y) (by unfold maxLen; omega) (by omega) (Nat.le_refl _)
    have hs' : a.eval s = .slice none 0 0 := hs
    unfold Oper.wp
    simp [execOp, ho, resolve, invoke, builtin, hs', hx, hrun, Result.andThen]
    exact hK _ _ (h v' w' (own_snoc (l := []) r1) r2)
theorem check_long (r : W) (n i : Int) (x : W) (p : List W) (h : (p.length : Int) ≠ depthI n i) : checkB r n i x p = false := by
  rw [checkB]; simp [h]
theorem tail_has {base : Nat} {w : World} {g cp n : Nat} {a' : Option Addr} {l : List W} (hn : l.length = n) (h : OwnW base w (.slice (some ⟨g, 0, none⟩) n cp) l) (h1 : 1 ≤ n) (hcp : n ≤ cp) (ha : 1 < n → a' = some ⟨g, 1, none⟩) :
    HasW w w.heap.size (.slice a' (n - 1) (cp - 1)) (l.drop 1) := by
  subst hn
  by_cases h2 : 1 < l.length
  · obtain rfl := ha h2
    refine .inr ⟨g, 1, cp - 1, by simp, by simp; omega, (h.lt g rfl).2, fun i hi => ?_⟩
    have hi' : 1 + i < l.length := by simp at hi; omega
    rw [h.cellAt (1 + i) (by omega)]
    simp [hi', wval, List.getD, Nat.add_comm i 1]
  · have e : l.length - 1 = 0 := by omega
    refine .inl ⟨a', cp - 1, by rw [e], List.length_eq_zero_iff.1 (by simp; omega)⟩
theorem kept_none {base : Nat} {w w' : World} {v : Value} {l : List W} (h : OwnW base w v l) (hg : w.grownBy w' none) : OwnW base w' v l := by
  refine h.kept hg ?_
  cases v.ownBlock with
  | none => exact .inl rfl
  | some k => exact .inr (fun e => by cases e)
theorem below_none {base : Nat} {w0 w w3 : World} (hb : Below base w0 w) (hs : base ≤ w.heap.size) (grow : w.grownBy w3 none) : Below base w0 w3 :=
  hb.grown grow hs (fun k hk => by cases hk)
theorem path_end (a : Option Addr) (n cap : Nat) (l : List W) (hn : n = l.length) (w : World) :
    Calls Try.prog 11 #[.slice a n cap, .int .i64 (n : Int)] w fun e w' => ∃ v, e = .returned (.tuple #[v, .int .i64 2]) ∧ Below w.heap.size w w' := by
  refine (path_out a n cap l hn n w (by omega)).mono ?_
  rintro e w' ⟨v, rfl, _, hb⟩
  exact ⟨v, by rw [if_neg (by omega)], hb⟩
namespace merkleBranches
def LeafRel (n : Nat) (w : World) (v : Value) (wr : World) : Prop := ∃ k : Nat, k ≤ n ∧ v = .int .i64 (k : Int) ∧ Below w.heap.size w wr
theorem walk_awake (a : Option Addr) (n cap : Nat) (w : World) (hn : 40 < n) (hx : n ≤ maxLen) :
    Calls Try.prog 4 #[.slice a n cap] w fun e w' => e = .returned (.bool true) ∧ Below w.heap.size w w' := by
  unfold maxLen at hx
  have t2 : (40 : Int) < n := by omega
  clear hn
  go_enter Try.func4, Try.ntmps4
  go_wp2_with fail
  refine (awake_any _).mono ?_; rintro e w' ⟨rfl, hb⟩
  have HB := Lib.hid hb; clear hb
  go_wp2_with fail
  go_ret
  exact ⟨rfl, HB.out⟩
theorem leaves_cell {w : World} {N : Nat} {ao : Option Addr} {n cap : Nat} {l : List W} (h : HasW w N (.slice ao n cap) l) (k : Nat) (hk : k < n) : ∃ b off, ao = some ⟨b, off, none⟩ ∧ w.cell? ⟨b, off + k, none⟩ = some (.int .u64 (uv (l.getD k 0))) := by
  rcases h with ⟨a, c, e, rfl⟩ | ⟨b, off, c, e, _, _, h4⟩
  · simp only [Value.slice.injEq] at e; omega
  · simp only [Value.slice.injEq] at e
    exact ⟨b, off, e.1, h4 k (by omega)⟩
theorem facts (l : List W) (n k : Nat) (hn : n = l.length) (hk : k < n) (h5 : n ≤ 40) : ∃ P x, Mt.path l k = P ∧ l.getD k 0 = x ∧ P.length ≤ 20 ∧ depthI n k = (P.length : Int) ∧ checkB (Mt.root l) n k x P = true ∧
    checkB (Mt.root l) n k x (P ++ [0#64]) = false ∧ (1 ≤ P.length → checkB (Mt.root l) n k x (P.drop 1) = false) := by
  subst hn
  have hd : depthI l.length k = ((Mt.path l k).length : Int) := by rw [depthI_nat hk (by omega), Mt.path_len]
  refine ⟨_, _, rfl, rfl, path_20 hk (by omega), hd, ?_, check_long _ _ _ _ _ (by rw [hd, List.length_append]; simp; omega), fun h => check_long _ _ _ _ _ (by rw [hd, List.length_drop]; omega)⟩
  rw [check_leaf l k hk (by omega)]
  simp
set_option maxRecDepth 100000 in
set_option maxHeartbeats 1000000 in
theorem walk_some (l : List W) (ao : Option Addr) (n cap : Nat) (w : World) (hn : n = l.length) (h5 : n ≤ 40) (hL : HasW w w.heap.size (.slice ao n cap) l) :
    Calls Try.prog 4 #[.slice ao n cap] w fun e w' => e = .returned (.bool true) ∧ Below w.heap.size w w' := by
  have t2 : decide ((40 : Int) < n) = false := decide_eq_false (by omega)
  have RL := Lib.hid (root_any l _ _ w (by omega) hL)
  have HN := Lib.hid hn
  have HL := Lib.hid hL; clear hL
  clear hn
  go_enter Try.func4, Try.ntmps4
  go_wp2_with fail
  refine (RL.out).mono ?_; rintro e w' ⟨rfl, r0, rfl⟩
  obtain ⟨R, hR⟩ : ∃ R, Mt.root l = R := ⟨_, rfl⟩
  have HR := Lib.hid hR
  rw [hR]
  clear hR
  go_wp2_with fail
  go_loopw [18] (LeafRel n w) (fun i _ => n - (intOf i).toNat)
  case atStart => exact ⟨0, by omega, rfl, below_drewN (Below.refl _ _) _⟩
  case round =>
    obtain ⟨k, hk, rfl, hbr⟩ := hrel
    have HB := Lib.hid hbr
    by_cases hlt : k < n
    · have hn := HN.out
      have hlr := HL.out.below hbr (Nat.le_refl _)
      have CP := Lib.hid (path_ok l k k rfl _ wr (by omega) (by omega) (hlr.wide hbr.size))
      obtain ⟨b, off, rfl, hcell⟩ := leaves_cell hlr k hlt
      obtain ⟨P, x, hP, hx, hp20, hdep, f0, f1, f2⟩ := facts l n k hn hlt h5
      rw [HR.out] at f0 f1 f2
      rw [hx] at hcell
      have HP := Lib.hid hP
      have D1 := Lib.hid fun w => depth_to _ _ _ hdep w
      clear hP hx hdep hlr hbr hn
      go_wp2_with fail
      refine (CP.out).mono ?_; rintro e w1 ⟨v1, rfl, o1, bb1⟩
      rw [HP.out] at o1
      obtain ⟨po, cp, hv1, hcp, hnone, hso, hcells⟩ := own_parts o1
      obtain ⟨np, hnp⟩ : ∃ np, P.length = np := ⟨_, rfl⟩
      rw [hnp] at hv1 hcp hnone f2 D1 hp20
      subst hv1
      have B1 := Lib.hid (HB.out.trans (bb1.mono HB.out.size))
      have r1 := fun w => words_max po np cp np w hcp (np : Int) rfl
      have C0 := Lib.hid fun m => check_to R n k x P true f0 _ _ (w1.drewN m) o1.has
      have C2 := Lib.hid fun v' w' (h : OwnW w1.heap.size w' v' (P ++ [0#64])) => check_to R n k x (P ++ [0#64]) false f1 _ _ w' h.has
      have HNONE := Lib.hid hnone
      have HSO := Lib.hid hso
      have HCELLS := Lib.hid hcells
      have O1 := Lib.hid o1
      have F2 := Lib.hid f2
      have HNP := Lib.hid hnp
      clear f0 f1 f2 hnone hso hcells o1 bb1 hnp
      by_cases hp : np = 0
      · subst hp
        go_wp2_with fail
        refine (D1.out _).mono ?_; rintro e w' ⟨rfl, rfl⟩
        go_wp2_with fail
        refine (C0.out 0).mono ?_; rintro e w' ⟨rfl, m0, rfl⟩
        go_wp2_with (at_builtin; refine wpList_append_full rfl (.tmp 61) (.tmp 62) rfl _ _ P (0#64) w1.heap.size 1 rfl HNP.out.symm _ cp ((O1.out.drewN m0).alloc _) rfl (alloc_word _ (0#64) _) (by rw [HNP.out]; omega) ?_)
        intro v3 w3 own3 grow3
        have B3 := Lib.hid (below_none ((below_drewN B1.out m0).alloc (by have := B1.out.size; simpa using this) _) (by have := B1.out.size; simp; omega) grow3)
        have O13 := Lib.hid (kept_none ((O1.out.drewN m0).alloc _) grow3)
        have CC := Lib.hid (C2.out v3 w3 (own3.mono (by simp)))
        clear own3 grow3
        go_wp2_with fail
        refine (CC.out).mono ?_; rintro e w' ⟨rfl, m1, rfl⟩
        go_wp2_with fail
        go_roundw
        case rel => exact ⟨k + 1, by omega, by go_num, below_drewN B3.out _⟩
        case measure => simp [intOf]; omega
      · have t3 : (0 : Int) < np := by omega
        have hsome : ∃ g, po = some ⟨g, 0, none⟩ := by
          cases po with
          | none => exact absurd (HNONE.out rfl) hp
          | some A => obtain ⟨g, hg, _⟩ := HSO.out A rfl; exact ⟨g, by rw [hg]⟩
        obtain ⟨gp, rfl⟩ := hsome
        obtain ⟨a', ra, ha⟩ := words_tail gp np cp (by omega) hcp
        have HA := Lib.hid ha; clear ha
        go_wp2_with fail
        refine (D1.out _).mono ?_; rintro e w' ⟨rfl, rfl⟩
        go_wp2_with fail
        refine (C0.out 0).mono ?_; rintro e w' ⟨rfl, m0, rfl⟩
        go_wp2_with (at_builtin; refine wpList_append_full rfl (.tmp 61) (.tmp 62) rfl _ _ P (0#64) w1.heap.size 1 rfl HNP.out.symm _ cp ((O1.out.drewN m0).alloc _) rfl (alloc_word _ (0#64) _) (by rw [HNP.out]; omega) ?_)
        intro v3 w3 own3 grow3
        have B3 := Lib.hid (below_none ((below_drewN B1.out m0).alloc (by have := B1.out.size; simpa using this) _) (by have := B1.out.size; simp; omega) grow3)
        have O13 := Lib.hid (kept_none ((O1.out.drewN m0).alloc _) grow3)
        have CC := Lib.hid (C2.out v3 w3 (own3.mono (by simp)))
        clear own3 grow3
        go_wp2_with fail
        refine (CC.out).mono ?_; rintro e w' ⟨rfl, m1, rfl⟩
        have C3 := Lib.hid fun m => check_to R n k x (P.drop 1) false (F2.out (by omega)) _ _ (w3.drewN m) (tail_has HNP.out O13.out (by omega) hcp HA.out)
        go_wp2_with fail
        refine (C3.out _).mono ?_; rintro e w' ⟨rfl, m2, rfl⟩
        go_wp2_with fail
        go_roundw
        case rel => exact ⟨k + 1, by omega, by go_num, below_drewN B3.out _⟩
        case measure => simp [intOf]; omega
    · obtain rfl : k = n := by omega
      have CE := Lib.hid (path_end ao k cap l HN.out wr)
      clear hbr
      go_wp2_with fail
      refine (CE.out).mono ?_; rintro e w1 ⟨v1, rfl, bb1⟩
      have B1 := Lib.hid (HB.out.trans (bb1.mono HB.out.size)); clear bb1
      go_wp2_with fail
      refine (awake_any _).mono ?_; rintro e w6 ⟨rfl, hb6⟩
      have B6 := Lib.hid (B1.out.trans (hb6.mono B1.out.size)); clear hb6
      go_wp2_with fail
      go_ret
      exact ⟨rfl, B6.out⟩
theorem walk (w : World) (v0 : Value) (l0 : List W) (m0 : l0.length ≤ maxLen) (b0 : HasW w w.heap.size v0 l0) :
    Calls Try.prog 4 #[v0] w fun e w' => e = .returned (.bool true) ∧ Below w.heap.size w w' := by
  obtain ⟨a, cap, rfl⟩ := b0.form
  by_cases h : 40 < l0.length
  · exact walk_awake a _ cap w h m0
  · exact walk_some l0 a _ cap w rfl (by omega) b0
end merkleBranches
end Go.Proofs.Ytekghohjjecenaa
