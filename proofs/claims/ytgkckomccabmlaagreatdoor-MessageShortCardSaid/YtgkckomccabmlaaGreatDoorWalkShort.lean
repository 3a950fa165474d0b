/-
  MessageShort: the texts of a dozen messages of the kit. Nothing that was there has changed. Condition: the library's table of powers of ten holds what its initialiser lays.
-/
import Derived.Test.YtgkckomccabmlaaGreatDoorShortM
import Derived.Test.YtgkckomccabmlaaGreatDoorRoll
import Derived.Test.YtgkckomccabmlaaGreatDoorLmF
import Derived.Maps.OwnSet
import Derived.Deep.RegionHeld3
import Derived.Deep.DeepCutAuto
import Derived.Deep.CutBlock
namespace Go.Proofs.YtgkckomccabmlaaGreatDoor
open Go.ChangeShapes Go.WideShapes Go.ChangeAt Go.RowKit
open Go.Maps (Keyed has IsMap)
open Ms (Msg)
set_option linter.unusedVariables false
def keyL (k e i r b : Nat) : Lit := .string (Ms.of (smsg k e i r b)).data.toList
def smV (k e i r b : Nat) : Value := .agg #[.int .i64 (k : Int), .int .i64 (e : Int), .int .i64 (i : Int), .int .i64 (r : Int), .int .i64 (b : Int), .int .u64 0, .int .i64 0, .slice none 0 0, .slice none 0 0]
def zmV : Value := .agg #[.int .i64 0, .int .i64 0, .int .i64 0, .int .i64 0, .int .i64 0, .int .u64 0, .int .i64 0, .slice none 0 0, .slice none 0 0]
theorem smV_eq (k e i r b : Nat) : msgV (smsg k e i r b) (.slice none 0 0) (.slice none 0 0) = smV k e i r b := rfl
def Small (k e i r b : Nat) : Prop := (k = 7 ∨ k = 8 ∨ k = 9) ∧ e < 10 ∧ i < 10 ∧ r < 10 ∧ b < 10
/-- what the map holds so far -/
def Seen (D : DataW Value) : Prop := IsMap D ∧ ∀ kl, has D kl = true → ∃ k e i r b, Small k e i r b ∧ kl = keyL k e i r b ∧ ∀ z, D.atKey kl z = .held (smV k e i r b)
theorem Seen.empty : Seen (.map []) := ⟨Maps.isMap_empty, fun kl h => by simp [has] at h⟩
theorem keyL_inj {k e i r b k' e' i' r' b' : Nat} (h : Small k e i r b) (h' : Small k' e' i' r' b') (hk : keyL k e i r b = keyL k' e' i' r' b') : smV k e i r b = smV k' e' i' r' b' := by
  obtain ⟨a1, a2, a3, a4, a5⟩ := h
  obtain ⟨c1, c2, c3, c4, c5⟩ := h'
  rw [← smV_eq, ← smV_eq, smsg_inj a1 a2 a3 a4 a5 c1 c2 c3 c4 c5 ?_]
  unfold keyL at hk
  have h2 : (Ms.of (smsg k e i r b)).data.toList = (Ms.of (smsg k' e' i' r' b')).data.toList := by simpa using hk
  ext1
  exact Array.toList_inj.1 h2
theorem isKeyL (k e i r b : Nat) : WideAt.IsKeyLit (keyL k e i r b) := by unfold keyL; exact trivial
theorem Seen.put {D : DataW Value} (h : Seen D) {k e i r b : Nat} (hs : Small k e i r b) : Seen (D.put (keyL k e i r b) (.held (smV k e i r b))) := by
  refine ⟨h.1.put _ _, fun kl hk => ?_⟩
  by_cases e0 : kl = keyL k e i r b
  · subst e0
    exact ⟨k, e, i, r, b, hs, rfl, fun z => Maps.atKey_put_same h.1 (isKeyL _ _ _ _ _) _ _⟩
  · rw [Maps.has_put_other e0] at hk
    obtain ⟨k', e', i', r', b', h1, h2, h3⟩ := h.2 kl hk
    exact ⟨k', e', i', r', b', h1, h2, fun z => by rw [Maps.atKey_put_other e0]; exact h3 z⟩
theorem lawStr : Keyed Tryz.prog 9 := Maps.string_keyed Tryz.underlying9
theorem zeroM9 (w : World) : (zeroValue 27).run Tryz.prog w = .ok zmV w := by kernel_rfl
theorem keyOf_msg {k e i r b : Nat} (hs : Small k e i r b) : keyOf Tryz.prog 9 (.string (Ms.of (smsg k e i r b))) = some (keyL k e i r b) := by
  refine Go.WideMaps.keyOf_string_mk Tryz.underlying9 ?_
  obtain ⟨a1, a2, a3, a4, a5⟩ := hs
  rw [smsg_of k e i r b a1 a2 a3 a4 a5]
  show (stext k e i r b).toArray.size ≤ maxLen
  rcases a1 with rfl | rfl | rfl <;> (unfold maxLen; simp [stext, Ms.nameL])
theorem wpList_lookup_msg {ops : Array Oper} {rest : List Oper} {o : Oper} {a : Act} {Q : Exit → Act → World → Prop} (w : World) (hg : o.guard = none) (m x : Operand) (hop : o.op = Op.lookup 53 m x true)
    (B n : Nat) (D : DataW Value) (hm : a.eval m = .map (some B)) (hown : w.ownsMap Tryz.prog 9 heldR B n D) (hin : Seen D) (k e i r b : Nat) (hs : Small k e i r b) (hx : a.eval x = .string (Ms.of (smsg k e i r b)))
    (h1 : wpList Tryz.prog ops Q rest (a.put o.dst (.tuple #[smV k e i r b, .bool true])) w) (h2 : wpList Tryz.prog ops Q rest (a.put o.dst (.tuple #[zmV, .bool false])) w) :
    wpList Tryz.prog ops Q (o :: rest) a w := by
  refine wpList_lookup_own_ok w hg m x _ hop 9 27 lawStr Tryz.underlying53 heldR (zeroM9 w) (.held zmV) [] rfl B n D hm hown _ (keyL k e i r b) hx (keyOf_msg hs) (fun v ps hv => ?_)
  have hv2 : DataW.held v = D.atKey (keyL k e i r b) (.held zmV) := by
    have := congrArg (fun z => z.map Prod.fst) hv
    simpa [heldR] using this
  cases hh : has D (keyL k e i r b) with
  | false =>
    rw [Maps.atKey_of_not_has hh] at hv2
    cases hv2
    exact h2
  | true =>
    obtain ⟨k', e', i', r', b', q1, q2, q3⟩ := hin.2 _ hh
    rw [q3, ← keyL_inj hs q1 q2] at hv2
    cases hv2
    exact h1
end Go.Proofs.YtgkckomccabmlaaGreatDoor
