/-
  A region that draws its order and whose calls wait for one another, walked in one order: what only reads is done as soon as it may come up, in every world that has grown; each call is carried out when nothing else may come up. No condition.
-/
import Derived.Test.YtjhjielenbeoiaaGen
import Derived.Deep.RegionHeld3
namespace Go.Proofs.Ytjhjielenbeoiaa
open Go.ChangeShapes Go.WideShapes Go.ChangeAt Go.RowKit
section
variable {P : Program} {ops : Array Oper} {l : List Oper} {Q : Exit → Act → World → Prop}
theorem wpAnyH_imp {md : Region.Mode} {S T : World → Prop} (h : ∀ w, T w → S w) : ∀ (fuel : Nat) (listed : Array Bool) (a : Act) (w : World), wpAnyH P md ops Q T fuel listed a w → wpAnyH P md ops Q S fuel listed a w
  | 0, _, _, _, H => H
  | fuel + 1, _, _, _, H => ⟨H.1, fun i hi => wpOp_mono (fun a' w' g => ⟨h _ g.1, wpAnyH_imp h fuel _ a' w' g.2⟩) (H.2 i hi)⟩
/-- the order of a walk: true marks what only reads -/
def seqOk (ops : Array Oper) : Array Bool → List (Nat × Bool) → Bool
  | listed, [] => Region.ready .any ops listed == []
  | listed, (i, true) :: is => Region.free .any ops listed i && (Region.ready .any ops listed).contains i && seqOk ops (listed.setIfInBounds i true) is
  | listed, (i, false) :: is => Region.ready .any ops listed == [i] && seqOk ops (listed.setIfInBounds i true) is
/-- the walk in that order -/
def wpSeq (P : Program) (l : List Oper) (Q : Exit → Act → World → Prop) : List (Nat × Bool) → Act → World → Prop
  | [], a, w => Q .normal a w
  | (i, true) :: is, a, w => ∃ o v, l[i]? = some o ∧ YieldsIf P l.toArray (Below w.heap.size w) o v a ∧ wpSeq P l Q is (a.put o.dst v) w
  | (i, false) :: is, a, w => wpOp P l.toArray Q i (fun a' w' => Below w.heap.size w w' ∧ wpSeq P l Q is a' w') a w
theorem wpSeq_sound (hs : Region.noSelect l.toArray = true) (hQ : ∀ c a d v w, Q (.panic c) (Act.put a d v) w → Q (.panic c) a w) :
    ∀ (is : List (Nat × Bool)) (listed : Array Bool) (a : Act) (w : World), seqOk l.toArray listed is = true → wpSeq P l Q is a w → wpAnyH P .any l.toArray Q (Below w.heap.size w) is.length listed a w
  | [], listed, a, w, hk, h => wpAnyH_done (by simpa [seqOk] using hk) h 0
  | (i, true) :: is, listed, a, w, hk, h => by
    simp only [seqOk, Bool.and_eq_true] at hk
    obtain ⟨o, v, ho, hy, h⟩ := h
    exact wpAnyH_take (by simpa using ho) hs hk.1.1 hk.1.2 (fun c a w => hQ c a _ _ w) hy (Below.refl _ _) (wpSeq_sound hs hQ is _ _ _ hk.2 h)
  | (i, false) :: is, listed, a, w, hk, h => by
    simp only [seqOk, Bool.and_eq_true, beq_iff_eq] at hk
    refine wpAnyH_all hk.1 (by simp) fun j hj => ?_
    obtain rfl := List.mem_singleton.1 hj
    exact wpOp_mono (fun a' w' g => ⟨g.1, wpAnyH_imp (fun wy hy => g.1.trans (hy.mono g.1.size)) _ _ _ _ (wpSeq_sound hs hQ is _ _ _ hk.2 g.2)⟩) h
/-- the beginning -/
theorem wp_region_seq {id : Nat} {a : Act} {w : World} (is : List (Nat × Bool)) (hm : P.follows .mixedOrders = true) (hs : Region.noSelect l.toArray = true)
    (hl : is.length = l.toArray.size) (hk : seqOk l.toArray (Array.replicate l.toArray.size false) is = true) (h : wpSeq P l (NoPanic Q) is a w.drew) : (Code.region id l.toArray true).wp P Q a w := by
  have := wpSeq_sound hs (fun _ _ _ _ _ h => h) is _ a w.drew hk h
  rw [hl] at this
  exact wp_region_noPanic (wp_region_held hm this)
theorem wpSeq_pure {i : Nat} {is : List (Nat × Bool)} {a : Act} {w : World} {o : Oper} {v : Value} (ho : l[i]? = some o) (hw : Region.wanted o (yielded l.toArray a.tmps) = true)
    (hy : ∀ w', Below w.heap.size w w' → (execOp a.eval o).run P w' = .ok (.value v) w') (h : wpSeq P l Q is (a.put o.dst v) w) : wpSeq P l Q ((i, true) :: is) a w := ⟨o, v, ho, .inl ⟨hw, hy⟩, h⟩
theorem wpSeq_skip {i : Nat} {is : List (Nat × Bool)} {a : Act} {w : World} {o : Oper} (ho : l[i]? = some o) (hw : Region.wanted o (yielded l.toArray a.tmps) = false)
    (h : wpSeq P l Q is (a.put o.dst undef) w) : wpSeq P l Q ((i, true) :: is) a w := ⟨o, undef, ho, .inr ⟨hw, rfl⟩, h⟩
theorem wpSeq_call {i : Nat} {is : List (Nat × Bool)} {a : Act} {w : World} {o : Oper} (ho : l[i]? = some o)
    (h : ∀ K' : Act → World → Prop, Shut (∀ a w', Below w.heap.size w w' → wpSeq P l Q is a w' → K' a w') → if Region.wanted o (yielded l.toArray a.tmps) = true then Oper.wp P o a w K' Q else K' (a.put o.dst undef) w) :
    wpSeq P l Q ((i, false) :: is) a w :=
  wpOp_step (by simpa using ho) (fun K' hK => h K' (fun a w' hb hW => hK a w' ⟨hb, hW⟩))
theorem wpSeq_nil {a : Act} {w : World} (h : Q .normal a w) : wpSeq P l (NoPanic Q) [] a w := h
end
/-- an order: what only reads comes first, by its number -/
def isRead (o : Oper) : Bool := match o.op with
  | .call c => (match c.callee with | .builtin .len => true | _ => false)
  | .store .. | .alloc .. | .makeSlice .. | .buildSlice .. | .box .. => false
  | _ => true
def autoSeq (ops : Array Oper) : Nat → Array Bool → List (Nat × Bool)
  | 0, _ => []
  | n + 1, listed =>
    let r := Region.ready .any ops listed
    match r.find? fun i => (ops[i]?.map isRead).getD false with
    | some i => (i, true) :: autoSeq ops n (listed.setIfInBounds i true)
    | none => match r with
      | [] => []
      | i :: _ => (i, false) :: autoSeq ops n (listed.setIfInBounds i true)
end Go.Proofs.Ytjhjielenbeoiaa
