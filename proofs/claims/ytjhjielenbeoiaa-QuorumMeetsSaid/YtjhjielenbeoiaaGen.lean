/-
  General pieces of the walks: the chapter's remainder at a natural number, places in slices, strings of bytes, appends of words, tests of digests. No condition.
-/
import Derived.Test.YtjhjielenbeoiaaHas
import Derived.Test.YtjhjielenbeoiaaRefOf
import Derived.Deep.QuietTactic
import Derived.BigQuiet
import Derived.Laws.AppendOwn
import Derived.Laws.CopyOwn
import Derived.Deep.AppendLies
import Derived.Deep.RegionLaw
import Derived.StillTailTactics
import Derived.WalkLawsBesides
import Derived.Laws.BytesString
import Derived.Below
import Derived.Outline
namespace Go.Proofs.Ytjhjielenbeoiaa
open Go.ChangeShapes Go.WideShapes Go.ChangeAt Go.RowKit
open Dg (W B)
theorem infoByte : (Try.prog.info? 5).map (fun i => (i.zero, i.size, i.bytes)) = some (some (.int .u8 0), 1, 1) := by kernel_rfl
theorem info_parts {P : Program} {t : TypeId} {z : Value} {s b : Nat} (h : (P.info? t).map (fun i => (i.zero, i.size, i.bytes)) = some (some z, s, b)) :
    ∃ i, P.info? t = some i ∧ i.zero = some z ∧ i.size = s ∧ i.bytes = b := by
  cases h' : P.info? t with
  | none => rw [h'] at h; cases h
  | some i =>
    rw [h'] at h
    have := Option.some.inj h
    simp only [Prod.mk.injEq] at this
    exact ⟨i, rfl, this.1, this.2.1, this.2.2⟩
theorem mod_to (n m : Int) (q : Nat) (h : n % m = q) (w : World) (hn : (Lit.int .i64 n).wf = true) (h1 : 1 ≤ m) (h2 : m ≤ 4611686018427387904) :
    Calls Try.prog 20 #[.int .i64 n, .int .i64 m] w fun e w' => e = .returned (.int .i64 (q : Int)) ∧ w = w' := by
  rw [← h]; exact mod_pos n m w hn h1 h2
theorem mod_nat (n : Int) (m : Nat) (h : 1 ≤ m) : ∃ q : Nat, n % (m : Int) = q ∧ q < m := by
  have h0 : 0 ≤ n % (m : Int) := Int.emod_nonneg _ (by omega)
  have h1 : n % (m : Int) < m := Int.emod_lt_of_pos _ (by omega)
  exact ⟨(n % (m : Int)).toNat, by omega, by omega⟩
theorem add_plain' (N o j : Nat) : (⟨N, o, none⟩ : Addr).add j = ⟨N, o + j, none⟩ := by simp [Addr.add]
/-- the string of bytes -/
def bstr (l : List B) : ByteArray := ⟨(l.map UInt8.ofBitVec).toArray⟩
theorem bstr_inj {a b : List B} : bstr a = bstr b ↔ a = b := by
  refine ⟨fun h => ?_, fun h => by rw [h]⟩
  have := congrArg (fun s : ByteArray => s.data.toList) h
  have h2 : a.map UInt8.ofBitVec = b.map UInt8.ofBitVec := by simpa [bstr] using this
  have h3 := congrArg (List.map UInt8.toBitVec) h2
  simpa [List.map_map, Function.comp_def] using h3
theorem conv_bytes (l : List B) (b off cap : Nat) (w : World) (hc : ∀ i, i < l.length → w.cell? ⟨b, off + i, none⟩ = some (.int .u8 (bv (l.getD i 0)))) :
    (convert 30 9 (.slice (some ⟨b, off, none⟩) l.length cap)).run Try.prog w = .ok (.string (bstr l)) w := by
  have := run_convert_bytes_back (P := Try.prog) w 30 9 5 ⟨b, off, none⟩ cap (l.map UInt8.ofBitVec) Try.underlying30 Try.underlying5 Try.underlying9 (fun j hj => by
    have hj' : j < l.length := by simpa using hj
    rw [add_plain', hc j hj']
    simp [List.getD, hj', bv])
  rw [List.length_map] at this
  exact this
theorem bstr_test (l m : List B) : ((bstr l).toList == (bstr m).toList) = decide (l = m) := by
  rw [Bool.eq_iff_iff, beq_iff_eq, ByteArray.toList_eq, ByteArray.toList_eq, decide_eq_true_iff]
  refine ⟨fun h => bstr_inj.1 (bytes_inj h), fun h => by rw [h]⟩
theorem word_eq (a c : W) : (uv a == uv c) = decide (a = c) := by
  rw [uv_eq, Bool.eq_iff_iff, beq_iff_eq, decide_eq_true_iff]
theorem pair_eq_r (x y z : W) : (uv (Dg.pairW x y) == uv (Dg.pairW x z)) = decide (y = z) := by
  rw [uv_eq, Bool.eq_iff_iff, beq_iff_eq, decide_eq_true_iff, Dg.pair_r]
theorem pair_eq_l (x y z : W) : (uv (Dg.pairW x y) == uv (Dg.pairW z y)) = decide (x = z) := by
  rw [uv_eq, Bool.eq_iff_iff, beq_iff_eq, decide_eq_true_iff, Dg.pair_l]
def bval' (x : B) : Value := .int .u8 (bv x)
def wval (x : W) : Value := .int .u64 (uv x)
theorem HasB.form {w : World} {N : Nat} {v : Value} {l : List B} (h : HasB w N v l) : ∃ a cap, v = .slice a l.length cap := by
  rcases h with ⟨a, cap, rfl, rfl⟩ | ⟨b, off, cap, rfl, _⟩
  · exact ⟨a, cap, rfl⟩
  · exact ⟨_, cap, rfl⟩
theorem HasW.form {w : World} {N : Nat} {v : Value} {l : List W} (h : HasW w N v l) : ∃ a cap, v = .slice a l.length cap := by
  rcases h with ⟨a, cap, rfl, rfl⟩ | ⟨b, off, cap, rfl, _⟩
  · exact ⟨a, cap, rfl⟩
  · exact ⟨_, cap, rfl⟩
end Go.Proofs.Ytjhjielenbeoiaa
