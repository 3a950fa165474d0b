/-
  What Text of package digest and of the chapter return for any word: its text; nothing that was there has changed. Condition: the library's table math/bits.deBruijn64tab holds what it is laid with (for the package's).
-/
import Derived.Test.YtbgkcelihemmjaaDoorFmt
import Derived.Test.YtbgkcelihemmjaaDoorShelf
import Derived.Lib.Agree
namespace Go.Proofs.YtbgkcelihemmjaaDoor
open Go.ChangeShapes Go.WideShapes Go.ChangeAt Go.RowKit
open Dg (W B)

def str (l : List UInt8) : ByteArray := ⟨l.toArray⟩
theorem str_size (l : List UInt8) : (str l).size = l.length := by simp [str, ByteArray.size]
theorem str_append (a b : List UInt8) : str a ++ str b = str (a ++ b) := by
  apply ByteArray.ext
  simp [str, ByteArray.data_append]
theorem str_inj {a b : List UInt8} : str a = str b ↔ a = b := by
  refine ⟨fun h => ?_, fun h => by rw [h]⟩
  have := congrArg (fun s : ByteArray => s.data.toList) h
  simpa [str] using this
def HexPost (x : W) (w : World) (e : Ending) (w' : World) : Prop := (∃ n, 1 ≤ n ∧ n ≤ 16 ∧ x >>> (4 * n) = 0 ∧ e = .returned (.string (str (Dg.digs x n)))) ∧ Below w.heap.size w w'
theorem ifmt_16 (x : W) (w : World) (h : Tab w) :
    Calls Tryd.prog 23 #[.int .u64 (uv x), .int .i64 16] w (HexPost x w) := by
  have H := Lib.hid h; clear h
  go_enter Tryd.func23, Tryd.ntmps23
  go_wp2_with fail
  refine (bits_16 x _ H.out).mono ?_; rintro e w' ⟨⟨n, h1, h2, h3, rfl⟩, hb⟩
  have H3 := Lib.hid h3; clear h3
  go_wp2
  go_ret
  exact ⟨⟨n, h1, h2, H3.out, rfl⟩, hb⟩
theorem fmt_16 (x : W) (w : World) (h : Tab w) :
    Calls Tryd.prog 21 #[.int .u64 (uv x), .int .i64 16] w (HexPost x w) := by
  have H := Lib.hid h; clear h
  go_enter Tryd.func21, Tryd.ntmps21
  go_wp2_with fail
  refine (ifmt_16 x _ H.out).mono ?_; rintro e w' ⟨⟨n, h1, h2, h3, rfl⟩, hb⟩
  have H3 := Lib.hid h3; clear h3
  go_wp2
  go_ret
  exact ⟨⟨n, h1, h2, H3.out, rfl⟩, hb⟩
theorem rep_0 (n : Nat) (h : n ≤ 16) (w : World) :
    Calls Tryd.prog 22 #[.string ⟨#[48]⟩, .int .i64 (16 - (n : Int))] w fun e w' => e = .returned (.string (str (List.replicate (16 - n) 48))) ∧ Below w.heap.size w w' := by
  have hs : (ByteArray.mk #[48]).size * (16 - n) ≤ 140737488355328 := by
    rw [show (ByteArray.mk #[48]).size = 1 by rfl]; omega
  have h := Tryd.strings_Repeat ⟨#[48]⟩ (16 - n) w (by omega) hs
  rw [show ((16 - n : Nat) : Int) = 16 - (n : Int) by omega] at h
  refine h.mono fun e w' ⟨he, hw⟩ => ⟨?_, hw⟩
  have e2 := Lib.repeatL_replicate 48 1 (16 - n)
  rw [he]
  have e3 : Lib.repeatL (ByteArray.mk #[48]).data.toList (16 - n) = List.replicate (16 - n) 48 := by simpa using e2
  rw [e3]; rfl
def TextPost (x : W) (w : World) (e : Ending) (w' : World) : Prop := e = .returned (.string (str (Dg.text x))) ∧ Below w.heap.size w w'
theorem text_any (x : W) (w : World) (h : Tab w) :
    Calls Tryd.prog 16 #[.int .u64 (uv x)] w (TextPost x w) := by
  have H := Lib.hid h; clear h
  go_enter Tryd.func16, Tryd.ntmps16
  go_wp2_with fail
  refine (fmt_16 x _ H.out).mono ?_; rintro e w' ⟨⟨n, h1, h2, h3, rfl⟩, hb⟩
  have H3 := Lib.hid h3; clear h3
  have hs : (str (Dg.digs x n)).size = n := by simp [str, ByteArray.size, Dg.digs_len]
  go_wp2_with fail
  have hb1 := hb.size
  refine (rep_0 n h2 _).mono ?_; rintro e w'' ⟨rfl, hb'⟩
  have HB := Lib.hid (hb.trans (hb'.mono hb1)); clear hb hb' hb1
  have hk : ¬ 9223372036854775807 < (str (List.replicate (16 - n) 48)).size + n := by rw [str_size, List.length_replicate]; omega
  go_wp2
  go_ret
  exact ⟨congrArg (fun s => Ending.returned (Value.string s)) (by rw [str_append, Dg.text_pad H3.out h2]), HB.out⟩

/-! ### the chapter's -/
/-- the first j digits -/
theorem cut_16 (d : Nat) (h : d < 16) (w : World) :
    (Instr.slice 9 (.string ⟨#[48, 49, 50, 51, 52, 53, 54, 55, 56, 57, 97, 98, 99, 100, 101, 102]⟩) (some (.int .u64 (d : Int))) (some (.int .u64 ((d : Int) + 1))) none).run Tryd.prog w = .ok (.string (str [Dg.sign d])) w := by
  have : d = 0 ∨ d = 1 ∨ d = 2 ∨ d = 3 ∨ d = 4 ∨ d = 5 ∨ d = 6 ∨ d = 7 ∨ d = 8 ∨ d = 9 ∨ d = 10 ∨ d = 11 ∨ d = 12 ∨ d = 13 ∨ d = 14 ∨ d = 15 := by omega
  rcases this with rfl | rfl | rfl | rfl | rfl | rfl | rfl | rfl | rfl | rfl | rfl | rfl | rfl | rfl | rfl | rfl <;> refine Eq.trans ?_ rfl <;> kernel_rfl
theorem text_take (x : W) (j : Nat) (h : j < 16) : str ((Dg.text x).take j) ++ str [Dg.sign (Dg.nib x (15 - j))] = str ((Dg.text x).take (j + 1)) := by
  rw [str_append, List.take_add_one, show (Dg.text x)[j]? = some (Dg.sign (Dg.nib x (16 - 1 - j))) from Dg.digs_at x 16 j h]
  rfl
def TextRel (x : W) (o i : Value) : Prop := ∃ j : Nat, j ≤ 16 ∧ o = .string (str ((Dg.text x).take j)) ∧ i = .int .i64 (60 - 4 * (j : Int))
def textNum (i : Value) : Nat := (intOf i + 4).toNat
theorem rtext_any (x : W) (w : World) :
    Calls Tryd.prog 17 #[.int .u64 (uv x)] w fun e w' => e = .returned (.string (str (Dg.text x))) ∧ w = w' := by
  go_enter Tryd.func17, Tryd.ntmps17
  go_wp2
  go_loop [3, 4] (TextRel x) (fun _ i => textNum i)
  case atStart => exact ⟨0, by omega, rfl, rfl⟩
  case round =>
    obtain ⟨j, hj, rfl, rfl⟩ := hrel
    by_cases hlt : j < 16
    · have h0 : (0 : Int) ≤ 60 - 4 * j := by omega
      have hsh : uv x / 2 ^ (60 - 4 * j) = uv (x >>> (4 * (15 - j))) := by
        rw [uv_shr x (4 * (15 - j)) (2 ^ (60 - 4 * j)) (by rw [show 60 - 4 * j = 4 * (15 - j) by omega]; simp)]
      have k1 := nib_int x (15 - j)
      have k2 : Dg.nib x (15 - j) < 16 := Nat.mod_lt _ (by decide)
      have hz : (str ((Dg.text x).take j)).size = j := by rw [str_size, List.length_take, Dg.text, Dg.digs_len]; omega
      have hcut := cut_16 (Dg.nib x (15 - j)) k2 w
      have hk : ¬ 9223372036854775807 < j + (str [Dg.sign (Dg.nib x (15 - j))]).size := by rw [str_size]; simp; omega
      go_wp2
      go_round
      case rel => exact ⟨j + 1, by omega, congrArg Value.string (text_take x j hlt), by congr 1; omega⟩
      case measure => simp [textNum, intOf]; omega
    · have h0 : ¬ (0 : Int) ≤ 60 - 4 * j := by omega
      have e16 : j = 16 := by omega
      have HE := Lib.hid e16; clear e16
      go_wp2
      go_ret
      exact ⟨congrArg (fun s => Ending.returned (Value.string s)) (by rw [HE.out, List.take_of_length_le (by rw [Dg.text, Dg.digs_len]; omega)]), rfl⟩
end Go.Proofs.YtbgkcelihemmjaaDoor
