/-
  NARROWER THAN 'FOR EVERY INPUT', by the rows' own cells (each row's printed sentence says how): MessageActs: laid · MessageBytes: laid · MessageBack: laid · MessageCanonical: laid · MessageShort: laid.
  DERIVED. THE GIVEN ROWS OF THIS SEAT. 5 by the template 'for every input the law returns true; each argument reads behind the call as it read before'; 0 by the template 'total and deterministic' (their statements: YtgkckomccabmlaaGreatDoorTotals.lean).
  GIVEN WITH THE SEED: the statements are not yours to turn. If you find one false, say at which input.
  Laid BY PROGRAM, IN A SANDBOX (cutbox-rows.mjs): the forced cells as the released guide's own fill.sh prints them over the translation b00de6daf5455de3… (all of the seat's roots in one cut). By AI agents, Wed Nov 11 2026. No macro, syntax, notation, axiom, sorry.
-/
import Derived.Test.YtgkckomccabmlaaGreatDoorChecked
import GoSem.Claim
import GoSem.ClaimJoined
import GoSem.ClaimMapViews
import Derived.JoinedTies
import Derived.KernelRfl
namespace Go.Proofs.YtgkckomccabmlaaGreatDoor
/- THE CELL 'sum', in the pinned program and in every row, IS THE sha256 OF THE DUMP (.gsa) THAT YtgkckomccabmlaaGreatDoorProg.lean LOADS. Nothing in Lean hashes anything: it is a label: what it is worth is what the hold of that sum in a sandbox is worth. -/
noncomputable def Tryz.pinned : Pinned := { name := "ytgkckomccabmlaagreatdoor", sum := "b00de6daf5455de3696ddf3693cc411962ecf98ee2627a08cae51c510c7f2053", checked := Tryz.checked }
namespace Rows
def none {H : Type} : Left H := { results := [], args := [] }

/- WHAT THE LISTED PACKAGE-LEVEL VARIABLES READ AS WHEN THE CALL BEGINS. Each datum BY PROGRAM (the guide's laid-datum.mjs) off the statement by which the dump's own 'gosem.cut.vars' lays the variable. In a bare row this is a premise. The card (YtgkckomccabmlaaGreatDoorCards.lean) ties it to the program's text. -/
def laid_math_bits_deBruijn32tab {H : Type} : DataW H := .agg [.lit (.int .u8 0), .lit (.int .u8 1), .lit (.int .u8 28), .lit (.int .u8 2), .lit (.int .u8 29), .lit (.int .u8 14), .lit (.int .u8 24), .lit (.int .u8 3), .lit (.int .u8 30), .lit (.int .u8 22), .lit (.int .u8 20), .lit (.int .u8 15), .lit (.int .u8 25), .lit (.int .u8 17), .lit (.int .u8 4), .lit (.int .u8 8), .lit (.int .u8 31), .lit (.int .u8 27), .lit (.int .u8 13), .lit (.int .u8 23), .lit (.int .u8 21), .lit (.int .u8 19), .lit (.int .u8 16), .lit (.int .u8 7), .lit (.int .u8 26), .lit (.int .u8 12), .lit (.int .u8 18), .lit (.int .u8 6), .lit (.int .u8 11), .lit (.int .u8 5), .lit (.int .u8 10), .lit (.int .u8 9)]
def laid_math_bits_deBruijn64tab {H : Type} : DataW H := .agg [.lit (.int .u8 0), .lit (.int .u8 1), .lit (.int .u8 56), .lit (.int .u8 2), .lit (.int .u8 57), .lit (.int .u8 49), .lit (.int .u8 28), .lit (.int .u8 3), .lit (.int .u8 61), .lit (.int .u8 58), .lit (.int .u8 42), .lit (.int .u8 50), .lit (.int .u8 38), .lit (.int .u8 29), .lit (.int .u8 17), .lit (.int .u8 4), .lit (.int .u8 62), .lit (.int .u8 47), .lit (.int .u8 59), .lit (.int .u8 36), .lit (.int .u8 45), .lit (.int .u8 43), .lit (.int .u8 51), .lit (.int .u8 22), .lit (.int .u8 53), .lit (.int .u8 39), .lit (.int .u8 33), .lit (.int .u8 30), .lit (.int .u8 24), .lit (.int .u8 18), .lit (.int .u8 12), .lit (.int .u8 5), .lit (.int .u8 63), .lit (.int .u8 55), .lit (.int .u8 48), .lit (.int .u8 27), .lit (.int .u8 60), .lit (.int .u8 41), .lit (.int .u8 37), .lit (.int .u8 16), .lit (.int .u8 46), .lit (.int .u8 35), .lit (.int .u8 44), .lit (.int .u8 21), .lit (.int .u8 52), .lit (.int .u8 32), .lit (.int .u8 23), .lit (.int .u8 11), .lit (.int .u8 54), .lit (.int .u8 26), .lit (.int .u8 40), .lit (.int .u8 15), .lit (.int .u8 34), .lit (.int .u8 20), .lit (.int .u8 31), .lit (.int .u8 10), .lit (.int .u8 25), .lit (.int .u8 14), .lit (.int .u8 19), .lit (.int .u8 9), .lit (.int .u8 13), .lit (.int .u8 8), .lit (.int .u8 7), .lit (.int .u8 6)]
def laid_internal_strconv_uint64pow10 {H : Type} : DataW H := .agg [.lit (.int .u64 1), .lit (.int .u64 10), .lit (.int .u64 100), .lit (.int .u64 1000), .lit (.int .u64 10000), .lit (.int .u64 100000), .lit (.int .u64 1000000), .lit (.int .u64 10000000), .lit (.int .u64 100000000), .lit (.int .u64 1000000000), .lit (.int .u64 10000000000), .lit (.int .u64 100000000000), .lit (.int .u64 1000000000000), .lit (.int .u64 10000000000000), .lit (.int .u64 100000000000000), .lit (.int .u64 1000000000000000), .lit (.int .u64 10000000000000000), .lit (.int .u64 100000000000000000), .lit (.int .u64 1000000000000000000), .lit (.int .u64 10000000000000000000)]
def laid_asyncbft_message_kinds {H : Type} : DataW H := .agg [.agg [.lit (.string []), .lit (.int .i64 0)], .agg [.lit (.string [105, 110, 105, 116]), .lit (.int .i64 8)], .agg [.lit (.string [101, 99, 104, 111]), .lit (.int .i64 8)], .agg [.lit (.string [114, 101, 97, 100, 121]), .lit (.int .i64 8)], .agg [.lit (.string [115, 104, 97, 114, 100]), .lit (.int .i64 30)], .agg [.lit (.string [112, 97, 114, 116]), .lit (.int .i64 30)], .agg [.lit (.string [100, 111, 110, 101]), .lit (.int .i64 6)], .agg [.lit (.string [118, 97, 108, 117, 101]), .lit (.int .i64 1)], .agg [.lit (.string [97, 117, 120]), .lit (.int .i64 1)], .agg [.lit (.string [99, 111, 110, 102]), .lit (.int .i64 1)], .agg [.lit (.string [99, 111, 105, 110]), .lit (.int .i64 9)], .agg [.lit (.string [116, 101, 114, 109]), .lit (.int .i64 0)], .agg [.lit (.string [107, 101, 121]), .lit (.int .i64 8)]]

/-- 'asyncbftlaw09.MessageActs': WHATEVER THE INPUT: true; the input reads as it did. -/
def messageActsSpec : ChangeSpec := { name := "messageActs", fn := fun _ => fun
  | [d1, d2, d3] => { results := [.lit (.bool true)], args := [d1, d2, d3] }
  | _ => none }
def messageActsRow : OpenClaim := { program := "ytgkckomccabmlaagreatdoor", sum := "b00de6daf5455de3696ddf3693cc411962ecf98ee2627a08cae51c510c7f2053", func := "asyncbft/asyncbftlaw09.MessageActs", spec := "messageActs", inPlace := ["internal/abi.NoEscape", "internal/bytealg.MakeNoZero"], unfollowed := true, recurses := true, named := ["asyncbft/message.kinds", "internal/strconv.uint64pow10", "math/bits.deBruijn32tab", "math/bits.deBruijn64tab"], apart := false, laid := [("math/bits.deBruijn32tab", laid_math_bits_deBruijn32tab), ("math/bits.deBruijn64tab", laid_math_bits_deBruijn64tab), ("internal/strconv.uint64pow10", laid_internal_strconv_uint64pow10), ("asyncbft/message.kinds", laid_asyncbft_message_kinds)] }
def MessageActsSaid : Prop := messageActsRow.holds Tryz.pinned (OpenSpec.ofChange messageActsSpec)

/-- ITS FALSE NEIGHBOUR: 'it returns false'. Refute it at one input. -/
def messageActsWrong : ChangeSpec := { name := "messageActs", fn := fun _ => fun
  | [d1, d2, d3] => { results := [.lit (.bool false)], args := [d1, d2, d3] }
  | _ => none }
def MessageActsWrongFalsely : Prop := messageActsRow.holds Tryz.pinned (OpenSpec.ofChange messageActsWrong)

/-- 'asyncbftlaw09.MessageBytes': WHATEVER THE INPUT: true; the input reads as it did. -/
def messageBytesSpec : ChangeSpec := { name := "messageBytes", fn := fun _ => fun
  | [d1, d2, d3, d4] => { results := [.lit (.bool true)], args := [d1, d2, d3, d4] }
  | _ => none }
def messageBytesRow : OpenClaim := { program := "ytgkckomccabmlaagreatdoor", sum := "b00de6daf5455de3696ddf3693cc411962ecf98ee2627a08cae51c510c7f2053", func := "asyncbft/asyncbftlaw09.MessageBytes", spec := "messageBytes", inPlace := ["internal/abi.NoEscape", "internal/bytealg.MakeNoZero"], unfollowed := true, recurses := true, named := ["asyncbft/message.kinds", "internal/strconv.uint64pow10", "math/bits.deBruijn32tab", "math/bits.deBruijn64tab"], apart := false, laid := [("math/bits.deBruijn32tab", laid_math_bits_deBruijn32tab), ("math/bits.deBruijn64tab", laid_math_bits_deBruijn64tab), ("internal/strconv.uint64pow10", laid_internal_strconv_uint64pow10), ("asyncbft/message.kinds", laid_asyncbft_message_kinds)] }
def MessageBytesSaid : Prop := messageBytesRow.holds Tryz.pinned (OpenSpec.ofChange messageBytesSpec)

/-- ITS FALSE NEIGHBOUR: 'it returns false'. Refute it at one input. -/
def messageBytesWrong : ChangeSpec := { name := "messageBytes", fn := fun _ => fun
  | [d1, d2, d3, d4] => { results := [.lit (.bool false)], args := [d1, d2, d3, d4] }
  | _ => none }
def MessageBytesWrongFalsely : Prop := messageBytesRow.holds Tryz.pinned (OpenSpec.ofChange messageBytesWrong)

/-- 'asyncbftlaw09.MessageBack': WHATEVER THE INPUT: true; the input reads as it did. -/
def messageBackSpec : ChangeSpec := { name := "messageBack", fn := fun _ => fun
  | [d] => { results := [.lit (.bool true)], args := [d] }
  | _ => none }
def messageBackRow : OpenClaim := { program := "ytgkckomccabmlaagreatdoor", sum := "b00de6daf5455de3696ddf3693cc411962ecf98ee2627a08cae51c510c7f2053", func := "asyncbft/asyncbftlaw09.MessageBack", spec := "messageBack", inPlace := ["internal/abi.NoEscape", "internal/bytealg.MakeNoZero"], unfollowed := true, recurses := true, named := ["asyncbft/message.kinds", "internal/strconv.uint64pow10", "math/bits.deBruijn32tab", "math/bits.deBruijn64tab"], apart := false, laid := [("math/bits.deBruijn32tab", laid_math_bits_deBruijn32tab), ("math/bits.deBruijn64tab", laid_math_bits_deBruijn64tab), ("internal/strconv.uint64pow10", laid_internal_strconv_uint64pow10), ("asyncbft/message.kinds", laid_asyncbft_message_kinds)] }
def MessageBackSaid : Prop := messageBackRow.holds Tryz.pinned (OpenSpec.ofChange messageBackSpec)

/-- ITS FALSE NEIGHBOUR: 'it returns false'. Refute it at one input. -/
def messageBackWrong : ChangeSpec := { name := "messageBack", fn := fun _ => fun
  | [d] => { results := [.lit (.bool false)], args := [d] }
  | _ => none }
def MessageBackWrongFalsely : Prop := messageBackRow.holds Tryz.pinned (OpenSpec.ofChange messageBackWrong)

/-- 'asyncbftlaw09.MessageCanonical': WHATEVER THE INPUT: true; the input reads as it did. -/
def messageCanonicalSpec : ChangeSpec := { name := "messageCanonical", fn := fun _ => fun
  | [d1, d2, d3] => { results := [.lit (.bool true)], args := [d1, d2, d3] }
  | _ => none }
def messageCanonicalRow : OpenClaim := { program := "ytgkckomccabmlaagreatdoor", sum := "b00de6daf5455de3696ddf3693cc411962ecf98ee2627a08cae51c510c7f2053", func := "asyncbft/asyncbftlaw09.MessageCanonical", spec := "messageCanonical", inPlace := ["internal/abi.NoEscape", "internal/bytealg.MakeNoZero"], unfollowed := true, recurses := true, named := ["asyncbft/message.kinds", "internal/strconv.uint64pow10", "math/bits.deBruijn32tab", "math/bits.deBruijn64tab"], apart := false, laid := [("math/bits.deBruijn32tab", laid_math_bits_deBruijn32tab), ("math/bits.deBruijn64tab", laid_math_bits_deBruijn64tab), ("internal/strconv.uint64pow10", laid_internal_strconv_uint64pow10), ("asyncbft/message.kinds", laid_asyncbft_message_kinds)] }
def MessageCanonicalSaid : Prop := messageCanonicalRow.holds Tryz.pinned (OpenSpec.ofChange messageCanonicalSpec)

/-- ITS FALSE NEIGHBOUR: 'it returns false'. Refute it at one input. -/
def messageCanonicalWrong : ChangeSpec := { name := "messageCanonical", fn := fun _ => fun
  | [d1, d2, d3] => { results := [.lit (.bool false)], args := [d1, d2, d3] }
  | _ => none }
def MessageCanonicalWrongFalsely : Prop := messageCanonicalRow.holds Tryz.pinned (OpenSpec.ofChange messageCanonicalWrong)

/-- 'asyncbftlaw09.MessageShort': WHATEVER THE INPUT: true; the input reads as it did. -/
def messageShortSpec : ChangeSpec := { name := "messageShort", fn := fun _ => fun
  | [d] => { results := [.lit (.bool true)], args := [d] }
  | _ => none }
def messageShortRow : OpenClaim := { program := "ytgkckomccabmlaagreatdoor", sum := "b00de6daf5455de3696ddf3693cc411962ecf98ee2627a08cae51c510c7f2053", func := "asyncbft/asyncbftlaw09.MessageShort", spec := "messageShort", inPlace := ["internal/abi.NoEscape", "internal/bytealg.MakeNoZero"], unfollowed := true, recurses := true, named := ["asyncbft/message.kinds", "internal/strconv.uint64pow10", "math/bits.deBruijn32tab", "math/bits.deBruijn64tab"], apart := false, laid := [("math/bits.deBruijn32tab", laid_math_bits_deBruijn32tab), ("math/bits.deBruijn64tab", laid_math_bits_deBruijn64tab), ("internal/strconv.uint64pow10", laid_internal_strconv_uint64pow10), ("asyncbft/message.kinds", laid_asyncbft_message_kinds)] }
def MessageShortSaid : Prop := messageShortRow.holds Tryz.pinned (OpenSpec.ofChange messageShortSpec)

/-- ITS FALSE NEIGHBOUR: 'it returns false'. Refute it at one input. -/
def messageShortWrong : ChangeSpec := { name := "messageShort", fn := fun _ => fun
  | [d] => { results := [.lit (.bool false)], args := [d] }
  | _ => none }
def MessageShortWrongFalsely : Prop := messageShortRow.holds Tryz.pinned (OpenSpec.ofChange messageShortWrong)

/- THE SECOND FORM. 'bulk': how many values and letters a reading holds, each counted each time it is reached (what is shared counts as often as it is met; a slice's spare places count too). A statement '..UptoSaid' is the law's where the arguments, and the package variables that the reading takes, are together of bulk at most 1048576: NARROWER than '..Said'. Prove '..Said' where nothing that the law and all that it calls make is longer than what came in: it says more and counts as full. Else prove '..UptoSaid'. A law counts once. -/
mutual
def uptoBulk {H : Type} : DataW H → Nat
  | .lit (.string bytes) => bytes.length + 1
  | .lit _ => 1
  | .nil => 1
  | .ptr d => uptoBulk d + 1
  | .slice elems spare => uptoBulkAll elems + uptoBulkAll spare + 1
  | .agg parts => uptoBulkAll parts + 1
  | .iface _ d => uptoBulk d + 1
  | .map entries => uptoBulkEntries entries + 1
  | .held _ => 1
def uptoBulkAll {H : Type} : List (DataW H) → Nat
  | [] => 0
  | d :: r => uptoBulk d + uptoBulkAll r
def uptoBulkEntries {H : Type} : List (Lit × DataW H) → Nat
  | [] => 0
  | x :: r => uptoBulkEntry x + uptoBulkEntries r
def uptoBulkEntry {H : Type} : Lit × DataW H → Nat
  | (.string bytes, d) => bytes.length + uptoBulk d + 1
  | (_, d) => uptoBulk d + 1
 end
def uptoSmall : (H : Type) → List (DataW H) → Bool := fun _ ds => decide (uptoBulkAll ds ≤ 1048576)
def OpenSpec.upto (s : _root_.Go.ChangeSpec) : _root_.Go.OpenSpec := { _root_.Go.OpenSpec.ofChange s with cond := some uptoSmall }

/-- 'asyncbftlaw09.MessageActs', WHERE WHAT IT READS IS OF BULK AT MOST 1048576: true; the input reads as it did. -/
def messageActsUptoRow : OpenClaim := { program := "ytgkckomccabmlaagreatdoor", sum := "b00de6daf5455de3696ddf3693cc411962ecf98ee2627a08cae51c510c7f2053", func := "asyncbft/asyncbftlaw09.MessageActs", spec := "messageActs", inPlace := ["internal/abi.NoEscape", "internal/bytealg.MakeNoZero"], unfollowed := true, recurses := true, named := ["asyncbft/message.kinds", "internal/strconv.uint64pow10", "math/bits.deBruijn32tab", "math/bits.deBruijn64tab"], apart := false, laid := [("math/bits.deBruijn32tab", laid_math_bits_deBruijn32tab), ("math/bits.deBruijn64tab", laid_math_bits_deBruijn64tab), ("internal/strconv.uint64pow10", laid_internal_strconv_uint64pow10), ("asyncbft/message.kinds", laid_asyncbft_message_kinds)], narrowed := true }
def MessageActsUptoSaid : Prop := messageActsUptoRow.holds Tryz.pinned (OpenSpec.upto messageActsSpec)

/-- 'asyncbftlaw09.MessageBytes', WHERE WHAT IT READS IS OF BULK AT MOST 1048576: true; the input reads as it did. -/
def messageBytesUptoRow : OpenClaim := { program := "ytgkckomccabmlaagreatdoor", sum := "b00de6daf5455de3696ddf3693cc411962ecf98ee2627a08cae51c510c7f2053", func := "asyncbft/asyncbftlaw09.MessageBytes", spec := "messageBytes", inPlace := ["internal/abi.NoEscape", "internal/bytealg.MakeNoZero"], unfollowed := true, recurses := true, named := ["asyncbft/message.kinds", "internal/strconv.uint64pow10", "math/bits.deBruijn32tab", "math/bits.deBruijn64tab"], apart := false, laid := [("math/bits.deBruijn32tab", laid_math_bits_deBruijn32tab), ("math/bits.deBruijn64tab", laid_math_bits_deBruijn64tab), ("internal/strconv.uint64pow10", laid_internal_strconv_uint64pow10), ("asyncbft/message.kinds", laid_asyncbft_message_kinds)], narrowed := true }
def MessageBytesUptoSaid : Prop := messageBytesUptoRow.holds Tryz.pinned (OpenSpec.upto messageBytesSpec)

/-- 'asyncbftlaw09.MessageBack', WHERE WHAT IT READS IS OF BULK AT MOST 1048576: true; the input reads as it did. -/
def messageBackUptoRow : OpenClaim := { program := "ytgkckomccabmlaagreatdoor", sum := "b00de6daf5455de3696ddf3693cc411962ecf98ee2627a08cae51c510c7f2053", func := "asyncbft/asyncbftlaw09.MessageBack", spec := "messageBack", inPlace := ["internal/abi.NoEscape", "internal/bytealg.MakeNoZero"], unfollowed := true, recurses := true, named := ["asyncbft/message.kinds", "internal/strconv.uint64pow10", "math/bits.deBruijn32tab", "math/bits.deBruijn64tab"], apart := false, laid := [("math/bits.deBruijn32tab", laid_math_bits_deBruijn32tab), ("math/bits.deBruijn64tab", laid_math_bits_deBruijn64tab), ("internal/strconv.uint64pow10", laid_internal_strconv_uint64pow10), ("asyncbft/message.kinds", laid_asyncbft_message_kinds)], narrowed := true }
def MessageBackUptoSaid : Prop := messageBackUptoRow.holds Tryz.pinned (OpenSpec.upto messageBackSpec)

/-- 'asyncbftlaw09.MessageCanonical', WHERE WHAT IT READS IS OF BULK AT MOST 1048576: true; the input reads as it did. -/
def messageCanonicalUptoRow : OpenClaim := { program := "ytgkckomccabmlaagreatdoor", sum := "b00de6daf5455de3696ddf3693cc411962ecf98ee2627a08cae51c510c7f2053", func := "asyncbft/asyncbftlaw09.MessageCanonical", spec := "messageCanonical", inPlace := ["internal/abi.NoEscape", "internal/bytealg.MakeNoZero"], unfollowed := true, recurses := true, named := ["asyncbft/message.kinds", "internal/strconv.uint64pow10", "math/bits.deBruijn32tab", "math/bits.deBruijn64tab"], apart := false, laid := [("math/bits.deBruijn32tab", laid_math_bits_deBruijn32tab), ("math/bits.deBruijn64tab", laid_math_bits_deBruijn64tab), ("internal/strconv.uint64pow10", laid_internal_strconv_uint64pow10), ("asyncbft/message.kinds", laid_asyncbft_message_kinds)], narrowed := true }
def MessageCanonicalUptoSaid : Prop := messageCanonicalUptoRow.holds Tryz.pinned (OpenSpec.upto messageCanonicalSpec)

/-- 'asyncbftlaw09.MessageShort', WHERE WHAT IT READS IS OF BULK AT MOST 1048576: true; the input reads as it did. -/
def messageShortUptoRow : OpenClaim := { program := "ytgkckomccabmlaagreatdoor", sum := "b00de6daf5455de3696ddf3693cc411962ecf98ee2627a08cae51c510c7f2053", func := "asyncbft/asyncbftlaw09.MessageShort", spec := "messageShort", inPlace := ["internal/abi.NoEscape", "internal/bytealg.MakeNoZero"], unfollowed := true, recurses := true, named := ["asyncbft/message.kinds", "internal/strconv.uint64pow10", "math/bits.deBruijn32tab", "math/bits.deBruijn64tab"], apart := false, laid := [("math/bits.deBruijn32tab", laid_math_bits_deBruijn32tab), ("math/bits.deBruijn64tab", laid_math_bits_deBruijn64tab), ("internal/strconv.uint64pow10", laid_internal_strconv_uint64pow10), ("asyncbft/message.kinds", laid_asyncbft_message_kinds)], narrowed := true }
def MessageShortUptoSaid : Prop := messageShortUptoRow.holds Tryz.pinned (OpenSpec.upto messageShortSpec)

end Rows
end Go.Proofs.YtgkckomccabmlaaGreatDoor
