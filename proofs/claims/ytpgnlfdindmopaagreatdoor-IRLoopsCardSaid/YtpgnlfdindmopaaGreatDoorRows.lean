/-
  NARROWER THAN 'FOR EVERY INPUT', by the rows' own cells (each row's printed sentence says how): InterpTraps: laid · IRLoops: laid · LowerExamples: laid · LowerGuards: laid.
  DERIVED. THE GIVEN ROWS OF THIS SEAT. 4 by the template 'for every input the law returns true; each argument reads behind the call as it read before'; 0 by the template 'total and deterministic' (their statements: YtpgnlfdindmopaaGreatDoorTotals.lean).
  GIVEN WITH THE SEED: the statements are not yours to turn. If you find one false, say at which input.
  Laid BY PROGRAM, IN A SANDBOX (cutbox-rows.mjs): the forced cells as the released guide's own fill.sh prints them over the translation d3d804e3cd1acd63… (all of the seat's roots in one cut). By AI agents, Wed Nov 11 2026. No macro, syntax, notation, axiom, sorry.
-/
import Derived.Test.YtpgnlfdindmopaaGreatDoorChecked
import GoSem.Claim
import GoSem.ClaimJoined
import GoSem.ClaimMapViews
import Derived.JoinedTies
import Derived.KernelRfl
namespace Go.Proofs.YtpgnlfdindmopaaGreatDoor
/- THE CELL 'sum', in the pinned program and in every row, IS THE sha256 OF THE DUMP (.gsa) THAT YtpgnlfdindmopaaGreatDoorProg.lean LOADS. Nothing in Lean hashes anything: it is a label: what it is worth is what the hold of that sum in a sandbox is worth. -/
noncomputable def Tryz.pinned : Pinned := { name := "ytpgnlfdindmopaagreatdoor", sum := "d3d804e3cd1acd63708d20b50b3100353be94026d166e3935b5834adb6316db1", checked := Tryz.checked }
namespace Rows
def none {H : Type} : Left H := { results := [], args := [] }

/- WHAT THE LISTED PACKAGE-LEVEL VARIABLES READ AS WHEN THE CALL BEGINS. Each datum BY PROGRAM (the guide's laid-datum.mjs) off the statement by which the dump's own 'gosem.cut.vars' lays the variable. In a bare row this is a premise. The card (YtpgnlfdindmopaaGreatDoorCards.lean) ties it to the program's text. -/
def laid_math_bits_deBruijn32tab {H : Type} : DataW H := .agg [.lit (.int .u8 0), .lit (.int .u8 1), .lit (.int .u8 28), .lit (.int .u8 2), .lit (.int .u8 29), .lit (.int .u8 14), .lit (.int .u8 24), .lit (.int .u8 3), .lit (.int .u8 30), .lit (.int .u8 22), .lit (.int .u8 20), .lit (.int .u8 15), .lit (.int .u8 25), .lit (.int .u8 17), .lit (.int .u8 4), .lit (.int .u8 8), .lit (.int .u8 31), .lit (.int .u8 27), .lit (.int .u8 13), .lit (.int .u8 23), .lit (.int .u8 21), .lit (.int .u8 19), .lit (.int .u8 16), .lit (.int .u8 7), .lit (.int .u8 26), .lit (.int .u8 12), .lit (.int .u8 18), .lit (.int .u8 6), .lit (.int .u8 11), .lit (.int .u8 5), .lit (.int .u8 10), .lit (.int .u8 9)]
def laid_math_bits_deBruijn64tab {H : Type} : DataW H := .agg [.lit (.int .u8 0), .lit (.int .u8 1), .lit (.int .u8 56), .lit (.int .u8 2), .lit (.int .u8 57), .lit (.int .u8 49), .lit (.int .u8 28), .lit (.int .u8 3), .lit (.int .u8 61), .lit (.int .u8 58), .lit (.int .u8 42), .lit (.int .u8 50), .lit (.int .u8 38), .lit (.int .u8 29), .lit (.int .u8 17), .lit (.int .u8 4), .lit (.int .u8 62), .lit (.int .u8 47), .lit (.int .u8 59), .lit (.int .u8 36), .lit (.int .u8 45), .lit (.int .u8 43), .lit (.int .u8 51), .lit (.int .u8 22), .lit (.int .u8 53), .lit (.int .u8 39), .lit (.int .u8 33), .lit (.int .u8 30), .lit (.int .u8 24), .lit (.int .u8 18), .lit (.int .u8 12), .lit (.int .u8 5), .lit (.int .u8 63), .lit (.int .u8 55), .lit (.int .u8 48), .lit (.int .u8 27), .lit (.int .u8 60), .lit (.int .u8 41), .lit (.int .u8 37), .lit (.int .u8 16), .lit (.int .u8 46), .lit (.int .u8 35), .lit (.int .u8 44), .lit (.int .u8 21), .lit (.int .u8 52), .lit (.int .u8 32), .lit (.int .u8 23), .lit (.int .u8 11), .lit (.int .u8 54), .lit (.int .u8 26), .lit (.int .u8 40), .lit (.int .u8 15), .lit (.int .u8 34), .lit (.int .u8 20), .lit (.int .u8 31), .lit (.int .u8 10), .lit (.int .u8 25), .lit (.int .u8 14), .lit (.int .u8 19), .lit (.int .u8 9), .lit (.int .u8 13), .lit (.int .u8 8), .lit (.int .u8 7), .lit (.int .u8 6)]
def laid_internal_strconv_uint64pow10 {H : Type} : DataW H := .agg [.lit (.int .u64 1), .lit (.int .u64 10), .lit (.int .u64 100), .lit (.int .u64 1000), .lit (.int .u64 10000), .lit (.int .u64 100000), .lit (.int .u64 1000000), .lit (.int .u64 10000000), .lit (.int .u64 100000000), .lit (.int .u64 1000000000), .lit (.int .u64 10000000000), .lit (.int .u64 100000000000), .lit (.int .u64 1000000000000), .lit (.int .u64 10000000000000), .lit (.int .u64 100000000000000), .lit (.int .u64 1000000000000000), .lit (.int .u64 10000000000000000), .lit (.int .u64 100000000000000000), .lit (.int .u64 1000000000000000000), .lit (.int .u64 10000000000000000000)]
def laid_fulling_lexer_longSymbols {H : Type} : DataW H := .agg [.lit (.string [62, 62, 62]), .lit (.string [60, 60]), .lit (.string [62, 62]), .lit (.string [60, 61]), .lit (.string [62, 61]), .lit (.string [61, 61]), .lit (.string [33, 61])]
def laid_fulling_parser_operators {H : Type} : DataW H := .agg [.agg [.lit (.string [124]), .lit (.int .i64 1), .lit (.int .i64 10), .lit (.bool false)], .agg [.lit (.string [94]), .lit (.int .i64 2), .lit (.int .i64 11), .lit (.bool false)], .agg [.lit (.string [38]), .lit (.int .i64 3), .lit (.int .i64 9), .lit (.bool false)], .agg [.lit (.string [61, 61]), .lit (.int .i64 4), .lit (.int .i64 15), .lit (.bool false)], .agg [.lit (.string [33, 61]), .lit (.int .i64 4), .lit (.int .i64 16), .lit (.bool false)], .agg [.lit (.string [60]), .lit (.int .i64 5), .lit (.int .i64 17), .lit (.bool false)], .agg [.lit (.string [60, 61]), .lit (.int .i64 5), .lit (.int .i64 18), .lit (.bool false)], .agg [.lit (.string [62]), .lit (.int .i64 5), .lit (.int .i64 17), .lit (.bool true)], .agg [.lit (.string [62, 61]), .lit (.int .i64 5), .lit (.int .i64 18), .lit (.bool true)], .agg [.lit (.string [60, 60]), .lit (.int .i64 6), .lit (.int .i64 12), .lit (.bool false)], .agg [.lit (.string [62, 62]), .lit (.int .i64 6), .lit (.int .i64 14), .lit (.bool false)], .agg [.lit (.string [62, 62, 62]), .lit (.int .i64 6), .lit (.int .i64 13), .lit (.bool false)], .agg [.lit (.string [43]), .lit (.int .i64 7), .lit (.int .i64 4), .lit (.bool false)], .agg [.lit (.string [45]), .lit (.int .i64 7), .lit (.int .i64 5), .lit (.bool false)], .agg [.lit (.string [42]), .lit (.int .i64 8), .lit (.int .i64 6), .lit (.bool false)], .agg [.lit (.string [47]), .lit (.int .i64 8), .lit (.int .i64 7), .lit (.bool false)], .agg [.lit (.string [37]), .lit (.int .i64 8), .lit (.int .i64 8), .lit (.bool false)]]
def laid_fulling_parser_reservedWords {H : Type} : DataW H := .agg [.lit (.string [97, 114, 114, 97, 121]), .lit (.string [102, 117, 110, 99]), .lit (.string [118, 97, 114]), .lit (.string [114, 101, 116, 117, 114, 110]), .lit (.string [105, 102]), .lit (.string [101, 108, 115, 101]), .lit (.string [119, 104, 105, 108, 101]), .lit (.string [111, 117, 116]), .lit (.string [116, 114, 97, 112])]

/-- 'fullinglaw6.InterpTraps': WHATEVER THE INPUT: true; the input reads as it did. -/
def interpTrapsSpec : ChangeSpec := { name := "interpTraps", fn := fun _ => fun
  | [d1, d2, d3] => { results := [.lit (.bool true)], args := [d1, d2, d3] }
  | _ => none }
def interpTrapsRow : OpenClaim := { program := "ytpgnlfdindmopaagreatdoor", sum := "d3d804e3cd1acd63708d20b50b3100353be94026d166e3935b5834adb6316db1", func := "fulling/fullinglaw6.InterpTraps", spec := "interpTraps", inPlace := ["internal/bytealg.IndexByteString"], unfollowed := true, recurses := true, named := ["fulling/lexer.longSymbols", "fulling/parser.reservedWords", "internal/strconv.uint64pow10", "math/bits.deBruijn32tab", "math/bits.deBruijn64tab", "fulling/parser.operators"], apart := false, laid := [("math/bits.deBruijn32tab", laid_math_bits_deBruijn32tab), ("math/bits.deBruijn64tab", laid_math_bits_deBruijn64tab), ("internal/strconv.uint64pow10", laid_internal_strconv_uint64pow10), ("fulling/lexer.longSymbols", laid_fulling_lexer_longSymbols), ("fulling/parser.operators", laid_fulling_parser_operators), ("fulling/parser.reservedWords", laid_fulling_parser_reservedWords)] }
def InterpTrapsSaid : Prop := interpTrapsRow.holds Tryz.pinned (OpenSpec.ofChange interpTrapsSpec)

/-- ITS FALSE NEIGHBOUR: 'it returns false'. Refute it at one input. -/
def interpTrapsWrong : ChangeSpec := { name := "interpTraps", fn := fun _ => fun
  | [d1, d2, d3] => { results := [.lit (.bool false)], args := [d1, d2, d3] }
  | _ => none }
def InterpTrapsWrongFalsely : Prop := interpTrapsRow.holds Tryz.pinned (OpenSpec.ofChange interpTrapsWrong)

/-- 'fullinglaw7.IRLoops': WHATEVER THE INPUT: true; the input reads as it did. -/
def iRLoopsSpec : ChangeSpec := { name := "iRLoops", fn := fun _ => fun
  | [d1, d2, d3] => { results := [.lit (.bool true)], args := [d1, d2, d3] }
  | _ => none }
def iRLoopsRow : OpenClaim := { program := "ytpgnlfdindmopaagreatdoor", sum := "d3d804e3cd1acd63708d20b50b3100353be94026d166e3935b5834adb6316db1", func := "fulling/fullinglaw7.IRLoops", spec := "iRLoops", inPlace := ["internal/bytealg.IndexByteString"], unfollowed := true, recurses := true, named := ["fulling/lexer.longSymbols", "fulling/parser.reservedWords", "internal/strconv.uint64pow10", "math/bits.deBruijn32tab", "math/bits.deBruijn64tab", "fulling/parser.operators"], apart := false, laid := [("math/bits.deBruijn32tab", laid_math_bits_deBruijn32tab), ("math/bits.deBruijn64tab", laid_math_bits_deBruijn64tab), ("internal/strconv.uint64pow10", laid_internal_strconv_uint64pow10), ("fulling/lexer.longSymbols", laid_fulling_lexer_longSymbols), ("fulling/parser.operators", laid_fulling_parser_operators), ("fulling/parser.reservedWords", laid_fulling_parser_reservedWords)] }
def IRLoopsSaid : Prop := iRLoopsRow.holds Tryz.pinned (OpenSpec.ofChange iRLoopsSpec)

/-- ITS FALSE NEIGHBOUR: 'it returns false'. Refute it at one input. -/
def iRLoopsWrong : ChangeSpec := { name := "iRLoops", fn := fun _ => fun
  | [d1, d2, d3] => { results := [.lit (.bool false)], args := [d1, d2, d3] }
  | _ => none }
def IRLoopsWrongFalsely : Prop := iRLoopsRow.holds Tryz.pinned (OpenSpec.ofChange iRLoopsWrong)

/-- 'fullinglaw8.LowerExamples': WHATEVER THE INPUT: true; the input reads as it did. -/
def lowerExamplesSpec : ChangeSpec := { name := "lowerExamples", fn := fun _ => fun
  | [] => { results := [.lit (.bool true)], args := [] }
  | _ => none }
def lowerExamplesRow : OpenClaim := { program := "ytpgnlfdindmopaagreatdoor", sum := "d3d804e3cd1acd63708d20b50b3100353be94026d166e3935b5834adb6316db1", func := "fulling/fullinglaw8.LowerExamples", spec := "lowerExamples", inPlace := ["internal/bytealg.IndexByteString"], unfollowed := true, recurses := true, named := ["fulling/lexer.longSymbols", "fulling/parser.reservedWords", "internal/strconv.uint64pow10", "math/bits.deBruijn32tab", "math/bits.deBruijn64tab", "fulling/parser.operators"], apart := false, laid := [("math/bits.deBruijn32tab", laid_math_bits_deBruijn32tab), ("math/bits.deBruijn64tab", laid_math_bits_deBruijn64tab), ("internal/strconv.uint64pow10", laid_internal_strconv_uint64pow10), ("fulling/lexer.longSymbols", laid_fulling_lexer_longSymbols), ("fulling/parser.operators", laid_fulling_parser_operators), ("fulling/parser.reservedWords", laid_fulling_parser_reservedWords)] }
def LowerExamplesSaid : Prop := lowerExamplesRow.holds Tryz.pinned (OpenSpec.ofChange lowerExamplesSpec)

/-- ITS FALSE NEIGHBOUR: 'it returns false'. Refute it at one input. -/
def lowerExamplesWrong : ChangeSpec := { name := "lowerExamples", fn := fun _ => fun
  | [] => { results := [.lit (.bool false)], args := [] }
  | _ => none }
def LowerExamplesWrongFalsely : Prop := lowerExamplesRow.holds Tryz.pinned (OpenSpec.ofChange lowerExamplesWrong)

/-- 'fullinglaw8.LowerGuards': WHATEVER THE INPUT: true; the input reads as it did. -/
def lowerGuardsSpec : ChangeSpec := { name := "lowerGuards", fn := fun _ => fun
  | [d1, d2] => { results := [.lit (.bool true)], args := [d1, d2] }
  | _ => none }
def lowerGuardsRow : OpenClaim := { program := "ytpgnlfdindmopaagreatdoor", sum := "d3d804e3cd1acd63708d20b50b3100353be94026d166e3935b5834adb6316db1", func := "fulling/fullinglaw8.LowerGuards", spec := "lowerGuards", inPlace := ["internal/bytealg.IndexByteString"], unfollowed := true, recurses := true, named := ["fulling/lexer.longSymbols", "fulling/parser.reservedWords", "internal/strconv.uint64pow10", "math/bits.deBruijn32tab", "math/bits.deBruijn64tab", "fulling/parser.operators"], apart := false, laid := [("math/bits.deBruijn32tab", laid_math_bits_deBruijn32tab), ("math/bits.deBruijn64tab", laid_math_bits_deBruijn64tab), ("internal/strconv.uint64pow10", laid_internal_strconv_uint64pow10), ("fulling/lexer.longSymbols", laid_fulling_lexer_longSymbols), ("fulling/parser.operators", laid_fulling_parser_operators), ("fulling/parser.reservedWords", laid_fulling_parser_reservedWords)] }
def LowerGuardsSaid : Prop := lowerGuardsRow.holds Tryz.pinned (OpenSpec.ofChange lowerGuardsSpec)

/-- ITS FALSE NEIGHBOUR: 'it returns false'. Refute it at one input. -/
def lowerGuardsWrong : ChangeSpec := { name := "lowerGuards", fn := fun _ => fun
  | [d1, d2] => { results := [.lit (.bool false)], args := [d1, d2] }
  | _ => none }
def LowerGuardsWrongFalsely : Prop := lowerGuardsRow.holds Tryz.pinned (OpenSpec.ofChange lowerGuardsWrong)

/- THE SECOND FORM. 'bulk': how many values and letters a reading holds, each counted each time it is reached (what is shared counts as often as it is met; a slice's spare places count too). A statement '..UptoSaid' is the law's where the arguments, and the package variables that the reading takes, are together of bulk at most 1048576: NARROWER than '..Said'. Prove '..Said' where nothing that the law and all that it calls make is longer than what came in: it says more and counts as full. Else prove '..UptoSaid'. A law counts once. -/
mutual
def uptoBulk {H : Type} : DataW H → Nat
  | .lit (.string bytes) => bytes.length + 1
  | .lit _ => 1
  | .nil => 1
  | .ptr d => uptoBulk d + 1
  | .slice elems spare => uptoBulkAll elems + uptoBulkAll spare + 1
  | .agg parts => uptoBulkAll parts + 1
  | .iface _ d => uptoBulk d + 1
  | .map entries => uptoBulkEntries entries + 1
  | .held _ => 1
def uptoBulkAll {H : Type} : List (DataW H) → Nat
  | [] => 0
  | d :: r => uptoBulk d + uptoBulkAll r
def uptoBulkEntries {H : Type} : List (Lit × DataW H) → Nat
  | [] => 0
  | x :: r => uptoBulkEntry x + uptoBulkEntries r
def uptoBulkEntry {H : Type} : Lit × DataW H → Nat
  | (.string bytes, d) => bytes.length + uptoBulk d + 1
  | (_, d) => uptoBulk d + 1
 end
def uptoSmall : (H : Type) → List (DataW H) → Bool := fun _ ds => decide (uptoBulkAll ds ≤ 1048576)
def OpenSpec.upto (s : _root_.Go.ChangeSpec) : _root_.Go.OpenSpec := { _root_.Go.OpenSpec.ofChange s with cond := some uptoSmall }

/-- 'fullinglaw6.InterpTraps', WHERE WHAT IT READS IS OF BULK AT MOST 1048576: true; the input reads as it did. -/
def interpTrapsUptoRow : OpenClaim := { program := "ytpgnlfdindmopaagreatdoor", sum := "d3d804e3cd1acd63708d20b50b3100353be94026d166e3935b5834adb6316db1", func := "fulling/fullinglaw6.InterpTraps", spec := "interpTraps", inPlace := ["internal/bytealg.IndexByteString"], unfollowed := true, recurses := true, named := ["fulling/lexer.longSymbols", "fulling/parser.reservedWords", "internal/strconv.uint64pow10", "math/bits.deBruijn32tab", "math/bits.deBruijn64tab", "fulling/parser.operators"], apart := false, laid := [("math/bits.deBruijn32tab", laid_math_bits_deBruijn32tab), ("math/bits.deBruijn64tab", laid_math_bits_deBruijn64tab), ("internal/strconv.uint64pow10", laid_internal_strconv_uint64pow10), ("fulling/lexer.longSymbols", laid_fulling_lexer_longSymbols), ("fulling/parser.operators", laid_fulling_parser_operators), ("fulling/parser.reservedWords", laid_fulling_parser_reservedWords)], narrowed := true }
def InterpTrapsUptoSaid : Prop := interpTrapsUptoRow.holds Tryz.pinned (OpenSpec.upto interpTrapsSpec)

/-- 'fullinglaw7.IRLoops', WHERE WHAT IT READS IS OF BULK AT MOST 1048576: true; the input reads as it did. -/
def iRLoopsUptoRow : OpenClaim := { program := "ytpgnlfdindmopaagreatdoor", sum := "d3d804e3cd1acd63708d20b50b3100353be94026d166e3935b5834adb6316db1", func := "fulling/fullinglaw7.IRLoops", spec := "iRLoops", inPlace := ["internal/bytealg.IndexByteString"], unfollowed := true, recurses := true, named := ["fulling/lexer.longSymbols", "fulling/parser.reservedWords", "internal/strconv.uint64pow10", "math/bits.deBruijn32tab", "math/bits.deBruijn64tab", "fulling/parser.operators"], apart := false, laid := [("math/bits.deBruijn32tab", laid_math_bits_deBruijn32tab), ("math/bits.deBruijn64tab", laid_math_bits_deBruijn64tab), ("internal/strconv.uint64pow10", laid_internal_strconv_uint64pow10), ("fulling/lexer.longSymbols", laid_fulling_lexer_longSymbols), ("fulling/parser.operators", laid_fulling_parser_operators), ("fulling/parser.reservedWords", laid_fulling_parser_reservedWords)], narrowed := true }
def IRLoopsUptoSaid : Prop := iRLoopsUptoRow.holds Tryz.pinned (OpenSpec.upto iRLoopsSpec)

/-- 'fullinglaw8.LowerExamples', WHERE WHAT IT READS IS OF BULK AT MOST 1048576: true; the input reads as it did. -/
def lowerExamplesUptoRow : OpenClaim := { program := "ytpgnlfdindmopaagreatdoor", sum := "d3d804e3cd1acd63708d20b50b3100353be94026d166e3935b5834adb6316db1", func := "fulling/fullinglaw8.LowerExamples", spec := "lowerExamples", inPlace := ["internal/bytealg.IndexByteString"], unfollowed := true, recurses := true, named := ["fulling/lexer.longSymbols", "fulling/parser.reservedWords", "internal/strconv.uint64pow10", "math/bits.deBruijn32tab", "math/bits.deBruijn64tab", "fulling/parser.operators"], apart := false, laid := [("math/bits.deBruijn32tab", laid_math_bits_deBruijn32tab), ("math/bits.deBruijn64tab", laid_math_bits_deBruijn64tab), ("internal/strconv.uint64pow10", laid_internal_strconv_uint64pow10), ("fulling/lexer.longSymbols", laid_fulling_lexer_longSymbols), ("fulling/parser.operators", laid_fulling_parser_operators), ("fulling/parser.reservedWords", laid_fulling_parser_reservedWords)], narrowed := true }
def LowerExamplesUptoSaid : Prop := lowerExamplesUptoRow.holds Tryz.pinned (OpenSpec.upto lowerExamplesSpec)

/-- 'fullinglaw8.LowerGuards', WHERE WHAT IT READS IS OF BULK AT MOST 1048576: true; the input reads as it did. -/
def lowerGuardsUptoRow : OpenClaim := { program := "ytpgnlfdindmopaagreatdoor", sum := "d3d804e3cd1acd63708d20b50b3100353be94026d166e3935b5834adb6316db1", func := "fulling/fullinglaw8.LowerGuards", spec := "lowerGuards", inPlace := ["internal/bytealg.IndexByteString"], unfollowed := true, recurses := true, named := ["fulling/lexer.longSymbols", "fulling/parser.reservedWords", "internal/strconv.uint64pow10", "math/bits.deBruijn32tab", "math/bits.deBruijn64tab", "fulling/parser.operators"], apart := false, laid := [("math/bits.deBruijn32tab", laid_math_bits_deBruijn32tab), ("math/bits.deBruijn64tab", laid_math_bits_deBruijn64tab), ("internal/strconv.uint64pow10", laid_internal_strconv_uint64pow10), ("fulling/lexer.longSymbols", laid_fulling_lexer_longSymbols), ("fulling/parser.operators", laid_fulling_parser_operators), ("fulling/parser.reservedWords", laid_fulling_parser_reservedWords)], narrowed := true }
def LowerGuardsUptoSaid : Prop := lowerGuardsUptoRow.holds Tryz.pinned (OpenSpec.upto lowerGuardsSpec)

end Rows
end Go.Proofs.YtpgnlfdindmopaaGreatDoor
