/-
  NARROWER THAN 'FOR EVERY INPUT', by the rows' own cells (each row's printed sentence says how): ParserExpressions: laid · ParserReference: laid · ParserSequence: laid · ParserTruncated: laid · CheckerLimits: laid · CheckerOrder: laid · CheckerReference: loops, laid · CheckerSingleError: laid · PrinterExamples: laid · PrinterExpressions: laid · PrinterNonempty: loops, laid · PrinterReference: loops, laid · PrinterRoundTrip: laid.
  DERIVED. THE GIVEN ROWS OF THIS SEAT. 13 by the template 'for every input the law returns true; each argument reads behind the call as it read before'; 0 by the template 'total and deterministic' (their statements: YtgiggkfnpbgkpaaGreatDoorTotals.lean).
  GIVEN WITH THE SEED: the statements are not yours to turn. If you find one false, say at which input.
  Laid BY PROGRAM, IN A SANDBOX (cutbox-rows.mjs): the forced cells as the released guide's own fill.sh prints them over the translation 1243cf07f267ddc6… (all of the seat's roots in one cut). By AI agents, Wed Nov 11 2026. No macro, syntax, notation, axiom, sorry.
-/
import Derived.Test.YtgiggkfnpbgkpaaGreatDoorChecked
import GoSem.Claim
import GoSem.ClaimJoined
import GoSem.ClaimMapViews
import Derived.JoinedTies
import Derived.KernelRfl
namespace Go.Proofs.YtgiggkfnpbgkpaaGreatDoor
/- THE CELL 'sum', in the pinned program and in every row, IS THE sha256 OF THE DUMP (.gsa) THAT YtgiggkfnpbgkpaaGreatDoorProg.lean LOADS. Nothing in Lean hashes anything: it is a label: what it is worth is what the hold of that sum in a sandbox is worth. -/
noncomputable def Tryz.pinned : Pinned := { name := "ytgiggkfnpbgkpaagreatdoor", sum := "1243cf07f267ddc6c1ced9c1d18ef031641920ca33f97daf0efbccc9de16970d", checked := Tryz.checked }
namespace Rows
def none {H : Type} : Left H := { results := [], args := [] }

/- WHAT THE LISTED PACKAGE-LEVEL VARIABLES READ AS WHEN THE CALL BEGINS. Each datum BY PROGRAM (the guide's laid-datum.mjs) off the statement by which the dump's own 'gosem.cut.vars' lays the variable. In a bare row this is a premise. The card (YtgiggkfnpbgkpaaGreatDoorCards.lean) ties it to the program's text. -/
def laid_math_bits_deBruijn32tab {H : Type} : DataW H := .agg [.lit (.int .u8 0), .lit (.int .u8 1), .lit (.int .u8 28), .lit (.int .u8 2), .lit (.int .u8 29), .lit (.int .u8 14), .lit (.int .u8 24), .lit (.int .u8 3), .lit (.int .u8 30), .lit (.int .u8 22), .lit (.int .u8 20), .lit (.int .u8 15), .lit (.int .u8 25), .lit (.int .u8 17), .lit (.int .u8 4), .lit (.int .u8 8), .lit (.int .u8 31), .lit (.int .u8 27), .lit (.int .u8 13), .lit (.int .u8 23), .lit (.int .u8 21), .lit (.int .u8 19), .lit (.int .u8 16), .lit (.int .u8 7), .lit (.int .u8 26), .lit (.int .u8 12), .lit (.int .u8 18), .lit (.int .u8 6), .lit (.int .u8 11), .lit (.int .u8 5), .lit (.int .u8 10), .lit (.int .u8 9)]
def laid_math_bits_deBruijn64tab {H : Type} : DataW H := .agg [.lit (.int .u8 0), .lit (.int .u8 1), .lit (.int .u8 56), .lit (.int .u8 2), .lit (.int .u8 57), .lit (.int .u8 49), .lit (.int .u8 28), .lit (.int .u8 3), .lit (.int .u8 61), .lit (.int .u8 58), .lit (.int .u8 42), .lit (.int .u8 50), .lit (.int .u8 38), .lit (.int .u8 29), .lit (.int .u8 17), .lit (.int .u8 4), .lit (.int .u8 62), .lit (.int .u8 47), .lit (.int .u8 59), .lit (.int .u8 36), .lit (.int .u8 45), .lit (.int .u8 43), .lit (.int .u8 51), .lit (.int .u8 22), .lit (.int .u8 53), .lit (.int .u8 39), .lit (.int .u8 33), .lit (.int .u8 30), .lit (.int .u8 24), .lit (.int .u8 18), .lit (.int .u8 12), .lit (.int .u8 5), .lit (.int .u8 63), .lit (.int .u8 55), .lit (.int .u8 48), .lit (.int .u8 27), .lit (.int .u8 60), .lit (.int .u8 41), .lit (.int .u8 37), .lit (.int .u8 16), .lit (.int .u8 46), .lit (.int .u8 35), .lit (.int .u8 44), .lit (.int .u8 21), .lit (.int .u8 52), .lit (.int .u8 32), .lit (.int .u8 23), .lit (.int .u8 11), .lit (.int .u8 54), .lit (.int .u8 26), .lit (.int .u8 40), .lit (.int .u8 15), .lit (.int .u8 34), .lit (.int .u8 20), .lit (.int .u8 31), .lit (.int .u8 10), .lit (.int .u8 25), .lit (.int .u8 14), .lit (.int .u8 19), .lit (.int .u8 9), .lit (.int .u8 13), .lit (.int .u8 8), .lit (.int .u8 7), .lit (.int .u8 6)]
def laid_internal_strconv_uint64pow10 {H : Type} : DataW H := .agg [.lit (.int .u64 1), .lit (.int .u64 10), .lit (.int .u64 100), .lit (.int .u64 1000), .lit (.int .u64 10000), .lit (.int .u64 100000), .lit (.int .u64 1000000), .lit (.int .u64 10000000), .lit (.int .u64 100000000), .lit (.int .u64 1000000000), .lit (.int .u64 10000000000), .lit (.int .u64 100000000000), .lit (.int .u64 1000000000000), .lit (.int .u64 10000000000000), .lit (.int .u64 100000000000000), .lit (.int .u64 1000000000000000), .lit (.int .u64 10000000000000000), .lit (.int .u64 100000000000000000), .lit (.int .u64 1000000000000000000), .lit (.int .u64 10000000000000000000)]
def laid_fulling_lexer_longSymbols {H : Type} : DataW H := .agg [.lit (.string [62, 62, 62]), .lit (.string [60, 60]), .lit (.string [62, 62]), .lit (.string [60, 61]), .lit (.string [62, 61]), .lit (.string [61, 61]), .lit (.string [33, 61])]
def laid_fulling_parser_operators {H : Type} : DataW H := .agg [.agg [.lit (.string [124]), .lit (.int .i64 1), .lit (.int .i64 10), .lit (.bool false)], .agg [.lit (.string [94]), .lit (.int .i64 2), .lit (.int .i64 11), .lit (.bool false)], .agg [.lit (.string [38]), .lit (.int .i64 3), .lit (.int .i64 9), .lit (.bool false)], .agg [.lit (.string [61, 61]), .lit (.int .i64 4), .lit (.int .i64 15), .lit (.bool false)], .agg [.lit (.string [33, 61]), .lit (.int .i64 4), .lit (.int .i64 16), .lit (.bool false)], .agg [.lit (.string [60]), .lit (.int .i64 5), .lit (.int .i64 17), .lit (.bool false)], .agg [.lit (.string [60, 61]), .lit (.int .i64 5), .lit (.int .i64 18), .lit (.bool false)], .agg [.lit (.string [62]), .lit (.int .i64 5), .lit (.int .i64 17), .lit (.bool true)], .agg [.lit (.string [62, 61]), .lit (.int .i64 5), .lit (.int .i64 18), .lit (.bool true)], .agg [.lit (.string [60, 60]), .lit (.int .i64 6), .lit (.int .i64 12), .lit (.bool false)], .agg [.lit (.string [62, 62]), .lit (.int .i64 6), .lit (.int .i64 14), .lit (.bool false)], .agg [.lit (.string [62, 62, 62]), .lit (.int .i64 6), .lit (.int .i64 13), .lit (.bool false)], .agg [.lit (.string [43]), .lit (.int .i64 7), .lit (.int .i64 4), .lit (.bool false)], .agg [.lit (.string [45]), .lit (.int .i64 7), .lit (.int .i64 5), .lit (.bool false)], .agg [.lit (.string [42]), .lit (.int .i64 8), .lit (.int .i64 6), .lit (.bool false)], .agg [.lit (.string [47]), .lit (.int .i64 8), .lit (.int .i64 7), .lit (.bool false)], .agg [.lit (.string [37]), .lit (.int .i64 8), .lit (.int .i64 8), .lit (.bool false)]]
def laid_fulling_parser_reservedWords {H : Type} : DataW H := .agg [.lit (.string [97, 114, 114, 97, 121]), .lit (.string [102, 117, 110, 99]), .lit (.string [118, 97, 114]), .lit (.string [114, 101, 116, 117, 114, 110]), .lit (.string [105, 102]), .lit (.string [101, 108, 115, 101]), .lit (.string [119, 104, 105, 108, 101]), .lit (.string [111, 117, 116]), .lit (.string [116, 114, 97, 112])]
def laid_fulling_printer_operatorTexts {H : Type} : DataW H := .agg [.lit (.string []), .lit (.string []), .lit (.string []), .lit (.string []), .lit (.string [43]), .lit (.string [45]), .lit (.string [42]), .lit (.string [47]), .lit (.string [37]), .lit (.string [38]), .lit (.string [124]), .lit (.string [94]), .lit (.string [60, 60]), .lit (.string [62, 62, 62]), .lit (.string [62, 62]), .lit (.string [61, 61]), .lit (.string [33, 61]), .lit (.string [60]), .lit (.string [60, 61]), .lit (.string []), .lit (.string [45]), .lit (.string [126])]

/-- 'fullinglaw3.ParserExpressions': WHATEVER THE INPUT: true; the input reads as it did. -/
def parserExpressionsSpec : ChangeSpec := { name := "parserExpressions", fn := fun _ => fun
  | [d] => { results := [.lit (.bool true)], args := [d] }
  | _ => none }
def parserExpressionsRow : OpenClaim := { program := "ytgiggkfnpbgkpaagreatdoor", sum := "1243cf07f267ddc6c1ced9c1d18ef031641920ca33f97daf0efbccc9de16970d", func := "fulling/fullinglaw3.ParserExpressions", spec := "parserExpressions", inPlace := ["internal/bytealg.IndexByteString"], unfollowed := true, recurses := true, named := ["fulling/lexer.longSymbols", "fulling/parser.reservedWords", "internal/strconv.uint64pow10", "math/bits.deBruijn32tab", "math/bits.deBruijn64tab", "fulling/parser.operators"], apart := false, laid := [("math/bits.deBruijn32tab", laid_math_bits_deBruijn32tab), ("math/bits.deBruijn64tab", laid_math_bits_deBruijn64tab), ("internal/strconv.uint64pow10", laid_internal_strconv_uint64pow10), ("fulling/lexer.longSymbols", laid_fulling_lexer_longSymbols), ("fulling/parser.operators", laid_fulling_parser_operators), ("fulling/parser.reservedWords", laid_fulling_parser_reservedWords)] }
def ParserExpressionsSaid : Prop := parserExpressionsRow.holds Tryz.pinned (OpenSpec.ofChange parserExpressionsSpec)

/-- ITS FALSE NEIGHBOUR: 'it returns false'. Refute it at one input. -/
def parserExpressionsWrong : ChangeSpec := { name := "parserExpressions", fn := fun _ => fun
  | [d] => { results := [.lit (.bool false)], args := [d] }
  | _ => none }
def ParserExpressionsWrongFalsely : Prop := parserExpressionsRow.holds Tryz.pinned (OpenSpec.ofChange parserExpressionsWrong)

/-- 'fullinglaw3.ParserReference': WHATEVER THE INPUT: true; the input reads as it did. -/
def parserReferenceSpec : ChangeSpec := { name := "parserReference", fn := fun _ => fun
  | [d1, d2, d3, d4] => { results := [.lit (.bool true)], args := [d1, d2, d3, d4] }
  | _ => none }
def parserReferenceRow : OpenClaim := { program := "ytgiggkfnpbgkpaagreatdoor", sum := "1243cf07f267ddc6c1ced9c1d18ef031641920ca33f97daf0efbccc9de16970d", func := "fulling/fullinglaw3.ParserReference", spec := "parserReference", inPlace := ["internal/bytealg.IndexByteString"], unfollowed := true, recurses := true, named := ["fulling/lexer.longSymbols", "fulling/parser.reservedWords", "internal/strconv.uint64pow10", "math/bits.deBruijn32tab", "math/bits.deBruijn64tab", "fulling/parser.operators"], apart := false, laid := [("math/bits.deBruijn32tab", laid_math_bits_deBruijn32tab), ("math/bits.deBruijn64tab", laid_math_bits_deBruijn64tab), ("internal/strconv.uint64pow10", laid_internal_strconv_uint64pow10), ("fulling/lexer.longSymbols", laid_fulling_lexer_longSymbols), ("fulling/parser.operators", laid_fulling_parser_operators), ("fulling/parser.reservedWords", laid_fulling_parser_reservedWords)] }
def ParserReferenceSaid : Prop := parserReferenceRow.holds Tryz.pinned (OpenSpec.ofChange parserReferenceSpec)

/-- ITS FALSE NEIGHBOUR: 'it returns false'. Refute it at one input. -/
def parserReferenceWrong : ChangeSpec := { name := "parserReference", fn := fun _ => fun
  | [d1, d2, d3, d4] => { results := [.lit (.bool false)], args := [d1, d2, d3, d4] }
  | _ => none }
def ParserReferenceWrongFalsely : Prop := parserReferenceRow.holds Tryz.pinned (OpenSpec.ofChange parserReferenceWrong)

/-- 'fullinglaw3.ParserSequence': WHATEVER THE INPUT: true; the input reads as it did. -/
def parserSequenceSpec : ChangeSpec := { name := "parserSequence", fn := fun _ => fun
  | [d1, d2] => { results := [.lit (.bool true)], args := [d1, d2] }
  | _ => none }
def parserSequenceRow : OpenClaim := { program := "ytgiggkfnpbgkpaagreatdoor", sum := "1243cf07f267ddc6c1ced9c1d18ef031641920ca33f97daf0efbccc9de16970d", func := "fulling/fullinglaw3.ParserSequence", spec := "parserSequence", inPlace := ["internal/bytealg.IndexByteString"], unfollowed := true, recurses := true, named := ["fulling/lexer.longSymbols", "fulling/parser.reservedWords", "internal/strconv.uint64pow10", "math/bits.deBruijn32tab", "math/bits.deBruijn64tab", "fulling/parser.operators"], apart := false, laid := [("math/bits.deBruijn32tab", laid_math_bits_deBruijn32tab), ("math/bits.deBruijn64tab", laid_math_bits_deBruijn64tab), ("internal/strconv.uint64pow10", laid_internal_strconv_uint64pow10), ("fulling/lexer.longSymbols", laid_fulling_lexer_longSymbols), ("fulling/parser.operators", laid_fulling_parser_operators), ("fulling/parser.reservedWords", laid_fulling_parser_reservedWords)] }
def ParserSequenceSaid : Prop := parserSequenceRow.holds Tryz.pinned (OpenSpec.ofChange parserSequenceSpec)

/-- ITS FALSE NEIGHBOUR: 'it returns false'. Refute it at one input. -/
def parserSequenceWrong : ChangeSpec := { name := "parserSequence", fn := fun _ => fun
  | [d1, d2] => { results := [.lit (.bool false)], args := [d1, d2] }
  | _ => none }
def ParserSequenceWrongFalsely : Prop := parserSequenceRow.holds Tryz.pinned (OpenSpec.ofChange parserSequenceWrong)

/-- 'fullinglaw3.ParserTruncated': WHATEVER THE INPUT: true; the input reads as it did. -/
def parserTruncatedSpec : ChangeSpec := { name := "parserTruncated", fn := fun _ => fun
  | [d1, d2] => { results := [.lit (.bool true)], args := [d1, d2] }
  | _ => none }
def parserTruncatedRow : OpenClaim := { program := "ytgiggkfnpbgkpaagreatdoor", sum := "1243cf07f267ddc6c1ced9c1d18ef031641920ca33f97daf0efbccc9de16970d", func := "fulling/fullinglaw3.ParserTruncated", spec := "parserTruncated", inPlace := ["internal/bytealg.IndexByteString"], unfollowed := true, recurses := true, named := ["fulling/lexer.longSymbols", "fulling/parser.reservedWords", "internal/strconv.uint64pow10", "math/bits.deBruijn32tab", "math/bits.deBruijn64tab", "fulling/parser.operators"], apart := false, laid := [("math/bits.deBruijn32tab", laid_math_bits_deBruijn32tab), ("math/bits.deBruijn64tab", laid_math_bits_deBruijn64tab), ("internal/strconv.uint64pow10", laid_internal_strconv_uint64pow10), ("fulling/lexer.longSymbols", laid_fulling_lexer_longSymbols), ("fulling/parser.operators", laid_fulling_parser_operators), ("fulling/parser.reservedWords", laid_fulling_parser_reservedWords)] }
def ParserTruncatedSaid : Prop := parserTruncatedRow.holds Tryz.pinned (OpenSpec.ofChange parserTruncatedSpec)

/-- ITS FALSE NEIGHBOUR: 'it returns false'. Refute it at one input. -/
def parserTruncatedWrong : ChangeSpec := { name := "parserTruncated", fn := fun _ => fun
  | [d1, d2] => { results := [.lit (.bool false)], args := [d1, d2] }
  | _ => none }
def ParserTruncatedWrongFalsely : Prop := parserTruncatedRow.holds Tryz.pinned (OpenSpec.ofChange parserTruncatedWrong)

/-- 'fullinglaw4.CheckerLimits': WHATEVER THE INPUT: true; the input reads as it did. -/
def checkerLimitsSpec : ChangeSpec := { name := "checkerLimits", fn := fun _ => fun
  | [d1, d2] => { results := [.lit (.bool true)], args := [d1, d2] }
  | _ => none }
def checkerLimitsRow : OpenClaim := { program := "ytgiggkfnpbgkpaagreatdoor", sum := "1243cf07f267ddc6c1ced9c1d18ef031641920ca33f97daf0efbccc9de16970d", func := "fulling/fullinglaw4.CheckerLimits", spec := "checkerLimits", inPlace := ["internal/bytealg.IndexByteString"], unfollowed := true, recurses := true, named := ["fulling/lexer.longSymbols", "fulling/parser.reservedWords", "internal/strconv.uint64pow10", "math/bits.deBruijn32tab", "math/bits.deBruijn64tab", "fulling/parser.operators"], apart := false, laid := [("math/bits.deBruijn32tab", laid_math_bits_deBruijn32tab), ("math/bits.deBruijn64tab", laid_math_bits_deBruijn64tab), ("internal/strconv.uint64pow10", laid_internal_strconv_uint64pow10), ("fulling/lexer.longSymbols", laid_fulling_lexer_longSymbols), ("fulling/parser.operators", laid_fulling_parser_operators), ("fulling/parser.reservedWords", laid_fulling_parser_reservedWords)] }
def CheckerLimitsSaid : Prop := checkerLimitsRow.holds Tryz.pinned (OpenSpec.ofChange checkerLimitsSpec)

/-- ITS FALSE NEIGHBOUR: 'it returns false'. Refute it at one input. -/
def checkerLimitsWrong : ChangeSpec := { name := "checkerLimits", fn := fun _ => fun
  | [d1, d2] => { results := [.lit (.bool false)], args := [d1, d2] }
  | _ => none }
def CheckerLimitsWrongFalsely : Prop := checkerLimitsRow.holds Tryz.pinned (OpenSpec.ofChange checkerLimitsWrong)

/-- 'fullinglaw4.CheckerOrder': WHATEVER THE INPUT: true; the input reads as it did. -/
def checkerOrderSpec : ChangeSpec := { name := "checkerOrder", fn := fun _ => fun
  | [d1, d2, d3] => { results := [.lit (.bool true)], args := [d1, d2, d3] }
  | _ => none }
def checkerOrderRow : OpenClaim := { program := "ytgiggkfnpbgkpaagreatdoor", sum := "1243cf07f267ddc6c1ced9c1d18ef031641920ca33f97daf0efbccc9de16970d", func := "fulling/fullinglaw4.CheckerOrder", spec := "checkerOrder", inPlace := ["internal/bytealg.IndexByteString"], unfollowed := true, recurses := true, named := ["fulling/lexer.longSymbols", "fulling/parser.reservedWords", "internal/strconv.uint64pow10", "math/bits.deBruijn32tab", "math/bits.deBruijn64tab", "fulling/parser.operators"], apart := false, laid := [("math/bits.deBruijn32tab", laid_math_bits_deBruijn32tab), ("math/bits.deBruijn64tab", laid_math_bits_deBruijn64tab), ("internal/strconv.uint64pow10", laid_internal_strconv_uint64pow10), ("fulling/lexer.longSymbols", laid_fulling_lexer_longSymbols), ("fulling/parser.operators", laid_fulling_parser_operators), ("fulling/parser.reservedWords", laid_fulling_parser_reservedWords)] }
def CheckerOrderSaid : Prop := checkerOrderRow.holds Tryz.pinned (OpenSpec.ofChange checkerOrderSpec)

/-- ITS FALSE NEIGHBOUR: 'it returns false'. Refute it at one input. -/
def checkerOrderWrong : ChangeSpec := { name := "checkerOrder", fn := fun _ => fun
  | [d1, d2, d3] => { results := [.lit (.bool false)], args := [d1, d2, d3] }
  | _ => none }
def CheckerOrderWrongFalsely : Prop := checkerOrderRow.holds Tryz.pinned (OpenSpec.ofChange checkerOrderWrong)

/-- 'fullinglaw4.CheckerReference': WHATEVER THE INPUT: true; the input reads as it did. -/
def checkerReferenceSpec : ChangeSpec := { name := "checkerReference", fn := fun _ => fun
  | [d1, d2, d3, d4] => { results := [.lit (.bool true)], args := [d1, d2, d3, d4] }
  | _ => none }
def checkerReferenceRow : OpenClaim := { program := "ytgiggkfnpbgkpaagreatdoor", sum := "1243cf07f267ddc6c1ced9c1d18ef031641920ca33f97daf0efbccc9de16970d", func := "fulling/fullinglaw4.CheckerReference", spec := "checkerReference", inPlace := ["internal/bytealg.IndexByteString"], unfollowed := true, recurses := true, named := ["fulling/lexer.longSymbols", "fulling/parser.reservedWords", "internal/strconv.uint64pow10", "math/bits.deBruijn32tab", "math/bits.deBruijn64tab", "fulling/parser.operators"], loops := true, apart := false, laid := [("math/bits.deBruijn32tab", laid_math_bits_deBruijn32tab), ("math/bits.deBruijn64tab", laid_math_bits_deBruijn64tab), ("internal/strconv.uint64pow10", laid_internal_strconv_uint64pow10), ("fulling/lexer.longSymbols", laid_fulling_lexer_longSymbols), ("fulling/parser.operators", laid_fulling_parser_operators), ("fulling/parser.reservedWords", laid_fulling_parser_reservedWords)] }
def CheckerReferenceSaid : Prop := checkerReferenceRow.holds Tryz.pinned (OpenSpec.ofChange checkerReferenceSpec)

/-- ITS FALSE NEIGHBOUR: 'it returns false'. Refute it at one input. -/
def checkerReferenceWrong : ChangeSpec := { name := "checkerReference", fn := fun _ => fun
  | [d1, d2, d3, d4] => { results := [.lit (.bool false)], args := [d1, d2, d3, d4] }
  | _ => none }
def CheckerReferenceWrongFalsely : Prop := checkerReferenceRow.holds Tryz.pinned (OpenSpec.ofChange checkerReferenceWrong)

/-- 'fullinglaw4.CheckerSingleError': WHATEVER THE INPUT: true; the input reads as it did. -/
def checkerSingleErrorSpec : ChangeSpec := { name := "checkerSingleError", fn := fun _ => fun
  | [d1, d2] => { results := [.lit (.bool true)], args := [d1, d2] }
  | _ => none }
def checkerSingleErrorRow : OpenClaim := { program := "ytgiggkfnpbgkpaagreatdoor", sum := "1243cf07f267ddc6c1ced9c1d18ef031641920ca33f97daf0efbccc9de16970d", func := "fulling/fullinglaw4.CheckerSingleError", spec := "checkerSingleError", inPlace := ["internal/bytealg.IndexByteString"], unfollowed := true, recurses := true, named := ["fulling/lexer.longSymbols", "fulling/parser.reservedWords", "internal/strconv.uint64pow10", "math/bits.deBruijn32tab", "math/bits.deBruijn64tab", "fulling/parser.operators"], apart := false, laid := [("math/bits.deBruijn32tab", laid_math_bits_deBruijn32tab), ("math/bits.deBruijn64tab", laid_math_bits_deBruijn64tab), ("internal/strconv.uint64pow10", laid_internal_strconv_uint64pow10), ("fulling/lexer.longSymbols", laid_fulling_lexer_longSymbols), ("fulling/parser.operators", laid_fulling_parser_operators), ("fulling/parser.reservedWords", laid_fulling_parser_reservedWords)] }
def CheckerSingleErrorSaid : Prop := checkerSingleErrorRow.holds Tryz.pinned (OpenSpec.ofChange checkerSingleErrorSpec)

/-- ITS FALSE NEIGHBOUR: 'it returns false'. Refute it at one input. -/
def checkerSingleErrorWrong : ChangeSpec := { name := "checkerSingleError", fn := fun _ => fun
  | [d1, d2] => { results := [.lit (.bool false)], args := [d1, d2] }
  | _ => none }
def CheckerSingleErrorWrongFalsely : Prop := checkerSingleErrorRow.holds Tryz.pinned (OpenSpec.ofChange checkerSingleErrorWrong)

/-- 'fullinglaw5.PrinterExamples': WHATEVER THE INPUT: true; the input reads as it did. -/
def printerExamplesSpec : ChangeSpec := { name := "printerExamples", fn := fun _ => fun
  | [] => { results := [.lit (.bool true)], args := [] }
  | _ => none }
def printerExamplesRow : OpenClaim := { program := "ytgiggkfnpbgkpaagreatdoor", sum := "1243cf07f267ddc6c1ced9c1d18ef031641920ca33f97daf0efbccc9de16970d", func := "fulling/fullinglaw5.PrinterExamples", spec := "printerExamples", inPlace := ["internal/bytealg.IndexByteString", "internal/abi.NoEscape", "internal/bytealg.MakeNoZero"], unfollowed := true, recurses := true, named := ["fulling/lexer.longSymbols", "fulling/parser.reservedWords", "internal/strconv.uint64pow10", "math/bits.deBruijn32tab", "math/bits.deBruijn64tab", "fulling/parser.operators", "fulling/printer.operatorTexts"], apart := false, laid := [("math/bits.deBruijn32tab", laid_math_bits_deBruijn32tab), ("math/bits.deBruijn64tab", laid_math_bits_deBruijn64tab), ("internal/strconv.uint64pow10", laid_internal_strconv_uint64pow10), ("fulling/lexer.longSymbols", laid_fulling_lexer_longSymbols), ("fulling/parser.operators", laid_fulling_parser_operators), ("fulling/parser.reservedWords", laid_fulling_parser_reservedWords), ("fulling/printer.operatorTexts", laid_fulling_printer_operatorTexts)] }
def PrinterExamplesSaid : Prop := printerExamplesRow.holds Tryz.pinned (OpenSpec.ofChange printerExamplesSpec)

/-- ITS FALSE NEIGHBOUR: 'it returns false'. Refute it at one input. -/
def printerExamplesWrong : ChangeSpec := { name := "printerExamples", fn := fun _ => fun
  | [] => { results := [.lit (.bool false)], args := [] }
  | _ => none }
def PrinterExamplesWrongFalsely : Prop := printerExamplesRow.holds Tryz.pinned (OpenSpec.ofChange printerExamplesWrong)

/-- 'fullinglaw5.PrinterExpressions': WHATEVER THE INPUT: true; the input reads as it did. -/
def printerExpressionsSpec : ChangeSpec := { name := "printerExpressions", fn := fun _ => fun
  | [d] => { results := [.lit (.bool true)], args := [d] }
  | _ => none }
def printerExpressionsRow : OpenClaim := { program := "ytgiggkfnpbgkpaagreatdoor", sum := "1243cf07f267ddc6c1ced9c1d18ef031641920ca33f97daf0efbccc9de16970d", func := "fulling/fullinglaw5.PrinterExpressions", spec := "printerExpressions", inPlace := ["internal/bytealg.IndexByteString", "internal/abi.NoEscape", "internal/bytealg.MakeNoZero"], unfollowed := true, recurses := true, named := ["fulling/lexer.longSymbols", "fulling/parser.reservedWords", "internal/strconv.uint64pow10", "math/bits.deBruijn32tab", "math/bits.deBruijn64tab", "fulling/parser.operators", "fulling/printer.operatorTexts"], apart := false, laid := [("math/bits.deBruijn32tab", laid_math_bits_deBruijn32tab), ("math/bits.deBruijn64tab", laid_math_bits_deBruijn64tab), ("internal/strconv.uint64pow10", laid_internal_strconv_uint64pow10), ("fulling/lexer.longSymbols", laid_fulling_lexer_longSymbols), ("fulling/parser.operators", laid_fulling_parser_operators), ("fulling/parser.reservedWords", laid_fulling_parser_reservedWords), ("fulling/printer.operatorTexts", laid_fulling_printer_operatorTexts)] }
def PrinterExpressionsSaid : Prop := printerExpressionsRow.holds Tryz.pinned (OpenSpec.ofChange printerExpressionsSpec)

/-- ITS FALSE NEIGHBOUR: 'it returns false'. Refute it at one input. -/
def printerExpressionsWrong : ChangeSpec := { name := "printerExpressions", fn := fun _ => fun
  | [d] => { results := [.lit (.bool false)], args := [d] }
  | _ => none }
def PrinterExpressionsWrongFalsely : Prop := printerExpressionsRow.holds Tryz.pinned (OpenSpec.ofChange printerExpressionsWrong)

/-- 'fullinglaw5.PrinterNonempty': WHATEVER THE INPUT: true; the input reads as it did. -/
def printerNonemptySpec : ChangeSpec := { name := "printerNonempty", fn := fun _ => fun
  | [d1, d2, d3, d4] => { results := [.lit (.bool true)], args := [d1, d2, d3, d4] }
  | _ => none }
def printerNonemptyRow : OpenClaim := { program := "ytgiggkfnpbgkpaagreatdoor", sum := "1243cf07f267ddc6c1ced9c1d18ef031641920ca33f97daf0efbccc9de16970d", func := "fulling/fullinglaw5.PrinterNonempty", spec := "printerNonempty", inPlace := ["internal/bytealg.IndexByteString", "internal/abi.NoEscape", "internal/bytealg.MakeNoZero"], unfollowed := true, recurses := true, named := ["fulling/lexer.longSymbols", "fulling/parser.reservedWords", "internal/strconv.uint64pow10", "math/bits.deBruijn32tab", "math/bits.deBruijn64tab", "fulling/parser.operators", "fulling/printer.operatorTexts"], loops := true, apart := false, laid := [("math/bits.deBruijn32tab", laid_math_bits_deBruijn32tab), ("math/bits.deBruijn64tab", laid_math_bits_deBruijn64tab), ("internal/strconv.uint64pow10", laid_internal_strconv_uint64pow10), ("fulling/lexer.longSymbols", laid_fulling_lexer_longSymbols), ("fulling/parser.operators", laid_fulling_parser_operators), ("fulling/parser.reservedWords", laid_fulling_parser_reservedWords), ("fulling/printer.operatorTexts", laid_fulling_printer_operatorTexts)] }
def PrinterNonemptySaid : Prop := printerNonemptyRow.holds Tryz.pinned (OpenSpec.ofChange printerNonemptySpec)

/-- ITS FALSE NEIGHBOUR: 'it returns false'. Refute it at one input. -/
def printerNonemptyWrong : ChangeSpec := { name := "printerNonempty", fn := fun _ => fun
  | [d1, d2, d3, d4] => { results := [.lit (.bool false)], args := [d1, d2, d3, d4] }
  | _ => none }
def PrinterNonemptyWrongFalsely : Prop := printerNonemptyRow.holds Tryz.pinned (OpenSpec.ofChange printerNonemptyWrong)

/-- 'fullinglaw5.PrinterReference': WHATEVER THE INPUT: true; the input reads as it did. -/
def printerReferenceSpec : ChangeSpec := { name := "printerReference", fn := fun _ => fun
  | [d1, d2, d3, d4] => { results := [.lit (.bool true)], args := [d1, d2, d3, d4] }
  | _ => none }
def printerReferenceRow : OpenClaim := { program := "ytgiggkfnpbgkpaagreatdoor", sum := "1243cf07f267ddc6c1ced9c1d18ef031641920ca33f97daf0efbccc9de16970d", func := "fulling/fullinglaw5.PrinterReference", spec := "printerReference", inPlace := ["internal/bytealg.IndexByteString", "internal/abi.NoEscape", "internal/bytealg.MakeNoZero"], unfollowed := true, recurses := true, named := ["fulling/lexer.longSymbols", "fulling/parser.reservedWords", "internal/strconv.uint64pow10", "math/bits.deBruijn32tab", "math/bits.deBruijn64tab", "fulling/parser.operators", "fulling/printer.operatorTexts"], loops := true, apart := false, laid := [("math/bits.deBruijn32tab", laid_math_bits_deBruijn32tab), ("math/bits.deBruijn64tab", laid_math_bits_deBruijn64tab), ("internal/strconv.uint64pow10", laid_internal_strconv_uint64pow10), ("fulling/lexer.longSymbols", laid_fulling_lexer_longSymbols), ("fulling/parser.operators", laid_fulling_parser_operators), ("fulling/parser.reservedWords", laid_fulling_parser_reservedWords), ("fulling/printer.operatorTexts", laid_fulling_printer_operatorTexts)] }
def PrinterReferenceSaid : Prop := printerReferenceRow.holds Tryz.pinned (OpenSpec.ofChange printerReferenceSpec)

/-- ITS FALSE NEIGHBOUR: 'it returns false'. Refute it at one input. -/
def printerReferenceWrong : ChangeSpec := { name := "printerReference", fn := fun _ => fun
  | [d1, d2, d3, d4] => { results := [.lit (.bool false)], args := [d1, d2, d3, d4] }
  | _ => none }
def PrinterReferenceWrongFalsely : Prop := printerReferenceRow.holds Tryz.pinned (OpenSpec.ofChange printerReferenceWrong)

/-- 'fullinglaw5.PrinterRoundTrip': WHATEVER THE INPUT: true; the input reads as it did. -/
def printerRoundTripSpec : ChangeSpec := { name := "printerRoundTrip", fn := fun _ => fun
  | [d1, d2, d3, d4] => { results := [.lit (.bool true)], args := [d1, d2, d3, d4] }
  | _ => none }
def printerRoundTripRow : OpenClaim := { program := "ytgiggkfnpbgkpaagreatdoor", sum := "1243cf07f267ddc6c1ced9c1d18ef031641920ca33f97daf0efbccc9de16970d", func := "fulling/fullinglaw5.PrinterRoundTrip", spec := "printerRoundTrip", inPlace := ["internal/bytealg.IndexByteString", "internal/abi.NoEscape", "internal/bytealg.MakeNoZero"], unfollowed := true, recurses := true, named := ["fulling/lexer.longSymbols", "fulling/parser.reservedWords", "internal/strconv.uint64pow10", "math/bits.deBruijn32tab", "math/bits.deBruijn64tab", "fulling/parser.operators", "fulling/printer.operatorTexts"], apart := false, laid := [("math/bits.deBruijn32tab", laid_math_bits_deBruijn32tab), ("math/bits.deBruijn64tab", laid_math_bits_deBruijn64tab), ("internal/strconv.uint64pow10", laid_internal_strconv_uint64pow10), ("fulling/lexer.longSymbols", laid_fulling_lexer_longSymbols), ("fulling/parser.operators", laid_fulling_parser_operators), ("fulling/parser.reservedWords", laid_fulling_parser_reservedWords), ("fulling/printer.operatorTexts", laid_fulling_printer_operatorTexts)] }
def PrinterRoundTripSaid : Prop := printerRoundTripRow.holds Tryz.pinned (OpenSpec.ofChange printerRoundTripSpec)

/-- ITS FALSE NEIGHBOUR: 'it returns false'. Refute it at one input. -/
def printerRoundTripWrong : ChangeSpec := { name := "printerRoundTrip", fn := fun _ => fun
  | [d1, d2, d3, d4] => { results := [.lit (.bool false)], args := [d1, d2, d3, d4] }
  | _ => none }
def PrinterRoundTripWrongFalsely : Prop := printerRoundTripRow.holds Tryz.pinned (OpenSpec.ofChange printerRoundTripWrong)

/- THE SECOND FORM. 'bulk': how many values and letters a reading holds, each counted each time it is reached (what is shared counts as often as it is met; a slice's spare places count too). A statement '..UptoSaid' is the law's where the arguments, and the package variables that the reading takes, are together of bulk at most 1048576: NARROWER than '..Said'. Prove '..Said' where nothing that the law and all that it calls make is longer than what came in: it says more and counts as full. Else prove '..UptoSaid'. A law counts once. -/
mutual
def uptoBulk {H : Type} : DataW H → Nat
  | .lit (.string bytes) => bytes.length + 1
  | .lit _ => 1
  | .nil => 1
  | .ptr d => uptoBulk d + 1
  | .slice elems spare => uptoBulkAll elems + uptoBulkAll spare + 1
  | .agg parts => uptoBulkAll parts + 1
  | .iface _ d => uptoBulk d + 1
  | .map entries => uptoBulkEntries entries + 1
  | .held _ => 1
def uptoBulkAll {H : Type} : List (DataW H) → Nat
  | [] => 0
  | d :: r => uptoBulk d + uptoBulkAll r
def uptoBulkEntries {H : Type} : List (Lit × DataW H) → Nat
  | [] => 0
  | x :: r => uptoBulkEntry x + uptoBulkEntries r
def uptoBulkEntry {H : Type} : Lit × DataW H → Nat
  | (.string bytes, d) => bytes.length + uptoBulk d + 1
  | (_, d) => uptoBulk d + 1
 end
def uptoSmall : (H : Type) → List (DataW H) → Bool := fun _ ds => decide (uptoBulkAll ds ≤ 1048576)
def OpenSpec.upto (s : _root_.Go.ChangeSpec) : _root_.Go.OpenSpec := { _root_.Go.OpenSpec.ofChange s with cond := some uptoSmall }

/-- 'fullinglaw3.ParserExpressions', WHERE WHAT IT READS IS OF BULK AT MOST 1048576: true; the input reads as it did. -/
def parserExpressionsUptoRow : OpenClaim := { program := "ytgiggkfnpbgkpaagreatdoor", sum := "1243cf07f267ddc6c1ced9c1d18ef031641920ca33f97daf0efbccc9de16970d", func := "fulling/fullinglaw3.ParserExpressions", spec := "parserExpressions", inPlace := ["internal/bytealg.IndexByteString"], unfollowed := true, recurses := true, named := ["fulling/lexer.longSymbols", "fulling/parser.reservedWords", "internal/strconv.uint64pow10", "math/bits.deBruijn32tab", "math/bits.deBruijn64tab", "fulling/parser.operators"], apart := false, laid := [("math/bits.deBruijn32tab", laid_math_bits_deBruijn32tab), ("math/bits.deBruijn64tab", laid_math_bits_deBruijn64tab), ("internal/strconv.uint64pow10", laid_internal_strconv_uint64pow10), ("fulling/lexer.longSymbols", laid_fulling_lexer_longSymbols), ("fulling/parser.operators", laid_fulling_parser_operators), ("fulling/parser.reservedWords", laid_fulling_parser_reservedWords)], narrowed := true }
def ParserExpressionsUptoSaid : Prop := parserExpressionsUptoRow.holds Tryz.pinned (OpenSpec.upto parserExpressionsSpec)

/-- 'fullinglaw3.ParserReference', WHERE WHAT IT READS IS OF BULK AT MOST 1048576: true; the input reads as it did. -/
def parserReferenceUptoRow : OpenClaim := { program := "ytgiggkfnpbgkpaagreatdoor", sum := "1243cf07f267ddc6c1ced9c1d18ef031641920ca33f97daf0efbccc9de16970d", func := "fulling/fullinglaw3.ParserReference", spec := "parserReference", inPlace := ["internal/bytealg.IndexByteString"], unfollowed := true, recurses := true, named := ["fulling/lexer.longSymbols", "fulling/parser.reservedWords", "internal/strconv.uint64pow10", "math/bits.deBruijn32tab", "math/bits.deBruijn64tab", "fulling/parser.operators"], apart := false, laid := [("math/bits.deBruijn32tab", laid_math_bits_deBruijn32tab), ("math/bits.deBruijn64tab", laid_math_bits_deBruijn64tab), ("internal/strconv.uint64pow10", laid_internal_strconv_uint64pow10), ("fulling/lexer.longSymbols", laid_fulling_lexer_longSymbols), ("fulling/parser.operators", laid_fulling_parser_operators), ("fulling/parser.reservedWords", laid_fulling_parser_reservedWords)], narrowed := true }
def ParserReferenceUptoSaid : Prop := parserReferenceUptoRow.holds Tryz.pinned (OpenSpec.upto parserReferenceSpec)

/-- 'fullinglaw3.ParserSequence', WHERE WHAT IT READS IS OF BULK AT MOST 1048576: true; the input reads as it did. -/
def parserSequenceUptoRow : OpenClaim := { program := "ytgiggkfnpbgkpaagreatdoor", sum := "1243cf07f267ddc6c1ced9c1d18ef031641920ca33f97daf0efbccc9de16970d", func := "fulling/fullinglaw3.ParserSequence", spec := "parserSequence", inPlace := ["internal/bytealg.IndexByteString"], unfollowed := true, recurses := true, named := ["fulling/lexer.longSymbols", "fulling/parser.reservedWords", "internal/strconv.uint64pow10", "math/bits.deBruijn32tab", "math/bits.deBruijn64tab", "fulling/parser.operators"], apart := false, laid := [("math/bits.deBruijn32tab", laid_math_bits_deBruijn32tab), ("math/bits.deBruijn64tab", laid_math_bits_deBruijn64tab), ("internal/strconv.uint64pow10", laid_internal_strconv_uint64pow10), ("fulling/lexer.longSymbols", laid_fulling_lexer_longSymbols), ("fulling/parser.operators", laid_fulling_parser_operators), ("fulling/parser.reservedWords", laid_fulling_parser_reservedWords)], narrowed := true }
def ParserSequenceUptoSaid : Prop := parserSequenceUptoRow.holds Tryz.pinned (OpenSpec.upto parserSequenceSpec)

/-- 'fullinglaw3.ParserTruncated', WHERE WHAT IT READS IS OF BULK AT MOST 1048576: true; the input reads as it did. -/
def parserTruncatedUptoRow : OpenClaim := { program := "ytgiggkfnpbgkpaagreatdoor", sum := "1243cf07f267ddc6c1ced9c1d18ef031641920ca33f97daf0efbccc9de16970d", func := "fulling/fullinglaw3.ParserTruncated", spec := "parserTruncated", inPlace := ["internal/bytealg.IndexByteString"], unfollowed := true, recurses := true, named := ["fulling/lexer.longSymbols", "fulling/parser.reservedWords", "internal/strconv.uint64pow10", "math/bits.deBruijn32tab", "math/bits.deBruijn64tab", "fulling/parser.operators"], apart := false, laid := [("math/bits.deBruijn32tab", laid_math_bits_deBruijn32tab), ("math/bits.deBruijn64tab", laid_math_bits_deBruijn64tab), ("internal/strconv.uint64pow10", laid_internal_strconv_uint64pow10), ("fulling/lexer.longSymbols", laid_fulling_lexer_longSymbols), ("fulling/parser.operators", laid_fulling_parser_operators), ("fulling/parser.reservedWords", laid_fulling_parser_reservedWords)], narrowed := true }
def ParserTruncatedUptoSaid : Prop := parserTruncatedUptoRow.holds Tryz.pinned (OpenSpec.upto parserTruncatedSpec)

/-- 'fullinglaw4.CheckerLimits', WHERE WHAT IT READS IS OF BULK AT MOST 1048576: true; the input reads as it did. -/
def checkerLimitsUptoRow : OpenClaim := { program := "ytgiggkfnpbgkpaagreatdoor", sum := "1243cf07f267ddc6c1ced9c1d18ef031641920ca33f97daf0efbccc9de16970d", func := "fulling/fullinglaw4.CheckerLimits", spec := "checkerLimits", inPlace := ["internal/bytealg.IndexByteString"], unfollowed := true, recurses := true, named := ["fulling/lexer.longSymbols", "fulling/parser.reservedWords", "internal/strconv.uint64pow10", "math/bits.deBruijn32tab", "math/bits.deBruijn64tab", "fulling/parser.operators"], apart := false, laid := [("math/bits.deBruijn32tab", laid_math_bits_deBruijn32tab), ("math/bits.deBruijn64tab", laid_math_bits_deBruijn64tab), ("internal/strconv.uint64pow10", laid_internal_strconv_uint64pow10), ("fulling/lexer.longSymbols", laid_fulling_lexer_longSymbols), ("fulling/parser.operators", laid_fulling_parser_operators), ("fulling/parser.reservedWords", laid_fulling_parser_reservedWords)], narrowed := true }
def CheckerLimitsUptoSaid : Prop := checkerLimitsUptoRow.holds Tryz.pinned (OpenSpec.upto checkerLimitsSpec)

/-- 'fullinglaw4.CheckerOrder', WHERE WHAT IT READS IS OF BULK AT MOST 1048576: true; the input reads as it did. -/
def checkerOrderUptoRow : OpenClaim := { program := "ytgiggkfnpbgkpaagreatdoor", sum := "1243cf07f267ddc6c1ced9c1d18ef031641920ca33f97daf0efbccc9de16970d", func := "fulling/fullinglaw4.CheckerOrder", spec := "checkerOrder", inPlace := ["internal/bytealg.IndexByteString"], unfollowed := true, recurses := true, named := ["fulling/lexer.longSymbols", "fulling/parser.reservedWords", "internal/strconv.uint64pow10", "math/bits.deBruijn32tab", "math/bits.deBruijn64tab", "fulling/parser.operators"], apart := false, laid := [("math/bits.deBruijn32tab", laid_math_bits_deBruijn32tab), ("math/bits.deBruijn64tab", laid_math_bits_deBruijn64tab), ("internal/strconv.uint64pow10", laid_internal_strconv_uint64pow10), ("fulling/lexer.longSymbols", laid_fulling_lexer_longSymbols), ("fulling/parser.operators", laid_fulling_parser_operators), ("fulling/parser.reservedWords", laid_fulling_parser_reservedWords)], narrowed := true }
def CheckerOrderUptoSaid : Prop := checkerOrderUptoRow.holds Tryz.pinned (OpenSpec.upto checkerOrderSpec)

/-- 'fullinglaw4.CheckerReference', WHERE WHAT IT READS IS OF BULK AT MOST 1048576: true; the input reads as it did. -/
def checkerReferenceUptoRow : OpenClaim := { program := "ytgiggkfnpbgkpaagreatdoor", sum := "1243cf07f267ddc6c1ced9c1d18ef031641920ca33f97daf0efbccc9de16970d", func := "fulling/fullinglaw4.CheckerReference", spec := "checkerReference", inPlace := ["internal/bytealg.IndexByteString"], unfollowed := true, recurses := true, named := ["fulling/lexer.longSymbols", "fulling/parser.reservedWords", "internal/strconv.uint64pow10", "math/bits.deBruijn32tab", "math/bits.deBruijn64tab", "fulling/parser.operators"], loops := true, apart := false, laid := [("math/bits.deBruijn32tab", laid_math_bits_deBruijn32tab), ("math/bits.deBruijn64tab", laid_math_bits_deBruijn64tab), ("internal/strconv.uint64pow10", laid_internal_strconv_uint64pow10), ("fulling/lexer.longSymbols", laid_fulling_lexer_longSymbols), ("fulling/parser.operators", laid_fulling_parser_operators), ("fulling/parser.reservedWords", laid_fulling_parser_reservedWords)], narrowed := true }
def CheckerReferenceUptoSaid : Prop := checkerReferenceUptoRow.holds Tryz.pinned (OpenSpec.upto checkerReferenceSpec)

/-- 'fullinglaw4.CheckerSingleError', WHERE WHAT IT READS IS OF BULK AT MOST 1048576: true; the input reads as it did. -/
def checkerSingleErrorUptoRow : OpenClaim := { program := "ytgiggkfnpbgkpaagreatdoor", sum := "1243cf07f267ddc6c1ced9c1d18ef031641920ca33f97daf0efbccc9de16970d", func := "fulling/fullinglaw4.CheckerSingleError", spec := "checkerSingleError", inPlace := ["internal/bytealg.IndexByteString"], unfollowed := true, recurses := true, named := ["fulling/lexer.longSymbols", "fulling/parser.reservedWords", "internal/strconv.uint64pow10", "math/bits.deBruijn32tab", "math/bits.deBruijn64tab", "fulling/parser.operators"], apart := false, laid := [("math/bits.deBruijn32tab", laid_math_bits_deBruijn32tab), ("math/bits.deBruijn64tab", laid_math_bits_deBruijn64tab), ("internal/strconv.uint64pow10", laid_internal_strconv_uint64pow10), ("fulling/lexer.longSymbols", laid_fulling_lexer_longSymbols), ("fulling/parser.operators", laid_fulling_parser_operators), ("fulling/parser.reservedWords", laid_fulling_parser_reservedWords)], narrowed := true }
def CheckerSingleErrorUptoSaid : Prop := checkerSingleErrorUptoRow.holds Tryz.pinned (OpenSpec.upto checkerSingleErrorSpec)

/-- 'fullinglaw5.PrinterExamples', WHERE WHAT IT READS IS OF BULK AT MOST 1048576: true; the input reads as it did. -/
def printerExamplesUptoRow : OpenClaim := { program := "ytgiggkfnpbgkpaagreatdoor", sum := "1243cf07f267ddc6c1ced9c1d18ef031641920ca33f97daf0efbccc9de16970d", func := "fulling/fullinglaw5.PrinterExamples", spec := "printerExamples", inPlace := ["internal/bytealg.IndexByteString", "internal/abi.NoEscape", "internal/bytealg.MakeNoZero"], unfollowed := true, recurses := true, named := ["fulling/lexer.longSymbols", "fulling/parser.reservedWords", "internal/strconv.uint64pow10", "math/bits.deBruijn32tab", "math/bits.deBruijn64tab", "fulling/parser.operators", "fulling/printer.operatorTexts"], apart := false, laid := [("math/bits.deBruijn32tab", laid_math_bits_deBruijn32tab), ("math/bits.deBruijn64tab", laid_math_bits_deBruijn64tab), ("internal/strconv.uint64pow10", laid_internal_strconv_uint64pow10), ("fulling/lexer.longSymbols", laid_fulling_lexer_longSymbols), ("fulling/parser.operators", laid_fulling_parser_operators), ("fulling/parser.reservedWords", laid_fulling_parser_reservedWords), ("fulling/printer.operatorTexts", laid_fulling_printer_operatorTexts)], narrowed := true }
def PrinterExamplesUptoSaid : Prop := printerExamplesUptoRow.holds Tryz.pinned (OpenSpec.upto printerExamplesSpec)

/-- 'fullinglaw5.PrinterExpressions', WHERE WHAT IT READS IS OF BULK AT MOST 1048576: true; the input reads as it did. -/
def printerExpressionsUptoRow : OpenClaim := { program := "ytgiggkfnpbgkpaagreatdoor", sum := "1243cf07f267ddc6c1ced9c1d18ef031641920ca33f97daf0efbccc9de16970d", func := "fulling/fullinglaw5.PrinterExpressions", spec := "printerExpressions", inPlace := ["internal/bytealg.IndexByteString", "internal/abi.NoEscape", "internal/bytealg.MakeNoZero"], unfollowed := true, recurses := true, named := ["fulling/lexer.longSymbols", "fulling/parser.reservedWords", "internal/strconv.uint64pow10", "math/bits.deBruijn32tab", "math/bits.deBruijn64tab", "fulling/parser.operators", "fulling/printer.operatorTexts"], apart := false, laid := [("math/bits.deBruijn32tab", laid_math_bits_deBruijn32tab), ("math/bits.deBruijn64tab", laid_math_bits_deBruijn64tab), ("internal/strconv.uint64pow10", laid_internal_strconv_uint64pow10), ("fulling/lexer.longSymbols", laid_fulling_lexer_longSymbols), ("fulling/parser.operators", laid_fulling_parser_operators), ("fulling/parser.reservedWords", laid_fulling_parser_reservedWords), ("fulling/printer.operatorTexts", laid_fulling_printer_operatorTexts)], narrowed := true }
def PrinterExpressionsUptoSaid : Prop := printerExpressionsUptoRow.holds Tryz.pinned (OpenSpec.upto printerExpressionsSpec)

/-- 'fullinglaw5.PrinterNonempty', WHERE WHAT IT READS IS OF BULK AT MOST 1048576: true; the input reads as it did. -/
def printerNonemptyUptoRow : OpenClaim := { program := "ytgiggkfnpbgkpaagreatdoor", sum := "1243cf07f267ddc6c1ced9c1d18ef031641920ca33f97daf0efbccc9de16970d", func := "fulling/fullinglaw5.PrinterNonempty", spec := "printerNonempty", inPlace := ["internal/bytealg.IndexByteString", "internal/abi.NoEscape", "internal/bytealg.MakeNoZero"], unfollowed := true, recurses := true, named := ["fulling/lexer.longSymbols", "fulling/parser.reservedWords", "internal/strconv.uint64pow10", "math/bits.deBruijn32tab", "math/bits.deBruijn64tab", "fulling/parser.operators", "fulling/printer.operatorTexts"], loops := true, apart := false, laid := [("math/bits.deBruijn32tab", laid_math_bits_deBruijn32tab), ("math/bits.deBruijn64tab", laid_math_bits_deBruijn64tab), ("internal/strconv.uint64pow10", laid_internal_strconv_uint64pow10), ("fulling/lexer.longSymbols", laid_fulling_lexer_longSymbols), ("fulling/parser.operators", laid_fulling_parser_operators), ("fulling/parser.reservedWords", laid_fulling_parser_reservedWords), ("fulling/printer.operatorTexts", laid_fulling_printer_operatorTexts)], narrowed := true }
def PrinterNonemptyUptoSaid : Prop := printerNonemptyUptoRow.holds Tryz.pinned (OpenSpec.upto printerNonemptySpec)

/-- 'fullinglaw5.PrinterReference', WHERE WHAT IT READS IS OF BULK AT MOST 1048576: true; the input reads as it did. -/
def printerReferenceUptoRow : OpenClaim := { program := "ytgiggkfnpbgkpaagreatdoor", sum := "1243cf07f267ddc6c1ced9c1d18ef031641920ca33f97daf0efbccc9de16970d", func := "fulling/fullinglaw5.PrinterReference", spec := "printerReference", inPlace := ["internal/bytealg.IndexByteString", "internal/abi.NoEscape", "internal/bytealg.MakeNoZero"], unfollowed := true, recurses := true, named := ["fulling/lexer.longSymbols", "fulling/parser.reservedWords", "internal/strconv.uint64pow10", "math/bits.deBruijn32tab", "math/bits.deBruijn64tab", "fulling/parser.operators", "fulling/printer.operatorTexts"], loops := true, apart := false, laid := [("math/bits.deBruijn32tab", laid_math_bits_deBruijn32tab), ("math/bits.deBruijn64tab", laid_math_bits_deBruijn64tab), ("internal/strconv.uint64pow10", laid_internal_strconv_uint64pow10), ("fulling/lexer.longSymbols", laid_fulling_lexer_longSymbols), ("fulling/parser.operators", laid_fulling_parser_operators), ("fulling/parser.reservedWords", laid_fulling_parser_reservedWords), ("fulling/printer.operatorTexts", laid_fulling_printer_operatorTexts)], narrowed := true }
def PrinterReferenceUptoSaid : Prop := printerReferenceUptoRow.holds Tryz.pinned (OpenSpec.upto printerReferenceSpec)

/-- 'fullinglaw5.PrinterRoundTrip', WHERE WHAT IT READS IS OF BULK AT MOST 1048576: true; the input reads as it did. -/
def printerRoundTripUptoRow : OpenClaim := { program := "ytgiggkfnpbgkpaagreatdoor", sum := "1243cf07f267ddc6c1ced9c1d18ef031641920ca33f97daf0efbccc9de16970d", func := "fulling/fullinglaw5.PrinterRoundTrip", spec := "printerRoundTrip", inPlace := ["internal/bytealg.IndexByteString", "internal/abi.NoEscape", "internal/bytealg.MakeNoZero"], unfollowed := true, recurses := true, named := ["fulling/lexer.longSymbols", "fulling/parser.reservedWords", "internal/strconv.uint64pow10", "math/bits.deBruijn32tab", "math/bits.deBruijn64tab", "fulling/parser.operators", "fulling/printer.operatorTexts"], apart := false, laid := [("math/bits.deBruijn32tab", laid_math_bits_deBruijn32tab), ("math/bits.deBruijn64tab", laid_math_bits_deBruijn64tab), ("internal/strconv.uint64pow10", laid_internal_strconv_uint64pow10), ("fulling/lexer.longSymbols", laid_fulling_lexer_longSymbols), ("fulling/parser.operators", laid_fulling_parser_operators), ("fulling/parser.reservedWords", laid_fulling_parser_reservedWords), ("fulling/printer.operatorTexts", laid_fulling_printer_operatorTexts)], narrowed := true }
def PrinterRoundTripUptoSaid : Prop := printerRoundTripUptoRow.holds Tryz.pinned (OpenSpec.upto printerRoundTripSpec)

end Rows
end Go.Proofs.YtgiggkfnpbgkpaaGreatDoor
