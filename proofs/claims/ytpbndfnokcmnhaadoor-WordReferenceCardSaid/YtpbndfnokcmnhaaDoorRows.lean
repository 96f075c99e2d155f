/-
  NARROWER THAN 'FOR EVERY INPUT', by the rows' own cells (each row's printed sentence says how): WordExamples: laid · WordReference: laid · WordRingLaws: laid · WordDivision: laid · WordBitwise: laid · WordComparison: laid · WordRoundTrip: laid · WordShiftsCompose: laid · WordArithmeticShift: laid · WordUndefined: laid.
  DERIVED. THE GIVEN ROWS OF THIS SEAT. 10 by the template 'for every input the law returns true; each argument reads behind the call as it read before'; 0 by the template 'total and deterministic' (their statements: YtpbndfnokcmnhaaDoorTotals.lean).
  GIVEN WITH THE SEED: the statements are not yours to turn. If you find one false, say at which input.
  Laid BY PROGRAM, IN A SANDBOX (cutbox-rows.mjs): the forced cells as the released guide's own fill.sh prints them over the translation ca42e65ef2b8ee1e… (all of the seat's roots in one cut). By AI agents, Wed Nov 11 2026. No macro, syntax, notation, axiom, sorry.
-/
import Derived.Test.YtpbndfnokcmnhaaDoorChecked
import GoSem.Claim
import GoSem.ClaimJoined
import GoSem.ClaimMapViews
import Derived.JoinedTies
import Derived.KernelRfl
namespace Go.Proofs.YtpbndfnokcmnhaaDoor
/- THE CELL 'sum', in the pinned program and in every row, IS THE sha256 OF THE DUMP (.gsa) THAT YtpbndfnokcmnhaaDoorProg.lean LOADS. Nothing in Lean hashes anything: it is a label: what it is worth is what the hold of that sum in a sandbox is worth. -/
noncomputable def Tryd.pinned : Pinned := { name := "ytpbndfnokcmnhaadoor", sum := "ca42e65ef2b8ee1e7ac12d69918dd56caa248c6a3538ee4af5867246c94bb39d", checked := Tryd.checked }
namespace Rows
def none {H : Type} : Left H := { results := [], args := [] }

/- WHAT THE LISTED PACKAGE-LEVEL VARIABLES READ AS WHEN THE CALL BEGINS. Each datum BY PROGRAM (the guide's laid-datum.mjs) off the statement by which the dump's own 'gosem.cut.vars' lays the variable. In a bare row this is a premise. The card (YtpbndfnokcmnhaaDoorCards.lean) ties it to the program's text. -/
def laid_math_bits_deBruijn32tab {H : Type} : DataW H := .agg [.lit (.int .u8 0), .lit (.int .u8 1), .lit (.int .u8 28), .lit (.int .u8 2), .lit (.int .u8 29), .lit (.int .u8 14), .lit (.int .u8 24), .lit (.int .u8 3), .lit (.int .u8 30), .lit (.int .u8 22), .lit (.int .u8 20), .lit (.int .u8 15), .lit (.int .u8 25), .lit (.int .u8 17), .lit (.int .u8 4), .lit (.int .u8 8), .lit (.int .u8 31), .lit (.int .u8 27), .lit (.int .u8 13), .lit (.int .u8 23), .lit (.int .u8 21), .lit (.int .u8 19), .lit (.int .u8 16), .lit (.int .u8 7), .lit (.int .u8 26), .lit (.int .u8 12), .lit (.int .u8 18), .lit (.int .u8 6), .lit (.int .u8 11), .lit (.int .u8 5), .lit (.int .u8 10), .lit (.int .u8 9)]
def laid_math_bits_deBruijn64tab {H : Type} : DataW H := .agg [.lit (.int .u8 0), .lit (.int .u8 1), .lit (.int .u8 56), .lit (.int .u8 2), .lit (.int .u8 57), .lit (.int .u8 49), .lit (.int .u8 28), .lit (.int .u8 3), .lit (.int .u8 61), .lit (.int .u8 58), .lit (.int .u8 42), .lit (.int .u8 50), .lit (.int .u8 38), .lit (.int .u8 29), .lit (.int .u8 17), .lit (.int .u8 4), .lit (.int .u8 62), .lit (.int .u8 47), .lit (.int .u8 59), .lit (.int .u8 36), .lit (.int .u8 45), .lit (.int .u8 43), .lit (.int .u8 51), .lit (.int .u8 22), .lit (.int .u8 53), .lit (.int .u8 39), .lit (.int .u8 33), .lit (.int .u8 30), .lit (.int .u8 24), .lit (.int .u8 18), .lit (.int .u8 12), .lit (.int .u8 5), .lit (.int .u8 63), .lit (.int .u8 55), .lit (.int .u8 48), .lit (.int .u8 27), .lit (.int .u8 60), .lit (.int .u8 41), .lit (.int .u8 37), .lit (.int .u8 16), .lit (.int .u8 46), .lit (.int .u8 35), .lit (.int .u8 44), .lit (.int .u8 21), .lit (.int .u8 52), .lit (.int .u8 32), .lit (.int .u8 23), .lit (.int .u8 11), .lit (.int .u8 54), .lit (.int .u8 26), .lit (.int .u8 40), .lit (.int .u8 15), .lit (.int .u8 34), .lit (.int .u8 20), .lit (.int .u8 31), .lit (.int .u8 10), .lit (.int .u8 25), .lit (.int .u8 14), .lit (.int .u8 19), .lit (.int .u8 9), .lit (.int .u8 13), .lit (.int .u8 8), .lit (.int .u8 7), .lit (.int .u8 6)]
def laid_internal_strconv_uint64pow10 {H : Type} : DataW H := .agg [.lit (.int .u64 1), .lit (.int .u64 10), .lit (.int .u64 100), .lit (.int .u64 1000), .lit (.int .u64 10000), .lit (.int .u64 100000), .lit (.int .u64 1000000), .lit (.int .u64 10000000), .lit (.int .u64 100000000), .lit (.int .u64 1000000000), .lit (.int .u64 10000000000), .lit (.int .u64 100000000000), .lit (.int .u64 1000000000000), .lit (.int .u64 10000000000000), .lit (.int .u64 100000000000000), .lit (.int .u64 1000000000000000), .lit (.int .u64 10000000000000000), .lit (.int .u64 100000000000000000), .lit (.int .u64 1000000000000000000), .lit (.int .u64 10000000000000000000)]

/-- 'fullinglaw1.WordExamples': WHATEVER THE INPUT: true; the input reads as it did. -/
def wordExamplesSpec : ChangeSpec := { name := "wordExamples", fn := fun _ => fun
  | [] => { results := [.lit (.bool true)], args := [] }
  | _ => none }
def wordExamplesRow : OpenClaim := { program := "ytpbndfnokcmnhaadoor", sum := "ca42e65ef2b8ee1e7ac12d69918dd56caa248c6a3538ee4af5867246c94bb39d", func := "fulling/fullinglaw1.WordExamples", spec := "wordExamples", named := ["internal/strconv.uint64pow10", "math/bits.deBruijn32tab", "math/bits.deBruijn64tab"], apart := false, laid := [("math/bits.deBruijn32tab", laid_math_bits_deBruijn32tab), ("math/bits.deBruijn64tab", laid_math_bits_deBruijn64tab), ("internal/strconv.uint64pow10", laid_internal_strconv_uint64pow10)] }
def WordExamplesSaid : Prop := wordExamplesRow.holds Tryd.pinned (OpenSpec.ofChange wordExamplesSpec)

/-- ITS FALSE NEIGHBOUR: 'it returns false'. Refute it at one input. -/
def wordExamplesWrong : ChangeSpec := { name := "wordExamples", fn := fun _ => fun
  | [] => { results := [.lit (.bool false)], args := [] }
  | _ => none }
def WordExamplesWrongFalsely : Prop := wordExamplesRow.holds Tryd.pinned (OpenSpec.ofChange wordExamplesWrong)

/-- 'fullinglaw1.WordReference': WHATEVER THE INPUT: true; the input reads as it did. -/
def wordReferenceSpec : ChangeSpec := { name := "wordReference", fn := fun _ => fun
  | [d1, d2, d3, d4, d5, d6] => { results := [.lit (.bool true)], args := [d1, d2, d3, d4, d5, d6] }
  | _ => none }
def wordReferenceRow : OpenClaim := { program := "ytpbndfnokcmnhaadoor", sum := "ca42e65ef2b8ee1e7ac12d69918dd56caa248c6a3538ee4af5867246c94bb39d", func := "fulling/fullinglaw1.WordReference", spec := "wordReference", recurses := true, named := ["internal/strconv.uint64pow10", "math/bits.deBruijn32tab", "math/bits.deBruijn64tab"], apart := false, laid := [("math/bits.deBruijn32tab", laid_math_bits_deBruijn32tab), ("math/bits.deBruijn64tab", laid_math_bits_deBruijn64tab), ("internal/strconv.uint64pow10", laid_internal_strconv_uint64pow10)] }
def WordReferenceSaid : Prop := wordReferenceRow.holds Tryd.pinned (OpenSpec.ofChange wordReferenceSpec)

/-- ITS FALSE NEIGHBOUR: 'it returns false'. Refute it at one input. -/
def wordReferenceWrong : ChangeSpec := { name := "wordReference", fn := fun _ => fun
  | [d1, d2, d3, d4, d5, d6] => { results := [.lit (.bool false)], args := [d1, d2, d3, d4, d5, d6] }
  | _ => none }
def WordReferenceWrongFalsely : Prop := wordReferenceRow.holds Tryd.pinned (OpenSpec.ofChange wordReferenceWrong)

/-- 'fullinglaw1.WordRingLaws': WHATEVER THE INPUT: true; the input reads as it did. -/
def wordRingLawsSpec : ChangeSpec := { name := "wordRingLaws", fn := fun _ => fun
  | [d1, d2, d3] => { results := [.lit (.bool true)], args := [d1, d2, d3] }
  | _ => none }
def wordRingLawsRow : OpenClaim := { program := "ytpbndfnokcmnhaadoor", sum := "ca42e65ef2b8ee1e7ac12d69918dd56caa248c6a3538ee4af5867246c94bb39d", func := "fulling/fullinglaw1.WordRingLaws", spec := "wordRingLaws", named := ["internal/strconv.uint64pow10", "math/bits.deBruijn32tab", "math/bits.deBruijn64tab"], apart := false, laid := [("math/bits.deBruijn32tab", laid_math_bits_deBruijn32tab), ("math/bits.deBruijn64tab", laid_math_bits_deBruijn64tab), ("internal/strconv.uint64pow10", laid_internal_strconv_uint64pow10)] }
def WordRingLawsSaid : Prop := wordRingLawsRow.holds Tryd.pinned (OpenSpec.ofChange wordRingLawsSpec)

/-- ITS FALSE NEIGHBOUR: 'it returns false'. Refute it at one input. -/
def wordRingLawsWrong : ChangeSpec := { name := "wordRingLaws", fn := fun _ => fun
  | [d1, d2, d3] => { results := [.lit (.bool false)], args := [d1, d2, d3] }
  | _ => none }
def WordRingLawsWrongFalsely : Prop := wordRingLawsRow.holds Tryd.pinned (OpenSpec.ofChange wordRingLawsWrong)

/-- 'fullinglaw1.WordDivision': WHATEVER THE INPUT: true; the input reads as it did. -/
def wordDivisionSpec : ChangeSpec := { name := "wordDivision", fn := fun _ => fun
  | [d1, d2, d3, d4] => { results := [.lit (.bool true)], args := [d1, d2, d3, d4] }
  | _ => none }
def wordDivisionRow : OpenClaim := { program := "ytpbndfnokcmnhaadoor", sum := "ca42e65ef2b8ee1e7ac12d69918dd56caa248c6a3538ee4af5867246c94bb39d", func := "fulling/fullinglaw1.WordDivision", spec := "wordDivision", named := ["internal/strconv.uint64pow10", "math/bits.deBruijn32tab", "math/bits.deBruijn64tab"], apart := false, laid := [("math/bits.deBruijn32tab", laid_math_bits_deBruijn32tab), ("math/bits.deBruijn64tab", laid_math_bits_deBruijn64tab), ("internal/strconv.uint64pow10", laid_internal_strconv_uint64pow10)] }
def WordDivisionSaid : Prop := wordDivisionRow.holds Tryd.pinned (OpenSpec.ofChange wordDivisionSpec)

/-- ITS FALSE NEIGHBOUR: 'it returns false'. Refute it at one input. -/
def wordDivisionWrong : ChangeSpec := { name := "wordDivision", fn := fun _ => fun
  | [d1, d2, d3, d4] => { results := [.lit (.bool false)], args := [d1, d2, d3, d4] }
  | _ => none }
def WordDivisionWrongFalsely : Prop := wordDivisionRow.holds Tryd.pinned (OpenSpec.ofChange wordDivisionWrong)

/-- 'fullinglaw1.WordBitwise': WHATEVER THE INPUT: true; the input reads as it did. -/
def wordBitwiseSpec : ChangeSpec := { name := "wordBitwise", fn := fun _ => fun
  | [d1, d2, d3] => { results := [.lit (.bool true)], args := [d1, d2, d3] }
  | _ => none }
def wordBitwiseRow : OpenClaim := { program := "ytpbndfnokcmnhaadoor", sum := "ca42e65ef2b8ee1e7ac12d69918dd56caa248c6a3538ee4af5867246c94bb39d", func := "fulling/fullinglaw1.WordBitwise", spec := "wordBitwise", named := ["internal/strconv.uint64pow10", "math/bits.deBruijn32tab", "math/bits.deBruijn64tab"], apart := false, laid := [("math/bits.deBruijn32tab", laid_math_bits_deBruijn32tab), ("math/bits.deBruijn64tab", laid_math_bits_deBruijn64tab), ("internal/strconv.uint64pow10", laid_internal_strconv_uint64pow10)] }
def WordBitwiseSaid : Prop := wordBitwiseRow.holds Tryd.pinned (OpenSpec.ofChange wordBitwiseSpec)

/-- ITS FALSE NEIGHBOUR: 'it returns false'. Refute it at one input. -/
def wordBitwiseWrong : ChangeSpec := { name := "wordBitwise", fn := fun _ => fun
  | [d1, d2, d3] => { results := [.lit (.bool false)], args := [d1, d2, d3] }
  | _ => none }
def WordBitwiseWrongFalsely : Prop := wordBitwiseRow.holds Tryd.pinned (OpenSpec.ofChange wordBitwiseWrong)

/-- 'fullinglaw1.WordComparison': WHATEVER THE INPUT: true; the input reads as it did. -/
def wordComparisonSpec : ChangeSpec := { name := "wordComparison", fn := fun _ => fun
  | [d1, d2, d3, d4] => { results := [.lit (.bool true)], args := [d1, d2, d3, d4] }
  | _ => none }
def wordComparisonRow : OpenClaim := { program := "ytpbndfnokcmnhaadoor", sum := "ca42e65ef2b8ee1e7ac12d69918dd56caa248c6a3538ee4af5867246c94bb39d", func := "fulling/fullinglaw1.WordComparison", spec := "wordComparison", named := ["internal/strconv.uint64pow10", "math/bits.deBruijn32tab", "math/bits.deBruijn64tab"], apart := false, laid := [("math/bits.deBruijn32tab", laid_math_bits_deBruijn32tab), ("math/bits.deBruijn64tab", laid_math_bits_deBruijn64tab), ("internal/strconv.uint64pow10", laid_internal_strconv_uint64pow10)] }
def WordComparisonSaid : Prop := wordComparisonRow.holds Tryd.pinned (OpenSpec.ofChange wordComparisonSpec)

/-- ITS FALSE NEIGHBOUR: 'it returns false'. Refute it at one input. -/
def wordComparisonWrong : ChangeSpec := { name := "wordComparison", fn := fun _ => fun
  | [d1, d2, d3, d4] => { results := [.lit (.bool false)], args := [d1, d2, d3, d4] }
  | _ => none }
def WordComparisonWrongFalsely : Prop := wordComparisonRow.holds Tryd.pinned (OpenSpec.ofChange wordComparisonWrong)

/-- 'fullinglaw1.WordRoundTrip': WHATEVER THE INPUT: true; the input reads as it did. -/
def wordRoundTripSpec : ChangeSpec := { name := "wordRoundTrip", fn := fun _ => fun
  | [d1, d2, d3, d4] => { results := [.lit (.bool true)], args := [d1, d2, d3, d4] }
  | _ => none }
def wordRoundTripRow : OpenClaim := { program := "ytpbndfnokcmnhaadoor", sum := "ca42e65ef2b8ee1e7ac12d69918dd56caa248c6a3538ee4af5867246c94bb39d", func := "fulling/fullinglaw1.WordRoundTrip", spec := "wordRoundTrip", named := ["internal/strconv.uint64pow10", "math/bits.deBruijn32tab", "math/bits.deBruijn64tab"], apart := false, laid := [("math/bits.deBruijn32tab", laid_math_bits_deBruijn32tab), ("math/bits.deBruijn64tab", laid_math_bits_deBruijn64tab), ("internal/strconv.uint64pow10", laid_internal_strconv_uint64pow10)] }
def WordRoundTripSaid : Prop := wordRoundTripRow.holds Tryd.pinned (OpenSpec.ofChange wordRoundTripSpec)

/-- ITS FALSE NEIGHBOUR: 'it returns false'. Refute it at one input. -/
def wordRoundTripWrong : ChangeSpec := { name := "wordRoundTrip", fn := fun _ => fun
  | [d1, d2, d3, d4] => { results := [.lit (.bool false)], args := [d1, d2, d3, d4] }
  | _ => none }
def WordRoundTripWrongFalsely : Prop := wordRoundTripRow.holds Tryd.pinned (OpenSpec.ofChange wordRoundTripWrong)

/-- 'fullinglaw1.WordShiftsCompose': WHATEVER THE INPUT: true; the input reads as it did. -/
def wordShiftsComposeSpec : ChangeSpec := { name := "wordShiftsCompose", fn := fun _ => fun
  | [d1, d2, d3] => { results := [.lit (.bool true)], args := [d1, d2, d3] }
  | _ => none }
def wordShiftsComposeRow : OpenClaim := { program := "ytpbndfnokcmnhaadoor", sum := "ca42e65ef2b8ee1e7ac12d69918dd56caa248c6a3538ee4af5867246c94bb39d", func := "fulling/fullinglaw1.WordShiftsCompose", spec := "wordShiftsCompose", named := ["internal/strconv.uint64pow10", "math/bits.deBruijn32tab", "math/bits.deBruijn64tab"], apart := false, laid := [("math/bits.deBruijn32tab", laid_math_bits_deBruijn32tab), ("math/bits.deBruijn64tab", laid_math_bits_deBruijn64tab), ("internal/strconv.uint64pow10", laid_internal_strconv_uint64pow10)] }
def WordShiftsComposeSaid : Prop := wordShiftsComposeRow.holds Tryd.pinned (OpenSpec.ofChange wordShiftsComposeSpec)

/-- ITS FALSE NEIGHBOUR: 'it returns false'. Refute it at one input. -/
def wordShiftsComposeWrong : ChangeSpec := { name := "wordShiftsCompose", fn := fun _ => fun
  | [d1, d2, d3] => { results := [.lit (.bool false)], args := [d1, d2, d3] }
  | _ => none }
def WordShiftsComposeWrongFalsely : Prop := wordShiftsComposeRow.holds Tryd.pinned (OpenSpec.ofChange wordShiftsComposeWrong)

/-- 'fullinglaw1.WordArithmeticShift': WHATEVER THE INPUT: true; the input reads as it did. -/
def wordArithmeticShiftSpec : ChangeSpec := { name := "wordArithmeticShift", fn := fun _ => fun
  | [d1, d2] => { results := [.lit (.bool true)], args := [d1, d2] }
  | _ => none }
def wordArithmeticShiftRow : OpenClaim := { program := "ytpbndfnokcmnhaadoor", sum := "ca42e65ef2b8ee1e7ac12d69918dd56caa248c6a3538ee4af5867246c94bb39d", func := "fulling/fullinglaw1.WordArithmeticShift", spec := "wordArithmeticShift", named := ["internal/strconv.uint64pow10", "math/bits.deBruijn32tab", "math/bits.deBruijn64tab"], apart := false, laid := [("math/bits.deBruijn32tab", laid_math_bits_deBruijn32tab), ("math/bits.deBruijn64tab", laid_math_bits_deBruijn64tab), ("internal/strconv.uint64pow10", laid_internal_strconv_uint64pow10)] }
def WordArithmeticShiftSaid : Prop := wordArithmeticShiftRow.holds Tryd.pinned (OpenSpec.ofChange wordArithmeticShiftSpec)

/-- ITS FALSE NEIGHBOUR: 'it returns false'. Refute it at one input. -/
def wordArithmeticShiftWrong : ChangeSpec := { name := "wordArithmeticShift", fn := fun _ => fun
  | [d1, d2] => { results := [.lit (.bool false)], args := [d1, d2] }
  | _ => none }
def WordArithmeticShiftWrongFalsely : Prop := wordArithmeticShiftRow.holds Tryd.pinned (OpenSpec.ofChange wordArithmeticShiftWrong)

/-- 'fullinglaw1.WordUndefined': WHATEVER THE INPUT: true; the input reads as it did. -/
def wordUndefinedSpec : ChangeSpec := { name := "wordUndefined", fn := fun _ => fun
  | [d1, d2, d3] => { results := [.lit (.bool true)], args := [d1, d2, d3] }
  | _ => none }
def wordUndefinedRow : OpenClaim := { program := "ytpbndfnokcmnhaadoor", sum := "ca42e65ef2b8ee1e7ac12d69918dd56caa248c6a3538ee4af5867246c94bb39d", func := "fulling/fullinglaw1.WordUndefined", spec := "wordUndefined", named := ["internal/strconv.uint64pow10", "math/bits.deBruijn32tab", "math/bits.deBruijn64tab"], apart := false, laid := [("math/bits.deBruijn32tab", laid_math_bits_deBruijn32tab), ("math/bits.deBruijn64tab", laid_math_bits_deBruijn64tab), ("internal/strconv.uint64pow10", laid_internal_strconv_uint64pow10)] }
def WordUndefinedSaid : Prop := wordUndefinedRow.holds Tryd.pinned (OpenSpec.ofChange wordUndefinedSpec)

/-- ITS FALSE NEIGHBOUR: 'it returns false'. Refute it at one input. -/
def wordUndefinedWrong : ChangeSpec := { name := "wordUndefined", fn := fun _ => fun
  | [d1, d2, d3] => { results := [.lit (.bool false)], args := [d1, d2, d3] }
  | _ => none }
def WordUndefinedWrongFalsely : Prop := wordUndefinedRow.holds Tryd.pinned (OpenSpec.ofChange wordUndefinedWrong)

/- THE SECOND FORM. 'bulk': how many values and letters a reading holds, each counted each time it is reached (what is shared counts as often as it is met; a slice's spare places count too). A statement '..UptoSaid' is the law's where the arguments, and the package variables that the reading takes, are together of bulk at most 1048576: NARROWER than '..Said'. Prove '..Said' where nothing that the law and all that it calls make is longer than what came in: it says more and counts as full. Else prove '..UptoSaid'. A law counts once. -/
mutual
def uptoBulk {H : Type} : DataW H → Nat
  | .lit (.string bytes) => bytes.length + 1
  | .lit _ => 1
  | .nil => 1
  | .ptr d => uptoBulk d + 1
  | .slice elems spare => uptoBulkAll elems + uptoBulkAll spare + 1
  | .agg parts => uptoBulkAll parts + 1
  | .iface _ d => uptoBulk d + 1
  | .map entries => uptoBulkEntries entries + 1
  | .held _ => 1
def uptoBulkAll {H : Type} : List (DataW H) → Nat
  | [] => 0
  | d :: r => uptoBulk d + uptoBulkAll r
def uptoBulkEntries {H : Type} : List (Lit × DataW H) → Nat
  | [] => 0
  | x :: r => uptoBulkEntry x + uptoBulkEntries r
def uptoBulkEntry {H : Type} : Lit × DataW H → Nat
  | (.string bytes, d) => bytes.length + uptoBulk d + 1
  | (_, d) => uptoBulk d + 1
 end
def uptoSmall : (H : Type) → List (DataW H) → Bool := fun _ ds => decide (uptoBulkAll ds ≤ 1048576)
def OpenSpec.upto (s : _root_.Go.ChangeSpec) : _root_.Go.OpenSpec := { _root_.Go.OpenSpec.ofChange s with cond := some uptoSmall }

/-- 'fullinglaw1.WordExamples', WHERE WHAT IT READS IS OF BULK AT MOST 1048576: true; the input reads as it did. -/
def wordExamplesUptoRow : OpenClaim := { program := "ytpbndfnokcmnhaadoor", sum := "ca42e65ef2b8ee1e7ac12d69918dd56caa248c6a3538ee4af5867246c94bb39d", func := "fulling/fullinglaw1.WordExamples", spec := "wordExamples", named := ["internal/strconv.uint64pow10", "math/bits.deBruijn32tab", "math/bits.deBruijn64tab"], apart := false, laid := [("math/bits.deBruijn32tab", laid_math_bits_deBruijn32tab), ("math/bits.deBruijn64tab", laid_math_bits_deBruijn64tab), ("internal/strconv.uint64pow10", laid_internal_strconv_uint64pow10)], narrowed := true }
def WordExamplesUptoSaid : Prop := wordExamplesUptoRow.holds Tryd.pinned (OpenSpec.upto wordExamplesSpec)

/-- 'fullinglaw1.WordReference', WHERE WHAT IT READS IS OF BULK AT MOST 1048576: true; the input reads as it did. -/
def wordReferenceUptoRow : OpenClaim := { program := "ytpbndfnokcmnhaadoor", sum := "ca42e65ef2b8ee1e7ac12d69918dd56caa248c6a3538ee4af5867246c94bb39d", func := "fulling/fullinglaw1.WordReference", spec := "wordReference", recurses := true, named := ["internal/strconv.uint64pow10", "math/bits.deBruijn32tab", "math/bits.deBruijn64tab"], apart := false, laid := [("math/bits.deBruijn32tab", laid_math_bits_deBruijn32tab), ("math/bits.deBruijn64tab", laid_math_bits_deBruijn64tab), ("internal/strconv.uint64pow10", laid_internal_strconv_uint64pow10)], narrowed := true }
def WordReferenceUptoSaid : Prop := wordReferenceUptoRow.holds Tryd.pinned (OpenSpec.upto wordReferenceSpec)

/-- 'fullinglaw1.WordRingLaws', WHERE WHAT IT READS IS OF BULK AT MOST 1048576: true; the input reads as it did. -/
def wordRingLawsUptoRow : OpenClaim := { program := "ytpbndfnokcmnhaadoor", sum := "ca42e65ef2b8ee1e7ac12d69918dd56caa248c6a3538ee4af5867246c94bb39d", func := "fulling/fullinglaw1.WordRingLaws", spec := "wordRingLaws", named := ["internal/strconv.uint64pow10", "math/bits.deBruijn32tab", "math/bits.deBruijn64tab"], apart := false, laid := [("math/bits.deBruijn32tab", laid_math_bits_deBruijn32tab), ("math/bits.deBruijn64tab", laid_math_bits_deBruijn64tab), ("internal/strconv.uint64pow10", laid_internal_strconv_uint64pow10)], narrowed := true }
def WordRingLawsUptoSaid : Prop := wordRingLawsUptoRow.holds Tryd.pinned (OpenSpec.upto wordRingLawsSpec)

/-- 'fullinglaw1.WordDivision', WHERE WHAT IT READS IS OF BULK AT MOST 1048576: true; the input reads as it did. -/
def wordDivisionUptoRow : OpenClaim := { program := "ytpbndfnokcmnhaadoor", sum := "ca42e65ef2b8ee1e7ac12d69918dd56caa248c6a3538ee4af5867246c94bb39d", func := "fulling/fullinglaw1.WordDivision", spec := "wordDivision", named := ["internal/strconv.uint64pow10", "math/bits.deBruijn32tab", "math/bits.deBruijn64tab"], apart := false, laid := [("math/bits.deBruijn32tab", laid_math_bits_deBruijn32tab), ("math/bits.deBruijn64tab", laid_math_bits_deBruijn64tab), ("internal/strconv.uint64pow10", laid_internal_strconv_uint64pow10)], narrowed := true }
def WordDivisionUptoSaid : Prop := wordDivisionUptoRow.holds Tryd.pinned (OpenSpec.upto wordDivisionSpec)

/-- 'fullinglaw1.WordBitwise', WHERE WHAT IT READS IS OF BULK AT MOST 1048576: true; the input reads as it did. -/
def wordBitwiseUptoRow : OpenClaim := { program := "ytpbndfnokcmnhaadoor", sum := "ca42e65ef2b8ee1e7ac12d69918dd56caa248c6a3538ee4af5867246c94bb39d", func := "fulling/fullinglaw1.WordBitwise", spec := "wordBitwise", named := ["internal/strconv.uint64pow10", "math/bits.deBruijn32tab", "math/bits.deBruijn64tab"], apart := false, laid := [("math/bits.deBruijn32tab", laid_math_bits_deBruijn32tab), ("math/bits.deBruijn64tab", laid_math_bits_deBruijn64tab), ("internal/strconv.uint64pow10", laid_internal_strconv_uint64pow10)], narrowed := true }
def WordBitwiseUptoSaid : Prop := wordBitwiseUptoRow.holds Tryd.pinned (OpenSpec.upto wordBitwiseSpec)

/-- 'fullinglaw1.WordComparison', WHERE WHAT IT READS IS OF BULK AT MOST 1048576: true; the input reads as it did. -/
def wordComparisonUptoRow : OpenClaim := { program := "ytpbndfnokcmnhaadoor", sum := "ca42e65ef2b8ee1e7ac12d69918dd56caa248c6a3538ee4af5867246c94bb39d", func := "fulling/fullinglaw1.WordComparison", spec := "wordComparison", named := ["internal/strconv.uint64pow10", "math/bits.deBruijn32tab", "math/bits.deBruijn64tab"], apart := false, laid := [("math/bits.deBruijn32tab", laid_math_bits_deBruijn32tab), ("math/bits.deBruijn64tab", laid_math_bits_deBruijn64tab), ("internal/strconv.uint64pow10", laid_internal_strconv_uint64pow10)], narrowed := true }
def WordComparisonUptoSaid : Prop := wordComparisonUptoRow.holds Tryd.pinned (OpenSpec.upto wordComparisonSpec)

/-- 'fullinglaw1.WordRoundTrip', WHERE WHAT IT READS IS OF BULK AT MOST 1048576: true; the input reads as it did. -/
def wordRoundTripUptoRow : OpenClaim := { program := "ytpbndfnokcmnhaadoor", sum := "ca42e65ef2b8ee1e7ac12d69918dd56caa248c6a3538ee4af5867246c94bb39d", func := "fulling/fullinglaw1.WordRoundTrip", spec := "wordRoundTrip", named := ["internal/strconv.uint64pow10", "math/bits.deBruijn32tab", "math/bits.deBruijn64tab"], apart := false, laid := [("math/bits.deBruijn32tab", laid_math_bits_deBruijn32tab), ("math/bits.deBruijn64tab", laid_math_bits_deBruijn64tab), ("internal/strconv.uint64pow10", laid_internal_strconv_uint64pow10)], narrowed := true }
def WordRoundTripUptoSaid : Prop := wordRoundTripUptoRow.holds Tryd.pinned (OpenSpec.upto wordRoundTripSpec)

/-- 'fullinglaw1.WordShiftsCompose', WHERE WHAT IT READS IS OF BULK AT MOST 1048576: true; the input reads as it did. -/
def wordShiftsComposeUptoRow : OpenClaim := { program := "ytpbndfnokcmnhaadoor", sum := "ca42e65ef2b8ee1e7ac12d69918dd56caa248c6a3538ee4af5867246c94bb39d", func := "fulling/fullinglaw1.WordShiftsCompose", spec := "wordShiftsCompose", named := ["internal/strconv.uint64pow10", "math/bits.deBruijn32tab", "math/bits.deBruijn64tab"], apart := false, laid := [("math/bits.deBruijn32tab", laid_math_bits_deBruijn32tab), ("math/bits.deBruijn64tab", laid_math_bits_deBruijn64tab), ("internal/strconv.uint64pow10", laid_internal_strconv_uint64pow10)], narrowed := true }
def WordShiftsComposeUptoSaid : Prop := wordShiftsComposeUptoRow.holds Tryd.pinned (OpenSpec.upto wordShiftsComposeSpec)

/-- 'fullinglaw1.WordArithmeticShift', WHERE WHAT IT READS IS OF BULK AT MOST 1048576: true; the input reads as it did. -/
def wordArithmeticShiftUptoRow : OpenClaim := { program := "ytpbndfnokcmnhaadoor", sum := "ca42e65ef2b8ee1e7ac12d69918dd56caa248c6a3538ee4af5867246c94bb39d", func := "fulling/fullinglaw1.WordArithmeticShift", spec := "wordArithmeticShift", named := ["internal/strconv.uint64pow10", "math/bits.deBruijn32tab", "math/bits.deBruijn64tab"], apart := false, laid := [("math/bits.deBruijn32tab", laid_math_bits_deBruijn32tab), ("math/bits.deBruijn64tab", laid_math_bits_deBruijn64tab), ("internal/strconv.uint64pow10", laid_internal_strconv_uint64pow10)], narrowed := true }
def WordArithmeticShiftUptoSaid : Prop := wordArithmeticShiftUptoRow.holds Tryd.pinned (OpenSpec.upto wordArithmeticShiftSpec)

/-- 'fullinglaw1.WordUndefined', WHERE WHAT IT READS IS OF BULK AT MOST 1048576: true; the input reads as it did. -/
def wordUndefinedUptoRow : OpenClaim := { program := "ytpbndfnokcmnhaadoor", sum := "ca42e65ef2b8ee1e7ac12d69918dd56caa248c6a3538ee4af5867246c94bb39d", func := "fulling/fullinglaw1.WordUndefined", spec := "wordUndefined", named := ["internal/strconv.uint64pow10", "math/bits.deBruijn32tab", "math/bits.deBruijn64tab"], apart := false, laid := [("math/bits.deBruijn32tab", laid_math_bits_deBruijn32tab), ("math/bits.deBruijn64tab", laid_math_bits_deBruijn64tab), ("internal/strconv.uint64pow10", laid_internal_strconv_uint64pow10)], narrowed := true }
def WordUndefinedUptoSaid : Prop := wordUndefinedUptoRow.holds Tryd.pinned (OpenSpec.upto wordUndefinedSpec)

end Rows
end Go.Proofs.YtpbndfnokcmnhaaDoor
