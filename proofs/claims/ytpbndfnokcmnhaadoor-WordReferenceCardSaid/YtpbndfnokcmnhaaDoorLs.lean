/- What all laws of the seat share: closed facts on the program, the library's table out of a row's list, the world of the witness. -/
import Derived.Test.YtpbndfnokcmnhaaDoorCards
import Derived.Test.YtpbndfnokcmnhaaDoorTie
import Derived.Test.YtpbndfnokcmnhaaDoorWe
import Derived.OpenShut
import Derived.Deep.DeepHandedRow
namespace Go.Proofs.YtpbndfnokcmnhaaDoor
open Go Go.RowKit WM

theorem own : ownKnob Tryd.prog.godebug = none := by kernel_rfl
theorem laidOut : laidOutB Tryd.prog = true := by kernel_rfl
theorem gPow : Tryd.prog.globalNamed "internal/strconv.uint64pow10" = some 0 := by kernel_rfl
theorem gPowType : (Tryd.prog.globals[0]?).map (·.type) = some 59 := by kernel_rfl
theorem cellsPow : Tryd.prog.cellsOf 59 = 20 := by kernel_rfl
theorem cellsU64 : Tryd.prog.cellsOf 40 = 1 := by kernel_rfl
theorem powData : (Rows.laid_internal_strconv_uint64pow10 : DataW Unit) = Lib.tabData .u64 Lib.pow10Tab := by kernel_rfl
abbrev laidList : List (String × DataW Unit) := [("math/bits.deBruijn32tab", Rows.laid_math_bits_deBruijn32tab), ("math/bits.deBruijn64tab", Rows.laid_math_bits_deBruijn64tab), ("internal/strconv.uint64pow10", Rows.laid_internal_strconv_uint64pow10)]
theorem tab_of {W : World} (h : laidMet Tryd.prog laidList W) : Tab W.heap.size W := by
  obtain ⟨ps, hv, _, _⟩ := h
  refine Lib.tabBelow_of_tabIs (FR.tab_of_vars gPow gPowType Tryd.underlying59 Tryd.underlying40 cellsU64 cellsPow hv ?_)
  rw [← powData]
  exact List.Mem.tail _ (List.Mem.tail _ (List.Mem.head _))

/-- A WORLD FOR THE WITNESS: the settled one, the three tables holding what their initialisers lay. -/
noncomputable def laidWorld (os : Os) : World :=
  { World.holding Tryd.prog os ⟨#[], #[], []⟩ with
    heap := FR.layTab (FR.layTab (FR.layTab (World.holding Tryd.prog os ⟨#[], #[], []⟩).heap 0 Rows.laid_internal_strconv_uint64pow10) 1 Rows.laid_math_bits_deBruijn32tab) 2 Rows.laid_math_bits_deBruijn64tab }

theorem inW_of {a : Int} (h : (Lit.int .i64 a).wf = true) : inW a := by
  simp only [Lit.wf, IntKind.min, IntKind.max, IntKind.signed, IntKind.bits, Bool.and_eq_true, decide_eq_true_eq, if_true] at h
  unfold inW; omega
theorem all_fit {ps : Array TypeId} (h : (ps.toList.all fun t => Tryd.prog.readableRec t && decide (t < Tryd.prog.types.size)) = true) :
    ∀ t ∈ ps.toList, Tryd.prog.readableRec t = true ∧ t < Tryd.prog.types.size := fun t ht => by
  have := List.all_eq_true.1 h t ht
  simpa using this
end Go.Proofs.YtpbndfnokcmnhaaDoor
