/- What all laws of the seat share: closed facts on the program, the lexer's table out of a row's list, the world of the witness, slices of integers that come in. -/
import Derived.Test.YtidlacfmcpppoaaDoorCards
import Derived.Test.YtidlacfmcpppoaaDoorTie
import Derived.Test.YtidlacfmcpppoaaDoorLp
import Derived.OpenShut
import Derived.ChangeSlices
import Derived.Deep.DeepHandedRow
namespace Go.Proofs.YtidlacfmcpppoaaDoor
open Go Go.RowKit Go.ChangeShapes Go.WideShapes WM LX

theorem own : ownKnob Tryd.prog.godebug = none := by kernel_rfl
theorem laidOut : laidOutB Tryd.prog = true := by kernel_rfl
theorem gLong : Tryd.prog.globalNamed "fulling/lexer.longSymbols" = some 0 := by kernel_rfl
theorem gLongType : (Tryd.prog.globals[0]?).map (·.type) = some 91 := by kernel_rfl
theorem cellsLong : Tryd.prog.cellsOf 91 = 7 := by kernel_rfl
theorem cellsStr : Tryd.prog.cellsOf 9 = 1 := by kernel_rfl
theorem cellsInt : Tryd.prog.cellsOf 3 = 1 := by kernel_rfl
theorem longData : (Rows.laid_fulling_lexer_longSymbols : DataW Unit) = FR.strData longs := by kernel_rfl
abbrev laidList : List (String × DataW Unit) := [("fulling/lexer.longSymbols", Rows.laid_fulling_lexer_longSymbols)]
theorem tab_of {W : World} (h : laidMet Tryd.prog laidList W) : Tab W.heap.size W := by
  obtain ⟨ps, hv, _, _⟩ := h
  refine FR.tabAt_of_var gLong (FR.strs_of_vars (ss := longs) gLong gLongType Tryd.underlying91 Tryd.underlying9 cellsStr cellsLong hv ?_)
  rw [← longData]
  exact List.Mem.head _
def strV : DataW Unit → Value
  | .lit (.string s) => .string ⟨s.toArray⟩
  | _ => .bool false
def strCells : DataW Unit → Array Value
  | .agg xs => (xs.map strV).toArray
  | _ => #[]
def layStrs (h : Array Obj) (g : Nat) (d : DataW Unit) : Array Obj := h.modify g fun
  | .cells _ t frozen => .cells (strCells d) t frozen
  | o => o
/-- A WORLD FOR THE WITNESS: the settled one, the table holding what its initialiser lays. -/
noncomputable def laidWorld (os : Os) : World :=
  { World.holding Tryd.prog os ⟨#[], #[], []⟩ with
    heap := layStrs (World.holding Tryd.prog os ⟨#[], #[], []⟩).heap 0 Rows.laid_fulling_lexer_longSymbols }

theorem inW_of {a : Int} (h : (Lit.int .i64 a).wf = true) : inW a := by
  simp only [Lit.wf, IntKind.min, IntKind.max, IntKind.signed, IntKind.bits, Bool.and_eq_true, decide_eq_true_eq, if_true] at h
  unfold inW; omega
theorem all_fit {ps : Array TypeId} (h : (ps.toList.all fun t => Tryd.prog.readableRec t && decide (t < Tryd.prog.types.size)) = true) :
    ∀ t ∈ ps.toList, Tryd.prog.readableRec t = true ∧ t < Tryd.prog.types.size := fun t ht => by
  have := List.all_eq_true.1 h t ht
  simpa using this
/-- A slice of integers that came in: its form, and that it holds integers. -/
theorem open_intsA {H : Type} {enc : TypeId × Value → H} {w : World} {r : Reach} {b0 base : Nat} {sp : Nat → Bool} {held : Bool} {v : Value} {d : DataW H} {ps : List MemPlace}
    (hval : Value.okWide Tryd.prog w r b0 32 v) (hd : DataW.Trod enc Tryd.prog w base sp held 32 v d ps) (hlt : ∀ x ∈ ps, x.block < w.heap.size) :
    ∃ A n c, v = .slice A n c ∧ n ≤ maxLen ∧ Ints w w.heap.size A n := by
  obtain ⟨A, n, c, rfl⟩ := okWide_slice Tryd.underlying32 hval
  refine ⟨A, n, c, rfl, ?_⟩
  obtain ⟨fuel, hf⟩ := hd
  rcases open_ints Tryd.underlying32 Tryd.underlying3 cellsInt hf with ⟨h1, _⟩ | ⟨a, len, cap, zs, h1, _, hl, hc, hz, hx, hcell, _⟩
  · have h2 : Value.slice A n c = .slice none 0 0 := by simpa [Value.cells] using h1
    injection h2 with h3 h4 h5
    subst h4
    exact ⟨Nat.zero_le _, fun k hk => absurd hk (Nat.not_lt_zero k)⟩
  · have h2 : Value.slice A n c = .slice (some a) len cap := by simpa [Value.cells] using h1
    injection h2 with h3 h4 h5
    subst h3 h4 h5
    refine ⟨Nat.le_trans hl hc, fun k hk => ?_⟩
    have hk2 : k < zs.length := by rw [hz]; split <;> omega
    refine ⟨a, _, rfl, ?_, hcell k hk2⟩
    have hp : ps = MemPlace.row a zs.length := congrArg Prod.snd hx
    have hm : MemPlace.cell a.block (a.off + k) ∈ ps := by
      rw [hp]; unfold MemPlace.row
      exact List.mem_map.2 ⟨k, List.mem_range.2 hk2, rfl⟩
    exact hlt _ hm
end Go.Proofs.YtidlacfmcpppoaaDoor
