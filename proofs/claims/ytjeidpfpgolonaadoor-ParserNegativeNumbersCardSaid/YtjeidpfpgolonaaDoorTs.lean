/- A listed table of strings: its cells out of a row's own condition; that it stands while nothing below a block turns. -/
import Derived.Test.YtjeidpfpgolonaaDoorFr
import Derived.Laws.Rows
namespace Go.Proofs.YtjeidpfpgolonaaDoor.FR
open Go Go.RowKit Go.WideShapes Go.ChangeShapes

def strData {H : Type} (ss : List (List UInt8)) : DataW H := .agg (ss.map fun s => .lit (.string s))
/-- An array of strings that reads as the table holds the table's strings, cell for cell. -/
theorem cells_of_strs {H : Type} {enc : TypeId × Value → H} {P : Program} {w : World} {base : Nat} {sp : Nat → Bool} {held : Bool} {fuel : Nat} {t e : TypeId} {n : Nat} {cs : List Value} {ss : List (List UInt8)} {p : List MemPlace}
    (ht : P.underlying t = some (.array n e)) (he : P.underlying e = some .string) (hce : P.cellsOf e = 1) (hct : P.cellsOf t = n)
    (h : DataW.trod enc P w base sp held fuel t cs = some (strData ss, p)) : cs = ss.map fun s => Value.string ⟨s.toArray⟩ := by
  cases fuel with
  | zero => simp [DataW.trod] at h
  | succ fuel =>
    simp only [DataW.trod, ht, hce, hct, Nat.mul_one] at h
    split at h
    · rename_i hl
      obtain ⟨xs, hm, hx⟩ := Option.map_eq_some_iff.1 h
      have hxs : xs.map (·.1) = ss.map fun s => (DataW.lit (.string s) : DataW H) := by
        have := congrArg Prod.fst hx
        simpa [strData] using this
      have hxl : xs.length = n := by simpa using Lib.mapM_length hm
      have hzl : ss.length = n := by
        have := congrArg List.length hxs
        simp at this
        omega
      apply List.ext_getElem?
      intro i
      by_cases hi : i < n
      · obtain ⟨b, hb, hf⟩ := Lib.mapM_at hm i i (by simp [hi])
        obtain ⟨z, hc, rfl, _⟩ := DataW.trod_string he hf
        have h1 : cs[i]? = some (.string z) := by
          have := congrArg (·[0]?) hc
          simpa [List.getElem?_take, List.getElem?_drop] using this
        have h2 : (xs.map (·.1))[i]? = some (DataW.lit (.string z.data.toList) : DataW H) := by simp [hb]
        rw [hxs] at h2
        simp only [List.getElem?_map, Option.map_eq_some_iff, DataW.lit.injEq, Lit.string.injEq] at h2
        obtain ⟨z', hz', rfl⟩ := h2
        rw [h1, List.getElem?_map, hz']
        rfl
      · rw [List.getElem?_eq_none (by omega), List.getElem?_eq_none (by simp; omega)]
    · cases h
theorem strs_of_vars {P : Program} {W : World} {name : String} {ss : List (List UInt8)} {g : Nat} {t e : TypeId} {n : Nat}
    (hg : P.globalNamed name = some g) (hty : (P.globals[g]?).map (·.type) = some t) (ht : P.underlying t = some (.array n e)) (he : P.underlying e = some .string) (hce : P.cellsOf e = 1) (hct : P.cellsOf t = n) :
    ∀ {l : List (String × DataW Unit)} {ps : List MemPlace}, DataW.LaidVars P W l ps → (name, strData ss) ∈ l → W.var? P name = some (ss.map fun s => Value.string ⟨s.toArray⟩).toArray
  | [], _, _, h => by cases h
  | (n', d') :: r, _, h, hm => by
    obtain ⟨g', t', cs, fuel, p, q, hg', ht', hvar, hd, hr, _⟩ := h
    rcases List.mem_cons.1 hm with h1 | h1
    · obtain ⟨rfl, rfl⟩ := Prod.mk.inj h1
      obtain rfl := Option.some.inj (hg.symm.trans hg')
      obtain rfl := Option.some.inj (hty.symm.trans ht')
      rw [hvar, ← cells_of_strs ht he hce hct hd]
    · exact strs_of_vars hg hty ht he hce hct hr h1
/-- Block g holds just these cells, and below block B nothing will turn. -/
def TabAt (g : Nat) (cs : Array Value) (B : Nat) (w : World) : Prop := g < B ∧ ∃ t fr, w.heap[g]? = some (.cells cs t fr)
theorem TabAt.on {g : Nat} {cs : Array Value} {B : Nat} {w w' : World} (h : TabAt g cs B w) (hb : Below B w w') : TabAt g cs B w' := by
  obtain ⟨hg, t, fr, h⟩ := h
  exact ⟨hg, t, fr, (hb.block g hg).trans h⟩
theorem TabAt.up {g : Nat} {cs : Array Value} {B B' : Nat} {w : World} (h : TabAt g cs B w) (hb : B ≤ B') : TabAt g cs B' w := ⟨Nat.lt_of_lt_of_le h.1 hb, h.2⟩
theorem tabAt_of_var {P : Program} {w : World} {n : String} {g : Nat} {cs : Array Value} (hg : P.globalNamed n = some g) (h : w.var? P n = some cs) : TabAt g cs w.heap.size w := by
  simp only [World.var?, hg, Option.bind_some] at h
  cases hh : w.heap[g]? with
  | none => rw [hh] at h; cases h
  | some o =>
    rw [hh] at h
    cases o with
    | cells c t fr =>
      simp only [Option.some.injEq] at h
      subst h
      refine ⟨?_, t, fr, hh⟩
      by_cases hlt : g < w.heap.size
      · exact hlt
      · rw [Array.getElem?_eq_none (by omega)] at hh; cases hh
    | _ => cases h
end Go.Proofs.YtjeidpfpgolonaaDoor.FR
