/- Stage 3: pieces of a function being read. -/
import Derived.Test.YtjeidpfpgolonaaDoorQa
namespace Go.Proofs.YtjeidpfpgolonaaDoor
open Go.RowKit (wrap64 intOf)
open Go Go.RowKit WM LX PX

set_option maxRecDepth 100000
set_option maxHeartbeats 4000000
theorem pl_new {α : Type} {Rep : World → (Nat → Prop) → α → List Value → Prop} {sz g : Nat} {a b : World} {xs : List α} {v : Value} (h : RepL Rep sz b (Rg a.heap.size b.heap.size) xs v) (hk : Keeps Rep) (hg : g < a.heap.size) : RepL Rep sz b (Rg (g + 1) b.heap.size) xs v := h.mono hk hg (Nat.le_refl _)
theorem pl_acc {α : Type} {Rep : World → (Nat → Prop) → α → List Value → Prop} {sz g p : Nat} {a b : World} {xs : List α} {v : Value} (h : RepL Rep sz a (Rg (g + 1) a.heap.size) xs v) (hk : Keeps Rep) (hp : p < g) (hg : a.grownBy b (some p)) : RepL Rep sz b (Rg (g + 1) b.heap.size) xs v :=
  (h.acc hk hg (Nat.lt_succ_of_lt hp) (Nat.le_refl _)).mono hk (Nat.le_refl _) hg.size
theorem pl_set {α : Type} {Rep : World → (Nat → Prop) → α → List Value → Prop} {sz g i : Nat} {a : World} {xs : List α} {v : Value} (h : RepL Rep sz a (Rg (g + 1) a.heap.size) xs v) (hk : Keeps Rep) (u : Value) : RepL Rep sz (a.setCell ⟨g, i, none⟩ u) (Rg (g + 1) (a.setCell ⟨g, i, none⟩ u).heap.size) xs v :=
  h.keep hk (fun x hx => ⟨hx.1, by simp [World.setCell]; exact hx.2⟩) (fun x hx => Below.heap_setCell a _ u x (by show x ≠ g; have := hx.1; omega))
theorem pe_new {g : Nat} {a b : World} {e : PE} {cs : List Value} (h : RepE b (Rg a.heap.size b.heap.size) e cs) (hg : g < a.heap.size) : RepE b (Rg (g + 1) b.heap.size) e cs := h.mono hg (Nat.le_refl _)
theorem pe_acc {g p : Nat} {a b : World} {e : PE} {cs : List Value} (h : RepE a (Rg (g + 1) a.heap.size) e cs) (hp : p < g) (hg : a.grownBy b (some p)) : RepE b (Rg (g + 1) b.heap.size) e cs :=
  (h.grown hg (Nat.lt_succ_of_lt hp) (Nat.le_refl _)).mono (Nat.le_refl _) hg.size
theorem pe_set {g i : Nat} {a : World} {e : PE} {cs : List Value} (h : RepE a (Rg (g + 1) a.heap.size) e cs) (u : Value) : RepE (a.setCell ⟨g, i, none⟩ u) (Rg (g + 1) (a.setCell ⟨g, i, none⟩ u).heap.size) e cs :=
  h.keep (fun x hx => ⟨hx.1, by simp [World.setCell]; exact hx.2⟩) (fun x hx => Below.heap_setCell a _ u x (by show x ≠ g; have := hx.1; omega))
theorem set1_size (w : World) (q : Addr) (u : Value) : (w.setCell q u).heap.size = w.heap.size := by simp [World.setCell]
/-- A function's declaration was read. -/
def FnP (ts : List Tk) (p : Nat) (q : FN × PS) (w : World) (e : Ending) (w' : World) : Prop :=
  ∃ cs : Array Value, e = .returned (.agg cs) ∧ cs.size = 9 ∧ cs.all (·.oneCell') = true ∧ RepF w' (Rg w.heap.size w'.heap.size) q.1 cs.toList ∧ w.grownBy w' (some p) ∧ PSt ts p q.2 w'

end Go.Proofs.YtjeidpfpgolonaaDoor
