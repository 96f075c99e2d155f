/- Stage 3: statements in memory. -/
import Derived.Test.YtjeidpfpgolonaaDoorPl
namespace Go.Proofs.YtjeidpfpgolonaaDoor
open Go.RowKit (wrap64 intOf)
open Go Go.RowKit WM LX PX

abbrev stC (kd : Int) (nm to : List UInt8) (num : Int) (k1 n1 : Int) (x1 : List UInt8) (o1 : Int) (A1 : Option Addr) (L1 c1 : Nat) (k2 n2 : Int) (x2 : List UInt8) (o2 : Int) (A2 : Option Addr) (L2 c2 : Nat) (A3 : Option Addr) (L3 c3 : Nat) (A4 : Option Addr) (L4 c4 : Nat) (A5 : Option Addr) (L5 c5 : Nat) : List Value := [.int .i64 kd, .string ⟨nm.toArray⟩, .string ⟨to.toArray⟩, .int .i64 num, .int .i64 k1, .int .i64 n1, .string ⟨x1.toArray⟩, .int .i64 o1, .slice A1 L1 c1, .int .i64 k2, .int .i64 n2, .string ⟨x2.toArray⟩, .int .i64 o2, .slice A2 L2 c2, .slice A3 L3 c3, .slice A4 L4 c4, .slice A5 L5 c5]
abbrev stV (kd : Int) (nm to : List UInt8) (num : Int) (k1 n1 : Int) (x1 : List UInt8) (o1 : Int) (A1 : Option Addr) (L1 c1 : Nat) (k2 n2 : Int) (x2 : List UInt8) (o2 : Int) (A2 : Option Addr) (L2 c2 : Nat) (A3 : Option Addr) (L3 c3 : Nat) (A4 : Option Addr) (L4 c4 : Nat) (A5 : Option Addr) (L5 c5 : Nat) : Value := .agg #[.int .i64 kd, .string ⟨nm.toArray⟩, .string ⟨to.toArray⟩, .int .i64 num, .int .i64 k1, .int .i64 n1, .string ⟨x1.toArray⟩, .int .i64 o1, .slice A1 L1 c1, .int .i64 k2, .int .i64 n2, .string ⟨x2.toArray⟩, .int .i64 o2, .slice A2 L2 c2, .slice A3 L3 c3, .slice A4 L4 c4, .slice A5 L5 c5]
abbrev st0 : Array Value := #[.int .i64 0, .string ⟨#[]⟩, .string ⟨#[]⟩, .int .i64 0, .int .i64 0, .int .i64 0, .string ⟨#[]⟩, .int .i64 0, .slice none 0 0, .int .i64 0, .int .i64 0, .string ⟨#[]⟩, .int .i64 0, .slice none 0 0, .slice none 0 0, .slice none 0 0, .slice none 0 0]
/-- The seventeen cells of a statement. -/
inductive RepS (w : World) (ok : Nat → Prop) : ST → List Value → Prop where
  | mk (kd : Int) (nm to : List UInt8) (n : Int) (pos value : PE) (args : List PE) (thn els : List ST) (cp cv : List Value) (va vt ve : Value) (F G : Nat → List Value)
      (hp : RepE w ok pos cp) (hv : RepE w ok value cv) (ha : RepL RepE 5 w ok args va) (ht : RowF w ok thn.length 17 F vt) (he : RowF w ok els.length 17 G ve)
      (hkt : ∀ (i : Nat) (s : ST), thn[i]? = some s → RepS w ok s (F i)) (hke : ∀ (i : Nat) (s : ST), els[i]? = some s → RepS w ok s (G i)) :
      RepS w ok (.mk kd nm to n pos value args thn els) ([.int .i64 kd, .string ⟨nm.toArray⟩, .string ⟨to.toArray⟩, .int .i64 n] ++ cp ++ cv ++ [va, vt, ve])
theorem RepS.keep {w w' : World} {ok ok' : Nat → Prop} {s : ST} {cs : List Value} (h : RepS w ok s cs) (hok : ∀ g, ok g → ok' g) (hw : ∀ g, ok g → w'.heap[g]? = w.heap[g]?) : RepS w' ok' s cs := by
  induction h with
  | mk kd nm to n pos value args thn els cp cv va vt ve F G hp hv ha ht he hkt hke iht ihe =>
    exact RepS.mk kd nm to n pos value args thn els cp cv va vt ve F G (hp.keep hok hw) (hv.keep hok hw) (ha.keep keepsE hok hw) (ht.keep hok hw) (he.keep hok hw) iht ihe
theorem keepsS : Keeps RepS := ⟨fun h hok hw => h.keep hok hw⟩
theorem repS_mk {w : World} {ok : Nat → Prop} {pos value : PE} {args : List PE} {thn els : List ST} {kd : Int} {nm to : List UInt8} {num : Int} {k1 n1 : Int} {x1 : List UInt8} {o1 : Int} {A1 : Option Addr} {L1 c1 : Nat} {k2 n2 : Int} {x2 : List UInt8} {o2 : Int} {A2 : Option Addr} {L2 c2 : Nat} {A3 : Option Addr} {L3 c3 : Nat} {A4 : Option Addr} {L4 c4 : Nat} {A5 : Option Addr} {L5 c5 : Nat} (hp : RepE w ok pos (exC k1 n1 x1 o1 A1 L1 c1)) (hv : RepE w ok value (exC k2 n2 x2 o2 A2 L2 c2)) (ha : RepL RepE 5 w ok args (.slice A3 L3 c3)) (ht : RepL RepS 17 w ok thn (.slice A4 L4 c4)) (he : RepL RepS 17 w ok els (.slice A5 L5 c5)) :
    RepS w ok (.mk kd nm to num pos value args thn els) (stC kd nm to num k1 n1 x1 o1 A1 L1 c1 k2 n2 x2 o2 A2 L2 c2 A3 L3 c3 A4 L4 c4 A5 L5 c5) := by
  obtain ⟨F, h1, h2⟩ := ht
  obtain ⟨G, h3, h4⟩ := he
  exact RepS.mk kd nm to num pos value args thn els _ _ _ _ _ F G hp hv ha h1 h3 h2 h4
/-- A statement was read. -/
def StP (ts : List Tk) (p : Nat) (q : ST × PS) (w : World) (e : Ending) (w' : World) : Prop :=
  ∃ (kd : Int) (nm to : List UInt8) (num : Int) (k1 n1 : Int) (x1 : List UInt8) (o1 : Int) (A1 : Option Addr) (L1 c1 : Nat) (k2 n2 : Int) (x2 : List UInt8) (o2 : Int) (A2 : Option Addr) (L2 c2 : Nat) (A3 : Option Addr) (L3 c3 : Nat) (A4 : Option Addr) (L4 c4 : Nat) (A5 : Option Addr) (L5 c5 : Nat), e = .returned (stV kd nm to num k1 n1 x1 o1 A1 L1 c1 k2 n2 x2 o2 A2 L2 c2 A3 L3 c3 A4 L4 c4 A5 L5 c5) ∧ RepS w' (Rg w.heap.size w'.heap.size) q.1 (stC kd nm to num k1 n1 x1 o1 A1 L1 c1 k2 n2 x2 o2 A2 L2 c2 A3 L3 c3 A4 L4 c4 A5 L5 c5) ∧ w.grownBy w' (some p) ∧ PSt ts p q.2 w'
theorem stSize : (Tryd.prog.info? 88).map (·.size) = some 17 := by kernel_rfl
theorem row_size (w : World) (g : Nat) (cs : Array Value) : (w.setRow g cs).heap.size = w.heap.size := by simp [World.setRow]
theorem row_far (w : World) (g : Nat) (cs : Array Value) (x : Nat) (hx : x ≠ g) : (w.setRow g cs).heap[x]? = w.heap[x]? := by
  simp [World.setRow, Array.getElem?_modify, hx.symm]
theorem row_blk {w : World} {g : Nat} {t : TypeId} {cs0 : Array Value} (h : Blk w g t cs0) (cs : Array Value) : Blk (w.setRow g cs) g t cs := by
  unfold Blk at h ⊢
  simp [World.setRow, Array.getElem?_modify, h]
theorem row_below {w w1 : World} {B g : Nat} (h : Below B w w1) (hg : B ≤ g) (cs : Array Value) : Below B w (w1.setRow g cs) :=
  ⟨h.os, h.tape, h.output, by rw [row_size]; exact h.size, fun i hi => (row_far w1 g cs i (by omega)).trans (h.block i hi)⟩
theorem row_grown {w w1 : World} {p g : Nat} (h : w.grownBy w1 (some p)) (hg : w.heap.size ≤ g) (cs : Array Value) : w.grownBy (w1.setRow g cs) (some p) :=
  ⟨h.os, h.tape, h.output, by rw [row_size]; exact h.size, fun i hi hne => (row_far w1 g cs i (by omega)).trans (h.block i hi hne)⟩
theorem row_pst {ts : List Tk} {p g : Nat} {q : PS} {w1 : World} (h : PSt ts p q w1) (hg : p < g) (cs : Array Value) : PSt ts p q (w1.setRow g cs) := by
  have hb := row_below (Below.refl (p + 1) w1) (g := g) hg cs
  obtain ⟨A, c, h1, h2, h3, h4⟩ := h
  exact ⟨A, c, h1.on hb (Nat.lt_succ_self _), h2.on (below_down hb (Nat.le_succ _)), h3.on (below_down hb (Nat.le_succ _)), h4⟩
theorem Own.row {ts : List Tk} {p : Nat} {q : PS} {t : TypeId} {cs0 : Array Value} {w w1 : World} (o : Own ts p q t cs0 w w1) (cs : Array Value) : Own ts p q t cs w (w1.setRow w.heap.size cs) :=
  ⟨row_grown o.g (Nat.le_refl _) cs, row_pst o.s o.p cs, row_blk o.r cs, o.p⟩
theorem Own.fin17 {ts : List Tk} {p : Nat} {q : PS} {t : TypeId} {w w1 : World} {cs0 : Array Value} (o : Own ts p q t cs0 w w1) {st : ST} {kd : Int} {nm to : List UInt8} {num : Int} {k1 n1 : Int} {x1 : List UInt8} {o1 : Int} {A1 : Option Addr} {L1 c1 : Nat} {k2 n2 : Int} {x2 : List UInt8} {o2 : Int} {A2 : Option Addr} {L2 c2 : Nat} {A3 : Option Addr} {L3 c3 : Nat} {A4 : Option Addr} {L4 c4 : Nat} {A5 : Option Addr} {L5 c5 : Nat} (hr : RepS w1 (Rg (w.heap.size + 1) w1.heap.size) st (stC kd nm to num k1 n1 x1 o1 A1 L1 c1 k2 n2 x2 o2 A2 L2 c2 A3 L3 c3 A4 L4 c4 A5 L5 c5)) :
    Blk (w1.setRow w.heap.size #[.int .i64 kd, .string ⟨nm.toArray⟩, .string ⟨to.toArray⟩, .int .i64 num, .int .i64 k1, .int .i64 n1, .string ⟨x1.toArray⟩, .int .i64 o1, .slice A1 L1 c1, .int .i64 k2, .int .i64 n2, .string ⟨x2.toArray⟩, .int .i64 o2, .slice A2 L2 c2, .slice A3 L3 c3, .slice A4 L4 c4, .slice A5 L5 c5]) w.heap.size t #[.int .i64 kd, .string ⟨nm.toArray⟩, .string ⟨to.toArray⟩, .int .i64 num, .int .i64 k1, .int .i64 n1, .string ⟨x1.toArray⟩, .int .i64 o1, .slice A1 L1 c1, .int .i64 k2, .int .i64 n2, .string ⟨x2.toArray⟩, .int .i64 o2, .slice A2 L2 c2, .slice A3 L3 c3, .slice A4 L4 c4, .slice A5 L5 c5] ∧ StP ts p (st, q) w (.returned (stV kd nm to num k1 n1 x1 o1 A1 L1 c1 k2 n2 x2 o2 A2 L2 c2 A3 L3 c3 A4 L4 c4 A5 L5 c5)) (w1.setRow w.heap.size #[.int .i64 kd, .string ⟨nm.toArray⟩, .string ⟨to.toArray⟩, .int .i64 num, .int .i64 k1, .int .i64 n1, .string ⟨x1.toArray⟩, .int .i64 o1, .slice A1 L1 c1, .int .i64 k2, .int .i64 n2, .string ⟨x2.toArray⟩, .int .i64 o2, .slice A2 L2 c2, .slice A3 L3 c3, .slice A4 L4 c4, .slice A5 L5 c5]) :=
  ⟨row_blk o.r _, _, _, _, _, _, _, _, _, _, _, _, _, _, _, _, _, _, _, _, _, _, _, _, _, _, _, _, rfl, hr.keep (fun g h => ⟨Nat.le_trans (Nat.le_succ _) h.1, by rw [row_size]; exact h.2⟩) (fun g h => row_far _ _ _ _ (by have := h.1; omega)), row_grown o.g (Nat.le_refl _) _, row_pst o.s o.p _⟩
section
variable {w w' : World} {lo hi p : Nat} {e : ST} {cs : List Value}
theorem RepS.mono {lo' hi' : Nat} (h : RepS w (Rg lo hi) e cs) (h1 : lo' ≤ lo) (h2 : hi ≤ hi') : RepS w (Rg lo' hi') e cs := h.keep (fun _ hg => ⟨Nat.le_trans h1 hg.1, Nat.lt_of_lt_of_le hg.2 h2⟩) (fun _ _ => rfl)
end
end Go.Proofs.YtjeidpfpgolonaaDoor
