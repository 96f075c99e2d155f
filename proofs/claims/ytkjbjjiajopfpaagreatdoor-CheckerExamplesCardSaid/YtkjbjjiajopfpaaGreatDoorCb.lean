/- Stage 4: lists in memory, read one by one; what a call may leave of the world. -/
import Derived.Test.YtkjbjjiajopfpaaGreatDoorBe
import Derived.Test.YtkjbjjiajopfpaaGreatDoorCa
import Derived.Maps.OwnOps
import Derived.Maps.Views
namespace Go.Proofs.YtkjbjjiajopfpaaGreatDoor
open Go.RowKit (wrap64 intOf)
open Go Go.RowKit WM LX PX CX

/-- A list's elements, each with its cells. -/
theorem RepL.at {α : Type} {Rep : World → (Nat → Prop) → α → List Value → Prop} {sz : Nat} {w : World} {ok : Nat → Prop} {xs : List α} {v : Value} (h : RepL Rep sz w ok xs v) :
    ∃ A c, v = .slice A xs.length c ∧ ∀ i x, xs[i]? = some x → ∃ g cs, A = some ⟨g, 0, none⟩ ∧ ok g ∧ Rep w ok x cs ∧ ∀ j u, cs[j]? = some u → w.cell? ⟨g, i * sz + j, none⟩ = some u := by
  obtain ⟨F, ⟨A, c, hv, hA⟩, hF⟩ := h
  refine ⟨A, c, hv, fun i x hx => ?_⟩
  have hi := (List.getElem?_eq_some_iff.1 hx).1
  obtain ⟨g, hg, hok, hc⟩ := hA (by omega)
  exact ⟨g, F i, hg, hok, hF i x hx, fun j u hu => hc i j u hi hu⟩
/-- What a call leaves: of the old blocks none has turned, or the block m alone. -/
abbrev Kp (m : Option Nat) (w w' : World) : Prop := w.grownBy w' m
theorem kp_below {w w' : World} (h : Below w.heap.size w w') (m : Option Nat) : Kp m w w' := ⟨h.os, h.tape, h.output, h.size, fun i hi _ => h.block i hi⟩
theorem below_kp {w w' : World} (h : Kp none w w') : Below w.heap.size w w' := ⟨h.os, h.tape, h.output, h.size, fun i hi => h.block i hi (by simp)⟩
theorem kp_to {m : Option Nat} {a b c : World} (h : Kp m a b) (k : Kp m b c) : Kp m a c := grown_to h k
theorem kp_al {m : Option Nat} {a w : World} (h : Kp m a w) (o : Obj) : Kp m a (w.alloc o) := grown_al h o
theorem kp_dr {m : Option Nat} {a w : World} (h : Kp m a w) (n : Nat) : Kp m a (w.drewN n) := ⟨h.os, h.tape, h.output, h.size, h.block⟩
/-- A relation that whatever leaves the old blocks as they were keeps. -/
def Easy (I : World → Prop) : Prop := ∀ w w', I w → Below w.heap.size w w' → I w'
theorem easy_kp (m : Option Nat) (a : World) : Easy (Kp m a) := fun _ _ h hb => kp_to h (kp_below hb m)
/-- A load of a row of cells that begins anywhere in a block. -/
theorem wpList_load_at {P : Program} {ops : Array Oper} {rest : List Oper} {o : Oper} {a : Act} {w : World} {Q : Exit → Act → World → Prop} (hgd : o.guard = none) (ty : TypeId) (x : Operand) (ho : o.op = .load ty x)
    (g off : Nat) (hx : a.eval x = .pointer (some ⟨g, off, none⟩)) (cs : List Value) (hc : ∀ j u, cs[j]? = some u → w.cell? ⟨g, off + j, none⟩ = some u) (d : TypeDesc)
    (hu : P.underlying ty = some d) (hd : (match d with | .struct _ | .array _ _ => true | _ => false) = true) (hi : (P.info? ty).map (·.size) = some cs.length)
    (h : wpList P ops Q rest (a.put o.dst (.agg cs.toArray)) w) : wpList P ops Q (o :: rest) a w := by
  refine wpList_plain hgd fun _ hK => ?_
  have hl : (loadCells ⟨g, off, none⟩ cs.length).run P w = .ok cs.toArray w :=
    run_loadCells_list (P := P) w ⟨g, off, none⟩ cs (fun j v hv => by
      have hadd : (⟨g, off, none⟩ : Addr).add j = ⟨g, off + j, none⟩ := by unfold Addr.add; split <;> simp_all
      rw [hadd]; exact hc j v hv)
  have hrun : (loadVar ty ⟨g, off, none⟩).run P w = .ok (.agg cs.toArray) w := by
    cases hq : P.info? ty with
    | none => simp [hq] at hi
    | some i =>
      have hs : i.size = cs.length := by simpa [hq] using hi
      have hagg : (isAgg ty).run P w = .ok true w := by
        unfold isAgg
        rw [Sem.run_bind, run_underlying hu w]
        cases d <;> simp_all
      simp [loadVar, Sem.run_bind, hagg, sizeOf, typeInfo, hq, hs, hl]
  unfold Oper.wp execOp
  simp only [ho, hx, Instr.loadAt, Instr.sureAddr, Sem.run_bind, Sem.run_pure, Result.andThen_ok, hrun]
  exact hK _ _ h
/-- Returned b, and the invariant. -/
def RetI (v : Value) (I : World → Prop) (e : Ending) (w' : World) : Prop := e = .returned v ∧ I w'
theorem retI {v v' : Value} {I : World → Prop} {w' : World} (h : v' = v) (hI : I w') : RetI v I (.returned v') w' := ⟨by rw [h], hI⟩
theorem blk_row {w : World} {g : Nat} {t : TypeId} {cs0 : Array Value} (h : Blk w g t cs0) (cs : Array Value) : Blk (w.setRow g cs) g t cs := by
  unfold Blk at h ⊢
  simp [World.setRow, Array.getElem?_modify, h]
theorem below_row {w w1 : World} {B g : Nat} (h : Below B w w1) (hg : B ≤ g) (cs : Array Value) : Below B w (w1.setRow g cs) :=
  ⟨h.os, h.tape, h.output, by simpa [World.setRow] using h.size, fun i hi => by
    have hne : g ≠ i := by omega
    have e : (w1.setRow g cs).heap[i]? = w1.heap[i]? := by simp [World.setRow, Array.getElem?_modify, hne]
    exact e.trans (h.block i hi)⟩
/-- The elements' readings are good for a copy: so many cells, each a value of one cell. -/
def Ones {α : Type} (Rep : World → (Nat → Prop) → α → List Value → Prop) (sz : Nat) : Prop := ∀ w ok x cs, Rep w ok x cs → cs.length = sz ∧ cs.toArray.all (·.oneCell') = true
/-- What calls keep, by how much they may have done; the blocks that are ok stand as they stood at w0. -/
structure Inv (I : Nat → World → Prop) (ok : Nat → Prop) (m : Option Nat) (w0 : World) : Prop where
  lo : ∀ c w, I c w → ∀ b, m = some b → b < w.heap.size
  easy : ∀ c, Easy (I c)
  mono : ∀ c c' w, I c w → c ≤ c' → I c' w
  ok : ∀ c w, I c w → ∀ b, ok b → b < w.heap.size ∧ w.heap[b]? = w0.heap[b]?
/-- Returned, the invariant, and but for the block m nothing of what was there at w has turned. -/
def RetK (v : Value) (m : Option Nat) (w : World) (I : World → Prop) : Ending → World → Prop := RetI v fun w' => I w' ∧ Kp m w w'
theorem retK {v v' : Value} {m : Option Nat} {w : World} {I : World → Prop} {w' : World} (h : v' = v) (hI : I w') (hk : Kp m w w') : RetK v m w I (.returned v') w' := ⟨by rw [h], hI, hk⟩
/-- A test of x: it answers p x and keeps the invariant. -/
def Tst {α : Type} (P : Program) (Rep : World → (Nat → Prop) → α → List Value → Prop) (ok : Nat → Prop) (I : Nat → World → Prop) (m : Option Nat) (g : Nat) (pre lb : Array Value) (p : α → Bool) (f : α → Nat) (x : α) : Prop :=
  ∀ cs w c, c + (1 + f x) ≤ 1000000000000 → I c w → Rep w ok x cs → Calls P g (pre.push (.agg cs.toArray) ++ lb) w (RetK (.bool (p x)) m w (I (c + (1 + f x))))
theorem Inv.and {I : Nat → World → Prop} {ok : Nat → Prop} {m : Option Nat} {w0 : World} (h : Inv I ok m w0) (w1 : World) : Inv (fun c w => I c w ∧ Kp m w1 w) ok m w0 :=
  ⟨fun c w hI => h.lo c w hI.1, fun c w w' hI hb => ⟨h.easy c w w' hI.1 hb, kp_to hI.2 (kp_below hb m)⟩, fun c c' w hI hc => ⟨h.mono c c' w hI.1 hc, hI.2⟩, fun c w hI => h.ok c w hI.1⟩
theorem Tst.and {α : Type} {P : Program} {Rep : World → (Nat → Prop) → α → List Value → Prop} {ok : Nat → Prop} {I : Nat → World → Prop} {m : Option Nat} {g : Nat} {pre lb : Array Value} {p : α → Bool} {f : α → Nat} {x : α}
    (h : Tst P Rep ok I m g pre lb p f x) (w1 : World) : Tst P Rep ok (fun c w => I c w ∧ Kp m w1 w) m g pre lb p f x :=
  fun cs w c hc hI hr => (h cs w c hc hI.1 hr).mono fun _ _ k => ⟨k.1, ⟨k.2.1, kp_to hI.2 k.2.2⟩, k.2.2⟩
/-- A test of a name. -/
def TstN (P : Program) (I : Nat → World → Prop) (m : Option Nat) (g : Nat) (pre lb : Array Value) (p : List UInt8 → Bool) (x : List UInt8) : Prop :=
  ∀ w c, c + (1 + x.length) ≤ 1000000000000 → I c w → Calls P g (pre.push (.string ⟨x.toArray⟩) ++ lb) w (RetK (.bool (p x)) m w (I (c + (1 + x.length))))
theorem TstN.and {P : Program} {I : Nat → World → Prop} {m : Option Nat} {g : Nat} {pre lb : Array Value} {p : List UInt8 → Bool} {x : List UInt8} (h : TstN P I m g pre lb p x) (w1 : World) : TstN P (fun c w => I c w ∧ Kp m w1 w) m g pre lb p x :=
  fun w c hc hI => (h w c hc hI.1).mono fun _ _ k => ⟨k.1, ⟨k.2.1, kp_to hI.2 k.2.2⟩, k.2.2⟩
def EvR {α : Type} (I : Nat → World → Prop) (f : α → Nat) (c : Nat) (q : α → Prop) (xs : List α) (len k : Nat) (i : Value) (wr : World) : Prop :=
  ∃ j : Nat, j + k = len ∧ i = .int .i64 (j : Int) ∧ Hid (I (c + sumL f (xs.take j)) wr) ∧ Hid (∀ (m : Nat) (x : α), m < j → xs[m]? = some x → q x)
theorem evR {α : Type} {I : Nat → World → Prop} {f : α → Nat} {c : Nat} {q : α → Prop} {xs : List α} {len j k : Nat} {wr : World} (h : j + k = len) (hI : I (c + sumL f (xs.take j)) wr) (hq : ∀ (m : Nat) (x : α), m < j → xs[m]? = some x → q x) : EvR I f c q xs len k (.int .i64 (j : Int)) wr := ⟨j, h, rfl, Lib.hid hI, Lib.hid hq⟩
theorem ev_step {α : Type} {q : α → Prop} {xs : List α} {j : Nat} {x : α} (h : ∀ (m : Nat) (x : α), m < j → xs[m]? = some x → q x) (hx : xs[j]? = some x) (hq : q x) : ∀ (m : Nat) (x : α), m < j + 1 → xs[m]? = some x → q x := fun m y hm hy => by
  by_cases e : m = j
  · subst e
    rw [hx] at hy
    injection hy with hy
    exact hy ▸ hq
  · exact h m y (by omega) hy
/-- An index, or below 0, and the invariant. -/
def IdxP (b : Bool) (I : World → Prop) (e : Ending) (w' : World) : Prop := ∃ n : Int, e = .returned (.int .i64 n) ∧ decide (0 ≤ n) = b ∧ I w'
theorem all_upto {α : Type} (p : α → Bool) (xs : List α) (k : Nat) (x : α) (hx : xs[k]? = some x) (hp : p x = false) : xs.all p = false := by
  rw [List.all_eq_false]
  exact ⟨x, List.mem_of_getElem? hx, by rw [hp]; decide⟩
theorem all_done {α : Type} (p : α → Bool) (xs : List α) (h : ∀ (j : Nat) (x : α), xs[j]? = some x → p x = true) : xs.all p = true := by
  rw [List.all_eq_true]
  intro x hx
  obtain ⟨j, hj⟩ := List.getElem?_of_mem hx
  exact h j x hj
theorem any_upto {α : Type} (p : α → Bool) (xs : List α) (k : Nat) (x : α) (hx : xs[k]? = some x) (hp : p x = true) : xs.any p = true := by
  rw [List.any_eq_true]
  exact ⟨x, List.mem_of_getElem? hx, hp⟩
theorem any_done {α : Type} (p : α → Bool) (xs : List α) (h : ∀ (j : Nat) (x : α), xs[j]? = some x → p x = false) : xs.any p = false := by
  rw [List.any_eq_false]
  intro x hx
  obtain ⟨j, hj⟩ := List.getElem?_of_mem hx
  rw [h j x hj]
  decide
end Go.Proofs.YtkjbjjiajopfpaaGreatDoor
