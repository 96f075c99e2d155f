/- Stage 3: expressions in memory. -/
import Derived.Test.YtjeidpfpgolonaaDoorPa
namespace Go.Proofs.YtjeidpfpgolonaaDoor
open Go.RowKit (wrap64 intOf)
open Go Go.RowKit WM LX PX

abbrev exV (kind n : Int) (name : List UInt8) (op : Int) (A : Option Addr) (L c : Nat) : Value := .agg #[.int .i64 kind, .int .i64 n, .string ⟨name.toArray⟩, .int .i64 op, .slice A L c]
abbrev exC (kind n : Int) (name : List UInt8) (op : Int) (A : Option Addr) (L c : Nat) : List Value := [.int .i64 kind, .int .i64 n, .string ⟨name.toArray⟩, .int .i64 op, .slice A L c]
/-- Blocks from lo on, below hi. -/
abbrev Rg (lo hi g : Nat) : Prop := lo ≤ g ∧ g < hi
/-- The five cells of an expression; its kids lie in blocks that are ok. -/
inductive RepE (w : World) (ok : Nat → Prop) : PE → List Value → Prop where
  | mk (kind n : Int) (name : List UInt8) (op : Int) (kids : List PE) (A : Option Addr) (c g : Nat) (F : Nat → List Value)
      (hA : kids ≠ [] → A = some ⟨g, 0, none⟩ ∧ ok g)
      (hc : ∀ i j u, i < kids.length → (F i)[j]? = some u → w.cell? ⟨g, i * 5 + j, none⟩ = some u)
      (hk : ∀ i e, kids[i]? = some e → RepE w ok e (F i)) :
      RepE w ok (.mk kind n name op kids) (exC kind n name op A kids.length c)
theorem RepE.keep {w w' : World} {ok ok' : Nat → Prop} {e : PE} {cs : List Value} (h : RepE w ok e cs) (hok : ∀ g, ok g → ok' g) (hw : ∀ g, ok g → w'.heap[g]? = w.heap[g]?) : RepE w' ok' e cs := by
  induction h with
  | mk kind n name op kids A c g F hA hc hk ih =>
    refine RepE.mk kind n name op kids A c g F (fun h => ⟨(hA h).1, hok _ (hA h).2⟩) (fun i j u hi hu => ?_) ih
    have hne : kids ≠ [] := fun h => by rw [h] at hi; exact absurd hi (Nat.not_lt_zero i)
    exact (World.cell?_of_block (hw g (hA hne).2)).trans (hc i j u hi hu)
theorem repE_leaf (w : World) (ok : Nat → Prop) (kind n : Int) (name : List UInt8) (op : Int) (A : Option Addr) (c : Nat) : RepE w ok (.mk kind n name op []) (exC kind n name op A 0 c) :=
  RepE.mk kind n name op [] A c 0 (fun _ => []) (fun h => absurd rfl h) (fun i _ _ hi => absurd hi (Nat.not_lt_zero i)) (fun i e h => by simp at h)
theorem flat_at (k : Nat) : ∀ (css : List (List Value)), (∀ cs ∈ css, cs.length = k) → ∀ i j u cs, css[i]? = some cs → cs[j]? = some u → css.flatten[i * k + j]? = some u := fun css => by
  induction css with
  | nil => intro _ i j u cs h; simp at h
  | cons a r ih =>
    intro h5 i j u cs hi hj
    have ha := h5 a (by simp)
    rw [List.flatten_cons]
    cases i with
    | zero =>
      obtain rfl : a = cs := by simpa using hi
      have : j < a.length := (List.getElem?_eq_some_iff.1 hj).1
      rw [Nat.zero_mul, Nat.zero_add, List.getElem?_append_left this]; exact hj
    | succ i =>
      have := ih (fun cs h => h5 cs (by simp [h])) i j u cs (by simpa using hi) hj
      rw [List.getElem?_append_right (by rw [ha, Nat.add_mul]; omega), show (i + 1) * k + j - a.length = i * k + j by rw [ha, Nat.add_mul]; omega]; exact this
/-- Kids in a block whose cells are known. -/
theorem repE_node {w : World} {ok : Nat → Prop} {kids : List PE} {css : List (List Value)} {g : Nat} (hl : kids.length = css.length) (h5 : ∀ cs ∈ css, cs.length = 5)
    (hb : ∀ (j : Nat) (u : Value), css.flatten[j]? = some u → w.cell? ⟨g, j, none⟩ = some u) (hg : ok g) (hk : ∀ (i : Nat) (e : PE) (cs : List Value), kids[i]? = some e → css[i]? = some cs → RepE w ok e cs) (kind n : Int) (name : List UInt8) (op : Int) (c : Nat) :
    RepE w ok (.mk kind n name op kids) (exC kind n name op (some ⟨g, 0, none⟩) kids.length c) := by
  refine RepE.mk kind n name op kids _ c g (fun i => css.getD i []) (fun _ => ⟨rfl, hg⟩) (fun i j u hi hu => ?_) (fun i e he => ?_)
  · have hi2 : i < css.length := by omega
    have hci : css[i]? = some (css.getD i []) := by rw [List.getD_eq_getElem?_getD, List.getElem?_eq_getElem hi2]; rfl
    exact hb _ _ (flat_at 5 css h5 i j u _ hci hu)
  · have hi2 : i < css.length := by have := (List.getElem?_eq_some_iff.1 he).1; omega
    exact hk i e _ he (by rw [List.getD_eq_getElem?_getD, List.getElem?_eq_getElem hi2]; rfl)
theorem blk_cells {w : World} {g : Nat} {t : TypeId} {cs : Array Value} {l : List Value} (h : Blk w g t cs) (hl : cs = l.toArray) (j : Nat) (u : Value) (hu : l[j]? = some u) : w.cell? ⟨g, j, none⟩ = some u := by
  rw [h.cell j, hl]; simpa using hu
theorem repE_1 {w : World} {ok : Nat → Prop} {a : PE} {ca : List Value} {g c : Nat} {t : TypeId} {cs : Array Value} (hb : Blk w g t cs) (hcs : cs = ca.toArray) (hg : ok g) (ha : RepE w ok a ca) (h5 : ca.length = 5) (kind n : Int) (name : List UInt8) (op : Int) :
    RepE w ok (.mk kind n name op [a]) (exC kind n name op (some ⟨g, 0, none⟩) 1 c) :=
  repE_node (kids := [a]) (css := [ca]) rfl (by simpa using h5) (fun j u hu => blk_cells hb hcs j u (by simpa using hu)) hg (fun i e cs he hc => by
    match i with
    | 0 => simp at he hc; subst he hc; exact ha
    | i + 1 => simp at he) kind n name op c
theorem repE_2 {w : World} {ok : Nat → Prop} {a b : PE} {ca cb : List Value} {g c : Nat} {t : TypeId} {cs : Array Value} (hb : Blk w g t cs) (hcs : cs = (ca ++ cb).toArray) (hg : ok g) (ha : RepE w ok a ca) (hb' : RepE w ok b cb) (h5 : ca.length = 5) (h6 : cb.length = 5) (kind n : Int) (name : List UInt8) (op : Int) :
    RepE w ok (.mk kind n name op [a, b]) (exC kind n name op (some ⟨g, 0, none⟩) 2 c) :=
  repE_node (kids := [a, b]) (css := [ca, cb]) rfl (by simpa using ⟨h5, h6⟩) (fun j u hu => blk_cells hb hcs j u (by simpa using hu)) hg (fun i e cs he hc => by
    match i with
    | 0 => simp at he hc; subst he hc; exact ha
    | 1 => simp at he hc; subst he hc; exact hb'
    | i + 2 => simp at he) kind n name op c
theorem repE_3 {w : World} {ok : Nat → Prop} {a b d : PE} {ca cb cd : List Value} {g c : Nat} {t : TypeId} {cs : Array Value} (hb : Blk w g t cs) (hcs : cs = (ca ++ cb ++ cd).toArray) (hg : ok g) (ha : RepE w ok a ca) (hb' : RepE w ok b cb) (hd : RepE w ok d cd) (h5 : ca.length = 5) (h6 : cb.length = 5) (h7 : cd.length = 5) (kind n : Int) (name : List UInt8) (op : Int) :
    RepE w ok (.mk kind n name op [a, b, d]) (exC kind n name op (some ⟨g, 0, none⟩) 3 c) :=
  repE_node (kids := [a, b, d]) (css := [ca, cb, cd]) rfl (by simpa using ⟨h5, h6, h7⟩) (fun j u hu => blk_cells hb hcs j u (by simpa using hu)) hg (fun i e cs he hc => by
    match i with
    | 0 => simp at he hc; subst he hc; exact ha
    | 1 => simp at he hc; subst he hc; exact hb'
    | 2 => simp at he hc; subst he hc; exact hd
    | i + 3 => simp at he) kind n name op c
section
variable {w w' : World} {lo hi p : Nat} {e : PE} {cs : List Value}
theorem RepE.mono {lo' hi' : Nat} (h : RepE w (Rg lo hi) e cs) (h1 : lo' ≤ lo) (h2 : hi ≤ hi') : RepE w (Rg lo' hi') e cs := h.keep (fun _ hg => ⟨Nat.le_trans h1 hg.1, Nat.lt_of_lt_of_le hg.2 h2⟩) (fun _ _ => rfl)
theorem RepE.grown (h : RepE w (Rg lo hi) e cs) (hg : w.grownBy w' (some p)) (hp : p < lo) (hh : hi ≤ w.heap.size) : RepE w' (Rg lo hi) e cs :=
  h.keep (fun _ h => h) (fun g hr => hg.block g (Nat.lt_of_lt_of_le hr.2 hh) (by intro e; injection e with e; have := hr.1; omega))
theorem RepE.under (h : RepE w (Rg lo hi) e cs) {B : Nat} (hg : Below B w w') (hh : hi ≤ B) : RepE w' (Rg lo hi) e cs :=
  h.keep (fun _ h => h) (fun g hr => hg.block g (Nat.lt_of_lt_of_le hr.2 hh))
theorem RepE.alloc (h : RepE w (Rg lo hi) e cs) (hh : hi ≤ w.heap.size) (o : Obj) : RepE (w.alloc o) (Rg lo hi) e cs := h.under ((Below.refl _ _).alloc (Nat.le_refl _) o) hh
theorem RepE.far (h : RepE w (Rg lo hi) e cs) {a : Addr} (ha : a.block < lo ∨ hi ≤ a.block) (u : Value) : RepE (w.setCell a u) (Rg lo hi) e cs :=
  h.keep (fun _ h => h) (fun g hr => Below.heap_setCell w a u g (by have := hr.1; have := hr.2; omega))
theorem RepE.drewN (h : RepE w (Rg lo hi) e cs) (n : Nat) : RepE (w.drewN n) (Rg lo hi) e cs := h.keep (fun _ h => h) (fun _ _ => rfl)
end
/-- An expression's parse: its cells, its reading, what has turned, the parser's state. -/
def ExP (ts : List Tk) (p : Nat) (q : PE × PS) (w : World) (e : Ending) (w' : World) : Prop :=
  ∃ kind n name op A L c, e = .returned (exV kind n name op A L c) ∧ RepE w' (Rg w.heap.size w'.heap.size) q.1 (exC kind n name op A L c) ∧ w.grownBy w' (some p) ∧ PSt ts p q.2 w'
theorem exP {ts : List Tk} {p : Nat} {pe : PE} {q : PS} {w w' : World} {kind n : Int} {name : List UInt8} {op : Int} {A : Option Addr} {L c : Nat} (hr : RepE w' (Rg w.heap.size w'.heap.size) pe (exC kind n name op A L c)) (hg : w.grownBy w' (some p)) (hp : PSt ts p q w') :
    ExP ts p (pe, q) w (.returned (exV kind n name op A L c)) w' := ⟨_, _, _, _, _, _, _, rfl, hr, hg, hp⟩
abbrev ex0 : Array Value := #[.int .i64 0, .int .i64 0, .string ⟨#[]⟩, .int .i64 0, .slice none 0 0]
theorem Blk.cells5 {w : World} {g : Nat} {t : TypeId} {a b c d e : Value} (h : Blk w g t #[a, b, c, d, e]) : w.cell? ⟨g, 0, none⟩ = some a ∧ w.cell? ⟨g, 1, none⟩ = some b ∧ w.cell? ⟨g, 2, none⟩ = some c ∧ w.cell? ⟨g, 3, none⟩ = some d ∧ w.cell? ⟨g, 4, none⟩ = some e ∧
    w.frozen? ⟨g, 0, none⟩ = false ∧ w.frozen? ⟨g, 1, none⟩ = false ∧ w.frozen? ⟨g, 2, none⟩ = false ∧ w.frozen? ⟨g, 3, none⟩ = false ∧ w.frozen? ⟨g, 4, none⟩ = false :=
  ⟨h.cell 0, h.cell 1, h.cell 2, h.cell 3, h.cell 4, h.free 0, h.free 1, h.free 2, h.free 3, h.free 4⟩
theorem grown_to {a b c : World} {row : Option Nat} (h : a.grownBy b row) (k : b.grownBy c row) : a.grownBy c row :=
  ⟨k.os.trans h.os, k.tape.trans h.tape, k.output.trans h.output, Nat.le_trans h.size k.size, fun i hi hne => (k.block i (Nat.lt_of_lt_of_le hi h.size) hne).trans (h.block i hi hne)⟩
theorem grown_id (w : World) (row : Option Nat) : w.grownBy w row := World.grownBy.refl w row
theorem grown_al {a w : World} {row : Option Nat} (h : a.grownBy w row) (o : Obj) : a.grownBy (w.alloc o) row := grown_to h (World.grownBy_alloc w o row)
theorem grown_fr {a w : World} {row : Option Nat} (h : a.grownBy w row) {q : Addr} (hp : a.heap.size ≤ q.block) (u : Value) : a.grownBy (w.setCell q u) row :=
  ⟨h.os, h.tape, h.output, by simpa [World.setCell] using h.size, fun k hk hne => (Below.heap_setCell w q u k (fun e => by omega)).trans (h.block k hk hne)⟩
theorem Blk.gr {w w' : World} {g p : Nat} {t : TypeId} {cs : Array Value} (h : Blk w g t cs) (hb : w.grownBy w' (some p)) (hr : p ≠ g) : Blk w' g t cs := h.grown hb (by simp; exact hr)
/-- Between a call's begin and w1: only the parser's block has turned, the result's block lies at g and holds cs, the parser's state is q. -/
structure Own (ts : List Tk) (p : Nat) (q : PS) (t : TypeId) (cs : Array Value) (w w1 : World) : Prop where
  g : w.grownBy w1 (some p)
  s : PSt ts p q w1
  r : Blk w1 w.heap.size t cs
  p : p < w.heap.size
section
variable {ts : List Tk} {p : Nat} {q q' : PS} {t : TypeId} {cs : Array Value} {w w1 w2 : World}
theorem Own.start (h : PSt ts p q w) (t : TypeId) (cs : Array Value) : Own ts p q t cs w (w.alloc (.cells cs t)) := ⟨grown_al (grown_id _ _) _, h.alloc _, Blk.new _ _ _, h.lt⟩
theorem Own.sz (o : Own ts p q t cs w w1) : w.heap.size < w1.heap.size := o.r.lt
theorem Own.acc (o : Own ts p q t cs w w1) (hg : w1.grownBy w2 (some p)) (hp : PSt ts p q' w2) : Own ts p q' t cs w w2 := ⟨grown_to o.g hg, hp, o.r.gr hg (Nat.ne_of_lt o.p), o.p⟩
theorem Own.low (o : Own ts p q t cs w w1) (hb : Below w1.heap.size w1 w2) : Own ts p q t cs w w2 := o.acc (grown_b hb _) (o.s.keep hb)
theorem Own.al (o : Own ts p q t cs w w1) (x : Obj) : Own ts p q t cs w (w1.alloc x) := o.low ((Below.refl _ _).alloc (Nat.le_refl _) x)
theorem Own.setI (o : Own ts p q t cs w w1) {i : Nat} (hi : i ≤ ts.length) {u : Value} (hu : u = .int .i64 (i : Int)) : Own ts p ⟨i, q.f⟩ t cs w (w1.setCell ⟨p, 1, none⟩ u) :=
  o.acc (grown_s (grown_id _ _) _) (o.s.setI hi hu)
theorem Own.setF (o : Own ts p q t cs w w1) : Own ts p (fl q) t cs w (w1.setCell ⟨p, 2, none⟩ (.bool true)) := o.acc (grown_s (grown_id _ _) _) o.s.setF
theorem Own.far (o : Own ts p q t cs w w1) {a : Addr} (h : w.heap.size < a.block) (u : Value) : Own ts p q t cs w (w1.setCell a u) :=
  ⟨grown_fr o.g (Nat.le_of_lt h) _, o.s.far (Nat.lt_trans o.p h) _, o.r.far (Nat.ne_of_gt h) _, o.p⟩
end
/-- Five cells of a block of the call's own are written. -/
abbrev set5 (w1 : World) (g : Nat) (a b c d e : Value) : World := ((((w1.setCell ⟨g, 0, none⟩ a).setCell ⟨g, 1, none⟩ b).setCell ⟨g, 2, none⟩ c).setCell ⟨g, 3, none⟩ d).setCell ⟨g, 4, none⟩ e
theorem set5_size (w1 : World) (g : Nat) (a b c d e : Value) : (set5 w1 g a b c d e).heap.size = w1.heap.size := by simp [World.setCell]
theorem set5_heap (w1 : World) (g : Nat) (a b c d e : Value) (x : Nat) (hx : x ≠ g) : (set5 w1 g a b c d e).heap[x]? = w1.heap[x]? :=
  (Below.heap_setCell _ _ _ _ hx).trans ((Below.heap_setCell _ _ _ _ hx).trans ((Below.heap_setCell _ _ _ _ hx).trans ((Below.heap_setCell _ _ _ _ hx).trans (Below.heap_setCell _ _ _ _ hx))))
theorem set5_blk {w1 : World} {g : Nat} {t : TypeId} {a0 b0 c0 d0 e0 : Value} (h : Blk w1 g t #[a0, b0, c0, d0, e0]) (a b c d e : Value) : Blk (set5 w1 g a b c d e) g t #[a, b, c, d, e] :=
  ((((h.set 0 a).set 1 b).set 2 c).set 3 d).set 4 e
theorem set5_grown {w w1 : World} {p g : Nat} (h : w.grownBy w1 (some p)) (hg : w.heap.size ≤ g) (a b c d e : Value) : w.grownBy (set5 w1 g a b c d e) (some p) :=
  grown_fr (grown_fr (grown_fr (grown_fr (grown_fr h hg _) hg _) hg _) hg _) hg _
theorem set5_pst {ts : List Tk} {p g : Nat} {q : PS} {w1 : World} (h : PSt ts p q w1) (hg : p < g) (a b c d e : Value) : PSt ts p q (set5 w1 g a b c d e) :=
  ((((h.far hg _).far hg _).far hg _).far hg _).far hg _
theorem set5_rep {w1 : World} {lo hi g : Nat} {pe : PE} {cs : List Value} (h : RepE w1 (Rg lo hi) pe cs) (hg : g < lo ∨ hi ≤ g) (a b c d e : Value) : RepE (set5 w1 g a b c d e) (Rg lo hi) pe cs :=
  h.keep (fun _ h => h) (fun x hx => set5_heap w1 g a b c d e x (by have := hx.1; have := hx.2; omega))
theorem Own.ok {ts : List Tk} {p : Nat} {q : PS} {t : TypeId} {w w1 : World} (o : Own ts p q t ex0 w w1) :
    w1.cell? ⟨w.heap.size, 0, none⟩ = some (.int .i64 0) ∧ w1.cell? ⟨w.heap.size, 1, none⟩ = some (.int .i64 0) ∧ w1.cell? ⟨w.heap.size, 2, none⟩ = some (.string ⟨#[]⟩) ∧ w1.cell? ⟨w.heap.size, 3, none⟩ = some (.int .i64 0) ∧ w1.cell? ⟨w.heap.size, 4, none⟩ = some (.slice none 0 0) ∧
    w1.frozen? ⟨w.heap.size, 0, none⟩ = false ∧ w1.frozen? ⟨w.heap.size, 1, none⟩ = false ∧ w1.frozen? ⟨w.heap.size, 2, none⟩ = false ∧ w1.frozen? ⟨w.heap.size, 3, none⟩ = false ∧ w1.frozen? ⟨w.heap.size, 4, none⟩ = false := o.r.cells5
/-- The result is written: its cells, and the end of the walk. -/
theorem Own.fin {ts : List Tk} {p : Nat} {q : PS} {t : TypeId} {w w1 : World} (o : Own ts p q t ex0 w w1) {pe : PE} {kind n : Int} {name : List UInt8} {op : Int} {A : Option Addr} {L c : Nat} (hr : RepE w1 (Rg (w.heap.size + 1) w1.heap.size) pe (exC kind n name op A L c)) :
    Blk (set5 w1 w.heap.size (.int .i64 kind) (.int .i64 n) (.string ⟨name.toArray⟩) (.int .i64 op) (.slice A L c)) w.heap.size t #[.int .i64 kind, .int .i64 n, .string ⟨name.toArray⟩, .int .i64 op, .slice A L c] ∧
    ExP ts p (pe, q) w (.returned (exV kind n name op A L c)) (set5 w1 w.heap.size (.int .i64 kind) (.int .i64 n) (.string ⟨name.toArray⟩) (.int .i64 op) (.slice A L c)) :=
  ⟨set5_blk o.r _ _ _ _ _, exP ((set5_rep hr (Or.inl (Nat.lt_succ_self _)) _ _ _ _ _).mono (Nat.le_succ _) (by rw [set5_size]; exact Nat.le_refl _)) (set5_grown o.g (Nat.le_refl _) _ _ _ _ _) (set5_pst o.s o.p _ _ _ _ _)⟩
/-- An expression in a block of the call's own, and what it stands for; its kids lie behind block B. -/
structure Hold (w1 : World) (p B lo hi g : Nat) (t : TypeId) (pe : PE) (kd nn : Int) (nm : List UInt8) (op : Int) (A : Option Addr) (L c : Nat) : Prop where
  r : RepE w1 (Rg lo hi) pe (exC kd nn nm op A L c)
  k : Blk w1 g t #[.int .i64 kd, .int .i64 nn, .string ⟨nm.toArray⟩, .int .i64 op, .slice A L c]
  h : hi ≤ g
  l : B < lo
  n : lo ≤ hi
  q : p < B
section
variable {w1 w2 : World} {p B lo hi g : Nat} {t : TypeId} {pe : PE} {kd nn : Int} {nm : List UInt8} {op : Int} {A : Option Addr} {L c : Nat}
theorem Hold.start {ts : List Tk} {q : PS} {t' : TypeId} {cs : Array Value} {w wp w1 : World} {p : Nat} {pe : PE} {kd nn : Int} {nm : List UInt8} {op : Int} {A : Option Addr} {L c : Nat} (hr : RepE w1 (Rg wp.heap.size w1.heap.size) pe (exC kd nn nm op A L c)) (o : Own ts p q t' cs w wp) (hn : wp.heap.size ≤ w1.heap.size) (t : TypeId) :
    Hold (w1.alloc (.cells #[.int .i64 kd, .int .i64 nn, .string ⟨nm.toArray⟩, .int .i64 op, .slice A L c] t)) p w.heap.size wp.heap.size w1.heap.size w1.heap.size t pe kd nn nm op A L c :=
  ⟨hr.alloc (Nat.le_refl _) _, Blk.new _ _ _, Nat.le_refl _, o.sz, hn, o.p⟩
theorem Hold.acc (x : Hold w1 p B lo hi g t pe kd nn nm op A L c) (hg : w1.grownBy w2 (some p)) : Hold w2 p B lo hi g t pe kd nn nm op A L c :=
  ⟨x.r.grown hg (Nat.lt_trans x.q x.l) (Nat.le_trans x.h (Nat.le_of_lt x.k.lt)), x.k.gr hg (by have := x.l; have := x.h; have := x.n; have := x.q; omega), x.h, x.l, x.n, x.q⟩
theorem Hold.low (x : Hold w1 p B lo hi g t pe kd nn nm op A L c) (hb : Below w1.heap.size w1 w2) : Hold w2 p B lo hi g t pe kd nn nm op A L c := x.acc (grown_b hb _)
theorem Hold.al (x : Hold w1 p B lo hi g t pe kd nn nm op A L c) (o : Obj) : Hold (w1.alloc o) p B lo hi g t pe kd nn nm op A L c := x.low ((Below.refl _ _).alloc (Nat.le_refl _) o)
theorem Hold.out (x : Hold w1 p B lo hi g t pe kd nn nm op A L c) : RepE w1 (Rg (B + 1) w1.heap.size) pe (exC kd nn nm op A L c) := x.r.mono x.l (Nat.le_trans x.h (Nat.le_of_lt x.k.lt))
theorem Hold.put (x : Hold w1 p B lo hi g t pe kd nn nm op A L c) (a b c' d e : Value) : Hold (set5 w1 B a b c' d e) p B lo hi g t pe kd nn nm op A L c :=
  ⟨set5_rep x.r (Or.inl x.l) _ _ _ _ _, (set5_heap _ _ _ _ _ _ _ _ (by have := x.l; have := x.n; have := x.h; omega)).trans x.k, x.h, x.l, x.n, x.q⟩
end
theorem blk_at {W : World} {n : Nat} (h : W.heap.size = n) (t : TypeId) (cs : Array Value) : Blk (W.alloc (.cells cs t)) n t cs := by subst h; exact Blk.new W t cs
theorem Own.put {ts : List Tk} {p : Nat} {q : PS} {t : TypeId} {w w1 : World} (o : Own ts p q t ex0 w w1) (a b c d e : Value) : Own ts p q t #[a, b, c, d, e] w (set5 w1 w.heap.size a b c d e) :=
  ⟨set5_grown o.g (Nat.le_refl _) _ _ _ _ _, set5_pst o.s o.p _ _ _ _ _, set5_blk o.r _ _ _ _ _, o.p⟩
theorem Own.done {ts : List Tk} {p : Nat} {q : PS} {t : TypeId} {w w1 : World} {pe : PE} {kind n : Int} {name : List UInt8} {op : Int} {A : Option Addr} {L c : Nat} (o : Own ts p q t #[.int .i64 kind, .int .i64 n, .string ⟨name.toArray⟩, .int .i64 op, .slice A L c] w w1)
    (hr : RepE w1 (Rg (w.heap.size + 1) w1.heap.size) pe (exC kind n name op A L c)) :
    Blk w1 w.heap.size t #[.int .i64 kind, .int .i64 n, .string ⟨name.toArray⟩, .int .i64 op, .slice A L c] ∧ ExP ts p (pe, q) w (.returned (exV kind n name op A L c)) w1 :=
  ⟨o.r, exP (hr.mono (Nat.le_succ _) (Nat.le_refl _)) o.g o.s⟩
end Go.Proofs.YtjeidpfpgolonaaDoor
