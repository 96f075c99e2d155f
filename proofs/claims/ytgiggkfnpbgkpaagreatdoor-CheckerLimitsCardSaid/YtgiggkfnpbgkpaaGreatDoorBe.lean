/- Stage 3: lists in memory; a list that a loop collects. -/
import Derived.Test.YtgiggkfnpbgkpaaGreatDoorBc
import Derived.Maps.AppendAt
namespace Go.Proofs.YtgiggkfnpbgkpaaGreatDoor
open Go.RowKit (wrap64 intOf)
open Go Go.RowKit WM LX PX

/-- A slice of n elements of sz cells each: the i-th holds F i. -/
def RowF (w : World) (ok : Nat → Prop) (n sz : Nat) (F : Nat → List Value) (v : Value) : Prop :=
  ∃ A c, v = .slice A n c ∧ (0 < n → ∃ g, A = some ⟨g, 0, none⟩ ∧ ok g ∧ ∀ i j u, i < n → (F i)[j]? = some u → w.cell? ⟨g, i * sz + j, none⟩ = some u)
theorem RowF.keep {w w' : World} {ok ok' : Nat → Prop} {n sz : Nat} {F : Nat → List Value} {v : Value} (h : RowF w ok n sz F v) (hok : ∀ g, ok g → ok' g) (hw : ∀ g, ok g → w'.heap[g]? = w.heap[g]?) : RowF w' ok' n sz F v := by
  obtain ⟨A, c, hv, h⟩ := h
  refine ⟨A, c, hv, fun h0 => ?_⟩
  obtain ⟨g, hA, hg, hcell⟩ := h h0
  exact ⟨g, hA, hok g hg, fun i j u hi hu => (World.cell?_of_block (hw g hg)).trans (hcell i j u hi hu)⟩
theorem rowF_nil (w : World) (ok : Nat → Prop) (sz : Nat) (F : Nat → List Value) : RowF w ok 0 sz F (.slice none 0 0) := ⟨none, 0, rfl, fun h => absurd h (Nat.lt_irrefl _)⟩
/-- A row of the call's own. -/
theorem rowF_own {w : World} {base : Nat} {E : TypeId} {sz : Nat} {v : Value} {n : Nat} {css : List (List Value)} (h : w.ownsRow base E sz v n css.flatten) (hl : css.length = n) (hs : ∀ cs ∈ css, cs.length = sz) : RowF w (Rg base w.heap.size) n sz (fun i => css.getD i []) v := by
  rcases h.2 with ⟨rfl, rfl⟩ | ⟨g, cap, cur, hv, hb, hg, _⟩
  · exact rowF_nil _ _ _ _
  · refine ⟨_, cap, hv, fun _ => ⟨g, rfl, ⟨hb, (Array.getElem?_eq_some_iff.1 hg).1⟩, fun i j u hi hu => ?_⟩⟩
    have hci : css[i]? = some (css.getD i []) := by rw [List.getD_eq_getElem?_getD, List.getElem?_eq_getElem (by omega)]; rfl
    have := h.cells (g := g) (by rw [hv]; rfl) _ u (flat_at sz css hs i j u _ hci hu)
    rwa [show ∀ k, (⟨g, 0, none⟩ : Addr).add k = ⟨g, k, none⟩ from fun k => by unfold Addr.add; split <;> simp_all] at this
/-- What an element's reading must be good for. -/
structure Keeps {α : Type} (Rep : World → (Nat → Prop) → α → List Value → Prop) : Prop where
  k : ∀ {w w' : World} {ok ok' : Nat → Prop} {x : α} {cs : List Value}, Rep w ok x cs → (∀ g, ok g → ok' g) → (∀ g, ok g → w'.heap[g]? = w.heap[g]?) → Rep w' ok' x cs
/-- A list in memory: its row, its elements' readings. -/
def RepL {α : Type} (Rep : World → (Nat → Prop) → α → List Value → Prop) (sz : Nat) (w : World) (ok : Nat → Prop) (xs : List α) (v : Value) : Prop :=
  ∃ F, RowF w ok xs.length sz F v ∧ ∀ (i : Nat) (x : α), xs[i]? = some x → Rep w ok x (F i)
theorem RepL.keep {α : Type} {Rep : World → (Nat → Prop) → α → List Value → Prop} {sz : Nat} {w w' : World} {ok ok' : Nat → Prop} {xs : List α} {v : Value} (h : RepL Rep sz w ok xs v) (hk : Keeps Rep) (hok : ∀ g, ok g → ok' g) (hw : ∀ g, ok g → w'.heap[g]? = w.heap[g]?) : RepL Rep sz w' ok' xs v := by
  obtain ⟨F, h1, h2⟩ := h
  exact ⟨F, h1.keep hok hw, fun i x hx => hk.k (h2 i x hx) hok hw⟩
theorem repL_nil {α : Type} (Rep : World → (Nat → Prop) → α → List Value → Prop) (sz : Nat) (w : World) (ok : Nat → Prop) : RepL Rep sz w ok [] (.slice none 0 0) := ⟨fun _ => [], rowF_nil _ _ _ _, fun i x h => by simp at h⟩
/-- A name's reading. -/
def RepN (_w : World) (_ok : Nat → Prop) (x : List UInt8) (cs : List Value) : Prop := cs = [.string ⟨x.toArray⟩]
theorem keepsN : Keeps RepN := ⟨fun h _ _ => h⟩
theorem keepsE : Keeps RepE := ⟨fun h hok hw => h.keep hok hw⟩
/-- A list that is being collected: its row in a block from B on, the elements' own blocks from B on, not in the row's. -/
structure Coll {α : Type} (Rep : World → (Nat → Prop) → α → List Value → Prop) (sz : Nat) (E : TypeId) (B : Nat) (xs : List α) (css : List (List Value)) (v : Value) (w : World) : Prop where
  own : w.ownsRow B E sz v css.length css.flatten
  len : xs.length = css.length
  szs : ∀ cs ∈ css, cs.length = sz
  rep : ∀ (i : Nat) (x : α) (cs : List Value), xs[i]? = some x → css[i]? = some cs → Rep w (fun g => B ≤ g ∧ g < w.heap.size ∧ v.ownBlock ≠ some g) x cs
section
variable {α : Type} {Rep : World → (Nat → Prop) → α → List Value → Prop} {sz : Nat} {E : TypeId} {B p : Nat} {xs : List α} {css : List (List Value)} {v v' : Value} {w w' : World}
theorem Coll.grown (c : Coll Rep sz E B xs css v w) (hk : Keeps Rep) (hg : w.grownBy w' (some p)) (hp : p < B) : Coll Rep sz E B xs css v w' :=
  ⟨c.own.kept hg (by
      cases hv : v.ownBlock with
      | none => exact Or.inl rfl
      | some k => exact Or.inr (fun e => by injection e with e; have := (c.own.lt k hv).1; omega)),
    c.len, c.szs, fun i x cs hx hc => hk.k (c.rep i x cs hx hc) (fun g h => ⟨h.1, Nat.lt_of_lt_of_le h.2.1 hg.size, h.2.2⟩) (fun g h => hg.block g h.2.1 (by intro e; injection e with e; have := h.1; omega))⟩
theorem coll_nil (Rep : World → (Nat → Prop) → α → List Value → Prop) (sz : Nat) (E : TypeId) (B : Nat) (w : World) : Coll Rep sz E B [] [] (.slice none 0 0) w :=
  ⟨World.ownsRow_nil _ _ _ _, rfl, fun _ h => (by cases h), fun i x cs h => (by simp at h)⟩
/-- One element, in a block that was just made. -/
theorem coll_one (hk : Keeps Rep) {x : α} {cs : List Value} {lo : Nat} (hr : Rep w (Rg lo w.heap.size) x cs) (hl : B ≤ lo) (hB : B ≤ w.heap.size) (hs : cs.length = sz) (arr : Array Value) (ha : arr.toList = cs) : Coll Rep sz E B [x] [cs] (.slice (some ⟨w.heap.size, 0, none⟩) 1 1) (w.alloc (.cells arr E)) := by
  have hsize : arr.size = sz := by rw [← Array.length_toList, ha, hs]
  refine ⟨⟨by simp [hs], Or.inr ⟨w.heap.size, 1, arr, rfl, hB, heap_alloc_new w _, Nat.le_refl _, by unfold maxLen; omega, by omega, ?_⟩⟩, rfl, fun c hc => ?_, fun i y c hy hc => ?_⟩
  · rw [ha]
    simp
    rw [← hs]
    simp
  · rw [List.mem_singleton] at hc
    rw [hc, hs]
  · match i with
    | 0 =>
      simp at hy hc
      subst hy hc
      exact hk.k hr (fun g h => ⟨Nat.le_trans hl h.1, by rw [World.size_alloc]; have := h.2; omega, by simp [Value.ownBlock]; have := h.2; omega⟩) (fun g h => Below.heap_alloc _ _ _ h.2)
    | i + 1 => simp at hy
/-- One more element is appended: w1 behind its making, the block of the one element made. -/
theorem Coll.snoc {w1 : World} {o : Obj} {x : α} {cs : List Value} {lo : Nat} (hk : Keeps Rep) (c : Coll Rep sz E B xs css v w1) (hr : Rep w1 (Rg lo w1.heap.size) x cs) (hl : B ≤ lo) (hv : ∀ k, v.ownBlock = some k → k < lo) (hs : cs.length = sz)
    (hown : w'.ownsRow B E sz v' (css.length + 1) (css.flatten ++ cs)) (hg : (w1.alloc o).grownBy w' v.ownBlock) (hv' : v'.ownBlock = v.ownBlock ∨ v'.ownBlock = some (w1.alloc o).heap.size) : Coll Rep sz E B (xs ++ [x]) (css ++ [cs]) v' w' := by
  have hz : w1.heap.size < (w1.alloc o).heap.size := by rw [World.size_alloc]; omega
  have hz2 := hg.size
  have hno : ∀ g, g < w1.heap.size → v.ownBlock ≠ some g → v'.ownBlock ≠ some g := fun g h1 h2 h3 => by
    rcases hv' with e | e
    · exact h2 (e ▸ h3)
    · rw [e] at h3; injection h3 with h3; omega
  have hkeep : ∀ g, g < w1.heap.size → v.ownBlock ≠ some g → w'.heap[g]? = w1.heap[g]? := fun g h1 h2 =>
    (hg.block g (by omega) (fun e => h2 e.symm)).trans (Below.heap_alloc _ _ _ h1)
  refine ⟨by simpa using hown, by simp [c.len], fun d hd => ?_, fun i y d hy hd => ?_⟩
  · rcases List.mem_append.1 hd with h | h
    · exact c.szs d h
    · rw [List.mem_singleton] at h; rw [h, hs]
  · by_cases hi : i < xs.length
    · rw [List.getElem?_append_left hi] at hy
      rw [List.getElem?_append_left (by rw [← c.len]; exact hi)] at hd
      exact hk.k (c.rep i y d hy hd) (fun g h => ⟨h.1, by have := h.2.1; omega, hno g h.2.1 h.2.2⟩) (fun g h => hkeep g h.2.1 h.2.2)
    · rw [List.getElem?_append_right (by omega)] at hy
      rw [List.getElem?_append_right (by rw [← c.len]; omega)] at hd
      have hi2 : i = xs.length := by
        have := (List.getElem?_eq_some_iff.1 hy).1
        simp at this; omega
      subst hi2
      rw [c.len] at hd
      simp at hy hd
      subst hy hd
      have hne : ∀ g, lo ≤ g → v.ownBlock ≠ some g := fun g h e => by have := hv g e; omega
      exact hk.k hr (fun g h => ⟨Nat.le_trans hl h.1, by have := h.2; omega, hno g h.2 (hne g h.1)⟩) (fun g h => hkeep g h.2 (hne g h.1))
theorem Coll.out (c : Coll Rep sz E B xs css v w) (hk : Keeps Rep) : RepL Rep sz w (Rg B w.heap.size) xs v := by
  refine ⟨fun i => css.getD i [], ?_, fun i x hx => ?_⟩
  · rw [c.len]; exact rowF_own c.own rfl c.szs
  · have hi : i < css.length := by rw [← c.len]; exact (List.getElem?_eq_some_iff.1 hx).1
    have hci : css[i]? = some (css.getD i []) := by rw [List.getD_eq_getElem?_getD, List.getElem?_eq_getElem hi]; rfl
    exact hk.k (c.rep i x _ hx hci) (fun g h => ⟨h.1, h.2.1⟩) (fun _ _ => rfl)
theorem Coll.blk (c : Coll Rep sz E B xs css v w) : ∀ k, v.ownBlock = some k → k < w.heap.size := fun k h => (c.own.lt k h).2
theorem Coll.form (c : Coll Rep sz E B xs css v w) : ∃ A L cp, v = .slice A L cp := by
  rcases c.own.2 with ⟨rfl, _⟩ | ⟨g, cap, cur, hv, _⟩
  · exact ⟨_, _, _, rfl⟩
  · exact ⟨_, _, _, hv⟩
end
/-- A list was read: its slice, its reading, what has turned, the parser's state. -/
def LiP {α : Type} (Rep : World → (Nat → Prop) → α → List Value → Prop) (sz : Nat) (ts : List Tk) (p : Nat) (q : List α × PS) (w : World) (e : Ending) (w' : World) : Prop :=
  ∃ A L c, e = .returned (.slice A L c) ∧ RepL Rep sz w' (Rg w.heap.size w'.heap.size) q.1 (.slice A L c) ∧ w.grownBy w' (some p) ∧ PSt ts p q.2 w'
theorem liP {α : Type} {Rep : World → (Nat → Prop) → α → List Value → Prop} {sz : Nat} {ts : List Tk} {p : Nat} {xs : List α} {s : PS} {w w' : World} {A : Option Addr} {L c : Nat} (hr : RepL Rep sz w' (Rg w.heap.size w'.heap.size) xs (.slice A L c)) (hg : w.grownBy w' (some p)) (hp : PSt ts p s w') : LiP Rep sz ts p (xs, s) w (.returned (.slice A L c)) w' := ⟨A, L, c, rfl, hr, hg, hp⟩
theorem liP_of {α : Type} {Rep : World → (Nat → Prop) → α → List Value → Prop} (hk : Keeps Rep) {sz : Nat} {E : TypeId} {ts : List Tk} {p : Nat} {xs : List α} {css : List (List Value)} {q : List α × PS} {s : PS} {w w' : World} {v : Value} (c : Coll Rep sz E w.heap.size xs css v w') (hx : xs = q.1) (hs : s = q.2) (hg : w.grownBy w' (some p)) (hp : PSt ts p s w') : LiP Rep sz ts p q w (.returned v) w' := by
  obtain ⟨A, L, cp, rfl⟩ := c.form
  obtain ⟨q1, q2⟩ := q
  dsimp only at hx hs
  subst hx hs
  exact liP (c.out hk) hg hp
/-- A step that writes into a row of the call's own. -/
theorem grown_row {a b w : World} {p : Nat} {row : Option Nat} (h : w.grownBy a (some p)) (g : a.grownBy b row) (hrow : ∀ k, row = some k → w.heap.size ≤ k) : w.grownBy b (some p) :=
  ⟨g.os.trans h.os, g.tape.trans h.tape, g.output.trans h.output, Nat.le_trans h.size g.size, fun i hi hne => (g.block i (Nat.lt_of_lt_of_le hi h.size) (fun e => by have := hrow i e.symm; omega)).trans (h.block i hi hne)⟩
theorem PSt.row {ts : List Tk} {p : Nat} {s : PS} {a b : World} {row : Option Nat} (h : PSt ts p s a) (g : a.grownBy b row) (hrow : ∀ k, row = some k → p < k) : PSt ts p s b := by
  have hp := h.lt
  have hb : Below p a b := ⟨g.os, g.tape, g.output, g.size, fun i hi => g.block i (by omega) (fun e => by have := hrow i e.symm; omega)⟩
  obtain ⟨A, c, h1, h2, h3, h4⟩ := h
  exact ⟨A, c, (g.block p hp (fun e => by have := hrow p e.symm; omega)).trans h1, h2.on hb, h3.on hb, h4⟩
theorem RepL.acc {α : Type} {Rep : World → (Nat → Prop) → α → List Value → Prop} {sz : Nat} {a b : World} {lo hi p : Nat} {xs : List α} {v : Value} (h : RepL Rep sz a (Rg lo hi) xs v) (hk : Keeps Rep) (hg : a.grownBy b (some p)) (hp : p < lo) (hh : hi ≤ a.heap.size) : RepL Rep sz b (Rg lo hi) xs v :=
  h.keep hk (fun _ h => h) (fun g hr => hg.block g (Nat.lt_of_lt_of_le hr.2 hh) (by intro e; injection e with e; have := hr.1; omega))
theorem RepL.mono {α : Type} {Rep : World → (Nat → Prop) → α → List Value → Prop} {sz : Nat} {a : World} {lo hi lo' hi' : Nat} {xs : List α} {v : Value} (h : RepL Rep sz a (Rg lo hi) xs v) (hk : Keeps Rep) (h1 : lo' ≤ lo) (h2 : hi ≤ hi') : RepL Rep sz a (Rg lo' hi') xs v :=
  h.keep hk (fun _ hr => ⟨Nat.le_trans h1 hr.1, Nat.lt_of_lt_of_le hr.2 h2⟩) (fun _ _ => rfl)
end Go.Proofs.YtgiggkfnpbgkpaaGreatDoor
/- Stage 3: the walks of lists of names. -/
namespace Go.Proofs.YtgiggkfnpbgkpaaGreatDoor
open Go.RowKit (wrap64 intOf)
open Go Go.RowKit WM LX PX

set_option maxRecDepth 100000
set_option maxHeartbeats 4000000
theorem strInfo : (Tryz.prog.info? 9).map (fun i => (i.zero, i.size, i.bytes)) = some (some (.string ⟨#[]⟩), 1, 16) := by kernel_rfl
theorem ms_le (ts : List Tk) (s : PS) : ms ts s ≤ ts.length + 1 := by unfold ms; split <;> omega
theorem PSt.few {ts : List Tk} {p : Nat} {s : PS} {w : World} (h : PSt ts p s w) : ts.length ≤ 20000 := by
  obtain ⟨_, _, _, _, _, _, h5, _⟩ := h
  exact h5
def NlR (ts : List Tk) (p : Nat) (q : List (List UInt8) × PS) (w : World) (k : Nat) (v : Value) (wr : World) : Prop :=
  ∃ (s' : PS) (acc : List (List UInt8)) (css : List (List Value)), acc ++ (mNF ts k s').1 = q.1 ∧ (mNF ts k s').2 = q.2 ∧ ms ts s' + 1 ≤ k ∧ acc.length + ms ts s' ≤ ts.length + 2 ∧ w.grownBy wr (some p) ∧ PSt ts p s' wr ∧ Coll RepN 1 9 w.heap.size acc css v wr
theorem nlist_any (ts : List Tk) (p n : Nat) (s : PS) (q : List (List UInt8) × PS) (hq : Hid (lNF ts n s = q)) (hm : ms ts s + 1 ≤ n) (w : World) (h : PSt ts p s w) :
    Calls Tryz.prog 132 #[.pointer (some ⟨p, 0, none⟩), .func (.func 128) #[.pointer (some ⟨p, 0, none⟩)] #[]] w (LiP RepN 1 ts p q w) := by
  have hq := hq.out
  unfold lNF at hq
  obtain ⟨nm0, hv⟩ : ∃ x, nmV ts s = x := ⟨_, rfl⟩
  obtain ⟨s1, hs1⟩ : ∃ x, nmS ts s = x := ⟨_, rfl⟩
  have HV := Lib.hid hv
  have HS1 := Lib.hid hs1
  have hm1 := ms_nmS (ts := ts) s
  have hml := ms_le ts s
  have hfew := h.few
  have hpw := h.lt
  rw [hs1] at hm1
  rw [hv, hs1] at hq
  have hq1 : nm0 :: (mNF ts n s1).1 = q.1 := by rw [← hq]
  have hq2 : (mNF ts n s1).2 = q.2 := by rw [← hq]
  have HQ1 := Lib.hid hq1
  have HQ2 := Lib.hid hq2
  clear hq hv hs1 hq1 hq2
  obtain ⟨i0, hi, hz0, hz1, hz2⟩ := info_parts strInfo
  go_enter Tryz.func132, Tryz.ntmps132
  go_wp2_with fail
  refine (name_any ts p s s1 nm0 HV HS1 _ h).mono ?_
  rintro e w1 ⟨rfl, hg, hp⟩
  have H0 : Hid (NlR ts p q w n (.slice (some ⟨w1.heap.size, 0, none⟩) 1 1) (w1.alloc (.cells #[.string ⟨nm0.toArray⟩] 9))) :=
    Lib.hid ⟨s1, [nm0], [[.string ⟨nm0.toArray⟩]], HQ1.out, HQ2.out, by omega, by simp; omega, grown_al hg _, hp.alloc _, coll_one (Rep := RepN) (x := nm0) (cs := [.string ⟨nm0.toArray⟩]) keepsN (lo := w1.heap.size) rfl hg.size hg.size rfl _ rfl⟩
  clear hg hp
  go_wp2_with fail
  go_loopg [5] n (fun k v wr => NlR ts p q w k v wr)
  case atStart => exact H0.out
  case round =>
    obtain ⟨s', acc, css, ha, hb, hk, hln, hg, hp, hcl⟩ := hrel
    obtain ⟨m, rfl⟩ : ∃ m, gk = m + 1 := ⟨gk - 1, by omega⟩
    rw [mNF] at ha hb
    by_cases hx : nx ts s' cComma = true
    · rw [if_pos hx] at ha hb
      have HX := Lib.hid hx
      have hmv := ms_adv (nx_len (by decide) hx)
      obtain ⟨nm, hv⟩ : ∃ x, nmV ts (adv s') = x := ⟨_, rfl⟩
      obtain ⟨s2, hs2⟩ : ∃ x, nmS ts (adv s') = x := ⟨_, rfl⟩
      have hm2 := ms_nmS (ts := ts) (adv s')
      have HV2 := Lib.hid hv
      have HS2 := Lib.hid hs2
      rw [hs2] at hm2
      rw [hv, hs2] at ha
      rw [hs2] at hb
      have HA := Lib.hid ha
      have HB := Lib.hid hb
      clear hx hv hs2 ha hb
      go_wp2_with fail
      refine (accept_yes ts p s' cComma (by decide) HX _ hp).mono ?_
      rintro e w2 ⟨rfl, hg2, hp2⟩
      replace hcl := hcl.grown keepsN hg2 hpw
      replace hg := grown_to hg hg2
      clear hg2 hp
      go_wp2_with fail
      refine (name_any ts p (adv s') s2 nm HV2 HS2 _ hp2).mono ?_
      rintro e w3 ⟨rfl, hg3, hp3⟩
      have hlo := hcl.blk
      have hlw := hg.size
      replace hcl := hcl.grown keepsN hg3 hpw
      replace hg := grown_to hg hg3
      have hlen := hcl.len
      clear hg3 hp2
      have HCL := Lib.hid hcl
      have HLO := Lib.hid hlo
      have HG := Lib.hid hg
      have hown := hcl.own
      have hsz := hg.size
      clear hcl hlo hg
      go_wp2_with (
        at_builtin
        refine wpList_append_own_at _ rfl (.tmp 11) (.tmp 14) 23 rfl w.heap.size 9 i0 _ 1 16 Tryz.underlying23 hi hz0 hz1 hz2 rfl (by decide) _ _ _ rfl (hown.alloc _) ⟨w3.heap.size, 0, none⟩ 1 1 [.string ⟨nm.toArray⟩] rfl rfl (World.news_of_block (heap_alloc_new _ _)) (by simp [Value.oneCell']) (by unfold maxLen; omega) (by omega) (by simp; omega) ?_
        intro v2 w4 hown2 hgr2 _ hob)
      have hrow : ∀ k, u5.ownBlock = some k → w.heap.size ≤ k := fun k hk => (HCL.out.own.lt k hk).1
      go_roundg m
      case measure => exact Nat.lt_succ_self m
      case rel => exact ⟨s2, acc ++ [nm], css ++ [[.string ⟨nm.toArray⟩]], by rw [List.append_assoc]; exact HA.out, HB.out, by omega, by simp; omega, grown_row (grown_al HG.out _) hgr2 hrow, (hp3.alloc _).row hgr2 (fun k hk => Nat.lt_of_lt_of_le hpw (hrow k hk)),
        HCL.out.snoc (Rep := RepN) (x := nm) (cs := [.string ⟨nm.toArray⟩]) keepsN (lo := w2.heap.size) rfl hlw HLO.out rfl hown2 hgr2 hob⟩
    · rw [if_neg hx] at ha hb
      have HX := Lib.hid (show nx ts s' cComma = false by simpa using hx)
      have ha : acc = q.1 := by simpa using ha
      have HA := Lib.hid ha
      have HB := Lib.hid hb
      clear hx ha hb
      go_wp2_with fail
      refine (accept_no ts p s' cComma HX _ hp).mono ?_
      rintro e w2 ⟨rfl, hg2, hp2⟩
      go_wp2_with fail
      go_ret
      exact liP_of keepsN (hcl.grown keepsN hg2 hpw) HA.out HB.out (grown_to hg hg2) hp2
theorem pnlist_any (ts : List Tk) (p n : Nat) (s : PS) (q : List (List UInt8) × PS) (hq : Hid (pNF ts n s = q)) (hm : ms ts s + 1 ≤ n) (w : World) (h : PSt ts p s w) :
    Calls Tryz.prog 131 #[.pointer (some ⟨p, 0, none⟩), .func (.func 128) #[.pointer (some ⟨p, 0, none⟩)] #[]] w (LiP RepN 1 ts p q w) := by
  have hq := hq.out
  unfold pNF at hq
  obtain ⟨s1, hs1⟩ : ∃ x, exs ts s cLp = x := ⟨_, rfl⟩
  have HS1 := Lib.hid hs1
  have hm1 := ms_exs (ts := ts) s (x := cLp) (by decide)
  rw [hs1] at hm1 hq
  clear hs1
  by_cases hx : nx ts s1 cRp = true
  · rw [if_pos hx] at hq
    have HX := Lib.hid hx
    subst hq
    clear hx
    go_enter Tryz.func131, Tryz.ntmps131
    go_wp2_with fail
    refine (expect_any ts p s s1 cLp (by decide) HS1 _ h).mono ?_
    rintro e w1 ⟨rfl, hg, hp⟩
    go_wp2_with fail
    refine (accept_yes ts p s1 cRp (by decide) HX _ hp).mono ?_
    rintro e w2 ⟨rfl, hg2, hp2⟩
    go_wp2_with fail
    go_ret
    exact liP (repL_nil _ _ _ _) (grown_to hg hg2) hp2
  · rw [if_neg hx] at hq
    have HX := Lib.hid (show nx ts s1 cRp = false by simpa using hx)
    obtain ⟨⟨l, s2⟩, hc⟩ : ∃ x, lNF ts n s1 = x := ⟨_, rfl⟩
    have HC := Lib.hid hc
    rw [hc] at hq
    dsimp only at hq
    obtain ⟨s3, hs3⟩ : ∃ x, exs ts s2 cRp = x := ⟨_, rfl⟩
    have HS3 := Lib.hid hs3
    rw [hs3] at hq
    subst hq
    have hA : ms ts s1 + 1 ≤ n := by omega
    have hpw := h.lt
    clear hx hc hs3
    go_enter Tryz.func131, Tryz.ntmps131
    go_wp2_with fail
    refine (expect_any ts p s s1 cLp (by decide) HS1 _ h).mono ?_
    rintro e w1 ⟨rfl, hg, hp⟩
    go_wp2_with fail
    refine (accept_no ts p s1 cRp HX _ hp).mono ?_
    rintro e w2 ⟨rfl, hg2, hp2⟩
    replace hg := grown_to hg hg2
    clear hg2 hp
    go_wp2_with fail
    refine (nlist_any ts p n s1 _ HC hA _ hp2).mono ?_
    rintro e w3 ⟨A, L, c, rfl, hr, hg3, hp3⟩
    go_wp2_with fail
    refine (expect_any ts p s2 s3 cRp (by decide) HS3 _ hp3).mono ?_
    rintro e w4 ⟨rfl, hg4, hp4⟩
    have hr4 := (hr.acc keepsN hg4 (Nat.lt_of_lt_of_le hpw hg.size) (Nat.le_refl _)).mono keepsN hg.size hg4.size
    have HR := Lib.hid hr4
    clear hr hr4
    go_wp2_with fail
    go_ret
    exact liP HR.out (grown_to (grown_to hg hg3) hg4) hp4
end Go.Proofs.YtgiggkfnpbgkpaaGreatDoor
