/- Stage 7, plain mathematics: the lists of Loops. -/
import Derived.Test.YtpgnlfdindmopaaGreatDoorRu
import Derived.Test.YtpgnlfdindmopaaGreatDoorGs
import Derived.Test.YtpgnlfdindmopaaGreatDoorRk
import Derived.Test.YtpgnlfdindmopaaGreatDoorRl
import Derived.Deep.RegionHeld3
import Derived.WalkLawsBesides
import Derived.OwnWalk
import Derived.Deep.Cut
import Derived.ArgAppend
namespace Go.Proofs.YtpgnlfdindmopaaGreatDoor
open Go Go.RowKit WM LX PX CX GX

set_option maxRecDepth 100000
def irK (q : Nat) : ND := ⟨31, 0, 0 :: (List.replicate q 1 ++ ([1, 2] ++ List.replicate q 3))⟩
def irL (q : Nat) : List ND := [⟨26, 0, []⟩, ⟨1, 0, []⟩, ⟨3, 0, []⟩, ⟨3, 1, []⟩, irK q, ⟨25, 0, [4]⟩]
def irN (q : Nat) (again : Bool) : List ND := irL q ++ (if again = true then [⟨31, 0, [0, 1, 0]⟩] else [])
def irG (q : Nat) (out again : Bool) : GR := ⟨[102], 0, irN q again, if out = true then 3 else 1, 5⟩
abbrev idnB (f : GR) : Bool := dupN f.nodes
theorem ir_sorts : ((List.range 17).map fun q => (sortF (irL q) 4, sortF (irL q) 5)) = (List.range 17).map fun q => if q < 16 then (3, 2) else (0, 0) := by kernel_rfl
theorem ir_valid : ((List.range 68).map fun j => vaB [] [irG (j / 4) (decide (j % 2 = 1)) (decide (j / 2 % 2 = 1))] idnB) = (List.range 68).map fun j => decide (j / 4 < 16) && (decide (0 < j / 4) && (!decide (j % 2 = 1) && !decide (j / 2 % 2 = 1))) := by kernel_rfl
theorem ir_sort_at (q : Nat) (hq : q < 17) : sortF (irL q) 4 = (if q < 16 then 3 else 0) ∧ sortF (irL q) 5 = (if q < 16 then 2 else 0) := by
  have h := (List.map_inj_left.1 ir_sorts) q (List.mem_range.2 hq)
  by_cases h16 : q < 16
  · rw [if_pos h16] at h ⊢
    exact ⟨congrArg Prod.fst h, by rw [if_pos h16]; exact congrArg Prod.snd h⟩
  · rw [if_neg h16] at h ⊢
    exact ⟨congrArg Prod.fst h, by rw [if_neg h16]; exact congrArg Prod.snd h⟩
theorem ir_valid_at (q : Nat) (hq : q < 17) (out again : Bool) : vaB [] [irG q out again] idnB = (decide (q < 16) && (decide (0 < q) && (!out && !again))) := by
  have h := (List.map_inj_left.1 ir_valid) (4 * q + (if out = true then 1 else 0) + (if again = true then 2 else 0)) (List.mem_range.2 (by split <;> split <;> omega))
  cases out <;> cases again
  · have e : (4 * q + (if false = true then 1 else 0) + (if false = true then 2 else 0)) = 4 * q := rfl
    rw [e, show 4 * q / 4 = q by omega, show decide (4 * q % 2 = 1) = false from decide_eq_false (by omega), show decide (4 * q / 2 % 2 = 1) = false from decide_eq_false (by omega)] at h
    exact h
  · have e : (4 * q + (if false = true then 1 else 0) + (if true = true then 2 else 0)) = 4 * q + 2 := rfl
    rw [e, show (4 * q + 2) / 4 = q by omega, show decide ((4 * q + 2) % 2 = 1) = false from decide_eq_false (by omega), show decide ((4 * q + 2) / 2 % 2 = 1) = true from decide_eq_true (by omega)] at h
    exact h
  · have e : (4 * q + (if true = true then 1 else 0) + (if false = true then 2 else 0)) = 4 * q + 1 := rfl
    rw [e, show (4 * q + 1) / 4 = q by omega, show decide ((4 * q + 1) % 2 = 1) = true from decide_eq_true (by omega), show decide ((4 * q + 1) / 2 % 2 = 1) = false from decide_eq_false (by omega)] at h
    exact h
  · have e : (4 * q + (if true = true then 1 else 0) + (if true = true then 2 else 0)) = 4 * q + 1 + 2 := rfl
    rw [e, show (4 * q + 1 + 2) / 4 = q by omega, show decide ((4 * q + 1 + 2) % 2 = 1) = true from decide_eq_true (by omega), show decide ((4 * q + 1 + 2) / 2 % 2 = 1) = true from decide_eq_true (by omega)] at h
    exact h
theorem ir_fits (q : Nat) (hq : q < 17) (again : Bool) : Fits (irN q again) := by
  refine ⟨by unfold irN irL; cases again <;> simp, fun n hn => ?_⟩
  unfold irN irL at hn
  cases again <;> simp at hn <;> (rcases hn with rfl | rfl | rfl | rfl | rfl | rfl | rfl <;> simp [irK]) <;> omega
theorem ir_fits0 (q : Nat) (hq : q < 17) : Fits (irL q) := by
  have := ir_fits q hq false
  unfold irN at this
  simpa using this
theorem ir_sz (q : Nat) (out again : Bool) : szP ⟨[], [irG q out again].map outG⟩ ≤ 1000000 := of_decide_eq_true (by cases out <;> cases again <;> kernel_rfl)
end Go.Proofs.YtpgnlfdindmopaaGreatDoor
namespace Go.Proofs.YtpgnlfdindmopaaGreatDoor
open Go.RowKit (wrap64 intOf)
open Go Go.RowKit WM LX PX CX GX

set_option maxRecDepth 100000
set_option maxHeartbeats 4000000
abbrev l4C : Array Value := #[.int .i64 26, .int .i64 0, .slice none 0 0, .int .i64 1, .int .i64 0, .slice none 0 0, .int .i64 3, .int .i64 0, .slice none 0 0, .int .i64 3, .int .i64 1, .slice none 0 0]
abbrev iV (l : List Int) : List Value := l.map (Value.int .i64)
/-- The first four nodes in block s, the loop's node in block s + 2, its operands in a row of ints. -/
structure KS (w : World) (xs : List Int) (L : Nat) (v : Value) (wr : World) : Prop where
  bl : Below w.heap.size w wr
  l : Blk wr w.heap.size 49 l4C
  n : Blk wr (w.heap.size + 1 + 1) 49 #[.int .i64 31, .int .i64 0, v]
  o : wr.ownsRow (w.heap.size + 1) 3 1 v L (iV xs)
  ln : xs.length = L
theorem own_blk {w : World} {B n : Nat} {T : TypeId} {sz : Nat} {v : Value} {xs : List Value} {b : Nat} {cs : Array Value} {t : TypeId} (h : w.ownsRow B T sz v n xs) (hb : Blk w b t cs) (ht : t ≠ T) : v.ownBlock ≠ some b := by
  rcases h.2 with ⟨rfl, _⟩ | ⟨g, cp, cur, rfl, _, hg, _⟩
  · intro e
    cases e
  · intro e
    have e : g = b := by injection e
    subst e
    have := hg.symm.trans hb
    injection this with this
    injection this with _ e
    exact ht e.symm
theorem ownz_form {w : World} {B n : Nat} {T : TypeId} {sz : Nat} {v : Value} {xs : List Value} (h : w.ownsRow B T sz v n xs) (hn : 0 < n) : ∃ g c, v = .slice (some ⟨g, 0, none⟩) n c := by
  rcases h.2 with ⟨_, h0⟩ | ⟨g, cp, cur, e, _⟩
  · omega
  · exact ⟨g, cp, e⟩
theorem KS.ne0 {w wr : World} {xs : List Int} {L : Nat} {v : Value} (h : KS w xs L v wr) : v.ownBlock ≠ some w.heap.size := own_blk h.o h.l (by decide)
theorem KS.ne2 {w wr : World} {xs : List Int} {L : Nat} {v : Value} (h : KS w xs L v wr) : v.ownBlock ≠ some (w.heap.size + 1 + 1) := own_blk h.o h.n (by decide)
theorem KS.app {w wr w3 : World} {xs : List Int} {L : Nat} {v : Value} {o : Obj} (h : KS w xs L v wr) (hg : (wr.alloc o).grownBy w3 v.ownBlock) :
    Below w.heap.size w w3 ∧ Blk w3 w.heap.size 49 l4C ∧ Blk w3 (w.heap.size + 1 + 1) 49 #[.int .i64 31, .int .i64 0, v] := by
  have h0 := h.ne0
  have h2 := h.ne2
  refine ⟨(h.bl.alloc h.bl.size _).grown hg (by rw [World.size_alloc]; have := h.bl.size; omega) (fun k hk => ?_), ?_, ?_⟩
  · have := (h.o.lt k hk).1
    omega
  · exact (hg.block _ (by rw [World.size_alloc]; have := h.l.lt; omega) (fun e => h0 e.symm)).trans (h.l.alloc _)
  · exact (hg.block _ (by rw [World.size_alloc]; have := h.n.lt; omega) (fun e => h2 e.symm)).trans (h.n.alloc _)
theorem blk_set {w : World} {g : Nat} {t : TypeId} {a b c : Value} {v : Value} (h : Blk w g t #[a, b, c]) : Blk (w.setCell ⟨g, 2, none⟩ v) g t #[a, b, v] := by
  unfold Blk at h ⊢
  simp [World.setCell, Array.getElem?_modify, h]
theorem KS.fin {w wr w3 : World} {xs ys : List Int} {L : Nat} {v v2 : Value} {o : Obj} {m : Nat} (h : KS w xs L v wr) (hg : (wr.alloc o).grownBy w3 v.ownBlock) (ho : w3.ownsRow (w.heap.size + 1) 3 1 v2 (L + m) (iV xs ++ iV ys)) (hm : ys.length = m) :
    KS w (xs ++ ys) (L + m) v2 (w3.setCell ⟨w.heap.size + 1 + 1, 2, none⟩ v2) := by
  obtain ⟨b1, b2, b3⟩ := h.app hg
  have hne := own_blk ho b3 (by decide)
  have hset : ∀ x, x ≠ w.heap.size + 1 + 1 → (w3.setCell ⟨w.heap.size + 1 + 1, 2, none⟩ v2).heap[x]? = w3.heap[x]? := fun x hx => by simp [World.setCell, Array.getElem?_modify, hx.symm]
  refine ⟨?_, ?_, ?_, ?_, by rw [List.length_append, hm, h.ln]⟩
  · exact ⟨b1.os, b1.tape, b1.output, by simpa [World.setCell] using b1.size, fun i hi => (hset i (by omega)).trans (b1.block i hi)⟩
  · exact (hset _ (by omega)).trans b2
  · exact blk_set b3
  · rw [show iV (xs ++ ys) = iV xs ++ iV ys from List.map_append]
    obtain ⟨h1, h2⟩ := ho
    refine ⟨h1, ?_⟩
    rcases h2 with h2 | ⟨g, cp, cur, rfl, h3, h4, h5⟩
    · exact .inl h2
    · exact .inr ⟨g, cp, cur, rfl, h3, (hset g (fun e => hne (by rw [← e]; rfl))).trans h4, h5⟩
theorem own_iV {w : World} {B n : Nat} {v : Value} {xs : List Int} {ok : Nat → Prop} (h : w.ownsRow B 3 1 v n (iV xs)) (hn : n = xs.length) (hok : ∀ g, v.ownBlock = some g → ok g) : RepI w ok xs v := by
  have hl := h.1
  rcases h.2 with ⟨rfl, h0⟩ | ⟨g, cp, cur, rfl, _, hg, hc, _⟩
  · have : xs = [] := List.length_eq_zero_iff.1 (by omega)
    subst this
    exact ⟨none, 0, rfl, fun i x h => by simp at h, Nat.le_refl _⟩
  · refine ⟨_, cp, by rw [hn], fun i x hx => ⟨g, 0, rfl, hok g rfl, ?_⟩, by omega⟩
    have := h.cells (g := g) rfl i (.int .i64 x) (by rw [List.getElem?_map, hx]; rfl)
    rwa [Addr.add_lit] at this
/-- A list of nodes out of a row of its own. -/
theorem repD_own {w : World} {B n : Nat} {v : Value} {ok : Nat → Prop} {l : List ND} {css : List (List Value)} (h : w.ownsRow B 49 3 v n css.flatten) (hn : css.length = n) (hl : l.length = n) (h3 : ∀ cs ∈ css, cs.length = 3) (hok : ∀ g, B ≤ g → g < w.heap.size → ok g)
    (hr : ∀ (i : Nat) (x : ND) (cs : List Value), l[i]? = some x → css[i]? = some cs → RepD w ok x cs) : RepL RepD 3 w ok l v := by
  have hR := rowF_own h hn h3
  refine ⟨fun i => css.getD i [], by rw [hl]; exact hR.keep (fun g hg => hok g hg.1 hg.2) (fun _ _ => rfl), fun i x hx => ?_⟩
  have hi := (List.getElem?_eq_some_iff.1 hx).1
  exact hr i x _ hx (by show css[i]? = some (css.getD i []); rw [List.getD_eq_getElem?_getD, List.getElem?_eq_getElem (by omega)]; rfl)
theorem repI_0 (w : World) (ok : Nat → Prop) : RepI w ok [] (.slice none 0 0) := ⟨none, 0, rfl, fun i x h => by simp at h, Nat.le_refl _⟩
end Go.Proofs.YtpgnlfdindmopaaGreatDoor
namespace Go.Proofs.YtpgnlfdindmopaaGreatDoor
open Go.RowKit (wrap64 intOf)
open Go Go.RowKit WM LX PX CX GX

set_option maxRecDepth 100000
set_option maxHeartbeats 4000000
theorem own_l {W : World} {s : Nat} (h : Blk W s 49 l4C) : W.ownsRow s 49 3 (.slice (some ⟨s, 0, none⟩) 4 4) 4 l4C.toList :=
  ⟨rfl, .inr ⟨s, 4, _, rfl, Nat.le_refl _, h, Nat.le_refl _, by unfold maxLen; omega, rfl, rfl⟩⟩
abbrev okR (w W : World) : Nat → Prop := fun g => w.heap.size ≤ g ∧ g < W.heap.size
theorem rows_rep {W : World} {ok : Nat → Prop} {l : List ND} {css : List (List Value)} {g c n : Nat} (hl : css.length = n) (hn : l.length = n) (h3 : ∀ cs ∈ css, cs.length = 3) (hg : ok g) (hc : ∀ (j : Nat) (u : Value), css.flatten[j]? = some u → W.cell? ⟨g, j, none⟩ = some u)
    (hr : ∀ (i : Nat) (x : ND) (cs : List Value), l[i]? = some x → css[i]? = some cs → RepD W ok x cs) : RepL RepD 3 W ok l (.slice (some ⟨g, 0, none⟩) n c) := by
  have hci : ∀ i, i < n → css[i]? = some (css.getD i []) := fun i hi => by rw [List.getD_eq_getElem?_getD, List.getElem?_eq_getElem (by omega)]; rfl
  refine ⟨fun i => css.getD i [], ⟨_, c, by rw [hn], fun _ => ⟨g, rfl, hg, fun i j u hi hu => hc _ _ (flat_at 3 css h3 i j u _ (hci i (by omega)) hu), fun h => absurd h (by decide)⟩⟩, fun i x hx => ?_⟩
  have hi := (List.getElem?_eq_some_iff.1 hx).1
  exact hr i x _ hx (hci i (by omega))
/-- The six nodes' cells. -/
abbrev cssL (v : Value) (b : Nat) : List (List Value) := [[.int .i64 26, .int .i64 0, .slice none 0 0], [.int .i64 1, .int .i64 0, .slice none 0 0], [.int .i64 3, .int .i64 0, .slice none 0 0], [.int .i64 3, .int .i64 1, .slice none 0 0], [.int .i64 31, .int .i64 0, v], [.int .i64 25, .int .i64 0, .slice (some ⟨b, 0, none⟩) 1 1]]
abbrev cssN (v : Value) (b : Nat) (vk : Value) : List (List Value) := [[.int .i64 26, .int .i64 0, .slice none 0 0], [.int .i64 1, .int .i64 0, .slice none 0 0], [.int .i64 3, .int .i64 0, .slice none 0 0], [.int .i64 3, .int .i64 1, .slice none 0 0], [.int .i64 31, .int .i64 0, v], [.int .i64 25, .int .i64 0, .slice (some ⟨b, 0, none⟩) 1 1], [.int .i64 31, .int .i64 0, vk]]
/-- The operands of the six nodes, in blocks other than the nodes' own (g). -/
def LQ (w W : World) (q : Nat) (v : Value) (b g : Nat) : Prop := ∀ (i : Nat) (x : ND) (cs : List Value), (irL q)[i]? = some x → (cssL v b)[i]? = some cs → RepD W (fun g' => okR w W g' ∧ g' ≠ g) x cs
theorem LQ.on {w W W' : World} {q : Nat} {v : Value} {b g : Nat} (h : LQ w W q v b g) (hs : W.heap.size ≤ W'.heap.size) (hw : ∀ g', g' < W.heap.size → g' ≠ g → W'.heap[g']? = W.heap[g']?) : LQ w W' q v b g :=
  fun i x cs hx hc => keepsD.k (h i x cs hx hc) (fun _ k => ⟨⟨k.1.1, Nat.lt_of_lt_of_le k.1.2 hs⟩, k.2⟩) (fun g' k => hw g' k.1.2 k.2)
theorem three {v vk : Value} {b : Nat} : (∀ cs ∈ cssL v b, cs.length = 3) ∧ ∀ cs ∈ cssN v b vk, cs.length = 3 := by
  refine ⟨fun cs h => ?_, fun cs h => ?_⟩ <;> simp at h
  · rcases h with rfl | rfl | rfl | rfl | rfl | rfl <;> rfl
  · rcases h with rfl | rfl | rfl | rfl | rfl | rfl | rfl <;> rfl
theorem rep_irl {w W : World} {q : Nat} {v : Value} {b g c : Nat} (h : LQ w W q v b g) (hg : okR w W g) (hc : ∀ (j : Nat) (u : Value), (cssL v b).flatten[j]? = some u → W.cell? ⟨g, j, none⟩ = some u) : RepL RepD 3 W (okR w W) (irL q) (.slice (some ⟨g, 0, none⟩) 6 c) :=
  rows_rep rfl rfl (three (vk := v)).1 hg hc fun i x cs hx hcs => keepsD.k (h i x cs hx hcs) (fun _ k => k.1) (fun _ _ => rfl)
theorem rep_irn {w W : World} {q : Nat} {v vk : Value} {b g g' c : Nat} (h : LQ w W q v b g) (hg : okR w W g') (hk : RepI W (okR w W) [0, 1, 0] vk) (hc : ∀ (j : Nat) (u : Value), (cssN v b vk).flatten[j]? = some u → W.cell? ⟨g', j, none⟩ = some u) : RepL RepD 3 W (okR w W) (irN q true) (.slice (some ⟨g', 0, none⟩) 7 c) := by
  refine rows_rep rfl rfl three.2 hg hc fun i x cs hx hcs => ?_
  have hlow : ∀ j y ds, (irL q)[j]? = some y → (cssL v b)[j]? = some ds → RepD W (okR w W) y ds := fun j y ds h1 h2 => keepsD.k (h j y ds h1 h2) (fun _ k => k.1) (fun _ _ => rfl)
  match i with
  | 0 => exact hlow 0 x cs hx hcs
  | 1 => exact hlow 1 x cs hx hcs
  | 2 => exact hlow 2 x cs hx hcs
  | 3 => exact hlow 3 x cs hx hcs
  | 4 => exact hlow 4 x cs hx hcs
  | 5 => exact hlow 5 x cs hx hcs
  | 6 => cases hx; cases hcs; exact ⟨_, rfl, hk⟩
  | i + 7 => cases hx
theorem fin_l {w wr w4 : World} {xs : List Int} {L q : Nat} {v : Value} {g c : Nat} (h : KS w xs L v wr) (hx : xs = (irK q).kids)
    (ho : w4.ownsRow w.heap.size 49 3 (.slice (some ⟨g, 0, none⟩) 6 c) 6 (cssL v wr.heap.size).flatten)
    (hg : ((wr.alloc (.cells #[.int .i64 4] 3)).alloc (.cells #[.int .i64 31, .int .i64 0, v, .int .i64 25, .int .i64 0, .slice (some ⟨wr.heap.size, 0, none⟩) 1 1] 49)).grownBy w4 (some w.heap.size)) :
    Below w.heap.size w w4 ∧ LQ w w4 q v wr.heap.size g := by
  have hz := hg.size
  rw [World.size_alloc, World.size_alloc] at hz
  have hb : Below w.heap.size w w4 := ((h.bl.alloc h.bl.size _).alloc (by rw [World.size_alloc]; have := h.bl.size; omega) _).grown hg (by rw [World.size_alloc, World.size_alloc]; have := h.bl.size; omega) (fun k hk => by injection hk with hk; omega)
  have hkeep : ∀ g, g < wr.heap.size → g ≠ w.heap.size → w4.heap[g]? = wr.heap[g]? := fun g h1 h2 => by
    rw [hg.block g (by rw [World.size_alloc, World.size_alloc]; omega) (fun e => h2 (by injection e))]
    exact (((Below.refl wr.heap.size wr).alloc (Nat.le_refl _) (.cells #[.int .i64 4] 3)).alloc (by rw [World.size_alloc]; omega) _).block g h1
  have k4 : Blk w4 wr.heap.size 3 #[.int .i64 4] := by
    have hs := h.bl.size
    have hl := h.l.lt
    exact (hg.block _ (by rw [World.size_alloc, World.size_alloc]; omega) (fun e => by injection e with e; omega)).trans ((Blk.new wr _ _).alloc _)
  have hne4 : g ≠ wr.heap.size := fun e => own_blk ho k4 (by decide) (by rw [← e]; rfl)
  have hv : RepI w4 (fun g' => okR w w4 g' ∧ g' ≠ g) xs v := by
    have h0 := own_iV (ok := fun g => v.ownBlock = some g) h.o h.ln.symm (fun g e => e)
    refine h0.keep (fun g' e => ?_) (fun g' e => ?_)
    · have hlt := h.o.lt g' e
      refine ⟨⟨by omega, by omega⟩, fun eg => ?_⟩
      subst eg
      rcases h.o.2 with ⟨rfl, _⟩ | ⟨g2, cp, cur, rfl, _, hh, _⟩
      · cases e
      · have e : g2 = g' := by injection e
        subst e
        exact own_blk (b := g2) (t := 3) (cs := cur) ho ((hkeep g2 hlt.2 (by omega)).trans hh) (by decide) rfl
    · have := h.o.lt g' e
      exact hkeep g' this.2 (fun e' => by omega)
  have h5 : RepI w4 (fun g' => okR w w4 g' ∧ g' ≠ g) [4] (.slice (some ⟨wr.heap.size, 0, none⟩) 1 1) := by
    refine ⟨_, _, rfl, fun i x hx => ?_, Nat.le_refl _⟩
    match i with
    | 0 =>
      simp at hx
      subst hx
      exact ⟨_, 0, rfl, ⟨⟨h.bl.size, by omega⟩, fun e => hne4 e.symm⟩, k4.cell 0⟩
    | i + 1 => simp at hx
  have hn0 : ∀ (o i : Int), RepD w4 (fun g' => okR w w4 g' ∧ g' ≠ g) ⟨o, i, []⟩ [.int .i64 o, .int .i64 i, .slice none 0 0] := fun o i => ⟨_, rfl, repI_0 _ _⟩
  refine ⟨hb, fun i x cs hx' hc => ?_⟩
  match i with
  | 0 => cases hx'; cases hc; exact hn0 _ _
  | 1 => cases hx'; cases hc; exact hn0 _ _
  | 2 => cases hx'; cases hc; exact hn0 _ _
  | 3 => cases hx'; cases hc; exact hn0 _ _
  | 4 => cases hx'; cases hc; exact ⟨_, rfl, hx ▸ hv⟩
  | 5 => cases hx'; cases hc; exact ⟨_, rfl, h5⟩
  | i + 6 => cases hx'
end Go.Proofs.YtpgnlfdindmopaaGreatDoor
namespace Go.Proofs.YtpgnlfdindmopaaGreatDoor
open Go.RowKit (wrap64 intOf)
open Go Go.RowKit WM LX PX CX GX

set_option maxRecDepth 100000
set_option maxHeartbeats 4000000
abbrev gC (v : Value) (val : Int) : Array Value := #[.string ⟨#[102]⟩, .int .i64 0, v, .int .i64 val, .int .i64 5]
structure TL (w W : World) (q : Nat) (again : Bool) (val : Int) (g c : Nat) (vN : Value) (b : Nat) : Prop where
  bl : Below w.heap.size w W
  l : RepL RepD 3 W (okR w W) (irL q) (.slice (some ⟨g, 0, none⟩) 6 c)
  n : RepL RepD 3 W (okR w W) (irN q again) vN
  g : Blk W b 52 (gC vN val)
theorem tl_0 {w w4 : World} {q g c b : Nat} {v : Value} (val : Int) (hb : Below w.heap.size w w4) (ho : w4.ownsRow w.heap.size 49 3 (.slice (some ⟨g, 0, none⟩) 6 c) 6 (cssL v b).flatten) (hq : LQ w w4 q v b g) :
    TL w (w4.alloc (.cells (gC (.slice (some ⟨g, 0, none⟩) 6 c) val) 52)) q false val g c (.slice (some ⟨g, 0, none⟩) 6 c) w4.heap.size := by
  have hg := ho.lt g rfl
  have h1 := (ho.alloc (.cells (gC (.slice (some ⟨g, 0, none⟩) 6 c) val) 52))
  have hl : RepL RepD 3 (w4.alloc (.cells (gC (.slice (some ⟨g, 0, none⟩) 6 c) val) 52)) (okR w (w4.alloc (.cells (gC (.slice (some ⟨g, 0, none⟩) 6 c) val) 52))) (irL q) (.slice (some ⟨g, 0, none⟩) 6 c) :=
    rep_irl (hq.on (by rw [World.size_alloc]; omega) (fun g' h _ => ((Below.refl w4.heap.size w4).alloc (Nat.le_refl _) _).block g' h)) ⟨hg.1, by rw [World.size_alloc]; omega⟩ (fun j u hu => by have := h1.cells (g := g) rfl j u hu; rwa [Addr.add_lit, Nat.zero_add] at this)
  refine ⟨hb.alloc hb.size _, hl, ?_, Blk.new _ _ _⟩
  unfold irN
  simpa using hl
theorem blk_set5 {w : World} {g : Nat} {t : TypeId} {a b c d e : Value} {v : Value} (h : Blk w g t #[a, b, c, d, e]) : Blk (w.setCell ⟨g, 2, none⟩ v) g t #[a, b, v, d, e] := by
  unfold Blk at h ⊢
  simp [World.setCell, Array.getElem?_modify, h]
theorem set_far (w : World) (g : Nat) (v : Value) (x : Nat) (h : x ≠ g) : (w.setCell ⟨g, 2, none⟩ v).heap[x]? = w.heap[x]? := by
  simp [World.setCell, Array.getElem?_modify, h.symm]
/-- One node more: in the same block, or in a new one. -/
theorem tl_1 {w w4 w6 : World} {q g c b n6 : Nat} {v v0 v6 : Value} {val : Int} {B : Nat} {m : Option Nat} (hb : Below w.heap.size w w4) (ho : w4.ownsRow w.heap.size 49 3 (.slice (some ⟨g, 0, none⟩) 6 c) 6 (cssL v b).flatten) (hq : LQ w w4 q v b g) (hB : w.heap.size ≤ B)
    (hm : m = some g ∨ m = none) (hgr : (((w4.alloc (.cells (gC v0 val) 52)).alloc (.cells #[.int .i64 0, .int .i64 1, .int .i64 0] 3)).alloc (.cells #[.int .i64 31, .int .i64 0, .slice (some ⟨w4.heap.size + 1, 0, none⟩) 3 3] 49)).grownBy w6 m)
    (ho6 : w6.ownsRow B 49 3 v6 n6 ((cssL v b).flatten ++ [.int .i64 31, .int .i64 0, .slice (some ⟨w4.heap.size + 1, 0, none⟩) 3 3])) (hn6 : n6 = 7)
    (hl6 : ∀ (j : Nat) (u : Value), (cssL v b).flatten[j]? = some u → w6.cell? ⟨g, j, none⟩ = some u) :
    Blk w6 w4.heap.size 52 (gC v0 val) ∧ TL w (w6.setCell ⟨w4.heap.size, 2, none⟩ v6) q true val g c v6 w4.heap.size := by
  subst hn6
  have hg := ho.lt g rfl
  have hz := hgr.size
  rw [World.size_alloc, World.size_alloc, World.size_alloc] at hz
  have hmg : ∀ x, x ≠ g → some x ≠ m := fun x hx e => by
    rcases hm with rfl | rfl
    · exact hx (by injection e)
    · cases e
  have ha : ∀ x, x < w4.heap.size → (((w4.alloc (.cells (gC v0 val) 52)).alloc (.cells #[.int .i64 0, .int .i64 1, .int .i64 0] 3)).alloc (.cells #[.int .i64 31, .int .i64 0, .slice (some ⟨w4.heap.size + 1, 0, none⟩) 3 3] 49)).heap[x]? = w4.heap[x]? := fun x hx =>
    ((((Below.refl w4.heap.size w4).alloc (Nat.le_refl _) _).alloc (by rw [World.size_alloc]; omega) _).alloc (by rw [World.size_alloc, World.size_alloc]; omega) _).block x hx
  have hk : ∀ x, x < w4.heap.size → x ≠ g → w6.heap[x]? = w4.heap[x]? := fun x hx hne => (hgr.block x (by rw [World.size_alloc, World.size_alloc, World.size_alloc]; omega) (hmg x hne)).trans (ha x hx)
  have kG : Blk w6 w4.heap.size 52 (gC v0 val) := (hgr.block _ (by rw [World.size_alloc, World.size_alloc, World.size_alloc]; omega) (hmg _ (by omega))).trans (((Blk.new w4 _ _).alloc _).alloc _)
  have kK : Blk w6 (w4.heap.size + 1) 3 #[.int .i64 0, .int .i64 1, .int .i64 0] := (hgr.block _ (by rw [World.size_alloc, World.size_alloc, World.size_alloc]; omega) (hmg _ (by omega))).trans ((show Blk ((w4.alloc (.cells (gC v0 val) 52)).alloc (.cells #[.int .i64 0, .int .i64 1, .int .i64 0] 3)) (w4.heap.size + 1) 3 #[.int .i64 0, .int .i64 1, .int .i64 0] from heap_alloc2_new _ _ _).alloc _)
  have hne6 := own_blk ho6 kG (by decide)
  have hne7 := own_blk ho6 kK (by decide)
  refine ⟨kG, ?_⟩
  have hs : ∀ x, x ≠ w4.heap.size → (w6.setCell ⟨w4.heap.size, 2, none⟩ v6).heap[x]? = w6.heap[x]? := fun x hx => set_far _ _ _ _ hx
  have hsz : (w6.setCell ⟨w4.heap.size, 2, none⟩ v6).heap.size = w6.heap.size := by simp [World.setCell]
  have kG2 := blk_set5 (v := v6) kG
  have kK2 : Blk (w6.setCell ⟨w4.heap.size, 2, none⟩ v6) (w4.heap.size + 1) 3 #[.int .i64 0, .int .i64 1, .int .i64 0] := (hs _ (by omega)).trans kK
  obtain ⟨g6, c6, rfl⟩ := ownz_form ho6 (by omega)
  have hg6 := ho6.lt g6 rfl
  have hg64 : g6 ≠ w4.heap.size := fun e => hne6 (by rw [← e]; rfl)
  have hLQ : LQ w (w6.setCell ⟨w4.heap.size, 2, none⟩ (.slice (some ⟨g6, 0, none⟩) 7 c6)) q v b g := hq.on (by omega) (fun x hx hne => (hs x (by omega)).trans (hk x hx hne))
  have hcell : ∀ (x j : Nat) (u : Value), x ≠ w4.heap.size → w6.cell? ⟨x, j, none⟩ = some u → (w6.setCell ⟨w4.heap.size, 2, none⟩ (.slice (some ⟨g6, 0, none⟩) 7 c6)).cell? ⟨x, j, none⟩ = some u := fun x j u hx h => (World.cell?_of_block (hs x hx)).trans h
  have hRI : RepI (w6.setCell ⟨w4.heap.size, 2, none⟩ (.slice (some ⟨g6, 0, none⟩) 7 c6)) (okR w (w6.setCell ⟨w4.heap.size, 2, none⟩ (.slice (some ⟨g6, 0, none⟩) 7 c6))) [0, 1, 0] (.slice (some ⟨w4.heap.size + 1, 0, none⟩) 3 3) := by
    have hbs := hb.size
    refine ⟨_, _, rfl, fun i x hx => ⟨_, 0, rfl, ⟨by omega, by rw [hsz]; omega⟩, ?_⟩, Nat.le_refl _⟩
    have := kK2.cell i
    rw [Nat.zero_add, this]
    match i with
    | 0 => cases hx; rfl
    | 1 => cases hx; rfl
    | 2 => cases hx; rfl
    | i + 3 => cases hx
  refine ⟨?_, ?_, ?_, kG2⟩
  · have hbs := hb.size
    refine ⟨hgr.os.trans hb.os, hgr.tape.trans hb.tape, hgr.output.trans hb.output, by rw [hsz]; omega, fun i hi => ?_⟩
    exact (hs i (by omega)).trans ((hk i (by omega) (by omega)).trans (hb.block i hi))
  · exact rep_irl hLQ ⟨hg.1, by rw [hsz]; omega⟩ (fun j u hu => hcell g j u (by omega) (hl6 j u hu))
  · exact rep_irn hLQ ⟨Nat.le_trans hB hg6.1, by rw [hsz]; exact hg6.2⟩ hRI (fun j u hu => hcell g6 j u hg64 (by have := ho6.cells (g := g6) rfl j u hu; rwa [Addr.add_lit, Nat.zero_add] at this))
/-- The calls. -/
theorem il_tail {w W : World} {q : Nat} {out again : Bool} {val : Int} {g c b : Nat} {vN : Value} (h : TL w W q again val g c vN b) (hq : q < 17) (hval : val = if out = true then 3 else 1) (he : PEnv w) :
    (∀ V, Below W.heap.size W V → Calls Tryz.prog 11 #[.slice (some ⟨g, 0, none⟩) 6 c, .int .i64 4] V (RetN (.int .i64 (if q < 16 then 3 else 0)) V)) ∧
    (∀ V, Below W.heap.size W V → Calls Tryz.prog 11 #[.slice (some ⟨g, 0, none⟩) 6 c, .int .i64 5] V (RetN (.int .i64 (if q < 16 then 2 else 0)) V)) ∧
    (∀ V, Below W.heap.size W V → Calls Tryz.prog 12 #[.agg #[.slice none 0 0, .slice (some ⟨V.heap.size, 0, none⟩) 1 1]] (V.alloc (.cells (gC vN val) 52)) (RetN (.bool (decide (q < 16) && (decide (0 < q) && (!out && !again)))) (V.alloc (.cells (gC vN val) 52)))) ∧
    (∀ V, Below w.heap.size w V → Calls Tryz.prog 13 #[] V (RetN (.bool true) V)) := by
  have hs := ir_sort_at q hq
  have hlk := fun V (hV : Below W.heap.size W V) => h.l.keep (w' := V) (ok' := okR w W) keepsD (fun _ k => k) (fun g k => hV.block g k.2)
  have hlo := fun V (hV : Below W.heap.size W V) g (k : okR w W g) => Nat.lt_of_lt_of_le k.2 hV.size
  refine ⟨fun V hV => ?_, fun V hV => ?_, fun V hV => ?_, fun V hV => ire_any V (he.on hV)⟩
  · have := sort_any (irL q) _ V (okR w W) (hlk V hV) (hlo V hV) (ir_fits0 q hq) 4 (by omega)
    rw [hs.1] at this
    by_cases h16 : q < 16
    · rw [if_pos h16] at this ⊢; exact this
    · rw [if_neg h16] at this ⊢; exact this
  · have := sort_any (irL q) _ V (okR w W) (hlk V hV) (hlo V hV) (ir_fits0 q hq) 5 (by omega)
    rw [hs.2] at this
    by_cases h16 : q < 16
    · rw [if_pos h16] at this ⊢; exact this
    · rw [if_neg h16] at this ⊢; exact this
  · have hbV : Below V.heap.size V (V.alloc (.cells (gC vN val) 52)) := (Below.refl _ _).alloc (Nat.le_refl _) _
    have hWV := hV.trans (below_down hbV hV.size)
    have hn := h.n.keep (w' := V.alloc (.cells (gC vN val) 52)) (ok' := fun g => g < (V.alloc (.cells (gC vN val) 52)).heap.size) keepsD (fun g k => Nat.lt_of_lt_of_le k.2 hWV.size) (fun g k => hWV.block g k.2)
    have kG : Blk (V.alloc (.cells (gC vN val) 52)) V.heap.size 52 (gC vN val) := Blk.new _ _ _
    have hgr : RepL RepGr 5 (V.alloc (.cells (gC vN val) 52)) (fun g => g < (V.alloc (.cells (gC vN val) 52)).heap.size) [irG q out again] (.slice (some ⟨V.heap.size, 0, none⟩) 1 1) := by
      refine ⟨fun _ => (gC vN val).toList, ⟨_, 1, rfl, fun _ => ⟨V.heap.size, rfl, kG.lt, fun i j u hi hu => ?_, fun h => absurd h (by decide)⟩⟩, fun i x hx => ?_⟩
      · obtain rfl : i = 0 := by simpa using hi
        rw [Nat.zero_mul, Nat.zero_add, kG.cell j]
        simpa using hu
      · match i with
        | 0 =>
          simp at hx
          subst hx
          exact ⟨vN, by rw [hval]; rfl, hn⟩
        | i + 1 => simp at hx
    have hne : ∀ f ∈ [irG q out again], f.nodes ≠ [] := fun f hf => by
      obtain rfl := List.mem_singleton.1 hf
      unfold irG irN irL
      simp
    have hft : ∀ f ∈ [irG q out again], Fits f.nodes := fun f hf => by
      obtain rfl := List.mem_singleton.1 hf
      exact ir_fits q hq again
    have := va_any [] [irG q out again] (.slice none 0 0) (.slice (some ⟨V.heap.size, 0, none⟩) 1 1) _ _ (repL_nil _ _ _ _) hgr (fun _ k => k) (ir_sz q out again) hft (he.on (h.bl.trans (below_down hWV h.bl.size))) idnB (fun f hf v W' ok' hr hok => hid_any f.nodes (hne f hf) v W' ok' hr hok (hft f hf))
    rw [ir_valid_at q hq out again] at this
    exact this
theorem il_tail2 {w W : World} {q : Nat} {out again : Bool} {val : Int} {g c b : Nat} {vN : Value} (h : TL w W q again val g c vN b) (hq : q < 17) (hval : val = if out = true then 3 else 1) (he : PEnv w) (s4 s5 : Int) (B : Bool)
    (h4 : s4 = if q < 16 then 3 else 0) (h5 : s5 = if q < 16 then 2 else 0) (hB : B = (decide (q < 16) && (decide (0 < q) && (!out && !again)))) :
    (∀ V, Below W.heap.size W V → Calls Tryz.prog 11 #[.slice (some ⟨g, 0, none⟩) 6 c, .int .i64 4] V (RetN (.int .i64 s4) V)) ∧
    (∀ V, Below W.heap.size W V → Calls Tryz.prog 11 #[.slice (some ⟨g, 0, none⟩) 6 c, .int .i64 5] V (RetN (.int .i64 s5) V)) ∧
    (∀ V, Below W.heap.size W V → Calls Tryz.prog 12 #[.agg #[.slice none 0 0, .slice (some ⟨V.heap.size, 0, none⟩) 1 1]] (V.alloc (.cells (gC vN val) 52)) (RetN (.bool B) (V.alloc (.cells (gC vN val) 52)))) ∧
    (∀ V, Below w.heap.size w V → Calls Tryz.prog 13 #[] V (RetN (.bool true) V)) := by
  subst h4 h5 hB
  exact il_tail h hq hval he
theorem news3 (w : World) (A B : Obj) (cs : List Value) (t : TypeId) : ∀ (j : Nat) (u : Value), cs[j]? = some u → (((w.alloc A).alloc B).alloc (.cells cs.toArray t)).cell? ((⟨w.heap.size + 1 + 1, 0, none⟩ : Addr).add j) = some u := fun j u hu => by
  have hb : Blk (((w.alloc A).alloc B).alloc (.cells cs.toArray t)) (w.heap.size + 1 + 1) t cs.toArray := blk_at (by simp) _ _
  rw [Addr.add_lit, Nat.zero_add, hb.cell j]
  simpa using hu
theorem tl_fit {w w4 w6 : World} {q g c b : Nat} {v v0 : Value} {val : Int} (hb : Below w.heap.size w w4) (ho : w4.ownsRow w.heap.size 49 3 (.slice (some ⟨g, 0, none⟩) 6 c) 6 (cssL v b).flatten) (hq : LQ w w4 q v b g)
    (hgr : (((w4.alloc (.cells (gC v0 val) 52)).alloc (.cells #[.int .i64 0, .int .i64 1, .int .i64 0] 3)).alloc (.cells #[.int .i64 31, .int .i64 0, .slice (some ⟨w4.heap.size + 1, 0, none⟩) 3 3] 49)).grownBy w6 (some g))
    (ho6 : w6.ownsRow w.heap.size 49 3 (.slice (some ⟨g, 0, none⟩) 7 c) 7 ((cssL v b).flatten ++ [.int .i64 31, .int .i64 0, .slice (some ⟨w4.heap.size + 1, 0, none⟩) 3 3])) :
    Blk w6 w4.heap.size 52 (gC v0 val) ∧ TL w (w6.setCell ⟨w4.heap.size, 2, none⟩ (.slice (some ⟨g, 0, none⟩) 7 c)) q true val g c (.slice (some ⟨g, 0, none⟩) 7 c) w4.heap.size :=
  tl_1 hb ho hq (Nat.le_refl _) (.inl rfl) hgr ho6 rfl fun j u hu => by
    have := ho6.cells (g := g) rfl j u (by rw [List.getElem?_append_left (List.getElem?_eq_some_iff.1 hu).1]; exact hu)
    rwa [Addr.add_lit, Nat.zero_add] at this
theorem tl_grow {w w4 w6 : World} {q g c b B : Nat} {v v0 v6 : Value} {val : Int} (hb : Below w.heap.size w w4) (ho : w4.ownsRow w.heap.size 49 3 (.slice (some ⟨g, 0, none⟩) 6 c) 6 (cssL v b).flatten) (hq : LQ w w4 q v b g) (hB : w4.heap.size ≤ B)
    (hgr : (((w4.alloc (.cells (gC v0 val) 52)).alloc (.cells #[.int .i64 0, .int .i64 1, .int .i64 0] 3)).alloc (.cells #[.int .i64 31, .int .i64 0, .slice (some ⟨w4.heap.size + 1, 0, none⟩) 3 3] 49)).grownBy w6 none)
    (ho6 : w6.ownsRow B 49 3 v6 7 ((cssL v b).flatten ++ [.int .i64 31, .int .i64 0, .slice (some ⟨w4.heap.size + 1, 0, none⟩) 3 3])) :
    Blk w6 w4.heap.size 52 (gC v0 val) ∧ TL w (w6.setCell ⟨w4.heap.size, 2, none⟩ v6) q true val g c v6 w4.heap.size :=
  tl_1 hb ho hq (Nat.le_trans hb.size hB) (.inr rfl) hgr ho6 rfl fun j u hu => by
    have h3 := ((ho.alloc (.cells (gC v0 val) 52)).alloc (.cells #[.int .i64 0, .int .i64 1, .int .i64 0] 3)).alloc (.cells #[.int .i64 31, .int .i64 0, .slice (some ⟨w4.heap.size + 1, 0, none⟩) 3 3] 49)
    have := h3.cells (g := g) rfl j u hu
    rw [Addr.add_lit, Nat.zero_add] at this
    exact (World.cell?_of_block (hgr.block g (h3.lt g rfl).2 (fun e => by cases e))).trans this
end Go.Proofs.YtpgnlfdindmopaaGreatDoor
namespace Go.Proofs.YtpgnlfdindmopaaGreatDoor
open Go.RowKit (wrap64 intOf)
open Go Go.RowKit WM LX PX CX GX

set_option maxRecDepth 100000
set_option maxHeartbeats 4000000
def IlR (w : World) (q c : Nat) (f : Nat → List Int) (z : Value) (wr : World) : Prop :=
  ∃ (j k : Nat) (v : Value), z = .int .i64 ((j : Int) + 1) ∧ j + k = q ∧ KS w (f j) (c + j) v wr
theorem own_old {W : World} {B n c g : Nat} {T : TypeId} {sz : Nat} {xs : List Value} (h : W.ownsRow B T sz (.slice (some ⟨g, 0, none⟩) n c) n xs) : ∀ b, some (⟨g, 0, none⟩ : Addr) = some b → ∀ j u, xs[j]? = some u → W.cell? (b.add j) = some u := fun b e j u hu => by
  injection e with e
  subst e
  exact h.cells (g := g) rfl j u hu
theorem rep1 (j : Nat) : (0 : Int) :: List.replicate (j + 1) 1 = (0 :: List.replicate j 1) ++ [1] := by rw [List.replicate_succ']; rfl
theorem rep3 (p : List Int) (j : Nat) : p ++ List.replicate (j + 1) (3 : Int) = (p ++ List.replicate j 3) ++ [3] := by rw [List.replicate_succ', List.append_assoc]
theorem irl_any (n : Int) (out again : Bool) (w : World) (he : PEnv w) : Calls Tryz.prog 4 #[.int .i64 n, .bool out, .bool again] w (RetN (.bool true) w) := by
  obtain ⟨q, hq, hq17⟩ : ∃ q : Nat, n % 17 = (q : Int) ∧ q < 17 := ⟨(n % 17).toNat, by omega, by omega⟩
  have HP1 := Lib.hid (fun w => pick_any n 17 q (by decide) (by decide) hq w)
  have HE := Lib.hid he
  obtain ⟨i0, hi, hz0, hz1, hz2⟩ := info_parts int_info
  obtain ⟨W3, hW3⟩ : ∃ W3, ((w.alloc (.cells l4C 49)).alloc (.cells #[.int .i64 0] 3)).alloc (.cells #[.int .i64 31, .int .i64 0, .slice (some ⟨w.heap.size + 1, 0, none⟩) 1 1] 49) = W3 := ⟨_, rfl⟩
  have hks : KS w [0] 1 (.slice (some ⟨w.heap.size + 1, 0, none⟩) 1 1) W3 := by
    rw [← hW3]
    have hb1 : Blk ((w.alloc (.cells l4C 49)).alloc (.cells #[.int .i64 0] 3)) (w.heap.size + 1) 3 #[.int .i64 0] := blk_at (by simp) _ _
    refine ⟨(((Below.refl _ _).alloc (Nat.le_refl _) _).alloc (by simp) _).alloc (by simp; omega) _, ((Blk.new _ _ _).alloc _).alloc _, blk_at (by simp) _ _, ⟨rfl, .inr ⟨w.heap.size + 1, 1, _, rfl, Nat.le_refl _, hb1.alloc _, Nat.le_refl _, by unfold maxLen; omega, rfl, rfl⟩⟩, rfl⟩
  have HW := Lib.hid (And.intro hW3 hks)
  clear he hq hW3 hks
  go_enter Tryz.func4, Tryz.ntmps4
  go_wp2_with fail
  (with_reducible refine (HP1.out _).mono ?_)
  rintro e w' ⟨rfl, rfl⟩
  go_wp2_with fail
  rw [HW.out.1]
  go_loopw [9] (fun z wr => Hid (IlR w q (1) (fun j => 0 :: List.replicate j 1) z wr)) (fun z _ => q + 1 - (intOf z).toNat)
  case atStart => exact Lib.hid ⟨0, q, _, rfl, Nat.zero_add _, HW.out.2⟩
  case round =>
    obtain ⟨j, k, v, rfl, hjk, hks⟩ := hrel.out
    clear hrel
    obtain ⟨gv, cv, rfl⟩ := ownz_form hks.o (by omega)
    obtain ⟨u0, u1, u2, _, _, f2⟩ := hks.n.cells3
    have hl0 := hks.l.lt
    have hl2 := hks.n.lt
    have HK := Lib.hid hks
    clear hks
    cases k with
    | zero =>
      have e1 : (1 : Int) + (q : Int) ≤ (j : Int) + 1 := by omega
      have e2 : decide ((j : Int) + 1 < 1 + (q : Int)) = false := decide_eq_false (by omega)
      obtain rfl : q = j := by omega
      go_wp2_with (at_builtin; refine wpList_append_own _ rfl (.tmp 34) (.tmp 35) 47 rfl (w.heap.size + 1) 3 i0 _ 1 8 Tryz.underlying47 hi hz0 hz1 hz2 rfl (by decide) _ _ _ rfl (HK.out.o.alloc _) ⟨wr.heap.size, 0, none⟩ 2 2 [.int .i64 1, .int .i64 2] rfl rfl (World.news_of_block (heap_alloc_new _ _)) (by simp [Value.oneCell']) (by unfold maxLen; omega) (by omega) (by rw [World.size_alloc]; omega) ?_; intro v2 w3 hown2 hgr2 _; have hap := HK.out.app hgr2; obtain ⟨_, _, t2, _, _, g2⟩ := hap.2.2.cells3; have hl3 := hap.2.2.lt; obtain ⟨gv2, cv2, rfl⟩ := ownz_form hown2 (by omega); have HF := Lib.hid (HK.out.fin (ys := [1, 2]) hgr2 hown2 rfl); clear hap hown2 hgr2)
      obtain ⟨W8, hW8⟩ : ∃ W8, w3.setCell ⟨w.heap.size + 1 + 1, 2, none⟩ (.slice (some ⟨gv2, 0, none⟩) (1 + q + 2) cv2) = W8 := ⟨_, rfl⟩
      rw [hW8]
      have HK8 : Hid (KS w (((0 :: List.replicate q 1) ++ [1, 2]) ++ []) (1 + q + 2) (.slice (some ⟨gv2, 0, none⟩) (1 + q + 2) cv2) W8) := Lib.hid (by rw [List.append_nil, ← hW8]; exact HF.out)
      clear HF t2 g2 hl3 hW8 HK u0 u1 u2 f2 hl0 hl2 e1 e2 HW
      go_loopw [10] (fun z wr => Hid (IlR w q (1 + q + 2) (fun j => ((0 :: List.replicate q 1) ++ [1, 2]) ++ List.replicate j 3) z wr)) (fun z _ => q + 1 - (intOf z).toNat)
      case atStart => exact Lib.hid ⟨0, q, _, rfl, Nat.zero_add _, HK8.out⟩
      case round =>
        obtain ⟨j, k, v, rfl, hjk, hks⟩ := hrel.out
        clear hrel
        obtain ⟨gv, cv, rfl⟩ := ownz_form hks.o (by omega)
        obtain ⟨u0, u1, u2, _, _, f2⟩ := hks.n.cells3
        have hl0 := hks.l.lt
        have hl2 := hks.n.lt
        have HK := Lib.hid hks
        clear hks
        cases k with
        | zero =>
          have e1 : (1 : Int) + (q : Int) ≤ (j : Int) + 1 := by omega
          have e2 : decide ((j : Int) + 1 < 1 + (q : Int)) = false := decide_eq_false (by omega)
          obtain rfl : q = j := by omega
          have hx : ((0 :: List.replicate q (1 : Int)) ++ [1, 2]) ++ List.replicate q 3 = (irK q).kids := by unfold irK; simp [List.append_assoc]
          have HX := Lib.hid hx
          obtain ⟨i1, hj, hy0, hy1, hy2⟩ := info_parts nd_info
          clear hx e1 e2
          cases out <;> cases again
          · go_wp2_with (at_builtin; refine wpList_append_own _ rfl (.tmp 48) (.tmp 52) 50 rfl w.heap.size 49 i1 _ 3 40 Tryz.underlying50 hj hy0 hy1 hy2 rfl (by decide) _ _ _ rfl (own_l ((HK.out.l.alloc _).alloc _)) ⟨wr.heap.size + 1, 0, none⟩ 2 2 [.int .i64 31, .int .i64 0, .slice (some ⟨gv, 0, none⟩) (1 + q + 2 + q) cv, .int .i64 25, .int .i64 0, .slice (some ⟨wr.heap.size, 0, none⟩) 1 1] rfl rfl (World.news_of_block (heap_alloc2_new _ _ _)) (by simp [Value.oneCell']) (by unfold maxLen; omega) (by omega) (by have := HK.out.bl.size; simp; omega) ?_; intro v4 w4 hown4 hgr4 _; obtain ⟨g4, c4, rfl⟩ := ownz_form hown4 (by omega); have HF4 := Lib.hid (And.intro hown4 (fin_l HK.out HX.out hown4 hgr4)); clear hown4 hgr4)
            have htl := tl_0 1 HF4.out.2.1 HF4.out.1 HF4.out.2.2
            obtain ⟨W5, hW5⟩ : ∃ W5, w4.alloc (.cells (gC (.slice (some ⟨g4, 0, none⟩) 6 c4) 1) 52) = W5 := ⟨_, rfl⟩
            rw [hW5] at htl
            have HTL := Lib.hid htl
            clear htl
            rw [hW5]
            clear hW5
            rcases (show q = 0 ∨ (0 < q ∧ q < 16) ∨ q = 16 by omega) with rfl | ⟨h0, h16⟩ | rfl
            · have HT := Lib.hid (il_tail2 (out := false) HTL.out hq17 rfl HE.out 3 2 false rfl rfl rfl)
              clear HX
              refine (HT.out.1 _ (Below.refl _ _)).mono ?_
              rintro e w7 ⟨rfl, hb7⟩
              have HB7 := Lib.hid hb7
              clear hb7
              go_wp2_with fail
              refine (HT.out.2.1 _ HB7.out).mono ?_
              rintro e w8 ⟨rfl, hb8⟩
              have hb78 := HB7.out.trans (below_down hb8 HB7.out.size)
              obtain ⟨x0, x1, x2, x3, x4, _⟩ := (HTL.out.g.on hb78 HTL.out.g.lt).cells5
              have hl8 := Nat.lt_of_lt_of_le HTL.out.g.lt hb78.size
              have HB8 := Lib.hid hb78
              clear hb8 hb78
              go_wp2_with fail
              refine (HT.out.2.2.1 _ HB8.out).mono ?_
              rintro e w9 ⟨rfl, hb9⟩
              have HB9 : Hid (Below w.heap.size w w9) := Lib.hid (by
                have h1 := HTL.out.bl.trans (below_down HB8.out HTL.out.bl.size)
                exact (h1.alloc h1.size _).trans (below_down hb9 (by rw [World.size_alloc]; have := h1.size; omega)))
              clear hb9
              go_wp2_with fail
              refine (HT.out.2.2.2 _ HB9.out).mono ?_
              rintro e w10 ⟨rfl, hb10⟩
              have HB10 := Lib.hid (HB9.out.trans (below_down hb10 HB9.out.size))
              clear hb10
              go_wp2_with fail
              go_ret
              exact retN rfl HB10.out
            · have z0 : (0 : Int) < (q : Int) := (by omega); have z1 : (1 : Int) + (q : Int) ≤ 16 := (by omega); have z2 : (1 : Int) < 1 + (q : Int) := (by omega); have HT := Lib.hid (il_tail2 (out := false) HTL.out hq17 rfl HE.out 3 2 true (by rw [if_pos h16]) (by rw [if_pos h16]) (by rw [decide_eq_true h16, decide_eq_true h0]; rfl))
              clear h0 h16
              refine (HT.out.1 _ (Below.refl _ _)).mono ?_
              rintro e w7 ⟨rfl, hb7⟩
              have HB7 := Lib.hid hb7
              clear hb7
              go_wp2_with fail
              refine (HT.out.2.1 _ HB7.out).mono ?_
              rintro e w8 ⟨rfl, hb8⟩
              have hb78 := HB7.out.trans (below_down hb8 HB7.out.size)
              obtain ⟨x0, x1, x2, x3, x4, _⟩ := (HTL.out.g.on hb78 HTL.out.g.lt).cells5
              have hl8 := Nat.lt_of_lt_of_le HTL.out.g.lt hb78.size
              have HB8 := Lib.hid hb78
              clear hb8 hb78
              go_wp2_with fail
              refine (HT.out.2.2.1 _ HB8.out).mono ?_
              rintro e w9 ⟨rfl, hb9⟩
              have HB9 : Hid (Below w.heap.size w w9) := Lib.hid (by
                have h1 := HTL.out.bl.trans (below_down HB8.out HTL.out.bl.size)
                exact (h1.alloc h1.size _).trans (below_down hb9 (by rw [World.size_alloc]; have := h1.size; omega)))
              clear hb9
              go_wp2_with fail
              refine (HT.out.2.2.2 _ HB9.out).mono ?_
              rintro e w10 ⟨rfl, hb10⟩
              have HB10 := Lib.hid (HB9.out.trans (below_down hb10 HB9.out.size))
              clear hb10
              go_wp2_with fail
              go_ret
              exact retN rfl HB10.out
            · have HT := Lib.hid (il_tail2 (out := false) HTL.out hq17 rfl HE.out 0 0 false rfl rfl rfl)
              clear HX
              refine (HT.out.1 _ (Below.refl _ _)).mono ?_
              rintro e w7 ⟨rfl, hb7⟩
              have HB7 := Lib.hid hb7
              clear hb7
              go_wp2_with fail
              refine (HT.out.2.1 _ HB7.out).mono ?_
              rintro e w8 ⟨rfl, hb8⟩
              have hb78 := HB7.out.trans (below_down hb8 HB7.out.size)
              obtain ⟨x0, x1, x2, x3, x4, _⟩ := (HTL.out.g.on hb78 HTL.out.g.lt).cells5
              have hl8 := Nat.lt_of_lt_of_le HTL.out.g.lt hb78.size
              have HB8 := Lib.hid hb78
              clear hb8 hb78
              go_wp2_with fail
              refine (HT.out.2.2.1 _ HB8.out).mono ?_
              rintro e w9 ⟨rfl, hb9⟩
              have HB9 : Hid (Below w.heap.size w w9) := Lib.hid (by
                have h1 := HTL.out.bl.trans (below_down HB8.out HTL.out.bl.size)
                exact (h1.alloc h1.size _).trans (below_down hb9 (by rw [World.size_alloc]; have := h1.size; omega)))
              clear hb9
              go_wp2_with fail
              refine (HT.out.2.2.2 _ HB9.out).mono ?_
              rintro e w10 ⟨rfl, hb10⟩
              have HB10 := Lib.hid (HB9.out.trans (below_down hb10 HB9.out.size))
              clear hb10
              go_wp2_with fail
              go_ret
              exact retN rfl HB10.out
          · go_upto_region 18 with (at_builtin; refine wpList_append_own _ rfl (.tmp 48) (.tmp 52) 50 rfl w.heap.size 49 i1 _ 3 40 Tryz.underlying50 hj hy0 hy1 hy2 rfl (by decide) _ _ _ rfl (own_l ((HK.out.l.alloc _).alloc _)) ⟨wr.heap.size + 1, 0, none⟩ 2 2 [.int .i64 31, .int .i64 0, .slice (some ⟨gv, 0, none⟩) (1 + q + 2 + q) cv, .int .i64 25, .int .i64 0, .slice (some ⟨wr.heap.size, 0, none⟩) 1 1] rfl rfl (World.news_of_block (heap_alloc2_new _ _ _)) (by simp [Value.oneCell']) (by unfold maxLen; omega) (by omega) (by have := HK.out.bl.size; simp; omega) ?_; intro v4 w4 hown4 hgr4 _; obtain ⟨g4, c4, rfl⟩ := ownz_form hown4 (by omega); have HF4 := Lib.hid (And.intro hown4 (fin_l HK.out HX.out hown4 hgr4)); clear hown4 hgr4)
            by_cases h7 : 7 ≤ c4
            · go_wp2_with (at_builtin; refine wpList_append_fits _ rfl (.tmp 59) (.tmp 62) 50 rfl w.heap.size 49 i1 3 Tryz.underlying50 hj hy1 g4 6 c4 _ rfl (((HF4.out.1.alloc _).alloc _).alloc _) ⟨w4.heap.size + 1 + 1, 0, none⟩ 1 1 [.int .i64 31, .int .i64 0, .slice (some ⟨w4.heap.size + 1, 0, none⟩) 3 3] rfl rfl (news3 _ _ _ _ _) (by simp [Value.oneCell']) (by omega) ?_; intro w6 hown6 hgr6; have h1 := tl_fit HF4.out.2.1 HF4.out.1 HF4.out.2.2 hgr6 hown6; obtain ⟨_, _, t2, _, _, _, _, g2, _, _⟩ := h1.1.cells5; have hl6 := h1.1.lt; have HTL := Lib.hid h1.2; clear h1 hown6 hgr6)
              obtain ⟨W5, hW5⟩ : ∃ W5, w6.setCell ⟨w4.heap.size, 2, none⟩ (.slice (some ⟨g4, 0, none⟩) 7 c4) = W5 := ⟨_, rfl⟩
              rw [hW5] at HTL ⊢
              clear hW5
              rcases (show q = 0 ∨ (0 < q ∧ q < 16) ∨ q = 16 by omega) with rfl | ⟨h0, h16⟩ | rfl
              · have HT := Lib.hid (il_tail2 (out := false) HTL.out hq17 rfl HE.out 3 2 false rfl rfl rfl)
                clear HX
                refine (HT.out.1 _ (Below.refl _ _)).mono ?_
                rintro e w7 ⟨rfl, hb7⟩
                have HB7 := Lib.hid hb7
                clear hb7
                go_wp2_with fail
                refine (HT.out.2.1 _ HB7.out).mono ?_
                rintro e w8 ⟨rfl, hb8⟩
                have hb78 := HB7.out.trans (below_down hb8 HB7.out.size)
                obtain ⟨x0, x1, x2, x3, x4, _⟩ := (HTL.out.g.on hb78 HTL.out.g.lt).cells5
                have hl8 := Nat.lt_of_lt_of_le HTL.out.g.lt hb78.size
                have HB8 := Lib.hid hb78
                clear hb8 hb78
                go_wp2_with fail
                refine (HT.out.2.2.1 _ HB8.out).mono ?_
                rintro e w9 ⟨rfl, hb9⟩
                have HB9 : Hid (Below w.heap.size w w9) := Lib.hid (by
                  have h1 := HTL.out.bl.trans (below_down HB8.out HTL.out.bl.size)
                  exact (h1.alloc h1.size _).trans (below_down hb9 (by rw [World.size_alloc]; have := h1.size; omega)))
                clear hb9
                go_wp2_with fail
                refine (HT.out.2.2.2 _ HB9.out).mono ?_
                rintro e w10 ⟨rfl, hb10⟩
                have HB10 := Lib.hid (HB9.out.trans (below_down hb10 HB9.out.size))
                clear hb10
                go_wp2_with fail
                go_ret
                exact retN rfl HB10.out
              · have z0 : (0 : Int) < (q : Int) := (by omega); have z1 : (1 : Int) + (q : Int) ≤ 16 := (by omega); have z2 : (1 : Int) < 1 + (q : Int) := (by omega); have HT := Lib.hid (il_tail2 (out := false) HTL.out hq17 rfl HE.out 3 2 false (by rw [if_pos h16]) (by rw [if_pos h16]) (by rw [decide_eq_true h16, decide_eq_true h0]; rfl))
                clear h0 h16
                refine (HT.out.1 _ (Below.refl _ _)).mono ?_
                rintro e w7 ⟨rfl, hb7⟩
                have HB7 := Lib.hid hb7
                clear hb7
                go_wp2_with fail
                refine (HT.out.2.1 _ HB7.out).mono ?_
                rintro e w8 ⟨rfl, hb8⟩
                have hb78 := HB7.out.trans (below_down hb8 HB7.out.size)
                obtain ⟨x0, x1, x2, x3, x4, _⟩ := (HTL.out.g.on hb78 HTL.out.g.lt).cells5
                have hl8 := Nat.lt_of_lt_of_le HTL.out.g.lt hb78.size
                have HB8 := Lib.hid hb78
                clear hb8 hb78
                go_wp2_with fail
                refine (HT.out.2.2.1 _ HB8.out).mono ?_
                rintro e w9 ⟨rfl, hb9⟩
                have HB9 : Hid (Below w.heap.size w w9) := Lib.hid (by
                  have h1 := HTL.out.bl.trans (below_down HB8.out HTL.out.bl.size)
                  exact (h1.alloc h1.size _).trans (below_down hb9 (by rw [World.size_alloc]; have := h1.size; omega)))
                clear hb9
                go_wp2_with fail
                refine (HT.out.2.2.2 _ HB9.out).mono ?_
                rintro e w10 ⟨rfl, hb10⟩
                have HB10 := Lib.hid (HB9.out.trans (below_down hb10 HB9.out.size))
                clear hb10
                go_wp2_with fail
                go_ret
                exact retN rfl HB10.out
              · have HT := Lib.hid (il_tail2 (out := false) HTL.out hq17 rfl HE.out 0 0 false rfl rfl rfl)
                clear HX
                refine (HT.out.1 _ (Below.refl _ _)).mono ?_
                rintro e w7 ⟨rfl, hb7⟩
                have HB7 := Lib.hid hb7
                clear hb7
                go_wp2_with fail
                refine (HT.out.2.1 _ HB7.out).mono ?_
                rintro e w8 ⟨rfl, hb8⟩
                have hb78 := HB7.out.trans (below_down hb8 HB7.out.size)
                obtain ⟨x0, x1, x2, x3, x4, _⟩ := (HTL.out.g.on hb78 HTL.out.g.lt).cells5
                have hl8 := Nat.lt_of_lt_of_le HTL.out.g.lt hb78.size
                have HB8 := Lib.hid hb78
                clear hb8 hb78
                go_wp2_with fail
                refine (HT.out.2.2.1 _ HB8.out).mono ?_
                rintro e w9 ⟨rfl, hb9⟩
                have HB9 : Hid (Below w.heap.size w w9) := Lib.hid (by
                  have h1 := HTL.out.bl.trans (below_down HB8.out HTL.out.bl.size)
                  exact (h1.alloc h1.size _).trans (below_down hb9 (by rw [World.size_alloc]; have := h1.size; omega)))
                clear hb9
                go_wp2_with fail
                refine (HT.out.2.2.2 _ HB9.out).mono ?_
                rintro e w10 ⟨rfl, hb10⟩
                have HB10 := Lib.hid (HB9.out.trans (below_down hb10 HB9.out.size))
                clear hb10
                go_wp2_with fail
                go_ret
                exact retN rfl HB10.out
            · go_wp2_with (at_builtin; refine wpList_append_grows _ rfl (.tmp 59) (.tmp 62) 50 rfl 49 i1 _ 3 40 Tryz.underlying50 hj hy0 hy1 hy2 rfl (by decide) (some ⟨g4, 0, none⟩) 6 c4 _ rfl (fun h => by cases h) rfl (own_old (((HF4.out.1.alloc _).alloc _).alloc _)) ⟨w4.heap.size + 1 + 1, 0, none⟩ 1 1 [.int .i64 31, .int .i64 0, .slice (some ⟨w4.heap.size + 1, 0, none⟩) 3 3] rfl rfl (news3 _ _ _ _ _) (by simp [Value.oneCell']) (by omega) (by unfold maxLen; omega) (by omega) ?_; intro v6 w6 hown6 hgr6; have h1 := tl_grow HF4.out.2.1 HF4.out.1 HF4.out.2.2 (by simp; omega) hgr6 hown6; obtain ⟨g6, c6, rfl⟩ := ownz_form hown6 (by omega); obtain ⟨_, _, t2, _, _, _, _, g2, _, _⟩ := h1.1.cells5; have hl6 := h1.1.lt; have HTL := Lib.hid h1.2; clear h1 hown6 hgr6)
              obtain ⟨W5, hW5⟩ : ∃ W5, w6.setCell ⟨w4.heap.size, 2, none⟩ (.slice (some ⟨g6, 0, none⟩) 7 c6) = W5 := ⟨_, rfl⟩
              rw [hW5] at HTL ⊢
              clear hW5
              rcases (show q = 0 ∨ (0 < q ∧ q < 16) ∨ q = 16 by omega) with rfl | ⟨h0, h16⟩ | rfl
              · have HT := Lib.hid (il_tail2 (out := false) HTL.out hq17 rfl HE.out 3 2 false rfl rfl rfl)
                clear HX
                refine (HT.out.1 _ (Below.refl _ _)).mono ?_
                rintro e w7 ⟨rfl, hb7⟩
                have HB7 := Lib.hid hb7
                clear hb7
                go_wp2_with fail
                refine (HT.out.2.1 _ HB7.out).mono ?_
                rintro e w8 ⟨rfl, hb8⟩
                have hb78 := HB7.out.trans (below_down hb8 HB7.out.size)
                obtain ⟨x0, x1, x2, x3, x4, _⟩ := (HTL.out.g.on hb78 HTL.out.g.lt).cells5
                have hl8 := Nat.lt_of_lt_of_le HTL.out.g.lt hb78.size
                have HB8 := Lib.hid hb78
                clear hb8 hb78
                go_wp2_with fail
                refine (HT.out.2.2.1 _ HB8.out).mono ?_
                rintro e w9 ⟨rfl, hb9⟩
                have HB9 : Hid (Below w.heap.size w w9) := Lib.hid (by
                  have h1 := HTL.out.bl.trans (below_down HB8.out HTL.out.bl.size)
                  exact (h1.alloc h1.size _).trans (below_down hb9 (by rw [World.size_alloc]; have := h1.size; omega)))
                clear hb9
                go_wp2_with fail
                refine (HT.out.2.2.2 _ HB9.out).mono ?_
                rintro e w10 ⟨rfl, hb10⟩
                have HB10 := Lib.hid (HB9.out.trans (below_down hb10 HB9.out.size))
                clear hb10
                go_wp2_with fail
                go_ret
                exact retN rfl HB10.out
              · have z0 : (0 : Int) < (q : Int) := (by omega); have z1 : (1 : Int) + (q : Int) ≤ 16 := (by omega); have z2 : (1 : Int) < 1 + (q : Int) := (by omega); have HT := Lib.hid (il_tail2 (out := false) HTL.out hq17 rfl HE.out 3 2 false (by rw [if_pos h16]) (by rw [if_pos h16]) (by rw [decide_eq_true h16, decide_eq_true h0]; rfl))
                clear h0 h16
                refine (HT.out.1 _ (Below.refl _ _)).mono ?_
                rintro e w7 ⟨rfl, hb7⟩
                have HB7 := Lib.hid hb7
                clear hb7
                go_wp2_with fail
                refine (HT.out.2.1 _ HB7.out).mono ?_
                rintro e w8 ⟨rfl, hb8⟩
                have hb78 := HB7.out.trans (below_down hb8 HB7.out.size)
                obtain ⟨x0, x1, x2, x3, x4, _⟩ := (HTL.out.g.on hb78 HTL.out.g.lt).cells5
                have hl8 := Nat.lt_of_lt_of_le HTL.out.g.lt hb78.size
                have HB8 := Lib.hid hb78
                clear hb8 hb78
                go_wp2_with fail
                refine (HT.out.2.2.1 _ HB8.out).mono ?_
                rintro e w9 ⟨rfl, hb9⟩
                have HB9 : Hid (Below w.heap.size w w9) := Lib.hid (by
                  have h1 := HTL.out.bl.trans (below_down HB8.out HTL.out.bl.size)
                  exact (h1.alloc h1.size _).trans (below_down hb9 (by rw [World.size_alloc]; have := h1.size; omega)))
                clear hb9
                go_wp2_with fail
                refine (HT.out.2.2.2 _ HB9.out).mono ?_
                rintro e w10 ⟨rfl, hb10⟩
                have HB10 := Lib.hid (HB9.out.trans (below_down hb10 HB9.out.size))
                clear hb10
                go_wp2_with fail
                go_ret
                exact retN rfl HB10.out
              · have HT := Lib.hid (il_tail2 (out := false) HTL.out hq17 rfl HE.out 0 0 false rfl rfl rfl)
                clear HX
                refine (HT.out.1 _ (Below.refl _ _)).mono ?_
                rintro e w7 ⟨rfl, hb7⟩
                have HB7 := Lib.hid hb7
                clear hb7
                go_wp2_with fail
                refine (HT.out.2.1 _ HB7.out).mono ?_
                rintro e w8 ⟨rfl, hb8⟩
                have hb78 := HB7.out.trans (below_down hb8 HB7.out.size)
                obtain ⟨x0, x1, x2, x3, x4, _⟩ := (HTL.out.g.on hb78 HTL.out.g.lt).cells5
                have hl8 := Nat.lt_of_lt_of_le HTL.out.g.lt hb78.size
                have HB8 := Lib.hid hb78
                clear hb8 hb78
                go_wp2_with fail
                refine (HT.out.2.2.1 _ HB8.out).mono ?_
                rintro e w9 ⟨rfl, hb9⟩
                have HB9 : Hid (Below w.heap.size w w9) := Lib.hid (by
                  have h1 := HTL.out.bl.trans (below_down HB8.out HTL.out.bl.size)
                  exact (h1.alloc h1.size _).trans (below_down hb9 (by rw [World.size_alloc]; have := h1.size; omega)))
                clear hb9
                go_wp2_with fail
                refine (HT.out.2.2.2 _ HB9.out).mono ?_
                rintro e w10 ⟨rfl, hb10⟩
                have HB10 := Lib.hid (HB9.out.trans (below_down hb10 HB9.out.size))
                clear hb10
                go_wp2_with fail
                go_ret
                exact retN rfl HB10.out
          · go_wp2_with (at_builtin; refine wpList_append_own _ rfl (.tmp 48) (.tmp 52) 50 rfl w.heap.size 49 i1 _ 3 40 Tryz.underlying50 hj hy0 hy1 hy2 rfl (by decide) _ _ _ rfl (own_l ((HK.out.l.alloc _).alloc _)) ⟨wr.heap.size + 1, 0, none⟩ 2 2 [.int .i64 31, .int .i64 0, .slice (some ⟨gv, 0, none⟩) (1 + q + 2 + q) cv, .int .i64 25, .int .i64 0, .slice (some ⟨wr.heap.size, 0, none⟩) 1 1] rfl rfl (World.news_of_block (heap_alloc2_new _ _ _)) (by simp [Value.oneCell']) (by unfold maxLen; omega) (by omega) (by have := HK.out.bl.size; simp; omega) ?_; intro v4 w4 hown4 hgr4 _; obtain ⟨g4, c4, rfl⟩ := ownz_form hown4 (by omega); have HF4 := Lib.hid (And.intro hown4 (fin_l HK.out HX.out hown4 hgr4)); clear hown4 hgr4)
            have htl := tl_0 3 HF4.out.2.1 HF4.out.1 HF4.out.2.2
            obtain ⟨W5, hW5⟩ : ∃ W5, w4.alloc (.cells (gC (.slice (some ⟨g4, 0, none⟩) 6 c4) 3) 52) = W5 := ⟨_, rfl⟩
            rw [hW5] at htl
            have HTL := Lib.hid htl
            clear htl
            rw [hW5]
            clear hW5
            rcases (show q = 0 ∨ (0 < q ∧ q < 16) ∨ q = 16 by omega) with rfl | ⟨h0, h16⟩ | rfl
            · have HT := Lib.hid (il_tail2 (out := true) HTL.out hq17 rfl HE.out 3 2 false rfl rfl rfl)
              clear HX
              refine (HT.out.1 _ (Below.refl _ _)).mono ?_
              rintro e w7 ⟨rfl, hb7⟩
              have HB7 := Lib.hid hb7
              clear hb7
              go_wp2_with fail
              refine (HT.out.2.1 _ HB7.out).mono ?_
              rintro e w8 ⟨rfl, hb8⟩
              have hb78 := HB7.out.trans (below_down hb8 HB7.out.size)
              obtain ⟨x0, x1, x2, x3, x4, _⟩ := (HTL.out.g.on hb78 HTL.out.g.lt).cells5
              have hl8 := Nat.lt_of_lt_of_le HTL.out.g.lt hb78.size
              have HB8 := Lib.hid hb78
              clear hb8 hb78
              go_wp2_with fail
              refine (HT.out.2.2.1 _ HB8.out).mono ?_
              rintro e w9 ⟨rfl, hb9⟩
              have HB9 : Hid (Below w.heap.size w w9) := Lib.hid (by
                have h1 := HTL.out.bl.trans (below_down HB8.out HTL.out.bl.size)
                exact (h1.alloc h1.size _).trans (below_down hb9 (by rw [World.size_alloc]; have := h1.size; omega)))
              clear hb9
              go_wp2_with fail
              refine (HT.out.2.2.2 _ HB9.out).mono ?_
              rintro e w10 ⟨rfl, hb10⟩
              have HB10 := Lib.hid (HB9.out.trans (below_down hb10 HB9.out.size))
              clear hb10
              go_wp2_with fail
              go_ret
              exact retN rfl HB10.out
            · have z0 : (0 : Int) < (q : Int) := (by omega); have z1 : (1 : Int) + (q : Int) ≤ 16 := (by omega); have z2 : (1 : Int) < 1 + (q : Int) := (by omega); have HT := Lib.hid (il_tail2 (out := true) HTL.out hq17 rfl HE.out 3 2 false (by rw [if_pos h16]) (by rw [if_pos h16]) (by rw [decide_eq_true h16, decide_eq_true h0]; rfl))
              clear h0 h16
              refine (HT.out.1 _ (Below.refl _ _)).mono ?_
              rintro e w7 ⟨rfl, hb7⟩
              have HB7 := Lib.hid hb7
              clear hb7
              go_wp2_with fail
              refine (HT.out.2.1 _ HB7.out).mono ?_
              rintro e w8 ⟨rfl, hb8⟩
              have hb78 := HB7.out.trans (below_down hb8 HB7.out.size)
              obtain ⟨x0, x1, x2, x3, x4, _⟩ := (HTL.out.g.on hb78 HTL.out.g.lt).cells5
              have hl8 := Nat.lt_of_lt_of_le HTL.out.g.lt hb78.size
              have HB8 := Lib.hid hb78
              clear hb8 hb78
              go_wp2_with fail
              refine (HT.out.2.2.1 _ HB8.out).mono ?_
              rintro e w9 ⟨rfl, hb9⟩
              have HB9 : Hid (Below w.heap.size w w9) := Lib.hid (by
                have h1 := HTL.out.bl.trans (below_down HB8.out HTL.out.bl.size)
                exact (h1.alloc h1.size _).trans (below_down hb9 (by rw [World.size_alloc]; have := h1.size; omega)))
              clear hb9
              go_wp2_with fail
              refine (HT.out.2.2.2 _ HB9.out).mono ?_
              rintro e w10 ⟨rfl, hb10⟩
              have HB10 := Lib.hid (HB9.out.trans (below_down hb10 HB9.out.size))
              clear hb10
              go_wp2_with fail
              go_ret
              exact retN rfl HB10.out
            · have HT := Lib.hid (il_tail2 (out := true) HTL.out hq17 rfl HE.out 0 0 false rfl rfl rfl)
              clear HX
              refine (HT.out.1 _ (Below.refl _ _)).mono ?_
              rintro e w7 ⟨rfl, hb7⟩
              have HB7 := Lib.hid hb7
              clear hb7
              go_wp2_with fail
              refine (HT.out.2.1 _ HB7.out).mono ?_
              rintro e w8 ⟨rfl, hb8⟩
              have hb78 := HB7.out.trans (below_down hb8 HB7.out.size)
              obtain ⟨x0, x1, x2, x3, x4, _⟩ := (HTL.out.g.on hb78 HTL.out.g.lt).cells5
              have hl8 := Nat.lt_of_lt_of_le HTL.out.g.lt hb78.size
              have HB8 := Lib.hid hb78
              clear hb8 hb78
              go_wp2_with fail
              refine (HT.out.2.2.1 _ HB8.out).mono ?_
              rintro e w9 ⟨rfl, hb9⟩
              have HB9 : Hid (Below w.heap.size w w9) := Lib.hid (by
                have h1 := HTL.out.bl.trans (below_down HB8.out HTL.out.bl.size)
                exact (h1.alloc h1.size _).trans (below_down hb9 (by rw [World.size_alloc]; have := h1.size; omega)))
              clear hb9
              go_wp2_with fail
              refine (HT.out.2.2.2 _ HB9.out).mono ?_
              rintro e w10 ⟨rfl, hb10⟩
              have HB10 := Lib.hid (HB9.out.trans (below_down hb10 HB9.out.size))
              clear hb10
              go_wp2_with fail
              go_ret
              exact retN rfl HB10.out
          · go_upto_region 18 with (at_builtin; refine wpList_append_own _ rfl (.tmp 48) (.tmp 52) 50 rfl w.heap.size 49 i1 _ 3 40 Tryz.underlying50 hj hy0 hy1 hy2 rfl (by decide) _ _ _ rfl (own_l ((HK.out.l.alloc _).alloc _)) ⟨wr.heap.size + 1, 0, none⟩ 2 2 [.int .i64 31, .int .i64 0, .slice (some ⟨gv, 0, none⟩) (1 + q + 2 + q) cv, .int .i64 25, .int .i64 0, .slice (some ⟨wr.heap.size, 0, none⟩) 1 1] rfl rfl (World.news_of_block (heap_alloc2_new _ _ _)) (by simp [Value.oneCell']) (by unfold maxLen; omega) (by omega) (by have := HK.out.bl.size; simp; omega) ?_; intro v4 w4 hown4 hgr4 _; obtain ⟨g4, c4, rfl⟩ := ownz_form hown4 (by omega); have HF4 := Lib.hid (And.intro hown4 (fin_l HK.out HX.out hown4 hgr4)); clear hown4 hgr4)
            by_cases h7 : 7 ≤ c4
            · go_wp2_with (at_builtin; refine wpList_append_fits _ rfl (.tmp 59) (.tmp 62) 50 rfl w.heap.size 49 i1 3 Tryz.underlying50 hj hy1 g4 6 c4 _ rfl (((HF4.out.1.alloc _).alloc _).alloc _) ⟨w4.heap.size + 1 + 1, 0, none⟩ 1 1 [.int .i64 31, .int .i64 0, .slice (some ⟨w4.heap.size + 1, 0, none⟩) 3 3] rfl rfl (news3 _ _ _ _ _) (by simp [Value.oneCell']) (by omega) ?_; intro w6 hown6 hgr6; have h1 := tl_fit HF4.out.2.1 HF4.out.1 HF4.out.2.2 hgr6 hown6; obtain ⟨_, _, t2, _, _, _, _, g2, _, _⟩ := h1.1.cells5; have hl6 := h1.1.lt; have HTL := Lib.hid h1.2; clear h1 hown6 hgr6)
              obtain ⟨W5, hW5⟩ : ∃ W5, w6.setCell ⟨w4.heap.size, 2, none⟩ (.slice (some ⟨g4, 0, none⟩) 7 c4) = W5 := ⟨_, rfl⟩
              rw [hW5] at HTL ⊢
              clear hW5
              rcases (show q = 0 ∨ (0 < q ∧ q < 16) ∨ q = 16 by omega) with rfl | ⟨h0, h16⟩ | rfl
              · have HT := Lib.hid (il_tail2 (out := true) HTL.out hq17 rfl HE.out 3 2 false rfl rfl rfl)
                clear HX
                refine (HT.out.1 _ (Below.refl _ _)).mono ?_
                rintro e w7 ⟨rfl, hb7⟩
                have HB7 := Lib.hid hb7
                clear hb7
                go_wp2_with fail
                refine (HT.out.2.1 _ HB7.out).mono ?_
                rintro e w8 ⟨rfl, hb8⟩
                have hb78 := HB7.out.trans (below_down hb8 HB7.out.size)
                obtain ⟨x0, x1, x2, x3, x4, _⟩ := (HTL.out.g.on hb78 HTL.out.g.lt).cells5
                have hl8 := Nat.lt_of_lt_of_le HTL.out.g.lt hb78.size
                have HB8 := Lib.hid hb78
                clear hb8 hb78
                go_wp2_with fail
                refine (HT.out.2.2.1 _ HB8.out).mono ?_
                rintro e w9 ⟨rfl, hb9⟩
                have HB9 : Hid (Below w.heap.size w w9) := Lib.hid (by
                  have h1 := HTL.out.bl.trans (below_down HB8.out HTL.out.bl.size)
                  exact (h1.alloc h1.size _).trans (below_down hb9 (by rw [World.size_alloc]; have := h1.size; omega)))
                clear hb9
                go_wp2_with fail
                refine (HT.out.2.2.2 _ HB9.out).mono ?_
                rintro e w10 ⟨rfl, hb10⟩
                have HB10 := Lib.hid (HB9.out.trans (below_down hb10 HB9.out.size))
                clear hb10
                go_wp2_with fail
                go_ret
                exact retN rfl HB10.out
              · have z0 : (0 : Int) < (q : Int) := (by omega); have z1 : (1 : Int) + (q : Int) ≤ 16 := (by omega); have z2 : (1 : Int) < 1 + (q : Int) := (by omega); have HT := Lib.hid (il_tail2 (out := true) HTL.out hq17 rfl HE.out 3 2 false (by rw [if_pos h16]) (by rw [if_pos h16]) (by rw [decide_eq_true h16, decide_eq_true h0]; rfl))
                clear h0 h16
                refine (HT.out.1 _ (Below.refl _ _)).mono ?_
                rintro e w7 ⟨rfl, hb7⟩
                have HB7 := Lib.hid hb7
                clear hb7
                go_wp2_with fail
                refine (HT.out.2.1 _ HB7.out).mono ?_
                rintro e w8 ⟨rfl, hb8⟩
                have hb78 := HB7.out.trans (below_down hb8 HB7.out.size)
                obtain ⟨x0, x1, x2, x3, x4, _⟩ := (HTL.out.g.on hb78 HTL.out.g.lt).cells5
                have hl8 := Nat.lt_of_lt_of_le HTL.out.g.lt hb78.size
                have HB8 := Lib.hid hb78
                clear hb8 hb78
                go_wp2_with fail
                refine (HT.out.2.2.1 _ HB8.out).mono ?_
                rintro e w9 ⟨rfl, hb9⟩
                have HB9 : Hid (Below w.heap.size w w9) := Lib.hid (by
                  have h1 := HTL.out.bl.trans (below_down HB8.out HTL.out.bl.size)
                  exact (h1.alloc h1.size _).trans (below_down hb9 (by rw [World.size_alloc]; have := h1.size; omega)))
                clear hb9
                go_wp2_with fail
                refine (HT.out.2.2.2 _ HB9.out).mono ?_
                rintro e w10 ⟨rfl, hb10⟩
                have HB10 := Lib.hid (HB9.out.trans (below_down hb10 HB9.out.size))
                clear hb10
                go_wp2_with fail
                go_ret
                exact retN rfl HB10.out
              · have HT := Lib.hid (il_tail2 (out := true) HTL.out hq17 rfl HE.out 0 0 false rfl rfl rfl)
                clear HX
                refine (HT.out.1 _ (Below.refl _ _)).mono ?_
                rintro e w7 ⟨rfl, hb7⟩
                have HB7 := Lib.hid hb7
                clear hb7
                go_wp2_with fail
                refine (HT.out.2.1 _ HB7.out).mono ?_
                rintro e w8 ⟨rfl, hb8⟩
                have hb78 := HB7.out.trans (below_down hb8 HB7.out.size)
                obtain ⟨x0, x1, x2, x3, x4, _⟩ := (HTL.out.g.on hb78 HTL.out.g.lt).cells5
                have hl8 := Nat.lt_of_lt_of_le HTL.out.g.lt hb78.size
                have HB8 := Lib.hid hb78
                clear hb8 hb78
                go_wp2_with fail
                refine (HT.out.2.2.1 _ HB8.out).mono ?_
                rintro e w9 ⟨rfl, hb9⟩
                have HB9 : Hid (Below w.heap.size w w9) := Lib.hid (by
                  have h1 := HTL.out.bl.trans (below_down HB8.out HTL.out.bl.size)
                  exact (h1.alloc h1.size _).trans (below_down hb9 (by rw [World.size_alloc]; have := h1.size; omega)))
                clear hb9
                go_wp2_with fail
                refine (HT.out.2.2.2 _ HB9.out).mono ?_
                rintro e w10 ⟨rfl, hb10⟩
                have HB10 := Lib.hid (HB9.out.trans (below_down hb10 HB9.out.size))
                clear hb10
                go_wp2_with fail
                go_ret
                exact retN rfl HB10.out
            · go_wp2_with (at_builtin; refine wpList_append_grows _ rfl (.tmp 59) (.tmp 62) 50 rfl 49 i1 _ 3 40 Tryz.underlying50 hj hy0 hy1 hy2 rfl (by decide) (some ⟨g4, 0, none⟩) 6 c4 _ rfl (fun h => by cases h) rfl (own_old (((HF4.out.1.alloc _).alloc _).alloc _)) ⟨w4.heap.size + 1 + 1, 0, none⟩ 1 1 [.int .i64 31, .int .i64 0, .slice (some ⟨w4.heap.size + 1, 0, none⟩) 3 3] rfl rfl (news3 _ _ _ _ _) (by simp [Value.oneCell']) (by omega) (by unfold maxLen; omega) (by omega) ?_; intro v6 w6 hown6 hgr6; have h1 := tl_grow HF4.out.2.1 HF4.out.1 HF4.out.2.2 (by simp; omega) hgr6 hown6; obtain ⟨g6, c6, rfl⟩ := ownz_form hown6 (by omega); obtain ⟨_, _, t2, _, _, _, _, g2, _, _⟩ := h1.1.cells5; have hl6 := h1.1.lt; have HTL := Lib.hid h1.2; clear h1 hown6 hgr6)
              obtain ⟨W5, hW5⟩ : ∃ W5, w6.setCell ⟨w4.heap.size, 2, none⟩ (.slice (some ⟨g6, 0, none⟩) 7 c6) = W5 := ⟨_, rfl⟩
              rw [hW5] at HTL ⊢
              clear hW5
              rcases (show q = 0 ∨ (0 < q ∧ q < 16) ∨ q = 16 by omega) with rfl | ⟨h0, h16⟩ | rfl
              · have HT := Lib.hid (il_tail2 (out := true) HTL.out hq17 rfl HE.out 3 2 false rfl rfl rfl)
                clear HX
                refine (HT.out.1 _ (Below.refl _ _)).mono ?_
                rintro e w7 ⟨rfl, hb7⟩
                have HB7 := Lib.hid hb7
                clear hb7
                go_wp2_with fail
                refine (HT.out.2.1 _ HB7.out).mono ?_
                rintro e w8 ⟨rfl, hb8⟩
                have hb78 := HB7.out.trans (below_down hb8 HB7.out.size)
                obtain ⟨x0, x1, x2, x3, x4, _⟩ := (HTL.out.g.on hb78 HTL.out.g.lt).cells5
                have hl8 := Nat.lt_of_lt_of_le HTL.out.g.lt hb78.size
                have HB8 := Lib.hid hb78
                clear hb8 hb78
                go_wp2_with fail
                refine (HT.out.2.2.1 _ HB8.out).mono ?_
                rintro e w9 ⟨rfl, hb9⟩
                have HB9 : Hid (Below w.heap.size w w9) := Lib.hid (by
                  have h1 := HTL.out.bl.trans (below_down HB8.out HTL.out.bl.size)
                  exact (h1.alloc h1.size _).trans (below_down hb9 (by rw [World.size_alloc]; have := h1.size; omega)))
                clear hb9
                go_wp2_with fail
                refine (HT.out.2.2.2 _ HB9.out).mono ?_
                rintro e w10 ⟨rfl, hb10⟩
                have HB10 := Lib.hid (HB9.out.trans (below_down hb10 HB9.out.size))
                clear hb10
                go_wp2_with fail
                go_ret
                exact retN rfl HB10.out
              · have z0 : (0 : Int) < (q : Int) := (by omega); have z1 : (1 : Int) + (q : Int) ≤ 16 := (by omega); have z2 : (1 : Int) < 1 + (q : Int) := (by omega); have HT := Lib.hid (il_tail2 (out := true) HTL.out hq17 rfl HE.out 3 2 false (by rw [if_pos h16]) (by rw [if_pos h16]) (by rw [decide_eq_true h16, decide_eq_true h0]; rfl))
                clear h0 h16
                refine (HT.out.1 _ (Below.refl _ _)).mono ?_
                rintro e w7 ⟨rfl, hb7⟩
                have HB7 := Lib.hid hb7
                clear hb7
                go_wp2_with fail
                refine (HT.out.2.1 _ HB7.out).mono ?_
                rintro e w8 ⟨rfl, hb8⟩
                have hb78 := HB7.out.trans (below_down hb8 HB7.out.size)
                obtain ⟨x0, x1, x2, x3, x4, _⟩ := (HTL.out.g.on hb78 HTL.out.g.lt).cells5
                have hl8 := Nat.lt_of_lt_of_le HTL.out.g.lt hb78.size
                have HB8 := Lib.hid hb78
                clear hb8 hb78
                go_wp2_with fail
                refine (HT.out.2.2.1 _ HB8.out).mono ?_
                rintro e w9 ⟨rfl, hb9⟩
                have HB9 : Hid (Below w.heap.size w w9) := Lib.hid (by
                  have h1 := HTL.out.bl.trans (below_down HB8.out HTL.out.bl.size)
                  exact (h1.alloc h1.size _).trans (below_down hb9 (by rw [World.size_alloc]; have := h1.size; omega)))
                clear hb9
                go_wp2_with fail
                refine (HT.out.2.2.2 _ HB9.out).mono ?_
                rintro e w10 ⟨rfl, hb10⟩
                have HB10 := Lib.hid (HB9.out.trans (below_down hb10 HB9.out.size))
                clear hb10
                go_wp2_with fail
                go_ret
                exact retN rfl HB10.out
              · have HT := Lib.hid (il_tail2 (out := true) HTL.out hq17 rfl HE.out 0 0 false rfl rfl rfl)
                clear HX
                refine (HT.out.1 _ (Below.refl _ _)).mono ?_
                rintro e w7 ⟨rfl, hb7⟩
                have HB7 := Lib.hid hb7
                clear hb7
                go_wp2_with fail
                refine (HT.out.2.1 _ HB7.out).mono ?_
                rintro e w8 ⟨rfl, hb8⟩
                have hb78 := HB7.out.trans (below_down hb8 HB7.out.size)
                obtain ⟨x0, x1, x2, x3, x4, _⟩ := (HTL.out.g.on hb78 HTL.out.g.lt).cells5
                have hl8 := Nat.lt_of_lt_of_le HTL.out.g.lt hb78.size
                have HB8 := Lib.hid hb78
                clear hb8 hb78
                go_wp2_with fail
                refine (HT.out.2.2.1 _ HB8.out).mono ?_
                rintro e w9 ⟨rfl, hb9⟩
                have HB9 : Hid (Below w.heap.size w w9) := Lib.hid (by
                  have h1 := HTL.out.bl.trans (below_down HB8.out HTL.out.bl.size)
                  exact (h1.alloc h1.size _).trans (below_down hb9 (by rw [World.size_alloc]; have := h1.size; omega)))
                clear hb9
                go_wp2_with fail
                refine (HT.out.2.2.2 _ HB9.out).mono ?_
                rintro e w10 ⟨rfl, hb10⟩
                have HB10 := Lib.hid (HB9.out.trans (below_down hb10 HB9.out.size))
                clear hb10
                go_wp2_with fail
                go_ret
                exact retN rfl HB10.out
        | succ k =>
          have e1 : (j : Int) + 1 < 1 + (q : Int) := by omega
          have e2 : decide ((j : Int) + 1 < 1 + (q : Int)) = true := decide_eq_true e1
          go_wp2_with (at_builtin; refine wpList_append_own _ rfl (.tmp 44) (.tmp 45) 47 rfl (w.heap.size + 1) 3 i0 _ 1 8 Tryz.underlying47 hi hz0 hz1 hz2 rfl (by decide) _ _ _ rfl (HK.out.o.alloc _) ⟨wr.heap.size, 0, none⟩ 1 1 [.int .i64 3] rfl rfl (World.news_of_block (heap_alloc_new _ _)) (by simp [Value.oneCell']) (by unfold maxLen; omega) (by omega) (by rw [World.size_alloc]; omega) ?_; intro v2 w3 hown2 hgr2 _; have hap := HK.out.app hgr2; obtain ⟨_, _, t2, _, _, g2⟩ := hap.2.2.cells3; have hl3 := hap.2.2.lt; obtain ⟨gv2, cv2, rfl⟩ := ownz_form hown2 (by omega); have HF := Lib.hid (HK.out.fin (ys := [3]) hgr2 hown2 rfl); clear hap hown2 hgr2)
          exact ⟨Lib.hid ⟨j + 1, k, _, by go_num, by omega, by have := HF.out; rwa [← rep3] at this⟩, by simp only [intOf]; omega⟩
    | succ k =>
      have e1 : (j : Int) + 1 < 1 + (q : Int) := by omega
      have e2 : decide ((j : Int) + 1 < 1 + (q : Int)) = true := decide_eq_true e1
      go_wp2_with (at_builtin; refine wpList_append_own _ rfl (.tmp 29) (.tmp 30) 47 rfl (w.heap.size + 1) 3 i0 _ 1 8 Tryz.underlying47 hi hz0 hz1 hz2 rfl (by decide) _ _ _ rfl (HK.out.o.alloc _) ⟨wr.heap.size, 0, none⟩ 1 1 [.int .i64 1] rfl rfl (World.news_of_block (heap_alloc_new _ _)) (by simp [Value.oneCell']) (by unfold maxLen; omega) (by omega) (by rw [World.size_alloc]; omega) ?_; intro v2 w3 hown2 hgr2 _; have hap := HK.out.app hgr2; obtain ⟨_, _, t2, _, _, g2⟩ := hap.2.2.cells3; have hl3 := hap.2.2.lt; obtain ⟨gv2, cv2, rfl⟩ := ownz_form hown2 (by omega); have HF := Lib.hid (HK.out.fin (ys := [1]) hgr2 hown2 rfl); clear hap hown2 hgr2)
      exact ⟨Lib.hid ⟨j + 1, k, _, by go_num, by omega, by have := HF.out; rwa [← rep1] at this⟩, by simp only [intOf]; omega⟩
end Go.Proofs.YtpgnlfdindmopaaGreatDoor
