/-
  DERIVED: THE SHELF's CONTRACTS AT THIS DUMP, IN PLAIN WORDS (tools/lay-plain.mjs out of 'TryzSort.lean', which tools/lay-shelf.mjs wrote): THE SAME DECLARATIONS UNDER THE SAME NAMES: 'import', 'namespace', 'open', 'def', 'theorem' AND NOTHING ELSE: no command of the shelf's: FOR A HAND-IN. Each laying: the table of numbers ('.._ren') and one theorem, a field a fact of the dump's own or the kernel's comparison; each contract: ONE APPLICATION.
-/
import Derived.Shelf.SlSortCmp.WholeK
import Derived.Test.YtpgnlfdindmopaaGreatDoorProg
import Derived.Test.YtpgnlfdindmopaaGreatDoorGv
import Derived.Test.YtpgnlfdindmopaaGreatDoorRd
namespace Go.Proofs
open Go.Shelf
def Tryz.sortNd_ren : Go.Shelf.Ren := ⟨fun | 6 => 98 | 15 => 140 | 14 => 139 | 28 => 185 | 29 => 186 | 20 => 177 | 21 => 178 | 22 => 179 | 23 => 180 | 24 => 181 | 25 => 182 | 26 => 183 | 27 => 184 | 46 => 206 | 47 => 207 | 48 => 208 | 49 => 209 | 50 => 210 | 57 => 223 | n => n, fun | 22 => 50 | 24 => 49 | 25 => 167 | 3 => 3 | 39 => 126 | 0 => 0 | 53 => 231 | 55 => 104 | 4 => 4 | 46 => 225 | 45 => 224 | 50 => 94 | 5 => 5 | 9 => 9 | 66 => 249 | 70 => 253 | 76 => 265 | 77 => 266 | n => n, fun | n => n⟩
theorem Tryz.sortNd : Go.Proofs.SlLaysF0.n6 Tryz.prog Tryz.sortNd_ren := {
  mixed := by kernel_rfl
  f6 := ⟨Tryz.f98.name, by decide, Tryz.func98.trans (congrArg some (by kernel_rfl))⟩
  f14 := ⟨Tryz.f139.name, by decide, Tryz.func139.trans (congrArg some (by kernel_rfl))⟩
  f15 := Tryz.func140.trans (congrArg some (by kernel_rfl))
  f20 := ⟨Tryz.f177.name, by decide, Tryz.func177.trans (congrArg some (by kernel_rfl))⟩
  f21 := ⟨Tryz.f178.name, by decide, Tryz.func178.trans (congrArg some (by kernel_rfl))⟩
  f22 := ⟨Tryz.f179.name, by decide, Tryz.func179.trans (congrArg some (by kernel_rfl))⟩
  f23 := ⟨Tryz.f180.name, by decide, Tryz.func180.trans (congrArg some (by kernel_rfl))⟩
  f24 := ⟨Tryz.f181.name, by decide, Tryz.func181.trans (congrArg some (by kernel_rfl))⟩
  f25 := ⟨Tryz.f182.name, by decide, Tryz.func182.trans (congrArg some (by kernel_rfl))⟩
  f26 := ⟨Tryz.f183.name, by decide, Tryz.func183.trans (congrArg some (by kernel_rfl))⟩
  f27 := ⟨Tryz.f184.name, by decide, Tryz.func184.trans (congrArg some (by kernel_rfl))⟩
  f28 := Tryz.func185.trans (congrArg some (by kernel_rfl))
  f29 := Tryz.func186.trans (congrArg some (by kernel_rfl))
  f46 := ⟨Tryz.f206.name, by decide, Tryz.func206.trans (congrArg some (by kernel_rfl))⟩
  f47 := Tryz.func207.trans (congrArg some (by kernel_rfl))
  f48 := Tryz.func208.trans (congrArg some (by kernel_rfl))
  f49 := ⟨Tryz.f209.name, by decide, Tryz.func209.trans (congrArg some (by kernel_rfl))⟩
  f50 := ⟨Tryz.f210.name, by decide, Tryz.func210.trans (congrArg some (by kernel_rfl))⟩
  f57 := ⟨Tryz.f223.name, by decide, Tryz.func223.trans (congrArg some (by kernel_rfl))⟩
  t0 := Tryz.underlying0
  a0 := Tryz.isAgg0
  z0 := Tryz.sizeOf0
  v0 := Tryz.zeroValue0
  t3 := Tryz.underlying3
  a3 := Tryz.isAgg3
  z3 := Tryz.sizeOf3
  v3 := Tryz.zeroValue3
  t4 := Tryz.underlying4
  a4 := Tryz.isAgg4
  z4 := Tryz.sizeOf4
  v4 := Tryz.zeroValue4
  t5 := Tryz.underlying5
  a5 := Tryz.isAgg5
  z5 := Tryz.sizeOf5
  v5 := Tryz.zeroValue5
  t9 := Tryz.underlying9
  a9 := Tryz.isAgg9
  z9 := Tryz.sizeOf9
  v9 := Tryz.zeroValue9
  t22 := Tryz.underlying50
  a22 := Tryz.isAgg50
  z22 := Tryz.sizeOf50
  v22 := Tryz.zeroValue50
  t25 := Tryz.underlying167
  a25 := Tryz.isAgg167
  z25 := Tryz.sizeOf167
  v25 := Tryz.zeroValue167
  t39 := Tryz.underlying126
  a39 := Tryz.isAgg126
  z39 := Tryz.sizeOf126
  v39 := Tryz.zeroValue126
  t45 := Tryz.underlying224
  a45 := Tryz.isAgg224
  z45 := Tryz.sizeOf224
  v45 := Tryz.zeroValue224
  t46 := Tryz.underlying225
  a46 := Tryz.isAgg225
  z46 := Tryz.sizeOf225
  v46 := Tryz.zeroValue225
  t50 := Tryz.underlying94
  a50 := Tryz.isAgg94
  z50 := Tryz.sizeOf94
  v50 := Tryz.zeroValue94
  t53 := Tryz.underlying231
  a53 := Tryz.isAgg231
  z53 := Tryz.sizeOf231
  v53 := Tryz.zeroValue231
  t55 := Tryz.underlying104
  a55 := Tryz.isAgg104
  z55 := Tryz.sizeOf104
  v55 := Tryz.zeroValue104
  t66 := Tryz.underlying249
  a66 := Tryz.isAgg249
  z66 := Tryz.sizeOf249
  v66 := Tryz.zeroValue249
  t70 := Tryz.underlying253
  a70 := Tryz.isAgg253
  z70 := Tryz.sizeOf253
  v70 := Tryz.zeroValue253
  t76 := Tryz.underlying265
  a76 := Tryz.isAgg265
  z76 := Tryz.sizeOf265
  v76 := Tryz.zeroValue265
  t77 := Tryz.underlying266
  a77 := Tryz.isAgg266
  z77 := Tryz.sizeOf266
  v77 := Tryz.zeroValue266 }
end Go.Proofs
namespace Go.Proofs.YtpgnlfdindmopaaGreatDoor
open Go.RowKit (wrap64 intOf)
open Go Go.RowKit Go.Sort WM LX PX CX GX

set_option maxRecDepth 100000
set_option maxHeartbeats 4000000
theorem RepI.cells {w w' : World} {ok ok' : Nat → Prop} {l : List Int} {v : Value} (h : RepI w ok l v) (hok : ∀ g, ok g → ok' g) (hw : ∀ g o, ok g → w'.cell? ⟨g, o, none⟩ = w.cell? ⟨g, o, none⟩) : RepI w' ok' l v := by
  obtain ⟨A, c, hv, h, hcap⟩ := h
  refine ⟨A, c, hv, fun i x hx => ?_, hcap⟩
  obtain ⟨g, o, hA, hg, hc⟩ := h i x hx
  exact ⟨g, o, hA, hok g hg, (hw g _ hg).trans hc⟩
/-- A node with its operands' slice as they lie at the world w. -/
abbrev NV (w : World) (ok : Nat → Prop) := {p : ND × Value // RepI w ok p.1.kids p.2 ∧ p.1.kids.length ≤ 1000000000000}
instance (w : World) (ok : Nat → Prop) : Inhabited (NV w ok) := ⟨⟨(⟨0, 0, []⟩, .slice none 0 0), ⟨none, 0, rfl, fun i x h => by simp at h, Nat.le_refl _⟩, by show 0 ≤ _; omega⟩⟩
section
variable {w : World} {ok : Nat → Prop}
def encN (x : NV w ok) : List Value := [.int .i64 x.1.1.op, .int .i64 x.1.1.imm, x.1.2]
def cfN (x y : NV w ok) : Int := cmpN x.1.1 y.1.1
theorem encN_one (x : NV w ok) : ∀ v ∈ encN x, v.oneCell' = true := fun v hv => by
  obtain ⟨A, c, e, _⟩ := x.2.1
  unfold encN at hv
  rw [e] at hv
  simp at hv
  rcases hv with rfl | rfl | rfl <;> rfl
theorem swoN : SWO (ltOf (cfN (w := w) (ok := ok))) where
  irrefl x := decide_eq_false (by show ¬ cmpN _ _ < 0; rw [(cmpN_zero _ _).2 rfl]; omega)
  trans x y z h k := decide_eq_true (cmpN_trans _ _ _ (of_decide_eq_true h) (of_decide_eq_true k))
  ntrans x y z h k := decide_eq_false (cmpN_ntrans _ _ _ (of_decide_eq_false h) (of_decide_eq_false k))
theorem mkd : ∀ (l : List ND) (css : List (List Value)), css.length = l.length → (∀ (i : Nat) (n : ND) (cs : List Value), l[i]? = some n → css[i]? = some cs → RepD w ok n cs) → (∀ n ∈ l, n.kids.length ≤ 1000000000000) →
    ∃ d : List (NV w ok), d.map (fun x => x.1.1) = l ∧ d.map encN = css
  | [], css, h, _, _ => ⟨[], rfl, (List.length_eq_zero_iff.1 h).symm⟩
  | n :: l, [], h, _, _ => by cases h
  | n :: l, cs :: css, h, hr, hn => by
    obtain ⟨d, h1, h2⟩ := mkd l css (by simpa using h) (fun i m c hm hc => hr (i + 1) m c hm hc) (fun m hm => hn m (by simp [hm]))
    obtain ⟨v, e, hi⟩ := hr 0 n cs rfl rfl
    refine ⟨⟨(n, v), hi, hn n (by simp)⟩ :: d, ?_, ?_⟩
    · rw [List.map_cons, h1]
    · rw [List.map_cons, h2, e]
      rfl
theorem flat_inv (k : Nat) : ∀ (css : List (List Value)), (∀ cs ∈ css, cs.length = k) → ∀ (j : Nat) (u : Value), css.flatten[j]? = some u → ∃ i r cs, css[i]? = some cs ∧ cs[r]? = some u ∧ j = i * k + r
  | [], _, j, u, h => by simp at h
  | cs :: css, hk, j, u, h => by
    have h0 := hk cs (by simp)
    rw [List.flatten_cons] at h
    by_cases hj : j < cs.length
    · rw [List.getElem?_append_left hj] at h
      exact ⟨0, j, cs, rfl, h, by omega⟩
    · rw [List.getElem?_append_right (by omega)] at h
      obtain ⟨i, r, c, e1, e2, e3⟩ := flat_inv k css (fun c hc => hk c (by simp [hc])) _ u h
      exact ⟨i + 1, r, c, e1, e2, by rw [Nat.add_mul]; omega⟩
theorem grown_sortK {α : Type} [Inhabited α] (enc : α → List Value) {w : World} {g n : Nat} {os : Array Obj} (d : Array α) : w.grownBy (sortWorldK enc 3 w g 0 n d os) (some g) := by
  unfold sortWorldK
  refine ⟨rfl, rfl, rfl, by simp [putRowK], fun k hk hne => ?_⟩
  rw [heap_grow_old _ _ (by simpa [putRowK] using hk)]
  have : g ≠ k := fun e => hne (by rw [e])
  simp [putRowK, putRow, mapBlock, Sort.ahead, Array.getElem?_modify, this]
theorem cmp_lays (hok : ∀ g, ok g → g < w.heap.size) (W : World) (blk size : Nat) (hb : Below w.heap.size w W) (hblk : w.heap.size ≤ blk) : CmpLays Tryz.prog 99 #[] (encN (w := w) (ok := ok)) 3 cfN blk 0 size W := fun m os dk _ x y => by
  have hg := grown_sortK (encN (w := w) (ok := ok)) (w := W) (g := blk) (n := m) (os := os) dk
  have hc : ∀ g o, ok g → (sortWorldK encN 3 W blk 0 m dk os).cell? ⟨g, o, none⟩ = w.cell? ⟨g, o, none⟩ := fun g o h => by
    have h1 := hok g h
    exact (World.cell?_of_block (hg.block g (Nat.lt_of_lt_of_le h1 hb.size) (fun e => by injection e with e; omega))).trans (World.cell?_of_block (hb.block g h1))
  exact cmpn_any x.1.1 y.1.1 x.1.2 y.1.2 _ ok (x.2.1.cells (fun _ h => h) hc) (y.2.1.cells (fun _ h => h) hc) (fun g h => Nat.lt_of_lt_of_le (hok g h) (Nat.le_trans hb.size hg.size)) x.2.2
end
def ClnP (l : List ND) (ok : Nat → Prop) (w : World) (e : Ending) (w' : World) : Prop :=
  ∃ (g c : Nat) (css : List (List Value)), e = .returned (.slice (some ⟨g, 0, none⟩) l.length c) ∧ w'.ownsRow w.heap.size 49 3 (.slice (some ⟨g, 0, none⟩) l.length c) l.length css.flatten ∧ css.length = l.length ∧
    (∀ (i : Nat) (n : ND) (cs : List Value), l[i]? = some n → css[i]? = some cs → RepD w ok n cs) ∧ Below w.heap.size w w'
theorem own0 (w : World) (E : TypeId) (sz : Nat) : (w.alloc (.cells #[] E)).ownsRow w.heap.size E sz (.slice (some ⟨w.heap.size, 0, none⟩) 0 0) 0 [] :=
  ⟨by simp, Or.inr ⟨w.heap.size, 0, #[], rfl, Nat.le_refl _, heap_alloc_new w _, Nat.le_refl _, by unfold maxLen; omega, by simp, by simp⟩⟩
theorem nil_no (a : Addr) (N c : Nat) (w : World) : (binOp .eql 50 (.slice (some a) N c) (.slice none 0 0)).run Tryz.prog w = .ok (.bool false) w := by kernel_rfl
theorem nd_info : (Tryz.prog.info? 49).map (fun i => (i.zero, i.size, i.bytes)) = some (some (.agg #[.int .i64 0, .int .i64 0, .slice none 0 0]), 3, 40) := by kernel_rfl
theorem cln_any (l : List ND) (hne : l ≠ []) (v : Value) (w : World) (ok : Nat → Prop) (hl : RepL RepD 3 w ok l v) (hok : ∀ g, ok g → g < w.heap.size) (hn : l.length ≤ 1000000000000) :
    Calls Tryz.prog 97 #[v] w (ClnP l ok w) := by
  obtain ⟨F, ⟨A, c, rfl, hA⟩, hF⟩ := hl
  have h0 : 0 < l.length := List.length_pos_iff.2 hne
  obtain ⟨g, rfl, hg, hc, _⟩ := hA h0
  obtain ⟨css, hcss⟩ : ∃ css, (List.range l.length).map F = css := ⟨_, rfl⟩
  have hlen : css.length = l.length := by rw [← hcss, List.length_map, List.length_range]
  have hget : ∀ (i : Nat) (cs : List Value), css[i]? = some cs → i < l.length ∧ cs = F i := fun i cs h => by
    have hi := (List.getElem?_eq_some_iff.1 h).1
    rw [← hcss, List.getElem?_map, List.getElem?_range (by omega)] at h
    exact ⟨by omega, (Option.some.inj h).symm⟩
  have hrep : ∀ (i : Nat) (n : ND) (cs : List Value), l[i]? = some n → css[i]? = some cs → RepD w ok n cs := fun i n cs hn hcs => by
    rw [(hget i cs hcs).2]
    exact hF i n hn
  have hsz : ∀ cs ∈ css, cs.length = 3 := fun cs h => by
    obtain ⟨i, hi⟩ := List.getElem?_of_mem h
    obtain ⟨v, e, _⟩ := hrep i _ cs (List.getElem?_eq_getElem (hget i cs hi).1) hi
    rw [e]
    rfl
  have hone : ∀ u ∈ css.flatten, u.oneCell' = true := fun u h => by
    obtain ⟨cs, hm, hu⟩ := List.mem_flatten.1 h
    obtain ⟨i, hi⟩ := List.getElem?_of_mem hm
    obtain ⟨v, e, A, c, rfl, _⟩ := hrep i _ cs (List.getElem?_eq_getElem (hget i cs hi).1) hi
    rw [e] at hu
    simp at hu
    rcases hu with rfl | rfl | rfl <;> rfl
  have hfl : css.flatten.length = l.length * 3 := by
    rw [List.length_flatten, ← hlen]
    clear hget hrep hone hcss hlen
    induction css with
    | nil => rfl
    | cons a r ih => rw [List.map_cons, List.sum_cons, hsz a (by simp), ih (fun c h => hsz c (by simp [h])), List.length_cons, Nat.add_mul]; omega
  have hnews : ∀ (j : Nat) (u : Value), css.flatten[j]? = some u → (w.alloc (.cells #[] 49)).cell? ((⟨g, 0, none⟩ : Addr).add j) = some u := fun j u h => by
    obtain ⟨i, r, cs, e1, e2, rfl⟩ := flat_inv 3 css hsz j u h
    obtain ⟨hi, rfl⟩ := hget i cs e1
    have := hc i r u hi e2
    rw [Addr.add_lit, Nat.zero_add]
    exact (((Below.refl w.heap.size w).alloc (Nat.le_refl _) _).cell (p := ⟨g, i * 3 + r, none⟩) (hok g hg)).trans this
  obtain ⟨N, hN⟩ : ∃ N, l.length = N := ⟨_, rfl⟩
  have hfin : ∀ v' w', w'.ownsRow w.heap.size 49 3 v' (0 + N) ([] ++ css.flatten) → (w.alloc (.cells #[] 49)).grownBy w' (some w.heap.size) → ClnP l ok w (.returned v') w' := fun v' w' h1 h2 => by
    rw [Nat.zero_add, List.nil_append] at h1
    rcases h1.2 with ⟨_, h⟩ | ⟨g', cp, cur, e, _⟩
    · omega
    · subst e
      exact ⟨g', cp, css, by rw [hN], by rw [hN]; exact h1, hlen, hrep, ((Below.refl _ _).alloc (Nat.le_refl _) _).grown h2 (by simp) (fun k hk => by injection hk with hk; omega)⟩
  rw [hN] at hn hfl ⊢
  have HF := Lib.hid (And.intro hfin (And.intro hnews (And.intro hone hfl)))
  obtain ⟨i0, hi, hz0, hz1, hz2⟩ := info_parts nd_info
  have hnil := nil_no ⟨g, 0, none⟩ N c w
  clear hA hF hcss hlen hget hrep hsz hone hfl hnews hfin hc h0 hN hne hok hg
  go_enter Tryz.func97, Tryz.ntmps97
  go_wp2_with (at_builtin; refine wpList_append_own _ rfl (.tmp 5) (.tmp 6) 50 rfl w.heap.size 49 i0 _ 3 40 Tryz.underlying50 hi hz0 hz1 hz2 rfl (by decide) _ _ _ rfl (own0 w _ _) ⟨g, 0, none⟩ N c css.flatten rfl HF.out.2.2.2 HF.out.2.1 HF.out.2.2.1 (by unfold maxLen; omega) (by omega) (by simp) ?_; intro v2 w3 hown2 hgr2 _)
  go_ret
  exact HF.out.1 _ _ hown2 hgr2
end Go.Proofs.YtpgnlfdindmopaaGreatDoor
namespace Go.Proofs.YtpgnlfdindmopaaGreatDoor
open Go.RowKit (wrap64 intOf)
open Go Go.RowKit Go.Sort WM LX PX CX GX

set_option maxRecDepth 100000
set_option maxHeartbeats 4000000
/-- Are two nodes of the list identical? -/
def dupN : List ND → Bool
  | [] => false
  | a :: r => r.any (fun b => decide (cmpN a b = 0)) || dupN r
theorem dup_iff : ∀ l : List ND, dupN l = false ↔ l.Nodup
  | [] => by simp [dupN]
  | a :: r => by
    rw [dupN, Bool.or_eq_false_iff, dup_iff r, List.nodup_cons, List.any_eq_false]
    refine and_congr ⟨fun h hm => h a hm (decide_eq_true ((cmpN_zero a a).2 rfl)), fun h b hb => ?_⟩ Iff.rfl
    rw [decide_eq_true_iff, cmpN_zero]
    intro e
    exact h (e ▸ hb)
/-- What lies at the world of the loop: the sorted nodes. -/
structure Sd (w : World) (ok : Nat → Prop) (g N : Nat) (l : List ND) (d : Array (NV w ok)) (W : World) : Prop where
  sz : d.size = N
  hk : HoldsK encN 3 W g 0 d
  dup : dupN l = false ↔ (d.toList.map fun x => x.1.1).Nodup
  srt : (d.toList.map fun x => x.1.1).Pairwise fun a b => ¬ cmpN b a < 0
  bl : Below w.heap.size w W
  lt : g < W.heap.size
theorem sd_of {w : World} {ok : Nat → Prop} {g N n : Nat} {l : List ND} {d d' : Array (NV w ok)} {os : Array Obj} {W : World} (hd : d.toList.map (fun x => x.1.1) = l) (hN : d.size = N) (hH : HoldsK encN 3 W g 0 d) (hg : w.heap.size ≤ g) (hlt : g < W.heap.size) (hb : Below w.heap.size w W)
    (hp : PermIn 0 d.size d d') (hs : SortedIn (ltOf cfN) 0 d.size d') : Sd w ok g N l d' (sortWorldK encN 3 W g 0 n d' os) := by
  obtain ⟨p1, _, p3⟩ := hp
  have e1 : (d'.extract 0 d.size) = d' := by rw [← p1]; simp
  have e2 : (d.extract 0 d.size) = d := by simp
  rw [e1, e2] at p3
  have hgr := grown_sortK (encN (w := w) (ok := ok)) (w := W) (g := g) (n := n) (os := os) d'
  refine ⟨p1.trans hN, holdsK_sortWorldK_c encN 3 W g 0 d d' n os hH hlt p1, ?_, ?_, hb.grown hgr hb.size (fun k hk => by injection hk with hk; omega), Nat.lt_of_lt_of_le hlt hgr.size⟩
  · rw [dup_iff, ← hd]
    exact (p3.map _).nodup_iff.symm
  · rw [List.pairwise_map, List.pairwise_iff_getElem]
    intro i j hi hj hij
    have hi' : i < d'.size := by simpa using hi
    have hj' : j < d'.size := by simpa using hj
    have := hs i j (Nat.zero_le _) hij (by omega)
    rw [getElem!_pos d' i hi', getElem!_pos d' j hj'] at this
    exact of_decide_eq_false this
theorem Sd.next {w : World} {ok : Nat → Prop} {g N : Nat} {l : List ND} {d : Array (NV w ok)} {W : World} (h : Sd w ok g N l d W) (q : Nat) (os : Array Obj) : Sd w ok g N l d (grow (W.drewN q) os) := by
  refine ⟨h.sz, holdsK_grow encN 3 _ os g 0 d (show g < (W.drewN q).heap.size from h.lt) (holdsK_ahead encN 3 W q g 0 d h.hk), h.dup, h.srt, ?_, ?_⟩
  · refine ⟨h.bl.os, h.bl.tape, h.bl.output, Nat.le_trans h.bl.size (by show W.heap.size ≤ (W.heap ++ os).size; rw [Array.size_append]; omega), fun i hi => ?_⟩
    exact (heap_grow_old (W.drewN q) os (show i < W.heap.size from Nat.lt_of_lt_of_le hi h.bl.size)).trans (h.bl.block i hi)
  · show g < (W.heap ++ os).size
    rw [Array.size_append]
    have := h.lt
    omega
/-- An element's three cells. -/
theorem Sd.at {w : World} {ok : Nat → Prop} {g N : Nat} {l : List ND} {d : Array (NV w ok)} {W : World} (h : Sd w ok g N l d W) (i : Nat) (hi : i < N) :
    ∃ x : NV w ok, (d.toList.map fun x => x.1.1)[i]? = some x.1.1 ∧ W.cell? ⟨g, i * 3, none⟩ = some (.int .i64 x.1.1.op) ∧ W.cell? ⟨g, i * 3 + 1, none⟩ = some (.int .i64 x.1.1.imm) ∧ W.cell? ⟨g, i * 3 + 2, none⟩ = some x.1.2 := by
  have hi' : i < d.size := by rw [h.sz]; exact hi
  refine ⟨d[i], ?_, ?_, ?_, ?_⟩
  · simp [hi']
  all_goals
    first
    | (have := (h.hk.cell (i := i) (c := 0) hi' (by decide)).1; rw [getElem!_pos d i hi'] at this; simpa [encN] using this)
    | (have := (h.hk.cell (i := i) (c := 1) hi' (by decide)).1; rw [getElem!_pos d i hi'] at this; simpa [encN] using this)
    | (have := (h.hk.cell (i := i) (c := 2) hi' (by decide)).1; rw [getElem!_pos d i hi'] at this; simpa [encN] using this)
/-- The loop over the sorted nodes. -/
def HidR (w : World) (ok : Nat → Prop) (g N : Nat) (l : List ND) (d : Array (NV w ok)) (z : Value) (wr : World) : Prop :=
  ∃ p k : Nat, z = .int .i64 ((p : Int) + 1) ∧ p + k + 1 = N ∧ Sd w ok g N l d wr ∧ ∀ (i : Nat) (a b : ND), i < p → (d.toList.map fun x => x.1.1)[i]? = some a → (d.toList.map fun x => x.1.1)[i + 1]? = some b → cmpN a b ≠ 0
theorem hid_any (l : List ND) (hne : l ≠ []) (v : Value) (w : World) (ok : Nat → Prop) (hl : RepL RepD 3 w ok l v) (hok : ∀ g, ok g → g < w.heap.size) (hf : Fits l) :
    Calls Tryz.prog 54 #[v] w (RetN (.bool (dupN l)) w) := by
  have hcl := cln_any l hne v w ok hl hok hf.1
  obtain ⟨N, hN⟩ : ∃ N, l.length = N := ⟨_, rfl⟩
  have h0 : 0 < N := by rw [← hN]; exact List.length_pos_iff.2 hne
  have hn : N ≤ 1000000000000 := by rw [← hN]; exact hf.1
  have hkid := hf.2
  obtain ⟨B, hB⟩ : ∃ B, dupN l = B := ⟨_, rfl⟩
  have hso : ∀ (g c : Nat) (W : World) (css : List (List Value)), css.length = l.length → (∀ (i : Nat) (n : ND) (cs : List Value), l[i]? = some n → css[i]? = some cs → RepD w ok n cs) → W.ownsRow w.heap.size 49 3 (.slice (some ⟨g, 0, none⟩) l.length c) l.length css.flatten → Below w.heap.size w W →
      Calls Tryz.prog 98 #[.slice (some ⟨g, 0, none⟩) N c, .func (.func 99) #[] #[]] W fun e w' => e = .returned (.tuple #[]) ∧ ∃ d, Sd w ok g N l d w' := fun g c W css h1 h2 h3 hb => by
    obtain ⟨d, hd1, hd2⟩ := mkd l css h1 h2 hkid
    have hdl : d.length = N := by rw [← hN, ← hd1, List.length_map]
    have hgb := h3.lt g rfl
    have hH : HoldsK (encN (w := w) (ok := ok)) 3 W g 0 d.toArray := fun j hj => by
      rw [size_flatK] at hj
      have hj' : j < d.length * 3 := by simpa using hj
      rw [get_flatK _ _ _ _ hj]
      have hi : j / 3 < d.length := by omega
      have hge : d.toArray[j / 3]! = d[j / 3] := by rw [getElem!_pos d.toArray (j / 3) (by simpa using hi)]; simp
      rw [hge]
      have hc : css[j / 3]? = some (encN d[j / 3]) := by rw [← hd2, List.getElem?_map, List.getElem?_eq_getElem hi]; rfl
      have hm : j % 3 < 3 := Nat.mod_lt _ (by decide)
      have hu : (encN d[j / 3])[j % 3]? = some (encN d[j / 3])[j % 3]! := by
        rw [getElem!_pos (encN d[j / 3]) (j % 3) (show j % 3 < 3 from hm)]
        exact List.getElem?_eq_getElem (show j % 3 < 3 from hm)
      have hs3 : ∀ cs ∈ css, cs.length = 3 := fun cs h => by
        rw [← hd2] at h
        obtain ⟨x, _, rfl⟩ := List.mem_map.1 h
        rfl
      have hcell := h3.cells (g := g) rfl _ _ (flat_at 3 css hs3 _ _ _ _ hc hu)
      rw [Addr.add_lit, Nat.zero_add, show j / 3 * 3 + j % 3 = j by omega] at hcell
      refine ⟨by rw [Nat.zero_add]; exact hcell, ?_⟩
      rcases h3.2 with ⟨e, _⟩ | ⟨g', cp, cur, e, _, hg', _⟩
      · cases e
      · injection e with e
        injection e with e
        injection e with e
        subst e
        simp [World.frozen?, hg']
    have eg : ∀ args w, (callFunc 99 args).run Tryz.prog w = .ok (.enter 99 args) w := enters_of Tryz.func99 (by kernel_rfl) rfl
    have hcon := AnyQ.slices_SortFunc Tryz.sortNd 3 Tryz.isAgg49 Tryz.sizeOf49 (encN (w := w) (ok := ok)) (fun _ => rfl) encN_one cfN swoN 99 #[] g 0 c d.toArray W eg (cmp_lays hok W g d.toArray.size hb hgb.1) hH hgb.2 (by simp; omega)
    have hz : d.toArray.size = N := by simpa using hdl
    rw [hz] at hcon
    exact hcon.mono fun e w' ⟨he, d', n, os, hp, hs, hw⟩ => ⟨he, d', by rw [hw]; exact sd_of (by simpa using hd1) hz hH hgb.1 hgb.2 hb (by rw [hz]; exact hp) (by rw [hz]; exact hs)⟩
  rw [hB]
  have HC := Lib.hid (And.intro hcl (And.intro hso (And.intro hN hB)))
  have HK := Lib.hid hok
  clear hcl hso hB hl hok hf hkid hne
  go_enter Tryz.func54, Tryz.ntmps54
  go_wp2_with fail
  refine HC.out.1.mono ?_
  rintro e w1 ⟨g, c, css, rfl, hown, hlc, hrep, hb1⟩
  have HS := Lib.hid (HC.out.2.1 g c w1 css hlc hrep hown hb1)
  clear hown hlc hrep
  rw [HC.out.2.2.1]
  go_wp2_with fail
  refine HS.out.mono ?_
  rintro e w2 ⟨rfl, d, hsd⟩
  have HD := Lib.hid hsd
  clear hsd HS hb1 hN
  go_wp2_with fail
  go_loopw [4] (fun z wr => Hid (HidR w ok g N l d z wr)) (fun z _ => N - (intOf z).toNat)
  case atStart => exact Lib.hid ⟨0, N - 1, rfl, by omega, HD.out, fun i _ _ h => absurd h (Nat.not_lt_zero _)⟩
  case round =>
    obtain ⟨p, k, rfl, hpk, hsd, hpr⟩ := hrel.out
    have hbl := hsd.bl
    cases k with
    | zero =>
      have e1 : (N : Int) ≤ (p : Int) + 1 := by omega
      have hr : B = false := by
        rw [← HC.out.2.2.2]
        refine hsd.dup.2 (dup_next _ hsd.srt fun i a b ha hb => hpr i a b ?_ ha hb)
        have h1 := (List.getElem?_eq_some_iff.1 hb).1
        have h2 := hsd.sz
        simp at h1
        omega
      have HR := Lib.hid (And.intro hr hbl)
      clear hr hbl hsd hpr hrel
      go_wp2_with fail
      go_ret
      exact retN (congrArg Value.bool HR.out.1.symm) HR.out.2
    | succ k =>
      have e1 : (p : Int) + 1 < (N : Int) := by omega
      have e2 : (p : Int) < (N : Int) := by omega
      obtain ⟨⟨⟨⟨xo, xi, xk⟩, xv⟩, hx1, hx2⟩, hxd, x0, x1, x2⟩ := hsd.at p (by omega)
      obtain ⟨⟨⟨⟨yo, yi, yk⟩, yv⟩, hy1, hy2⟩, hyd, y0, y1, y2⟩ := hsd.at (p + 1) (by omega)
      dsimp only at x0 x1 x2 y0 y1 y2 hxd hyd hx1 hy1 hx2 hy2
      have hkp : ∀ g, ok g → wr.heap[g]? = w.heap[g]? := fun g h => hbl.block g (HK.out g h)
      have hcc := cmpn_any ⟨xo, xi, xk⟩ ⟨yo, yi, yk⟩ xv yv wr.drew ok (hx1.keep (fun _ h => h) hkp) (hy1.keep (fun _ h => h) hkp) (fun g h => Nat.lt_of_lt_of_le (HK.out g h) hbl.size) hx2
      have hp1 := hpr
      have hp0 : (0 : Int) ≤ (p : Int) + 1 := by omega
      have hsub : IntKind.i64.wrap (p : Int) = (p : Int) := by rw [IntKind.wrap_i64]; omega
      obtain ⟨q, hq⟩ : ∃ q, cmpN ⟨xo, xi, xk⟩ ⟨yo, yi, yk⟩ = q := ⟨_, rfl⟩
      rw [hq] at hcc
      dsimp only at hcc
      have HX := Lib.hid (And.intro hcc (And.intro hsd (And.intro hpr (And.intro hxd (And.intro hyd hq)))))
      clear hcc hsd hpr hxd hyd hq hx1 hy1 hx2 hy2 hkp hp1 hrel hbl
      have hqs : (q = 0 ∧ (q == 0) = true) ∨ (q ≠ 0 ∧ (q == 0) = false) := by
        by_cases h : q = 0
        · exact .inl ⟨h, beq_iff_eq.2 h⟩
        · exact .inr ⟨h, beq_eq_false_iff_ne.2 h⟩
      rcases hqs with ⟨hq0, hqb⟩ | ⟨hq0, hqb⟩
      · have hr : B = true := by
          rw [← HC.out.2.2.2]
          cases hd : dupN l with
          | true => rfl
          | false =>
            have hnd := HX.out.2.1.dup.1 hd
            have hxy := (cmpN_zero _ _).1 (HX.out.2.2.2.2.2.trans hq0)
            obtain ⟨i1, j1⟩ := List.getElem?_eq_some_iff.1 HX.out.2.2.2.1
            obtain ⟨i2, j2⟩ := List.getElem?_eq_some_iff.1 HX.out.2.2.2.2.1
            have := (List.nodup_iff_pairwise_ne.1 hnd |> List.pairwise_iff_getElem.1) p (p + 1) i1 i2 (Nat.lt_succ_self _)
            rw [j1, j2] at this
            exact absurd hxy this
        have HR := Lib.hid hr
        clear hr hq0
        go_wp2_with fail
        refine wp_region_still_tail 9 (by kernel_rfl) (by kernel_rfl) ?_
        simp only [List.take_succ_cons, List.take_zero, List.drop_succ_cons, List.drop_zero]
        change wpStill _ _ (World.drew _) _ _ _
        repeat still_step
        change wpList _ _ _ _ _ (World.drew _)
        go_wp2_with fail
        refine HX.out.1.mono ?_
        rintro e w3 ⟨rfl, nq, os, rfl⟩
        go_wp2_with fail
        go_ret
        exact retN (congrArg Value.bool HR.out.symm) (HX.out.2.1.next (1 + nq) os).bl
      · have HR := Lib.hid hq0
        clear hq0
        go_wp2_with fail
        refine wp_region_still_tail 9 (by kernel_rfl) (by kernel_rfl) ?_
        simp only [List.take_succ_cons, List.take_zero, List.drop_succ_cons, List.drop_zero]
        change wpStill _ _ (World.drew _) _ _ _
        repeat still_step
        change wpList _ _ _ _ _ (World.drew _)
        go_wp2_with fail
        refine HX.out.1.mono ?_
        rintro e w3 ⟨rfl, nq, os, rfl⟩
        go_wp2_with fail
        exact ⟨Lib.hid ⟨p + 1, k, by go_num, by omega, HX.out.2.1.next (1 + nq) os, fun i a b hi ha hb => by
          by_cases hip : i < p
          · exact HX.out.2.2.1 i a b hip ha hb
          · obtain rfl : i = p := by omega
            rw [HX.out.2.2.2.1] at ha
            rw [HX.out.2.2.2.2.1] at hb
            rw [← Option.some.inj ha, ← Option.some.inj hb, HX.out.2.2.2.2.2]
            exact HR.out⟩, by simp only [intOf]; omega⟩
end Go.Proofs.YtpgnlfdindmopaaGreatDoor
