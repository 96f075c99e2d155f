/- Stage 6: the store at the trap statement of Traps. -/
import Derived.Test.YtpgnlfdindmopaaGreatDoorIy
import Derived.Test.YtpgnlfdindmopaaGreatDoorZc
namespace Go.Proofs.YtpgnlfdindmopaaGreatDoor
open Go.RowKit (wrap64 intOf)
open Go Go.RowKit WM LX PX CX IX

set_option maxRecDepth 100000
set_option maxHeartbeats 4000000
theorem stm_of {w : World} {ok : Nat → Prop} {kd : Int} {nm tn : List UInt8} {n : Int} {pos value : PE} {args : List PE} {thn els : List ST} {cs : List Value} (h : RepS w ok (.mk kd nm tn n pos value args thn els) cs) :
    ∃ k1 n1 x1 o1 A1 L1 c1 k2 n2 x2 o2 A2 L2 c2 A3 c3 A4 c4 A5 c5, cs = stC kd nm tn n k1 n1 x1 o1 A1 L1 c1 k2 n2 x2 o2 A2 L2 c2 A3 args.length c3 A4 thn.length c4 A5 els.length c5 ∧
      RepE w ok pos (exC k1 n1 x1 o1 A1 L1 c1) ∧ RepE w ok value (exC k2 n2 x2 o2 A2 L2 c2) ∧ RepL RepE 5 w ok args (.slice A3 args.length c3) ∧ RepL RepS 17 w ok thn (.slice A4 thn.length c4) ∧ RepL RepS 17 w ok els (.slice A5 els.length c5) := by
  cases h with
  | mk _ _ _ _ _ _ _ _ _ cp cv va vt ve F G hp hv ha ht he hkt hke =>
    obtain ⟨k1, n1, x1, o1, A1, L1, c1, rfl⟩ := exC_of hp
    obtain ⟨k2, n2, x2, o2, A2, L2, c2, rfl⟩ := exC_of hv
    obtain ⟨F1, ⟨A3, c3, rfl, h3⟩, h3'⟩ := ha
    obtain ⟨A4, c4, rfl, h4⟩ := ht
    obtain ⟨A5, c5, rfl, h5⟩ := he
    exact ⟨k1, n1, x1, o1, A1, L1, c1, k2, n2, x2, o2, A2, L2, c2, A3, c3, A4, c4, A5, c5, rfl, hp, hv, ⟨F1, ⟨A3, c3, rfl, h3⟩, h3'⟩, ⟨F, ⟨A4, c4, rfl, h4⟩, hkt⟩, ⟨G, ⟨A5, c5, rfl, h5⟩, hke⟩⟩
/-- A block whose first cell is not the trap's kind. -/
abbrev N7 (w : World) (ok : Nat → Prop) (g : Nat) : Prop := ok g ∧ w.cell? ⟨g, 0, none⟩ ≠ some (.int .i64 7)
/-- Cells whose first is not the trap's kind. -/
abbrev F7 (cs : List Value) : Prop := ∃ u, cs[0]? = some u ∧ u ≠ .int .i64 7
/-- All such blocks are still there. -/
abbrev D7 (w : World) (ok : Nat → Prop) (w' : World) (ok' : Nat → Prop) : Prop := ∀ g, N7 w ok g → ok' g ∧ w'.heap[g]? = w.heap[g]?
theorem f7_int {k : Int} {r : List Value} (h : k ≠ 7) : F7 (.int .i64 k :: r) := ⟨_, rfl, fun e => h (by injection e)⟩
theorem f7_str {s : ByteArray} {r : List Value} : F7 (.string s :: r) := ⟨_, rfl, fun e => by cases e⟩
theorem RepL.chg {α : Type} {Rep : World → (Nat → Prop) → α → List Value → Prop} {sz : Nat} {w w' : World} {ok ok' : Nat → Prop} {xs ys : List α} {v : Value} (h : RepL Rep sz w ok xs v) (hl : ys.length = xs.length) (hd : D7 w ok w' ok')
    (hk : ∀ (i : Nat) (x y : α) (cs : List Value), xs[i]? = some x → ys[i]? = some y → Rep w ok x cs → Rep w' ok' y cs ∧ F7 cs) : RepL Rep sz w' ok' ys v := by
  obtain ⟨F, ⟨A, c, hv, hA⟩, hF⟩ := h
  have hx : ∀ (i : Nat) (y : α), ys[i]? = some y → Rep w' ok' y (F i) ∧ F7 (F i) := fun i y hy => by
    have hi := (List.getElem?_eq_some_iff.1 hy).1
    have hi2 : i < xs.length := by omega
    exact hk i xs[i] y _ (List.getElem?_eq_getElem hi2) hy (hF i _ (List.getElem?_eq_getElem hi2))
  refine ⟨F, ⟨A, c, by rw [hl]; exact hv, fun h0 => ?_⟩, fun i y hy => (hx i y hy).1⟩
  obtain ⟨g, hg, hok, hc, hz⟩ := hA (by omega)
  obtain ⟨u, hu, hne⟩ := (hx 0 _ (List.getElem?_eq_getElem h0)).2
  have h00 := hc 0 0 u (by omega) hu
  rw [Nat.zero_mul] at h00
  obtain ⟨h1, h2⟩ := hd g ⟨hok, by rw [h00]; intro e; exact hne (Option.some.inj e)⟩
  exact ⟨g, hg, h1, fun i j u hi hj => (World.cell?_of_block h2).trans (hc i j u (by omega) hj), fun h j => (World.frozen?_of_block h2).trans (hz h j)⟩
theorem repE_of {w : World} {ok : Nat → Prop} {kd n : Int} {nm : List UInt8} {op : Int} {kids : List PE} {A : Option Addr} {c : Nat} (h : RepL RepE 5 w ok kids (.slice A kids.length c)) : RepE w ok (.mk kd n nm op kids) (exC kd n nm op A kids.length c) := by
  obtain ⟨F, ⟨A', c', hv, hA⟩, hF⟩ := h
  injection hv with e1 e2 e3
  subst e1
  by_cases h0 : 0 < kids.length
  · obtain ⟨g, hg, hok, hc, _⟩ := hA h0
    subst hg
    exact RepE.mk kd n nm op kids _ c g F (fun _ => ⟨rfl, hok⟩) hc hF
  · have : kids = [] := List.length_eq_zero_iff.1 (by omega)
    subst this
    exact repE_leaf _ _ _ _ _ _ _ _
theorem lf_chg {w : World} {ok : Nat → Prop} {kd n : Int} {nm : List UInt8} {op : Int} {cs : List Value} (w' : World) (ok' : Nat → Prop) (h : RepE w ok (.mk kd n nm op []) cs) : RepE w' ok' (.mk kd n nm op []) cs := by
  obtain ⟨A, c, rfl, _⟩ := exp_of h
  exact repE_leaf _ _ _ _ _ _ _ _
theorem lf_f7 {w : World} {ok : Nat → Prop} {kd n : Int} {nm : List UInt8} {op : Int} {kids : List PE} {cs : List Value} (h : RepE w ok (.mk kd n nm op kids) cs) (hk : kd ≠ 7) : F7 cs := by
  obtain ⟨A, c, rfl, _⟩ := exp_of h
  exact f7_int hk
/-- An operation on two leaves. -/
theorem op_chg {w w' : World} {ok ok' : Nat → Prop} {kd n : Int} {nm : List UInt8} {op k1 n1 o1 k2 n2 o2 : Int} {x1 x2 : List UInt8} {cs : List Value} (hd : D7 w ok w' ok') (h1 : k1 ≠ 7) (h2 : k2 ≠ 7)
    (h : RepE w ok (.mk kd n nm op [.mk k1 n1 x1 o1 [], .mk k2 n2 x2 o2 []]) cs) : RepE w' ok' (.mk kd n nm op [.mk k1 n1 x1 o1 [], .mk k2 n2 x2 o2 []]) cs := by
  obtain ⟨A, c, rfl, hr⟩ := exp_of h
  refine repE_of (hr.chg rfl hd fun i x y cs hx hy hR => ?_)
  match i with
  | 0 => simp at hx hy; subst hx; subst hy; exact ⟨lf_chg _ _ hR, lf_f7 hR h1⟩
  | 1 => simp at hx hy; subst hx; subst hy; exact ⟨lf_chg _ _ hR, lf_f7 hR h2⟩
  | i + 2 => simp at hx
theorem nil_chg {α : Type} {Rep : World → (Nat → Prop) → α → List Value → Prop} {sz : Nat} {w : World} {ok : Nat → Prop} {v : Value} (w' : World) (ok' : Nat → Prop) (h : RepL Rep sz w ok [] v) : RepL Rep sz w' ok' [] v := by
  obtain ⟨F, ⟨A, c, hv, hA⟩, hF⟩ := h
  exact ⟨F, ⟨A, c, hv, fun h0 => absurd h0 (Nat.lt_irrefl _)⟩, fun i x h => by simp at h⟩
/-- A statement: its value, what it repeats. -/
theorem st_chg {w w' : World} {ok ok' : Nat → Prop} {kd n : Int} {nm tn : List UInt8} {value : PE} {thn thn' : List ST} {cs : List Value} (h : RepS w ok (.mk kd nm tn n emE value [] thn []) cs)
    (_hl : thn'.length = thn.length) (hv : ∀ cs, RepE w ok value cs → RepE w' ok' value cs) (ht : ∀ v, RepL RepS 17 w ok thn v → RepL RepS 17 w' ok' thn' v) : RepS w' ok' (.mk kd nm tn n emE value [] thn' []) cs := by
  obtain ⟨k1, n1, x1, o1, A1, L1, c1, k2, n2, x2, o2, A2, L2, c2, A3, c3, A4, c4, A5, c5, rfl, r1, r2, r3, r4, r5⟩ := stm_of h
  exact repS_mk (lf_chg _ _ r1) (hv _ r2) (nil_chg _ _ r3) (ht _ r4) (nil_chg _ _ r5)
theorem st_f7 {w : World} {ok : Nat → Prop} {kd n : Int} {nm tn : List UInt8} {pos value : PE} {args : List PE} {thn els : List ST} {cs : List Value} (h : RepS w ok (.mk kd nm tn n pos value args thn els) cs) (hk : kd ≠ 7) : F7 cs := by
  obtain ⟨k1, n1, x1, o1, A1, L1, c1, k2, n2, x2, o2, A2, L2, c2, A3, c3, A4, c4, A5, c5, rfl, _⟩ := stm_of h
  exact f7_int hk
theorem set_blk (w : World) (g i : Nat) (v : Value) (x : Nat) (h : x ≠ g) : (w.setCell ⟨g, i, none⟩ v).heap[x]? = w.heap[x]? := by
  simp [World.setCell, Array.getElem?_modify, h.symm]
theorem set_size (w : World) (a : Addr) (v : Value) : (w.setCell a v).heap.size = w.heap.size := by simp [World.setCell]
theorem set_same {w : World} {g i : Nat} {u : Value} (v : Value) (h : w.cell? ⟨g, i, none⟩ = some u) : (w.setCell ⟨g, i, none⟩ v).cell? ⟨g, i, none⟩ = some v := by
  unfold World.cell? at h ⊢
  simp only [World.setCell, Array.getElem?_modify]
  cases hg : w.heap[g]? with
  | none => rw [hg] at h; cases h
  | some o =>
    rw [hg] at h
    cases o with
    | cells c t f =>
      simp at h ⊢
      have := (Array.getElem?_eq_some_iff.1 h).1
      simp [this]
    | _ => cases h
theorem set_other {w : World} {g i j : Nat} {u : Value} (v : Value) (hij : j ≠ i) (h : w.cell? ⟨g, j, none⟩ = some u) : (w.setCell ⟨g, i, none⟩ v).cell? ⟨g, j, none⟩ = some u := by
  unfold World.cell? at h ⊢
  simp only [World.setCell, Array.getElem?_modify]
  cases hg : w.heap[g]? with
  | none => rw [hg] at h; cases h
  | some o =>
    rw [hg] at h
    cases o with
    | cells c t f =>
      simp at h ⊢
      rw [Array.getElem?_setIfInBounds_ne (Ne.symm hij)]
      exact h
    | _ => cases h
theorem set_frz (w : World) (g i j : Nat) (v : Value) : (w.setCell ⟨g, i, none⟩ v).frozen? ⟨g, j, none⟩ = w.frozen? ⟨g, j, none⟩ := by
  unfold World.frozen?
  simp only [World.setCell, Array.getElem?_modify]
  cases hg : w.heap[g]? with
  | none => simp
  | some o => cases o <;> simp
/-- The trap's own row, before and behind the store. -/
theorem tr_row {w : World} {ok : Nat → Prop} {v : Value} (h : RepL RepS 17 w ok [trS 0] v) : ∃ g cp, v = .slice (some ⟨g, 0, none⟩) 1 cp ∧ ok g ∧ (∀ j, w.frozen? ⟨g, j, none⟩ = false) ∧ w.cell? ⟨g, 0, none⟩ = some (.int .i64 7) ∧ w.cell? ⟨g, 3, none⟩ = some (.int .i64 0) ∧
    ∀ (c : Int) (w' : World) (ok' : Nat → Prop), w'.heap[g]? = (w.setCell ⟨g, 3, none⟩ (.int .i64 c)).heap[g]? → ok' g → RepL RepS 17 w' ok' [trS c] v := by
  obtain ⟨F, ⟨A, cp, hv, hA⟩, hF⟩ := h
  obtain ⟨g, hg, hok, hc, hz⟩ := hA (by show 0 < 1; decide)
  obtain ⟨k1, n1, x1, o1, A1, L1, c1, k2, n2, x2, o2, A2, L2, c2, A3, c3, A4, c4, A5, c5, hcs, r1, r2, r3, r4, r5⟩ := stm_of (hF 0 _ rfl)
  have h0 : w.cell? ⟨g, 0, none⟩ = some (.int .i64 7) := hc 0 0 _ (by show 0 < 1; decide) (by rw [hcs]; rfl)
  have h3 : w.cell? ⟨g, 3, none⟩ = some (.int .i64 0) := hc 0 3 _ (by show 0 < 1; decide) (by rw [hcs]; rfl)
  refine ⟨g, cp, by rw [hv, hg]; rfl, hok, hz rfl, h0, h3, fun c w' ok' hw' hok' => ?_⟩
  refine ⟨fun _ => stC 7 [] [] c k1 n1 x1 o1 A1 L1 c1 k2 n2 x2 o2 A2 L2 c2 A3 0 c3 A4 0 c4 A5 0 c5, ⟨A, cp, hv, fun _ => ⟨g, hg, hok', fun i j u hi hu => ?_, fun _ j => (World.frozen?_of_block hw').trans (by rw [set_frz]; exact hz rfl j)⟩⟩, fun i x hx => ?_⟩
  · obtain rfl : i = 0 := by simpa using hi
    rw [Nat.zero_mul, Nat.zero_add]
    refine (World.cell?_of_block hw').trans ?_
    by_cases hj : j = 3
    · subst hj
      obtain rfl : u = .int .i64 c := by simpa using hu.symm
      exact set_same _ h3
    · refine set_other _ hj ?_
      have := hc 0 j u (by show 0 < 1; decide) (by
        rw [hcs]
        match j, hj, hu with
        | 0, _, hu => exact hu
        | 1, _, hu => exact hu
        | 2, _, hu => exact hu
        | j + 4, _, hu => exact hu)
      rwa [Nat.zero_mul, Nat.zero_add] at this
  · match i with
    | 0 =>
      simp at hx
      subst hx
      exact repS_mk (lf_chg _ _ r1) (lf_chg _ _ r2) (nil_chg _ _ r3) (nil_chg _ _ r4) (nil_chg _ _ r5)
    | i + 1 => simp at hx
/-- The first row of a list, and the list with another element there. -/
theorem first_of {α : Type} {Rep : World → (Nat → Prop) → α → List Value → Prop} {sz : Nat} {w : World} {ok : Nat → Prop} {x : α} {r : List α} {v : Value} (h : RepL Rep sz w ok (x :: r) v) :
    ∃ g cp cs, v = .slice (some ⟨g, 0, none⟩) (r.length + 1) cp ∧ ok g ∧ Rep w ok x cs ∧ (∀ j u, cs[j]? = some u → w.cell? ⟨g, j, none⟩ = some u) ∧
      ∀ (w' : World) (ok' : Nat → Prop) (y : α), w'.heap[g]? = w.heap[g]? → ok' g → Rep w' ok' y cs → (∀ x' ∈ r, ∀ cs', Rep w ok x' cs' → Rep w' ok' x' cs') → RepL Rep sz w' ok' (y :: r) v := by
  obtain ⟨F, ⟨A, c, hv, hA⟩, hF⟩ := h
  obtain ⟨g, hg, hok, hc, hz⟩ := hA (by show 0 < r.length + 1; omega)
  refine ⟨g, c, F 0, by rw [hv, hg]; rfl, hok, hF 0 x rfl, fun j u hu => ?_, fun w' ok' y hw hok' hy hr => ⟨F, ⟨A, c, hv, fun _ => ⟨g, hg, hok', fun i j u hi hu => (World.cell?_of_block hw).trans (hc i j u hi hu), fun h j => (World.frozen?_of_block hw).trans (hz h j)⟩⟩, fun i x' hx' => ?_⟩⟩
  · have := hc 0 j u (by show 0 < r.length + 1; omega) hu
    rwa [Nat.zero_mul, Nat.zero_add] at this
  · match i with
    | 0 => simp at hx'; subst hx'; exact hy
    | i + 1 => simp at hx'; exact hr x' (List.mem_of_getElem? hx') _ (hF (i + 1) x' (by simpa using hx'))
abbrev okW (w : World) : Nat → Prop := fun g => g < w.heap.size
theorem nm_chg {w w' : World} {ok ok' : Nat → Prop} {xs : List (List UInt8)} {v : Value} (hd : D7 w ok w' ok') (h : RepL RepN 1 w ok xs v) : RepL RepN 1 w' ok' xs v :=
  h.chg rfl hd fun i x y cs hx hy hR => by
    obtain rfl : x = y := Option.some.inj (hx.symm.trans hy)
    exact ⟨hR, by rw [show cs = _ from hR]; exact f7_str⟩
theorem ne7 {w : World} {g gG : Nat} {u : Value} (h : w.cell? ⟨g, 0, none⟩ = some u) (hu : u ≠ .int .i64 7) (hG : w.cell? ⟨gG, 0, none⟩ = some (.int .i64 7)) : g ≠ gG := fun e => by
  rw [e, hG] at h
  exact hu (Option.some.inj h).symm
theorem set_at {w w' : World} {g : Nat} (a : Addr) (v : Value) (h : w'.heap[g]? = w.heap[g]?) : (w'.setCell a v).heap[g]? = (w.setCell a v).heap[g]? := by
  simp [World.setCell, Array.getElem?_modify, h]
theorem tp_store {A : Option Addr} {L c1 : Nat} {A' : Option Addr} {L' c2 : Nat} {w : World} {ok : Nat → Prop} (hok : ∀ g, ok g → g < w.heap.size) (hA : RepL RepA 2 w ok (ipQ 0).arrays (.slice A L c1)) (hF : RepL RepF 9 w ok (ipQ 0).funcs (.slice A' L' c2)) :
    ∃ gF gB cB gT cT gG cG, A' = some ⟨gF, 0, none⟩ ∧ L' = 1 ∧ ok gF ∧ ok gB ∧ ok gT ∧ ok gG ∧
      w.cell? ⟨gF, 3, none⟩ = some (.slice (some ⟨gB, 0, none⟩) 1 cB) ∧ w.cell? ⟨gB, 15, none⟩ = some (.slice (some ⟨gT, 0, none⟩) 3 cT) ∧ w.cell? ⟨gT, 15, none⟩ = some (.slice (some ⟨gG, 0, none⟩) 1 cG) ∧
      w.cell? ⟨gG, 3, none⟩ = some (.int .i64 0) ∧ (∀ j, w.frozen? ⟨gG, j, none⟩ = false) ∧
      ∀ (c : Int) (W : World), Below w.heap.size w W → PgIn (ipQ c) (.slice A L c1) (.slice A' L' c2) (W.setCell ⟨gG, 3, none⟩ (.int .i64 c)) := by
  obtain ⟨gF, cF, csF, hvF, okF, hrF, hcF, rbF⟩ := first_of hF
  injection hvF with e1 e2 e3
  obtain ⟨fA1, fc1, fA2, fc2, fA3, fc3, kd, nn, nm, op, fA, fL, fc, rfl, q1, q2, q3, q4⟩ := fun_of hrF
  obtain ⟨gB, cB, csB, hvB, okB, hrB, hcB, rbB⟩ := first_of q3
  obtain ⟨k1, n1, x1, o1, B1, M1, d1, k2, n2, x2, o2, B2, M2, d2, B3, d3, B4, d4, B5, d5, rfl, r1, r2, r3, r4, r5⟩ := stm_of hrB
  obtain ⟨gT, cT, csT, hvT, okT, hrT, hcT, rbT⟩ := first_of r4
  obtain ⟨k1', n1', x1', o1', B1', M1', d1', k2', n2', x2', o2', B2', M2', d2', B3', d3', B4', d4', B5', d5', rfl, s1, s2, s3, s4, s5⟩ := stm_of hrT
  obtain ⟨gG, cG, hvG, okG, hfz, hG0, hG3, hput⟩ := tr_row s4
  refine ⟨gF, gB, cB, gT, cT, gG, cG, e1, e2, okF, okB, okT, okG, (hcF 3 _ rfl).trans (by rw [hvB]; rfl), (hcB 15 _ rfl).trans (by rw [hvT]; rfl), (hcT 15 _ rfl).trans (by rw [hvG]), hG3, hfz, fun c V hV => ?_⟩
  have hs : w.heap.size ≤ (V.setCell ⟨gG, 3, none⟩ (.int .i64 c)).heap.size := by rw [set_size]; exact hV.size
  have hbk : ∀ g, ok g → g ≠ gG → (V.setCell ⟨gG, 3, none⟩ (.int .i64 c)).heap[g]? = w.heap[g]? := fun g hg hne => (set_blk _ _ _ _ _ hne).trans (hV.block g (hok g hg))
  have hlt : ∀ g, ok g → okW (V.setCell ⟨gG, 3, none⟩ (.int .i64 c)) g := fun g hg => Nat.lt_of_lt_of_le (hok g hg) hs
  have hd : D7 w ok (V.setCell ⟨gG, 3, none⟩ (.int .i64 c)) (okW (V.setCell ⟨gG, 3, none⟩ (.int .i64 c))) := fun g hg => ⟨hlt g hg.1, hbk g hg.1 (fun e => hg.2 (by rw [e]; exact hG0))⟩
  have hput2 := hput c (V.setCell ⟨gG, 3, none⟩ (.int .i64 c)) (okW (V.setCell ⟨gG, 3, none⟩ (.int .i64 c))) (set_at _ _ (hV.block gG (hok gG okG))) (hlt gG okG)
  have nF : gF ≠ gG := ne7 (hcF 0 _ rfl) (fun e => by cases e) hG0
  have nB : gB ≠ gG := ne7 (hcB 0 _ rfl) (fun e => by injection e with _ e; revert e; decide) hG0
  have nT : gT ≠ gG := ne7 (hcT 0 _ rfl) (fun e => by injection e with _ e; revert e; decide) hG0
  have bF := hbk gF okF nF
  have bB := hbk gB okB nB
  have bT := hbk gT okT nT
  have okF' := hlt gF okF
  have okB' := hlt gB okB
  have okT' := hlt gT okT
  generalize V.setCell ⟨gG, 3, none⟩ (.int .i64 c) = W at hd hput2 bF bB bT okF' okB' okT' ⊢
  have t1 : RepL RepS 17 W (okW W) [ifT c, otT, inT] (.slice B4 3 d4) := rbT W (okW W) (ifT c) bT okT'
    (repS_mk (lf_chg _ _ s1) (op_chg hd (by decide) (by decide) s2) (nil_chg _ _ s3) hput2 (nil_chg _ _ s5)) (fun x' hx' cs' hR => by
      rcases List.mem_cons.1 hx' with rfl | hx'
      · exact st_chg hR rfl (fun _ h => lf_chg _ _ h) (fun _ h => nil_chg _ _ h)
      · obtain rfl := List.mem_singleton.1 hx'
        exact st_chg hR rfl (fun _ h => op_chg hd (by decide) (by decide) h) (fun _ h => nil_chg _ _ h))
  have t2 : RepL RepS 17 W (okW W) [whT c] (.slice fA3 1 fc3) := rbB W (okW W) (whT c) bB okB'
    (repS_mk (lf_chg _ _ r1) (op_chg hd (by decide) (by decide) r2) (nil_chg _ _ r3) t1 (nil_chg _ _ r5)) (fun x' hx' => by cases hx')
  exact ⟨nil_chg _ _ hA, rbF W (okW W) _ bF okF' ⟨fA1, _, fc1, fA2, _, fc2, fA3, _, fc3, kd, nn, nm, op, fA, fL, fc, rfl, nm_chg hd q1, nm_chg hd q2, t2, lf_chg _ _ q4⟩ (fun x' hx' => by cases hx')⟩
end Go.Proofs.YtpgnlfdindmopaaGreatDoor
