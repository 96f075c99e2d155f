/- Stage 4: the walk of slices.Concat on lists of names. -/
import Derived.Test.YtkjbjjiajopfpaaGreatDoorDd
import Derived.Laws.AppendOwnNone
namespace Go.Proofs.YtkjbjjiajopfpaaGreatDoor
open Go.RowKit (wrap64 intOf)
open Go Go.RowKit WM LX PX CX

set_option maxRecDepth 100000
set_option maxHeartbeats 4000000
abbrev sv (x : List UInt8) : Value := .string ⟨x.toArray⟩
theorem flat_sing (xs : List (List UInt8)) : (xs.map fun x => [sv x]).flatten = xs.map sv := by
  induction xs with
  | nil => rfl
  | cons a r ih => rw [List.map_cons, List.flatten_cons, ih]; rfl
theorem coll_of {w : World} {E : TypeId} {B : Nat} {xs : List (List UInt8)} {v : Value} (h : w.ownsRow B E 1 v xs.length (xs.map sv)) : Coll RepN 1 E B xs (xs.map fun x => [sv x]) v w :=
  ⟨by rw [flat_sing, List.length_map]; exact h, by simp, fun cs hcs => by obtain ⟨x, _, rfl⟩ := List.mem_map.1 hcs; rfl, fun i x cs hx hc => by
    rw [List.getElem?_map, hx] at hc
    injection hc with hc
    exact hc.symm⟩
/-- A list of names that an append may take: nil as Go lays it, or a row. -/
def NmV (w : World) (ok : Nat → Prop) (ys : List (List UInt8)) (v : Value) : Prop := RepL RepN 1 w ok ys v ∧ (v = .slice none 0 0 ∨ ∃ g L c, v = .slice (some ⟨g, 0, none⟩) L c)
theorem NmV.keep {w w' : World} {ok : Nat → Prop} {ys : List (List UInt8)} {v : Value} (h : NmV w ok ys v) (hw : ∀ g, ok g → w'.heap[g]? = w.heap[g]?) : NmV w' ok ys v := ⟨h.1.keep keepsN (fun _ h => h) hw, h.2⟩
theorem NmV.cases {w : World} {ok : Nat → Prop} {ys : List (List UInt8)} {v : Value} (h : NmV w ok ys v) :
    (v = .slice none 0 0 ∧ ys = []) ∨ ∃ g c, v = .slice (some ⟨g, 0, none⟩) ys.length c ∧ (ys ≠ [] → ok g) ∧ ∀ j u, (ys.map sv)[j]? = some u → w.cell? ⟨g, j, none⟩ = some u := by
  obtain ⟨hl, hv⟩ := h
  rcases hv with rfl | ⟨g, L, c, rfl⟩
  · left
    have := repL_len hl
    exact ⟨rfl, List.eq_nil_of_length_eq_zero this.symm⟩
  · right
    have := repL_len hl
    subst this
    obtain ⟨A', c', hv, hat⟩ := hl.at
    injection hv with h1 h2 h3
    subst h1 h3
    refine ⟨g, _, rfl, fun hne => ?_, fun j u hu => ?_⟩
    · cases ys with
      | nil => exact absurd rfl hne
      | cons a r =>
        obtain ⟨g', cs, hg', hok, _⟩ := hat 0 a rfl
        injection hg' with hg'
        injection hg' with hg'
        exact hg' ▸ hok
    · rw [List.getElem?_map] at hu
      cases hy : ys[j]? with
      | none => rw [hy] at hu; cases hu
      | some y =>
        rw [hy] at hu
        injection hu with hu
        obtain ⟨g', cs, hg', _, hr, hc⟩ := hat j y hy
        injection hg' with hg'
        injection hg' with hg'
        subst hg'
        have := hc 0 _ (by rw [show cs = _ from hr]; rfl)
        rw [Nat.mul_one, Nat.add_zero] at this
        exact hu ▸ this
def sumN (xss : List (List (List UInt8))) : Nat := xss.flatten.length
theorem flat_next {α : Type} {xss : List (List α)} {j : Nat} {ys : List α} (h : xss[j]? = some ys) : (xss.take (j + 1)).flatten = (xss.take j).flatten ++ ys := by
  rw [take_next h, List.flatten_append]
  simp
theorem flat_le {α : Type} (xss : List (List α)) (j : Nat) : (xss.take j).flatten.length ≤ xss.flatten.length := by
  have h : xss.flatten = (xss.take j).flatten ++ (xss.drop j).flatten := by rw [← List.flatten_append, List.take_append_drop]
  rw [h, List.length_append]; omega
theorem conc_any (xss : List (List (List UInt8))) (vs : List Value) (b c : Nat) (w : World) (ok : Nat → Prop) (hok : ∀ g, ok g → g < w.heap.size) (hb : b < w.heap.size) (hl : vs.length = xss.length) (hm : xss.length ≤ 3)
    (hc : ∀ (i : Nat) (v : Value), vs[i]? = some v → w.cell? ⟨b, i, none⟩ = some v) (hv : ∀ (i : Nat) (ys : List (List UInt8)) (v : Value), xss[i]? = some ys → vs[i]? = some v → NmV w ok ys v) (ht : xss.flatten.length ≤ 1000000) :
    Calls Tryz.prog 42 #[.slice (some ⟨b, 0, none⟩) xss.length c] w (NsP xss.flatten w) := by
  obtain ⟨i0, hi, hz0, hz1, hz2⟩ := strI
  obtain ⟨len, hlen⟩ : ∃ len, xss.length = len := ⟨_, rfl⟩
  have hat : ∀ (j : Nat), j < len → ∃ (ys : List (List UInt8)) (v : Value), xss[j]? = some ys ∧ vs[j]? = some v ∧ w.cell? ⟨b, j, none⟩ = some v ∧ NmV w ok ys v := fun j hj => by
    have h1 : j < xss.length := by omega
    have h2 : j < vs.length := by omega
    exact ⟨_, _, List.getElem?_eq_getElem h1, List.getElem?_eq_getElem h2, hc _ _ (List.getElem?_eq_getElem h2), hv _ _ _ (List.getElem?_eq_getElem h1) (List.getElem?_eq_getElem h2)⟩
  have H := Lib.hid (And.intro hat (And.intro hok (And.intro hlen ht)))
  rw [hlen] at hm ⊢
  clear hat hok hlen hl hc hv ht
  go_enter Tryz.func42, Tryz.ntmps42
  go_wp2_with fail
  go_loopg [3, 11] len (fun k s i wr => ∃ j n : Nat, j + k = len ∧ i = .int .i64 (j : Int) ∧ s = .int .i64 (n : Int) ∧ n ≤ 1000000 ∧ Hid ((xss.take j).flatten.length = n) ∧ w = wr)
  case atStart => exact ⟨0, 0, Nat.zero_add _, rfl, rfl, by decide, Lib.hid rfl, rfl⟩
  case round =>
    obtain ⟨j, n, hj, rfl, rfl, hn, HN, rfl⟩ := hrel
    by_cases hlt : j < len
    · obtain ⟨ys, v, h1, h2, h3, h4⟩ := H.out.1 j hlt
      have hnx := flat_next h1
      have hle := flat_le xss (j + 1)
      rw [hnx, List.length_append, HN.out] at hle
      have hle2 : n + ys.length ≤ 1000000 := Nat.le_trans hle H.out.2.2.2
      have HX : Hid ((xss.take (j + 1)).flatten.length = n + ys.length) := by rw [hnx, List.length_append, HN.out]; exact rfl
      have e1 : (j : Int) < (len : Int) := by omega
      obtain ⟨A, L, cp, rfl, hL⟩ : ∃ A L cp, v = .slice A L cp ∧ L = ys.length := by
        rcases h4.cases with ⟨rfl, rfl⟩ | ⟨g, cp, rfl, _⟩
        · exact ⟨_, _, _, rfl, rfl⟩
        · exact ⟨_, _, _, rfl, rfl⟩
      rw [← hL] at hle2 HX
      have hge : ¬ ((n : Int) + (L : Int) < 0) := by omega
      clear h1 h2 h4 hnx hle hL
      go_wp2_with fail
      go_roundg (gk - 1)
      case measure => omega
      case rel => exact ⟨j + 1, n + L, by omega, by go_num, by go_num, hle2, HX, rfl⟩
    · obtain rfl : j = len := by omega
      have HN2 : Hid (xss.flatten.length = n) := by
        have := HN.out
        rw [List.take_of_length_le (by rw [H.out.2.2.1]; exact Nat.le_refl _)] at this
        exact this
      clear HN
      go_wp2_with fail
      refine (grow_any n hn w).mono ?_
      rintro e w1 ⟨v, rfl, hown, hb1⟩
      have HO := Lib.hid (And.intro hown hb1)
      clear hown hb1
      go_wp2_with fail
      go_loopg [6, 27] j (fun k v i wr => ∃ (m : Nat), m + k = j ∧ i = .int .i64 (m : Int) ∧ Hid (wr.ownsRow w.heap.size 9 1 v (xss.take m).flatten.length ((xss.take m).flatten.map sv)) ∧ Hid (Below w.heap.size w wr))
      case atStart => exact ⟨0, Nat.zero_add _, rfl, Lib.hid HO.out.1, Lib.hid HO.out.2⟩
      case round =>
        obtain ⟨m, hmj, rfl, HW, HB⟩ := hrel
        have hsz := HB.out.size
        by_cases hlt2 : m < j
        · obtain ⟨ys, v, h1, h2, h3, h4⟩ := H.out.1 m hlt2
          have hnx := flat_next h1
          have hle := flat_le xss (m + 1)
          rw [hnx, List.length_append] at hle
          have hle2 : (xss.take m).flatten.length + ys.length ≤ 1000000 := Nat.le_trans hle H.out.2.2.2
          have e1 : (m : Int) < (j : Int) := by omega
          have h5 : wr.cell? ⟨b, m, none⟩ = some v := (World.cell?_of_block (HB.out.block b hb)).trans h3
          have h6 := (h4.keep (fun g hg => HB.out.block g (H.out.2.1 g hg)))
          have hown := HW.out
          have HX := Lib.hid hnx
          obtain ⟨xs, hxs⟩ : ∃ xs, (xss.take m).flatten = xs := ⟨_, rfl⟩
          rw [hxs] at hown hle2 HX
          have hrow : ∀ k, u6.ownBlock = some k → w.heap.size ≤ k := fun k hk => (hown.lt k hk).1
          clear h1 h2 h3 h4 hnx hle hxs HW
          rcases h6.cases with ⟨rfl, rfl⟩ | ⟨g, cp, rfl, _, hcell⟩
          · have HO2 := Lib.hid hown
            clear h6
            go_wp2_with (at_builtin; refine wpList_append_own_none rfl (.tmp 31) (.tmp 32) 25 rfl w.heap.size 9 i0 1 Tryz.underlying25 hi _ _ _ rfl hown rfl ?_)
            go_roundg (gk - 1)
            case measure => omega
            case rel => exact ⟨m + 1, by omega, by go_num, by rw [HX.out, List.append_nil]; exact HO2, HB⟩
          · have HC := Lib.hid hcell
            clear h6 hcell
            go_wp2_with (at_builtin; refine wpList_append_own_at _ rfl (.tmp 31) (.tmp 32) 25 rfl w.heap.size 9 i0 _ 1 16 Tryz.underlying25 hi hz0 hz1 hz2 rfl (by decide) _ _ _ rfl hown ⟨g, 0, none⟩ ys.length cp (ys.map sv) rfl (by simp) (fun j u hu => by rw [show (⟨g, 0, none⟩ : Addr).add j = ⟨g, j, none⟩ by unfold Addr.add; split <;> simp_all]; exact HC.out j u hu) (fun u hu => by obtain ⟨x, _, rfl⟩ := List.mem_map.1 hu; rfl) (by unfold maxLen; omega) (by omega) (by omega) ?_; intro v2 w4 hown2 hgr2 _ hob)
            go_roundg (gk - 1)
            case measure => omega
            case rel => exact ⟨m + 1, by omega, by go_num, Lib.hid (by rw [HX.out, List.length_append, List.map_append]; exact hown2), Lib.hid (below_grow HB.out hgr2 hrow hsz)⟩
        · obtain rfl : m = j := by omega
          have hfin := HW.out
          rw [List.take_of_length_le (by rw [H.out.2.2.1]; exact Nat.le_refl _)] at hfin
          have HF := Lib.hid hfin
          clear hfin HW
          go_wp2_with fail
          go_ret
          exact coll_ns (coll_of HF.out) HB.out
end Go.Proofs.YtkjbjjiajopfpaaGreatDoor
