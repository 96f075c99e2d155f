/- Stage 4: the walks of hasRepetition and of slices.Grow on nil. -/
import Derived.Test.YtkjbjjiajopfpaaGreatDoorDc
import Derived.Lib.AppendZerosOnto
import Derived.Lib.Walk
import Derived.Lib.SliceRun
namespace Go.Proofs.YtkjbjjiajopfpaaGreatDoor
open Go.RowKit (wrap64 intOf)
open Go Go.RowKit WM LX PX CX

set_option maxRecDepth 100000
set_option maxHeartbeats 4000000
theorem contains_of (zs : List (List UInt8)) (x : List UInt8) : Lib.containsS (zs.map fun z => (⟨z.toArray⟩ : ByteArray)) ⟨x.toArray⟩ = zs.contains x := by
  rw [Bool.eq_iff_iff, Lib.containsS_iff, List.contains_iff_mem, List.mem_map]
  constructor
  · rintro ⟨a, ha, h⟩
    injection h with h
    have : a = x := by have := congrArg Array.toList h; simpa using this
    exact this ▸ ha
  · exact fun h => ⟨x, h, rfl⟩
/-- slices.Contains on the first n names of a row. -/
theorem cont_any (ns : List (List UInt8)) (x : List UInt8) (A : Option Addr) (c n : Nat) (hn : n ≤ ns.length) (hl : ns.length ≤ 1000000) (w : World) (hA : 0 < n → ∃ g, A = some ⟨g, 0, none⟩ ∧ ∀ (i : Nat) (y : List UInt8), ns[i]? = some y → w.cell? ⟨g, i, none⟩ = some (.string ⟨y.toArray⟩)) :
    Calls Tryz.prog 69 #[.slice A n c, .string ⟨x.toArray⟩] w fun e w' => e = .returned (.bool ((ns.take n).contains x)) ∧ w = w' := by
  by_cases h0 : n = 0
  · subst h0
    exact (Tryz.slices_Contains_string_empty A c ⟨x.toArray⟩ w).mono fun _ _ h => ⟨h.1, h.2.symm⟩
  · obtain ⟨g, rfl, hc⟩ := hA (by omega)
    refine (Tryz.slices_Contains_string g 0 n c (ns.map fun z => (⟨z.toArray⟩ : ByteArray)) ⟨x.toArray⟩ w (by simpa using hn) (by omega) (fun j hj => ?_)).mono fun _ _ h => ⟨?_, h.2.symm⟩
    · have hj' : j < ns.length := by simpa using hj
      rw [Nat.zero_add, hc j _ (List.getElem?_eq_getElem hj'), List.getD_eq_getElem?_getD, List.getElem?_map, List.getElem?_eq_getElem hj']
      rfl
    · rw [h.1, ← List.map_take, contains_of]
theorem rep_any (ns : List (List UInt8)) (hl : ns.length ≤ 1000000) (A : Option Addr) (c : Nat) (hcap : ns.length ≤ c) (w : World) (ok : Nat → Prop) (h : RepL RepN 1 w ok ns (.slice A ns.length c)) :
    Calls Tryz.prog 39 #[.slice A ns.length c] w fun e w' => e = .returned (.bool (repB ns)) ∧ w = w' := by
  have hA : ∀ (i : Nat) (y : List UInt8), ns[i]? = some y → ∃ g, A = some ⟨g, 0, none⟩ ∧ ∀ (i : Nat) (y : List UInt8), ns[i]? = some y → w.cell? ⟨g, i, none⟩ = some (.string ⟨y.toArray⟩) := by
    intro i y hy
    obtain ⟨A', c', hv, hat⟩ := h.at
    injection hv with h1 h2 h3
    subst h1 h3
    obtain ⟨g, cs, rfl, _⟩ := hat i y hy
    refine ⟨g, rfl, fun k z hz => ?_⟩
    obtain ⟨g', cs', hg', _, hr, hc⟩ := hat k z hz
    injection hg' with hg'
    injection hg' with hg'
    subst hg'
    have := hc 0 _ (by rw [show cs' = _ from hr]; rfl)
    rwa [Nat.mul_one, Nat.add_zero] at this
  obtain ⟨len, hlen⟩ : ∃ len, ns.length = len := ⟨_, rfl⟩
  obtain ⟨r, hr⟩ : ∃ r, repB ns = r := ⟨_, rfl⟩
  have H := Lib.hid (And.intro hA (And.intro hlen hr))
  rw [hlen] at hl hcap ⊢
  rw [hr]
  clear hA hlen hr h
  go_enter Tryz.func39, Tryz.ntmps39
  go_wp2_with fail
  go_loopg [7] len (fun k i wr => ∃ j : Nat, j + k = len ∧ i = .int .i64 (j : Int) ∧ w = wr ∧ Hid (∀ m, m < j → (ns.take m).contains (ns.getD m []) = false))
  case atStart => exact ⟨0, Nat.zero_add _, rfl, rfl, Lib.hid (fun m h => absurd h (Nat.not_lt_zero _))⟩
  case round =>
    obtain ⟨j, hj, rfl, rfl, HM⟩ := hrel
    by_cases hlt : j < len
    · obtain ⟨x, hx⟩ : ∃ x, ns[j]? = some x := ⟨_, List.getElem?_eq_getElem (by rw [H.out.2.1]; exact hlt)⟩
      obtain ⟨g, rfl, hc⟩ := H.out.1 j x hx
      have y0 := hc j x hx
      have hgd : ns.getD j [] = x := by rw [List.getD_eq_getElem?_getD, hx]; rfl
      have e1 : (j : Int) < (len : Int) := by omega
      have e2 : (j : Int) ≤ (c : Int) := by omega
      have hcall := fun cp => cont_any ns x (some ⟨g, 0, none⟩) cp j (by rw [H.out.2.1]; omega) (by rw [H.out.2.1]; exact hl) w (fun _ => ⟨g, rfl, hc⟩)
      obtain ⟨q, hq⟩ : ∃ q, (ns.take j).contains x = q := ⟨_, rfl⟩
      rw [hq] at hcall
      have HC := Lib.hid hcall
      have HQ := Lib.hid (And.intro hq hgd)
      clear hcall hq hgd hc hx
      cases q with
      | true =>
        have hn : r = true := by
          rw [← H.out.2.2]
          unfold repB
          rw [List.any_eq_true]
          exact ⟨j, List.mem_range.2 (by rw [H.out.2.1]; exact hlt), by rw [HQ.out.2]; exact HQ.out.1⟩
        subst hn
        go_wp2_with fail
        refine (HC.out _).mono ?_
        rintro e w' ⟨rfl, rfl⟩
        go_wp2_with fail
        go_ret
        exact ⟨rfl, rfl⟩
      | false =>
        go_wp2_with fail
        refine (HC.out _).mono ?_
        rintro e w' ⟨rfl, rfl⟩
        go_wp2_with fail
        go_roundg (gk - 1)
        case measure => omega
        case rel => exact ⟨j + 1, by omega, by go_num, rfl, Lib.hid (fun m hm => by
          by_cases e : m = j
          · subst e; rw [HQ.out.2]; exact HQ.out.1
          · exact HM.out m (by omega))⟩
    · have hn : r = false := by
        rw [← H.out.2.2]
        unfold repB
        rw [List.any_eq_false]
        intro m hm
        have hml := List.mem_range.1 hm
        rw [H.out.2.1] at hml
        rw [HM.out m (by omega)]
        decide
      subst hn
      obtain rfl : j = len := by omega
      go_wp2_with fail
      go_ret
      exact ⟨rfl, rfl⟩
theorem strI : ∃ i0, Tryz.prog.info? 9 = some i0 ∧ i0.zero = some (.string ⟨#[]⟩) ∧ i0.size = 1 ∧ i0.bytes = 16 := by
  obtain ⟨i0, hi, hz0, hz1, hz2⟩ := info_parts strInfo
  exact ⟨i0, hi, hz0, hz1, hz2⟩
/-- A row of the call's own without elements, with room. -/
def GrP (w : World) (e : Ending) (w' : World) : Prop := ∃ v, e = .returned v ∧ w'.ownsRow w.heap.size 9 1 v 0 [] ∧ Below w.heap.size w w'
theorem grow_any (n : Nat) (hn : n ≤ 1000000) (w : World) : Calls Tryz.prog 70 #[.slice none 0 0, .int .i64 (n : Int)] w (GrP w) := by
  by_cases h0 : n = 0
  · subst h0
    go_enter Tryz.func70, Tryz.ntmps70
    go_wp2_with fail
    go_ret
    exact ⟨_, rfl, World.ownsRow_nil _ _ _ _, Below.refl _ _⟩
  · obtain ⟨i0, hi, hz0, hz1, hz2⟩ := strI
    have hrz := fun ty => Lib.run_append_grow_zeros (P := Tryz.prog) w 25 3 ty 9 i0 (.string ⟨#[]⟩) .i64 .i64 Tryz.underlying25 Tryz.underlying3 hi hz0 none 0 0 [] (run_firstCells_none w.drew i0.size 0 0 0) n (by omega) (by omega) (by omega) (by omega)
      (by rw [hz2]; omega) (by rw [hz2]; exact growslice_fits (by omega) (by omega))
    have hG : 0 + n ≤ grownCap w (0 + n) 0 9 := grownCap_ge w _ _ _
    have hn1 : 0 < (n : Int) := by omega
    obtain ⟨G, hGe⟩ : ∃ G, grownCap w (0 + n) 0 9 = G := ⟨_, rfl⟩
    rw [hGe] at hG
    simp only [hGe] at hrz
    go_enter Tryz.func70, Tryz.ntmps70
    have hM : G ≤ maxLen := by rw [← hGe]; exact grownCap_le_maxLen w _ _ _ (by unfold maxLen; omega)
    clear hGe
    go_wp2_with (at_builtin; refine Lib.wpList_append_run _ rfl _ _ _ _ rfl _ _ rfl rfl _ _ (hrz _) ?_)
    all_goals
      go_ret
      refine ⟨_, rfl, ⟨rfl, Or.inr ⟨w.heap.size, G, _, rfl, Nat.le_refl _, heap_alloc_new w.drew _, Nat.zero_le _, hM, ?_, rfl⟩⟩, (below_drewN (Below.refl _ w) 1).alloc (Nat.le_refl _) _⟩
      simp [Builtin.zeroCells]
      omega
end Go.Proofs.YtkjbjjiajopfpaaGreatDoor
