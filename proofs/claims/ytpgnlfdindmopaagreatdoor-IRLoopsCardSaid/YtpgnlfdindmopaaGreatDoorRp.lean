/- Stage 7: the walk of union. -/
import Derived.Test.YtpgnlfdindmopaaGreatDoorRj
namespace Go.Proofs.YtpgnlfdindmopaaGreatDoor
open Go.RowKit (wrap64 intOf)
open Go Go.RowKit WM LX PX CX GX

set_option maxRecDepth 100000
set_option maxHeartbeats 4000000
def uns (ls : List Int) (a k : Int) : Int := bits .or .u64 a (ls.getD k.toNat 0)
def uniF (ls ks : List Int) : Int := ks.foldl (uns ls) 0
def setA (ls : List Int) : Array Value := (ls.map (Value.int .u64)).toArray
theorem setA_at (u : List Int) (k : Nat) (h : k < u.length) : (setA u)[k]? = some (.int .u64 (u.getD k 0)) := by
  unfold setA
  rw [List.getElem?_toArray, List.getElem?_map, List.getElem?_eq_getElem h, List.getD_eq_getElem?_getD, List.getElem?_eq_getElem h]
  rfl
theorem setA_set (u : List Int) (k : Nat) (b : Int) : (setA u).setIfInBounds k (.int .u64 b) = setA (u.set k b) := by
  unfold setA
  rw [List.setIfInBounds_toArray, List.map_set]
theorem made_sets (n : Nat) : madeCells #[.int .u64 0] n = setA (List.replicate n 0) := by
  apply Array.ext'
  rw [toList_madeCells_one]
  unfold setA
  simp
theorem uni_snoc (ls ks : List Int) (x : Int) : uniF ls (ks ++ [x]) = uns ls (uniF ls ks) x := by unfold uniF; rw [List.foldl_append]; rfl
theorem iun_any (ls ks : List Int) (vk : Value) (w : World) (ok : Nat → Prop) (hk : RepI w ok ks vk) (S N c : Nat) (t : TypeId) (hS : Blk w S t (setA ls)) (hN : ls.length = N) (hin : ∀ x ∈ ks, 0 ≤ x ∧ x < (N : Int)) (hkl : ks.length ≤ 1000000000000) :
    Calls Tryz.prog 100 #[.slice (some ⟨S, 0, none⟩) N c, vk] w fun e w' => e = .returned (.int .u64 (uniF ls ks)) ∧ w' = w := by
  obtain ⟨A, c', rfl, hkid, _⟩ := hk
  obtain ⟨m, hm⟩ : ∃ m, ks.length = m := ⟨_, rfl⟩
  rw [hm] at hkl ⊢
  have HK := Lib.hid (And.intro hkid (And.intro hm (And.intro hin (And.intro hS hN))))
  obtain ⟨R, hR⟩ : ∃ R, uniF ls ks = R := ⟨_, rfl⟩
  rw [hR]
  have HR := Lib.hid hR
  clear hkid hm hin hS hN hR
  go_enter Tryz.func100, Tryz.ntmps100
  go_wp2_with fail
  go_loop [5, 10] (fun a z => ∃ j : Nat, j ≤ m ∧ z = .int .i64 (j : Int) ∧ a = .int .u64 (uniF ls (ks.take j))) (fun _ z => m - (intOf z).toNat)
  case atStart => exact ⟨0, Nat.zero_le _, rfl, rfl⟩
  case round =>
    obtain ⟨j, hj, rfl, rfl⟩ := hrel
    by_cases hlt : j < m
    · obtain ⟨hkid, hm, hin, hS, hN⟩ := HK.out
      obtain ⟨x, hx⟩ : ∃ x, ks[j]? = some x := ⟨_, List.getElem?_eq_getElem (by omega)⟩
      obtain ⟨g', o, rfl, hg', hcx⟩ := hkid j x hx
      obtain ⟨hx0, hx1⟩ := hin x (List.mem_of_getElem? hx)
      have xs : w.cell? ⟨S, x.toNat, none⟩ = some (.int .u64 (ls.getD x.toNat 0)) := by rw [hS.cell, setA_at _ _ (by omega)]
      have e1 : (j : Int) < (m : Int) := by omega
      have hsn : uniF ls (ks.take (j + 1)) = uns ls (uniF ls (ks.take j)) x := by rw [itake_nx hx, uni_snoc]
      obtain ⟨a, ha⟩ : ∃ a, uniF ls (ks.take j) = a := ⟨_, rfl⟩
      obtain ⟨b, hb⟩ : ∃ b, ls.getD x.toNat 0 = b := ⟨_, rfl⟩
      have hab : uns ls a x = bits .or .u64 a b := by rw [← hb]; rfl
      rw [ha, hab] at hsn
      rw [hb] at xs
      rw [ha]
      have HSN := Lib.hid hsn
      clear hkid hm hin hS hN hx hsn ha hb hab
      go_wp2_with fail
      go_round
      case rel => exact ⟨j + 1, by omega, by go_num, by rw [HSN.out]⟩
      case measure => simp [intOf]; omega
    · obtain rfl : j = m := by omega
      have hfin : uniF ls (ks.take j) = R := by rw [List.take_of_length_le (Nat.le_of_eq HK.out.2.1)]; exact HR.out
      rw [hfin]
      clear hfin
      go_wp2_with fail
      go_ret
      exact ⟨rfl, rfl⟩
end Go.Proofs.YtpgnlfdindmopaaGreatDoor
