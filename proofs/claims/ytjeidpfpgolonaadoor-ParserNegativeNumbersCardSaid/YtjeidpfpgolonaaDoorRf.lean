/- The walks of the reference's formatUint and Text. -/
import Derived.Test.YtjeidpfpgolonaaDoorRk
import Derived.Outline
import Derived.Laws.IdiomStrings
import Derived.Deep.RegionWith
namespace Go.Proofs.YtjeidpfpgolonaaDoor
open Go Go.RowKit WM Go.Instr

theorem bcell {W w1 : World} (hb : Below W.heap.size W w1) : (∀ b o, b < W.heap.size → w1.cell? ⟨b, o, none⟩ = W.cell? ⟨b, o, none⟩) ∧ (∀ b o, b < W.heap.size → w1.frozen? ⟨b, o, none⟩ = W.frozen? ⟨b, o, none⟩) :=
  ⟨fun b o h => hb.cell (p := ⟨b, o, none⟩) h, fun b o h => hb.frozen (p := ⟨b, o, none⟩) h⟩
def StrB (B : Nat) (l : List UInt8) (w : World) (e : Ending) (w' : World) : Prop := e = .returned (.string ⟨l.toArray⟩) ∧ Below B w w'
theorem strB {B : Nat} {l : List UInt8} {w w' : World} {s : ByteArray} (hs : s = ⟨l.toArray⟩) (hb : Below B w w') : StrB B l w (.returned (.string s)) w' := ⟨by rw [hs], hb⟩

/-- A slice of one byte becomes a string of one byte. -/
theorem conv_one (W : World) (b : Nat) (n : Int) (c : UInt8) (hn : n = (c.toNat : Int)) (hc : W.cell? ⟨b, 0, none⟩ = some (.int .u8 n)) :
    (convert 89 9 (.slice (some ⟨b, 0, none⟩) 1 1)).run Tryd.prog W = .ok (.string ⟨#[c]⟩) W := by
  subst hn
  refine run_convert_bytes_back (P := Tryd.prog) W 89 9 5 ⟨b, 0, none⟩ 1 [c] Tryd.underlying89 Tryd.underlying5 Tryd.underlying9 (fun j hj => ?_)
  obtain rfl : j = 0 := by simpa using hj
  exact hc
theorem u8wrap (n : Int) (h0 : 0 ≤ n) (h1 : n ≤ 255) : IntKind.u8.wrap n = n := by rw [IntKind.wrap_u8]; omega

theorem fmt_small (u : Int) (c : UInt8) (h0 : 0 ≤ u) (h1 : u < 10) (hc : (48 + u : Int) = (c.toNat : Int)) (w : World) (B : Nat) (hB : B ≤ w.heap.size) :
    Calls Tryd.prog 29 #[.int .u64 u] w (StrB B [c] w) := by
  have hconv := fun (W : World) (b : Nat) (h : W.cell? ⟨b, 0, none⟩ = some (.int .u8 (48 + u))) => conv_one W b (48 + u) c hc h
  clear hc
  go_enter Tryd.func29, Tryd.ntmps29
  go_wp2_with fail
  go_ret
  exact strB rfl ((Below.refl _ _).alloc hB _)

theorem cell_below {B : Nat} {W W1 : World} {b : Nat} {v : Value} (hb : Below B W W1) (hc : W.cell? ⟨b, 0, none⟩ = some v) (h : b < B) : W1.cell? ⟨b, 0, none⟩ = some v := (hb.cell (p := ⟨b, 0, none⟩) h).trans hc
theorem below_drew {B : Nat} {w w1 : World} (hB : B ≤ w.heap.size) (hb : Below w.drew.heap.size w.drew w1) : Below B w w1 := ((Below.refl B w).drew).trans (hb.mono hB)
theorem below_alloc {B : Nat} {w w1 : World} {o : Obj} (hB : B ≤ w.heap.size) (hb : Below (w.alloc o).drew.heap.size (w.alloc o).drew w1) : Below B w w1 :=
  ((((Below.refl B w).alloc hB o)).drew).trans (hb.mono (Nat.le_trans hB (by show w.heap.size ≤ (w.heap.push _).size; simp)))
set_option maxHeartbeats 1000000 in
theorem fmt_big (u q d n : Int) (l : List UInt8) (c : UInt8) (hl : l.length ≤ 100) (h0 : 10 ≤ u) (hA : IntKind.u64.wrap (u.tdiv 10) = q) (hB0 : u.tmod 10 = d) (hC : IntKind.u64.wrap (48 + d) = n) (hD : IntKind.u8.wrap n = n) (hc : n = (c.toNat : Int)) (w : World) (B : Nat) (hB : B ≤ w.heap.size)
    (ih : ∀ (W : World) (B : Nat), B ≤ W.heap.size → Calls Tryd.prog 29 #[.int .u64 q] W (StrB B l W)) :
    Calls Tryd.prog 29 #[.int .u64 u] w (StrB B (l ++ [c]) w) := by
  have hconv := fun (W : World) (b : Nat) (h : W.cell? ⟨b, 0, none⟩ = some (.int .u8 n)) => conv_one W b n c hc h
  clear hc
  go_enter Tryd.func29, Tryd.ntmps29
  go_wp2_with fail
  go_region_with (go_at_call 29; refine (ih _ _ (Nat.le_refl _)).mono ?_; rintro e w1 ⟨rfl, hb1⟩; obtain ⟨hcc, hff⟩ := bcell hb1)
  all_goals
    go_wp2_with fail
    go_ret
    first
      | exact strB (by rw [ByteArray.mk_append_mk l [c]]) ((below_drew hB hb1).alloc (Nat.le_trans hB (below_drew hB hb1).size) _)
      | exact strB (by rw [ByteArray.mk_append_mk l [c]]) (below_alloc hB hb1)
theorem digitC (d : Nat) (h : d < 10) : ((48 : Int) + (d : Int)) = ((UInt8.ofNat (48 + d)).toNat : Int) := by
  rw [UInt8.toNat_ofNat']; omega
theorem u64of (n : Int) (h0 : 0 ≤ n) (h1 : n < 18446744073709551616) : IntKind.u64.wrap n = n := by rw [u64wrap]; omega
/-- formatUint gives the decimal numeral. -/
theorem fmt_any (k : Nat) : ∀ (u : Nat), u < 10 ^ (k + 1) → (u : Int) ≤ 18446744073709551615 → k ≤ 20 → ∀ (w : World) (B : Nat), B ≤ w.heap.size →
    Calls Tryd.prog 29 #[.int .u64 (u : Int)] w (StrB B (Lib.decDigits u) w) := by
  induction k with
  | zero =>
    intro u hu hm _ w B hB
    rw [Lib.decDigits_one (by simpa using hu)]
    exact fmt_small u _ (by omega) (by omega) (digitC u (by simpa using hu)) w B hB
  | succ k ih =>
    intro u hu hm hk w B hB
    by_cases h : u < 10
    · rw [Lib.decDigits_one h]
      exact fmt_small u _ (by omega) (by omega) (digitC u h) w B hB
    · rw [Lib.decDigits, dif_neg h]
      have hq : u / 10 < 10 ^ (k + 1) := by rw [Nat.pow_succ] at hu; omega
      have hlen : (Lib.decDigits (u / 10)).length ≤ 100 := by
        rw [Lib.decDigits_length]; have := nDigits_le k (u / 10) hq; omega
      have e1 : IntKind.u64.wrap ((u : Int).tdiv 10) = ((u / 10 : Nat) : Int) := by
        rw [Int.tdiv_eq_ediv_of_nonneg (by omega), u64of _ (by omega) (by omega)]; omega
      have e2 : (u : Int).tmod 10 = ((u % 10 : Nat) : Int) := by
        rw [Int.tmod_eq_emod_of_nonneg (by omega)]; omega
      have hc := digitC (u % 10) (by omega)
      exact fmt_big u _ _ (48 + ((u % 10 : Nat) : Int)) _ _ hlen (by omega) e1 e2 (u64of _ (by omega) (by omega)) (u8wrap _ (by omega) (by omega)) hc w B hB
        (fun W B hB => ih (u / 10) hq (by omega) (by omega) W B hB)
theorem fmt_at (u : Int) (m : Nat) (h : u = (m : Int)) (h1 : u ≤ 18446744073709551615) (w : World) (B : Nat) (hB : B ≤ w.heap.size) :
    Calls Tryd.prog 29 #[.int .u64 u] w (StrB B (Lib.decDigits m) w) := by
  subst h
  exact fmt_any 19 m (by omega) h1 (by omega) w B hB
theorem rtext_neg (n : Int) (hn : inW n) (hneg : n < 0) (w : World) (B : Nat) (hB : B ≤ w.heap.size) :
    Calls Tryd.prog 17 #[.int .i64 n] w (StrB B (Lib.itoa n) w) := by
  have hi : Lib.itoa n = [45] ++ Lib.decDigits n.natAbs := by unfold Lib.itoa; rw [if_pos hneg]; rfl
  have hl := itoa_len n hn
  rw [hi] at hl ⊢
  have hll : (Lib.decDigits n.natAbs).length ≤ 100 := by simp at hl; omega
  unfold inW at hn
  have hu : -(n + 1) + 1 = (n.natAbs : Int) := by omega
  have HU := Lib.hid hu
  clear hu hl hi
  go_enter Tryd.func17, Tryd.ntmps17
  go_wp2_with (go_at_call 29; ((with_reducible refine (fmt_at _ _ HU.out (by omega) _ _ (Nat.le_refl _)).mono ?_); rintro e w1 ⟨rfl, hb1⟩))
  go_ret
  exact strB (ByteArray.mk_append_mk [45] _) (hb1.mono hB)
theorem rtext_pos (n : Int) (hn : inW n) (hneg : 0 ≤ n) (w : World) (B : Nat) (hB : B ≤ w.heap.size) :
    Calls Tryd.prog 17 #[.int .i64 n] w (StrB B (Lib.itoa n) w) := by
  have hi : Lib.itoa n = Lib.decDigits n.toNat := by unfold Lib.itoa; rw [if_neg (by omega)]
  rw [hi]
  unfold inW at hn
  have hu : n = (n.toNat : Int) := by omega
  have HU := Lib.hid hu
  clear hu hi
  go_enter Tryd.func17, Tryd.ntmps17
  go_wp2_with (go_at_call 29; ((with_reducible refine (fmt_at _ _ HU.out (by omega) _ _ (Nat.le_refl _)).mono ?_); rintro e w1 ⟨rfl, hb1⟩))
  go_ret
  exact strB rfl (hb1.mono hB)
theorem rtext_any (n : Int) (hn : inW n) (w : World) (B : Nat) (hB : B ≤ w.heap.size) :
    Calls Tryd.prog 17 #[.int .i64 n] w (StrB B (Lib.itoa n) w) := by
  by_cases h : n < 0
  · exact rtext_neg n hn h w B hB
  · exact rtext_pos n hn (by omega) w B hB
end Go.Proofs.YtjeidpfpgolonaaDoor
