/- The walks of the statements' own helpers Pick and Word: a number in the range; some word. -/
import Derived.Test.YtgiggkfnpbgkpaaGreatDoorBa
import Derived.Test.YtgiggkfnpbgkpaaGreatDoorChecked
import Derived.WalkKit
import Derived.Lib.Hide
import Derived.Below
import Derived.Outline
import Derived.Laws.IdiomStrings
import Derived.Deep.RegionWith
import Derived.ProofKit
import Derived.Carry
import Derived.OpenShut
import Derived.Lib.LaidTab
import Derived.Lib.AppendIntMem
import Derived.Test.YtgiggkfnpbgkpaaGreatDoorShelf
import Derived.Laws.Rows
import Derived.WalkLawsBesides
import Derived.Laws.OwnMore
import Derived.Deep.AppendLies
import Derived.Deep.Draws
import Derived.Maps.AppendAt
import Derived.Deep.QuietTactic
import Derived.BigQuiet
namespace Go.Proofs.YtgiggkfnpbgkpaaGreatDoor
open Go Go.RowKit WM

theorem emod_of_tmod (n m : Int) (hm : 0 < m) : (0 ≤ n.tmod m → n.tmod m = n % m) ∧ (n.tmod m < 0 → n.tmod m + m = n % m) := by
  have h := Int.tmod_eq_emod (a := n) (b := m)
  have h0 := Int.emod_nonneg n (b := m) (by omega)
  have h1 := Int.emod_lt_of_pos n hm
  have hna : (m.natAbs : Int) = m := by omega
  by_cases hc : 0 ≤ n ∨ m ∣ n
  · rw [if_pos hc] at h; omega
  · rw [if_neg hc, hna] at h; omega
theorem pick_any (n m k : Int) (hm : 0 < m) (hm2 : m ≤ 1000) (hk : n % m = k) (w : World) :
    Calls Tryz.prog 16 #[.int .i64 n, .int .i64 m] w fun e w' => e = .returned (.int .i64 k) ∧ w = w' := by
  obtain ⟨hp, hn⟩ := emod_of_tmod n m hm
  have h1 := Int.tmod_lt_of_pos n hm
  have h2 := Int.tmod_lt_of_pos (-n) hm
  rw [Int.neg_tmod] at h2
  have hne : (m == 0) = false := by rw [beq_eq_false_iff_ne]; omega
  by_cases hc : n.tmod m < 0
  · have hk' := (hn hc).trans hk
    have HK := Lib.hid hk'
    clear hk hk' hp hn
    have hb1 : 0 ≤ n.tmod m + m := by omega
    go_enter Tryz.func16, Tryz.ntmps16
    go_wp2_with fail
    go_ret
    exact ⟨by rw [← HK.out]; rfl, rfl⟩
  · have hk' := (hp (by omega)).trans hk
    have HK := Lib.hid hk'
    clear hk hk' hp hn
    go_enter Tryz.func16, Tryz.ntmps16
    go_wp2_with fail
    go_ret
    exact ⟨by rw [← HK.out]; rfl, rfl⟩

/-- Some word, and only new memory. -/
def SomeW (B : Nat) (w : World) (e : Ending) (w' : World) : Prop := ∃ v : Int, inW v ∧ e = .returned (.int .i64 v) ∧ Below B w w'
theorem someW {B : Nat} {w w' : World} {v : Int} (hv : inW v) (hb : Below B w w') : SomeW B w (.returned (.int .i64 v)) w' := ⟨v, hv, rfl, hb⟩
theorem inW_lit {a : Int} (h : decide (-9223372036854775808 ≤ a) = true) (h' : decide (a ≤ 9223372036854775807) = true) : inW a := ⟨of_decide_eq_true h, of_decide_eq_true h'⟩
theorem word_0 (n raw : Int) (HK : Hid (n % 24 = 0)) (w : World) (B : Nat) (hB : B ≤ w.heap.size) :
    Calls Tryz.prog 63 #[.int .i64 n, .int .i64 raw] w (SomeW B w) := by
  go_enter Tryz.func63, Tryz.ntmps63
  go_wp2_with (go_at_call 16; ((with_reducible refine (pick_any _ 24 _ (by decide) (by decide) HK.out _).mono ?_); rintro e w' ⟨rfl, rfl⟩))
  go_ret
  exact someW (inW_lit rfl rfl) ((Below.refl _ _).alloc hB _)
theorem word_1 (n raw : Int) (HK : Hid (n % 24 = 1)) (w : World) (B : Nat) (hB : B ≤ w.heap.size) :
    Calls Tryz.prog 63 #[.int .i64 n, .int .i64 raw] w (SomeW B w) := by
  go_enter Tryz.func63, Tryz.ntmps63
  go_wp2_with (go_at_call 16; ((with_reducible refine (pick_any _ 24 _ (by decide) (by decide) HK.out _).mono ?_); rintro e w' ⟨rfl, rfl⟩))
  go_ret
  exact someW (inW_lit rfl rfl) ((Below.refl _ _).alloc hB _)
theorem word_2 (n raw : Int) (HK : Hid (n % 24 = 2)) (w : World) (B : Nat) (hB : B ≤ w.heap.size) :
    Calls Tryz.prog 63 #[.int .i64 n, .int .i64 raw] w (SomeW B w) := by
  go_enter Tryz.func63, Tryz.ntmps63
  go_wp2_with (go_at_call 16; ((with_reducible refine (pick_any _ 24 _ (by decide) (by decide) HK.out _).mono ?_); rintro e w' ⟨rfl, rfl⟩))
  go_ret
  exact someW (inW_lit rfl rfl) ((Below.refl _ _).alloc hB _)
theorem word_3 (n raw : Int) (HK : Hid (n % 24 = 3)) (w : World) (B : Nat) (hB : B ≤ w.heap.size) :
    Calls Tryz.prog 63 #[.int .i64 n, .int .i64 raw] w (SomeW B w) := by
  go_enter Tryz.func63, Tryz.ntmps63
  go_wp2_with (go_at_call 16; ((with_reducible refine (pick_any _ 24 _ (by decide) (by decide) HK.out _).mono ?_); rintro e w' ⟨rfl, rfl⟩))
  go_ret
  exact someW (inW_lit rfl rfl) ((Below.refl _ _).alloc hB _)
theorem word_4 (n raw : Int) (HK : Hid (n % 24 = 4)) (w : World) (B : Nat) (hB : B ≤ w.heap.size) :
    Calls Tryz.prog 63 #[.int .i64 n, .int .i64 raw] w (SomeW B w) := by
  go_enter Tryz.func63, Tryz.ntmps63
  go_wp2_with (go_at_call 16; ((with_reducible refine (pick_any _ 24 _ (by decide) (by decide) HK.out _).mono ?_); rintro e w' ⟨rfl, rfl⟩))
  go_ret
  exact someW (inW_lit rfl rfl) ((Below.refl _ _).alloc hB _)
theorem word_5 (n raw : Int) (HK : Hid (n % 24 = 5)) (w : World) (B : Nat) (hB : B ≤ w.heap.size) :
    Calls Tryz.prog 63 #[.int .i64 n, .int .i64 raw] w (SomeW B w) := by
  go_enter Tryz.func63, Tryz.ntmps63
  go_wp2_with (go_at_call 16; ((with_reducible refine (pick_any _ 24 _ (by decide) (by decide) HK.out _).mono ?_); rintro e w' ⟨rfl, rfl⟩))
  go_ret
  exact someW (inW_lit rfl rfl) ((Below.refl _ _).alloc hB _)
theorem word_6 (n raw : Int) (HK : Hid (n % 24 = 6)) (w : World) (B : Nat) (hB : B ≤ w.heap.size) :
    Calls Tryz.prog 63 #[.int .i64 n, .int .i64 raw] w (SomeW B w) := by
  go_enter Tryz.func63, Tryz.ntmps63
  go_wp2_with (go_at_call 16; ((with_reducible refine (pick_any _ 24 _ (by decide) (by decide) HK.out _).mono ?_); rintro e w' ⟨rfl, rfl⟩))
  go_ret
  exact someW (inW_lit rfl rfl) ((Below.refl _ _).alloc hB _)
theorem word_7 (n raw : Int) (HK : Hid (n % 24 = 7)) (w : World) (B : Nat) (hB : B ≤ w.heap.size) :
    Calls Tryz.prog 63 #[.int .i64 n, .int .i64 raw] w (SomeW B w) := by
  go_enter Tryz.func63, Tryz.ntmps63
  go_wp2_with (go_at_call 16; ((with_reducible refine (pick_any _ 24 _ (by decide) (by decide) HK.out _).mono ?_); rintro e w' ⟨rfl, rfl⟩))
  go_ret
  exact someW (inW_lit rfl rfl) ((Below.refl _ _).alloc hB _)
theorem word_8 (n raw : Int) (HK : Hid (n % 24 = 8)) (w : World) (B : Nat) (hB : B ≤ w.heap.size) :
    Calls Tryz.prog 63 #[.int .i64 n, .int .i64 raw] w (SomeW B w) := by
  go_enter Tryz.func63, Tryz.ntmps63
  go_wp2_with (go_at_call 16; ((with_reducible refine (pick_any _ 24 _ (by decide) (by decide) HK.out _).mono ?_); rintro e w' ⟨rfl, rfl⟩))
  go_ret
  exact someW (inW_lit rfl rfl) ((Below.refl _ _).alloc hB _)
theorem word_9 (n raw : Int) (HK : Hid (n % 24 = 9)) (w : World) (B : Nat) (hB : B ≤ w.heap.size) :
    Calls Tryz.prog 63 #[.int .i64 n, .int .i64 raw] w (SomeW B w) := by
  go_enter Tryz.func63, Tryz.ntmps63
  go_wp2_with (go_at_call 16; ((with_reducible refine (pick_any _ 24 _ (by decide) (by decide) HK.out _).mono ?_); rintro e w' ⟨rfl, rfl⟩))
  go_ret
  exact someW (inW_lit rfl rfl) ((Below.refl _ _).alloc hB _)
theorem word_mid (n raw j k : Int) (HK : Hid (n % 24 = k)) (HJ : Hid (wrap64 (n.tdiv 24) % 17 = j)) (h1 : 10 ≤ k) (h2 : k < 22) (hj0 : 0 ≤ j) (hj1 : j < 17) (w : World) (B : Nat) (hB : B ≤ w.heap.size) :
    Calls Tryz.prog 63 #[.int .i64 n, .int .i64 raw] w (SomeW B w) := by
  go_enter Tryz.func63, Tryz.ntmps63
  go_wp2_with (go_at_call 16; ((with_reducible refine (pick_any _ 24 _ (by decide) (by decide) HK.out _).mono ?_); rintro e w' ⟨rfl, rfl⟩))
  go_wp2_with (go_at_call 16; ((with_reducible refine (pick_any _ 17 _ (by decide) (by decide) HJ.out _).mono ?_); rintro e w' ⟨rfl, rfl⟩))
  go_ret
  exact someW (by unfold inW; omega) ((Below.refl _ _).alloc hB _)
theorem word_raw (n raw k : Int) (HK : Hid (n % 24 = k)) (h1 : 22 ≤ k) (hraw : inW raw) (w : World) (B : Nat) (hB : B ≤ w.heap.size) :
    Calls Tryz.prog 63 #[.int .i64 n, .int .i64 raw] w (SomeW B w) := by
  go_enter Tryz.func63, Tryz.ntmps63
  go_wp2_with (go_at_call 16; ((with_reducible refine (pick_any _ 24 _ (by decide) (by decide) HK.out _).mono ?_); rintro e w' ⟨rfl, rfl⟩))
  go_ret
  exact someW hraw ((Below.refl _ _).alloc hB _)
theorem word_any (n raw : Int) (hraw : inW raw) (w : World) (B : Nat) (hB : B ≤ w.heap.size) :
    Calls Tryz.prog 63 #[.int .i64 n, .int .i64 raw] w (SomeW B w) := by
  have hcases : n % 24 = 0 ∨ n % 24 = 1 ∨ n % 24 = 2 ∨ n % 24 = 3 ∨ n % 24 = 4 ∨ n % 24 = 5 ∨ n % 24 = 6 ∨ n % 24 = 7 ∨ n % 24 = 8 ∨ n % 24 = 9 ∨ (10 ≤ n % 24 ∧ n % 24 < 22) ∨ 22 ≤ n % 24 := by omega
  rcases hcases with h | h | h | h | h | h | h | h | h | h | ⟨h, h'⟩ | h
  · exact word_0 n raw (Lib.hid h) w B hB
  · exact word_1 n raw (Lib.hid h) w B hB
  · exact word_2 n raw (Lib.hid h) w B hB
  · exact word_3 n raw (Lib.hid h) w B hB
  · exact word_4 n raw (Lib.hid h) w B hB
  · exact word_5 n raw (Lib.hid h) w B hB
  · exact word_6 n raw (Lib.hid h) w B hB
  · exact word_7 n raw (Lib.hid h) w B hB
  · exact word_8 n raw (Lib.hid h) w B hB
  · exact word_9 n raw (Lib.hid h) w B hB
  · exact word_mid n raw _ _ (Lib.hid rfl) (Lib.hid rfl) h h' (by omega) (by omega) w B hB
  · exact word_raw n raw _ (Lib.hid rfl) h hraw w B hB
end Go.Proofs.YtgiggkfnpbgkpaaGreatDoor
/- The walks of the reference's formatUint and Text. -/
namespace Go.Proofs.YtgiggkfnpbgkpaaGreatDoor
open Go Go.RowKit WM Go.Instr

theorem bcell {W w1 : World} (hb : Below W.heap.size W w1) : (∀ b o, b < W.heap.size → w1.cell? ⟨b, o, none⟩ = W.cell? ⟨b, o, none⟩) ∧ (∀ b o, b < W.heap.size → w1.frozen? ⟨b, o, none⟩ = W.frozen? ⟨b, o, none⟩) :=
  ⟨fun b o h => hb.cell (p := ⟨b, o, none⟩) h, fun b o h => hb.frozen (p := ⟨b, o, none⟩) h⟩
def StrB (B : Nat) (l : List UInt8) (w : World) (e : Ending) (w' : World) : Prop := e = .returned (.string ⟨l.toArray⟩) ∧ Below B w w'
theorem strB {B : Nat} {l : List UInt8} {w w' : World} {s : ByteArray} (hs : s = ⟨l.toArray⟩) (hb : Below B w w') : StrB B l w (.returned (.string s)) w' := ⟨by rw [hs], hb⟩

/-- A slice of one byte becomes a string of one byte. -/
theorem conv_one (W : World) (b : Nat) (n : Int) (c : UInt8) (hn : n = (c.toNat : Int)) (hc : W.cell? ⟨b, 0, none⟩ = some (.int .u8 n)) :
    (convert 48 9 (.slice (some ⟨b, 0, none⟩) 1 1)).run Tryz.prog W = .ok (.string ⟨#[c]⟩) W := by
  subst hn
  refine run_convert_bytes_back (P := Tryz.prog) W 48 9 5 ⟨b, 0, none⟩ 1 [c] Tryz.underlying48 Tryz.underlying5 Tryz.underlying9 (fun j hj => ?_)
  obtain rfl : j = 0 := by simpa using hj
  exact hc
theorem u8wrap (n : Int) (h0 : 0 ≤ n) (h1 : n ≤ 255) : IntKind.u8.wrap n = n := by rw [IntKind.wrap_u8]; omega

theorem fmt_small (u : Int) (c : UInt8) (h0 : 0 ≤ u) (h1 : u < 10) (hc : (48 + u : Int) = (c.toNat : Int)) (w : World) (B : Nat) (hB : B ≤ w.heap.size) :
    Calls Tryz.prog 118 #[.int .u64 u] w (StrB B [c] w) := by
  have hconv := fun (W : World) (b : Nat) (h : W.cell? ⟨b, 0, none⟩ = some (.int .u8 (48 + u))) => conv_one W b (48 + u) c hc h
  clear hc
  go_enter Tryz.func118, Tryz.ntmps118
  go_wp2_with fail
  go_ret
  exact strB rfl ((Below.refl _ _).alloc hB _)

theorem cell_below {B : Nat} {W W1 : World} {b : Nat} {v : Value} (hb : Below B W W1) (hc : W.cell? ⟨b, 0, none⟩ = some v) (h : b < B) : W1.cell? ⟨b, 0, none⟩ = some v := (hb.cell (p := ⟨b, 0, none⟩) h).trans hc
theorem below_drew {B : Nat} {w w1 : World} (hB : B ≤ w.heap.size) (hb : Below w.drew.heap.size w.drew w1) : Below B w w1 := ((Below.refl B w).drew).trans (hb.mono hB)
theorem below_alloc {B : Nat} {w w1 : World} {o : Obj} (hB : B ≤ w.heap.size) (hb : Below (w.alloc o).drew.heap.size (w.alloc o).drew w1) : Below B w w1 :=
  ((((Below.refl B w).alloc hB o)).drew).trans (hb.mono (Nat.le_trans hB (by show w.heap.size ≤ (w.heap.push _).size; simp)))
set_option maxHeartbeats 1000000 in
theorem fmt_big (u q d n : Int) (l : List UInt8) (c : UInt8) (hl : l.length ≤ 100) (h0 : 10 ≤ u) (hA : IntKind.u64.wrap (u.tdiv 10) = q) (hB0 : u.tmod 10 = d) (hC : IntKind.u64.wrap (48 + d) = n) (hD : IntKind.u8.wrap n = n) (hc : n = (c.toNat : Int)) (w : World) (B : Nat) (hB : B ≤ w.heap.size)
    (ih : ∀ (W : World) (B : Nat), B ≤ W.heap.size → Calls Tryz.prog 118 #[.int .u64 q] W (StrB B l W)) :
    Calls Tryz.prog 118 #[.int .u64 u] w (StrB B (l ++ [c]) w) := by
  have hconv := fun (W : World) (b : Nat) (h : W.cell? ⟨b, 0, none⟩ = some (.int .u8 n)) => conv_one W b n c hc h
  clear hc
  go_enter Tryz.func118, Tryz.ntmps118
  go_wp2_with fail
  go_region_with (go_at_call 118; refine (ih _ _ (Nat.le_refl _)).mono ?_; rintro e w1 ⟨rfl, hb1⟩; obtain ⟨hcc, hff⟩ := bcell hb1)
  all_goals
    go_wp2_with fail
    go_ret
    first
      | exact strB (by rw [ByteArray.mk_append_mk l [c]]) ((below_drew hB hb1).alloc (Nat.le_trans hB (below_drew hB hb1).size) _)
      | exact strB (by rw [ByteArray.mk_append_mk l [c]]) (below_alloc hB hb1)
theorem digitC (d : Nat) (h : d < 10) : ((48 : Int) + (d : Int)) = ((UInt8.ofNat (48 + d)).toNat : Int) := by
  rw [UInt8.toNat_ofNat']; omega
theorem u64of (n : Int) (h0 : 0 ≤ n) (h1 : n < 18446744073709551616) : IntKind.u64.wrap n = n := by rw [u64wrap]; omega
/-- formatUint gives the decimal numeral. -/
theorem fmt_any (k : Nat) : ∀ (u : Nat), u < 10 ^ (k + 1) → (u : Int) ≤ 18446744073709551615 → k ≤ 20 → ∀ (w : World) (B : Nat), B ≤ w.heap.size →
    Calls Tryz.prog 118 #[.int .u64 (u : Int)] w (StrB B (Lib.decDigits u) w) := by
  induction k with
  | zero =>
    intro u hu hm _ w B hB
    rw [Lib.decDigits_one (by simpa using hu)]
    exact fmt_small u _ (by omega) (by omega) (digitC u (by simpa using hu)) w B hB
  | succ k ih =>
    intro u hu hm hk w B hB
    by_cases h : u < 10
    · rw [Lib.decDigits_one h]
      exact fmt_small u _ (by omega) (by omega) (digitC u h) w B hB
    · rw [Lib.decDigits, dif_neg h]
      have hq : u / 10 < 10 ^ (k + 1) := by rw [Nat.pow_succ] at hu; omega
      have hlen : (Lib.decDigits (u / 10)).length ≤ 100 := by
        rw [Lib.decDigits_length]; have := nDigits_le k (u / 10) hq; omega
      have e1 : IntKind.u64.wrap ((u : Int).tdiv 10) = ((u / 10 : Nat) : Int) := by
        rw [Int.tdiv_eq_ediv_of_nonneg (by omega), u64of _ (by omega) (by omega)]; omega
      have e2 : (u : Int).tmod 10 = ((u % 10 : Nat) : Int) := by
        rw [Int.tmod_eq_emod_of_nonneg (by omega)]; omega
      have hc := digitC (u % 10) (by omega)
      exact fmt_big u _ _ (48 + ((u % 10 : Nat) : Int)) _ _ hlen (by omega) e1 e2 (u64of _ (by omega) (by omega)) (u8wrap _ (by omega) (by omega)) hc w B hB
        (fun W B hB => ih (u / 10) hq (by omega) (by omega) W B hB)
theorem fmt_at (u : Int) (m : Nat) (h : u = (m : Int)) (h1 : u ≤ 18446744073709551615) (w : World) (B : Nat) (hB : B ≤ w.heap.size) :
    Calls Tryz.prog 118 #[.int .u64 u] w (StrB B (Lib.decDigits m) w) := by
  subst h
  exact fmt_any 19 m (by omega) h1 (by omega) w B hB
theorem rtext_neg (n : Int) (hn : inW n) (hneg : n < 0) (w : World) (B : Nat) (hB : B ≤ w.heap.size) :
    Calls Tryz.prog 64 #[.int .i64 n] w (StrB B (Lib.itoa n) w) := by
  have hi : Lib.itoa n = [45] ++ Lib.decDigits n.natAbs := by unfold Lib.itoa; rw [if_pos hneg]; rfl
  have hl := itoa_len n hn
  rw [hi] at hl ⊢
  have hll : (Lib.decDigits n.natAbs).length ≤ 100 := by simp at hl; omega
  unfold inW at hn
  have hu : -(n + 1) + 1 = (n.natAbs : Int) := by omega
  have HU := Lib.hid hu
  clear hu hl hi
  go_enter Tryz.func64, Tryz.ntmps64
  go_wp2_with (go_at_call 118; ((with_reducible refine (fmt_at _ _ HU.out (by omega) _ _ (Nat.le_refl _)).mono ?_); rintro e w1 ⟨rfl, hb1⟩))
  go_ret
  exact strB (ByteArray.mk_append_mk [45] _) (hb1.mono hB)
theorem rtext_pos (n : Int) (hn : inW n) (hneg : 0 ≤ n) (w : World) (B : Nat) (hB : B ≤ w.heap.size) :
    Calls Tryz.prog 64 #[.int .i64 n] w (StrB B (Lib.itoa n) w) := by
  have hi : Lib.itoa n = Lib.decDigits n.toNat := by unfold Lib.itoa; rw [if_neg (by omega)]
  rw [hi]
  unfold inW at hn
  have hu : n = (n.toNat : Int) := by omega
  have HU := Lib.hid hu
  clear hu hi
  go_enter Tryz.func64, Tryz.ntmps64
  go_wp2_with (go_at_call 118; ((with_reducible refine (fmt_at _ _ HU.out (by omega) _ _ (Nat.le_refl _)).mono ?_); rintro e w1 ⟨rfl, hb1⟩))
  go_ret
  exact strB rfl (hb1.mono hB)
theorem rtext_any (n : Int) (hn : inW n) (w : World) (B : Nat) (hB : B ≤ w.heap.size) :
    Calls Tryz.prog 64 #[.int .i64 n] w (StrB B (Lib.itoa n) w) := by
  by_cases h : n < 0
  · exact rtext_neg n hn h w B hB
  · exact rtext_pos n hn (by omega) w B hB
end Go.Proofs.YtgiggkfnpbgkpaaGreatDoor
/- The walk of the reference's Number. -/
namespace Go.Proofs.YtgiggkfnpbgkpaaGreatDoor
open Go Go.RowKit WM

theorem getD_at (s : ByteArray) (i : Nat) (h : i < s.size) : s.data.toList.getD i 0 = s[i] := by
  rw [List.getD_eq_getElem?_getD, List.getElem?_eq_getElem (by simpa using h)]; rfl
theorem size_len (s : ByteArray) : s.data.toList.length = s.size := rfl
theorem nfold_take (s : ByteArray) (k : Nat) (h : k < s.size) : nfold (s.data.toList.take (k + 1)) = 10 * nfold (s.data.toList.take k) + (s[k].toNat - 48) := by
  rw [take_snoc s k h, nfold_snoc]
theorem nfold_bound (s : ByteArray) (k : Nat) (hk : k ≤ s.size) (h : ∀ i, i < k → okc s.data.toList i = true) : nfold (s.data.toList.take k) < 10 ^ k := by
  have h1 := nfold_lt (s.data.toList.take k) (fun c hc => by
    obtain ⟨i, hi, rfl⟩ := List.mem_iff_getElem.1 hc
    rw [List.length_take] at hi
    have := okc_parts (h i (by omega))
    rw [getD_at s i (by omega)] at this
    rw [List.getElem_take]
    exact this.2.1)
  rwa [List.length_take, size_len, Nat.min_eq_left hk] at h1

def NumP (l : List UInt8) (most : Nat) (w : World) (e : Ending) (w' : World) : Prop := e = .returned (.tuple #[.int .u64 (numV l most : Int), .bool (numB l most)]) ∧ w = w'
theorem numP_bad {l : List UInt8} {most i : Nat} {w : World} (hi : i < l.length) (h : okc l i = false) : NumP l most w (.returned (.tuple #[.int .u64 0, .bool false])) w := by
  have hb := numB_bad l most i hi h
  unfold NumP numV
  rw [hb]; exact ⟨rfl, rfl⟩

theorem numP_no {l : List UInt8} {most : Nat} {w : World} (h : numB l most = false) : NumP l most w (.returned (.tuple #[.int .u64 0, .bool false])) w := by
  unfold NumP numV
  rw [h]; exact ⟨rfl, rfl⟩
theorem numP_yes {l : List UInt8} {most N : Nat} {w : World} (h : numB l most = true) (hv : numV l most = N) : NumP l most w (.returned (.tuple #[.int .u64 (N : Int), .bool true])) w := by
  unfold NumP
  rw [h, hv]; exact ⟨rfl, rfl⟩
theorem u64_num {a b : Int} (h : a = b) : Value.int .u64 a = Value.int .u64 b := by rw [h]
def OkTo (s : ByteArray) (k : Nat) : Prop := ∀ i, i < k → okc s.data.toList i = true
theorem okTo_succ {s : ByteArray} {k : Nat} (h : OkTo s k) (hk : okc s.data.toList k = true) : OkTo s (k + 1) := fun i hi => by
  by_cases e : i = k
  · subst e; exact hk
  · exact h i (by omega)
theorem okc_at {s : ByteArray} {k : Nat} (hk : k < s.size) (c1 : ¬ (s[k].toNat : Int) < 48) (c2 : ¬ (57 : Int) < (s[k].toNat : Int)) (h3 : k = 1 → ∀ h0 : 0 < s.size, ((s[0].toNat : Int) == 48) = false) (h4 : k ≤ 18) : okc s.data.toList k = true := by
  have e := getD_at s k hk
  refine okc_mk (by rw [e]; omega) (by rw [e]; omega) (fun h1 => ?_) h4
  have h0 : 0 < s.size := by omega
  rw [getD_at s 0 h0]
  intro h48
  have := h3 h1 h0
  rw [h48] at this
  exact absurd this (by decide)
set_option maxRecDepth 100000
set_option maxHeartbeats 1000000 in
theorem number_any (s : ByteArray) (most : Nat) (hs : s.size ≤ 9223372036854775807) (w : World) :
    Calls Tryz.prog 76 #[.string s, .int .u64 (most : Int)] w (NumP s.data.toList most w) := by
  go_enter Tryz.func76, Tryz.ntmps76
  go_wp2_with fail
  go_loop [6, 7] (fun n i => ∃ k : Nat, k ≤ s.size ∧ OkTo s k ∧ i = .int .i64 k ∧ n = .int .u64 (nfold (s.data.toList.take k) : Int)) (fun _ i => s.size - (intOf i).toNat)
  case atStart => exact ⟨0, Nat.zero_le _, fun i hi => absurd hi (by omega), rfl, rfl⟩
  case round =>
    obtain ⟨k, hk, hok, rfl, rfl⟩ := hrel
    have HOK := Lib.hid hok
    clear hok
    by_cases hlt : k < s.size
    · by_cases c1 : (s[k].toNat : Int) < 48
      · go_wp2_with fail
        go_ret2
        exact numP_bad (i := k) hlt (by
          apply Classical.byContradiction; intro hn
          have := okc_parts (by simpa using hn : okc s.data.toList k = true)
          rw [getD_at s k hlt] at this; omega)
      by_cases c2 : (57 : Int) < (s[k].toNat : Int)
      · go_wp2_with fail
        go_ret2
        exact numP_bad (i := k) hlt (by
          apply Classical.byContradiction; intro hn
          have := okc_parts (by simpa using hn : okc s.data.toList k = true)
          rw [getD_at s k hlt] at this; omega)
      by_cases c4 : 18 < k
      · go_wp2_with fail
        go_ret2
        exact numP_bad (i := k) hlt (by
          apply Classical.byContradiction; intro hn
          have := okc_parts (by simpa using hn : okc s.data.toList k = true)
          omega)
      have hN := nfold_bound s k hk HOK.out
      have hN18 : nfold (s.data.toList.take k) < 10 ^ 18 := Nat.lt_of_lt_of_le hN (Nat.pow_le_pow_right (by decide) (by omega))
      have hnt := nfold_take s k hlt
      clear hN
      generalize hgen : nfold (s.data.toList.take k) = N at hN18 hnt
      have HT := Lib.hid hnt
      have HG := Lib.hid hgen
      clear hnt hgen
      have hN0 : (N : Int) ≤ 999999999999999999 := by omega
      by_cases c3 : k = 1
      · subst c3
        have h0 : 0 < s.size := by omega
        by_cases c5 : ((s[0].toNat : Int) == 48) = true
        · go_wp2_with fail
          go_ret2
          exact numP_bad (i := 1) hlt (by
            apply Classical.byContradiction; intro hn
            have := okc_parts (by simpa using hn : okc s.data.toList 1 = true)
            apply this.2.2.1
            refine ⟨rfl, ?_⟩
            rw [getD_at s 0 h0]
            rw [beq_iff_eq] at c5
            apply UInt8.toNat_inj.1
            have e3 : (48 : UInt8).toNat = 48 := rfl
            omega)
        · have c6 : ((s[0].toNat : Int) == 48) = false := by simpa using c5
          clear c5
          go_wp2_with fail
          go_round
          case rel => exact ⟨2, by omega, okTo_succ HOK.out (okc_at hlt c1 c2 (fun _ _ => c6) (by omega)), rfl, u64_num (by rw [HT.out]; omega)⟩
          case measure => simp [intOf]; omega
      · go_wp2_with fail
        go_round
        case rel => exact ⟨k + 1, by omega, okTo_succ HOK.out (okc_at hlt c1 c2 (fun h => absurd h c3) (by omega)), by go_num, u64_num (by rw [HT.out]; omega)⟩
        case measure => simp [intOf]; omega
    · obtain rfl : k = s.size := by omega
      have hfull : s.data.toList.take s.size = s.data.toList := List.take_of_length_le (by rw [size_len]; exact Nat.le_refl _)
      rw [hfull]
      have HF := Lib.hid hfull
      clear hfull
      have htl : s.toList = s.data.toList := Lib.toList_data s
      have hall : allOk s.data.toList = true := allOk_of _ (fun i hi => HOK.out i (by rwa [size_len] at hi))
      by_cases hz : s.data.toList = []
      · have z1 : s.toList = [] := htl.trans hz
        have z2 : s.toList.isEmpty = true := by rw [z1]; rfl
        have hb : numB s.data.toList most = false := by unfold numB; rw [hz]; rfl
        have HB := Lib.hid hb
        clear hz hb hall htl
        go_wp2_with fail
        go_ret2
        exact numP_no HB.out
      · have z1 : ¬ s.toList = [] := by rw [htl]; exact hz
        have z2 : s.toList.isEmpty = false := by simpa using z1
        have z3 : s.data.toList.isEmpty = false := by simpa using hz
        generalize hgen : nfold s.data.toList = N
        by_cases hmost : most < N
        · have hb : numB s.data.toList most = false := by unfold numB; rw [hgen, decide_eq_false (by omega), Bool.and_false]
          have HB := Lib.hid hb
          clear hz hb hall htl hgen z3
          go_wp2_with fail
          go_ret2
          exact numP_no HB.out
        · have hb : numB s.data.toList most = true := by unfold numB; rw [hgen, decide_eq_true (by omega), hall, z3]; rfl
          have hv : numV s.data.toList most = N := by unfold numV; rw [hb, hgen]; rfl
          have HB := Lib.hid hb
          have HV := Lib.hid hv
          clear hz hb hv hall htl hgen z3
          go_wp2_with fail
          go_ret2
          exact numP_yes HB.out HV.out

theorem number_at (s : ByteArray) (most : Nat) (M V : Int) (b : Bool) (hs : s.size ≤ 9223372036854775807) (hM : M = (most : Int)) (hV : (numV s.data.toList most : Int) = V) (hb : numB s.data.toList most = b) (w : World) :
    Calls Tryz.prog 76 #[.string s, .int .u64 M] w fun e w' => e = .returned (.tuple #[.int .u64 V, .bool b]) ∧ w = w' := by
  subst hM
  exact (number_any s most hs w).mono fun e w' ⟨h1, h2⟩ => ⟨h1.trans (by rw [hV, hb]), h2⟩
theorem most1 : (9223372036854775807 : Int) = ((9223372036854775807 : Nat) : Int) := rfl
theorem most2 : (9223372036854775808 : Int) = ((9223372036854775808 : Nat) : Int) := rfl
theorem numV_le (l : List UInt8) (most : Nat) : numV l most ≤ most := by
  by_cases h : numB l most = true
  · exact (num_canon h).2.1
  · unfold numV; rw [if_neg h]; omega
end Go.Proofs.YtgiggkfnpbgkpaaGreatDoor
/- The frame that all laws share: a law that returns true and only makes new memory keeps its row's promise, whatever its parameters' types are; a listed table's cells out of the row's own condition. -/
namespace Go.Proofs.YtgiggkfnpbgkpaaGreatDoor.FR
open Go Go.RowKit Go.WideShapes Go.ChangeShapes

section
variable {H : Type} {enc : TypeId × Value → H} {P : Program}

/-- Below the heap's old size nothing has turned: all arguments read as they did. -/
theorem args_stay (hl : laidOutB P = true) {W W' : World} (hb : Below W.heap.size W W') : ∀ {ts : List TypeId} {vs : List Value} {ds : List (DataW H)} {ps : List MemPlace},
    (∀ t ∈ ts, P.readableRec t = true ∧ t < P.types.size) → DataW.TrodAll enc P W 0 (fun _ => true) true ts vs ds ps → (∀ x ∈ ps, x.block < W.heap.size) →
    DataW.TrodAll enc P W' 0 (fun b => decide (b < W.heap.size)) true ts vs ds ps
  | [], vs, ds, ps, _, h, _ => by
    obtain ⟨rfl, rfl, rfl⟩ := trodAll_nil h
    exact trodAll_mk0
  | t :: ts, vs, ds, ps, ht, h, hlt => by
    obtain ⟨v0, vs0, d0, ds0, p0, q0, rfl, rfl, rfl, h0, r0⟩ := trodAll_cons h
    exact trodAll_cons_mk (Below.trod hl (ht t (by simp)).1 (ht t (by simp)).2 h0 hb (fun x hx => hlt x (by simp [hx])))
      (args_stay hl hb (fun t' h' => ht t' (by simp [h'])) r0 (fun x hx => hlt x (by simp [hx])))

/-- THE END OF EVERY LAW: it returned true; what was there is as it was. -/
theorem law_post {f : Func} {s : ChangeSpec} {W W' : World} {args : Array Value} {ds gs : List (DataW H)} {before : List MemPlace} {tb : TypeId}
    (hl : laidOutB P = true) (hts : ∀ t ∈ f.params.toList, P.readableRec t = true ∧ t < P.types.size)
    (hrt : f.resultTypes = #[tb]) (htb : P.underlying tb = some .bool) (hv : s.vars = [])
    (hfn : s.fn H (ds ++ gs) = { results := [.lit (.bool true)], args := ds })
    (hW : DataW.Whole enc P f.params.toList s.vars false W args.toList ds gs before) (hb : Below W.heap.size W W') :
    s.post enc P f false true false false W args (.bool true) W' := by
  have hlt : ∀ p ∈ before, p.block < W.heap.size := fun p hp => hW.lt p hp
  have hW0 := hW
  obtain ⟨p, q, hA, hV, rfl, _, _⟩ := hW0
  rw [hv] at hV
  obtain ⟨rfl, rfl⟩ := trodVars_none hV
  refine ⟨ds, [], p ++ [], [], p, [], hW, ?_, ?_, ?_, ?_, fun h => by cases h⟩
  · rw [hfn, hrt]
    exact trodAll_cons_mk (shut_bool htb _) trodAll_mk0
  · rw [hfn]
    exact args_stay hl hb hts hA (fun x hx => hlt x (by simp [hx]))
  · rw [hfn, hv]
    rfl
  · exact World.keptBut_mono (fun x hx => ⟨hx, Or.inr (Or.inl (by simpa using hx))⟩) (hb.frame (· ∈ p ++ []))
end

/-- A table among the listed variables: its cells hold its numbers. -/
theorem tab_of_vars {P : Program} {W : World} {name : String} {k : IntKind} {zs : List Int} {g : Nat} {t e : TypeId} {n : Nat}
    (hg : P.globalNamed name = some g) (hty : (P.globals[g]?).map (·.type) = some t) (ht : P.underlying t = some (.array n e)) (he : P.underlying e = some (.int k)) (hce : P.cellsOf e = 1) (hct : P.cellsOf t = n) :
    ∀ {l : List (String × DataW Unit)} {ps : List MemPlace}, DataW.LaidVars P W l ps → (name, Lib.tabData k zs) ∈ l → Lib.TabIs P W name k zs
  | [], _, _, h => by cases h
  | (n', d') :: r, _, h, hm => by
    obtain ⟨g', t', cs, fuel, p, q, hg', ht', hvar, hd, hr, _⟩ := h
    rcases List.mem_cons.1 hm with h1 | h1
    · obtain ⟨rfl, rfl⟩ := Prod.mk.inj h1
      obtain rfl := Option.some.inj (hg.symm.trans hg')
      obtain rfl := Option.some.inj (hty.symm.trans ht')
      unfold Lib.TabIs
      rw [hvar, ← Lib.cells_of_tab ht he hce hct hd]
    · exact tab_of_vars hg hty ht he hce hct hr h1

def litV : DataW Unit → Value
  | .lit (.int k n) => .int k n
  | _ => .bool false
def tabCells : DataW Unit → Array Value
  | .agg xs => (xs.map litV).toArray
  | _ => #[]
def layTab (h : Array Obj) (g : Nat) (d : DataW Unit) : Array Obj := h.modify g fun
  | .cells _ t frozen => .cells (tabCells d) t frozen
  | o => o
end Go.Proofs.YtgiggkfnpbgkpaaGreatDoor.FR
/- Stage 2: the walks of the lexer's and the reference's tests of one byte. -/
namespace Go.Proofs.YtgiggkfnpbgkpaaGreatDoor
open Go.RowKit (wrap64 intOf)
open Go Go.RowKit WM LX

theorem digB_cases (c : UInt8) : (48 ≤ (c.toNat : Int) ∧ (c.toNat : Int) ≤ 57 ∧ digB c = true) ∨ ((c.toNat : Int) < 48 ∧ digB c = false) ∨ (57 < (c.toNat : Int) ∧ digB c = false) := by
  unfold digB
  by_cases h1 : 48 ≤ c.toNat
  · by_cases h2 : c.toNat ≤ 57
    · exact Or.inl ⟨by omega, by omega, by simp [h1, h2]⟩
    · exact Or.inr (Or.inr ⟨by omega, by simp [h2]⟩)
  · exact Or.inr (Or.inl ⟨by omega, by simp [h1]⟩)
def IsB (b : Bool) (w : World) (e : Ending) (w' : World) : Prop := e = .returned (.bool b) ∧ w = w'
theorem isB {b b' : Bool} {w : World} (h : b' = b) : IsB b w (.returned (.bool b')) w := ⟨by rw [h], rfl⟩
theorem isDigit_any (c : UInt8) (w : World) : Calls Tryz.prog 122 #[.int .u8 (c.toNat : Int)] w (IsB (digB c) w) := by
  rcases digB_cases c with ⟨h1, h2, h⟩ | ⟨h1, h⟩ | ⟨h1, h⟩
  all_goals
    have H := Lib.hid h
    clear h
    go_enter Tryz.func122, Tryz.ntmps122
    go_wp2_with fail
    go_ret
    first | exact isB H.out.symm | exact isB (by rw [H.out]; simp; omega)
theorem rDigit_any (c : UInt8) (w : World) : Calls Tryz.prog 75 #[.int .u8 (c.toNat : Int)] w (IsB (digB c) w) := by
  rcases digB_cases c with ⟨h1, h2, h⟩ | ⟨h1, h⟩ | ⟨h1, h⟩
  all_goals
    have H := Lib.hid h
    clear h
    go_enter Tryz.func75, Tryz.ntmps75
    go_wp2_with fail
    go_ret
    first | exact isB H.out.symm | exact isB (by rw [H.out]; simp; omega)
theorem byte_cases (c : UInt8) : (97 ≤ (c.toNat : Int) ∧ (c.toNat : Int) ≤ 122 ∧ letB c = true ∧ digB c = false) ∨ (65 ≤ (c.toNat : Int) ∧ (c.toNat : Int) ≤ 90 ∧ letB c = true ∧ digB c = false) ∨ ((c.toNat : Int) = 95 ∧ letB c = true ∧ digB c = false)
    ∨ (48 ≤ (c.toNat : Int) ∧ (c.toNat : Int) ≤ 57 ∧ letB c = false ∧ digB c = true)
    ∨ (((c.toNat : Int) < 48 ∨ (57 < (c.toNat : Int) ∧ (c.toNat : Int) < 65) ∨ (90 < (c.toNat : Int) ∧ (c.toNat : Int) < 95) ∨ (95 < (c.toNat : Int) ∧ (c.toNat : Int) < 97) ∨ 122 < (c.toNat : Int)) ∧ letB c = false ∧ digB c = false) := by
  have hcases : (97 ≤ c.toNat ∧ c.toNat ≤ 122) ∨ (65 ≤ c.toNat ∧ c.toNat ≤ 90) ∨ c.toNat = 95 ∨ (48 ≤ c.toNat ∧ c.toNat ≤ 57) ∨ (c.toNat < 48 ∨ (57 < c.toNat ∧ c.toNat < 65) ∨ (90 < c.toNat ∧ c.toNat < 95) ∨ (95 < c.toNat ∧ c.toNat < 97) ∨ 122 < c.toNat) := by omega
  have hl : letB c = decide ((97 ≤ c.toNat ∧ c.toNat ≤ 122) ∨ (65 ≤ c.toNat ∧ c.toNat ≤ 90) ∨ c.toNat = 95) := by
    unfold letB; rw [Bool.eq_iff_iff]; simp only [Bool.or_eq_true, Bool.and_eq_true, decide_eq_true_eq, or_assoc]
  have hd : digB c = decide (48 ≤ c.toNat ∧ c.toNat ≤ 57) := by
    unfold digB; rw [Bool.eq_iff_iff]; simp only [Bool.and_eq_true, decide_eq_true_eq]
  rw [hl, hd]
  rcases hcases with ⟨h, h'⟩ | ⟨h, h'⟩ | h | ⟨h, h'⟩ | h
  · exact Or.inl ⟨by omega, by omega, decide_eq_true (by omega), decide_eq_false (by omega)⟩
  · exact Or.inr (Or.inl ⟨by omega, by omega, decide_eq_true (by omega), decide_eq_false (by omega)⟩)
  · exact Or.inr (Or.inr (Or.inl ⟨by omega, decide_eq_true (by omega), decide_eq_false (by omega)⟩))
  · exact Or.inr (Or.inr (Or.inr (Or.inl ⟨by omega, by omega, decide_eq_false (by omega), decide_eq_true (by omega)⟩)))
  · exact Or.inr (Or.inr (Or.inr (Or.inr ⟨by omega, decide_eq_false (by omega), decide_eq_false (by omega)⟩)))
theorem word_of {c : UInt8} {a b : Bool} (h : letB c = a) (h' : digB c = b) : wordB c = (a || b) := by unfold wordB; rw [h, h']
theorem isWord_any (c : UInt8) (w : World) : Calls Tryz.prog 124 #[.int .u8 (c.toNat : Int)] w (IsB (wordB c) w) := by
  rcases byte_cases c with ⟨h1, h2, h, h'⟩ | ⟨h1, h2, h, h'⟩ | ⟨h1, h, h'⟩ | ⟨h1, h2, h, h'⟩ | ⟨h1 | ⟨h1, h2⟩ | ⟨h1, h2⟩ | ⟨h1, h2⟩ | h1, h, h'⟩
  all_goals
    have H := Lib.hid (word_of h h')
    clear h
    try have h3 : ((c.toNat : Int) == 95) = false := by rw [beq_eq_false_iff_ne]; omega
    try have h4 : ((c.toNat : Int) == 95) = true := by rw [beq_iff_eq]; assumption
    go_enter Tryz.func124, Tryz.ntmps124
    go_wp2_with (go_at_call 122; ((with_reducible refine (isDigit_any c _).mono ?_); rintro e w' ⟨rfl, rfl⟩))
    go_ret
    first | exact isB (by rw [H.out]; rfl) | exact isB (by rw [H.out]; simp; omega)
theorem rLetter_any (c : UInt8) (w : World) : Calls Tryz.prog 74 #[.int .u8 (c.toNat : Int)] w (IsB (letB c) w) := by
  rcases byte_cases c with ⟨h1, h2, h, h'⟩ | ⟨h1, h2, h, h'⟩ | ⟨h1, h, h'⟩ | ⟨h1, h2, h, h'⟩ | ⟨h1 | ⟨h1, h2⟩ | ⟨h1, h2⟩ | ⟨h1, h2⟩ | h1, h, h'⟩
  all_goals
    have H := Lib.hid h
    clear h h'
    try have h3 : ((c.toNat : Int) == 95) = false := by rw [beq_eq_false_iff_ne]; omega
    try have h4 : ((c.toNat : Int) == 95) = true := by rw [beq_iff_eq]; assumption
    go_enter Tryz.func74, Tryz.ntmps74
    go_wp2_with fail
    go_ret
    first | exact isB H.out.symm | exact isB (by rw [H.out]; simp; omega)
end Go.Proofs.YtgiggkfnpbgkpaaGreatDoor
/- Stage 2: the walks of the lexer's wordAt, endOfLine, skipSeparators. -/
namespace Go.Proofs.YtgiggkfnpbgkpaaGreatDoor
open Go.RowKit (wrap64 intOf)
open Go Go.RowKit WM LX

theorem drop_cons (s : ByteArray) (k : Nat) (h : k < s.size) : s.data.toList.drop k = s[k] :: s.data.toList.drop (k + 1) := by
  rw [List.drop_eq_getElem_cons (by simpa using h)]; rfl
theorem drop_end (s : ByteArray) : s.data.toList.drop s.size = [] := List.drop_of_length_le (Nat.le_refl _)
/-- From j on the word ends at E. -/
def WAt (s : ByteArray) (E j : Nat) : Prop := j + wlen (s.data.toList.drop j) = E
theorem wat_step {s : ByteArray} {E j : Nat} (h : WAt s E j) (hj : j < s.size) (hw : wordB s[j] = true) : WAt s E (j + 1) := by
  unfold WAt at *; rw [drop_cons s j hj, wlen_pos hw] at h; omega
theorem wat_stop {s : ByteArray} {E j : Nat} (h : WAt s E j) (hj : j < s.size) (hw : wordB s[j] = false) : E = j := by
  unfold WAt at *; rw [drop_cons s j hj, wlen_zero hw] at h; omega
theorem wat_end {s : ByteArray} {E : Nat} (h : WAt s E s.size) : E = s.size := by
  unfold WAt at *; rw [drop_end] at h; simp [wlen] at h; omega
theorem wordAt_any (s : ByteArray) (k : Nat) (hk : k ≤ s.size) (hs : s.size ≤ 9223372036854775807) (w : World) :
    Calls Tryz.prog 167 #[.string s, .int .i64 (k : Int)] w fun e w' => e = .returned (.string (s.extract k (k + wlen (s.data.toList.drop k)))) ∧ w = w' := by
  obtain ⟨E, hE⟩ : ∃ E, k + wlen (s.data.toList.drop k) = E := ⟨_, rfl⟩
  have hW : WAt s E k := hE
  rw [hE]
  clear hE
  go_enter Tryz.func167, Tryz.ntmps167
  go_wp2_with fail
  go_loop [5] (fun i => ∃ j : Nat, k ≤ j ∧ j ≤ s.size ∧ WAt s E j ∧ i = .int .i64 j) (fun i => s.size - (intOf i).toNat)
  case atStart => exact ⟨k, Nat.le_refl _, hk, hW, rfl⟩
  case round =>
    obtain ⟨j, hkj, hj, hwj, rfl⟩ := hrel
    clear hW
    by_cases hlt : j < s.size
    · by_cases hw : wordB s[j] = true
      · go_wp2_with (go_at_call 124; ((with_reducible refine (isWord_any s[j] _).mono ?_); rintro e w' ⟨rfl, rfl⟩))
        go_round
        case rel => exact ⟨j + 1, by omega, by omega, wat_step hwj hlt hw, by go_num⟩
        case measure => simp [intOf]; omega
      · have hw : wordB s[j] = false := by simpa using hw
        obtain rfl := wat_stop hwj hlt hw
        go_wp2_with (go_at_call 124; ((with_reducible refine (isWord_any s[E] _).mono ?_); rintro e w' ⟨rfl, rfl⟩))
        go_ret
        exact ⟨rfl, rfl⟩
    · obtain rfl : j = s.size := by omega
      obtain rfl := wat_end hwj
      go_wp2_with fail
      go_ret
      exact ⟨rfl, rfl⟩
theorem index_eol (l : List UInt8) : (eol l = l.length ∧ Lib.indexByte l 10 = -1) ∨ (eol l < l.length ∧ Lib.indexByte l 10 = (eol l : Int)) := by
  induction l with
  | nil => exact Or.inl ⟨rfl, rfl⟩
  | cons c t ih =>
    by_cases h : c.toNat = 10
    · have hc : (c == 10) = true := by rw [beq_iff_eq]; exact UInt8.toNat_inj.1 h
      exact Or.inr ⟨by rw [eol_nl t h]; simp, by rw [eol_nl t h, Lib.indexByte, if_pos hc]; rfl⟩
    · have hc : (c == 10) = false := by rw [beq_eq_false_iff_ne]; intro e; exact h (by rw [e]; rfl)
      rw [eol_cons t h, Lib.indexByte, hc]
      rcases ih with ⟨h1, h2⟩ | ⟨h1, h2⟩
      · exact Or.inl ⟨by rw [h1]; rfl, by rw [h2]; rfl⟩
      · refine Or.inr ⟨by simp; omega, ?_⟩
        have h3 : ((eol t : Int) == -1) = false := by rw [beq_eq_false_iff_ne]; omega
        rw [h2, h3]; rfl
theorem tail_list (s : ByteArray) (k : Nat) : (s.extract k s.size).data.toList = s.data.toList.drop k := by
  rw [Lib.extract_data, List.take_of_length_le (by rw [List.length_drop]; exact Nat.le_refl _)]
theorem index_at (s : ByteArray) (k : Nat) (v : Int) (hv : Hid (Lib.indexByte (s.data.toList.drop k) 10 = v)) (w : World) :
    Calls Tryz.prog 166 #[.string (s.extract k s.size), .int .u8 10] w fun e w' => e = .returned (.int .i64 v) ∧ w = w' :=
  (Tryz.strings_IndexByte (s.extract k s.size) 10 w).mono fun e w' ⟨h1, h2⟩ => ⟨h1.trans (by rw [tail_list]; exact congrArg (fun v => Ending.returned (.int .i64 v)) hv.out), h2.symm⟩
theorem ret_i64 {a b : Int} (h : a = b) : Ending.returned (.int .i64 a) = .returned (.int .i64 b) := by rw [h]
theorem endOfLine_any (s : ByteArray) (k : Nat) (hk : k ≤ s.size) (hs : s.size ≤ 9223372036854775807) (w : World) :
    Calls Tryz.prog 121 #[.string s, .int .i64 (k : Int)] w fun e w' => e = .returned (.int .i64 ((k + eol (s.data.toList.drop k) : Nat) : Int)) ∧ w = w' := by
  have hlen : (s.data.toList.drop k).length = s.size - k := by rw [List.length_drop]; rfl
  obtain ⟨n, hn⟩ : ∃ n, eol (s.data.toList.drop k) = n := ⟨_, rfl⟩
  rcases index_eol (s.data.toList.drop k) with ⟨h1, h2⟩ | ⟨h1, h2⟩
  all_goals
    rw [hn, hlen] at h1
    rw [hn]
    try rw [hn] at h2
    have H := Lib.hid h2
    clear hn hlen h2
  · have H1 := Lib.hid h1
    clear h1
    go_enter Tryz.func121, Tryz.ntmps121
    go_wp2_with (go_at_call 166; ((with_reducible refine (index_at s k _ H _).mono ?_); rintro e w' ⟨rfl, rfl⟩))
    go_ret
    exact ⟨ret_i64 (by have := H1.out; omega), rfl⟩
  · go_enter Tryz.func121, Tryz.ntmps121
    go_wp2_with (go_at_call 166; ((with_reducible refine (index_at s k _ H _).mono ?_); rintro e w' ⟨rfl, rfl⟩))
    go_ret
    exact ⟨ret_i64 (by omega), rfl⟩

theorem endOfLine_at (s : ByteArray) (k E : Nat) (hk : k ≤ s.size) (hs : s.size ≤ 9223372036854775807) (h : Hid (k + eol (s.data.toList.drop k) = E)) (w : World) :
    Calls Tryz.prog 121 #[.string s, .int .i64 (k : Int)] w fun e w' => e = .returned (.int .i64 (E : Int)) ∧ w = w' := by
  obtain rfl := h.out
  exact endOfLine_any s k hk hs w
/-- From j on the next token starts at E. -/
def SAt (s : ByteArray) (E j : Nat) : Prop := j + skipLen false (s.data.toList.drop j) = E
theorem sat_sep {s : ByteArray} {E j : Nat} (h : SAt s E j) (hj : j < s.size) (hw : sepB s[j] = true) : SAt s E (j + 1) := by
  unfold SAt at *; rw [drop_cons s j hj, skip_sep _ hw] at h; omega
theorem sat_hash {s : ByteArray} {E j : Nat} (h : SAt s E j) (hj : j < s.size) (hw : s[j].toNat = 35) : SAt s E (j + eol (s.data.toList.drop j)) := by
  unfold SAt at *; rw [drop_cons s j hj, skip_hash _ hw, ← drop_cons s j hj, List.drop_drop] at h; omega
theorem sat_stop {s : ByteArray} {E j : Nat} (h : SAt s E j) (hj : j < s.size) (hw : sepB s[j] = false) (h2 : s[j].toNat ≠ 35) : E = j := by
  unfold SAt at *; rw [drop_cons s j hj, skip_zero _ hw h2] at h; omega
theorem sat_end {s : ByteArray} {E : Nat} (h : SAt s E s.size) : E = s.size := by
  unfold SAt at *; rw [drop_end] at h; simp [skipLen] at h; omega
theorem eol_hash {s : ByteArray} {j : Nat} (hj : j < s.size) (hw : s[j].toNat = 35) : 1 ≤ eol (s.data.toList.drop j) ∧ j + eol (s.data.toList.drop j) ≤ s.size := by
  have h1 := eol_le (s.data.toList.drop j)
  rw [List.length_drop, size_len] at h1
  rw [drop_cons s j hj, eol_cons _ (by omega)] at h1 ⊢
  omega
theorem sep_cases (c : UInt8) : ((c.toNat : Int) = 32 ∨ (c.toNat : Int) = 9 ∨ (c.toNat : Int) = 10 ∨ (c.toNat : Int) = 13) ∧ sepB c = true ∨ ((c.toNat : Int) ≠ 32 ∧ (c.toNat : Int) ≠ 9 ∧ (c.toNat : Int) ≠ 10 ∧ (c.toNat : Int) ≠ 13) ∧ sepB c = false := by
  by_cases h : c.toNat = 32 ∨ c.toNat = 9 ∨ c.toNat = 10 ∨ c.toNat = 13
  · exact Or.inl ⟨by omega, by unfold sepB; simp [h, or_assoc]⟩
  · exact Or.inr ⟨by omega, by unfold sepB; simp; omega⟩
theorem beqF {a b : Int} (h : a ≠ b) : (a == b) = false := by rw [beq_eq_false_iff_ne]; exact h
theorem beqT {a b : Int} (h : a = b) : (a == b) = true := by rw [beq_iff_eq]; exact h
theorem skip_any (s : ByteArray) (k : Nat) (hk : k ≤ s.size) (hs : s.size ≤ 9223372036854775807) (w : World) :
    Calls Tryz.prog 68 #[.string s, .int .i64 (k : Int)] w fun e w' => e = .returned (.int .i64 ((k + skipLen false (s.data.toList.drop k) : Nat) : Int)) ∧ w = w' := by
  obtain ⟨E, hE⟩ : ∃ E, k + skipLen false (s.data.toList.drop k) = E := ⟨_, rfl⟩
  have hW : SAt s E k := hE
  rw [hE]
  clear hE
  go_enter Tryz.func68, Tryz.ntmps68
  go_wp2_with fail
  go_loop [1] (fun i => ∃ j : Nat, j ≤ s.size ∧ SAt s E j ∧ i = .int .i64 j) (fun i => s.size - (intOf i).toNat)
  case atStart => exact ⟨k, hk, hW, rfl⟩
  case round =>
    obtain ⟨j, hj, hwj, rfl⟩ := hrel
    clear hW
    by_cases hlt : j < s.size
    · rcases sep_cases s[j] with ⟨h, hw⟩ | ⟨⟨h1, h2, h3, h4⟩, hw⟩
      · have H := sat_sep hwj hlt hw
        clear hw hwj
        rcases h with h | h | h | h
        all_goals
          have b1 := beqT h
          try have b2 : ((s[j].toNat : Int) == 32) = false := beqF (by omega)
          try have b3 : ((s[j].toNat : Int) == 9) = false := beqF (by omega)
          try have b4 : ((s[j].toNat : Int) == 10) = false := beqF (by omega)
          clear h
          go_wp2_with fail
          go_round
          case rel => exact ⟨j + 1, by omega, H, by go_num⟩
          case measure => simp [intOf]; omega
      · have b1 := beqF h1
        have b2 := beqF h2
        have b3 := beqF h3
        have b4 := beqF h4
        clear h1 h2 h3 h4
        by_cases h5 : s[j].toNat = 35
        · have b5 : ((s[j].toNat : Int) == 35) = true := beqT (by omega)
          have H := sat_hash hwj hlt h5
          obtain ⟨g1, g2⟩ := eol_hash hlt h5
          clear h5 hwj hw
          generalize he : j + eol (s.data.toList.drop j) = E' at H g2
          have HE := Lib.hid he
          have g3 : j < E' := by omega
          clear he g1
          go_wp2_with (go_at_call 121; ((with_reducible refine (endOfLine_at s j E' hj hs HE _).mono ?_); rintro e w' ⟨rfl, rfl⟩))
          go_round
          case rel => exact ⟨E', g2, H, rfl⟩
          case measure => simp [intOf]; omega
        · have b5 : ((s[j].toNat : Int) == 35) = false := beqF (by omega)
          obtain rfl := sat_stop hwj hlt hw h5
          clear h5 hw
          go_wp2_with fail
          go_ret
          exact ⟨rfl, rfl⟩
    · obtain rfl : j = s.size := by omega
      obtain rfl := sat_end hwj
      go_wp2_with fail
      go_ret
      exact ⟨rfl, rfl⟩
end Go.Proofs.YtgiggkfnpbgkpaaGreatDoor
/- A listed table of strings: its cells out of a row's own condition; that it stands while nothing below a block turns. -/
namespace Go.Proofs.YtgiggkfnpbgkpaaGreatDoor.FR
open Go Go.RowKit Go.WideShapes Go.ChangeShapes

def strData {H : Type} (ss : List (List UInt8)) : DataW H := .agg (ss.map fun s => .lit (.string s))
/-- An array of strings that reads as the table holds the table's strings, cell for cell. -/
theorem cells_of_strs {H : Type} {enc : TypeId × Value → H} {P : Program} {w : World} {base : Nat} {sp : Nat → Bool} {held : Bool} {fuel : Nat} {t e : TypeId} {n : Nat} {cs : List Value} {ss : List (List UInt8)} {p : List MemPlace}
    (ht : P.underlying t = some (.array n e)) (he : P.underlying e = some .string) (hce : P.cellsOf e = 1) (hct : P.cellsOf t = n)
    (h : DataW.trod enc P w base sp held fuel t cs = some (strData ss, p)) : cs = ss.map fun s => Value.string ⟨s.toArray⟩ := by
  cases fuel with
  | zero => simp [DataW.trod] at h
  | succ fuel =>
    simp only [DataW.trod, ht, hce, hct, Nat.mul_one] at h
    split at h
    · rename_i hl
      obtain ⟨xs, hm, hx⟩ := Option.map_eq_some_iff.1 h
      have hxs : xs.map (·.1) = ss.map fun s => (DataW.lit (.string s) : DataW H) := by
        have := congrArg Prod.fst hx
        simpa [strData] using this
      have hxl : xs.length = n := by simpa using Lib.mapM_length hm
      have hzl : ss.length = n := by
        have := congrArg List.length hxs
        simp at this
        omega
      apply List.ext_getElem?
      intro i
      by_cases hi : i < n
      · obtain ⟨b, hb, hf⟩ := Lib.mapM_at hm i i (by simp [hi])
        obtain ⟨z, hc, rfl, _⟩ := DataW.trod_string he hf
        have h1 : cs[i]? = some (.string z) := by
          have := congrArg (·[0]?) hc
          simpa [List.getElem?_take, List.getElem?_drop] using this
        have h2 : (xs.map (·.1))[i]? = some (DataW.lit (.string z.data.toList) : DataW H) := by simp [hb]
        rw [hxs] at h2
        simp only [List.getElem?_map, Option.map_eq_some_iff, DataW.lit.injEq, Lit.string.injEq] at h2
        obtain ⟨z', hz', rfl⟩ := h2
        rw [h1, List.getElem?_map, hz']
        rfl
      · rw [List.getElem?_eq_none (by omega), List.getElem?_eq_none (by simp; omega)]
    · cases h
theorem strs_of_vars {P : Program} {W : World} {name : String} {ss : List (List UInt8)} {g : Nat} {t e : TypeId} {n : Nat}
    (hg : P.globalNamed name = some g) (hty : (P.globals[g]?).map (·.type) = some t) (ht : P.underlying t = some (.array n e)) (he : P.underlying e = some .string) (hce : P.cellsOf e = 1) (hct : P.cellsOf t = n) :
    ∀ {l : List (String × DataW Unit)} {ps : List MemPlace}, DataW.LaidVars P W l ps → (name, strData ss) ∈ l → W.var? P name = some (ss.map fun s => Value.string ⟨s.toArray⟩).toArray
  | [], _, _, h => by cases h
  | (n', d') :: r, _, h, hm => by
    obtain ⟨g', t', cs, fuel, p, q, hg', ht', hvar, hd, hr, _⟩ := h
    rcases List.mem_cons.1 hm with h1 | h1
    · obtain ⟨rfl, rfl⟩ := Prod.mk.inj h1
      obtain rfl := Option.some.inj (hg.symm.trans hg')
      obtain rfl := Option.some.inj (hty.symm.trans ht')
      rw [hvar, ← cells_of_strs ht he hce hct hd]
    · exact strs_of_vars hg hty ht he hce hct hr h1
/-- Block g holds just these cells, and below block B nothing will turn. -/
def TabAt (g : Nat) (cs : Array Value) (B : Nat) (w : World) : Prop := g < B ∧ ∃ t fr, w.heap[g]? = some (.cells cs t fr)
theorem TabAt.on {g : Nat} {cs : Array Value} {B : Nat} {w w' : World} (h : TabAt g cs B w) (hb : Below B w w') : TabAt g cs B w' := by
  obtain ⟨hg, t, fr, h⟩ := h
  exact ⟨hg, t, fr, (hb.block g hg).trans h⟩
theorem TabAt.up {g : Nat} {cs : Array Value} {B B' : Nat} {w : World} (h : TabAt g cs B w) (hb : B ≤ B') : TabAt g cs B' w := ⟨Nat.lt_of_lt_of_le h.1 hb, h.2⟩
theorem tabAt_of_var {P : Program} {w : World} {n : String} {g : Nat} {cs : Array Value} (hg : P.globalNamed n = some g) (h : w.var? P n = some cs) : TabAt g cs w.heap.size w := by
  simp only [World.var?, hg, Option.bind_some] at h
  cases hh : w.heap[g]? with
  | none => rw [hh] at h; cases h
  | some o =>
    rw [hh] at h
    cases o with
    | cells c t fr =>
      simp only [Option.some.injEq] at h
      subst h
      refine ⟨?_, t, fr, hh⟩
      by_cases hlt : g < w.heap.size
      · exact hlt
      · rw [Array.getElem?_eq_none (by omega)] at hh; cases hh
    | _ => cases h
end Go.Proofs.YtgiggkfnpbgkpaaGreatDoor.FR
/- Stage 2: the walks of the lexer's isNumber and symbolLength. -/
namespace Go.Proofs.YtgiggkfnpbgkpaaGreatDoor
open Go.RowKit (wrap64 intOf)
open Go Go.RowKit WM LX

theorem fold_from (l : List UInt8) (n : Nat) : l.foldl nstep n = n * 10 ^ l.length + nfold l := by
  induction l generalizing n with
  | nil => simp [nfold]
  | cons c t ih =>
    have e : nfold (c :: t) = (nstep 0 c) * 10 ^ t.length + nfold t := by unfold nfold; rw [List.foldl_cons]; exact ih _
    have e0 : nstep 0 c = c.toNat - 48 := by unfold nstep; omega
    rw [List.foldl_cons, ih, e, e0, List.length_cons, Nat.pow_succ]
    unfold nstep
    have h1 : (10 * n + (c.toNat - 48)) * 10 ^ t.length = n * (10 ^ t.length * 10) + (c.toNat - 48) * 10 ^ t.length := by
      rw [Nat.add_mul]; congr 1; rw [Nat.mul_comm 10 n, Nat.mul_assoc, Nat.mul_comm 10]
    rw [h1]; omega
theorem nfold_cons (c : UInt8) (t : List UInt8) : nfold (c :: t) = (c.toNat - 48) * 10 ^ t.length + nfold t := by
  have e0 : nstep 0 c = c.toNat - 48 := by unfold nstep; omega
  show (c :: t).foldl nstep 0 = _
  rw [List.foldl_cons, fold_from, e0]
theorem lex_num (a : List UInt8) : ∀ b : List UInt8, a.length = b.length → (∀ c ∈ a, 48 ≤ c.toNat ∧ c.toNat ≤ 57) → (∀ c ∈ b, 48 ≤ c.toNat ∧ c.toNat ≤ 57) →
    (Op.bytesLess a b || a == b) = decide (nfold a ≤ nfold b) := by
  induction a with
  | nil =>
    intro b hl _ _
    cases b with
    | nil => rfl
    | cons _ _ => cases hl
  | cons x a ih =>
    intro b hl ha hb
    cases b with
    | nil => cases hl
    | cons y b =>
      have hl' : a.length = b.length := by simpa using hl
      have hx := ha x (by simp)
      have hy := hb y (by simp)
      have hA := nfold_lt a (fun c hc => (ha c (by simp [hc])).2)
      have hB := nfold_lt b (fun c hc => (hb c (by simp [hc])).2)
      have hi := ih b hl' (fun c hc => ha c (by simp [hc])) (fun c hc => hb c (by simp [hc]))
      rw [nfold_cons, nfold_cons, hl'] 
      rw [hl'] at hA
      generalize 10 ^ b.length = p at hA hB ⊢
      generalize nfold a = na at hA hi ⊢
      generalize nfold b = nb at hB hi ⊢
      have hlt : x < y ↔ x.toNat < y.toNat := UInt8.lt_iff_toNat_lt
      unfold Op.bytesLess
      rcases Nat.lt_trichotomy x.toNat y.toNat with h | h | h
      · have e : (x.toNat - 48 + 1) * p ≤ (y.toNat - 48) * p := Nat.mul_le_mul_right p (by omega)
        rw [Nat.add_mul] at e
        have h1 : decide (x < y) = true := decide_eq_true (hlt.2 h)
        rw [h1, Bool.true_or, Bool.true_or, decide_eq_true (by omega)]
      · have hxy : x = y := UInt8.toNat_inj.1 h
        subst hxy
        have h1 : decide (x < x) = false := decide_eq_false (fun hh => absurd (hlt.1 hh) (by omega))
        rw [h1, Bool.false_or, beq_self_eq_true, Bool.true_and]
        have h2 : (x :: a == x :: b) = (a == b) := by simp
        rw [h2, hi]
        simp
      · have e : (y.toNat - 48 + 1) * p ≤ (x.toNat - 48) * p := Nat.mul_le_mul_right p (by omega)
        rw [Nat.add_mul] at e
        have h1 : decide (x < y) = false := decide_eq_false (fun hh => absurd (hlt.1 hh) (by omega))
        have h2 : (x == y) = false := by rw [beq_eq_false_iff_ne]; intro hh; subst hh; omega
        have h3 : (x :: a == y :: b) = false := by rw [beq_eq_false_iff_ne]; intro hh; injection hh with hh _; subst hh; omega
        rw [h1, h2, h3, decide_eq_false (by omega)]; rfl
def bigNum : List UInt8 := [57, 50, 50, 51, 51, 55, 50, 48, 51, 54, 56, 53, 52, 55, 55, 53, 56, 48, 56]
theorem bigNum_val : nfold bigNum = most63 := by decide +kernel
theorem bigNum_dig : ∀ c ∈ bigNum, 48 ≤ c.toNat ∧ c.toNat ≤ 57 := by decide +kernel
/-- All digits up to k. -/
def DigTo (s : ByteArray) (k : Nat) : Prop := ∀ i, i < k → digB (s.data.toList.getD i 0) = true
theorem digTo_succ {s : ByteArray} {k : Nat} (h : DigTo s k) (hk : k < s.size) (hd : digB s[k] = true) : DigTo s (k + 1) := fun i hi => by
  by_cases e : i = k
  · subst e; rw [getD_at s i hk]; exact hd
  · exact h i (by omega)
theorem digB_le {c : UInt8} (h : digB c = true) : 48 ≤ c.toNat ∧ c.toNat ≤ 57 := by
  unfold digB at h; simpa using h
theorem okc_eq (l : List UInt8) (i : Nat) (h : digB (l.getD i 0) = true) : okc l i = (!(i == 1 && l.getD 0 0 == 48) && decide (i ≤ 18)) := by
  unfold okc; rw [h, Bool.true_and]
theorem num_nodig {s : ByteArray} {j : Nat} (hj : j < s.size) (h : digB s[j] = false) : numB s.data.toList most63 = false := by
  refine numB_bad _ _ j hj ?_
  unfold okc; rw [getD_at s j hj, h]; rfl
theorem list_ne {s : ByteArray} (h : 0 < s.size) : s.data.toList.isEmpty = false := by
  cases hh : s.data.toList with
  | nil => have h2 := size_len s; rw [hh] at h2; simp at h2; omega
  | cons _ _ => rfl
theorem dig_all {s : ByteArray} (h : DigTo s s.size) : ∀ c ∈ s.data.toList, 48 ≤ c.toNat ∧ c.toNat ≤ 57 := fun c hc => by
  obtain ⟨i, hi, rfl⟩ := List.mem_iff_getElem.1 hc
  have := digB_le (h i hi)
  rw [List.getD_eq_getElem?_getD, List.getElem?_eq_getElem hi] at this
  exact this
theorem num_zero {s : ByteArray} (hd : DigTo s s.size) (h0 : 0 < s.size) (h : s[0].toNat = 48) : numB s.data.toList most63 = decide (s.size = 1) := by
  have h48 : s.data.toList.getD 0 0 = 48 := by rw [getD_at s 0 h0]; exact UInt8.toNat_inj.1 h
  by_cases h1 : s.size = 1
  · have ha : allOk s.data.toList = true := allOk_of _ (fun i hi => by
      have : i = 0 := by rw [size_len] at hi; omega
      subst this
      rw [okc_eq _ _ (hd 0 h0)]; rfl)
    have hn : s.data.toList = [48] := by
      cases hh : s.data.toList with
      | nil => have := list_ne h0; rw [hh] at this; cases this
      | cons c t =>
        rw [hh] at h48
        have hl := congrArg List.length hh
        rw [size_len] at hl
        have ht : t = [] := List.eq_nil_of_length_eq_zero (by simp at hl; omega)
        subst ht
        have : c = 48 := h48
        rw [this]
    unfold numB
    rw [ha, list_ne h0, decide_eq_true h1, hn]; rfl
  · rw [decide_eq_false h1]
    refine numB_bad _ _ 1 (by rw [size_len]; omega) ?_
    rw [okc_eq _ _ (hd 1 (by omega)), h48]; rfl
theorem num_big {s : ByteArray} (hd : DigTo s s.size) (h0 : 0 < s.size) (h : s[0].toNat ≠ 48) : numB s.data.toList most63 = (if s.size = 19 then decide (nfold s.data.toList ≤ most63) else decide (s.size < 19)) := by
  have h48 : (s.data.toList.getD 0 0 == 48) = false := by rw [getD_at s 0 h0, beq_eq_false_iff_ne]; intro e; exact h (by rw [e]; rfl)
  have hok : ∀ i, i < s.size → okc s.data.toList i = decide (i ≤ 18) := fun i hi => by
    rw [okc_eq _ _ (hd i hi), h48, Bool.and_false]; rfl
  have hlt := nfold_lt s.data.toList (fun c hc => (dig_all hd c hc).2)
  rw [size_len] at hlt
  by_cases h1 : s.size ≤ 19
  · have ha : allOk s.data.toList = true := allOk_of _ (fun i hi => by rw [size_len] at hi; rw [hok i hi]; exact decide_eq_true (by omega))
    unfold numB
    rw [ha, list_ne h0]
    by_cases h2 : s.size = 19
    · rw [if_pos h2]; rfl
    · rw [if_neg h2, decide_eq_true (by omega : s.size < 19)]
      have : nfold s.data.toList < 10 ^ 18 := Nat.lt_of_lt_of_le hlt (Nat.pow_le_pow_right (by decide) (by omega))
      rw [decide_eq_true (by unfold most63; omega)]; rfl
  · rw [if_neg (by omega), decide_eq_false (by omega : ¬ s.size < 19)]
    refine numB_bad _ _ 19 (by rw [size_len]; omega) ?_
    rw [hok 19 (by omega)]; rfl
theorem num_19 {s : ByteArray} (hd : DigTo s s.size) (h : s.size = 19) : (Op.bytesLess s.data.toList bigNum || s.data.toList == bigNum) = decide (nfold s.data.toList ≤ most63) := by
  rw [lex_num _ _ (by rw [size_len, h]; rfl) (dig_all hd) bigNum_dig, bigNum_val]
theorem lex_list (s : ByteArray) : (Op.bytesLess s.toList [57, 50, 50, 51, 51, 55, 50, 48, 51, 54, 56, 53, 52, 55, 55, 53, 56, 48, 56] || s.toList == [57, 50, 50, 51, 51, 55, 50, 48, 51, 54, 56, 53, 52, 55, 55, 53, 56, 48, 56]) = (Op.bytesLess s.data.toList bigNum || s.data.toList == bigNum) := by
  rw [Lib.toList_data]; rfl
theorem isNumber_any (s : ByteArray) (h0 : 0 < s.size) (hs : s.size ≤ 9223372036854775807) (w : World) :
    Calls Tryz.prog 168 #[.string s] w (IsB (numB s.data.toList most63) w) := by
  go_enter Tryz.func168, Tryz.ntmps168
  go_wp2_with fail
  go_loop [6] (fun i => ∃ j : Nat, j ≤ s.size ∧ DigTo s j ∧ i = .int .i64 j) (fun i => s.size - (intOf i).toNat)
  case atStart => exact ⟨0, Nat.zero_le _, fun i hi => absurd hi (by omega), rfl⟩
  case round =>
    obtain ⟨j, hj, hd, rfl⟩ := hrel
    have HD := Lib.hid hd
    clear hd
    by_cases hlt : j < s.size
    · by_cases hw : digB s[j] = true
      · go_wp2_with (go_at_call 122; ((with_reducible refine (isDigit_any s[j] _).mono ?_); rintro e w' ⟨rfl, rfl⟩))
        go_round
        case rel => exact ⟨j + 1, by omega, digTo_succ HD.out hlt hw, by go_num⟩
        case measure => simp [intOf]; omega
      · have hw : digB s[j] = false := by simpa using hw
        have H := Lib.hid (num_nodig hlt hw)
        go_wp2_with (go_at_call 122; ((with_reducible refine (isDigit_any s[j] _).mono ?_); rintro e w' ⟨rfl, rfl⟩))
        go_ret
        exact isB H.out.symm
    · obtain rfl : j = s.size := by omega
      by_cases h1 : s[0].toNat = 48
      · have H := Lib.hid (num_zero HD.out h0 h1)
        have b1 : ((s[0].toNat : Int) == 48) = true := beqT (by omega)
        clear h1
        go_wp2_with fail
        go_ret
        exact isB (by rw [H.out]; first | rfl | (rw [Bool.eq_iff_iff]; simp; omega))
      · have H := Lib.hid (num_big HD.out h0 h1)
        have b1 : ((s[0].toNat : Int) == 48) = false := beqF (by omega)
        clear h1
        by_cases h2 : s.size = 19
        · have H2 := Lib.hid (num_19 HD.out h2)
          have b2 : ((s.size : Int) == 19) = true := beqT (by omega)
          have b3 : ((s.size : Int) != 19) = false := by rw [bne, b2]; rfl
          have H3 := Lib.hid h2
          clear h2
          go_wp2_with fail
          go_ret
          exact isB (by rw [H.out, if_pos H3.out, ← H2.out, ← lex_list])
        · have b2 : ((s.size : Int) == 19) = false := beqF (by omega)
          have b3 : ((s.size : Int) != 19) = true := by rw [bne, b2]; rfl
          have H3 := Lib.hid h2
          clear h2
          go_wp2_with fail
          go_ret
          exact isB (by rw [H.out, if_neg H3.out]; first | rfl | (rw [Bool.eq_iff_iff]; simp; omega))
end Go.Proofs.YtgiggkfnpbgkpaaGreatDoor
/- Stage 2: the walk of the lexer's symbolLength. -/
namespace Go.Proofs.YtgiggkfnpbgkpaaGreatDoor
open Go.RowKit (wrap64 intOf)
open Go Go.RowKit WM LX

def NoLong (l : List UInt8) (k : Nat) : Prop := ∀ j, j < k → (longs.getD j []).isPrefixOf l = false
theorem noLong_succ {l : List UInt8} {k : Nat} (h : NoLong l k) (hk : (longs.getD k []).isPrefixOf l = false) : NoLong l (k + 1) := fun j hj => by
  by_cases e : j = k
  · subst e; exact hk
  · exact h j (by omega)
theorem long_first {l : List UInt8} {k : Nat} (hk : k < 7) (h : NoLong l k) (hp : (longs.getD k []).isPrefixOf l = true) : longLen l = (longs.getD k []).length := by
  have hg : longs[k]? = some (longs.getD k []) := by
    rw [List.getD_eq_getElem?_getD]
    have : k < longs.length := hk
    rw [List.getElem?_eq_getElem this]; rfl
  have hf : longs.find? (fun p => p.isPrefixOf l) = some (longs.getD k []) := by
    rw [List.find?_eq_some_iff_getElem]
    refine ⟨hp, k, hk, by rw [List.getElem?_eq_getElem hk] at hg; exact Option.some.inj hg, fun j hj => ?_⟩
    have := h j hj
    have hj7 : j < longs.length := Nat.lt_trans hj hk
    rw [List.getD_eq_getElem?_getD, List.getElem?_eq_getElem hj7] at this
    simpa using this
  unfold longLen
  rw [hf]
theorem long_none {l : List UInt8} (h : NoLong l 7) : longLen l = 0 := by
  have hf : longs.find? (fun p => p.isPrefixOf l) = none := by
    rw [List.find?_eq_none]
    intro p hp
    obtain ⟨i, hi, rfl⟩ := List.mem_iff_getElem.1 hp
    have := h i hi
    rw [List.getD_eq_getElem?_getD, List.getElem?_eq_getElem hi] at this
    intro hc
    have e : longs[i].isPrefixOf l = false := this
    rw [e] at hc
    cases hc
  unfold longLen
  rw [hf]
theorem sym_long {l : List UInt8} {k n : Nat} (hk : k < 7) (h : NoLong l k) (hp : (longs.getD k []).isPrefixOf l = true) (hn : (longs.getD k []).length = n + 1) : symLen l = n + 1 := by
  unfold symLen
  rw [long_first hk h hp, hn, if_neg (by omega)]
theorem sym_none {l : List UInt8} (h : NoLong l 7) : symLen l = if shorts.contains (l.headD 0) then 1 else 0 := by
  unfold symLen
  rw [long_none h, if_pos rfl]
theorem indexByte_mem (l : List UInt8) (c : UInt8) : (l.contains c = true ∧ 0 ≤ Lib.indexByte l c) ∨ (l.contains c = false ∧ Lib.indexByte l c = -1) := by
  induction l with
  | nil => exact Or.inr ⟨rfl, rfl⟩
  | cons b t ih =>
    rw [Lib.indexByte, List.contains_cons]
    by_cases h : b = c
    · subst h
      exact Or.inl ⟨by simp, by rw [if_pos (beq_self_eq_true b)]; exact Int.le_refl _⟩
    · have h1 : (b == c) = false := by rw [beq_eq_false_iff_ne]; exact h
      have h2 : (c == b) = false := by rw [beq_eq_false_iff_ne]; exact fun e => h e.symm
      rw [h1, h2, Bool.false_or]
      rcases ih with ⟨i1, i2⟩ | ⟨i1, i2⟩
      · have h3 : (Lib.indexByte t c == -1) = false := by rw [beq_eq_false_iff_ne]; omega
        exact Or.inl ⟨i1, by rw [h3]; simp; omega⟩
      · exact Or.inr ⟨i1, by rw [i2]; rfl⟩
abbrev longCells : Array Value := #[.string ⟨#[62, 62, 62]⟩, .string ⟨#[60, 60]⟩, .string ⟨#[62, 62]⟩, .string ⟨#[60, 61]⟩, .string ⟨#[62, 61]⟩, .string ⟨#[61, 61]⟩, .string ⟨#[33, 61]⟩]
abbrev Tab (B : Nat) (w : World) : Prop := FR.TabAt 1 longCells B w
theorem hasP_at (s p : ByteArray) (b : Bool) (h : Hid (p.data.toList.isPrefixOf s.data.toList = b)) (w : World) :
    Calls Tryz.prog 201 #[.string s, .string p] w (IsB b w) :=
  (Tryz.strings_HasPrefix s p w).mono fun _ _ ⟨h1, h2⟩ => ⟨h1.trans (congrArg (fun v => Ending.returned (.bool v)) h.out), h2.symm⟩
theorem short_at (c : UInt8) (v : Int) (h : Hid (Lib.indexByte shorts c = v)) (w : World) :
    Calls Tryz.prog 166 #[.string ⟨#[43, 45, 42, 47, 37, 38, 124, 94, 126, 33, 60, 62, 61, 63, 58, 59, 44, 40, 41, 123, 125, 91, 93]⟩, .int .u8 (c.toNat : Int)] w fun e w' => e = .returned (.int .i64 v) ∧ w = w' :=
  (Tryz.strings_IndexByte _ (c.toNat : Int) w).mono fun e w' ⟨h1, h2⟩ => ⟨h1.trans (congrArg (fun v => Ending.returned (.int .i64 v)) (by
    rw [show (c.toNat : Int).toNat.toUInt8 = c by rw [Int.toNat_natCast]; exact UInt8.ofNat_toNat]; exact h.out)), h2.symm⟩
theorem ix0 (w : World) : (Instr.index 203 (.agg longCells) (.int .i64 0)).run Tryz.prog w = .ok (.string ⟨#[62, 62, 62]⟩) w := by kernel_rfl
theorem ix1 (w : World) : (Instr.index 203 (.agg longCells) (.int .i64 1)).run Tryz.prog w = .ok (.string ⟨#[60, 60]⟩) w := by kernel_rfl
theorem ix2 (w : World) : (Instr.index 203 (.agg longCells) (.int .i64 2)).run Tryz.prog w = .ok (.string ⟨#[62, 62]⟩) w := by kernel_rfl
theorem ix3 (w : World) : (Instr.index 203 (.agg longCells) (.int .i64 3)).run Tryz.prog w = .ok (.string ⟨#[60, 61]⟩) w := by kernel_rfl
theorem ix4 (w : World) : (Instr.index 203 (.agg longCells) (.int .i64 4)).run Tryz.prog w = .ok (.string ⟨#[62, 61]⟩) w := by kernel_rfl
theorem ix5 (w : World) : (Instr.index 203 (.agg longCells) (.int .i64 5)).run Tryz.prog w = .ok (.string ⟨#[61, 61]⟩) w := by kernel_rfl
theorem ix6 (w : World) : (Instr.index 203 (.agg longCells) (.int .i64 6)).run Tryz.prog w = .ok (.string ⟨#[33, 61]⟩) w := by kernel_rfl
theorem longs_at (k : Nat) (hk : k < 7) : ∃ p : ByteArray, (∀ w : World, (Instr.index 203 (.agg longCells) (.int .i64 (k : Int))).run Tryz.prog w = .ok (.string p) w) ∧ p.data.toList = longs.getD k [] := by
  have hc : k = 0 ∨ k = 1 ∨ k = 2 ∨ k = 3 ∨ k = 4 ∨ k = 5 ∨ k = 6 := by omega
  rcases hc with rfl | rfl | rfl | rfl | rfl | rfl | rfl
  · exact ⟨_, ix0, rfl⟩
  · exact ⟨_, ix1, rfl⟩
  · exact ⟨_, ix2, rfl⟩
  · exact ⟨_, ix3, rfl⟩
  · exact ⟨_, ix4, rfl⟩
  · exact ⟨_, ix5, rfl⟩
  · exact ⟨_, ix6, rfl⟩
theorem longs_size (k : Nat) (hk : k < 7) : 2 ≤ (longs.getD k []).length ∧ (longs.getD k []).length ≤ 3 := by
  have hc : k = 0 ∨ k = 1 ∨ k = 2 ∨ k = 3 ∨ k = 4 ∨ k = 5 ∨ k = 6 := by omega
  rcases hc with rfl | rfl | rfl | rfl | rfl | rfl | rfl <;> decide
theorem symbolLength_any (s : ByteArray) (h0 : 0 < s.size) (B : Nat) (w : World) (ht : Tab B w) :
    Calls Tryz.prog 169 #[.string s] w fun e w' => e = .returned (.int .i64 (symLen s.data.toList : Int)) ∧ w = w' := by
  obtain ⟨_, tt, fr, hg⟩ := ht
  have HG := Lib.hid hg
  clear hg
  go_enter Tryz.func169, Tryz.ntmps169
  go_wp2_with (refine wpList_load_row rfl 203 _ rfl 1 rfl tt _ fr _ HG.out Tryz.underlying203 rfl (by kernel_rfl) ?_)
  go_loop [6] (fun i => ∃ j : Nat, j ≤ 7 ∧ NoLong s.data.toList j ∧ i = .int .i64 j) (fun i => 7 - (intOf i).toNat)
  case atStart => exact ⟨0, Nat.zero_le _, fun i hi => absurd hi (by omega), rfl⟩
  case round =>
    obtain ⟨j, hj, hd, rfl⟩ := hrel
    have HD := Lib.hid hd
    clear hd
    by_cases hlt : j < 7
    · obtain ⟨p, hix, hp⟩ := longs_at j hlt
      obtain ⟨hs1, hs2⟩ := longs_size j hlt
      have hps : p.size = (longs.getD j []).length := by rw [← hp]; rfl
      rw [← hps] at hs1 hs2
      have HPS := Lib.hid hps
      have HP := Lib.hid hp
      obtain ⟨b, hb⟩ : ∃ b, p.data.toList.isPrefixOf s.data.toList = b := ⟨_, rfl⟩
      have HB := Lib.hid hb
      clear hp hb hps
      cases b
      · go_wp2_with (go_at_call 201; ((with_reducible refine (hasP_at s p _ HB _).mono ?_); rintro e w' ⟨rfl, rfl⟩))
        go_round
        case rel => exact ⟨j + 1, by omega, noLong_succ HD.out (by rw [← HP.out]; exact HB.out), by go_num⟩
        case measure => simp [intOf]; omega
      · go_wp2_with (go_at_call 201; ((with_reducible refine (hasP_at s p _ HB _).mono ?_); rintro e w' ⟨rfl, rfl⟩))
        go_ret
        refine ⟨ret_i64 ?_, rfl⟩
        have e := long_first hlt HD.out (by rw [← HP.out]; exact HB.out)
        rw [← HPS.out] at e
        unfold symLen
        rw [e, if_neg (by omega)]
    · obtain rfl : j = 7 := by omega
      have hsn := sym_none HD.out
      have hh : s.data.toList.headD 0 = s[0] := by
        have := drop_cons s 0 h0
        rw [List.drop_zero] at this
        rw [this]; rfl
      rw [hh] at hsn
      rcases indexByte_mem shorts s[0] with ⟨i1, i2⟩ | ⟨i1, i2⟩
      · rw [i1, if_pos rfl] at hsn
        obtain ⟨v, hv⟩ : ∃ v, Lib.indexByte shorts s[0] = v := ⟨_, rfl⟩
        rw [hv] at i2
        have HV := Lib.hid hv
        have HS := Lib.hid hsn
        clear hv hsn i1 hh
        go_wp2_with (go_at_call 166; ((with_reducible refine (short_at s[0] v HV _).mono ?_); rintro e w' ⟨rfl, rfl⟩))
        go_ret
        exact ⟨ret_i64 (by rw [HS.out]; rfl), rfl⟩
      · rw [i1, if_neg (by decide)] at hsn
        have HV := Lib.hid i2
        have HS := Lib.hid hsn
        clear i2 hsn i1 hh
        go_wp2_with (go_at_call 166; ((with_reducible refine (short_at s[0] (-1) HV _).mono ?_); rintro e w' ⟨rfl, rfl⟩))
        go_ret
        exact ⟨ret_i64 (by rw [HS.out]; rfl), rfl⟩
end Go.Proofs.YtgiggkfnpbgkpaaGreatDoor
/- Stage 2: the walks of the lexer's scanName, scanNumber, scanSymbol, scanToken. -/
namespace Go.Proofs.YtgiggkfnpbgkpaaGreatDoor
open Go.RowKit (wrap64 intOf)
open Go Go.RowKit WM LX

def RetB (v : Value) (B : Nat) (w : World) (e : Ending) (w' : World) : Prop := e = .returned v ∧ Below B w w'
theorem retB {v v' : Value} {B : Nat} {w w' : World} (h : v' = v) (hb : Below B w w') : RetB v B w (.returned v') w' := ⟨by rw [h], hb⟩
abbrev tkV (kind : Int) (t : ByteArray) (pos : Int) : Value := .agg #[.int .i64 kind, .string t, .int .i64 pos]
abbrev tkRet (kind : Int) (t : ByteArray) (pos why : Int) : Value := .tuple #[tkV kind t pos, .int .i64 why]
theorem wordAt_at (s t : ByteArray) (k : Nat) (hk : k ≤ s.size) (hs : s.size ≤ 9223372036854775807) (ht : Hid (s.extract k (k + wlen (s.data.toList.drop k)) = t)) (w : World) :
    Calls Tryz.prog 167 #[.string s, .int .i64 (k : Int)] w fun e w' => e = .returned (.string t) ∧ w = w' := by
  obtain rfl := ht.out
  exact wordAt_any s k hk hs w
theorem scanName_ok (s t : ByteArray) (k : Nat) (hk : k < s.size) (hs : s.size ≤ 9223372036854775807) (ht : Hid (s.extract k (k + wlen (s.data.toList.drop k)) = t)) (hn : t.size ≤ 16) (B : Nat) (w : World) (hB : B ≤ w.heap.size) :
    Calls Tryz.prog 125 #[.string s, .int .i64 (k : Int)] w (RetB (tkRet 1 t k 0) B w) := by
  go_enter Tryz.func125, Tryz.ntmps125
  go_wp2_with (go_at_call 167; ((with_reducible refine (wordAt_at s t k (Nat.le_of_lt hk) hs ht _).mono ?_); rintro e w' ⟨rfl, rfl⟩))
  exact bodyPost_ret (v := tkRet 1 t k 0) (by simp [results, Tryz.results125, go_sem]) rfl (retB rfl ((Below.refl _ _).alloc hB _))
theorem scanName_err (s t : ByteArray) (k : Nat) (hk : k < s.size) (hs : s.size ≤ 9223372036854775807) (ht : Hid (s.extract k (k + wlen (s.data.toList.drop k)) = t)) (hn : 16 < t.size) (B : Nat) (w : World) (hB : B ≤ w.heap.size) :
    Calls Tryz.prog 125 #[.string s, .int .i64 (k : Int)] w (RetB (tkRet 0 ⟨#[]⟩ 0 6) B w) := by
  go_enter Tryz.func125, Tryz.ntmps125
  go_wp2_with (go_at_call 167; ((with_reducible refine (wordAt_at s t k (Nat.le_of_lt hk) hs ht _).mono ?_); rintro e w' ⟨rfl, rfl⟩))
  exact bodyPost_ret (v := tkRet 0 ⟨#[]⟩ 0 6) (by simp [results, Tryz.results125, go_sem]) rfl (retB rfl ((Below.refl _ _).alloc hB _))
theorem isNumber_at (t : ByteArray) (b : Bool) (h0 : 0 < t.size) (hs : t.size ≤ 9223372036854775807) (h : Hid (numB t.data.toList most63 = b)) (w : World) :
    Calls Tryz.prog 168 #[.string t] w (IsB b w) := by
  obtain rfl := h.out
  exact isNumber_any t h0 hs w
theorem scanNumber_ok (s t : ByteArray) (k : Nat) (hk : k < s.size) (hs : s.size ≤ 9223372036854775807) (ht : Hid (s.extract k (k + wlen (s.data.toList.drop k)) = t)) (h0 : 0 < t.size) (hts : t.size ≤ 9223372036854775807) (hn : Hid (numB t.data.toList most63 = true)) (B : Nat) (w : World) (hB : B ≤ w.heap.size) :
    Calls Tryz.prog 123 #[.string s, .int .i64 (k : Int)] w (RetB (tkRet 2 t k 0) B w) := by
  go_enter Tryz.func123, Tryz.ntmps123
  go_wp2_with (first | (go_at_call 167; ((with_reducible refine (wordAt_at s t k (Nat.le_of_lt hk) hs ht _).mono ?_); rintro e w' ⟨rfl, rfl⟩)) | (go_at_call 168; ((with_reducible refine (isNumber_at t true h0 hts hn _).mono ?_); rintro e w' ⟨rfl, rfl⟩)))
  exact bodyPost_ret (v := tkRet 2 t k 0) (by simp [results, Tryz.results123, go_sem]) rfl (retB rfl ((Below.refl _ _).alloc hB _))
theorem scanNumber_err (s t : ByteArray) (k : Nat) (hk : k < s.size) (hs : s.size ≤ 9223372036854775807) (ht : Hid (s.extract k (k + wlen (s.data.toList.drop k)) = t)) (h0 : 0 < t.size) (hts : t.size ≤ 9223372036854775807) (hn : Hid (numB t.data.toList most63 = false)) (B : Nat) (w : World) (hB : B ≤ w.heap.size) :
    Calls Tryz.prog 123 #[.string s, .int .i64 (k : Int)] w (RetB (tkRet 0 ⟨#[]⟩ 0 2) B w) := by
  go_enter Tryz.func123, Tryz.ntmps123
  go_wp2_with (first | (go_at_call 167; ((with_reducible refine (wordAt_at s t k (Nat.le_of_lt hk) hs ht _).mono ?_); rintro e w' ⟨rfl, rfl⟩)) | (go_at_call 168; ((with_reducible refine (isNumber_at t false h0 hts hn _).mono ?_); rintro e w' ⟨rfl, rfl⟩)))
  exact bodyPost_ret (v := tkRet 0 ⟨#[]⟩ 0 2) (by simp [results, Tryz.results123, go_sem]) rfl (retB rfl ((Below.refl _ _).alloc hB _))
theorem symLen_at (s : ByteArray) (k n : Nat) (hk : k < s.size) (h : Hid (symLen (s.data.toList.drop k) = n)) (B : Nat) (w : World) (ht : Tab B w) :
    Calls Tryz.prog 169 #[.string (s.extract k s.size)] w fun e w' => e = .returned (.int .i64 (n : Int)) ∧ w = w' := by
  obtain rfl := h.out
  have := symbolLength_any (s.extract k s.size) (by rw [← size_len, tail_list, List.length_drop, size_len]; omega) B w ht
  rwa [tail_list] at this
set_option maxRecDepth 100000 in
theorem scanSymbol_ok (s : ByteArray) (k n : Nat) (hk : k < s.size) (hs : s.size ≤ 9223372036854775807) (h : Hid (symLen (s.data.toList.drop k) = n)) (h0 : 0 < n) (hn : k + n ≤ s.size) (B : Nat) (w : World) (hB : B ≤ w.heap.size) (ht : Tab B w) :
    Calls Tryz.prog 126 #[.string s, .int .i64 (k : Int)] w (RetB (tkRet 3 (s.extract k (k + n)) k 0) B w) := by
  have hz : ((n : Int) == 0) = false := beqF (by omega)
  have a1 : (0 : Int) ≤ (k : Int) + (n : Int) := by omega
  have a2 : (k : Int) ≤ (k : Int) + (n : Int) := by omega
  have a3 : (k : Int) + (n : Int) ≤ (s.size : Int) := by omega
  have a4 : ((k : Int) + (n : Int)).toNat = k + n := by omega
  have a5 : (0 : Int) ≤ (k : Int) := by omega
  have ht2 : ∀ o, Tab B (w.alloc o) := fun o => ht.on ((Below.refl _ _).alloc hB o)
  go_enter Tryz.func126, Tryz.ntmps126
  go_wp2_with (go_at_call 169; ((with_reducible refine (symLen_at s k n hk h B _ (ht2 _)).mono ?_); rintro e w' ⟨rfl, rfl⟩))
  exact bodyPost_ret (v := tkRet 3 (s.extract k (k + n)) k 0) (by simp [results, Tryz.results126, go_sem]) rfl (retB rfl ((Below.refl _ _).alloc hB _))
theorem scanSymbol_err (s : ByteArray) (k : Nat) (hk : k < s.size) (_hs : s.size ≤ 9223372036854775807) (h : Hid (symLen (s.data.toList.drop k) = 0)) (B : Nat) (w : World) (hB : B ≤ w.heap.size) (ht : Tab B w) :
    Calls Tryz.prog 126 #[.string s, .int .i64 (k : Int)] w (RetB (tkRet 0 ⟨#[]⟩ 0 2) B w) := by
  have ht2 : ∀ o, Tab B (w.alloc o) := fun o => ht.on ((Below.refl _ _).alloc hB o)
  go_enter Tryz.func126, Tryz.ntmps126
  go_wp2_with (go_at_call 169; ((with_reducible refine (symLen_at s k 0 hk h B _ (ht2 _)).mono ?_); rintro e w' ⟨rfl, rfl⟩))
  exact bodyPost_ret (v := tkRet 0 ⟨#[]⟩ 0 2) (by simp [results, Tryz.results126, go_sem]) rfl (retB rfl ((Below.refl _ _).alloc hB _))
end Go.Proofs.YtgiggkfnpbgkpaaGreatDoor
/- Stage 2: the walk of the lexer's scanToken. -/
namespace Go.Proofs.YtgiggkfnpbgkpaaGreatDoor
open Go.RowKit (wrap64 intOf)
open Go Go.RowKit WM LX

theorem head_at (s : ByteArray) (k : Nat) (h : k < s.size) : (s.data.toList.drop k).headD 0 = s[k] := by rw [drop_cons s k h]; rfl
theorem text_data (s : ByteArray) (k n : Nat) : (s.extract k (k + n)).data.toList = (s.data.toList.drop k).take n := by
  rw [Lib.extract_data, Nat.add_sub_cancel_left]
theorem text_eq (s : ByteArray) (k n : Nat) : s.extract k (k + n) = ⟨((s.data.toList.drop k).take n).toArray⟩ := by
  apply ByteArray.ext
  apply Array.toList_inj.1
  rw [text_data]
theorem text_size (s : ByteArray) (k n : Nat) (h : k + n ≤ s.size) : (s.extract k (k + n)).size = n := by
  rw [ByteArray.size_extract]; omega
theorem drop_len (s : ByteArray) (k : Nat) : (s.data.toList.drop k).length = s.size - k := by rw [List.length_drop]; rfl
theorem drop_ne (s : ByteArray) (k : Nat) (h : k < s.size) : s.data.toList.drop k ≠ [] := by rw [drop_cons s k h]; simp
theorem word_let {c : UInt8} (h : letB c = true) : wordB c = true := by unfold wordB; rw [h]; rfl
theorem word_dig {c : UInt8} (h : digB c = true) : wordB c = true := by unfold wordB; rw [h, Bool.or_true]
theorem let_dig {c : UInt8} (h : letB c = true) : digB c = false := by
  rcases byte_cases c with ⟨_, _, _, h'⟩ | ⟨_, _, _, h'⟩ | ⟨_, _, h'⟩ | ⟨_, _, h', _⟩ | ⟨_, h', _⟩
  · exact h'
  · exact h'
  · exact h'
  · rw [h] at h'; cases h'
  · rw [h] at h'; cases h'
/-- Where a number starts. -/
theorem tok_dig {s : ByteArray} {k : Nat} (hk : k < s.size) (h : digB s[k] = true) : tokK (s.data.toList.drop k) = 2 ∧ tokN (s.data.toList.drop k) = wlen (s.data.toList.drop k) ∧
    tokE (s.data.toList.drop k) = (if numB ((s.data.toList.drop k).take (wlen (s.data.toList.drop k))) most63 then 0 else 2) := by
  unfold tokK tokN tokE
  rw [head_at s k hk, h, word_dig h]
  exact ⟨rfl, rfl, rfl⟩
theorem tok_let {s : ByteArray} {k : Nat} (hk : k < s.size) (h : letB s[k] = true) : tokK (s.data.toList.drop k) = 1 ∧ tokN (s.data.toList.drop k) = wlen (s.data.toList.drop k) ∧
    tokE (s.data.toList.drop k) = (if 16 < wlen (s.data.toList.drop k) then 6 else 0) := by
  unfold tokK tokN tokE
  rw [head_at s k hk, let_dig h, h, word_let h]
  exact ⟨rfl, rfl, rfl⟩
theorem tok_sym {s : ByteArray} {k : Nat} (hk : k < s.size) (h : letB s[k] = false) (h' : digB s[k] = false) : tokK (s.data.toList.drop k) = 3 ∧ tokN (s.data.toList.drop k) = symLen (s.data.toList.drop k) ∧
    tokE (s.data.toList.drop k) = (if symLen (s.data.toList.drop k) = 0 then 2 else 0) := by
  unfold tokK tokN tokE
  rw [head_at s k hk, h, h', word_of h h']
  exact ⟨rfl, rfl, rfl⟩
theorem wlen_at {s : ByteArray} {k : Nat} (hk : k < s.size) (h : wordB s[k] = true) : 1 ≤ wlen (s.data.toList.drop k) ∧ k + wlen (s.data.toList.drop k) ≤ s.size := by
  have h1 := wlen_le (s.data.toList.drop k)
  rw [drop_len] at h1
  rw [drop_cons s k hk, wlen_pos h] at h1 ⊢
  omega
theorem symLen_at_le {s : ByteArray} {k : Nat} (hk : k < s.size) : k + symLen (s.data.toList.drop k) ≤ s.size := by
  have h1 := symLen_le (drop_ne s k hk)
  rw [drop_len] at h1
  omega
/-- What scanToken answers at k. -/
def tokRet (s : ByteArray) (k : Nat) : Value :=
  if tokE (s.data.toList.drop k) = 0 then tkRet (tokK (s.data.toList.drop k) : Nat) (s.extract k (k + tokN (s.data.toList.drop k))) k 0 else tkRet 0 ⟨#[]⟩ 0 (tokE (s.data.toList.drop k) : Nat)
theorem tokRet_ok {s : ByteArray} {k : Nat} (h : tokE (s.data.toList.drop k) = 0) : tokRet s k = tkRet (tokK (s.data.toList.drop k) : Nat) (s.extract k (k + tokN (s.data.toList.drop k))) k 0 := by unfold tokRet; rw [if_pos h]
theorem tokRet_err {s : ByteArray} {k : Nat} (h : tokE (s.data.toList.drop k) ≠ 0) : tokRet s k = tkRet 0 ⟨#[]⟩ 0 (tokE (s.data.toList.drop k) : Nat) := by unfold tokRet; rw [if_neg h]
theorem scanNumber_any (s : ByteArray) (k : Nat) (hk : k < s.size) (hs : s.size ≤ 9223372036854775807) (h : digB s[k] = true) (B : Nat) (w : World) (hB : B ≤ w.heap.size) :
    Calls Tryz.prog 123 #[.string s, .int .i64 (k : Int)] w (RetB (tokRet s k) B w) := by
  obtain ⟨e1, e2, e3⟩ := tok_dig hk h
  obtain ⟨g1, g2⟩ := wlen_at hk (word_dig h)
  have g3 := text_size s k _ g2
  have hd := text_data s k (wlen (s.data.toList.drop k))
  by_cases hn : numB ((s.data.toList.drop k).take (wlen (s.data.toList.drop k))) most63 = true
  · rw [if_pos hn] at e3
    rw [tokRet_ok e3, e1, e2]
    exact scanNumber_ok s _ k hk hs (Lib.hid rfl) (by rw [g3]; omega) (by rw [g3]; omega) (Lib.hid (by rw [hd]; exact hn)) B w hB
  · have hn : numB ((s.data.toList.drop k).take (wlen (s.data.toList.drop k))) most63 = false := by simpa using hn
    rw [hn] at e3
    rw [tokRet_err (by rw [e3]; decide), e3]
    exact scanNumber_err s _ k hk hs (Lib.hid rfl) (by rw [g3]; omega) (by rw [g3]; omega) (Lib.hid (by rw [hd]; exact hn)) B w hB
theorem scanName_any (s : ByteArray) (k : Nat) (hk : k < s.size) (hs : s.size ≤ 9223372036854775807) (h : letB s[k] = true) (B : Nat) (w : World) (hB : B ≤ w.heap.size) :
    Calls Tryz.prog 125 #[.string s, .int .i64 (k : Int)] w (RetB (tokRet s k) B w) := by
  obtain ⟨e1, e2, e3⟩ := tok_let hk h
  obtain ⟨g1, g2⟩ := wlen_at hk (word_let h)
  have g3 := text_size s k _ g2
  by_cases hn : 16 < wlen (s.data.toList.drop k)
  · rw [if_pos hn] at e3
    rw [tokRet_err (by rw [e3]; decide), e3]
    exact scanName_err s _ k hk hs (Lib.hid rfl) (by rw [g3]; exact hn) B w hB
  · rw [if_neg hn] at e3
    rw [tokRet_ok e3, e1, e2]
    exact scanName_ok s _ k hk hs (Lib.hid rfl) (by rw [g3]; omega) B w hB
theorem scanSymbol_any (s : ByteArray) (k : Nat) (hk : k < s.size) (hs : s.size ≤ 9223372036854775807) (h : letB s[k] = false) (h' : digB s[k] = false) (B : Nat) (w : World) (hB : B ≤ w.heap.size) (ht : Tab B w) :
    Calls Tryz.prog 126 #[.string s, .int .i64 (k : Int)] w (RetB (tokRet s k) B w) := by
  obtain ⟨e1, e2, e3⟩ := tok_sym hk h h'
  by_cases hn : symLen (s.data.toList.drop k) = 0
  · rw [if_pos hn] at e3
    rw [tokRet_err (by rw [e3]; decide), e3]
    exact scanSymbol_err s k hk hs (Lib.hid hn) B w hB ht
  · rw [if_neg hn] at e3
    rw [tokRet_ok e3, e1, e2]
    exact scanSymbol_ok s k _ hk hs (Lib.hid rfl) (by omega) (symLen_at_le hk) B w hB ht
theorem tokRet_form (s : ByteArray) (k : Nat) : ∃ a t p y, tokRet s k = tkRet a t p y := by
  unfold tokRet; split
  · exact ⟨_, _, _, _, rfl⟩
  · exact ⟨_, _, _, _, rfl⟩
theorem scanToken_any (s : ByteArray) (k : Nat) (hk : k < s.size) (hs : s.size ≤ 9223372036854775807) (B : Nat) (w : World) (hB : B ≤ w.heap.size) (ht : Tab B w) :
    Calls Tryz.prog 69 #[.string s, .int .i64 (k : Int)] w (RetB (tokRet s k) B w) := by
  obtain ⟨a, t, p, y, hr⟩ := tokRet_form s k
  have hbel : ∀ o, Below B w (w.alloc o) := fun o => (Below.refl _ _).alloc hB o
  have hle : ∀ o, B ≤ (w.alloc o).heap.size := fun o => Nat.le_trans hB (hbel o).size
  rw [hr]
  have HR := Lib.hid hr
  clear hr
  by_cases h : digB s[k] = true
  · have hc : ∀ o, Calls Tryz.prog 123 #[.string s, .int .i64 (k : Int)] (w.alloc o) (RetB (tkRet a t p y) (w.alloc o).heap.size (w.alloc o)) := fun o => by
      rw [← HR.out]; exact scanNumber_any s k hk hs h _ _ (Nat.le_refl _)
    have HC := Lib.hid hc
    clear hc
    go_enter Tryz.func69, Tryz.ntmps69
    go_wp2_with (first
      | (go_at_call 122; ((with_reducible refine (isDigit_any s[k] _).mono ?_); rintro e w' ⟨rfl, rfl⟩))
      | (go_at_call 123; ((with_reducible refine (HC.out _).mono ?_); rintro e w1 ⟨rfl, hb1⟩; obtain ⟨hc, hf⟩ := bcell hb1)))
    exact bodyPost_ret (v := tkRet a t p y) (by simp [results, Tryz.results69, go_sem, hc]) rfl (retB rfl (((((hbel _).trans (hb1.mono (hle _))).setCell hB _).setCell hB _).setCell hB _))
  · have h : digB s[k] = false := by simpa using h
    by_cases h2 : letB s[k] = true
    · have hc : ∀ o, Calls Tryz.prog 125 #[.string s, .int .i64 (k : Int)] (w.alloc o) (RetB (tkRet a t p y) (w.alloc o).heap.size (w.alloc o)) := fun o => by
        rw [← HR.out]; exact scanName_any s k hk hs h2 _ _ (Nat.le_refl _)
      have HC := Lib.hid hc
      have h3 := word_let h2
      clear hc h2
      go_enter Tryz.func69, Tryz.ntmps69
      go_wp2_with (first
        | (go_at_call 122; ((with_reducible refine (isDigit_any s[k] _).mono ?_); rintro e w' ⟨rfl, rfl⟩))
        | (go_at_call 124; ((with_reducible refine (isWord_any s[k] _).mono ?_); rintro e w' ⟨rfl, rfl⟩))
        | (go_at_call 125; ((with_reducible refine (HC.out _).mono ?_); rintro e w1 ⟨rfl, hb1⟩; obtain ⟨hc, hf⟩ := bcell hb1)))
      exact bodyPost_ret (v := tkRet a t p y) (by simp [results, Tryz.results69, go_sem, hc]) rfl (retB rfl (((((hbel _).trans (hb1.mono (hle _))).setCell hB _).setCell hB _).setCell hB _))
    · have h2 : letB s[k] = false := by simpa using h2
      have ht2 : ∀ o, Tab (w.alloc o).heap.size (w.alloc o) := fun o => (ht.on (hbel o)).up (hle o)
      have hc : ∀ o, Calls Tryz.prog 126 #[.string s, .int .i64 (k : Int)] (w.alloc o) (RetB (tkRet a t p y) (w.alloc o).heap.size (w.alloc o)) := fun o => by
        rw [← HR.out]; exact scanSymbol_any s k hk hs h2 h _ _ (Nat.le_refl _) (ht2 o)
      have HC := Lib.hid hc
      have h3 := word_of h2 h
      rw [Bool.or_self] at h3
      clear hc h2 ht2
      go_enter Tryz.func69, Tryz.ntmps69
      go_wp2_with (first
        | (go_at_call 122; ((with_reducible refine (isDigit_any s[k] _).mono ?_); rintro e w' ⟨rfl, rfl⟩))
        | (go_at_call 124; ((with_reducible refine (isWord_any s[k] _).mono ?_); rintro e w' ⟨rfl, rfl⟩))
        | (go_at_call 126; ((with_reducible refine (HC.out _).mono ?_); rintro e w1 ⟨rfl, hb1⟩; obtain ⟨hc, hf⟩ := bcell hb1)))
      exact bodyPost_ret (v := tkRet a t p y) (by simp [results, Tryz.results69, go_sem, hc]) rfl (retB rfl (((((hbel _).trans (hb1.mono (hle _))).setCell hB _).setCell hB _).setCell hB _))
end Go.Proofs.YtgiggkfnpbgkpaaGreatDoor
/- Words for memory: a block known whole; a row of the call's own behind a call; a slice whose cells are a list. -/
namespace Go.Proofs.YtgiggkfnpbgkpaaGreatDoor
open Go Go.RowKit

/-- Block g is just these cells, none of them frozen. -/
def Blk (w : World) (g : Nat) (t : TypeId) (cs : Array Value) : Prop := w.heap[g]? = some (.cells cs t (0, 0))
section
variable {w w' : World} {g : Nat} {t : TypeId} {cs : Array Value}
theorem Blk.cell (h : Blk w g t cs) (i : Nat) : w.cell? ⟨g, i, none⟩ = cs[i]? := by
  unfold Blk at h; simp [World.cell?, h]
theorem Blk.free (h : Blk w g t cs) (i : Nat) : w.frozen? ⟨g, i, none⟩ = false := by
  unfold Blk at h; simp [World.frozen?, h]
theorem Blk.lt (h : Blk w g t cs) : g < w.heap.size := by
  apply Classical.byContradiction; intro hn
  unfold Blk at h
  rw [Array.getElem?_eq_none (by omega)] at h; cases h
theorem Blk.on {B : Nat} (h : Blk w g t cs) (hb : Below B w w') (hg : g < B) : Blk w' g t cs := (hb.block g hg).trans h
theorem Blk.alloc (h : Blk w g t cs) (o : Obj) : Blk (w.alloc o) g t cs := (Below.heap_alloc w o g h.lt).trans h
theorem Blk.grown {row : Option Nat} (h : Blk w g t cs) (hb : w.grownBy w' row) (hr : row ≠ some g) : Blk w' g t cs := (hb.block g h.lt (fun e => hr e.symm)).trans h
theorem Blk.new (w : World) (t : TypeId) (cs : Array Value) : Blk (w.alloc (.cells cs t)) w.heap.size t cs := heap_alloc_new w _
theorem Blk.set (h : Blk w g t cs) (i : Nat) (u : Value) : Blk (w.setCell ⟨g, i, none⟩ u) g t (cs.setIfInBounds i u) := by
  unfold Blk at h ⊢; simp [World.setCell, Array.getElem?_modify, h]
theorem Blk.far (h : Blk w g t cs) {p : Addr} (hp : p.block ≠ g) (u : Value) : Blk (w.setCell p u) g t cs := (Below.heap_setCell w p u g (fun e => hp e.symm)).trans h
theorem Blk.cells3 {a b c : Value} (h : Blk w g t #[a, b, c]) : w.cell? ⟨g, 0, none⟩ = some a ∧ w.cell? ⟨g, 1, none⟩ = some b ∧ w.cell? ⟨g, 2, none⟩ = some c ∧ w.frozen? ⟨g, 0, none⟩ = false ∧ w.frozen? ⟨g, 1, none⟩ = false ∧ w.frozen? ⟨g, 2, none⟩ = false :=
  ⟨h.cell 0, h.cell 1, h.cell 2, h.free 0, h.free 1, h.free 2⟩
theorem Blk.cells2 {a b : Value} (h : Blk w g t #[a, b]) : w.cell? ⟨g, 0, none⟩ = some a ∧ w.cell? ⟨g, 1, none⟩ = some b ∧ w.frozen? ⟨g, 0, none⟩ = false ∧ w.frozen? ⟨g, 1, none⟩ = false :=
  ⟨h.cell 0, h.cell 1, h.free 0, h.free 1⟩
end
theorem new_set (w : World) (p : Addr) (u : Value) (t : TypeId) (cs : Array Value) : ((w.setCell p u).alloc (.cells cs t)).heap[w.heap.size]? = some (.cells cs t (0, 0)) := by
  have h := heap_alloc_new (w.setCell p u) (.cells cs t)
  have e : (w.setCell p u).heap.size = w.heap.size := by simp [World.setCell]
  rwa [e] at h
theorem below_drewN {B : Nat} {a w : World} (h : Below B a w) (n : Nat) : Below B a (w.drewN n) := ⟨h.os, h.tape, h.output, h.size, h.block⟩
theorem Blk.drewN {w : World} {g : Nat} {t : TypeId} {cs : Array Value} (h : Blk w g t cs) (n : Nat) : Blk (w.drewN n) g t cs := h
theorem grown_below {w w' : World} (hb : Below w.heap.size w w') (row : Option Nat) : w.grownBy w' row := ⟨hb.os, hb.tape, hb.output, hb.size, fun i hi _ => hb.block i hi⟩
section
variable {w w' : World} {base : Nat} {e : TypeId} {size n : Nat} {v : Value} {xs : List Value}
theorem own_on (h : w.ownsRow base e size v n xs) (hb : Below w.heap.size w w') : w'.ownsRow base e size v n xs :=
  h.kept (grown_below hb none) (by cases hv : v.ownBlock <;> simp)
theorem own_set (h : w.ownsRow base e size v n xs) {p : Addr} (hp : p.block < base) (u : Value) : (w.setCell p u).ownsRow base e size v n xs := by
  refine h.kept (row := some p.block) ⟨rfl, rfl, rfl, by simp [World.setCell], fun i _ hne => Below.heap_setCell w p u i (fun e => hne (by rw [e]))⟩ ?_
  cases hv : v.ownBlock with
  | none => exact Or.inl rfl
  | some k =>
    refine Or.inr (fun e => ?_)
    have := (h.lt k hv).1
    injection e with e
    omega
theorem own_setne (h : w.ownsRow base e size v n xs) {p : Addr} (hp : v.ownBlock ≠ some p.block) (u : Value) : (w.setCell p u).ownsRow base e size v n xs :=
  h.kept (row := some p.block) ⟨rfl, rfl, rfl, by simp [World.setCell], fun i _ hne => Below.heap_setCell w p u i (fun e => hne (by rw [e]))⟩ (Or.inr hp)
theorem own_ne {g : Nat} (h : w.ownsRow base e size v n xs) (hg : g < base ∨ w.heap.size ≤ g) : v.ownBlock ≠ some g := fun e => by
  have := h.lt g e
  omega
end
end Go.Proofs.YtgiggkfnpbgkpaaGreatDoor
/- Stage 2: the walk of the lexer's Scan. -/
namespace Go.Proofs.YtgiggkfnpbgkpaaGreatDoor
open Go.RowKit (wrap64 intOf)
open Go Go.RowKit WM LX

def tkC (t : Tk) : List Value := [.int .i64 (t.kind : Int), .string ⟨t.text.toArray⟩, .int .i64 (t.pos : Int)]
def tksC (ts : List Tk) : List Value := ts.flatMap tkC
/-- A scan's answer: the tokens in a row of the call's own, the error. -/
def ScanP (q : List Tk × Nat × Nat) (w : World) (e : Ending) (w' : World) : Prop :=
  ∃ v, e = .returned (.tuple #[v, .agg #[.int .i64 (q.2.1 : Int), .int .i64 (q.2.2 : Int)]]) ∧ w'.ownsRow w.heap.size 76 3 v q.1.length (tksC q.1) ∧ Below w.heap.size w w'
/-- At the loop's head: offset k, the tokens before it are ts. -/
def ScanR (s : ByteArray) (w0 : World) (v i : Value) (wr : World) : Prop :=
  ∃ (k : Nat) (ts : List Tk), k ≤ s.size ∧ i = .int .i64 k ∧ skipLen false (s.data.toList.drop k) = 0 ∧ lx s.data.toList 0 = prep ts (lx (s.data.toList.drop k) k) ∧ ts.length ≤ k ∧
    wr.ownsRow (w0.heap.size + 1) 76 3 v ts.length (tksC ts) ∧ Below w0.heap.size w0 wr ∧ Blk wr w0.heap.size 31 #[.int .i64 0, .int .i64 0]
theorem skip_at (s : ByteArray) (k E : Nat) (hk : k ≤ s.size) (hs : s.size ≤ 9223372036854775807) (h : Hid (k + skipLen false (s.data.toList.drop k) = E)) (w : World) :
    Calls Tryz.prog 68 #[.string s, .int .i64 (k : Int)] w fun e w' => e = .returned (.int .i64 (E : Int)) ∧ w = w' := by
  obtain rfl := h.out
  exact skip_any s k hk hs w
theorem skip_start (s : ByteArray) (E : Nat) (hs : s.size ≤ 9223372036854775807) (h : Hid (skipLen false s.data.toList = E)) (w : World) :
    Calls Tryz.prog 68 #[.string s, .int .i64 0] w fun e w' => e = .returned (.int .i64 (E : Int)) ∧ w = w' :=
  skip_at s 0 E (Nat.zero_le _) hs (Lib.hid (by rw [List.drop_zero, Nat.zero_add]; exact h.out)) w
theorem scan_long (s : ByteArray) (hs : 20000 < s.size) (w : World) : Calls Tryz.prog 33 #[.string s] w (ScanP (scanF s.data.toList) w) := by
  have hq : scanF s.data.toList = ([], 6, 20000) := by unfold scanF; rw [if_pos (by rw [size_len]; exact hs)]
  rw [hq]
  clear hq
  go_enter Tryz.func33, Tryz.ntmps33
  go_wp2_with fail
  exact bodyPost_ret (v := .tuple #[.slice none 0 0, .agg #[.int .i64 6, .int .i64 20000]]) (by simp [results, Tryz.results33, go_sem]) rfl
    ⟨_, rfl, World.ownsRow_nil _ _ _ _, (Below.refl _ _).alloc (Nat.le_refl _) _⟩
theorem skip_sum (s : ByteArray) (k n E : Nat) (hk : k + n ≤ s.size) (hs : s.size ≤ 9223372036854775807) (h : Hid (k + n + skipLen false (s.data.toList.drop (k + n)) = E)) (w : World) :
    Calls Tryz.prog 68 #[.string s, .int .i64 ((k : Int) + (n : Int))] w fun e w' => e = .returned (.int .i64 (E : Int)) ∧ w = w' :=
  skip_at s (k + n) E hk hs h w
theorem tokInfo : (Tryz.prog.info? 76).map (fun i => (i.zero, i.size, i.bytes)) = some (some (.agg #[.int .i64 0, .string ⟨#[]⟩, .int .i64 0]), 3, 32) := by kernel_rfl
theorem tksC_snoc (ts : List Tk) (t : Tk) : tksC (ts ++ [t]) = tksC ts ++ tkC t := by unfold tksC; rw [List.flatMap_append]; simp
/-- The relation behind one more token. -/
theorem scanR_step {s : ByteArray} {w0 w2 : World} {v' : Value} {k E : Nat} {ts : List Tk} (hk : k < s.size) (hsk : skipLen false (s.data.toList.drop k) = 0) (hx : lx s.data.toList 0 = prep ts (lx (s.data.toList.drop k) k)) (hts : ts.length ≤ k)
    (he : tokE (s.data.toList.drop k) = 0) (hE : k + tokN (s.data.toList.drop k) + skipLen false (s.data.toList.drop (k + tokN (s.data.toList.drop k))) = E)
    (hown : w2.ownsRow (w0.heap.size + 1) 76 3 v' (ts.length + 1) (tksC ts ++ [.int .i64 (tokK (s.data.toList.drop k) : Nat), .string (s.extract k (k + tokN (s.data.toList.drop k))), .int .i64 (k : Int)]))
    (hb : Below w0.heap.size w0 w2) (hblk : Blk w2 w0.heap.size 31 #[.int .i64 0, .int .i64 0]) : ScanR s w0 v' (.int .i64 (E : Int)) w2 ∧ k < E ∧ E ≤ s.size := by
  have hne := drop_ne s k hk
  have h1 := tokN_pos hne he
  have h2 := tokN_le hne
  rw [drop_len] at h2
  have h3 := skipLen_le false (s.data.toList.drop (k + tokN (s.data.toList.drop k)))
  rw [drop_len] at h3
  have hE2 : E ≤ s.size := by omega
  refine ⟨⟨E, ts ++ [⟨tokK (s.data.toList.drop k), (s.data.toList.drop k).take (tokN (s.data.toList.drop k)), k⟩], hE2, rfl, ?_, ?_, ?_, ?_, hb, hblk⟩, by omega, hE2⟩
  · rw [← hE, ← List.drop_drop]; exact skip_idem false _
  · rw [hx, prep_tok hsk hne he, List.drop_drop, lx_skip, List.drop_drop, hE]
  · rw [List.length_append]; simp; omega
  · rw [tksC_snoc, List.length_append]
    rw [text_eq] at hown
    exact hown
/-- The answer where the token at k is an error. -/
theorem scan_bad {s : ByteArray} {k : Nat} {ts : List Tk} (hs : s.size ≤ 20000) (hk : k < s.size) (hsk : skipLen false (s.data.toList.drop k) = 0) (hx : lx s.data.toList 0 = prep ts (lx (s.data.toList.drop k) k)) (he : tokE (s.data.toList.drop k) ≠ 0) :
    scanF s.data.toList = ([], tokE (s.data.toList.drop k), k) := by
  unfold scanF
  rw [if_neg (by rw [size_len]; omega), hx, lx_err k hsk (drop_ne s k hk) he, if_neg (by exact he)]
  rfl
theorem scan_good {s : ByteArray} {ts : List Tk} (hs : s.size ≤ 20000) (hx : lx s.data.toList 0 = prep ts (lx (s.data.toList.drop s.size) s.size)) : scanF s.data.toList = (ts, 0, 0) := by
  unfold scanF
  rw [if_neg (by rw [size_len]; omega), hx, drop_end, lx_nil, if_pos (by rfl)]
  unfold prep
  simp
theorem tab_at {w0 wr : World} (ht : Tab w0.heap.size w0) (hb : Below w0.heap.size w0 wr) : Tab wr.heap.size wr := (ht.on hb).up hb.size
theorem own_base {w : World} {base base' : Nat} {e : TypeId} {size n : Nat} {v : Value} {xs : List Value} (h : w.ownsRow base e size v n xs) (hb : base' ≤ base) : w.ownsRow base' e size v n xs := by
  refine ⟨h.1, ?_⟩
  rcases h.2 with h0 | ⟨g, cap, cur, hv, hg, r⟩
  · exact Or.inl h0
  · exact Or.inr ⟨g, cap, cur, hv, Nat.le_trans hb hg, r⟩
set_option maxRecDepth 100000
set_option maxHeartbeats 1000000 in
theorem scan_short (s : ByteArray) (hs : s.size ≤ 20000) (w : World) (ht : Tab w.heap.size w) : Calls Tryz.prog 33 #[.string s] w (ScanP (scanF s.data.toList) w) := by
  obtain ⟨q, hq0⟩ : ∃ q, scanF s.data.toList = q := ⟨_, rfl⟩
  rw [hq0]
  have HQ := Lib.hid hq0
  clear hq0
  obtain ⟨i0, hi, hz0, hz1, hz2⟩ := info_parts tokInfo
  have hs2 : s.size ≤ 9223372036854775807 := by omega
  have hdec : decide ((20000 : Int) < (s.size : Int)) = false := decide_eq_false (by omega)
  obtain ⟨E0, hE0⟩ : ∃ E, skipLen false s.data.toList = E := ⟨_, rfl⟩
  have H0 := Lib.hid hE0
  clear hE0
  go_enter Tryz.func33, Tryz.ntmps33
  go_wp2_with (go_at_call 68; ((with_reducible refine (skip_start s E0 hs2 H0 _).mono ?_); rintro e w' ⟨rfl, rfl⟩))
  go_loopw [4, 5] (fun v i wr => ScanR s w v i wr) (fun _ i _ => s.size - (intOf i).toNat)
  case atStart =>
    have hE := H0.out
    have hle := skipLen_le false s.data.toList
    refine ⟨E0, [], by rw [← hE]; exact hle, rfl, ?_, ?_, Nat.zero_le _, World.ownsRow_nil _ _ _ _, (Below.refl _ _).alloc (Nat.le_refl _) _, Blk.new _ _ _⟩
    · rw [← hE]; exact skip_idem false _
    · rw [prep_nil, lx_skip, hE, Nat.zero_add]
  case round =>
    obtain ⟨k, ts, hk, rfl, hsk, hx, hts, hown, hbel, hblk⟩ := hrel
    have HSK := Lib.hid hsk
    have HX := Lib.hid hx
    have HB := Lib.hid hblk
    clear hsk hx hblk
    have hgr := HB.out.lt
    by_cases hlt : k < s.size
    · have htr := tab_at ht hbel
      have hcT := fun W B hB hT => scanToken_any s k hlt hs2 B W hB hT
      by_cases he : tokE (s.data.toList.drop k) = 0
      · rw [tokRet_ok he] at hcT
        have hne := drop_ne s k hlt
        have h1 := tokN_pos hne he
        have h2 := tokN_le hne
        rw [drop_len] at h2
        have hst := fun E h => @scanR_step s w E h
        have htz := text_size s k (tokN (s.data.toList.drop k)) (by omega)
        obtain ⟨E, hE⟩ : ∃ E, k + tokN (s.data.toList.drop k) + skipLen false (s.data.toList.drop (k + tokN (s.data.toList.drop k))) = E := ⟨_, rfl⟩
        have hstep := fun v' w2 h1 h2 h3 => scanR_step (w0 := w) (w2 := w2) (v' := v') hlt HSK.out HX.out hts he hE h1 h2 h3
        rw [← htz] at h1 h2 hE
        generalize s.extract k (k + tokN (s.data.toList.drop k)) = t at *
        generalize tokK (s.data.toList.drop k) = kd at *
        have HE := Lib.hid hE
        have HS := Lib.hid hstep
        have HC := Lib.hid (hcT wr wr.heap.size (Nat.le_refl _) htr)
        clear hcT htr htz hne he hE hstep hst
        have h3 : k + t.size ≤ s.size := by omega
        go_wp2_with (first
          | (go_at_call 69; ((with_reducible refine (HC.out).mono ?_); rintro e w1 ⟨rfl, hb1⟩; have hg1 := (HB.out.on hb1 hgr).lt; have hown1 := own_on hown hb1; have hB1 := Lib.hid (HB.out.on hb1 hgr); clear hown))
          | (go_at_call 68; ((with_reducible refine (skip_sum s k t.size E h3 hs2 HE _).mono ?_); rintro e w' ⟨rfl, rfl⟩))
          | (at_builtin
             refine wpList_append_own _ rfl (.tmp 29) (.tmp 31) 69 rfl (w.heap.size + 1) 76 i0 _ 3 32 Tryz.underlying69 hi hz0 hz1 hz2 rfl (by decide) _ _ _ rfl ((hown1.alloc _).alloc _) ⟨w1.heap.size + 1, 0, none⟩ 1 1 [.int .i64 (kd : Int), .string t, .int .i64 (k : Int)] rfl rfl (World.news_of_block (heap_alloc2_new _ _ _)) (by simp [Value.oneCell']) (by unfold maxLen; omega) (by omega) (by simp; omega) ?_
             intro v2 w2 hown2 hgr2 _
             have hb2 : Blk w2 w1.heap.size 76 #[.int .i64 (kd : Int), .string t, .int .i64 (k : Int)] := Blk.grown (heap_alloc2_old _ _ _) hgr2 (own_ne hown1 (Or.inr (Nat.le_refl _)))
             have hct := hb2.cell 1
             have hE2 : Blk w2 w.heap.size 31 #[.int .i64 0, .int .i64 0] := ((hB1.out.alloc _).alloc _).grown hgr2 (own_ne hown1 (Or.inl (Nat.lt_succ_self _)))
             have hbel2 : Below w.heap.size w w2 := (((hbel.trans (hb1.mono hbel.size)).alloc (Nat.le_of_lt hg1) _).alloc (by simp; omega) _).grown hgr2 (by simp; omega) (fun b hb => Nat.le_of_lt (hown1.lt b hb).1)
             obtain ⟨hR, hlt2, hle2⟩ := HS.out v2 w2 hown2 hbel2 hE2
             clear hown2 hgr2 hb2 hE2 hbel2 hown1))
        go_roundw
        case rel => exact hR
        case measure => simp [intOf]; omega
      · rw [tokRet_err he] at hcT
        obtain rfl := HQ.out.symm.trans (scan_bad hs hlt HSK.out HX.out he)
        clear HQ
        generalize tokE (s.data.toList.drop k) = y at *
        have b1 : ((y : Int) == 0) = false := beqF (by omega)
        have b2 : ((y : Int) != 0) = true := by rw [bne, b1]; rfl
        have HC := Lib.hid (hcT wr wr.heap.size (Nat.le_refl _) htr)
        clear hcT he htr
        go_wp2_with (go_at_call 69; ((with_reducible refine (HC.out).mono ?_); rintro e w1 ⟨rfl, hb1⟩; have hg1 := (HB.out.on hb1 hgr).lt; obtain ⟨hc0, hc1, hf0, hf1⟩ := (HB.out.on hb1 hgr).cells2))
        exact bodyPost_ret (v := .tuple #[.slice none 0 0, .agg #[.int .i64 (y : Int), .int .i64 (k : Int)]]) (by simp [results, Tryz.results33, go_sem, hc0, hc1, hg1]) rfl
          ⟨_, rfl, World.ownsRow_nil _ _ _ _, ((((hbel.trans (hb1.mono hbel.size)).setCell (Nat.le_refl _) _).setCell (Nat.le_refl _) _).alloc (by simp [World.setCell]; omega) _)⟩
    · obtain rfl : k = s.size := by omega
      obtain rfl := HQ.out.symm.trans (scan_good hs HX.out)
      obtain ⟨hc0, hc1, hf0, hf1⟩ := HB.out.cells2
      go_wp2_with fail
      exact bodyPost_ret (v := .tuple #[u4, .agg #[.int .i64 0, .int .i64 0]]) (by simp [results, Tryz.results33, go_sem, hc0, hc1]) rfl
        ⟨_, rfl, own_base (own_set (own_set hown (Nat.lt_succ_self _) _) (Nat.lt_succ_self _) _) (Nat.le_succ _), ((hbel.setCell (Nat.le_refl _) _).setCell (Nat.le_refl _) _)⟩
end Go.Proofs.YtgiggkfnpbgkpaaGreatDoor
/- Stage 2: the walk of the reference's SameTokens on equal lists of tokens. -/
namespace Go.Proofs.YtgiggkfnpbgkpaaGreatDoor
open Go.RowKit (wrap64 intOf)
open Go Go.RowKit WM LX

/-- The slice at A holds the tokens ts; it lies below block B. -/
def Toks (w : World) (B : Nat) (A : Option Addr) (ts : List Tk) : Prop := 0 < ts.length → ∃ g, A = some ⟨g, 0, none⟩ ∧ g < B ∧ ∀ j u, (tksC ts)[j]? = some u → w.cell? ⟨g, j, none⟩ = some u
theorem Toks.on {w w' : World} {B : Nat} {A : Option Addr} {ts : List Tk} (h : Toks w B A ts) (hb : Below B w w') : Toks w' B A ts := fun h0 => by
  obtain ⟨g, hA, hg, hc⟩ := h h0
  exact ⟨g, hA, hg, fun j u hu => (hb.cell (p := ⟨g, j, none⟩) hg).trans (hc j u hu)⟩
theorem Toks.up {w : World} {B B' : Nat} {A : Option Addr} {ts : List Tk} (h : Toks w B A ts) (hb : B ≤ B') : Toks w B' A ts := fun h0 => by
  obtain ⟨g, hA, hg, hc⟩ := h h0
  exact ⟨g, hA, Nat.lt_of_lt_of_le hg hb, hc⟩
theorem tksC_length (ts : List Tk) : (tksC ts).length = ts.length * 3 := by
  unfold tksC
  induction ts with
  | nil => rfl
  | cons t r ih => rw [List.flatMap_cons, List.length_append, ih]; simp [tkC]; omega
theorem tksC_get (ts : List Tk) (i : Nat) (t : Tk) (h : ts[i]? = some t) : (tksC ts)[i * 3]? = some (.int .i64 (t.kind : Int)) ∧ (tksC ts)[i * 3 + 1]? = some (.string ⟨t.text.toArray⟩) ∧ (tksC ts)[i * 3 + 2]? = some (.int .i64 (t.pos : Int)) := by
  induction ts generalizing i with
  | nil => simp at h
  | cons a r ih =>
    have e : tksC (a :: r) = tkC a ++ tksC r := rfl
    cases i with
    | zero =>
      obtain rfl : a = t := by simpa using h
      exact ⟨rfl, rfl, rfl⟩
    | succ i =>
      have := ih i (by simpa using h)
      rw [e]
      have e1 : ∀ j, (tkC a ++ tksC r)[(i + 1) * 3 + j]? = (tksC r)[i * 3 + j]? := fun j => by
        rw [List.getElem?_append_right (by simp [tkC]; omega)]
        congr 1
        simp [tkC]; omega
      exact ⟨(e1 0).trans this.1, (e1 1).trans this.2.1, (e1 2).trans this.2.2⟩
theorem toks_own {w : World} {base : Nat} {v : Value} {ts : List Tk} (h : w.ownsRow base 76 3 v ts.length (tksC ts)) : ∃ A c, v = .slice A ts.length c ∧ Toks w w.heap.size A ts := by
  by_cases h0 : 0 < ts.length
  · obtain ⟨g, cap, hv, _, hlt⟩ := h.form h0
    refine ⟨_, cap, hv, fun _ => ⟨g, rfl, hlt, fun j u hu => ?_⟩⟩
    have := h.cells (g := g) (by rw [hv]; rfl) j u hu
    rwa [show (⟨g, 0, none⟩ : Addr).add j = ⟨g, j, none⟩ by unfold Addr.add; split <;> simp_all] at this
  · have hz : ts = [] := List.eq_nil_of_length_eq_zero (by omega)
    subst hz
    rcases h.2 with ⟨rfl, _⟩ | ⟨g, cap, cur, hv, _⟩
    · exact ⟨none, 0, rfl, fun h => absurd h (by decide)⟩
    · exact ⟨_, cap, hv, fun h => absurd h (by decide)⟩
/-- The call only reads: it may draw. -/
def RetQ (v : Value) (w : World) (e : Ending) (w' : World) : Prop := e = .returned v ∧ ∃ m, w' = w.drewN m
theorem retQ {v v' : Value} {w : World} {m : Nat} (h : v' = v) : RetQ v w (.returned v') (w.drewN m) := ⟨by rw [h], m, rfl⟩
theorem drew0 (w : World) : w.drewN 0 = w := rfl
set_option maxRecDepth 100000
end Go.Proofs.YtgiggkfnpbgkpaaGreatDoor
