/- Stage 2: the walks of the statements' helpers pieces and line. -/
import Derived.Test.YtidlacfmcpppoaaDoorRk
import Derived.Test.YtidlacfmcpppoaaDoorRf
import Derived.Test.YtidlacfmcpppoaaDoorMw
import Derived.Test.YtidlacfmcpppoaaDoorLe
namespace Go.Proofs.YtidlacfmcpppoaaDoor
open Go.RowKit (wrap64 intOf)
open Go Go.RowKit WM

theorem add_block (a : Addr) (n : Nat) : (a.add n).block = a.block := by unfold Addr.add; split <;> rfl
/-- The slice at A holds n integers below block B. -/
def Ints (w : World) (B : Nat) (A : Option Addr) (n : Nat) : Prop := ∀ k, k < n → ∃ a z, A = some a ∧ a.block < B ∧ w.cell? (a.add k) = some (.int .i64 z)
theorem Ints.on {w w' : World} {B : Nat} {A : Option Addr} {n : Nat} (h : Ints w B A n) (hb : Below B w w') : Ints w' B A n := fun k hk => by
  obtain ⟨a, z, hA, hB, hc⟩ := h k hk
  exact ⟨a, z, hA, hB, (hb.cell (by rw [add_block]; exact hB)).trans hc⟩
theorem Ints.up {w : World} {B B' : Nat} {A : Option Addr} {n : Nat} (h : Ints w B A n) (hb : B ≤ B') : Ints w B' A n := fun k hk => by
  obtain ⟨a, z, hA, hB, hc⟩ := h k hk
  exact ⟨a, z, hA, Nat.lt_of_lt_of_le hB hb, hc⟩
abbrev pieceCells : Array Value := #[.string ⟨#[97]⟩, .string ⟨#[98, 95, 49]⟩, .string ⟨#[32]⟩, .string ⟨#[9]⟩, .string ⟨#[10]⟩, .string ⟨#[35]⟩, .string ⟨#[62]⟩, .string ⟨#[62, 62]⟩, .string ⟨#[60]⟩, .string ⟨#[61]⟩, .string ⟨#[33]⟩, .string ⟨#[43]⟩, .string ⟨#[45]⟩, .string ⟨#[48]⟩, .string ⟨#[55]⟩, .string ⟨#[48, 55]⟩, .string ⟨#[57, 50, 50, 51, 51, 55, 50, 48, 51, 54, 56, 53, 52, 55, 55, 53, 56, 48, 56]⟩, .string ⟨#[57, 50, 50, 51, 51, 55, 50, 48, 51, 54, 56, 53, 52, 55, 55, 53, 56, 48, 57]⟩, .string ⟨#[48, 120]⟩, .string ⟨#[38]⟩, .string ⟨#[40]⟩, .string ⟨#[91]⟩, .string ⟨#[59]⟩, .string ⟨#[0]⟩, .string ⟨#[195, 169]⟩, .string ⟨#[97, 98, 99, 100, 101, 102, 103, 104, 105, 106, 107, 108, 109, 110, 111, 112]⟩, .string ⟨#[97, 98, 99, 100, 101, 102, 103, 104, 105, 106, 107, 108, 109, 110, 111, 112, 113]⟩, .string ⟨#[37]⟩, .string ⟨#[36]⟩, .string ⟨#[13]⟩]
theorem piece_at (p : Nat) (hp : p < 30) : ∃ x : ByteArray, pieceCells[p]? = some (.string x) ∧ x.size ≤ 19 := by
  have hc : p = 0 ∨ p = 1 ∨ p = 2 ∨ p = 3 ∨ p = 4 ∨ p = 5 ∨ p = 6 ∨ p = 7 ∨ p = 8 ∨ p = 9 ∨ p = 10 ∨ p = 11 ∨ p = 12 ∨ p = 13 ∨ p = 14 ∨ p = 15 ∨ p = 16 ∨ p = 17 ∨ p = 18 ∨ p = 19 ∨ p = 20 ∨ p = 21 ∨ p = 22 ∨ p = 23 ∨ p = 24 ∨ p = 25 ∨ p = 26 ∨ p = 27 ∨ p = 28 ∨ p = 29 := by omega
  rcases hc with rfl | rfl | rfl | rfl | rfl | rfl | rfl | rfl | rfl | rfl | rfl | rfl | rfl | rfl | rfl | rfl | rfl | rfl | rfl | rfl | rfl | rfl | rfl | rfl | rfl | rfl | rfl | rfl | rfl | rfl
  all_goals exact ⟨_, rfl, by decide⟩
/-- Some string of at most n bytes, and only new memory. -/
def SomeS (n B : Nat) (w : World) (e : Ending) (w' : World) : Prop := ∃ s : ByteArray, s.size ≤ n ∧ e = .returned (.string s) ∧ Below B w w'
theorem pieces_any (A : Option Addr) (n c : Nat) (hn : n ≤ 9223372036854775807) (w : World) (h : Ints w w.heap.size A n) :
    Calls Tryd.prog 11 #[.slice A n c] w (SomeS 570 w.heap.size w) := by
  have HI := Lib.hid h
  clear h
  go_enter Tryd.func11, Tryd.ntmps11
  go_wp2_with fail
  go_loopw [4, 5] (fun v i wr => ∃ (k : Nat) (s : ByteArray), k ≤ n ∧ k ≤ 30 ∧ i = .int .i64 k ∧ v = .string s ∧ s.size ≤ 19 * k ∧ Below w.heap.size w wr ∧ Blk wr w.heap.size 9 pieceCells) (fun _ i _ => n - (intOf i).toNat)
  case atStart => exact ⟨0, ⟨#[]⟩, Nat.zero_le _, by omega, rfl, rfl, Nat.le_refl _, (Below.refl _ _).alloc (Nat.le_refl _) _, Blk.new _ _ _⟩
  case round =>
    obtain ⟨k, s, hk, hk2, rfl, rfl, hs, hbel, hblk⟩ := hrel
    have HB := Lib.hid hblk
    clear hblk
    by_cases hlt : k < n
    · by_cases hlt2 : k < 30
      · obtain ⟨a, z, rfl, hab, hc⟩ := (HI.out.on hbel) k hlt
        obtain ⟨p, hp⟩ : ∃ p : Nat, z % 30 = (p : Int) := ⟨(z % 30).toNat, by omega⟩
        have hp30 : p < 30 := by omega
        obtain ⟨x, hx, hxs⟩ := piece_at p hp30
        have hcx := (HB.out.cell p).trans hx
        have HP := Lib.hid hp
        clear hx hp
        go_wp2_with (go_at_call 16; ((with_reducible refine (pick_any _ 30 _ (by decide) (by decide) HP.out _).mono ?_); rintro e w' ⟨rfl, rfl⟩))
        go_roundw
        case rel => exact ⟨k + 1, s ++ x, by omega, by omega, by go_num, rfl, by rw [ByteArray.size_append]; omega, hbel, HB.out⟩
        case measure => simp [intOf]; omega
      · go_wp2_with fail
        go_ret
        exact ⟨s, by omega, rfl, hbel⟩
    · obtain rfl : k = n := by omega
      go_wp2_with fail
      go_ret
      exact ⟨s, by omega, rfl, hbel⟩
/-- Some string of at most 101 bytes without a line feed; nothing has turned. -/
def SomeL (w : World) (e : Ending) (w' : World) : Prop := ∃ s : ByteArray, s.size ≤ 101 ∧ (∀ c ∈ s.data.toList, c.toNat ≠ 10) ∧ e = .returned (.string s) ∧ w = w'
def NoNl (s : ByteArray) (k : Nat) : Prop := ∀ c ∈ s.data.toList.take k, c.toNat ≠ 10
theorem noNl_succ {s : ByteArray} {k : Nat} (h : NoNl s k) (hk : k < s.size) (h10 : s[k].toNat ≠ 10) : NoNl s (k + 1) := by
  unfold NoNl at *
  rw [take_snoc s k hk]
  intro c hc
  rcases List.mem_append.1 hc with hc | hc
  · exact h c hc
  · rw [List.mem_singleton] at hc; subst hc; exact h10
theorem take_extract (s : ByteArray) (k : Nat) : (s.extract 0 k).data.toList = s.data.toList.take k := by
  rw [Lib.extract_data, List.drop_zero, Nat.sub_zero]
theorem line_any (s : ByteArray) (w : World) :
    Calls Tryd.prog 15 #[.string s] w (SomeL w) := by
  go_enter Tryd.func15, Tryd.ntmps15
  go_wp2_with fail
  go_loop [3] (fun i => ∃ k : Nat, k ≤ s.size ∧ k ≤ 101 ∧ NoNl s k ∧ i = .int .i64 k) (fun i => s.size - (intOf i).toNat)
  case atStart => exact ⟨0, Nat.zero_le _, by omega, fun c hc => by simp at hc, rfl⟩
  case round =>
    obtain ⟨k, hk, hk2, hn, rfl⟩ := hrel
    by_cases hlt : k < s.size
    · have hsz : (s.extract 0 k).size ≤ 101 := by rw [ByteArray.size_extract]; omega
      have HSZ := Lib.hid hsz
      have HN := Lib.hid hn
      clear hsz hn
      by_cases h10 : s[k].toNat = 10
      · have b1 : ((s[k].toNat : Int) == 10) = true := beqT (by omega)
        clear h10
        go_wp2_with fail
        go_ret
        exact ⟨s.extract 0 k, HSZ.out, by rw [take_extract]; exact HN.out, rfl, rfl⟩
      · have b1 : ((s[k].toNat : Int) == 10) = false := beqF (by omega)
        have HN2 := Lib.hid (noNl_succ HN.out hlt h10)
        clear h10
        by_cases h100 : k ≤ 100
        · have d1 : decide ((100 : Int) < (k : Int)) = false := decide_eq_false (by omega)
          go_wp2_with fail
          go_round
          case rel => exact ⟨k + 1, by omega, by omega, HN2.out, by go_num⟩
          case measure => simp [intOf]; omega
        · have d1 : decide ((100 : Int) < (k : Int)) = true := decide_eq_true (by omega)
          go_wp2_with fail
          go_ret
          exact ⟨s.extract 0 k, HSZ.out, by rw [take_extract]; exact HN.out, rfl, rfl⟩
    · obtain rfl : k = s.size := by omega
      have HN := Lib.hid hn
      clear hn
      go_wp2_with fail
      go_ret
      refine ⟨s, hk2, ?_, rfl, rfl⟩
      have := HN.out
      unfold NoNl at this
      rw [show s.data.toList.take s.size = s.data.toList from List.take_of_length_le (Nat.le_refl _)] at this
      exact this
end Go.Proofs.YtidlacfmcpppoaaDoor
