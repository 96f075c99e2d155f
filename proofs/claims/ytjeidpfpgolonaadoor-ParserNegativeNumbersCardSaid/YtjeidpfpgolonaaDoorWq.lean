/- Stage 3: the walks of package word's Text and Parse (as in stage 1). -/
import Derived.Test.YtjeidpfpgolonaaDoorWm
import Derived.Test.YtjeidpfpgolonaaDoorChecked
import Derived.WalkKit
import Derived.Lib.Hide
import Derived.Test.YtjeidpfpgolonaaDoorFr
import Derived.Test.YtjeidpfpgolonaaDoorShelf
namespace Go.Proofs.YtjeidpfpgolonaaDoor
open Go.RowKit (wrap64 intOf)
open Go Go.RowKit WM

/-- The library's table stands, and goes on standing while nothing below block B turns. -/
abbrev TabP (B : Nat) (w : World) : Prop := Lib.TabBelow Tryd.prog B w "internal/strconv.uint64pow10" .u64 Lib.pow10Tab

theorem cut_any (s d : ByteArray) (neg : Bool) (hd : d = ⟨(Lib.trimPrefix s.data.toList [45]).toArray⟩) (hn : neg = Lib.hasPrefix s.data.toList [45]) (w : World) :
    Calls Tryd.prog 92 #[.string s, .string ⟨#[45]⟩] w fun e w' => e = .returned (.tuple #[.string d, .bool neg]) ∧ w = w' := by
  subst hd hn
  exact (Tryd.strings_CutPrefix s ⟨#[45]⟩ w).mono fun e w' ⟨h1, h2⟩ => ⟨h1, h2.symm⟩

theorem wtext_any (n : Int) (hn : inW n) (B : Nat) (w : World) (hB : B ≤ w.heap.size) (ht : TabP B w) :
    Calls Tryd.prog 93 #[.int .i64 n] w fun e w' => e = .returned (.string ⟨(Lib.itoa n).toArray⟩) ∧ Below B w w' := by
  have h1 := hn.1
  have h2 := hn.2
  have htab := ht.here
  go_enter Tryd.func93, Tryd.ntmps93
  go_wp2_with (go_at_call 108; refine (Tryd.strconv_FormatInt_10 n h1 h2 _ htab).mono ?_; rintro e w' ⟨rfl, k, os, rfl⟩)
  go_ret
  exact ⟨rfl, Lib.below_grow B w hB k os⟩


theorem itoa_test (n : Int) (s : ByteArray) : (Lib.itoa n == s.toList) = (Lib.itoa n == s.data.toList) := by rw [Lib.toList_data]
set_option maxHeartbeats 400000 in
theorem parse_loop (s d : ByteArray) (neg : Bool) (v : Int) (hd : d = ⟨(Lib.trimPrefix s.data.toList [45]).toArray⟩) (hn : neg = Lib.hasPrefix s.data.toList [45])
    (hv : v = if neg then wrap64 (-dfold d.data.toList) else dfold d.data.toList) (b : Bool) (hb : (Lib.itoa v == s.toList) = b)
    (hm : d.size ≤ 9223372036854775807) (w : World) (B : Nat) (hB : B ≤ w.heap.size) (ht : TabP B w) :
    Calls Tryd.prog 82 #[.string s] w fun e w' => e = .returned (.tuple #[.int .i64 (if b then v else 0), .bool b]) ∧ Below B w w' := by
  have HD := Lib.hid hd
  have HN := Lib.hid hn
  have HV := Lib.hid hv
  have hvin : inW v := by rw [hv]; exact ite_in (wrap_in _) (dfold_in _)
  have hfull : d.data.toList.take d.size = d.data.toList := List.take_of_length_le (by simp)
  have HF := Lib.hid hfull
  clear hd hn hv hfull
  go_enter Tryd.func82, Tryd.ntmps82
  go_wp2_with (go_at_call 92; refine (cut_any s d neg HD.out HN.out _).mono ?_; rintro e w' ⟨rfl, rfl⟩)
  go_loop [6, 7] (fun n i => ∃ k : Nat, k ≤ d.size ∧ i = .int .i64 k ∧ n = .int .i64 (dfold (d.data.toList.take k))) (fun _ i => d.size - (intOf i).toNat)
  case atStart => exact ⟨0, Nat.zero_le _, rfl, rfl⟩
  case round =>
    obtain ⟨k, hk, rfl, rfl⟩ := hrel
    by_cases hlt : k < d.size
    · have hsn : dfold (d.data.toList.take (k + 1)) = wrap64 (wrap64 (wrap64 (10 * dfold (d.data.toList.take k)) + wrap64 (d[k].toNat : Int)) - 48) := by rw [take_snoc d k hlt, dfold_snoc]; rfl
      have HS := Lib.hid hsn
      clear hsn
      go_wp2_with fail
      go_round
      case rel => exact ⟨k + 1, by omega, by go_num, by rw [HS.out]⟩
      case measure => simp [intOf]; omega
    · obtain rfl : k = d.size := by omega
      rw [HF.out]
      cases neg
      · have hv := HV.out
        simp only [Bool.false_eq_true, if_false] at hv
        subst hv
        cases b
        all_goals
          go_wp2_with (go_at_call 93; refine (wtext_any _ hvin B _ hB ht).mono ?_; rintro e w' ⟨rfl, hbel⟩)
          go_ret2
          exact ⟨rfl, hbel⟩
      · have hv := HV.out
        simp only [if_true] at hv
        subst hv
        cases b
        all_goals
          go_wp2_with (go_at_call 93; refine (wtext_any _ hvin B _ hB ht).mono ?_; rintro e w' ⟨rfl, hbel⟩)
          go_ret2
          exact ⟨rfl, hbel⟩
theorem wparse_any (s : ByteArray) (hs : s.size ≤ 9223372036854775807) (w : World) (B : Nat) (hB : B ≤ w.heap.size) (ht : TabP B w) :
    Calls Tryd.prog 82 #[.string s] w fun e w' => e = .returned (.tuple #[.int .i64 (parseV s.data.toList), .bool (parseB s.data.toList)]) ∧ Below B w w' := by
  refine parse_loop s ⟨(Lib.trimPrefix s.data.toList [45]).toArray⟩ _ (valF s.data.toList) rfl rfl ?_ (parseB s.data.toList) ?_ ?_ w B hB ht
  · unfold valF; rfl
  · unfold parseB; exact itoa_test _ _
  · have := Lib.trimPrefix_le s.data.toList [45]
    have e : (ByteArray.size ⟨(Lib.trimPrefix s.data.toList [45]).toArray⟩) = (Lib.trimPrefix s.data.toList [45]).length := rfl
    have e2 : s.data.toList.length = s.size := rfl
    omega
end Go.Proofs.YtjeidpfpgolonaaDoor
