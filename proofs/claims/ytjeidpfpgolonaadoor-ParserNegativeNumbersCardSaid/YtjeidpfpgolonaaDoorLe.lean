/- Stage 2: the walks of the lexer's scanName, scanNumber, scanSymbol, scanToken. -/
import Derived.Test.YtjeidpfpgolonaaDoorLd
namespace Go.Proofs.YtjeidpfpgolonaaDoor
open Go.RowKit (wrap64 intOf)
open Go Go.RowKit WM LX

def RetB (v : Value) (B : Nat) (w : World) (e : Ending) (w' : World) : Prop := e = .returned v ∧ Below B w w'
theorem retB {v v' : Value} {B : Nat} {w w' : World} (h : v' = v) (hb : Below B w w') : RetB v B w (.returned v') w' := ⟨by rw [h], hb⟩
abbrev tkV (kind : Int) (t : ByteArray) (pos : Int) : Value := .agg #[.int .i64 kind, .string t, .int .i64 pos]
abbrev tkRet (kind : Int) (t : ByteArray) (pos why : Int) : Value := .tuple #[tkV kind t pos, .int .i64 why]
theorem wordAt_at (s t : ByteArray) (k : Nat) (hk : k ≤ s.size) (hs : s.size ≤ 9223372036854775807) (ht : Hid (s.extract k (k + wlen (s.data.toList.drop k)) = t)) (w : World) :
    Calls Tryd.prog 58 #[.string s, .int .i64 (k : Int)] w fun e w' => e = .returned (.string t) ∧ w = w' := by
  obtain rfl := ht.out
  exact wordAt_any s k hk hs w
theorem scanName_ok (s t : ByteArray) (k : Nat) (hk : k < s.size) (hs : s.size ≤ 9223372036854775807) (ht : Hid (s.extract k (k + wlen (s.data.toList.drop k)) = t)) (hn : t.size ≤ 16) (B : Nat) (w : World) (hB : B ≤ w.heap.size) :
    Calls Tryd.prog 41 #[.string s, .int .i64 (k : Int)] w (RetB (tkRet 1 t k 0) B w) := by
  go_enter Tryd.func41, Tryd.ntmps41
  go_wp2_with (go_at_call 58; ((with_reducible refine (wordAt_at s t k (Nat.le_of_lt hk) hs ht _).mono ?_); rintro e w' ⟨rfl, rfl⟩))
  exact bodyPost_ret (v := tkRet 1 t k 0) (by simp [results, Tryd.results41, go_sem]) rfl (retB rfl ((Below.refl _ _).alloc hB _))
theorem scanName_err (s t : ByteArray) (k : Nat) (hk : k < s.size) (hs : s.size ≤ 9223372036854775807) (ht : Hid (s.extract k (k + wlen (s.data.toList.drop k)) = t)) (hn : 16 < t.size) (B : Nat) (w : World) (hB : B ≤ w.heap.size) :
    Calls Tryd.prog 41 #[.string s, .int .i64 (k : Int)] w (RetB (tkRet 0 ⟨#[]⟩ 0 6) B w) := by
  go_enter Tryd.func41, Tryd.ntmps41
  go_wp2_with (go_at_call 58; ((with_reducible refine (wordAt_at s t k (Nat.le_of_lt hk) hs ht _).mono ?_); rintro e w' ⟨rfl, rfl⟩))
  exact bodyPost_ret (v := tkRet 0 ⟨#[]⟩ 0 6) (by simp [results, Tryd.results41, go_sem]) rfl (retB rfl ((Below.refl _ _).alloc hB _))
theorem isNumber_at (t : ByteArray) (b : Bool) (h0 : 0 < t.size) (hs : t.size ≤ 9223372036854775807) (h : Hid (numB t.data.toList most63 = b)) (w : World) :
    Calls Tryd.prog 59 #[.string t] w (IsB b w) := by
  obtain rfl := h.out
  exact isNumber_any t h0 hs w
theorem scanNumber_ok (s t : ByteArray) (k : Nat) (hk : k < s.size) (hs : s.size ≤ 9223372036854775807) (ht : Hid (s.extract k (k + wlen (s.data.toList.drop k)) = t)) (h0 : 0 < t.size) (hts : t.size ≤ 9223372036854775807) (hn : Hid (numB t.data.toList most63 = true)) (B : Nat) (w : World) (hB : B ≤ w.heap.size) :
    Calls Tryd.prog 39 #[.string s, .int .i64 (k : Int)] w (RetB (tkRet 2 t k 0) B w) := by
  go_enter Tryd.func39, Tryd.ntmps39
  go_wp2_with (first | (go_at_call 58; ((with_reducible refine (wordAt_at s t k (Nat.le_of_lt hk) hs ht _).mono ?_); rintro e w' ⟨rfl, rfl⟩)) | (go_at_call 59; ((with_reducible refine (isNumber_at t true h0 hts hn _).mono ?_); rintro e w' ⟨rfl, rfl⟩)))
  exact bodyPost_ret (v := tkRet 2 t k 0) (by simp [results, Tryd.results39, go_sem]) rfl (retB rfl ((Below.refl _ _).alloc hB _))
theorem scanNumber_err (s t : ByteArray) (k : Nat) (hk : k < s.size) (hs : s.size ≤ 9223372036854775807) (ht : Hid (s.extract k (k + wlen (s.data.toList.drop k)) = t)) (h0 : 0 < t.size) (hts : t.size ≤ 9223372036854775807) (hn : Hid (numB t.data.toList most63 = false)) (B : Nat) (w : World) (hB : B ≤ w.heap.size) :
    Calls Tryd.prog 39 #[.string s, .int .i64 (k : Int)] w (RetB (tkRet 0 ⟨#[]⟩ 0 2) B w) := by
  go_enter Tryd.func39, Tryd.ntmps39
  go_wp2_with (first | (go_at_call 58; ((with_reducible refine (wordAt_at s t k (Nat.le_of_lt hk) hs ht _).mono ?_); rintro e w' ⟨rfl, rfl⟩)) | (go_at_call 59; ((with_reducible refine (isNumber_at t false h0 hts hn _).mono ?_); rintro e w' ⟨rfl, rfl⟩)))
  exact bodyPost_ret (v := tkRet 0 ⟨#[]⟩ 0 2) (by simp [results, Tryd.results39, go_sem]) rfl (retB rfl ((Below.refl _ _).alloc hB _))
theorem symLen_at (s : ByteArray) (k n : Nat) (hk : k < s.size) (h : Hid (symLen (s.data.toList.drop k) = n)) (B : Nat) (w : World) (ht : Tab B w) :
    Calls Tryd.prog 60 #[.string (s.extract k s.size)] w fun e w' => e = .returned (.int .i64 (n : Int)) ∧ w = w' := by
  obtain rfl := h.out
  have := symbolLength_any (s.extract k s.size) (by rw [← size_len, tail_list, List.length_drop, size_len]; omega) B w ht
  rwa [tail_list] at this
set_option maxRecDepth 100000 in
theorem scanSymbol_ok (s : ByteArray) (k n : Nat) (hk : k < s.size) (hs : s.size ≤ 9223372036854775807) (h : Hid (symLen (s.data.toList.drop k) = n)) (h0 : 0 < n) (hn : k + n ≤ s.size) (B : Nat) (w : World) (hB : B ≤ w.heap.size) (ht : Tab B w) :
    Calls Tryd.prog 42 #[.string s, .int .i64 (k : Int)] w (RetB (tkRet 3 (s.extract k (k + n)) k 0) B w) := by
  have hz : ((n : Int) == 0) = false := beqF (by omega)
  have a1 : (0 : Int) ≤ (k : Int) + (n : Int) := by omega
  have a2 : (k : Int) ≤ (k : Int) + (n : Int) := by omega
  have a3 : (k : Int) + (n : Int) ≤ (s.size : Int) := by omega
  have a4 : ((k : Int) + (n : Int)).toNat = k + n := by omega
  have a5 : (0 : Int) ≤ (k : Int) := by omega
  have ht2 : ∀ o, Tab B (w.alloc o) := fun o => ht.on ((Below.refl _ _).alloc hB o)
  go_enter Tryd.func42, Tryd.ntmps42
  go_wp2_with (go_at_call 60; ((with_reducible refine (symLen_at s k n hk h B _ (ht2 _)).mono ?_); rintro e w' ⟨rfl, rfl⟩))
  exact bodyPost_ret (v := tkRet 3 (s.extract k (k + n)) k 0) (by simp [results, Tryd.results42, go_sem]) rfl (retB rfl ((Below.refl _ _).alloc hB _))
theorem scanSymbol_err (s : ByteArray) (k : Nat) (hk : k < s.size) (_hs : s.size ≤ 9223372036854775807) (h : Hid (symLen (s.data.toList.drop k) = 0)) (B : Nat) (w : World) (hB : B ≤ w.heap.size) (ht : Tab B w) :
    Calls Tryd.prog 42 #[.string s, .int .i64 (k : Int)] w (RetB (tkRet 0 ⟨#[]⟩ 0 2) B w) := by
  have ht2 : ∀ o, Tab B (w.alloc o) := fun o => ht.on ((Below.refl _ _).alloc hB o)
  go_enter Tryd.func42, Tryd.ntmps42
  go_wp2_with (go_at_call 60; ((with_reducible refine (symLen_at s k 0 hk h B _ (ht2 _)).mono ?_); rintro e w' ⟨rfl, rfl⟩))
  exact bodyPost_ret (v := tkRet 0 ⟨#[]⟩ 0 2) (by simp [results, Tryd.results42, go_sem]) rfl (retB rfl ((Below.refl _ _).alloc hB _))
end Go.Proofs.YtjeidpfpgolonaaDoor
