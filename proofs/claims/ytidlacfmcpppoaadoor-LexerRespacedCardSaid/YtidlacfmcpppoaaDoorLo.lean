/- Stage 2: Scan and the reference's Scan on every string; LexerExamples returns true. -/
import Derived.Test.YtidlacfmcpppoaaDoorLj
import Derived.Test.YtidlacfmcpppoaaDoorLk
import Derived.Test.YtidlacfmcpppoaaDoorLl
import Derived.Test.YtidlacfmcpppoaaDoorLn
namespace Go.Proofs.YtidlacfmcpppoaaDoor
open Go.RowKit (wrap64 intOf)
open Go Go.RowKit WM LX

theorem scan_any (s : ByteArray) (w : World) (ht : Tab w.heap.size w) : Calls Tryd.prog 9 #[.string s] w (ScanP (scanF s.data.toList) w) := by
  by_cases h : s.size ≤ 20000
  · exact scan_short s h w ht
  · exact scan_long s (by omega) w
theorem rscan_any (s : ByteArray) (w : World) : Calls Tryd.prog 13 #[.string s] w (ScanP (scanF s.data.toList) w) := by
  by_cases h : s.size ≤ 20000
  · exact rscan_short s h w
  · exact rscan_long s (by omega) w
/-- What a caller of Scan gets to know. -/
def ScanQ (q : List Tk × Nat × Nat) (w : World) (e : Ending) (w' : World) : Prop :=
  ∃ A c, e = .returned (.tuple #[.slice A q.1.length c, .agg #[.int .i64 (q.2.1 : Int), .int .i64 (q.2.2 : Int)]]) ∧ Toks w' w'.heap.size A q.1 ∧ Below w.heap.size w w'
theorem scanQ_of {q : List Tk × Nat × Nat} {w : World} {e : Ending} {w' : World} (h : ScanP q w e w') : ScanQ q w e w' := by
  obtain ⟨v, rfl, hown, hb⟩ := h
  obtain ⟨A, c, rfl, ht⟩ := toks_own hown
  exact ⟨A, c, rfl, ht, hb⟩
theorem scan_q (s : ByteArray) (q : List Tk × Nat × Nat) (hq : Hid (scanF s.data.toList = q)) (w : World) (ht : Tab w.heap.size w) : Calls Tryd.prog 9 #[.string s] w (ScanQ q w) := by
  obtain rfl := hq.out
  exact (scan_any s w ht).mono fun _ _ h => scanQ_of h
theorem rscan_q (s : ByteArray) (q : List Tk × Nat × Nat) (hq : Hid (scanF s.data.toList = q)) (w : World) : Calls Tryd.prog 13 #[.string s] w (ScanQ q w) := by
  obtain rfl := hq.out
  exact (rscan_any s w).mono fun _ _ h => scanQ_of h
theorem lx_step {r r' x : List UInt8} {p n kd : Nat} (hs : skipLen false r = 0) (hr : r ≠ []) (he : tokE r = 0) (hn : tokN r = n) (hk : tokK r = kd) (hx : r.take n = x) (hr' : r.drop n = r') :
    lx r p = (⟨kd, x, p⟩ :: (lx r' (p + n)).1, (lx r' (p + n)).2) := by
  subst hn hk hx hr'
  exact lx_tok p hs hr he
theorem lx_jump {l r : List UInt8} {p n : Nat} (hn : skipLen false l = n) (hr : l.drop n = r) : lx l p = lx r (p + n) := by
  subst hn hr
  exact lx_skip l p
abbrev ex1 : List UInt8 := [97, 62, 62, 62, 49, 32, 35, 32, 120, 10, 33, 61]
abbrev ex1T : List Tk := [⟨1, [97], 0⟩, ⟨3, [62, 62, 62], 1⟩, ⟨2, [49], 4⟩, ⟨3, [33, 61], 10⟩]
theorem ex1_lx : lx ex1 0 = (ex1T, 0, 0) := by
  rw [lx_step (r := ex1) (r' := [62, 62, 62, 49, 32, 35, 32, 120, 10, 33, 61]) (x := [97]) (n := 1) (kd := 1) rfl (by decide) (by decide +kernel) (by decide +kernel) (by decide +kernel) rfl rfl]
  rw [lx_step (r := [62, 62, 62, 49, 32, 35, 32, 120, 10, 33, 61]) (r' := [49, 32, 35, 32, 120, 10, 33, 61]) (x := [62, 62, 62]) (n := 3) (kd := 3) rfl (by decide) (by decide +kernel) (by decide +kernel) (by decide +kernel) rfl rfl]
  rw [lx_step (r := [49, 32, 35, 32, 120, 10, 33, 61]) (r' := [32, 35, 32, 120, 10, 33, 61]) (x := [49]) (n := 1) (kd := 2) rfl (by decide) (by decide +kernel) (by decide +kernel) (by decide +kernel) rfl rfl]
  rw [lx_jump (l := [32, 35, 32, 120, 10, 33, 61]) (r := [33, 61]) (n := 5) rfl rfl]
  rw [lx_step (r := [33, 61]) (r' := []) (x := [33, 61]) (n := 2) (kd := 3) rfl (by decide) (by decide +kernel) (by decide +kernel) (by decide +kernel) rfl rfl]
  rw [lx_nil]
theorem ex1_scan : scanF ex1 = (ex1T, 0, 0) := by
  unfold scanF
  rw [if_neg (by decide), ex1_lx, if_pos rfl]
abbrev ex2 : List UInt8 := [32, 48, 55]
theorem ex2_scan : scanF ex2 = ([], 2, 1) := by
  unfold scanF
  have e : tokE [48, 55] = 2 := by decide +kernel
  rw [if_neg (by decide), lx_jump (l := ex2) (r := [48, 55]) (n := 1) rfl rfl, lx_err (r := [48, 55]) (0 + 1) rfl (by decide) (by rw [e]; decide), e]
  rfl
end Go.Proofs.YtidlacfmcpppoaaDoor
