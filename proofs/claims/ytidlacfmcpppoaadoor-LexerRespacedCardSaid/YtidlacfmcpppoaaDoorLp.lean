/- Stage 2: the walk of LexerExamples. -/
import Derived.Test.YtidlacfmcpppoaaDoorLo
namespace Go.Proofs.YtidlacfmcpppoaaDoor
open Go.RowKit (wrap64 intOf)
open Go Go.RowKit WM LX

theorem toks_blk {w : World} {g B : Nat} {t : TypeId} {cs : Array Value} {ts : List Tk} (h : Blk w g t cs) (hc : cs = (tksC ts).toArray) (hg : g < B) : Toks w B (some ⟨g, 0, none⟩) ts := fun _ => by
  refine ⟨g, rfl, hg, fun j u hu => ?_⟩
  rw [h.cell j, hc]
  simpa using hu
def ExS (n : Nat) (ts : List Tk) (y p : Int) (w : World) (e : Ending) (w' : World) : Prop :=
  ∃ A c, e = .returned (.tuple #[.slice A n c, .agg #[.int .i64 y, .int .i64 p]]) ∧ Toks w' w'.heap.size A ts ∧ Below w.heap.size w w'
theorem exS_of {q : List Tk × Nat × Nat} {w : World} {e : Ending} {w' : World} (h : ScanQ q w e w') : ExS q.1.length q.1 (q.2.1 : Int) (q.2.2 : Int) w e w' := h
theorem ex1_call (w : World) (ht : Tab w.heap.size w) : Calls Tryd.prog 9 #[.string ⟨#[97, 62, 62, 62, 49, 32, 35, 32, 120, 10, 33, 61]⟩] w (ExS 4 ex1T 0 0 w) :=
  (scan_q ⟨#[97, 62, 62, 62, 49, 32, 35, 32, 120, 10, 33, 61]⟩ _ (Lib.hid ex1_scan) w ht).mono fun _ _ h => exS_of h
theorem ex2_call (w : World) (ht : Tab w.heap.size w) : Calls Tryd.prog 9 #[.string ⟨#[32, 48, 55]⟩] w (ExS 0 [] 2 1 w) :=
  (scan_q ⟨#[32, 48, 55]⟩ _ (Lib.hid ex2_scan) w ht).mono fun _ _ h => exS_of h
theorem same_at (A A' : Option Addr) (n c c' B : Nat) (ts : List Tk) (hn : Hid (ts.length = n)) (hlen : n ≤ 1000000) (w : World) (h1 : Toks w B A ts) (h2 : Toks w B A' ts) :
    Calls Tryd.prog 10 #[.slice A n c, .slice A' n c'] w (RetB (.bool true) w.heap.size w) :=
  (same_true A A' n c c' B ts hn.out hlen w h1 h2).mono fun _ _ ⟨h1, m, h2⟩ => ⟨h1, by rw [h2]; exact below_drewN (Below.refl _ _) m⟩
set_option maxRecDepth 100000
theorem examples_any (w : World) (ht : Tab w.heap.size w) : Calls Tryd.prog 3 #[] w (RetB (.bool true) w.heap.size w) := by
  go_enter Tryd.func3, Tryd.ntmps3
  go_wp2_with (go_at_call 9; ((with_reducible refine (ex1_call _ ht).mono ?_); rintro e w1 ⟨A, c, rfl, htk, hb1⟩))
  have ht1 : Tab (w1.alloc (.cells #[.int .i64 0, .int .i64 0] 25)).heap.size (w1.alloc (.cells #[.int .i64 0, .int .i64 0] 25)) := (ht.on (hb1.alloc hb1.size _)).up (hb1.alloc hb1.size _).size
  have HTK := Lib.hid htk
  clear htk
  go_wp2_with (go_at_call 9; ((with_reducible refine (ex2_call _ ht1).mono ?_); rintro e w2 ⟨A2, c2, rfl, htk2, hb2⟩; have hE := (Blk.new w1 25 #[.int .i64 0, .int .i64 0]).on hb2 (by simp); have hg2 := hE.lt; obtain ⟨hc0, hc1, hf0, hf1⟩ := hE.cells2; have hbA : Below w1.heap.size w1 w2 := ((Below.refl _ _).alloc (Nat.le_refl _) _).trans (hb2.mono (by simp)); clear hE htk2 hb2))
  have hbB : ∀ o o' : Obj, Below w1.heap.size w1 ((w2.alloc o).alloc o') := fun o o' => (hbA.alloc hbA.size _).alloc (Nat.le_trans hbA.size (by simp)) _
  refine (same_at A _ 4 c 4 (w2.heap.size + 2) ex1T (Lib.hid rfl) (by decide) _ ((HTK.out.on (hbB _ _)).up (Nat.le_trans hbA.size (Nat.le_add_right _ _))) (toks_blk (heap_alloc2_new _ _ _) rfl (Nat.lt_succ_self _))).mono ?_
  rintro e w3 ⟨rfl, hb3⟩
  obtain ⟨hcc, hff⟩ := bcell hb3
  have hbC := (hbB _ _).trans (hb3.mono (hbB _ _).size)
  clear hbB
  go_wp2_with fail
  go_ret
  exact retB rfl (hb1.trans (hbC.mono hb1.size))
end Go.Proofs.YtidlacfmcpppoaaDoor
