/- Stage 2: the walk of the reference's SameTokens on equal lists of tokens. -/
import Derived.Test.YtjeidpfpgolonaaDoorLg
import Derived.Deep.QuietTactic
import Derived.BigQuiet
namespace Go.Proofs.YtjeidpfpgolonaaDoor
open Go.RowKit (wrap64 intOf)
open Go Go.RowKit WM LX

/-- The slice at A holds the tokens ts; it lies below block B. -/
def Toks (w : World) (B : Nat) (A : Option Addr) (ts : List Tk) : Prop := 0 < ts.length → ∃ g, A = some ⟨g, 0, none⟩ ∧ g < B ∧ ∀ j u, (tksC ts)[j]? = some u → w.cell? ⟨g, j, none⟩ = some u
theorem Toks.on {w w' : World} {B : Nat} {A : Option Addr} {ts : List Tk} (h : Toks w B A ts) (hb : Below B w w') : Toks w' B A ts := fun h0 => by
  obtain ⟨g, hA, hg, hc⟩ := h h0
  exact ⟨g, hA, hg, fun j u hu => (hb.cell (p := ⟨g, j, none⟩) hg).trans (hc j u hu)⟩
theorem Toks.up {w : World} {B B' : Nat} {A : Option Addr} {ts : List Tk} (h : Toks w B A ts) (hb : B ≤ B') : Toks w B' A ts := fun h0 => by
  obtain ⟨g, hA, hg, hc⟩ := h h0
  exact ⟨g, hA, Nat.lt_of_lt_of_le hg hb, hc⟩
theorem tksC_length (ts : List Tk) : (tksC ts).length = ts.length * 3 := by
  unfold tksC
  induction ts with
  | nil => rfl
  | cons t r ih => rw [List.flatMap_cons, List.length_append, ih]; simp [tkC]; omega
theorem tksC_get (ts : List Tk) (i : Nat) (t : Tk) (h : ts[i]? = some t) : (tksC ts)[i * 3]? = some (.int .i64 (t.kind : Int)) ∧ (tksC ts)[i * 3 + 1]? = some (.string ⟨t.text.toArray⟩) ∧ (tksC ts)[i * 3 + 2]? = some (.int .i64 (t.pos : Int)) := by
  induction ts generalizing i with
  | nil => simp at h
  | cons a r ih =>
    have e : tksC (a :: r) = tkC a ++ tksC r := rfl
    cases i with
    | zero =>
      obtain rfl : a = t := by simpa using h
      exact ⟨rfl, rfl, rfl⟩
    | succ i =>
      have := ih i (by simpa using h)
      rw [e]
      have e1 : ∀ j, (tkC a ++ tksC r)[(i + 1) * 3 + j]? = (tksC r)[i * 3 + j]? := fun j => by
        rw [List.getElem?_append_right (by simp [tkC]; omega)]
        congr 1
        simp [tkC]; omega
      exact ⟨(e1 0).trans this.1, (e1 1).trans this.2.1, (e1 2).trans this.2.2⟩
theorem toks_own {w : World} {base : Nat} {v : Value} {ts : List Tk} (h : w.ownsRow base 54 3 v ts.length (tksC ts)) : ∃ A c, v = .slice A ts.length c ∧ Toks w w.heap.size A ts := by
  by_cases h0 : 0 < ts.length
  · obtain ⟨g, cap, hv, _, hlt⟩ := h.form h0
    refine ⟨_, cap, hv, fun _ => ⟨g, rfl, hlt, fun j u hu => ?_⟩⟩
    have := h.cells (g := g) (by rw [hv]; rfl) j u hu
    rwa [show (⟨g, 0, none⟩ : Addr).add j = ⟨g, j, none⟩ by unfold Addr.add; split <;> simp_all] at this
  · have hz : ts = [] := List.eq_nil_of_length_eq_zero (by omega)
    subst hz
    rcases h.2 with ⟨rfl, _⟩ | ⟨g, cap, cur, hv, _⟩
    · exact ⟨none, 0, rfl, fun h => absurd h (by decide)⟩
    · exact ⟨_, cap, hv, fun h => absurd h (by decide)⟩
/-- The call only reads: it may draw. -/
def RetQ (v : Value) (w : World) (e : Ending) (w' : World) : Prop := e = .returned v ∧ ∃ m, w' = w.drewN m
theorem retQ {v v' : Value} {w : World} {m : Nat} (h : v' = v) : RetQ v w (.returned v') (w.drewN m) := ⟨by rw [h], m, rfl⟩
theorem drew0 (w : World) : w.drewN 0 = w := rfl
set_option maxRecDepth 100000
theorem same_true (A A' : Option Addr) (n c c' B : Nat) (ts : List Tk) (hn : ts.length = n) (hlen : n ≤ 1000000) (w : World) (h1 : Toks w B A ts) (h2 : Toks w B A' ts) :
    Calls Tryd.prog 12 #[.slice A n c, .slice A' n c'] w (RetQ (.bool true) w) := by
  have HN := Lib.hid hn
  have H1 := Lib.hid h1
  have H2 := Lib.hid h2
  clear hn h1 h2
  go_enter Tryd.func12, Tryd.ntmps12
  go_wp2_with fail
  go_loopw [5] (fun i wr => ∃ k m : Nat, k ≤ n ∧ i = .int .i64 k ∧ wr = w.drewN m) (fun i _ => n - (intOf i).toNat)
  case atStart => exact ⟨0, 0, Nat.zero_le _, rfl, rfl⟩
  case round =>
    obtain ⟨k, m, hk, rfl, rfl⟩ := hrel
    by_cases hlt : k < n
    · obtain ⟨g, rfl, _, hc⟩ := H1.out (by rw [HN.out]; omega)
      obtain ⟨g', rfl, _, hc'⟩ := H2.out (by rw [HN.out]; omega)
      obtain ⟨t, ht⟩ : ∃ t, ts[k]? = some t := ⟨_, List.getElem?_eq_getElem (by rw [HN.out]; exact hlt)⟩
      obtain ⟨t0, t1, t2⟩ := tksC_get ts k t ht
      have a0 := hc _ _ t0
      have a1 := hc _ _ t1
      have a2 := hc _ _ t2
      have b0 := hc' _ _ t0
      have b1 := hc' _ _ t1
      have b2 := hc' _ _ t2
      clear hc hc' t0 t1 t2 ht
      generalize (t.kind : Int) = x0 at a0 b0
      generalize (⟨t.text.toArray⟩ : ByteArray) = x1 at a1 b1
      generalize (t.pos : Int) = x2 at a2 b2
      go_wp2_with fail
      go_quiet (fail)
      go_wp2_with fail
      go_roundw
      case rel => exact ⟨k + 1, _, by omega, by go_num, rfl⟩
      case measure => simp [intOf]; omega
    · obtain rfl : k = n := by omega
      go_wp2_with fail
      go_ret
      exact retQ rfl
end Go.Proofs.YtjeidpfpgolonaaDoor
