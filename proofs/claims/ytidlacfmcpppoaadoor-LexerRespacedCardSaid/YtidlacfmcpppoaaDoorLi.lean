/- Stage 2: the reference's Scan: what its loop keeps. -/
import Derived.Test.YtidlacfmcpppoaaDoorLg
import Derived.Test.YtidlacfmcpppoaaDoorLh
namespace Go.Proofs.YtidlacfmcpppoaaDoor
open Go.RowKit (wrap64 intOf)
open Go Go.RowKit WM LX

/-- At the reference's loop's head: offset k, the tokens before it are ts. -/
def RScanR (s : ByteArray) (w0 : World) (v i : Value) (wr : World) : Prop :=
  ∃ (k : Nat) (ts : List Tk), k ≤ s.size ∧ i = .int .i64 k ∧ lx s.data.toList 0 = prep ts (lx (s.data.toList.drop k) k) ∧ ts.length ≤ k ∧
    wr.ownsRow (w0.heap.size + 1) 30 3 v ts.length (tksC ts) ∧ Below w0.heap.size w0 wr ∧ Blk wr w0.heap.size 25 #[.int .i64 0, .int .i64 0]
theorem tok_skip {s : ByteArray} {k : Nat} (hk : k < s.size) (h : sepB s[k] = false) (h2 : s[k].toNat ≠ 35) : skipLen false (s.data.toList.drop k) = 0 := by
  rw [drop_cons s k hk]; exact skip_zero _ h h2
theorem rScan_sep {s : ByteArray} {w0 wr : World} {v : Value} {k : Nat} {ts : List Tk} (hk : k < s.size) (hx : lx s.data.toList 0 = prep ts (lx (s.data.toList.drop k) k)) (hts : ts.length ≤ k)
    (hown : wr.ownsRow (w0.heap.size + 1) 30 3 v ts.length (tksC ts)) (hb : Below w0.heap.size w0 wr) (hblk : Blk wr w0.heap.size 25 #[.int .i64 0, .int .i64 0])
    (h : sepB s[k] = true) : RScanR s w0 v (.int .i64 ((k : Int) + 1)) wr :=
  ⟨k + 1, ts, hk, rfl, by rw [hx, drop_cons s k hk, lx_sep _ _ h], by omega, hown, hb, hblk⟩
theorem rScan_hash {s : ByteArray} {w0 wr : World} {v : Value} {k : Nat} {ts : List Tk} (hk : k < s.size) (hx : lx s.data.toList 0 = prep ts (lx (s.data.toList.drop k) k)) (hts : ts.length ≤ k)
    (hown : wr.ownsRow (w0.heap.size + 1) 30 3 v ts.length (tksC ts)) (hb : Below w0.heap.size w0 wr) (hblk : Blk wr w0.heap.size 25 #[.int .i64 0, .int .i64 0])
    (h : s[k].toNat = 35) : RScanR s w0 v (.int .i64 ((k + eol (s.data.toList.drop k) : Nat) : Int)) wr := by
  obtain ⟨g1, g2⟩ := eol_hash hk h
  refine ⟨k + eol (s.data.toList.drop k), ts, g2, rfl, ?_, by omega, hown, hb, hblk⟩
  rw [← List.drop_drop]
  rw [drop_cons s k hk] at hx ⊢
  rw [hx, lx_hash _ _ h]
theorem rScan_tok {s t : ByteArray} {w0 w2 : World} {v' : Value} {k kd : Nat} {ts : List Tk} (hk : k < s.size) (hsk : skipLen false (s.data.toList.drop k) = 0) (hx : lx s.data.toList 0 = prep ts (lx (s.data.toList.drop k) k)) (hts : ts.length ≤ k)
    (he : tokE (s.data.toList.drop k) = 0) (hkd : tokK (s.data.toList.drop k) = kd) (ht : t.data.toList = (s.data.toList.drop k).take (tokN (s.data.toList.drop k)))
    (hown : w2.ownsRow (w0.heap.size + 1) 30 3 v' (ts.length + 1) (tksC ts ++ [.int .i64 (kd : Int), .string t, .int .i64 (k : Int)]))
    (hb : Below w0.heap.size w0 w2) (hblk : Blk w2 w0.heap.size 25 #[.int .i64 0, .int .i64 0]) : RScanR s w0 v' (.int .i64 ((k : Int) + (t.size : Int))) w2 ∧ 1 ≤ t.size ∧ k + t.size ≤ s.size := by
  have hne := drop_ne s k hk
  have h1 := tokN_pos hne he
  have h2 := tokN_le hne
  have hz : t.size = tokN (s.data.toList.drop k) := by rw [← size_len, ht, List.length_take]; omega
  rw [drop_len] at h2
  have htt : t = ⟨((s.data.toList.drop k).take (tokN (s.data.toList.drop k))).toArray⟩ := by
    apply ByteArray.ext
    apply Array.toList_inj.1
    rw [ht]
  refine ⟨⟨k + t.size, ts ++ [⟨kd, (s.data.toList.drop k).take (tokN (s.data.toList.drop k)), k⟩], by omega, by rw [Int.natCast_add], ?_, ?_, ?_, hb, hblk⟩, by omega, by omega⟩
  · rw [hx, prep_tok hsk hne he, List.drop_drop, hkd, hz]
  · rw [List.length_append]; simp; omega
  · rw [tksC_snoc, List.length_append]
    rw [htt] at hown
    exact hown
/-- To the end of the line from j: E. -/
def EAt (s : ByteArray) (E j : Nat) : Prop := j + eol (s.data.toList.drop j) = E
theorem eat_step {s : ByteArray} {E j : Nat} (h : EAt s E j) (hj : j < s.size) (hw : s[j].toNat ≠ 10) : EAt s E (j + 1) := by
  unfold EAt at *; rw [drop_cons s j hj, eol_cons _ hw] at h; omega
theorem eat_stop {s : ByteArray} {E j : Nat} (h : EAt s E j) (hj : j < s.size) (hw : s[j].toNat = 10) : E = j := by
  unfold EAt at *; rw [drop_cons s j hj, eol_nl _ hw] at h; omega
theorem eat_end {s : ByteArray} {E : Nat} (h : EAt s E s.size) : E = s.size := by
  unfold EAt at *; rw [drop_end] at h; simp [eol] at h; omega
theorem wat_cases {s : ByteArray} {E j : Nat} (hj : j ≤ s.size) (h : WAt s E j) :
    (∃ hj2 : j < s.size, (letB s[j] = true ∧ WAt s E (j + 1)) ∨ (letB s[j] = false ∧ digB s[j] = true ∧ WAt s E (j + 1))) ∨ (∃ hj2 : j < s.size, letB s[j] = false ∧ digB s[j] = false ∧ E = j) ∨ (E = j ∧ ¬ j < s.size) := by
  by_cases hlt : j < s.size
  · by_cases hw : wordB s[j] = true
    · have h2 := wat_step h hlt hw
      by_cases hl : letB s[j] = true
      · exact Or.inl ⟨hlt, Or.inl ⟨hl, h2⟩⟩
      · have hl : letB s[j] = false := by simpa using hl
        have hd : digB s[j] = true := by unfold wordB at hw; rw [hl] at hw; simpa using hw
        exact Or.inl ⟨hlt, Or.inr ⟨hl, hd, h2⟩⟩
    · have hw : wordB s[j] = false := by simpa using hw
      have hw2 := hw
      unfold wordB at hw2
      rw [Bool.or_eq_false_iff] at hw2
      exact Or.inr (Or.inl ⟨hlt, hw2.1, hw2.2, wat_stop h hlt hw⟩)
  · obtain rfl : j = s.size := by omega
    exact Or.inr (Or.inr ⟨wat_end h, Nat.lt_irrefl _⟩)
theorem rScan_start (s : ByteArray) (w : World) (o : Array Value) (ho : o = #[.int .i64 0, .int .i64 0]) : RScanR s w (.slice none 0 0) (.int .i64 0) (w.alloc (.cells o 25)) := by
  subst ho
  refine ⟨0, [], Nat.zero_le _, rfl, ?_, Nat.le_refl _, World.ownsRow_nil _ _ _ _, (Below.refl _ _).alloc (Nat.le_refl _) _, Blk.new _ _ _⟩
  rw [prep_nil, List.drop_zero]
theorem rscan_long (s : ByteArray) (hs : 20000 < s.size) (w : World) : Calls Tryd.prog 13 #[.string s] w (ScanP (scanF s.data.toList) w) := by
  have hq : scanF s.data.toList = ([], 6, 20000) := by unfold scanF; rw [if_pos (by rw [size_len]; exact hs)]
  rw [hq]
  clear hq
  go_enter Tryd.func13, Tryd.ntmps13
  go_wp2_with fail
  exact bodyPost_ret (v := .tuple #[.slice none 0 0, .agg #[.int .i64 6, .int .i64 20000]]) (by simp [results, Tryd.results13, go_sem]) rfl
    ⟨_, rfl, World.ownsRow_nil _ _ _ _, (Below.refl _ _).alloc (Nat.le_refl _) _⟩
end Go.Proofs.YtidlacfmcpppoaaDoor
