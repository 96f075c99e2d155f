/- Stage 2: the walk of the lexer's Scan. -/
import Derived.Test.YtjeidpfpgolonaaDoorLf
import Derived.Test.YtjeidpfpgolonaaDoorMw
namespace Go.Proofs.YtjeidpfpgolonaaDoor
open Go.RowKit (wrap64 intOf)
open Go Go.RowKit WM LX

def tkC (t : Tk) : List Value := [.int .i64 (t.kind : Int), .string ⟨t.text.toArray⟩, .int .i64 (t.pos : Int)]
def tksC (ts : List Tk) : List Value := ts.flatMap tkC
/-- A scan's answer: the tokens in a row of the call's own, the error. -/
def ScanP (q : List Tk × Nat × Nat) (w : World) (e : Ending) (w' : World) : Prop :=
  ∃ v, e = .returned (.tuple #[v, .agg #[.int .i64 (q.2.1 : Int), .int .i64 (q.2.2 : Int)]]) ∧ w'.ownsRow w.heap.size 54 3 v q.1.length (tksC q.1) ∧ Below w.heap.size w w'
/-- At the loop's head: offset k, the tokens before it are ts. -/
def ScanR (s : ByteArray) (w0 : World) (v i : Value) (wr : World) : Prop :=
  ∃ (k : Nat) (ts : List Tk), k ≤ s.size ∧ i = .int .i64 k ∧ skipLen false (s.data.toList.drop k) = 0 ∧ lx s.data.toList 0 = prep ts (lx (s.data.toList.drop k) k) ∧ ts.length ≤ k ∧
    wr.ownsRow (w0.heap.size + 1) 54 3 v ts.length (tksC ts) ∧ Below w0.heap.size w0 wr ∧ Blk wr w0.heap.size 30 #[.int .i64 0, .int .i64 0]
theorem skip_at (s : ByteArray) (k E : Nat) (hk : k ≤ s.size) (hs : s.size ≤ 9223372036854775807) (h : Hid (k + skipLen false (s.data.toList.drop k) = E)) (w : World) :
    Calls Tryd.prog 20 #[.string s, .int .i64 (k : Int)] w fun e w' => e = .returned (.int .i64 (E : Int)) ∧ w = w' := by
  obtain rfl := h.out
  exact skip_any s k hk hs w
theorem skip_start (s : ByteArray) (E : Nat) (hs : s.size ≤ 9223372036854775807) (h : Hid (skipLen false s.data.toList = E)) (w : World) :
    Calls Tryd.prog 20 #[.string s, .int .i64 0] w fun e w' => e = .returned (.int .i64 (E : Int)) ∧ w = w' :=
  skip_at s 0 E (Nat.zero_le _) hs (Lib.hid (by rw [List.drop_zero, Nat.zero_add]; exact h.out)) w
theorem scan_long (s : ByteArray) (hs : 20000 < s.size) (w : World) : Calls Tryd.prog 10 #[.string s] w (ScanP (scanF s.data.toList) w) := by
  have hq : scanF s.data.toList = ([], 6, 20000) := by unfold scanF; rw [if_pos (by rw [size_len]; exact hs)]
  rw [hq]
  clear hq
  go_enter Tryd.func10, Tryd.ntmps10
  go_wp2_with fail
  exact bodyPost_ret (v := .tuple #[.slice none 0 0, .agg #[.int .i64 6, .int .i64 20000]]) (by simp [results, Tryd.results10, go_sem]) rfl
    ⟨_, rfl, World.ownsRow_nil _ _ _ _, (Below.refl _ _).alloc (Nat.le_refl _) _⟩
theorem skip_sum (s : ByteArray) (k n E : Nat) (hk : k + n ≤ s.size) (hs : s.size ≤ 9223372036854775807) (h : Hid (k + n + skipLen false (s.data.toList.drop (k + n)) = E)) (w : World) :
    Calls Tryd.prog 20 #[.string s, .int .i64 ((k : Int) + (n : Int))] w fun e w' => e = .returned (.int .i64 (E : Int)) ∧ w = w' :=
  skip_at s (k + n) E hk hs h w
theorem tokInfo : (Tryd.prog.info? 54).map (fun i => (i.zero, i.size, i.bytes)) = some (some (.agg #[.int .i64 0, .string ⟨#[]⟩, .int .i64 0]), 3, 32) := by kernel_rfl
theorem tksC_snoc (ts : List Tk) (t : Tk) : tksC (ts ++ [t]) = tksC ts ++ tkC t := by unfold tksC; rw [List.flatMap_append]; simp
/-- The relation behind one more token. -/
theorem scanR_step {s : ByteArray} {w0 w2 : World} {v' : Value} {k E : Nat} {ts : List Tk} (hk : k < s.size) (hsk : skipLen false (s.data.toList.drop k) = 0) (hx : lx s.data.toList 0 = prep ts (lx (s.data.toList.drop k) k)) (hts : ts.length ≤ k)
    (he : tokE (s.data.toList.drop k) = 0) (hE : k + tokN (s.data.toList.drop k) + skipLen false (s.data.toList.drop (k + tokN (s.data.toList.drop k))) = E)
    (hown : w2.ownsRow (w0.heap.size + 1) 54 3 v' (ts.length + 1) (tksC ts ++ [.int .i64 (tokK (s.data.toList.drop k) : Nat), .string (s.extract k (k + tokN (s.data.toList.drop k))), .int .i64 (k : Int)]))
    (hb : Below w0.heap.size w0 w2) (hblk : Blk w2 w0.heap.size 30 #[.int .i64 0, .int .i64 0]) : ScanR s w0 v' (.int .i64 (E : Int)) w2 ∧ k < E ∧ E ≤ s.size := by
  have hne := drop_ne s k hk
  have h1 := tokN_pos hne he
  have h2 := tokN_le hne
  rw [drop_len] at h2
  have h3 := skipLen_le false (s.data.toList.drop (k + tokN (s.data.toList.drop k)))
  rw [drop_len] at h3
  have hE2 : E ≤ s.size := by omega
  refine ⟨⟨E, ts ++ [⟨tokK (s.data.toList.drop k), (s.data.toList.drop k).take (tokN (s.data.toList.drop k)), k⟩], hE2, rfl, ?_, ?_, ?_, ?_, hb, hblk⟩, by omega, hE2⟩
  · rw [← hE, ← List.drop_drop]; exact skip_idem false _
  · rw [hx, prep_tok hsk hne he, List.drop_drop, lx_skip, List.drop_drop, hE]
  · rw [List.length_append]; simp; omega
  · rw [tksC_snoc, List.length_append]
    rw [text_eq] at hown
    exact hown
/-- The answer where the token at k is an error. -/
theorem scan_bad {s : ByteArray} {k : Nat} {ts : List Tk} (hs : s.size ≤ 20000) (hk : k < s.size) (hsk : skipLen false (s.data.toList.drop k) = 0) (hx : lx s.data.toList 0 = prep ts (lx (s.data.toList.drop k) k)) (he : tokE (s.data.toList.drop k) ≠ 0) :
    scanF s.data.toList = ([], tokE (s.data.toList.drop k), k) := by
  unfold scanF
  rw [if_neg (by rw [size_len]; omega), hx, lx_err k hsk (drop_ne s k hk) he, if_neg (by exact he)]
  rfl
theorem scan_good {s : ByteArray} {ts : List Tk} (hs : s.size ≤ 20000) (hx : lx s.data.toList 0 = prep ts (lx (s.data.toList.drop s.size) s.size)) : scanF s.data.toList = (ts, 0, 0) := by
  unfold scanF
  rw [if_neg (by rw [size_len]; omega), hx, drop_end, lx_nil, if_pos (by rfl)]
  unfold prep
  simp
theorem tab_at {w0 wr : World} (ht : Tab w0.heap.size w0) (hb : Below w0.heap.size w0 wr) : Tab wr.heap.size wr := (ht.on hb).up hb.size
theorem own_base {w : World} {base base' : Nat} {e : TypeId} {size n : Nat} {v : Value} {xs : List Value} (h : w.ownsRow base e size v n xs) (hb : base' ≤ base) : w.ownsRow base' e size v n xs := by
  refine ⟨h.1, ?_⟩
  rcases h.2 with h0 | ⟨g, cap, cur, hv, hg, r⟩
  · exact Or.inl h0
  · exact Or.inr ⟨g, cap, cur, hv, Nat.le_trans hb hg, r⟩
set_option maxRecDepth 100000
set_option maxHeartbeats 1000000 in
theorem scan_short (s : ByteArray) (hs : s.size ≤ 20000) (w : World) (ht : Tab w.heap.size w) : Calls Tryd.prog 10 #[.string s] w (ScanP (scanF s.data.toList) w) := by
  obtain ⟨q, hq0⟩ : ∃ q, scanF s.data.toList = q := ⟨_, rfl⟩
  rw [hq0]
  have HQ := Lib.hid hq0
  clear hq0
  obtain ⟨i0, hi, hz0, hz1, hz2⟩ := info_parts tokInfo
  have hs2 : s.size ≤ 9223372036854775807 := by omega
  have hdec : decide ((20000 : Int) < (s.size : Int)) = false := decide_eq_false (by omega)
  obtain ⟨E0, hE0⟩ : ∃ E, skipLen false s.data.toList = E := ⟨_, rfl⟩
  have H0 := Lib.hid hE0
  clear hE0
  go_enter Tryd.func10, Tryd.ntmps10
  go_wp2_with (go_at_call 20; ((with_reducible refine (skip_start s E0 hs2 H0 _).mono ?_); rintro e w' ⟨rfl, rfl⟩))
  go_loopw [4, 5] (fun v i wr => ScanR s w v i wr) (fun _ i _ => s.size - (intOf i).toNat)
  case atStart =>
    have hE := H0.out
    have hle := skipLen_le false s.data.toList
    refine ⟨E0, [], by rw [← hE]; exact hle, rfl, ?_, ?_, Nat.zero_le _, World.ownsRow_nil _ _ _ _, (Below.refl _ _).alloc (Nat.le_refl _) _, Blk.new _ _ _⟩
    · rw [← hE]; exact skip_idem false _
    · rw [prep_nil, lx_skip, hE, Nat.zero_add]
  case round =>
    obtain ⟨k, ts, hk, rfl, hsk, hx, hts, hown, hbel, hblk⟩ := hrel
    have HSK := Lib.hid hsk
    have HX := Lib.hid hx
    have HB := Lib.hid hblk
    clear hsk hx hblk
    have hgr := HB.out.lt
    by_cases hlt : k < s.size
    · have htr := tab_at ht hbel
      have hcT := fun W B hB hT => scanToken_any s k hlt hs2 B W hB hT
      by_cases he : tokE (s.data.toList.drop k) = 0
      · rw [tokRet_ok he] at hcT
        have hne := drop_ne s k hlt
        have h1 := tokN_pos hne he
        have h2 := tokN_le hne
        rw [drop_len] at h2
        have hst := fun E h => @scanR_step s w E h
        have htz := text_size s k (tokN (s.data.toList.drop k)) (by omega)
        obtain ⟨E, hE⟩ : ∃ E, k + tokN (s.data.toList.drop k) + skipLen false (s.data.toList.drop (k + tokN (s.data.toList.drop k))) = E := ⟨_, rfl⟩
        have hstep := fun v' w2 h1 h2 h3 => scanR_step (w0 := w) (w2 := w2) (v' := v') hlt HSK.out HX.out hts he hE h1 h2 h3
        rw [← htz] at h1 h2 hE
        generalize s.extract k (k + tokN (s.data.toList.drop k)) = t at *
        generalize tokK (s.data.toList.drop k) = kd at *
        have HE := Lib.hid hE
        have HS := Lib.hid hstep
        have HC := Lib.hid (hcT wr wr.heap.size (Nat.le_refl _) htr)
        clear hcT htr htz hne he hE hstep hst
        have h3 : k + t.size ≤ s.size := by omega
        go_wp2_with (first
          | (go_at_call 21; ((with_reducible refine (HC.out).mono ?_); rintro e w1 ⟨rfl, hb1⟩; have hg1 := (HB.out.on hb1 hgr).lt; have hown1 := own_on hown hb1; have hB1 := Lib.hid (HB.out.on hb1 hgr); clear hown))
          | (go_at_call 20; ((with_reducible refine (skip_sum s k t.size E h3 hs2 HE _).mono ?_); rintro e w' ⟨rfl, rfl⟩))
          | (at_builtin
             refine wpList_append_own _ rfl (.tmp 29) (.tmp 31) 27 rfl (w.heap.size + 1) 54 i0 _ 3 32 Tryd.underlying27 hi hz0 hz1 hz2 rfl (by decide) _ _ _ rfl ((hown1.alloc _).alloc _) ⟨w1.heap.size + 1, 0, none⟩ 1 1 [.int .i64 (kd : Int), .string t, .int .i64 (k : Int)] rfl rfl (World.news_of_block (heap_alloc2_new _ _ _)) (by simp [Value.oneCell']) (by unfold maxLen; omega) (by omega) (by simp; omega) ?_
             intro v2 w2 hown2 hgr2 _
             have hb2 : Blk w2 w1.heap.size 54 #[.int .i64 (kd : Int), .string t, .int .i64 (k : Int)] := Blk.grown (heap_alloc2_old _ _ _) hgr2 (own_ne hown1 (Or.inr (Nat.le_refl _)))
             have hct := hb2.cell 1
             have hE2 : Blk w2 w.heap.size 30 #[.int .i64 0, .int .i64 0] := ((hB1.out.alloc _).alloc _).grown hgr2 (own_ne hown1 (Or.inl (Nat.lt_succ_self _)))
             have hbel2 : Below w.heap.size w w2 := (((hbel.trans (hb1.mono hbel.size)).alloc (Nat.le_of_lt hg1) _).alloc (by simp; omega) _).grown hgr2 (by simp; omega) (fun b hb => Nat.le_of_lt (hown1.lt b hb).1)
             obtain ⟨hR, hlt2, hle2⟩ := HS.out v2 w2 hown2 hbel2 hE2
             clear hown2 hgr2 hb2 hE2 hbel2 hown1))
        go_roundw
        case rel => exact hR
        case measure => simp [intOf]; omega
      · rw [tokRet_err he] at hcT
        obtain rfl := HQ.out.symm.trans (scan_bad hs hlt HSK.out HX.out he)
        clear HQ
        generalize tokE (s.data.toList.drop k) = y at *
        have b1 : ((y : Int) == 0) = false := beqF (by omega)
        have b2 : ((y : Int) != 0) = true := by rw [bne, b1]; rfl
        have HC := Lib.hid (hcT wr wr.heap.size (Nat.le_refl _) htr)
        clear hcT he htr
        go_wp2_with (go_at_call 21; ((with_reducible refine (HC.out).mono ?_); rintro e w1 ⟨rfl, hb1⟩; have hg1 := (HB.out.on hb1 hgr).lt; obtain ⟨hc0, hc1, hf0, hf1⟩ := (HB.out.on hb1 hgr).cells2))
        exact bodyPost_ret (v := .tuple #[.slice none 0 0, .agg #[.int .i64 (y : Int), .int .i64 (k : Int)]]) (by simp [results, Tryd.results10, go_sem, hc0, hc1, hg1]) rfl
          ⟨_, rfl, World.ownsRow_nil _ _ _ _, ((((hbel.trans (hb1.mono hbel.size)).setCell (Nat.le_refl _) _).setCell (Nat.le_refl _) _).alloc (by simp [World.setCell]; omega) _)⟩
    · obtain rfl : k = s.size := by omega
      obtain rfl := HQ.out.symm.trans (scan_good hs HX.out)
      obtain ⟨hc0, hc1, hf0, hf1⟩ := HB.out.cells2
      go_wp2_with fail
      exact bodyPost_ret (v := .tuple #[u4, .agg #[.int .i64 0, .int .i64 0]]) (by simp [results, Tryd.results10, go_sem, hc0, hc1]) rfl
        ⟨_, rfl, own_base (own_set (own_set hown (Nat.lt_succ_self _) _) (Nat.lt_succ_self _) _) (Nat.le_succ _), ((hbel.setCell (Nat.le_refl _) _).setCell (Nat.le_refl _) _)⟩
end Go.Proofs.YtjeidpfpgolonaaDoor
