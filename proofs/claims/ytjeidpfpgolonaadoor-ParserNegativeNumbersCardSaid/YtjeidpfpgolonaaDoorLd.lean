/- Stage 2: the walk of the lexer's symbolLength. -/
import Derived.Test.YtjeidpfpgolonaaDoorLc
namespace Go.Proofs.YtjeidpfpgolonaaDoor
open Go.RowKit (wrap64 intOf)
open Go Go.RowKit WM LX

def NoLong (l : List UInt8) (k : Nat) : Prop := ∀ j, j < k → (longs.getD j []).isPrefixOf l = false
theorem noLong_succ {l : List UInt8} {k : Nat} (h : NoLong l k) (hk : (longs.getD k []).isPrefixOf l = false) : NoLong l (k + 1) := fun j hj => by
  by_cases e : j = k
  · subst e; exact hk
  · exact h j (by omega)
theorem long_first {l : List UInt8} {k : Nat} (hk : k < 7) (h : NoLong l k) (hp : (longs.getD k []).isPrefixOf l = true) : longLen l = (longs.getD k []).length := by
  have hg : longs[k]? = some (longs.getD k []) := by
    rw [List.getD_eq_getElem?_getD]
    have : k < longs.length := hk
    rw [List.getElem?_eq_getElem this]; rfl
  have hf : longs.find? (fun p => p.isPrefixOf l) = some (longs.getD k []) := by
    rw [List.find?_eq_some_iff_getElem]
    refine ⟨hp, k, hk, by rw [List.getElem?_eq_getElem hk] at hg; exact Option.some.inj hg, fun j hj => ?_⟩
    have := h j hj
    have hj7 : j < longs.length := Nat.lt_trans hj hk
    rw [List.getD_eq_getElem?_getD, List.getElem?_eq_getElem hj7] at this
    simpa using this
  unfold longLen
  rw [hf]
theorem long_none {l : List UInt8} (h : NoLong l 7) : longLen l = 0 := by
  have hf : longs.find? (fun p => p.isPrefixOf l) = none := by
    rw [List.find?_eq_none]
    intro p hp
    obtain ⟨i, hi, rfl⟩ := List.mem_iff_getElem.1 hp
    have := h i hi
    rw [List.getD_eq_getElem?_getD, List.getElem?_eq_getElem hi] at this
    intro hc
    have e : longs[i].isPrefixOf l = false := this
    rw [e] at hc
    cases hc
  unfold longLen
  rw [hf]
theorem sym_long {l : List UInt8} {k n : Nat} (hk : k < 7) (h : NoLong l k) (hp : (longs.getD k []).isPrefixOf l = true) (hn : (longs.getD k []).length = n + 1) : symLen l = n + 1 := by
  unfold symLen
  rw [long_first hk h hp, hn, if_neg (by omega)]
theorem sym_none {l : List UInt8} (h : NoLong l 7) : symLen l = if shorts.contains (l.headD 0) then 1 else 0 := by
  unfold symLen
  rw [long_none h, if_pos rfl]
theorem indexByte_mem (l : List UInt8) (c : UInt8) : (l.contains c = true ∧ 0 ≤ Lib.indexByte l c) ∨ (l.contains c = false ∧ Lib.indexByte l c = -1) := by
  induction l with
  | nil => exact Or.inr ⟨rfl, rfl⟩
  | cons b t ih =>
    rw [Lib.indexByte, List.contains_cons]
    by_cases h : b = c
    · subst h
      exact Or.inl ⟨by simp, by rw [if_pos (beq_self_eq_true b)]; exact Int.le_refl _⟩
    · have h1 : (b == c) = false := by rw [beq_eq_false_iff_ne]; exact h
      have h2 : (c == b) = false := by rw [beq_eq_false_iff_ne]; exact fun e => h e.symm
      rw [h1, h2, Bool.false_or]
      rcases ih with ⟨i1, i2⟩ | ⟨i1, i2⟩
      · have h3 : (Lib.indexByte t c == -1) = false := by rw [beq_eq_false_iff_ne]; omega
        exact Or.inl ⟨i1, by rw [h3]; simp; omega⟩
      · exact Or.inr ⟨i1, by rw [i2]; rfl⟩
abbrev longCells : Array Value := #[.string ⟨#[62, 62, 62]⟩, .string ⟨#[60, 60]⟩, .string ⟨#[62, 62]⟩, .string ⟨#[60, 61]⟩, .string ⟨#[62, 61]⟩, .string ⟨#[61, 61]⟩, .string ⟨#[33, 61]⟩]
abbrev Tab (B : Nat) (w : World) : Prop := FR.TabAt 0 longCells B w
theorem hasP_at (s p : ByteArray) (b : Bool) (h : Hid (p.data.toList.isPrefixOf s.data.toList = b)) (w : World) :
    Calls Tryd.prog 79 #[.string s, .string p] w (IsB b w) :=
  (Tryd.strings_HasPrefix s p w).mono fun _ _ ⟨h1, h2⟩ => ⟨h1.trans (congrArg (fun v => Ending.returned (.bool v)) h.out), h2.symm⟩
theorem short_at (c : UInt8) (v : Int) (h : Hid (Lib.indexByte shorts c = v)) (w : World) :
    Calls Tryd.prog 57 #[.string ⟨#[43, 45, 42, 47, 37, 38, 124, 94, 126, 33, 60, 62, 61, 63, 58, 59, 44, 40, 41, 123, 125, 91, 93]⟩, .int .u8 (c.toNat : Int)] w fun e w' => e = .returned (.int .i64 v) ∧ w = w' :=
  (Tryd.strings_IndexByte _ (c.toNat : Int) w).mono fun e w' ⟨h1, h2⟩ => ⟨h1.trans (congrArg (fun v => Ending.returned (.int .i64 v)) (by
    rw [show (c.toNat : Int).toNat.toUInt8 = c by rw [Int.toNat_natCast]; exact UInt8.ofNat_toNat]; exact h.out)), h2.symm⟩
theorem ix0 (w : World) : (Instr.index 116 (.agg longCells) (.int .i64 0)).run Tryd.prog w = .ok (.string ⟨#[62, 62, 62]⟩) w := by kernel_rfl
theorem ix1 (w : World) : (Instr.index 116 (.agg longCells) (.int .i64 1)).run Tryd.prog w = .ok (.string ⟨#[60, 60]⟩) w := by kernel_rfl
theorem ix2 (w : World) : (Instr.index 116 (.agg longCells) (.int .i64 2)).run Tryd.prog w = .ok (.string ⟨#[62, 62]⟩) w := by kernel_rfl
theorem ix3 (w : World) : (Instr.index 116 (.agg longCells) (.int .i64 3)).run Tryd.prog w = .ok (.string ⟨#[60, 61]⟩) w := by kernel_rfl
theorem ix4 (w : World) : (Instr.index 116 (.agg longCells) (.int .i64 4)).run Tryd.prog w = .ok (.string ⟨#[62, 61]⟩) w := by kernel_rfl
theorem ix5 (w : World) : (Instr.index 116 (.agg longCells) (.int .i64 5)).run Tryd.prog w = .ok (.string ⟨#[61, 61]⟩) w := by kernel_rfl
theorem ix6 (w : World) : (Instr.index 116 (.agg longCells) (.int .i64 6)).run Tryd.prog w = .ok (.string ⟨#[33, 61]⟩) w := by kernel_rfl
theorem longs_at (k : Nat) (hk : k < 7) : ∃ p : ByteArray, (∀ w : World, (Instr.index 116 (.agg longCells) (.int .i64 (k : Int))).run Tryd.prog w = .ok (.string p) w) ∧ p.data.toList = longs.getD k [] := by
  have hc : k = 0 ∨ k = 1 ∨ k = 2 ∨ k = 3 ∨ k = 4 ∨ k = 5 ∨ k = 6 := by omega
  rcases hc with rfl | rfl | rfl | rfl | rfl | rfl | rfl
  · exact ⟨_, ix0, rfl⟩
  · exact ⟨_, ix1, rfl⟩
  · exact ⟨_, ix2, rfl⟩
  · exact ⟨_, ix3, rfl⟩
  · exact ⟨_, ix4, rfl⟩
  · exact ⟨_, ix5, rfl⟩
  · exact ⟨_, ix6, rfl⟩
theorem longs_size (k : Nat) (hk : k < 7) : 2 ≤ (longs.getD k []).length ∧ (longs.getD k []).length ≤ 3 := by
  have hc : k = 0 ∨ k = 1 ∨ k = 2 ∨ k = 3 ∨ k = 4 ∨ k = 5 ∨ k = 6 := by omega
  rcases hc with rfl | rfl | rfl | rfl | rfl | rfl | rfl <;> decide
theorem symbolLength_any (s : ByteArray) (h0 : 0 < s.size) (B : Nat) (w : World) (ht : Tab B w) :
    Calls Tryd.prog 60 #[.string s] w fun e w' => e = .returned (.int .i64 (symLen s.data.toList : Int)) ∧ w = w' := by
  obtain ⟨_, tt, fr, hg⟩ := ht
  have HG := Lib.hid hg
  clear hg
  go_enter Tryd.func60, Tryd.ntmps60
  go_wp2_with (refine wpList_load_row rfl 116 _ rfl 0 rfl tt _ fr _ HG.out Tryd.underlying116 rfl (by kernel_rfl) ?_)
  go_loop [6] (fun i => ∃ j : Nat, j ≤ 7 ∧ NoLong s.data.toList j ∧ i = .int .i64 j) (fun i => 7 - (intOf i).toNat)
  case atStart => exact ⟨0, Nat.zero_le _, fun i hi => absurd hi (by omega), rfl⟩
  case round =>
    obtain ⟨j, hj, hd, rfl⟩ := hrel
    have HD := Lib.hid hd
    clear hd
    by_cases hlt : j < 7
    · obtain ⟨p, hix, hp⟩ := longs_at j hlt
      obtain ⟨hs1, hs2⟩ := longs_size j hlt
      have hps : p.size = (longs.getD j []).length := by rw [← hp]; rfl
      rw [← hps] at hs1 hs2
      have HPS := Lib.hid hps
      have HP := Lib.hid hp
      obtain ⟨b, hb⟩ : ∃ b, p.data.toList.isPrefixOf s.data.toList = b := ⟨_, rfl⟩
      have HB := Lib.hid hb
      clear hp hb hps
      cases b
      · go_wp2_with (go_at_call 79; ((with_reducible refine (hasP_at s p _ HB _).mono ?_); rintro e w' ⟨rfl, rfl⟩))
        go_round
        case rel => exact ⟨j + 1, by omega, noLong_succ HD.out (by rw [← HP.out]; exact HB.out), by go_num⟩
        case measure => simp [intOf]; omega
      · go_wp2_with (go_at_call 79; ((with_reducible refine (hasP_at s p _ HB _).mono ?_); rintro e w' ⟨rfl, rfl⟩))
        go_ret
        refine ⟨ret_i64 ?_, rfl⟩
        have e := long_first hlt HD.out (by rw [← HP.out]; exact HB.out)
        rw [← HPS.out] at e
        unfold symLen
        rw [e, if_neg (by omega)]
    · obtain rfl : j = 7 := by omega
      have hsn := sym_none HD.out
      have hh : s.data.toList.headD 0 = s[0] := by
        have := drop_cons s 0 h0
        rw [List.drop_zero] at this
        rw [this]; rfl
      rw [hh] at hsn
      rcases indexByte_mem shorts s[0] with ⟨i1, i2⟩ | ⟨i1, i2⟩
      · rw [i1, if_pos rfl] at hsn
        obtain ⟨v, hv⟩ : ∃ v, Lib.indexByte shorts s[0] = v := ⟨_, rfl⟩
        rw [hv] at i2
        have HV := Lib.hid hv
        have HS := Lib.hid hsn
        clear hv hsn i1 hh
        go_wp2_with (go_at_call 57; ((with_reducible refine (short_at s[0] v HV _).mono ?_); rintro e w' ⟨rfl, rfl⟩))
        go_ret
        exact ⟨ret_i64 (by rw [HS.out]; rfl), rfl⟩
      · rw [i1, if_neg (by decide)] at hsn
        have HV := Lib.hid i2
        have HS := Lib.hid hsn
        clear i2 hsn i1 hh
        go_wp2_with (go_at_call 57; ((with_reducible refine (short_at s[0] (-1) HV _).mono ?_); rintro e w' ⟨rfl, rfl⟩))
        go_ret
        exact ⟨ret_i64 (by rw [HS.out]; rfl), rfl⟩
end Go.Proofs.YtjeidpfpgolonaaDoor
