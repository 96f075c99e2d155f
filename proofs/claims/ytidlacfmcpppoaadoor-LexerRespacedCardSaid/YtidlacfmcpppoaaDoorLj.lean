/- Stage 2: the walk of the reference's Scan. -/
import Derived.Test.YtidlacfmcpppoaaDoorLi
namespace Go.Proofs.YtidlacfmcpppoaaDoor
open Go.RowKit (wrap64 intOf)
open Go Go.RowKit WM LX
set_option maxRecDepth 100000
set_option maxHeartbeats 4000000 in
theorem rscan_short (s : ByteArray) (hs : s.size ≤ 20000) (w : World) : Calls Tryd.prog 13 #[.string s] w (ScanP (scanF s.data.toList) w) := by
  obtain ⟨q, hq0⟩ : ∃ q, scanF s.data.toList = q := ⟨_, rfl⟩
  rw [hq0]
  have HQ := Lib.hid hq0
  clear hq0
  obtain ⟨i0, hi, hz0, hz1, hz2⟩ := info_parts tokInfo
  have hs2 : s.size ≤ 9223372036854775807 := by omega
  have hdec : decide ((20000 : Int) < (s.size : Int)) = false := decide_eq_false (by omega)
  go_enter Tryd.func13, Tryd.ntmps13
  go_wp2_with fail
  go_loopw [4, 5] (fun v i wr => RScanR s w v i wr) (fun _ i _ => s.size - (intOf i).toNat)
  case atStart => exact rScan_start s w _ rfl
  case round =>
    obtain ⟨k, ts, hk, rfl, hx, hts, hown, hbel, hblk⟩ := hrel
    have HX := Lib.hid hx
    have HB := Lib.hid hblk
    clear hx hblk
    have hgr := HB.out.lt
    by_cases hlt : k < s.size
    · rcases sep_cases s[k] with ⟨h, hw⟩ | ⟨⟨h1, h2, h3, h4⟩, hw⟩
      · have H := rScan_sep hlt HX.out hts hown hbel HB.out hw
        clear hw hown hbel
        rcases h with h | h | h | h
        all_goals
          have b1 := beqT h
          try have b2 : ((s[k].toNat : Int) == 32) = false := beqF (by omega)
          try have b3 : ((s[k].toNat : Int) == 9) = false := beqF (by omega)
          try have b4 : ((s[k].toNat : Int) == 10) = false := beqF (by omega)
          clear h
          go_wp2_with fail
          go_roundw
          case rel => exact H
          case measure => simp [intOf]; omega
      · have b1 := beqF h1
        have b2 := beqF h2
        have b3 := beqF h3
        have b4 := beqF h4
        clear h1 h2 h3 h4
        by_cases h5 : s[k].toNat = 35
        · have b5 : ((s[k].toNat : Int) == 35) = true := beqT (by omega)
          have H := rScan_hash hlt HX.out hts hown hbel HB.out h5
          obtain ⟨g1, g2⟩ := eol_hash hlt h5
          have hE : EAt s (k + eol (s.data.toList.drop k)) k := rfl
          have g3 : k < k + eol (s.data.toList.drop k) := by omega
          clear g1
          generalize k + eol (s.data.toList.drop k) = E at H g2 hE g3
          clear h5 hw hown hbel
          obtain ⟨wo, rfl⟩ : ∃ wo : World, wo = wr := ⟨_, rfl⟩
          go_wp2_with fail
          go_loop [5] (fun i => ∃ j : Nat, k ≤ j ∧ j ≤ s.size ∧ EAt s E j ∧ i = .int .i64 j) (fun i => s.size - (intOf i).toNat)
          case atStart => exact ⟨k, Nat.le_refl _, hk, hE, rfl⟩
          case round =>
            obtain ⟨j, hkj, hj, hej, rfl⟩ := hrel
            by_cases hlt2 : j < s.size
            · by_cases h6 : s[j].toNat = 10
              · have b6 : ((s[j].toNat : Int) == 10) = true := beqT (by omega)
                have b7 : ((s[j].toNat : Int) != 10) = false := by rw [bne, b6]; rfl
                obtain rfl := eat_stop hej hlt2 h6
                clear h6
                go_wp2_with fail
                go_roundw
                case rel => exact H
                case measure => simp [intOf]; omega
              · have b6 : ((s[j].toNat : Int) == 10) = false := beqF (by omega)
                have b7 : ((s[j].toNat : Int) != 10) = true := by rw [bne, b6]; rfl
                have hst := eat_step hej hlt2 h6
                clear h6
                go_wp2_with fail
                go_round
                case rel => exact ⟨j + 1, by omega, by omega, hst, by go_num⟩
                case measure => simp [intOf]; omega
            · obtain rfl : j = s.size := by omega
              obtain rfl := eat_end hej
              go_wp2_with fail
              go_roundw
              case rel => exact H
              case measure => simp [intOf]; omega
        · have b5 : ((s[k].toNat : Int) == 35) = false := beqF (by omega)
          have hsk := tok_skip hlt hw h5
          clear h5 hw
          by_cases hd : digB s[k] = true
          · obtain ⟨e1, e2, e3⟩ := tok_dig hlt hd
            have hl : letB s[k] = false := by
              rcases byte_cases s[k] with ⟨_, _, _, h'⟩ | ⟨_, _, _, h'⟩ | ⟨_, _, h'⟩ | ⟨_, _, h', _⟩ | ⟨_, h', _⟩
              · rw [hd] at h'; cases h'
              · rw [hd] at h'; cases h'
              · rw [hd] at h'; cases h'
              · exact h'
              · exact h'
            obtain ⟨g1, g2⟩ := wlen_at hlt (word_dig hd)
            have hW : WAt s (k + wlen (s.data.toList.drop k)) k := rfl
            obtain ⟨E, hE⟩ : ∃ E, k + wlen (s.data.toList.drop k) = E := ⟨_, rfl⟩
            rw [hE] at hW g2
            have HE := Lib.hid hE
            have H1 := Lib.hid e1
            have H2 := Lib.hid e2
            have H3 := Lib.hid e3
            have g3 : k < E := by omega
            have HSK := Lib.hid hsk
            clear e1 e2 e3 hE hsk g1
            obtain ⟨wo, rfl⟩ : ∃ wo : World, wo = wr := ⟨_, rfl⟩
            go_wp2_with (first
              | (go_at_call 21; ((with_reducible refine (rLetter_any s[k] _).mono ?_); rintro e w' ⟨rfl, rfl⟩))
              | (go_at_call 22; ((with_reducible refine (rDigit_any s[k] _).mono ?_); rintro e w' ⟨rfl, rfl⟩)))
            go_loop [8] (fun i => ∃ j : Nat, k ≤ j ∧ j ≤ s.size ∧ WAt s E j ∧ i = .int .i64 j) (fun i => s.size - (intOf i).toNat)
            case atStart => exact ⟨k, Nat.le_refl _, hk, hW, rfl⟩
            case round =>
              obtain ⟨j, hkj, hj, hwj, rfl⟩ := hrel
              rcases wat_cases hj hwj with ⟨hj2, ⟨hl2, hwj2⟩ | ⟨hl2, hd2, hwj2⟩⟩ | ⟨hj2, hl2, hd2, rfl⟩ | ⟨rfl, hge⟩
              · go_wp2_with (go_at_call 21; ((with_reducible refine (rLetter_any s[j] _).mono ?_); rintro e w' ⟨rfl, rfl⟩))
                go_round
                case rel => exact ⟨j + 1, by omega, by omega, hwj2, by go_num⟩
                case measure => simp [intOf]; omega
              · go_wp2_with (first
                  | (go_at_call 21; ((with_reducible refine (rLetter_any s[j] _).mono ?_); rintro e w' ⟨rfl, rfl⟩))
                  | (go_at_call 22; ((with_reducible refine (rDigit_any s[j] _).mono ?_); rintro e w' ⟨rfl, rfl⟩)))
                go_round
                case rel => exact ⟨j + 1, by omega, by omega, hwj2, by go_num⟩
                case measure => simp [intOf]; omega
              all_goals
                have htd : (s.extract k E).data.toList = (s.data.toList.drop k).take (wlen (s.data.toList.drop k)) := by
                  rw [← HE.out]; exact text_data s k _
                have hz : (s.extract k E).size = E - k := by rw [ByteArray.size_extract]; omega
                have htz : (s.extract k E).size ≤ 9223372036854775807 := by omega
                have hne : ¬ (s.extract k E).toList = [] := by
                  rw [Lib.toList_data]; intro h
                  have := congrArg List.length h
                  rw [size_len, hz] at this; simp at this; omega
                have hne2 : (s.extract k E).toList.isEmpty = false := by simpa using hne
                obtain ⟨V, hV⟩ : ∃ V : Int, (numV (s.extract k E).data.toList 9223372036854775808 : Int) = V := ⟨_, rfl⟩
                have HV := Lib.hid hV
                have HTD := Lib.hid htd
                have HZ := Lib.hid hz
                clear hV htd hz
                by_cases hn : numB (s.extract k E).data.toList 9223372036854775808 = true
                · have HN := Lib.hid hn
                  have hok : tokE (s.data.toList.drop k) = 0 := by rw [H3.out, ← HTD.out, if_pos (show numB (s.extract k E).data.toList most63 = true from hn)]
                  have hS := fun v' w2 h1 h2 h3 => rScan_tok (t := s.extract k E) (kd := 2) (w0 := w) (w2 := w2) (v' := v') hlt HSK.out HX.out hts hok H1.out (by rw [HTD.out, H2.out]) h1 h2 h3
                  have HS := Lib.hid hS
                  clear hn hS hok
                  go_wp2_with (first
                    | (go_at_call 21; ((with_reducible refine (rLetter_any _ _).mono ?_); rintro e w' ⟨rfl, rfl⟩))
                    | (go_at_call 22; ((with_reducible refine (rDigit_any _ _).mono ?_); rintro e w' ⟨rfl, rfl⟩))
                    | (go_at_call 23; ((with_reducible refine (number_at (s.extract k E) 9223372036854775808 9223372036854775808 V _ htz most2 HV.out HN.out _).mono ?_); rintro e w' ⟨rfl, rfl⟩))
                    | (at_builtin
                       refine wpList_append_own _ rfl (.tmp 114) (.tmp 116) 22 rfl (w.heap.size + 1) 30 i0 _ 3 32 Tryd.underlying22 hi hz0 hz1 hz2 rfl (by decide) _ _ _ rfl ((hown.alloc _).alloc _) ⟨wo.heap.size + 1, 0, none⟩ 1 1 [.int .i64 2, .string (s.extract k E), .int .i64 (k : Int)] rfl rfl (World.news_of_block (heap_alloc2_new _ _ _)) (by simp [Value.oneCell']) (by unfold maxLen; omega) (by omega) (by simp; omega) ?_
                       intro v2 w2 hown2 hgr2 _
                       have hb2 : Blk w2 wo.heap.size 30 #[.int .i64 2, .string (s.extract k E), .int .i64 (k : Int)] := Blk.grown (heap_alloc2_old _ _ _) hgr2 (own_ne hown (Or.inr (Nat.le_refl _)))
                       have hct := hb2.cell 1
                       have hE2 : Blk w2 w.heap.size 25 #[.int .i64 0, .int .i64 0] := ((HB.out.alloc _).alloc _).grown hgr2 (own_ne hown (Or.inl (Nat.lt_succ_self _)))
                       have hbel2 : Below w.heap.size w w2 := ((hbel.alloc (Nat.le_of_lt hgr) _).alloc (by simp; omega) _).grown hgr2 (by simp; omega) (fun b hb => Nat.le_of_lt (hown.lt b hb).1)
                       obtain ⟨hR, hlt2, hle2⟩ := HS.out v2 w2 hown2 hbel2 hE2
                       rw [HZ.out] at hR hlt2 hle2
                       clear hown2 hgr2 hb2 hE2 hbel2))
                  go_roundw
                  case rel => exact hR
                  case measure => simp [intOf]; omega
                · have HN := Lib.hid (by simpa using hn : numB (s.extract k E).data.toList 9223372036854775808 = false)
                  have hbad : tokE (s.data.toList.drop k) = 2 := by
                    rw [H3.out, ← HTD.out, show numB (s.extract k E).data.toList most63 = false from HN.out]; rfl
                  have hq2 := scan_bad hs hlt HSK.out HX.out (by rw [hbad]; decide)
                  rw [hbad] at hq2
                  obtain rfl := HQ.out.symm.trans hq2
                  obtain ⟨hc0, hc1, hf0, hf1⟩ := HB.out.cells2
                  clear hn hbad hq2 HQ
                  go_wp2_with (first
                    | (go_at_call 21; ((with_reducible refine (rLetter_any _ _).mono ?_); rintro e w' ⟨rfl, rfl⟩))
                    | (go_at_call 22; ((with_reducible refine (rDigit_any _ _).mono ?_); rintro e w' ⟨rfl, rfl⟩))
                    | (go_at_call 23; ((with_reducible refine (number_at (s.extract k E) 9223372036854775808 9223372036854775808 V _ htz most2 HV.out HN.out _).mono ?_); rintro e w' ⟨rfl, rfl⟩)))
                  exact bodyPost_ret (v := .tuple #[.slice none 0 0, .agg #[.int .i64 2, .int .i64 (k : Int)]]) (by simp [results, Tryd.results13, go_sem, hc0, hc1, hgr]) rfl
                    ⟨_, rfl, World.ownsRow_nil _ _ _ _, ((hbel.setCell (Nat.le_refl _) _).setCell (Nat.le_refl _) _).alloc (by simp [World.setCell]; omega) _⟩
          · have hd : digB s[k] = false := by simpa using hd
            by_cases hl : letB s[k] = true
            · obtain ⟨e1, e2, e3⟩ := tok_let hlt hl
              obtain ⟨g1, g2⟩ := wlen_at hlt (word_let hl)
              have hW : WAt s (k + wlen (s.data.toList.drop k)) k := rfl
              obtain ⟨E, hE⟩ : ∃ E, k + wlen (s.data.toList.drop k) = E := ⟨_, rfl⟩
              rw [hE] at hW g2
              have HE := Lib.hid hE
              have H1 := Lib.hid e1
              have H2 := Lib.hid e2
              have H3 := Lib.hid e3
              have g3 : k < E := by omega
              have HSK := Lib.hid hsk
              clear e1 e2 e3 hE hsk g1
              obtain ⟨wo, rfl⟩ : ∃ wo : World, wo = wr := ⟨_, rfl⟩
              go_wp2_with (first
                | (go_at_call 21; ((with_reducible refine (rLetter_any s[k] _).mono ?_); rintro e w' ⟨rfl, rfl⟩))
                | (go_at_call 22; ((with_reducible refine (rDigit_any s[k] _).mono ?_); rintro e w' ⟨rfl, rfl⟩)))
              go_loop [8] (fun i => ∃ j : Nat, k ≤ j ∧ j ≤ s.size ∧ WAt s E j ∧ i = .int .i64 j) (fun i => s.size - (intOf i).toNat)
              case atStart => exact ⟨k, Nat.le_refl _, hk, hW, rfl⟩
              case round =>
                obtain ⟨j, hkj, hj, hwj, rfl⟩ := hrel
                rcases wat_cases hj hwj with ⟨hj2, ⟨hl2, hwj2⟩ | ⟨hl2, hd2, hwj2⟩⟩ | ⟨hj2, hl2, hd2, rfl⟩ | ⟨rfl, hge⟩
                · go_wp2_with (go_at_call 21; ((with_reducible refine (rLetter_any s[j] _).mono ?_); rintro e w' ⟨rfl, rfl⟩))
                  go_round
                  case rel => exact ⟨j + 1, by omega, by omega, hwj2, by go_num⟩
                  case measure => simp [intOf]; omega
                · go_wp2_with (first
                    | (go_at_call 21; ((with_reducible refine (rLetter_any s[j] _).mono ?_); rintro e w' ⟨rfl, rfl⟩))
                    | (go_at_call 22; ((with_reducible refine (rDigit_any s[j] _).mono ?_); rintro e w' ⟨rfl, rfl⟩)))
                  go_round
                  case rel => exact ⟨j + 1, by omega, by omega, hwj2, by go_num⟩
                  case measure => simp [intOf]; omega
                all_goals
                  have htd : (s.extract k E).data.toList = (s.data.toList.drop k).take (wlen (s.data.toList.drop k)) := by
                    rw [← HE.out]; exact text_data s k _
                  have hz : (s.extract k E).size = E - k := by rw [ByteArray.size_extract]; omega
                  have htz : (s.extract k E).size ≤ 9223372036854775807 := by omega
                  have hne : ¬ (s.extract k E).toList = [] := by
                    rw [Lib.toList_data]; intro h
                    have := congrArg List.length h
                    rw [size_len, hz] at this; simp at this; omega
                  have hne2 : (s.extract k E).toList.isEmpty = false := by simpa using hne
                  have HTD := Lib.hid htd
                  have HZ := Lib.hid hz
                  clear htd hz
                  by_cases hn : E ≤ k + 16
                  · have hok : tokE (s.data.toList.drop k) = 0 := by have := HE.out; rw [H3.out, if_neg (by omega)]
                    have hS := fun v' w2 h1 h2 h3 => rScan_tok (t := s.extract k E) (kd := 1) (w0 := w) (w2 := w2) (v' := v') hlt HSK.out HX.out hts hok H1.out (by rw [HTD.out, H2.out]) h1 h2 h3
                    have HS := Lib.hid hS
                    have hn2 : (E : Int) - (k : Int) ≤ 16 := by omega
                    clear hn hS hok
                    go_wp2_with (first
                      | (go_at_call 21; ((with_reducible refine (rLetter_any _ _).mono ?_); rintro e w' ⟨rfl, rfl⟩))
                      | (go_at_call 22; ((with_reducible refine (rDigit_any _ _).mono ?_); rintro e w' ⟨rfl, rfl⟩))
                      | (at_builtin
                         refine wpList_append_own _ rfl (.tmp 114) (.tmp 116) 22 rfl (w.heap.size + 1) 30 i0 _ 3 32 Tryd.underlying22 hi hz0 hz1 hz2 rfl (by decide) _ _ _ rfl ((hown.alloc _).alloc _) ⟨wo.heap.size + 1, 0, none⟩ 1 1 [.int .i64 1, .string (s.extract k E), .int .i64 (k : Int)] rfl rfl (World.news_of_block (heap_alloc2_new _ _ _)) (by simp [Value.oneCell']) (by unfold maxLen; omega) (by omega) (by simp; omega) ?_
                         intro v2 w2 hown2 hgr2 _
                         have hb2 : Blk w2 wo.heap.size 30 #[.int .i64 1, .string (s.extract k E), .int .i64 (k : Int)] := Blk.grown (heap_alloc2_old _ _ _) hgr2 (own_ne hown (Or.inr (Nat.le_refl _)))
                         have hct := hb2.cell 1
                         have hE2 : Blk w2 w.heap.size 25 #[.int .i64 0, .int .i64 0] := ((HB.out.alloc _).alloc _).grown hgr2 (own_ne hown (Or.inl (Nat.lt_succ_self _)))
                         have hbel2 : Below w.heap.size w w2 := ((hbel.alloc (Nat.le_of_lt hgr) _).alloc (by simp; omega) _).grown hgr2 (by simp; omega) (fun b hb => Nat.le_of_lt (hown.lt b hb).1)
                         obtain ⟨hR, hlt2, hle2⟩ := HS.out v2 w2 hown2 hbel2 hE2
                         rw [HZ.out] at hR hlt2 hle2
                         clear hown2 hgr2 hb2 hE2 hbel2))
                    go_roundw
                    case rel => exact hR
                    case measure => simp [intOf]; omega
                  · have hbad : tokE (s.data.toList.drop k) = 6 := by
                      have := HE.out
                      rw [H3.out, if_pos (by omega)]
                    have hn2 : 16 < (E : Int) - (k : Int) := by omega
                    have hq2 := scan_bad hs hlt HSK.out HX.out (by rw [hbad]; decide)
                    rw [hbad] at hq2
                    obtain rfl := HQ.out.symm.trans hq2
                    obtain ⟨hc0, hc1, hf0, hf1⟩ := HB.out.cells2
                    clear hn hbad hq2 HQ
                    go_wp2_with (first
                      | (go_at_call 21; ((with_reducible refine (rLetter_any _ _).mono ?_); rintro e w' ⟨rfl, rfl⟩))
                      | (go_at_call 22; ((with_reducible refine (rDigit_any _ _).mono ?_); rintro e w' ⟨rfl, rfl⟩)))
                    exact bodyPost_ret (v := .tuple #[.slice none 0 0, .agg #[.int .i64 6, .int .i64 (k : Int)]]) (by simp [results, Tryd.results13, go_sem, hc0, hc1, hgr]) rfl
                      ⟨_, rfl, World.ownsRow_nil _ _ _ _, ((hbel.setCell (Nat.le_refl _) _).setCell (Nat.le_refl _) _).alloc (by simp [World.setCell]; omega) _⟩
            · have hl : letB s[k] = false := by simpa using hl
              obtain ⟨e1, e2, e3⟩ := tok_sym hlt hl hd
              have hsl := symLen_at_le hlt
              obtain ⟨T, hT⟩ : ∃ T : ByteArray, (⟨((s.data.toList.drop k).take (symLen (s.data.toList.drop k))).toArray⟩ : ByteArray) = T := ⟨_, rfl⟩
              have hTd : T.data.toList = (s.data.toList.drop k).take (symLen (s.data.toList.drop k)) := by rw [← hT]
              have hTz : T.size = symLen (s.data.toList.drop k) := by
                rw [← size_len, hTd, List.length_take, drop_len]; omega
              have hcT : ∀ W, Calls Tryd.prog 24 #[.string (s.extract k s.size)] W (RetB (.string T) W.heap.size W) := fun W => by
                have := rsymbol_any (s.extract k s.size) (by rw [← size_len, tail_list, drop_len]; omega) (by rw [← size_len, tail_list, drop_len]; omega) W
                rw [tail_list, hT] at this
                exact this
              have HC := Lib.hid hcT
              have HTD := Lib.hid hTd
              have HTZ := Lib.hid hTz
              have H1 := Lib.hid e1
              have H2 := Lib.hid e2
              have H3 := Lib.hid e3
              have HSK := Lib.hid hsk
              have hTs : T.size ≤ s.size - k := by omega
              clear hT hTd hTz hcT e1 e2 e3 hsk hsl
              by_cases hz0 : T.size = 0
              · have hTe : T.toList = [] := by rw [Lib.toList_data]; exact List.eq_nil_of_length_eq_zero (by rw [size_len]; exact hz0)
                have hTe2 : T.toList.isEmpty = true := by rw [hTe]; rfl
                have hbad : tokE (s.data.toList.drop k) = 2 := by rw [H3.out, if_pos (by rw [← HTZ.out]; exact hz0)]
                have hq2 := scan_bad hs hlt HSK.out HX.out (by rw [hbad]; decide)
                rw [hbad] at hq2
                obtain rfl := HQ.out.symm.trans hq2
                obtain ⟨hc0, hc1, hf0, hf1⟩ := HB.out.cells2
                clear hbad hq2 HQ hz0
                go_wp2_with (first
                  | (go_at_call 21; ((with_reducible refine (rLetter_any _ _).mono ?_); rintro e w' ⟨rfl, rfl⟩))
                  | (go_at_call 22; ((with_reducible refine (rDigit_any _ _).mono ?_); rintro e w' ⟨rfl, rfl⟩))
                  | (go_at_call 24; ((with_reducible refine (HC.out _).mono ?_); rintro e w1 ⟨rfl, hb1⟩; obtain ⟨hcc, hff⟩ := bcell hb1; have hg1 : w.heap.size < w1.heap.size := (Nat.lt_trans hgr (Nat.lt_of_lt_of_le (by simp) hb1.size)); have hB1 := Lib.hid ((HB.out.alloc _).on hb1 (Nat.lt_trans hgr (by simp))))))
                have hfin := ((hB1.out.far (p := ⟨wr.heap.size, 1, none⟩) (by simp; omega) (.string T)).set 0 (.int .i64 2)).set 1 (.int .i64 (k : Int))
                obtain ⟨r0, r1, _, _⟩ := Blk.cells2 (a := .int .i64 2) (b := .int .i64 (k : Int)) hfin
                exact bodyPost_ret (v := .tuple #[.slice none 0 0, .agg #[.int .i64 2, .int .i64 (k : Int)]]) (by simp [results, Tryd.results13, go_sem, r0, r1]) rfl
                  ⟨_, rfl, World.ownsRow_nil _ _ _ _, ((((hbel.alloc (Nat.le_of_lt hgr) _).trans (hb1.mono (Nat.le_trans (Nat.le_of_lt hgr) (by simp)))).setCell (Nat.le_of_lt hgr) _).setCell (Nat.le_refl _) _).setCell (Nat.le_refl _) _⟩
              · have hTe : ¬ T.toList = [] := by
                  rw [Lib.toList_data]; intro h
                  have h2 := size_len T
                  rw [h] at h2; simp at h2; omega
                have hTe2 : T.toList.isEmpty = false := by simpa using hTe
                have hok : tokE (s.data.toList.drop k) = 0 := by rw [H3.out, if_neg (by rw [← HTZ.out]; exact hz0)]
                have hS := fun v' w2 h1 h2 h3 => rScan_tok (t := T) (kd := 3) (w0 := w) (w2 := w2) (v' := v') hlt HSK.out HX.out hts hok H1.out (by rw [HTD.out, H2.out]) h1 h2 h3
                have HS := Lib.hid hS
                clear hS hok hz0
                go_wp2_with (first
                  | (go_at_call 21; ((with_reducible refine (rLetter_any _ _).mono ?_); rintro e w' ⟨rfl, rfl⟩))
                  | (go_at_call 22; ((with_reducible refine (rDigit_any _ _).mono ?_); rintro e w' ⟨rfl, rfl⟩))
                  | (go_at_call 24; ((with_reducible refine (HC.out _).mono ?_); rintro e w1 ⟨rfl, hb1⟩; obtain ⟨hcc, hff⟩ := bcell hb1; have hg1 : w.heap.size < w1.heap.size := (Nat.lt_trans hgr (Nat.lt_of_lt_of_le (by simp) hb1.size)); have hB1 := Lib.hid ((HB.out.alloc _).on hb1 (Nat.lt_trans hgr (by simp))); have hbt : Blk w1 wr.heap.size 30 #[.int .i64 3, .string ⟨#[]⟩, .int .i64 (k : Int)] := (Blk.new _ _ _).on hb1 (by simp); have HBT := Lib.hid hbt; have hown1 := own_setne (p := ⟨wr.heap.size, 1, none⟩) (own_on (hown.alloc _) hb1) (own_ne hown (Or.inr (Nat.le_refl _))) (.string T); have hne1 := own_ne hown (g := wr.heap.size) (Or.inr (Nat.le_refl _)); clear hown hbt))
                  | (at_builtin
                     refine wpList_append_own _ rfl (.tmp 114) (.tmp 116) 22 rfl (w.heap.size + 1) 30 i0 _ 3 32 Tryd.underlying22 hi hz0 hz1 hz2 rfl (by decide) _ _ _ rfl (hown1.alloc _) ⟨w1.heap.size, 0, none⟩ 1 1 [.int .i64 3, .string T, .int .i64 (k : Int)] rfl rfl (World.news_of_block (new_set _ _ _ _ _)) (by simp [Value.oneCell']) (by unfold maxLen; omega) (by omega) (by simp [World.setCell]; omega) ?_
                     intro v2 w2 hown2 hgr2 _
                     have hb2 : Blk w2 wr.heap.size 30 #[.int .i64 3, .string T, .int .i64 (k : Int)] := Blk.grown ((HBT.out.set 1 (.string T)).alloc _) hgr2 hne1
                     have hct := hb2.cell 1
                     have hE2 : Blk w2 w.heap.size 25 #[.int .i64 0, .int .i64 0] := ((hB1.out.far (p := ⟨wr.heap.size, 1, none⟩) (by simp; omega) (.string T)).alloc _).grown hgr2 (own_ne hown1 (Or.inl (Nat.lt_succ_self _)))
                     have hbel2 : Below w.heap.size w w2 := ((((hbel.alloc (Nat.le_of_lt hgr) _).trans (hb1.mono (Nat.le_trans (Nat.le_of_lt hgr) (by simp)))).setCell (p := ⟨wr.heap.size, 1, none⟩) (Nat.le_of_lt hgr) (.string T)).alloc (by simp [World.setCell]; omega) _).grown hgr2 (by simp [World.setCell]; omega) (fun b hb => Nat.le_of_lt (hown1.lt b hb).1)
                     obtain ⟨hR, hlt2, hle2⟩ := HS.out v2 w2 hown2 hbel2 hE2
                     clear hown2 hgr2 hb2 hE2 hbel2))
                go_roundw
                case rel => exact hR
                case measure => simp [intOf]; omega
    · obtain rfl : k = s.size := by omega
      obtain rfl := HQ.out.symm.trans (scan_good hs HX.out)
      obtain ⟨hc0, hc1, hf0, hf1⟩ := HB.out.cells2
      go_wp2_with fail
      exact bodyPost_ret (v := .tuple #[u4, .agg #[.int .i64 0, .int .i64 0]]) (by simp [results, Tryd.results13, go_sem, hc0, hc1]) rfl
        ⟨_, rfl, own_base (own_set (own_set hown (Nat.lt_succ_self _) _) (Nat.lt_succ_self _) _) (Nat.le_succ _), ((hbel.setCell (Nat.le_refl _) _).setCell (Nat.le_refl _) _)⟩
end Go.Proofs.YtidlacfmcpppoaaDoor
