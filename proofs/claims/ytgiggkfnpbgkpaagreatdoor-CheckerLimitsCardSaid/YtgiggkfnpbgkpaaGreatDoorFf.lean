/- Stage 4: the walk of CheckerLimits, the locals. -/
import Derived.Test.YtgiggkfnpbgkpaaGreatDoorFe
import Derived.Maps.AppendAt
import Derived.Deep.AppendLies
namespace Go.Proofs.YtgiggkfnpbgkpaaGreatDoor
open Go.RowKit (wrap64 intOf)
open Go Go.RowKit WM LX PX CX

set_option maxRecDepth 100000
set_option maxHeartbeats 4000000
def C0R (nn : Nat) (w : World) (k : Nat) (i : Value) (wr : World) : Prop :=
  ∃ (j : Nat) (css : List (List Value)) (v : Value), j + k = nn ∧ i = .int .i64 (j : Int) ∧ Hid (Below w.heap.size w wr) ∧ Hid (Blk wr w.heap.size 44 #[.int .i64 1, .int .i64 0, .string ⟨#[]⟩, .int .i64 0, .slice none 0 0]) ∧
    Hid (Blk wr (w.heap.size + 1) 47 #[.string ⟨#[102]⟩, .slice none 0 0, v, .slice none 0 0, .int .i64 1, .int .i64 0, .string ⟨#[]⟩, .int .i64 0, .slice none 0 0]) ∧
    Hid (Coll RepN 1 9 (w.heap.size + 2) ((List.range j).map vN) css v wr)
theorem sz0 : ((List.range 20).all fun n => decide (szP (fam 0 n) ≤ 1000000)) = true := by kernel_rfl
theorem sz0_at (n : Nat) (hn : n < 20) : szP (fam 0 n) ≤ 1000000 := by
  have h := sz0
  rw [List.all_eq_true] at h
  exact of_decide_eq_true (h n (List.mem_range.2 hn))
theorem cl0_any (n which : Int) (hq : which % 5 = 0) (w : World) (h : PEnv w) : Calls Tryz.prog 7 #[.int .i64 n, .int .i64 which] w (RetN (.bool true) w) := by
  obtain ⟨i0, hi, hz0, hz1, hz2⟩ := info_parts strInfo
  have hp1 := fun w => pick_any which 5 0 (by decide) (by decide) hq w
  obtain ⟨nn, hnn⟩ : ∃ nn : Nat, n % 20 = (nn : Int) := ⟨(n % 20).toNat, by omega⟩
  have hlt : nn < 20 := by omega
  have hp2 := fun w => pick_any n 20 nn (by decide) (by decide) hnn w
  have HP1 := Lib.hid hp1
  have HP2 := Lib.hid hp2
  have HE := Lib.hid h
  clear hp1 hp2 h hq hnn
  go_enter Tryz.func7, Tryz.ntmps7
  go_wp2_with fail
  refine (HP1.out _).mono ?_
  rintro e w1 ⟨rfl, rfl⟩
  go_wp2_with fail
  refine (HP2.out _).mono ?_
  rintro e w1 ⟨rfl, rfl⟩
  go_wp2_with fail
  go_loopg [8] nn (fun k i wr => C0R nn w k i wr)
  case atStart =>
    refine ⟨0, [], .slice none 0 0, Nat.zero_add _, rfl, ?_, ?_, ?_, coll_nil _ _ _ _ _⟩
    · exact ((Below.refl _ _).alloc (Nat.le_refl _) _).alloc (by simp) _
    · exact (Blk.new w _ _).alloc _
    · exact blk_at (by simp) _ _
  case round =>
    obtain ⟨j, css, v, hj, rfl, HB, HN, HF, HC⟩ := hrel
    by_cases hl : j < nn
    · have e1 : (j : Int) < (nn : Int) := by omega
      obtain ⟨a0, a1, a2, a3, a4, _⟩ := HN.out.cells5
      have b3 := HF.out.cell 2
      have c3 := HF.out.free 2
      have s0 := HN.out.lt
      have s1 := HF.out.lt
      simp only [List.getElem?_toArray, List.getElem?_cons_succ, List.getElem?_cons_zero] at b3
      have hown := HC.out.own
      have hcl : css.length ≤ 1000 := by
        have := HC.out.len
        rw [List.length_map, List.length_range] at this
        omega
      have hj20 : j < 20 := by omega
      obtain ⟨ch, hch⟩ : ∃ ch, UInt8.ofNat (97 + j) = ch := ⟨_, rfl⟩
      have hconv := conv_one (wr.alloc (.cells #[.int .u8 (97 + (j : Int))] 5)) wr.heap.size (97 + (j : Int)) ch (by rw [← hch, UInt8.toNat_ofNat']; omega) (by simp)
      have HCH := Lib.hid hch
      clear hch
      go_wp2_with (at_builtin; refine wpList_append_own_at _ rfl (.tmp 43) (.tmp 50) 23 rfl (w.heap.size + 2) 9 i0 _ 1 16 Tryz.underlying23 hi hz0 hz1 hz2 rfl (by decide) _ _ _ rfl ((hown.alloc _).alloc _) ⟨wr.heap.size + 1, 0, none⟩ 1 1 [.string ((⟨#[118]⟩ : ByteArray) ++ (⟨#[ch]⟩ : ByteArray))] rfl rfl (World.news_of_block (blk_at (by simp) _ _)) (by simp [Value.oneCell']) (by unfold maxLen; omega) (by omega) (by first | (simp; omega) | simp) ?_; intro v2 w4 hown2 hgr2 _ hob; obtain ⟨A2, L2, c2, rfl⟩ : ∃ A L c, v2 = .slice A L c := own_slice hown2; have kF4 := (hgr2.block (w.heap.size + 1) (by first | (simp; omega) | simp) (fun e => by have := (HC.out.own.lt _ e.symm).1; omega)).trans ((HF.out.alloc _).alloc _); have c9 := Blk.free kF4 2; have c10 : w4.cell? ⟨w.heap.size + 1, 2, none⟩ = some v := Blk.cell kF4 2)
      go_roundg (gk - 1)
      case measure => omega
      case rel =>
        have hrow : ∀ k, v.ownBlock = some k → w.heap.size + 2 ≤ k := fun k hk => (HC.out.own.lt k hk).1
        have hbw4 : Below w.heap.size w w4 := ((HB.out.alloc HB.out.size _).alloc (Nat.le_trans HB.out.size (by simp)) _).grown hgr2 (by simp; omega) (fun k hk => by have := hrow k hk; omega)
        have kN4 : Blk w4 w.heap.size 44 #[.int .i64 1, .int .i64 0, .string ⟨#[]⟩, .int .i64 0, .slice none 0 0] := (hgr2.block w.heap.size (by simp; omega) (fun e => by have := hrow _ e.symm; omega)).trans ((HN.out.alloc _).alloc _)
        have hst : [Value.string ((⟨#[118]⟩ : ByteArray) ++ (⟨#[ch]⟩ : ByteArray))] = [Value.string ⟨(vN j).toArray⟩] := by
          unfold vN
          rw [HCH.out]
          rfl
        have hcl2 := HC.out.kept_low ((Below.refl wr.heap.size wr).alloc (Nat.le_refl _) (.cells #[.int .u8 (97 + (j : Int))] 5))
        have hsn := hcl2.snoc (Rep := RepN) (x := vN j) (cs := [Value.string ((⟨#[118]⟩ : ByteArray) ++ (⟨#[ch]⟩ : ByteArray))]) keepsN hst (lo := wr.heap.size) (by omega) HC.out.blk rfl hown2 hgr2 hob
        refine ⟨j + 1, css ++ [[Value.string ((⟨#[118]⟩ : ByteArray) ++ (⟨#[ch]⟩ : ByteArray))]], .slice A2 L2 c2, by omega, by go_num, Lib.hid (hbw4.setCell (p := ⟨w.heap.size + 1, 2, none⟩) (Nat.le_succ _) _), Lib.hid (kN4.far (p := ⟨w.heap.size + 1, 2, none⟩) (by show w.heap.size + 1 ≠ w.heap.size; omega) _), Lib.hid (Blk.set kF4 2 _), Lib.hid ?_⟩
        rw [List.range_succ, List.map_append]
        exact hsn.grown keepsN (grown_s (grown_id _ _) _) (by omega)
    · obtain rfl : j = nn := by omega
      obtain ⟨A, c, hv, _⟩ := (HC.out.out keepsN).at
      rw [List.length_map, List.length_range] at hv
      have hnz0 : NzV (.slice A j c) := by
        rw [← hv]
        rcases HC.out.own.2 with h | h
        · exact Or.inl h.1
        · obtain ⟨g, cap, cur, h, _⟩ := h
          exact Or.inr ⟨_, _, _, h⟩
      subst hv
      obtain ⟨V, hV⟩ : ∃ V, wr.alloc (.cells #[.string ⟨#[102]⟩, .slice none 0 0, .slice A j c, .slice none 0 0, .int .i64 1, .int .i64 0, .string ⟨#[]⟩, .int .i64 0, .slice none 0 0] 47) = V := ⟨_, rfl⟩
      have hbV : Below wr.heap.size wr V := by rw [← hV]; exact (Below.refl _ _).alloc (Nat.le_refl _) _
      have kV : Blk V wr.heap.size 47 #[.string ⟨#[102]⟩, .slice none 0 0, .slice A j c, .slice none 0 0, .int .i64 1, .int .i64 0, .string ⟨#[]⟩, .int .i64 0, .slice none 0 0] := by rw [← hV]; exact Blk.new _ _ _
      have hwV : Below w.heap.size w V := HB.out.trans (below_down hbV HB.out.size)
      have hrE := (HC.out.out keepsN).keep (w' := V) (ok' := fun g => g < V.heap.size) keepsN (fun g hg => Nat.lt_of_lt_of_le hg.2 hbV.size) (fun g hg => hbV.block g hg.2)
      have hrE2 : RepL RepN 1 V (fun g => g < V.heap.size) ((List.range j).map vN) (.slice A ((List.range j).map vN).length c) := by rw [List.length_map, List.length_range]; exact hrE
      have kV2 : Blk V wr.heap.size 47 #[.string ⟨#[102]⟩, .slice none 0 0, .slice A ((List.range j).map vN).length c, .slice none 0 0, .int .i64 1, .int .i64 0, .string ⟨#[]⟩, .int .i64 0, .slice none 0 0] := by rw [List.length_map, List.length_range]; exact kV
      have hnz : NzV (.slice A ((List.range j).map vN).length c) := by rw [List.length_map, List.length_range]; exact hnz0
      have hrQ : RepQ V (fun g => g < V.heap.size) (fam 0 j) (.slice none 0 0) (.slice (some ⟨wr.heap.size, 0, none⟩) 1 1) :=
        ⟨repL_nil _ _ _ _, one_fn kV2 kV2.lt ⟨⟨_, _, _, _, _, _, _, _, _, _, _, _, _, _, _, _, rfl, repL_nil _ _ _ _, hrE2, repL_nil _ _ _ _, repE_leaf _ _ _ _ _ _ _ _⟩, ⟨_, rfl, Or.inl rfl⟩, ⟨_, rfl, hnz⟩⟩⟩
      have hc := chk2_any (fam 0 j) _ _ V _ hrQ (fun _ h => h) (sz0_at j hlt) (HE.out.on hwV)
      rw [fam_chk 0 j (by decide) hlt] at hc
      have hex := fun W (hW : Below w.heap.size w W) => cex_any W (HE.out.on hW)
      have HCH := Lib.hid (And.intro hc (And.intro hwV hV))
      have HX := Lib.hid hex
      have b0 := HF.out
      obtain ⟨f0, f1, f2, f3, f4, f5, f6, f7, f8⟩ : wr.cell? ⟨w.heap.size + 1, 0, none⟩ = some (.string ⟨#[102]⟩) ∧ wr.cell? ⟨w.heap.size + 1, 1, none⟩ = some (.slice none 0 0) ∧ wr.cell? ⟨w.heap.size + 1, 2, none⟩ = some (.slice A j c) ∧ wr.cell? ⟨w.heap.size + 1, 3, none⟩ = some (.slice none 0 0) ∧ wr.cell? ⟨w.heap.size + 1, 4, none⟩ = some (.int .i64 1) ∧ wr.cell? ⟨w.heap.size + 1, 5, none⟩ = some (.int .i64 0) ∧ wr.cell? ⟨w.heap.size + 1, 6, none⟩ = some (.string ⟨#[]⟩) ∧ wr.cell? ⟨w.heap.size + 1, 7, none⟩ = some (.int .i64 0) ∧ wr.cell? ⟨w.heap.size + 1, 8, none⟩ = some (.slice none 0 0) := ⟨b0.cell 0, b0.cell 1, b0.cell 2, b0.cell 3, b0.cell 4, b0.cell 5, b0.cell 6, b0.cell 7, b0.cell 8⟩
      clear hc hex hbV kV kV2 hwV hrE hrE2 hrQ b0 hV HC hnz hnz0
      by_cases hm : 8 < j
      · have g1 : (8 : Int) < (j : Int) := by omega
        have hr : (if mostK 0 < j then (6 : Nat) else 0) = 6 := if_pos hm
        rw [hr] at HCH
        clear hr hm
        go_wp2_with fail
        rw [HCH.out.2.2]
        refine HCH.out.1.mono ?_
        rintro e w2 ⟨rfl, hb⟩
        have H2 := Lib.hid (HCH.out.2.1.trans (below_down hb HCH.out.2.1.size))
        clear hb f0 f1 f2 f3 f4 f5 f6 f7 f8
        go_wp2_with fail
        refine (HX.out _ H2.out).mono ?_
        rintro e w3 ⟨rfl, hb⟩
        have H3 := Lib.hid (H2.out.trans (below_down hb H2.out.size))
        clear hb
        go_wp2_with fail
        go_ret
        exact retN rfl H3.out
      · have g1 : ¬ (8 : Int) < (j : Int) := by omega
        have hr : (if mostK 0 < j then (6 : Nat) else 0) = 0 := if_neg hm
        rw [hr] at HCH
        clear hr hm
        go_wp2_with fail
        rw [HCH.out.2.2]
        refine HCH.out.1.mono ?_
        rintro e w2 ⟨rfl, hb⟩
        have H2 := Lib.hid (HCH.out.2.1.trans (below_down hb HCH.out.2.1.size))
        clear hb f0 f1 f2 f3 f4 f5 f6 f7 f8
        go_wp2_with fail
        refine (HX.out _ H2.out).mono ?_
        rintro e w3 ⟨rfl, hb⟩
        have H3 := Lib.hid (H2.out.trans (below_down hb H2.out.size))
        clear hb
        go_wp2_with fail
        go_ret
        exact retN rfl H3.out
end Go.Proofs.YtgiggkfnpbgkpaaGreatDoor
