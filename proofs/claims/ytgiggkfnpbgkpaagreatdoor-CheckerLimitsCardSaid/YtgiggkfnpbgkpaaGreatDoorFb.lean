/- Stage 4: the walk of CheckerLimits, the nested conditional expressions. -/
import Derived.Test.YtgiggkfnpbgkpaaGreatDoorFa4
namespace Go.Proofs.YtgiggkfnpbgkpaaGreatDoor
open Go.RowKit (wrap64 intOf)
open Go Go.RowKit WM LX PX CX

set_option maxRecDepth 100000
set_option maxHeartbeats 4000000
def C4R (nn : Nat) (w : World) (k : Nat) (i : Value) (wr : World) : Prop :=
  ∃ (j : Nat) (kd n0 : Int) (nm : List UInt8) (op : Int) (A : Option Addr) (L c : Nat), j + k = nn ∧ i = .int .i64 (j : Int) ∧ Hid (Below w.heap.size w wr) ∧ Hid (Blk wr w.heap.size 44 #[.int .i64 1, .int .i64 0, .string ⟨#[]⟩, .int .i64 0, .slice none 0 0]) ∧
    Hid (Blk wr (w.heap.size + 1) 47 #[.string ⟨#[102]⟩, .slice none 0 0, .slice none 0 0, .slice none 0 0, .int .i64 kd, .int .i64 n0, .string ⟨nm.toArray⟩, .int .i64 op, .slice A L c]) ∧
    Hid (RepE wr (fun g => w.heap.size + 2 ≤ g ∧ g < wr.heap.size) (condE j) [.int .i64 kd, .int .i64 n0, .string ⟨nm.toArray⟩, .int .i64 op, .slice A L c])
theorem sz4 : ((List.range 50).all fun n => decide (szP (fam 4 n) ≤ 1000000)) = true := by kernel_rfl
theorem sz4_at (n : Nat) (hn : n < 50) : szP (fam 4 n) ≤ 1000000 := by
  have h := sz4
  rw [List.all_eq_true] at h
  exact of_decide_eq_true (h n (List.mem_range.2 hn))
theorem cl4_any (n which : Int) (hq : which % 5 = 4) (w : World) (h : PEnv w) : Calls Tryz.prog 7 #[.int .i64 n, .int .i64 which] w (RetN (.bool true) w) := by
  have hp1 := fun w => pick_any which 5 4 (by decide) (by decide) hq w
  obtain ⟨nn, hnn⟩ : ∃ nn : Nat, n % 50 = (nn : Int) := ⟨(n % 50).toNat, by omega⟩
  have hlt : nn < 50 := by omega
  have hp2 := fun w => pick_any n 50 nn (by decide) (by decide) hnn w
  have HP1 := Lib.hid hp1
  have HP2 := Lib.hid hp2
  have HE := Lib.hid h
  clear hp1 hp2 h hq hnn
  go_enter Tryz.func7, Tryz.ntmps7
  go_wp2_with fail
  refine (HP1.out _).mono ?_
  rintro e w1 ⟨rfl, rfl⟩
  go_wp2_with fail
  refine (HP2.out _).mono ?_
  rintro e w1 ⟨rfl, rfl⟩
  go_wp2_with fail
  go_loopg [12] nn (fun k i wr => C4R nn w k i wr)
  case atStart =>
    refine ⟨0, 1, 0, [], 0, none, 0, 0, Nat.zero_add _, rfl, ?_, ?_, ?_, ?_⟩
    · exact ((Below.refl _ _).alloc (Nat.le_refl _) _).alloc (by simp) _
    · exact (Blk.new w _ _).alloc _
    · exact blk_at (by simp) _ _
    · exact repE_leaf _ _ _ _ _ _ _ _
  case round =>
    obtain ⟨j, kd, n0, nm, op, A, L, c, hj, rfl, HB, HN, HF, HR⟩ := hrel
    by_cases hl : j < nn
    · have e1 : (j : Int) < (nn : Int) := by omega
      obtain ⟨a0, a1, a2, a3, a4, _⟩ := HN.out.cells5
      have b4 := HF.out.cell 4
      have b5 := HF.out.cell 5
      have b6 := HF.out.cell 6
      have b7 := HF.out.cell 7
      have b8 := HF.out.cell 8
      have c4 := HF.out.free 4
      have c5 := HF.out.free 5
      have c6 := HF.out.free 6
      have c7 := HF.out.free 7
      have c8 := HF.out.free 8
      have s0 := HN.out.lt
      have s1 := HF.out.lt
      simp only [List.getElem?_toArray, List.getElem?_cons_succ, List.getElem?_cons_zero] at b4 b5 b6 b7 b8
      go_wp2_with fail
      go_roundg (gk - 1)
      case measure => omega
      case rel =>
        have hU : ∀ (w' : World), Blk w' (w.heap.size + 1) 47 #[.string ⟨#[102]⟩, .slice none 0 0, .slice none 0 0, .slice none 0 0, .int .i64 5, .int .i64 0, .string ⟨#[]⟩, .int .i64 0, .slice (some ⟨wr.heap.size, 0, none⟩) 3 3] → True := fun _ _ => trivial
        obtain ⟨U, hUe⟩ : ∃ U, (((((wr.setCell ⟨w.heap.size + 1, 4, none⟩ (.int .i64 5)).setCell ⟨w.heap.size + 1, 5, none⟩ (.int .i64 0)).setCell ⟨w.heap.size + 1, 6, none⟩ (.string ⟨#[]⟩)).setCell ⟨w.heap.size + 1, 7, none⟩ (.int .i64 0)).setCell ⟨w.heap.size + 1, 8, none⟩ (.slice (some ⟨wr.heap.size, 0, none⟩) 3 3)) = U := ⟨_, rfl⟩
        have kF : Blk U (w.heap.size + 1) 47 #[.string ⟨#[102]⟩, .slice none 0 0, .slice none 0 0, .slice none 0 0, .int .i64 5, .int .i64 0, .string ⟨#[]⟩, .int .i64 0, .slice (some ⟨wr.heap.size, 0, none⟩) 3 3] := by rw [← hUe]; exact ((((HF.out.set 4 _).set 5 _).set 6 _).set 7 _).set 8 _
        have kother : ∀ g, g ≠ w.heap.size + 1 → U.heap[g]? = wr.heap[g]? := fun g hg => by rw [← hUe]; exact (Below.heap_setCell _ _ _ _ hg).trans ((Below.heap_setCell _ _ _ _ hg).trans ((Below.heap_setCell _ _ _ _ hg).trans ((Below.heap_setCell _ _ _ _ hg).trans (Below.heap_setCell _ _ _ _ hg))))
        have hUs : U.heap.size = wr.heap.size := by rw [← hUe]; simp [World.setCell]
        have hbU : Below w.heap.size w U := by
          rw [← hUe]
          exact ((((HB.out.setCell (p := ⟨w.heap.size + 1, 4, none⟩) (Nat.le_succ _) _).setCell (p := ⟨w.heap.size + 1, 5, none⟩) (Nat.le_succ _) _).setCell (p := ⟨w.heap.size + 1, 6, none⟩) (Nat.le_succ _) _).setCell (p := ⟨w.heap.size + 1, 7, none⟩) (Nat.le_succ _) _).setCell (p := ⟨w.heap.size + 1, 8, none⟩) (Nat.le_succ _) _
        have kN : Blk U w.heap.size 44 #[.int .i64 1, .int .i64 0, .string ⟨#[]⟩, .int .i64 0, .slice none 0 0] := (kother _ (by omega)).trans HN.out
        obtain ⟨V, hV⟩ : ∃ V, U.alloc (.cells #[.int .i64 1, .int .i64 0, .string ⟨#[]⟩, .int .i64 0, .slice none 0 0, .int .i64 1, .int .i64 0, .string ⟨#[]⟩, .int .i64 0, .slice none 0 0, .int .i64 kd, .int .i64 n0, .string ⟨nm.toArray⟩, .int .i64 op, .slice A L c] 44) = V := ⟨_, rfl⟩
        have hbV : Below U.heap.size U V := by rw [← hV]; exact (Below.refl _ _).alloc (Nat.le_refl _) _
        have kK : Blk V wr.heap.size 44 #[.int .i64 1, .int .i64 0, .string ⟨#[]⟩, .int .i64 0, .slice none 0 0, .int .i64 1, .int .i64 0, .string ⟨#[]⟩, .int .i64 0, .slice none 0 0, .int .i64 kd, .int .i64 n0, .string ⟨nm.toArray⟩, .int .i64 op, .slice A L c] := by rw [← hV]; exact blk_at hUs _ _
        rw [hUe, hV]
        have hs2 := hbV.size
        have hs3 := kK.lt
        refine ⟨j + 1, 5, 0, [], 0, some ⟨wr.heap.size, 0, none⟩, 3, 3, by omega, by go_num, Lib.hid (hbU.trans (below_down hbV (by omega))), Lib.hid (kN.on hbV kN.lt), Lib.hid (kF.on hbV kF.lt), Lib.hid ?_⟩
        refine RepE.mk 5 0 [] 0 [nE, nE, condE j] (some ⟨wr.heap.size, 0, none⟩) 3 wr.heap.size (fun i => if i = 2 then [.int .i64 kd, .int .i64 n0, .string ⟨nm.toArray⟩, .int .i64 op, .slice A L c] else [.int .i64 1, .int .i64 0, .string ⟨#[]⟩, .int .i64 0, .slice none 0 0]) (fun _ => ⟨rfl, by omega, hs3⟩) (fun i k u hi hu => ?_) (fun i e he => ?_)
        · rw [kK.cell]
          have hi : i < 3 := hi
          match i, hi with
          | 0, _ => match k with
            | 0 => simpa using hu
            | 1 => simpa using hu
            | 2 => simpa using hu
            | 3 => simpa using hu
            | 4 => simpa using hu
            | k + 5 => simp at hu
          | 1, _ => match k with
            | 0 => simpa using hu
            | 1 => simpa using hu
            | 2 => simpa using hu
            | 3 => simpa using hu
            | 4 => simpa using hu
            | k + 5 => simp at hu
          | 2, _ => match k with
            | 0 => simpa using hu
            | 1 => simpa using hu
            | 2 => simpa using hu
            | 3 => simpa using hu
            | 4 => simpa using hu
            | k + 5 => simp at hu
        · match i with
          | 0 =>
            obtain rfl : nE = e := by simpa using he
            exact repE_leaf _ _ _ _ _ _ _ _
          | 1 =>
            obtain rfl : nE = e := by simpa using he
            exact repE_leaf _ _ _ _ _ _ _ _
          | 2 =>
            obtain rfl : condE j = e := by simpa using he
            exact HR.out.keep (fun g hg => ⟨hg.1, by omega⟩) (fun g hg => (hbV.block g (by omega)).trans (kother g (by omega)))
          | i + 3 => simp at he
    · obtain rfl : j = nn := by omega
      obtain ⟨V, hV⟩ : ∃ V, wr.alloc (.cells #[.string ⟨#[102]⟩, .slice none 0 0, .slice none 0 0, .slice none 0 0, .int .i64 kd, .int .i64 n0, .string ⟨nm.toArray⟩, .int .i64 op, .slice A L c] 47) = V := ⟨_, rfl⟩
      have hbV : Below wr.heap.size wr V := by rw [← hV]; exact (Below.refl _ _).alloc (Nat.le_refl _) _
      have kV : Blk V wr.heap.size 47 #[.string ⟨#[102]⟩, .slice none 0 0, .slice none 0 0, .slice none 0 0, .int .i64 kd, .int .i64 n0, .string ⟨nm.toArray⟩, .int .i64 op, .slice A L c] := by rw [← hV]; exact Blk.new _ _ _
      have hwV : Below w.heap.size w V := HB.out.trans (below_down hbV HB.out.size)
      have hrE := HR.out.keep (w' := V) (ok' := fun g => g < V.heap.size) (fun g hg => Nat.lt_of_lt_of_le hg.2 hbV.size) (fun g hg => hbV.block g hg.2)
      have hrQ : RepQ V (fun g => g < V.heap.size) (fam 4 j) (.slice none 0 0) (.slice (some ⟨wr.heap.size, 0, none⟩) 1 1) :=
        ⟨repL_nil _ _ _ _, one_fn kV kV.lt ⟨⟨_, _, _, _, _, _, _, _, _, _, _, _, _, _, _, _, rfl, repL_nil _ _ _ _, repL_nil _ _ _ _, repL_nil _ _ _ _, hrE⟩, ⟨_, rfl, Or.inl rfl⟩, ⟨_, rfl, Or.inl rfl⟩⟩⟩
      have hc := chk2_any (fam 4 j) _ _ V _ hrQ (fun _ h => h) (sz4_at j hlt) (HE.out.on hwV)
      rw [fam_chk 4 j (by decide) hlt] at hc
      have hex := fun W (hW : Below w.heap.size w W) => cex_any W (HE.out.on hW)
      have HC := Lib.hid (And.intro hc (And.intro hwV hV))
      have HX := Lib.hid hex
      have b0 := HF.out
      obtain ⟨f0, f1, f2, f3, f4, f5, f6, f7, f8⟩ : wr.cell? ⟨w.heap.size + 1, 0, none⟩ = some (.string ⟨#[102]⟩) ∧ wr.cell? ⟨w.heap.size + 1, 1, none⟩ = some (.slice none 0 0) ∧ wr.cell? ⟨w.heap.size + 1, 2, none⟩ = some (.slice none 0 0) ∧ wr.cell? ⟨w.heap.size + 1, 3, none⟩ = some (.slice none 0 0) ∧ wr.cell? ⟨w.heap.size + 1, 4, none⟩ = some (.int .i64 kd) ∧ wr.cell? ⟨w.heap.size + 1, 5, none⟩ = some (.int .i64 n0) ∧ wr.cell? ⟨w.heap.size + 1, 6, none⟩ = some (.string ⟨nm.toArray⟩) ∧ wr.cell? ⟨w.heap.size + 1, 7, none⟩ = some (.int .i64 op) ∧ wr.cell? ⟨w.heap.size + 1, 8, none⟩ = some (.slice A L c) := ⟨b0.cell 0, b0.cell 1, b0.cell 2, b0.cell 3, b0.cell 4, b0.cell 5, b0.cell 6, b0.cell 7, b0.cell 8⟩
      clear hc hex hbV kV hwV hrE hrQ b0 hV
      by_cases hm : 20 < j
      · have g1 : (20 : Int) < (j : Int) := by omega
        have hr : (if mostK 4 < j then (6 : Nat) else 0) = 6 := if_pos hm
        rw [hr] at HC
        clear hr hm
        go_wp2_with fail
        rw [HC.out.2.2]
        refine HC.out.1.mono ?_
        rintro e w2 ⟨rfl, hb⟩
        have H2 := Lib.hid (HC.out.2.1.trans (below_down hb HC.out.2.1.size))
        clear hb f0 f1 f2 f3 f4 f5 f6 f7 f8
        go_wp2_with fail
        refine (HX.out _ H2.out).mono ?_
        rintro e w3 ⟨rfl, hb⟩
        have H3 := Lib.hid (H2.out.trans (below_down hb H2.out.size))
        clear hb
        go_wp2_with fail
        go_ret
        exact retN rfl H3.out
      · have g1 : ¬ (20 : Int) < (j : Int) := by omega
        have hr : (if mostK 4 < j then (6 : Nat) else 0) = 0 := if_neg hm
        rw [hr] at HC
        clear hr hm
        go_wp2_with fail
        rw [HC.out.2.2]
        refine HC.out.1.mono ?_
        rintro e w2 ⟨rfl, hb⟩
        have H2 := Lib.hid (HC.out.2.1.trans (below_down hb HC.out.2.1.size))
        clear hb f0 f1 f2 f3 f4 f5 f6 f7 f8
        go_wp2_with fail
        refine (HX.out _ H2.out).mono ?_
        rintro e w3 ⟨rfl, hb⟩
        have H3 := Lib.hid (H2.out.trans (below_down hb H2.out.size))
        clear hb
        go_wp2_with fail
        go_ret
        exact retN rfl H3.out
end Go.Proofs.YtgiggkfnpbgkpaaGreatDoor
