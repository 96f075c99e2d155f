/- Stage 4: the walk of CheckerLimits, the nested statements. -/
import Derived.Test.YtgiggkfnpbgkpaaGreatDoorFb
namespace Go.Proofs.YtgiggkfnpbgkpaaGreatDoor
open Go.RowKit (wrap64 intOf)
open Go Go.RowKit WM LX PX CX

set_option maxRecDepth 100000
set_option maxHeartbeats 4000000
/-- A list of one statement in a block. -/
theorem one_st {w : World} {ok : Nat → Prop} {g : Nat} {f : ST} {t : TypeId} {cs : Array Value} (hb : Blk w g t cs) (hg : ok g) (h : RepS w ok f cs.toList) : RepL RepS 17 w ok [f] (.slice (some ⟨g, 0, none⟩) 1 1) :=
  ⟨fun _ => cs.toList, ⟨_, _, rfl, fun _ => ⟨g, rfl, hg, fun i j u hi hu => by
    obtain rfl : i = 0 := by simpa using hi
    rw [Nat.zero_mul, Nat.zero_add, hb.cell j]
    simpa using hu⟩⟩, fun i x hx => by
    match i with
    | 0 => simp at hx; subst hx; exact h
    | i + 1 => simp at hx⟩
abbrev ifC (A : Option Addr) (L c : Nat) : Array Value := #[.int .i64 3, .string ⟨#[]⟩, .string ⟨#[]⟩, .int .i64 0, .int .i64 0, .int .i64 0, .string ⟨#[]⟩, .int .i64 0, .slice none 0 0, .int .i64 1, .int .i64 0, .string ⟨#[]⟩, .int .i64 0, .slice none 0 0, .slice none 0 0, .slice none 0 0, .slice A L c]
abbrev trapC : Array Value := #[.int .i64 7, .string ⟨#[]⟩, .string ⟨#[]⟩, .int .i64 0, .int .i64 0, .int .i64 0, .string ⟨#[]⟩, .int .i64 0, .slice none 0 0, .int .i64 0, .int .i64 0, .string ⟨#[]⟩, .int .i64 0, .slice none 0 0, .slice none 0 0, .slice none 0 0, .slice none 0 0]
theorem rep_trap (w : World) (ok : Nat → Prop) : RepS w ok trapS trapC.toList :=
  RepS.mk 7 [] [] 0 zE zE [] [] [] (exC 0 0 [] 0 none 0 0) (exC 0 0 [] 0 none 0 0) (.slice none 0 0) (.slice none 0 0) (.slice none 0 0) (fun _ => []) (fun _ => []) (repE_leaf _ _ _ _ _ _ _ _) (repE_leaf _ _ _ _ _ _ _ _) (repL_nil _ _ _ _) (rowF_nil _ _ _ _) (rowF_nil _ _ _ _) (fun i x h => by simp at h) (fun i x h => by simp at h)
theorem rep_if (w : World) (ok : Nat → Prop) (l : List ST) (A : Option Addr) (L c : Nat) (h : RepL RepS 17 w ok l (.slice A L c)) : RepS w ok (ifS l) (ifC A L c).toList := by
  obtain ⟨G, h1, h2⟩ := h
  exact RepS.mk 3 [] [] 0 zE nE [] [] l (exC 0 0 [] 0 none 0 0) (exC 1 0 [] 0 none 0 0) (.slice none 0 0) (.slice none 0 0) (.slice A L c) (fun _ => []) G (repE_leaf _ _ _ _ _ _ _ _) (repE_leaf _ _ _ _ _ _ _ _) (repL_nil _ _ _ _) (rowF_nil _ _ _ _) h1 (fun i x h => by simp at h) h2
def C3R (nn : Nat) (w : World) (k : Nat) (i : Value) (wr : World) : Prop :=
  ∃ (j : Nat) (A : Option Addr) (L c : Nat), j + k = nn ∧ i = .int .i64 (j : Int) ∧ Hid (Below w.heap.size w wr) ∧ Hid (Blk wr w.heap.size 44 #[.int .i64 1, .int .i64 0, .string ⟨#[]⟩, .int .i64 0, .slice none 0 0]) ∧
    Hid (Blk wr (w.heap.size + 1) 47 #[.string ⟨#[102]⟩, .slice none 0 0, .slice none 0 0, .slice A L c, .int .i64 1, .int .i64 0, .string ⟨#[]⟩, .int .i64 0, .slice none 0 0]) ∧
    Hid (RepL RepS 17 wr (fun g => w.heap.size + 2 ≤ g ∧ g < wr.heap.size) (nestS j) (.slice A L c))
theorem sz3 : ((List.range 50).all fun n => decide (szP (fam 3 n) ≤ 1000000)) = true := by kernel_rfl
theorem sz3_at (n : Nat) (hn : n < 50) : szP (fam 3 n) ≤ 1000000 := by
  have h := sz3
  rw [List.all_eq_true] at h
  exact of_decide_eq_true (h n (List.mem_range.2 hn))
theorem cl3_any (n which : Int) (hq : which % 5 = 3) (w : World) (h : PEnv w) : Calls Tryz.prog 7 #[.int .i64 n, .int .i64 which] w (RetN (.bool true) w) := by
  have hp1 := fun w => pick_any which 5 3 (by decide) (by decide) hq w
  obtain ⟨nn, hnn⟩ : ∃ nn : Nat, n % 50 = (nn : Int) := ⟨(n % 50).toNat, by omega⟩
  have hlt : nn < 50 := by omega
  have hp2 := fun w => pick_any n 50 nn (by decide) (by decide) hnn w
  have HP1 := Lib.hid hp1
  have HP2 := Lib.hid hp2
  have HE := Lib.hid h
  clear hp1 hp2 h hq hnn
  go_enter Tryz.func7, Tryz.ntmps7
  go_wp2_with fail
  refine (HP1.out _).mono ?_
  rintro e w1 ⟨rfl, rfl⟩
  go_wp2_with fail
  refine (HP2.out _).mono ?_
  rintro e w1 ⟨rfl, rfl⟩
  go_wp2_with fail
  go_loopg [11] nn (fun k i wr => C3R nn w k i wr)
  case atStart =>
    refine ⟨0, some ⟨w.heap.size + 1 + 1, 0, none⟩, 1, 1, Nat.zero_add _, rfl, ?_, ?_, ?_, ?_⟩
    rotate_left 2
    · exact (blk_at (by simp) _ _).alloc _
    · exact one_st (blk_at (by simp) _ _) (by simp) (rep_trap _ _)
    · exact (((Below.refl _ _).alloc (Nat.le_refl _) _).alloc (by simp) _).alloc (by simp; omega) _
    · exact ((Blk.new w _ _).alloc _).alloc _
  case round =>
    obtain ⟨j, A, L, c, hj, rfl, HB, HN, HF, HR⟩ := hrel
    by_cases hl : j < nn
    · have e1 : (j : Int) < (nn : Int) := by omega
      obtain ⟨a0, a1, a2, a3, a4, _⟩ := HN.out.cells5
      have b3 := HF.out.cell 3
      have c3 := HF.out.free 3
      have s0 := HN.out.lt
      have s1 := HF.out.lt
      simp only [List.getElem?_toArray, List.getElem?_cons_succ, List.getElem?_cons_zero] at b3
      go_wp2_with fail
      go_roundg (gk - 1)
      case measure => omega
      case rel =>
        obtain ⟨U, hUe⟩ : ∃ U, wr.setCell ⟨w.heap.size + 1, 3, none⟩ (.slice (some ⟨wr.heap.size, 0, none⟩) 1 1) = U := ⟨_, rfl⟩
        have kF : Blk U (w.heap.size + 1) 47 #[.string ⟨#[102]⟩, .slice none 0 0, .slice none 0 0, .slice (some ⟨wr.heap.size, 0, none⟩) 1 1, .int .i64 1, .int .i64 0, .string ⟨#[]⟩, .int .i64 0, .slice none 0 0] := by rw [← hUe]; exact HF.out.set 3 _
        have kother : ∀ g, g ≠ w.heap.size + 1 → U.heap[g]? = wr.heap[g]? := fun g hg => by rw [← hUe]; exact Below.heap_setCell _ _ _ _ hg
        have hUs : U.heap.size = wr.heap.size := by rw [← hUe]; simp [World.setCell]
        have hbU : Below w.heap.size w U := by
          rw [← hUe]
          exact HB.out.setCell (p := ⟨w.heap.size + 1, 3, none⟩) (Nat.le_succ _) _
        have kN : Blk U w.heap.size 44 #[.int .i64 1, .int .i64 0, .string ⟨#[]⟩, .int .i64 0, .slice none 0 0] := (kother _ (by omega)).trans HN.out
        obtain ⟨V, hV⟩ : ∃ V, U.alloc (.cells (ifC A L c) 50) = V := ⟨_, rfl⟩
        have hbV : Below U.heap.size U V := by rw [← hV]; exact (Below.refl _ _).alloc (Nat.le_refl _) _
        have kK : Blk V wr.heap.size 50 (ifC A L c) := by rw [← hV]; exact blk_at hUs _ _
        rw [hUe, hV]
        have hs2 := hbV.size
        have hs3 := kK.lt
        refine ⟨j + 1, some ⟨wr.heap.size, 0, none⟩, 1, 1, by omega, by go_num, Lib.hid (hbU.trans (below_down hbV (by omega))), Lib.hid (kN.on hbV kN.lt), Lib.hid (kF.on hbV kF.lt), Lib.hid ?_⟩
        exact one_st kK ⟨by omega, hs3⟩ (rep_if V _ (nestS j) A L c (HR.out.keep keepsS (fun g hg => ⟨hg.1, by omega⟩) (fun g hg => (hbV.block g (by omega)).trans (kother g (by omega)))))
    · obtain rfl : j = nn := by omega
      obtain ⟨V, hV⟩ : ∃ V, wr.alloc (.cells #[.string ⟨#[102]⟩, .slice none 0 0, .slice none 0 0, .slice A L c, .int .i64 1, .int .i64 0, .string ⟨#[]⟩, .int .i64 0, .slice none 0 0] 47) = V := ⟨_, rfl⟩
      have hbV : Below wr.heap.size wr V := by rw [← hV]; exact (Below.refl _ _).alloc (Nat.le_refl _) _
      have kV : Blk V wr.heap.size 47 #[.string ⟨#[102]⟩, .slice none 0 0, .slice none 0 0, .slice A L c, .int .i64 1, .int .i64 0, .string ⟨#[]⟩, .int .i64 0, .slice none 0 0] := by rw [← hV]; exact Blk.new _ _ _
      have hwV : Below w.heap.size w V := HB.out.trans (below_down hbV HB.out.size)
      have hrE := HR.out.keep (w' := V) (ok' := fun g => g < V.heap.size) keepsS (fun g hg => Nat.lt_of_lt_of_le hg.2 hbV.size) (fun g hg => hbV.block g hg.2)
      have hrQ : RepQ V (fun g => g < V.heap.size) (fam 3 j) (.slice none 0 0) (.slice (some ⟨wr.heap.size, 0, none⟩) 1 1) :=
        ⟨repL_nil _ _ _ _, one_fn kV kV.lt ⟨⟨_, _, _, _, _, _, _, _, _, _, _, _, _, _, _, _, rfl, repL_nil _ _ _ _, repL_nil _ _ _ _, hrE, repE_leaf _ _ _ _ _ _ _ _⟩, ⟨_, rfl, Or.inl rfl⟩, ⟨_, rfl, Or.inl rfl⟩⟩⟩
      have hc := chk2_any (fam 3 j) _ _ V _ hrQ (fun _ h => h) (sz3_at j hlt) (HE.out.on hwV)
      rw [fam_chk 3 j (by decide) hlt] at hc
      have hex := fun W (hW : Below w.heap.size w W) => cex_any W (HE.out.on hW)
      have HC := Lib.hid (And.intro hc (And.intro hwV hV))
      have HX := Lib.hid hex
      have b0 := HF.out
      obtain ⟨f0, f1, f2, f3, f4, f5, f6, f7, f8⟩ : wr.cell? ⟨w.heap.size + 1, 0, none⟩ = some (.string ⟨#[102]⟩) ∧ wr.cell? ⟨w.heap.size + 1, 1, none⟩ = some (.slice none 0 0) ∧ wr.cell? ⟨w.heap.size + 1, 2, none⟩ = some (.slice none 0 0) ∧ wr.cell? ⟨w.heap.size + 1, 3, none⟩ = some (.slice A L c) ∧ wr.cell? ⟨w.heap.size + 1, 4, none⟩ = some (.int .i64 1) ∧ wr.cell? ⟨w.heap.size + 1, 5, none⟩ = some (.int .i64 0) ∧ wr.cell? ⟨w.heap.size + 1, 6, none⟩ = some (.string ⟨#[]⟩) ∧ wr.cell? ⟨w.heap.size + 1, 7, none⟩ = some (.int .i64 0) ∧ wr.cell? ⟨w.heap.size + 1, 8, none⟩ = some (.slice none 0 0) := ⟨b0.cell 0, b0.cell 1, b0.cell 2, b0.cell 3, b0.cell 4, b0.cell 5, b0.cell 6, b0.cell 7, b0.cell 8⟩
      clear hc hex hbV kV hwV hrE hrQ b0 hV
      by_cases hm : 20 < j
      · have g1 : (20 : Int) < (j : Int) := by omega
        have hr : (if mostK 3 < j then (6 : Nat) else 0) = 6 := if_pos hm
        rw [hr] at HC
        clear hr hm
        go_wp2_with fail
        rw [HC.out.2.2]
        refine HC.out.1.mono ?_
        rintro e w2 ⟨rfl, hb⟩
        have H2 := Lib.hid (HC.out.2.1.trans (below_down hb HC.out.2.1.size))
        clear hb f0 f1 f2 f3 f4 f5 f6 f7 f8
        go_wp2_with fail
        refine (HX.out _ H2.out).mono ?_
        rintro e w3 ⟨rfl, hb⟩
        have H3 := Lib.hid (H2.out.trans (below_down hb H2.out.size))
        clear hb
        go_wp2_with fail
        go_ret
        exact retN rfl H3.out
      · have g1 : ¬ (20 : Int) < (j : Int) := by omega
        have hr : (if mostK 3 < j then (6 : Nat) else 0) = 0 := if_neg hm
        rw [hr] at HC
        clear hr hm
        go_wp2_with fail
        rw [HC.out.2.2]
        refine HC.out.1.mono ?_
        rintro e w2 ⟨rfl, hb⟩
        have H2 := Lib.hid (HC.out.2.1.trans (below_down hb HC.out.2.1.size))
        clear hb f0 f1 f2 f3 f4 f5 f6 f7 f8
        go_wp2_with fail
        refine (HX.out _ H2.out).mono ?_
        rintro e w3 ⟨rfl, hb⟩
        have H3 := Lib.hid (H2.out.trans (below_down hb H2.out.size))
        clear hb
        go_wp2_with fail
        go_ret
        exact retN rfl H3.out
end Go.Proofs.YtgiggkfnpbgkpaaGreatDoor
