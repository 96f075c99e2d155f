/- Stage 4: the walk of CheckerExamples. -/
import Derived.Test.YtgiggkfnpbgkpaaGreatDoorKi
import Derived.Test.YtgiggkfnpbgkpaaGreatDoorPq4
namespace Go.Proofs.YtgiggkfnpbgkpaaGreatDoor
open Go.RowKit (wrap64 intOf)
open Go Go.RowKit WM LX PX CX

set_option maxRecDepth 100000
set_option maxHeartbeats 4000000
abbrev p0 : PG := ⟨[], []⟩
abbrev p1 : PG := ⟨[], [⟨[102], [[120], [120]], [], [], numE 0⟩]⟩
abbrev p2 : PG := ⟨[], [⟨[102], [], [], [], varE [121]⟩]⟩
/-- nameB by computation. -/
def nameN (x : List UInt8) : Bool :=
  let r := parseN (nmA ++ x ++ nmZ)
  decide (r.2.1 = 0) && (decide (r.1.arrays.length = 1) && decide ((r.1.arrays.getD 0 ([], 0)).1 = x))
theorem nameN_eq (x : List UInt8) : nameB x = nameN x := by unfold nameB nameN; rw [parseN_eq]
theorem nm_f : nameB [102] = true := (nameN_eq _).trans (by kernel_rfl)
theorem nm_x : nameB [120] = true := (nameN_eq _).trans (by kernel_rfl)
theorem nm_y : nameB [121] = true := (nameN_eq _).trans (by kernel_rfl)
theorem chk0 : chkF p0 = 0 := by kernel_rfl
theorem shp1 : shpB p1 = true := by
  unfold shpB
  simp only [List.all_nil, List.all_cons, Bool.true_and, Bool.and_true]
  unfold funB
  simp only [nm_f, nm_x, List.all_nil, List.all_cons, Bool.true_and, Bool.and_true]
  kernel_rfl
theorem shp2 : shpB p2 = true := by
  unfold shpB
  simp only [List.all_nil, List.all_cons, Bool.true_and, Bool.and_true]
  unfold funB
  simp only [nm_f, List.all_nil, Bool.true_and]
  rw [allE_eq]
  have hn : nodeB (.mk 2 0 [121] 0 []) = true := by
    unfold nodeB exU
    simp [nmFB, nm_y, opFB]
  rw [hn]
  rfl
theorem chk1 : chkF p1 = 4 := by
  unfold chkF
  rw [show limB p1 = false by kernel_rfl, shp1, show dupB p1 = true by kernel_rfl]
  rfl
theorem chk2 : chkF p2 = 3 := by
  unfold chkF
  rw [show limB p2 = false by kernel_rfl, shp2, show dupB p2 = false by kernel_rfl, show undB p2 = true by kernel_rfl]
  rfl
/-- A list of one function in a block. -/
theorem one_fn {w : World} {ok : Nat → Prop} {g : Nat} {f : FN} {t : TypeId} {cs : Array Value} (hb : Blk w g t cs) (hg : ok g) (h : RepG w ok f cs.toList) : RepL RepG 9 w ok [f] (.slice (some ⟨g, 0, none⟩) 1 1) :=
  ⟨fun _ => cs.toList, ⟨_, _, rfl, fun _ => ⟨g, rfl, hg, fun i j u hi hu => by
    obtain rfl : i = 0 := by simpa using hi
    rw [Nat.zero_mul, Nat.zero_add, hb.cell j]
    simpa using hu⟩⟩, fun i x hx => by
    match i with
    | 0 => simp at hx; subst hx; exact h
    | i + 1 => simp at hx⟩
theorem two_x {w : World} {ok : Nat → Prop} {g : Nat} {t : TypeId} (hb : Blk w g t #[.string ⟨#[120]⟩, .string ⟨#[120]⟩]) (hg : ok g) : RepL RepN 1 w ok [[120], [120]] (.slice (some ⟨g, 0, none⟩) 2 2) :=
  ⟨fun _ => [.string ⟨#[120]⟩], ⟨_, _, rfl, fun _ => ⟨g, rfl, hg, fun i j u hi hu => by
    have hi : i < 2 := hi
    match j with
    | 0 =>
      simp at hu
      subst hu
      rw [Nat.mul_one, Nat.add_zero, hb.cell i]
      match i, hi with
      | 0, _ => rfl
      | 1, _ => rfl
    | j + 1 => simp at hu⟩⟩, fun i x hx => by
    match i with
    | 0 => simp at hx; subst hx; rfl
    | 1 => simp at hx; subst hx; rfl
    | i + 2 => simp at hx⟩
theorem cex_any (w : World) (h : PEnv w) : Calls Tryz.prog 24 #[] w (RetN (.bool true) w) := by
  obtain ⟨V, hV⟩ : ∃ V, (((((w.alloc (.cells #[.int .i64 1, .int .i64 0, .string ⟨#[]⟩, .int .i64 0, .slice none 0 0] 44)).alloc (.cells #[.string ⟨#[120]⟩, .string ⟨#[120]⟩] 9)).alloc (.cells #[.string ⟨#[102]⟩, .slice (some ⟨w.heap.size + 1, 0, none⟩) 2 2, .slice none 0 0, .slice none 0 0, .int .i64 1, .int .i64 0, .string ⟨#[]⟩, .int .i64 0, .slice none 0 0] 47)).alloc (.cells #[.slice none 0 0, .slice (some ⟨w.heap.size + 1 + 1, 0, none⟩) 1 1] 28)).alloc (.cells #[.string ⟨#[102]⟩, .slice none 0 0, .slice none 0 0, .slice none 0 0, .int .i64 2, .int .i64 0, .string ⟨#[121]⟩, .int .i64 0, .slice none 0 0] 47)).alloc (.cells #[.slice none 0 0, .slice (some ⟨w.heap.size + 1 + 1 + 1 + 1, 0, none⟩) 1 1] 28) = V := ⟨_, rfl⟩
  have hbV : Below w.heap.size w V := by rw [← hV]; exact ((((((Below.refl _ _).alloc (Nat.le_refl _) _).alloc (by simp) _).alloc (by simp; omega) _).alloc (by simp; omega) _).alloc (by simp; omega) _).alloc (by simp; omega) _
  have kS : Blk V (w.heap.size + 1) 9 #[.string ⟨#[120]⟩, .string ⟨#[120]⟩] := by rw [← hV]; exact ((((blk_at (by simp) _ _).alloc _).alloc _).alloc _).alloc _
  have kF : Blk V (w.heap.size + 1 + 1) 47 #[.string ⟨#[102]⟩, .slice (some ⟨w.heap.size + 1, 0, none⟩) 2 2, .slice none 0 0, .slice none 0 0, .int .i64 1, .int .i64 0, .string ⟨#[]⟩, .int .i64 0, .slice none 0 0] := by rw [← hV]; exact (((blk_at (by simp) _ _).alloc _).alloc _).alloc _
  have kP : Blk V (w.heap.size + 1 + 1 + 1) 28 #[.slice none 0 0, .slice (some ⟨w.heap.size + 1 + 1, 0, none⟩) 1 1] := by rw [← hV]; exact ((blk_at (by simp) _ _).alloc _).alloc _
  have kG : Blk V (w.heap.size + 1 + 1 + 1 + 1) 47 #[.string ⟨#[102]⟩, .slice none 0 0, .slice none 0 0, .slice none 0 0, .int .i64 2, .int .i64 0, .string ⟨#[121]⟩, .int .i64 0, .slice none 0 0] := by rw [← hV]; exact (blk_at (by simp) _ _).alloc _
  have kQ : Blk V (w.heap.size + 1 + 1 + 1 + 1 + 1) 28 #[.slice none 0 0, .slice (some ⟨w.heap.size + 1 + 1 + 1 + 1, 0, none⟩) 1 1] := by rw [← hV]; exact blk_at (by simp) _ _
  have r0 : RepQ V (fun x => x < V.heap.size) p0 (.slice none 0 0) (.slice none 0 0) := ⟨repL_nil _ _ _ _, repL_nil _ _ _ _⟩
  have r1 : RepQ V (fun x => x < V.heap.size) p1 (.slice none 0 0) (.slice (some ⟨w.heap.size + 1 + 1, 0, none⟩) 1 1) :=
    ⟨repL_nil _ _ _ _, one_fn kF kF.lt ⟨⟨_, _, _, _, _, _, _, _, _, _, _, _, _, _, _, _, rfl, two_x kS kS.lt, repL_nil _ _ _ _, repL_nil _ _ _ _, repE_leaf _ _ _ _ _ _ _ _⟩, ⟨_, rfl, Or.inr ⟨_, _, _, rfl⟩⟩, ⟨_, rfl, Or.inl rfl⟩⟩⟩
  have r2 : RepQ V (fun x => x < V.heap.size) p2 (.slice none 0 0) (.slice (some ⟨w.heap.size + 1 + 1 + 1 + 1, 0, none⟩) 1 1) :=
    ⟨repL_nil _ _ _ _, one_fn kG kG.lt ⟨⟨_, _, _, _, _, _, _, _, _, _, _, _, _, _, _, _, rfl, repL_nil _ _ _ _, repL_nil _ _ _ _, repL_nil _ _ _ _, repE_leaf _ _ _ _ _ _ _ _⟩, ⟨_, rfl, Or.inl rfl⟩, ⟨_, rfl, Or.inl rfl⟩⟩⟩
  have c0 := chk_any p0 rfl (fun _ h => by cases h) (Or.inl rfl) _ _ V _ r0 (fun _ h => h) (by decide) (h.on hbV)
  rw [chk0] at c0
  have c1 := fun W (hW : Below V.heap.size V W) => chk_any p1 rfl (fun f hf => by rw [List.mem_singleton] at hf; rw [hf]) (Or.inr (Or.inr (by kernel_rfl))) _ _ W _ (r1.keep (fun _ h => h) (fun x hx => hW.block x hx)) (fun x hx => Nat.lt_of_lt_of_le hx hW.size) (by decide) ((h.on hbV).on hW)
  rw [chk1] at c1
  have c2 := fun W (hW : Below V.heap.size V W) => chk_any p2 rfl (fun f hf => by rw [List.mem_singleton] at hf; rw [hf]) (Or.inr (Or.inl (by kernel_rfl))) _ _ W _ (r2.keep (fun _ h => h) (fun x hx => hW.block x hx)) (fun x hx => Nat.lt_of_lt_of_le hx hW.size) (by decide) ((h.on hbV).on hW)
  rw [chk2] at c2
  have C0 := Lib.hid c0
  have C1 := Lib.hid c1
  have C2 := Lib.hid c2
  have HB := Lib.hid (And.intro hbV (And.intro kP (And.intro kQ hV)))
  clear c0 c1 c2 r0 r1 r2 kS kF kG kP kQ hbV hV h
  go_enter Tryz.func24, Tryz.ntmps24
  go_wp2_with fail
  rw [HB.out.2.2.2]
  refine C0.out.mono ?_
  rintro e w1 ⟨rfl, hb1⟩
  obtain ⟨x0, x1, _⟩ := (HB.out.2.1.on hb1 HB.out.2.1.lt).cells2
  have H1 := Lib.hid hb1
  clear hb1
  go_wp2_with fail
  refine (C1.out w1 H1.out).mono ?_
  rintro e w2 ⟨rfl, hb2⟩
  have hb := H1.out.trans (below_down hb2 H1.out.size)
  obtain ⟨y0, y1, _⟩ := (HB.out.2.2.1.on hb HB.out.2.2.1.lt).cells2
  have H2 := Lib.hid hb
  clear hb hb2 x0 x1
  go_wp2_with fail
  refine (C2.out w2 H2.out).mono ?_
  rintro e w3 ⟨rfl, hb3⟩
  have H3 := Lib.hid (HB.out.1.trans (below_down (H2.out.trans (below_down hb3 H2.out.size)) HB.out.1.size))
  clear hb3 y0 y1
  go_wp2_with fail
  go_ret
  exact retN rfl H3.out
end Go.Proofs.YtgiggkfnpbgkpaaGreatDoor
