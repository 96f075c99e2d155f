/- Stage 7: Valid where there are no functions; the examples of chapter 7. -/
import Derived.Test.YtpgnlfdindmopaaGreatDoorRk
import Derived.Test.YtpgnlfdindmopaaGreatDoorK7
import Derived.Test.YtpgnlfdindmopaaGreatDoorI2
namespace Go.Proofs.YtpgnlfdindmopaaGreatDoor
open Go.RowKit (wrap64 intOf)
open Go Go.RowKit WM LX PX CX GX

set_option maxRecDepth 100000
set_option maxHeartbeats 4000000
theorem ol_nil (A : Option Addr) (n c : Nat) (w : World) : Calls Tryz.prog 28 #[.agg #[.slice A n c, .slice none 0 0]] w (RetN (.agg #[.slice A n c, .slice none 0 0]) w) := by
  go_enter Tryz.func28, Tryz.ntmps28
  go_wp2_with fail
  go_loop [12] (fun z => z = .int .i64 0) (fun _ => 0)
  case atStart => rfl
  case round =>
    obtain rfl := hrel
    go_wp2_with fail
    exact bodyPost_ret (v := .agg #[.slice A n c, .slice none 0 0]) (by simp [results, Tryz.results28, go_sem]) rfl ⟨rfl, (((Below.refl _ _).alloc (Nat.le_refl _) _).alloc (by simp) _).alloc (by simp; omega) _⟩
/-- A unit without functions whose arrays Check rejects. -/
theorem va_nil (ars : List (List UInt8 × Int)) (va : Value) (w : World) (ok : Nat → Prop) (h : RepL RepA 2 w ok ars va) (hok : ∀ g, ok g → g < w.heap.size) (hs : szP ⟨ars, []⟩ ≤ 1000000) (hc : chkF ⟨ars, []⟩ ≠ 0) (he : PEnv w) :
    Calls Tryz.prog 12 #[.agg #[va, .slice none 0 0]] w (RetN (.bool false) w) := by
  have hck := fun (W : World) (hW : Below w.heap.size w W) => chk2_any ⟨ars, []⟩ va (.slice none 0 0) W ok ⟨h.keep keepsA (fun _ h => h) (fun g hg => hW.block g (hok g hg)), repL_nil _ _ _ _⟩ (fun g hg => Nat.lt_of_lt_of_le (hok g hg) hW.size) hs (he.on hW)
  obtain ⟨A, c, rfl, _⟩ := h.at
  obtain ⟨r, hr⟩ : ∃ r, chkF ⟨ars, []⟩ = r := ⟨_, rfl⟩
  obtain ⟨n, hn⟩ : ∃ n, ars.length = n := ⟨_, rfl⟩
  rw [hr, hn] at hck
  rw [hr] at hc
  rw [hn]
  have hne : ((r : Int) != 0) = true := by rw [bne_iff_ne]; omega
  obtain ⟨W1, hW1⟩ : ∃ W1, w.alloc (.cells #[.slice A n c, .slice none 0 0] 57) = W1 := ⟨_, rfl⟩
  have hb1 : Below w.heap.size w W1 := by rw [← hW1]; exact (Below.refl _ _).alloc (Nat.le_refl _) _
  have HC := Lib.hid hck
  have HW := Lib.hid (And.intro hW1 hb1)
  clear h hok hs hc he hck hr hn hW1 hb1
  go_enter Tryz.func12, Tryz.ntmps12
  go_wp2_with fail
  rw [HW.out.1]
  (with_reducible refine (ol_nil A n c W1).mono ?_)
  rintro e w2 ⟨rfl, hb2⟩
  have HB2 : Hid (Below w.heap.size w w2) := Lib.hid (HW.out.2.trans (below_down hb2 HW.out.2.size))
  clear hb2
  go_wp2_with fail
  (with_reducible refine (HC.out _ HB2.out).mono ?_)
  rintro e w3 ⟨rfl, hb3⟩
  have HB3 : Hid (Below w.heap.size w w3) := Lib.hid (HB2.out.trans (below_down hb3 HB2.out.size))
  clear hb3
  go_wp2_with fail
  go_ret
  exact retN rfl HB3.out
/-- The example's nodes. -/
def exL : List ND := [⟨26, 0, []⟩, ⟨1, 0, []⟩, ⟨27, 1, [0, 1]⟩]
theorem ex_2 : sortF exL 2 = 2 := by kernel_rfl
theorem ex_1 : sortF exL 1 = 1 := by kernel_rfl
theorem ex_d : (depsF exL 2).length = 3 := by kernel_rfl
theorem ex_fit : Fits exL := ⟨by decide, fun n hn => by
  simp only [exL, List.mem_cons, List.not_mem_nil, or_false] at hn
  rcases hn with rfl | rfl | rfl <;> decide⟩
theorem ex_c : (chkF ⟨[([], 0)], []⟩ == 0) = false := by rw [IX.chkK]; kernel_rfl
theorem ex_sz : szP ⟨[([], 0)], []⟩ ≤ 1000000 := of_decide_eq_true (by kernel_rfl)
theorem repI_nil (w : World) (ok : Nat → Prop) : RepI w ok [] (.slice none 0 0) := ⟨none, 0, rfl, fun i x hx => by simp at hx, Nat.le_refl _⟩
theorem repI_blk {w : World} {ok : Nat → Prop} {K : Nat} {t : TypeId} {l : List Int} {c : Nat} (h : Blk w K t (l.map (Value.int .i64)).toArray) (hk : ok K) (hcap : l.length ≤ c) : RepI w ok l (.slice (some ⟨K, 0, none⟩) l.length c) :=
  ⟨some ⟨K, 0, none⟩, c, rfl, fun i x hx => ⟨K, 0, rfl, hk, by rw [Nat.zero_add, h.cell, List.getElem?_toArray, List.getElem?_map, hx]; rfl⟩, hcap⟩
/-- A list of nodes in a block. -/
theorem repD_blk {w : World} {ok : Nat → Prop} {G : Nat} {t : TypeId} {l : List ND} {vs : List Value} {c : Nat} (css : List (List Value)) (hcss : css = (l.zip vs).map fun x => [.int .i64 x.1.op, .int .i64 x.1.imm, x.2]) (hv : vs.length = l.length)
    (h : Blk w G t css.flatten.toArray) (hk : ok G) (hr : ∀ (i : Nat) (n : ND) (v : Value), l[i]? = some n → vs[i]? = some v → RepI w ok n.kids v) : RepL RepD 3 w ok l (.slice (some ⟨G, 0, none⟩) l.length c) := by
  have hlen : css.length = l.length := by rw [hcss]; simp [hv]
  have hsz : ∀ cs ∈ css, cs.length = 3 := fun cs hc => by
    rw [hcss] at hc
    obtain ⟨x, _, rfl⟩ := List.mem_map.1 hc
    rfl
  refine ⟨fun i => css.getD i [], ⟨_, c, rfl, fun _ => ⟨G, rfl, hk, fun i j u hi hu => ?_, fun h => absurd h (by decide)⟩⟩, fun i x hx => ?_⟩
  · have hci : css[i]? = some (css.getD i []) := by rw [List.getD_eq_getElem?_getD, List.getElem?_eq_getElem (by omega)]; rfl
    rw [h.cell, List.getElem?_toArray]
    exact flat_at 3 css hsz i j u _ hci hu
  · have hi := (List.getElem?_eq_some_iff.1 hx).1
    obtain ⟨v, hvi⟩ : ∃ v, vs[i]? = some v := ⟨_, List.getElem?_eq_getElem (by omega)⟩
    have hz : (l.zip vs)[i]? = some (x, v) := List.getElem?_zip_eq_some.2 ⟨hx, hvi⟩
    have : css.getD i [] = [.int .i64 x.op, .int .i64 x.imm, v] := by
      rw [List.getD_eq_getElem?_getD, hcss, List.getElem?_map, hz]
      rfl
    show RepD w ok x (css.getD i [])
    rw [this]
    exact ⟨v, rfl, hr i x v hx hvi⟩
theorem repA_one (w : World) (t : TypeId) : RepL RepA 2 (w.alloc (.cells #[.string ⟨#[]⟩, .int .i64 0] t)) (fun g => g < (w.alloc (.cells #[.string ⟨#[]⟩, .int .i64 0] t)).heap.size) [([], 0)] (.slice (some ⟨w.heap.size, 0, none⟩) 1 1) := by
  refine ⟨fun _ => [.string ⟨#[]⟩, .int .i64 0], ⟨_, 1, rfl, fun _ => ⟨w.heap.size, rfl, by simp, fun i j u hi hu => ?_, fun h => absurd h (by decide)⟩⟩, fun i x hx => ?_⟩
  · obtain rfl : i = 0 := by simp at hi; omega
    rw [Nat.zero_mul, Nat.zero_add, (Blk.new w t _).cell]
    simpa using hu
  · match i with
    | 0 => simp at hx; subst hx; rfl
    | i + 1 => simp at hx
theorem ire_any (w : World) (he : PEnv w) : Calls Tryz.prog 13 #[] w (RetN (.bool true) w) := by
  obtain ⟨W2, hW2⟩ : ∃ W2, (w.alloc (.cells #[.int .i64 0, .int .i64 1] 3)).alloc (.cells #[.int .i64 26, .int .i64 0, .slice none 0 0, .int .i64 1, .int .i64 0, .slice none 0 0, .int .i64 27, .int .i64 1, .slice (some ⟨w.heap.size, 0, none⟩) 2 2] 49) = W2 := ⟨_, rfl⟩
  have hb2 : Below w.heap.size w W2 := by rw [← hW2]; exact ((Below.refl _ _).alloc (Nat.le_refl _) _).alloc (by simp) _
  have kK : Blk W2 w.heap.size 3 #[.int .i64 0, .int .i64 1] := by rw [← hW2]; exact (Blk.new _ _ _).alloc _
  have kG : Blk W2 (w.heap.size + 1) 49 #[.int .i64 26, .int .i64 0, .slice none 0 0, .int .i64 1, .int .i64 0, .slice none 0 0, .int .i64 27, .int .i64 1, .slice (some ⟨w.heap.size, 0, none⟩) 2 2] := by rw [← hW2]; exact blk_at (by simp) _ _
  have hrep : RepL RepD 3 W2 (fun g => g < W2.heap.size) exL (.slice (some ⟨w.heap.size + 1, 0, none⟩) exL.length 3) :=
    repD_blk (vs := [.slice none 0 0, .slice none 0 0, .slice (some ⟨w.heap.size, 0, none⟩) 2 2]) _ rfl rfl kG kG.lt (fun i n v hn hv => by
      match i with
      | 0 => simp [exL] at hn hv; subst hn hv; exact repI_nil _ _
      | 1 => simp [exL] at hn hv; subst hn hv; exact repI_nil _ _
      | 2 => simp [exL] at hn hv; subst hn hv; exact repI_blk (l := [0, 1]) kK kK.lt (by decide)
      | i + 3 => simp [exL] at hn)
  have hk := fun (W : World) (hW : Below W2.heap.size W2 W) => hrep.keep (w' := W) (ok' := fun g => g < W2.heap.size) keepsD (fun _ h => h) (fun g hg => hW.block g hg)
  have h2 : ∀ W, Below W2.heap.size W2 W → Calls Tryz.prog 11 #[.slice (some ⟨w.heap.size + 1, 0, none⟩) 3 3, .int .i64 2] W (RetN (.int .i64 2) W) := fun W hW => by
    have := sort_any exL _ W _ (hk W hW) (fun g hg => Nat.lt_of_lt_of_le hg hW.size) ex_fit 2 (by omega)
    rw [ex_2] at this
    exact this
  have h1 : ∀ W, Below W2.heap.size W2 W → Calls Tryz.prog 11 #[.slice (some ⟨w.heap.size + 1, 0, none⟩) 3 3, .int .i64 1] W (RetN (.int .i64 1) W) := fun W hW => by
    have := sort_any exL _ W _ (hk W hW) (fun g hg => Nat.lt_of_lt_of_le hg hW.size) ex_fit 1 (by omega)
    rw [ex_1] at this
    exact this
  have hd : ∀ W, Below W2.heap.size W2 W → Calls Tryz.prog 31 #[.slice (some ⟨w.heap.size + 1, 0, none⟩) 3 3, .int .i64 2] W (fun e w' => ∃ A c, e = .returned (.slice A 3 c) ∧ Below W.heap.size W w') := fun W hW =>
    (deps_any exL _ W _ (hk W hW) (fun g hg => Nat.lt_of_lt_of_le hg hW.size) ex_fit 2 (by omega)).mono fun e w' ⟨A, c, h1, _, h2⟩ => ⟨A, c, by rw [ex_d] at h1; exact h1, h2⟩
  have a1 : ∀ W, Calls Tryz.prog 30 #[.int .i64 28] W (fun e w' => e = .returned (.tuple #[.int .i64 3, .bool true]) ∧ W = w') := fun W => ar_any 28 W
  have a2 : ∀ W, Calls Tryz.prog 30 #[.int .i64 99] W (fun e w' => e = .returned (.tuple #[.int .i64 0, .bool false]) ∧ W = w') := fun W => ar_any 99 W
  have hv : ∀ W, Below w.heap.size w W → Calls Tryz.prog 12 #[.agg #[.slice (some ⟨W.heap.size, 0, none⟩) 1 1, .slice none 0 0]] (W.alloc (.cells #[.string ⟨#[]⟩, .int .i64 0] 75)) (RetN (.bool false) (W.alloc (.cells #[.string ⟨#[]⟩, .int .i64 0] 75))) := fun W hW =>
    va_nil [([], 0)] _ _ _ (repA_one W _) (fun g hg => hg) ex_sz (by have := ex_c; rw [beq_eq_false_iff_ne] at this; exact this) (he.on (hW.alloc hW.size _))
  have HH := Lib.hid (And.intro h2 (And.intro h1 (And.intro hd (And.intro a1 (And.intro a2 hv)))))
  have HB := Lib.hid (And.intro hW2 hb2)
  clear hW2 hb2 kK kG hrep hk h2 h1 hd a1 a2 hv he
  go_enter Tryz.func13, Tryz.ntmps13
  go_wp2_with fail
  rw [HB.out.1]
  (with_reducible refine (HH.out.2.2.2.1 _).mono ?_)
  rintro e w' ⟨rfl, rfl⟩
  go_wp2_with fail
  (with_reducible refine (HH.out.2.2.2.2.1 _).mono ?_)
  rintro e w' ⟨rfl, rfl⟩
  go_wp2_with fail
  (with_reducible refine (HH.out.1 _ (Below.refl _ _)).mono ?_)
  rintro e w3 ⟨rfl, hb3⟩
  have H3 := Lib.hid hb3
  clear hb3
  go_wp2_with fail
  (with_reducible refine (HH.out.2.1 _ H3.out).mono ?_)
  rintro e w4 ⟨rfl, hb4⟩
  have H4 : Hid (Below W2.heap.size W2 w4) := Lib.hid (H3.out.trans (below_down hb4 H3.out.size))
  clear hb4
  go_wp2_with fail
  (with_reducible refine (HH.out.2.2.1 _ H4.out).mono ?_)
  rintro e w5 ⟨A, c, rfl, hb5⟩
  have H5 : Hid (Below w.heap.size w w5) := Lib.hid (HB.out.2.trans (below_down (H4.out.trans (below_down hb5 H4.out.size)) HB.out.2.size))
  clear hb5
  go_wp2_with fail
  (with_reducible refine (HH.out.2.2.2.2.2 _ H5.out).mono ?_)
  rintro e w6 ⟨rfl, hb6⟩
  have H6 : Hid (Below w.heap.size w w6) := Lib.hid ((H5.out.alloc H5.out.size _).trans (below_down hb6 (H5.out.alloc H5.out.size _).size))
  clear hb6
  go_wp2_with fail
  go_ret
  exact retN rfl H6.out
end Go.Proofs.YtpgnlfdindmopaaGreatDoor
