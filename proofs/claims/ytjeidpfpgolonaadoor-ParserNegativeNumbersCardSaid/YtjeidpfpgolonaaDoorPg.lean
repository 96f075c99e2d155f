/- Stage 3: the walks of operator and apply. -/
import Derived.Test.YtjeidpfpgolonaaDoorPf
import Derived.Deep.LoopGhost
import Derived.Deep.RegionWith
namespace Go.Proofs.YtjeidpfpgolonaaDoor
open Go.RowKit (wrap64 intOf)
open Go Go.RowKit WM LX PX

set_option maxRecDepth 100000
set_option maxHeartbeats 2000000
theorem ox (k : Nat) (hk : k < 17) : ∃ (x : List UInt8) (lv op : Nat) (ex : Bool), (∀ w : World, (Instr.index 137 (.agg opsCells) (.int .i64 (k : Int))).run Tryd.prog w = .ok (.agg #[.string ⟨x.toArray⟩, .int .i64 (lv : Int), .int .i64 (op : Int), .bool ex]) w) ∧ opsT.getD k ([], 0, 0, false) = (x, lv, op, ex) := by
  have hc : k = 0 ∨ k = 1 ∨ k = 2 ∨ k = 3 ∨ k = 4 ∨ k = 5 ∨ k = 6 ∨ k = 7 ∨ k = 8 ∨ k = 9 ∨ k = 10 ∨ k = 11 ∨ k = 12 ∨ k = 13 ∨ k = 14 ∨ k = 15 ∨ k = 16 := by omega
  rcases hc with rfl | rfl | rfl | rfl | rfl | rfl | rfl | rfl | rfl | rfl | rfl | rfl | rfl | rfl | rfl | rfl | rfl
  · exact ⟨[124], 1, 10, false, fun w => by kernel_rfl, rfl⟩
  · exact ⟨[94], 2, 11, false, fun w => by kernel_rfl, rfl⟩
  · exact ⟨[38], 3, 9, false, fun w => by kernel_rfl, rfl⟩
  · exact ⟨[61, 61], 4, 15, false, fun w => by kernel_rfl, rfl⟩
  · exact ⟨[33, 61], 4, 16, false, fun w => by kernel_rfl, rfl⟩
  · exact ⟨[60], 5, 17, false, fun w => by kernel_rfl, rfl⟩
  · exact ⟨[60, 61], 5, 18, false, fun w => by kernel_rfl, rfl⟩
  · exact ⟨[62], 5, 17, true, fun w => by kernel_rfl, rfl⟩
  · exact ⟨[62, 61], 5, 18, true, fun w => by kernel_rfl, rfl⟩
  · exact ⟨[60, 60], 6, 12, false, fun w => by kernel_rfl, rfl⟩
  · exact ⟨[62, 62], 6, 14, false, fun w => by kernel_rfl, rfl⟩
  · exact ⟨[62, 62, 62], 6, 13, false, fun w => by kernel_rfl, rfl⟩
  · exact ⟨[43], 7, 4, false, fun w => by kernel_rfl, rfl⟩
  · exact ⟨[45], 7, 5, false, fun w => by kernel_rfl, rfl⟩
  · exact ⟨[42], 8, 6, false, fun w => by kernel_rfl, rfl⟩
  · exact ⟨[47], 8, 7, false, fun w => by kernel_rfl, rfl⟩
  · exact ⟨[37], 8, 8, false, fun w => by kernel_rfl, rfl⟩
theorem opAt_none {x : List UInt8} (h : ∀ k, k < 17 → (opsT.getD k ([], 0, 0, false)).1 ≠ x) : opAt x = none := by
  unfold opAt
  rw [List.find?_eq_none]
  intro o ho
  obtain ⟨i, hi, rfl⟩ := List.mem_iff_getElem.1 ho
  have := h i hi
  rw [List.getD_eq_getElem?_getD, List.getElem?_eq_getElem hi] at this
  simpa using this
theorem opAt_some {x : List UInt8} {k : Nat} (hk : k < 17) (h : ∀ j, j < k → (opsT.getD j ([], 0, 0, false)).1 ≠ x) (hx : (opsT.getD k ([], 0, 0, false)).1 = x) : opAt x = some (opsT.getD k ([], 0, 0, false)) := by
  have hg : ∀ j, (hj : j < opsT.length) → opsT.getD j ([], 0, 0, false) = opsT[j]'hj := fun j hj => by rw [List.getD_eq_getElem?_getD, List.getElem?_eq_getElem hj]; rfl
  unfold opAt
  rw [List.find?_eq_some_iff_getElem]
  refine ⟨decide_eq_true hx, k, hk, (hg k hk).symm, fun j hj => ?_⟩
  have h1 := h j hj
  rw [hg j (show j < opsT.length from Nat.lt_trans hj hk)] at h1
  simpa using h1
/-- What operator answers. -/
def OpP (r : Option (List UInt8 × Nat × Nat × Bool)) (w : World) (e : Ending) (w' : World) : Prop :=
  match r with
  | none => e = .returned (.tuple #[.agg #[.string ⟨#[]⟩, .int .i64 0, .int .i64 0, .bool false], .bool false]) ∧ Below w.heap.size w w'
  | some (x, lv, op, ex) => e = .returned (.tuple #[.agg #[.string ⟨x.toArray⟩, .int .i64 (lv : Int), .int .i64 (op : Int), .bool ex], .bool true]) ∧ Below w.heap.size w w'
theorem opP_some {r : Option (List UInt8 × Nat × Nat × Bool)} {x : List UInt8} {lv op : Nat} {ex : Bool} (h : r = some (x, lv, op, ex)) {w w' : World} (hb : Below w.heap.size w w') : OpP r w (.returned (.tuple #[.agg #[.string ⟨x.toArray⟩, .int .i64 (lv : Int), .int .i64 (op : Int), .bool ex], .bool true])) w' := by
  subst h; exact ⟨rfl, hb⟩
theorem opP_none {r : Option (List UInt8 × Nat × Nat × Bool)} (h : r = none) {w w' : World} (hb : Below w.heap.size w w') : OpP r w (.returned (.tuple #[.agg #[.string ⟨#[]⟩, .int .i64 0, .int .i64 0, .bool false], .bool false])) w' := by
  subst h; exact ⟨rfl, hb⟩
theorem Blk.cells4 {w : World} {g : Nat} {t : TypeId} {a b c d : Value} (h : Blk w g t #[a, b, c, d]) : w.cell? ⟨g, 0, none⟩ = some a ∧ w.cell? ⟨g, 1, none⟩ = some b ∧ w.cell? ⟨g, 2, none⟩ = some c ∧ w.cell? ⟨g, 3, none⟩ = some d ∧
    w.frozen? ⟨g, 0, none⟩ = false ∧ w.frozen? ⟨g, 1, none⟩ = false ∧ w.frozen? ⟨g, 2, none⟩ = false ∧ w.frozen? ⟨g, 3, none⟩ = false :=
  ⟨h.cell 0, h.cell 1, h.cell 2, h.cell 3, h.free 0, h.free 1, h.free 2, h.free 3⟩
abbrev op0 : Array Value := #[.string ⟨#[]⟩, .int .i64 0, .int .i64 0, .bool false]
abbrev set4 (w1 : World) (g : Nat) (a b c d : Value) : World := (((w1.setCell ⟨g, 0, none⟩ a).setCell ⟨g, 1, none⟩ b).setCell ⟨g, 2, none⟩ c).setCell ⟨g, 3, none⟩ d
theorem set4_blk {w1 : World} {g : Nat} {t : TypeId} {a0 b0 c0 d0 : Value} (h : Blk w1 g t #[a0, b0, c0, d0]) (a b c d : Value) : Blk (set4 w1 g a b c d) g t #[a, b, c, d] := (((h.set 0 a).set 1 b).set 2 c).set 3 d
theorem set4_below {w w1 : World} {B g : Nat} (h : Below B w w1) (hg : B ≤ g) (a b c d : Value) : Below B w (set4 w1 g a b c d) := (((h.setCell hg a).setCell hg b).setCell hg c).setCell hg d
def OpR (x : List UInt8) (w : World) (i : Value) (wr : World) : Prop :=
  ∃ j : Nat, j ≤ 17 ∧ (∀ k, k < j → (opsT.getD k ([], 0, 0, false)).1 ≠ x) ∧ i = .int .i64 (j : Int) ∧ Below w.heap.size w wr ∧ Blk wr w.heap.size 129 op0
theorem operator_any (ts : List Tk) (p : Nat) (s : PS) (r : Option (List UInt8 × Nat × Nat × Bool)) (hr : Hid (opAt (pk ts s).text = r)) (w : World) (h : PSt ts p s w) :
    Calls Tryd.prog 103 #[.pointer (some ⟨p, 0, none⟩)] w (OpP r w) := by
  obtain ⟨t, ht⟩ : ∃ t, pk ts s = t := ⟨_, rfl⟩
  have HT := Lib.hid ht
  have kf := tokF1
  have hr1 : opAt t.text = r := by rw [← ht]; exact hr.out
  have HR := Lib.hid hr1
  have h0 := h.alloc (.cells op0 129)
  obtain ⟨x, hx⟩ : ∃ x, t.text = x := ⟨_, rfl⟩
  have HX := Lib.hid hx
  clear hr1 ht hx
  go_enter Tryd.func103, Tryd.ntmps103
  go_wp2_with fail
  refine (peek_any ts p s t HT _ h0).mono ?_
  rintro e w1 ⟨rfl, hb1⟩
  rw [HX.out]
  have h1 := h0.keep hb1
  obtain ⟨_, tt, fr, hg⟩ := h1.env.2.1
  have HG := Lib.hid hg
  have hR := (Blk.new w 129 op0).on hb1 (by simp)
  have hB := ((Below.refl _ _).alloc (Nat.le_refl _) (.cells op0 129)).trans (below_down hb1 (by simp))
  have HRB := Lib.hid hR
  have HBB := Lib.hid hB
  clear hg hb1 h1 hR hB
  go_wp2_with (refine wpList_load_row rfl 137 _ rfl 3 rfl tt _ fr _ HG.out Tryd.underlying137 rfl (by kernel_rfl) ?_)
  go_loopg [11] 17 (fun k i wr => OpR x w i wr ∧ (intOf i).toNat + k = 17)
  case atStart => exact ⟨⟨0, Nat.zero_le _, fun i hi => absurd hi (by omega), rfl, HBB.out, HRB.out⟩, rfl⟩
  case round =>
    obtain ⟨⟨j, hj, hd, rfl, hB, hR⟩, hgk⟩ := hrel
    have HD := Lib.hid hd
    have HRB := Lib.hid hR
    have HBB := Lib.hid hB
    have hlt0 := hR.lt
    simp [intOf] at hgk
    obtain ⟨r0, r1, r2, r3, f0, f1, f2, f3⟩ := hR.cells4
    clear hd hR hB
    by_cases hlt : j < 17
    · obtain ⟨y, lv, op, ex, hix, hy⟩ := ox j hlt
      have HY := Lib.hid hy
      clear hy
      by_cases he : y = x
      · have he1 : (y == x) = true := by simp [he]
        have HE := Lib.hid he
        clear he
        go_wp2_with fail
        obtain ⟨q0, q1, q2, q3, _⟩ := ((set4_blk HRB.out (.string ⟨y.toArray⟩) (.int .i64 (lv : Int)) (.int .i64 (op : Int)) (.bool ex)).alloc (.cells #[.string ⟨y.toArray⟩, .int .i64 (lv : Int), .int .i64 (op : Int), .bool ex] 129)).cells4
        exact bodyPost_ret (v := .tuple #[.agg #[.string ⟨y.toArray⟩, .int .i64 (lv : Int), .int .i64 (op : Int), .bool ex], .bool true]) (by simp [results, Tryd.results103, go_sem, q0, q1, q2, q3]) rfl
          (opP_some (by rw [← HR.out, HX.out, opAt_some hlt HD.out (by rw [HY.out]; exact HE.out), HY.out]) ((set4_below HBB.out (Nat.le_refl _) _ _ _ _).alloc (by simp [World.setCell]; omega) _))
      · have he1 : (y == x) = false := by simp [he]
        have HE := Lib.hid he
        clear he
        go_wp2_with fail
        go_roundg (17 - (j + 1))
        case measure => omega
        case rel => exact ⟨⟨j + 1, by omega, fun k hk => by
          by_cases e : k = j
          · subst e; rw [HY.out]; exact HE.out
          · exact HD.out k (by omega), by go_num, HBB.out.alloc (Nat.le_of_lt hlt0) _, HRB.out.alloc _⟩, by simp [intOf]; omega⟩
    · obtain rfl : j = 17 := by omega
      go_wp2_with fail
      obtain ⟨q0, q1, q2, q3, _⟩ := (set4_blk HRB.out (.string ⟨#[]⟩) (.int .i64 0) (.int .i64 0) (.bool false)).cells4
      exact bodyPost_ret (v := .tuple #[.agg #[.string ⟨#[]⟩, .int .i64 0, .int .i64 0, .bool false], .bool false]) (by simp [results, Tryd.results103, go_sem, q0, q1, q2, q3]) rfl
        (opP_none (by rw [← HR.out, HX.out]; exact opAt_none HD.out) (set4_below HBB.out (Nat.le_refl _) _ _ _ _))
/-- What apply answers: a node over the two operands' cells. -/
def ApP (op : Int) (cs : List Value) (w : World) (e : Ending) (w' : World) : Prop :=
  ∃ g, e = .returned (exV 4 0 [] op (some ⟨g, 0, none⟩) 2 2) ∧ Below w.heap.size w w' ∧ w.heap.size ≤ g ∧ Blk w' g 45 cs.toArray
theorem apP {op : Int} {cs : List Value} {w w' : World} {g : Nat} (hb : Below w.heap.size w w') (hg : w.heap.size ≤ g) (hk : Blk w' g 45 cs.toArray) : ApP op cs w (.returned (exV 4 0 [] op (some ⟨g, 0, none⟩) 2 2)) w' := ⟨g, rfl, hb, hg, hk⟩
theorem apply_any (x : List UInt8) (lv op : Int) (ex : Bool) (kd nn : Int) (nm : List UInt8) (o1 : Int) (A : Option Addr) (L c : Nat) (kd2 nn2 : Int) (nm2 : List UInt8) (o2 : Int) (A2 : Option Addr) (L2 c2 : Nat) (w : World) :
    Calls Tryd.prog 104 #[.agg #[.string ⟨x.toArray⟩, .int .i64 lv, .int .i64 op, .bool ex], exV kd nn nm o1 A L c, exV kd2 nn2 nm2 o2 A2 L2 c2] w
      (ApP op (if ex = true then exC kd2 nn2 nm2 o2 A2 L2 c2 ++ exC kd nn nm o1 A L c else exC kd nn nm o1 A L c ++ exC kd2 nn2 nm2 o2 A2 L2 c2) w) := by
  cases ex
  · rw [if_neg (by decide)]
    go_enter Tryd.func104, Tryd.ntmps104
    go_wp2_with fail
    have hz3 : (((w.alloc (.cells #[.string ⟨x.toArray⟩, .int .i64 lv, .int .i64 op, .bool false] 129)).alloc (.cells #[.int .i64 kd, .int .i64 nn, .string ⟨nm.toArray⟩, .int .i64 o1, .slice A L c] 45)).alloc (.cells #[.int .i64 kd2, .int .i64 nn2, .string ⟨nm2.toArray⟩, .int .i64 o2, .slice A2 L2 c2] 45)).heap.size = w.heap.size + 1 + 1 + 1 := by simp
    have hK := blk_at (W := (((w.alloc (.cells #[.string ⟨x.toArray⟩, .int .i64 lv, .int .i64 op, .bool false] 129)).alloc (.cells #[.int .i64 kd, .int .i64 nn, .string ⟨nm.toArray⟩, .int .i64 o1, .slice A L c] 45)).alloc (.cells #[.int .i64 kd2, .int .i64 nn2, .string ⟨nm2.toArray⟩, .int .i64 o2, .slice A2 L2 c2] 45)).alloc (.cells ex0 45)) (n := w.heap.size + 1 + 1 + 1 + 1) (by rw [World.size_alloc, hz3]) 45 #[.int .i64 kd, .int .i64 nn, .string ⟨nm.toArray⟩, .int .i64 o1, .slice A L c, .int .i64 kd2, .int .i64 nn2, .string ⟨nm2.toArray⟩, .int .i64 o2, .slice A2 L2 c2]
    have hR := (blk_at hz3 45 ex0).alloc (.cells #[.int .i64 kd, .int .i64 nn, .string ⟨nm.toArray⟩, .int .i64 o1, .slice A L c, .int .i64 kd2, .int .i64 nn2, .string ⟨nm2.toArray⟩, .int .i64 o2, .slice A2 L2 c2] 45)
    have hB : Below w.heap.size w (((((w.alloc (.cells #[.string ⟨x.toArray⟩, .int .i64 lv, .int .i64 op, .bool false] 129)).alloc (.cells #[.int .i64 kd, .int .i64 nn, .string ⟨nm.toArray⟩, .int .i64 o1, .slice A L c] 45)).alloc (.cells #[.int .i64 kd2, .int .i64 nn2, .string ⟨nm2.toArray⟩, .int .i64 o2, .slice A2 L2 c2] 45)).alloc (.cells ex0 45)).alloc (.cells #[.int .i64 kd, .int .i64 nn, .string ⟨nm.toArray⟩, .int .i64 o1, .slice A L c, .int .i64 kd2, .int .i64 nn2, .string ⟨nm2.toArray⟩, .int .i64 o2, .slice A2 L2 c2] 45)) :=
      (((((Below.refl _ _).alloc (Nat.le_refl _) _).alloc (by simp) _).alloc (by simp; omega) _).alloc (by rw [hz3]; omega) _).alloc (by rw [World.size_alloc, hz3]; omega) _
    refine (operation_any op _ 2 2 _).mono ?_
    rintro e w5 ⟨rfl, hb1⟩
    replace hK := hK.on hb1 (by rw [World.size_alloc, World.size_alloc, hz3]; omega)
    replace hR := hR.on hb1 (by rw [World.size_alloc, World.size_alloc, hz3]; omega)
    replace hB := hB.trans (below_down hb1 hB.size)
    obtain ⟨r0, r1, r2, r3, r4, f0, f1, f2, f3, f4⟩ := hR.cells5
    have HK := Lib.hid hK
    have HR := Lib.hid hR
    have HB := Lib.hid hB
    clear hK hR hB hb1 hz3
    go_wp2_with fail
    obtain ⟨q0, q1, q2, q3, q4, _⟩ := (set5_blk HR.out (.int .i64 4) (.int .i64 0) (.string ⟨#[]⟩) (.int .i64 op) (.slice (some ⟨w.heap.size + 1 + 1 + 1 + 1, 0, none⟩) 2 2)).cells5
    exact bodyPost_ret (v := exV 4 0 [] op (some ⟨w.heap.size + 1 + 1 + 1 + 1, 0, none⟩) 2 2) (by simp [results, Tryd.results104, go_sem, q0, q1, q2, q3, q4]) rfl
      (apP (((((HB.out.setCell (by simp; omega) _).setCell (by simp; omega) _).setCell (by simp; omega) _).setCell (by simp; omega) _).setCell (by simp; omega) _) (by omega) ((set5_heap _ _ _ _ _ _ _ _ (by omega)).trans HK.out))
  · rw [if_pos rfl]
    go_enter Tryd.func104, Tryd.ntmps104
    go_wp2_with fail
    have hz3 : (((w.alloc (.cells #[.string ⟨x.toArray⟩, .int .i64 lv, .int .i64 op, .bool true] 129)).alloc (.cells #[.int .i64 kd2, .int .i64 nn2, .string ⟨nm2.toArray⟩, .int .i64 o2, .slice A2 L2 c2] 45)).alloc (.cells #[.int .i64 kd, .int .i64 nn, .string ⟨nm.toArray⟩, .int .i64 o1, .slice A L c] 45)).heap.size = w.heap.size + 1 + 1 + 1 := by simp
    have hK := blk_at (W := (((w.alloc (.cells #[.string ⟨x.toArray⟩, .int .i64 lv, .int .i64 op, .bool true] 129)).alloc (.cells #[.int .i64 kd2, .int .i64 nn2, .string ⟨nm2.toArray⟩, .int .i64 o2, .slice A2 L2 c2] 45)).alloc (.cells #[.int .i64 kd, .int .i64 nn, .string ⟨nm.toArray⟩, .int .i64 o1, .slice A L c] 45)).alloc (.cells ex0 45)) (n := w.heap.size + 1 + 1 + 1 + 1) (by rw [World.size_alloc, hz3]) 45 #[.int .i64 kd2, .int .i64 nn2, .string ⟨nm2.toArray⟩, .int .i64 o2, .slice A2 L2 c2, .int .i64 kd, .int .i64 nn, .string ⟨nm.toArray⟩, .int .i64 o1, .slice A L c]
    have hR := (blk_at hz3 45 ex0).alloc (.cells #[.int .i64 kd2, .int .i64 nn2, .string ⟨nm2.toArray⟩, .int .i64 o2, .slice A2 L2 c2, .int .i64 kd, .int .i64 nn, .string ⟨nm.toArray⟩, .int .i64 o1, .slice A L c] 45)
    have hB : Below w.heap.size w (((((w.alloc (.cells #[.string ⟨x.toArray⟩, .int .i64 lv, .int .i64 op, .bool true] 129)).alloc (.cells #[.int .i64 kd2, .int .i64 nn2, .string ⟨nm2.toArray⟩, .int .i64 o2, .slice A2 L2 c2] 45)).alloc (.cells #[.int .i64 kd, .int .i64 nn, .string ⟨nm.toArray⟩, .int .i64 o1, .slice A L c] 45)).alloc (.cells ex0 45)).alloc (.cells #[.int .i64 kd2, .int .i64 nn2, .string ⟨nm2.toArray⟩, .int .i64 o2, .slice A2 L2 c2, .int .i64 kd, .int .i64 nn, .string ⟨nm.toArray⟩, .int .i64 o1, .slice A L c] 45)) :=
      (((((Below.refl _ _).alloc (Nat.le_refl _) _).alloc (by simp) _).alloc (by simp; omega) _).alloc (by rw [hz3]; omega) _).alloc (by rw [World.size_alloc, hz3]; omega) _
    refine (operation_any op _ 2 2 _).mono ?_
    rintro e w5 ⟨rfl, hb1⟩
    replace hK := hK.on hb1 (by rw [World.size_alloc, World.size_alloc, hz3]; omega)
    replace hR := hR.on hb1 (by rw [World.size_alloc, World.size_alloc, hz3]; omega)
    replace hB := hB.trans (below_down hb1 hB.size)
    obtain ⟨r0, r1, r2, r3, r4, f0, f1, f2, f3, f4⟩ := hR.cells5
    have HK := Lib.hid hK
    have HR := Lib.hid hR
    have HB := Lib.hid hB
    clear hK hR hB hb1 hz3
    go_wp2_with fail
    obtain ⟨q0, q1, q2, q3, q4, _⟩ := (set5_blk HR.out (.int .i64 4) (.int .i64 0) (.string ⟨#[]⟩) (.int .i64 op) (.slice (some ⟨w.heap.size + 1 + 1 + 1 + 1, 0, none⟩) 2 2)).cells5
    exact bodyPost_ret (v := exV 4 0 [] op (some ⟨w.heap.size + 1 + 1 + 1 + 1, 0, none⟩) 2 2) (by simp [results, Tryd.results104, go_sem, q0, q1, q2, q3, q4]) rfl
      (apP (((((HB.out.setCell (by simp; omega) _).setCell (by simp; omega) _).setCell (by simp; omega) _).setCell (by simp; omega) _).setCell (by simp; omega) _) (by omega) ((set5_heap _ _ _ _ _ _ _ _ (by omega)).trans HK.out))
end Go.Proofs.YtjeidpfpgolonaaDoor
