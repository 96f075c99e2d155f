/- Stage 7: the walk of sortOf. -/
import Derived.Test.YtpgnlfdindmopaaGreatDoorRd
namespace Go.Proofs.YtpgnlfdindmopaaGreatDoor
open Go.RowKit (wrap64 intOf)
open Go Go.RowKit WM LX PX CX GX

set_option maxRecDepth 100000
set_option maxHeartbeats 4000000
/-- A node of a list, with what it is made of. -/
theorem node_at {l : List ND} {v : Value} {w : World} {ok : Nat → Prop} (hl : RepL RepD 3 w ok l v) {i : Nat} {op imm : Int} {kids : List Int} (hx : l[i]? = some ⟨op, imm, kids⟩) :
    ∃ g c A' c', v = .slice (some ⟨g, 0, none⟩) l.length c ∧ ok g ∧ w.cell? ⟨g, i * 3, none⟩ = some (.int .i64 op) ∧ w.cell? ⟨g, i * 3 + 1, none⟩ = some (.int .i64 imm) ∧ w.cell? ⟨g, i * 3 + 2, none⟩ = some (.slice A' kids.length c') ∧
      ∀ (j : Nat) (x : Int), kids[j]? = some x → ∃ g' o, A' = some ⟨g', o, none⟩ ∧ ok g' ∧ w.cell? ⟨g', o + j, none⟩ = some (.int .i64 x) := by
  obtain ⟨A, c, rfl, hrow⟩ := hl.at
  obtain ⟨g, cs, rfl, hg, ⟨vk, rfl, A', c', rfl, hkid, _⟩, hcell⟩ := hrow i _ hx
  exact ⟨g, c, A', c', rfl, hg, hcell 0 _ rfl, hcell 1 _ rfl, hcell 2 _ rfl, hkid⟩
/-- The same, with the operands' room. -/
theorem node_at2 {l : List ND} {v : Value} {w : World} {ok : Nat → Prop} (hl : RepL RepD 3 w ok l v) {i : Nat} {op imm : Int} {kids : List Int} (hx : l[i]? = some ⟨op, imm, kids⟩) :
    ∃ g c A' c', v = .slice (some ⟨g, 0, none⟩) l.length c ∧ ok g ∧ w.cell? ⟨g, i * 3, none⟩ = some (.int .i64 op) ∧ w.cell? ⟨g, i * 3 + 1, none⟩ = some (.int .i64 imm) ∧ w.cell? ⟨g, i * 3 + 2, none⟩ = some (.slice A' kids.length c') ∧ RepI w ok kids (.slice A' kids.length c') ∧ kids.length ≤ c' := by
  obtain ⟨A, c, rfl, hrow⟩ := hl.at
  obtain ⟨g, cs, rfl, hg, ⟨vk, rfl, A', c', rfl, hkid, hcap⟩, hcell⟩ := hrow i _ hx
  exact ⟨g, c, A', c', rfl, hg, hcell 0 _ rfl, hcell 1 _ rfl, hcell 2 _ rfl, ⟨_, _, rfl, hkid, hcap⟩, hcap⟩
/-- The sorts' cells. -/
def srtA (ss : List Nat) : Array Value := (ss.map fun s : Nat => Value.int .u8 (s : Int)).toArray
theorem srtA_at (ss : List Nat) (k : Nat) (h : k < ss.length) : (srtA ss)[k]? = some (.int .u8 ((ss.getD k 0 : Nat) : Int)) := by
  unfold srtA
  rw [List.getElem?_toArray, List.getElem?_map, List.getElem?_eq_getElem h, List.getD_eq_getElem?_getD, List.getElem?_eq_getElem h]
  rfl
theorem srt_cell {w : World} {S : Nat} {t : TypeId} {ss : List Nat} (h : Blk w S t (srtA ss)) {x : Int} (h0 : 0 ≤ x) (h1 : x < (ss.length : Int)) : w.cell? ⟨S, x.toNat, none⟩ = some (.int .u8 (knd ss x : Int)) := by
  rw [h.cell]; exact srtA_at ss x.toNat (by omega)
theorem ss_q (a b d : Nat) (w : World) : Calls Tryz.prog 93 #[.int .u8 (a : Int), .int .u8 (b : Int), .int .u8 (d : Int)] w fun e w' => e = .returned (.int .u8 (selS a b d : Int)) ∧ w' = w :=
  (ss_any a b d w).mono fun _ _ h => ⟨h.1, h.2.symm⟩
/-- The immediate operand is out of range. -/
theorem so_bad (l : List ND) (v : Value) (w : World) (ok : Nat → Prop) (hl : RepL RepD 3 w ok l v) (hok : ∀ g, ok g → g < w.heap.size) (hf : Fits l) (i : Nat) (op imm : Int) (kids : List Int) (hx : l[i]? = some ⟨op, imm, kids⟩) (hb : imm < immLo op ∨ immHi op < imm) (vs : Value) :
    Calls Tryz.prog 52 #[v, .int .i64 (i : Int), vs] w (RetN (.int .u8 0) w) := by
  have hi := (List.getElem?_eq_some_iff.1 hx).1
  have hll := hf.1
  obtain ⟨g, c, A', c', rfl, hg, x0, x1, x2, _⟩ := node_at hl hx
  have hgw := hok g hg
  obtain ⟨L, hL⟩ : ∃ L, l.length = L := ⟨_, rfl⟩
  obtain ⟨m, hm⟩ : ∃ m, kids.length = m := ⟨_, rfl⟩
  rw [hL] at hi hll ⊢
  rw [hm] at x2
  have hiL : (i : Int) < (L : Int) := by omega
  have hi0 : (0 : Int) ≤ (i : Int) := by omega
  have him := fun W => im_any op W
  obtain ⟨lo, hlo⟩ : ∃ lo, immLo op = lo := ⟨_, rfl⟩
  obtain ⟨hi', hhi⟩ : ∃ hi', immHi op = hi' := ⟨_, rfl⟩
  rw [hlo, hhi] at him hb
  have HI := Lib.hid him
  clear hl hf hL hm him hlo hhi hx hok hi
  by_cases h1 : imm < lo
  · clear hb
    go_enter Tryz.func52, Tryz.ntmps52
    go_wp2_with fail
    refine (HI.out _).mono ?_
    rintro e w' ⟨rfl, rfl⟩
    go_wp2_with fail
    go_ret
    exact retN rfl ((Below.refl _ _).alloc (Nat.le_refl _) _)
  · have h2 : hi' < imm := hb.resolve_left h1
    have h3 : lo ≤ imm := by omega
    clear hb h1
    go_enter Tryz.func52, Tryz.ntmps52
    go_wp2_with fail
    refine (HI.out _).mono ?_
    rintro e w' ⟨rfl, rfl⟩
    go_wp2_with fail
    go_ret
    exact retN rfl ((Below.refl _ _).alloc (Nat.le_refl _) _)
theorem kid_c {w : World} {ok : Nat → Prop} {g o j : Nat} {x : Int} (h : ∃ g' o', some (⟨g, o, none⟩ : Addr) = some ⟨g', o', none⟩ ∧ ok g' ∧ w.cell? ⟨g', o' + j, none⟩ = some (.int .i64 x)) : w.cell? ⟨g, o + j, none⟩ = some (.int .i64 x) := by
  obtain ⟨a, b, e, _, h⟩ := h
  injection e with e
  injection e with e1 e2
  subst e1 e2
  exact h
/-- A selection. -/
theorem so_sel (l : List ND) (v : Value) (w : World) (ok : Nat → Prop) (hl : RepL RepD 3 w ok l v) (hok : ∀ g, ok g → g < w.heap.size) (hf : Fits l) (i : Nat) (a b d : Int) (hx : l[i]? = some ⟨22, 0, [a, b, d]⟩)
    (S N cc : Nat) (t : TypeId) (ss : List Nat) (hS : Blk w S t (srtA ss)) (hN : ss.length = N) (ha : 0 ≤ a ∧ a < (N : Int)) (hb : 0 ≤ b ∧ b < (N : Int)) (hd : 0 ≤ d ∧ d < (N : Int)) :
    Calls Tryz.prog 52 #[v, .int .i64 (i : Int), .slice (some ⟨S, 0, none⟩) N cc] w (RetN (.int .u8 (selS (knd ss a) (knd ss b) (knd ss d) : Int)) w) := by
  have hi := (List.getElem?_eq_some_iff.1 hx).1
  have hll := hf.1
  obtain ⟨g, c, A', c', rfl, hg, x0, x1, x2, hkid⟩ := node_at hl hx
  obtain ⟨g', o, rfl, hg', k0⟩ := hkid 0 a rfl
  have k1 := kid_c (hkid 1 b rfl)
  have k2 := kid_c (hkid 2 d rfl)
  have k0 : w.cell? ⟨g', o, none⟩ = some (.int .i64 a) := k0
  have hgw := hok g hg
  have hgw' := hok g' hg'
  have hSw := hS.lt
  rw [← hN] at ha hb hd
  have s0 := srt_cell hS ha.1 ha.2
  have s1 := srt_cell hS hb.1 hb.2
  have s2 := srt_cell hS hd.1 hd.2
  rw [hN] at ha hb hd
  obtain ⟨ka, hka⟩ : ∃ k, knd ss a = k := ⟨_, rfl⟩
  obtain ⟨kb, hkb⟩ : ∃ k, knd ss b = k := ⟨_, rfl⟩
  obtain ⟨kd, hkd⟩ : ∃ k, knd ss d = k := ⟨_, rfl⟩
  rw [hka] at s0 ⊢
  rw [hkb] at s1 ⊢
  rw [hkd] at s2 ⊢
  obtain ⟨ha0, ha1⟩ := ha
  obtain ⟨hb0, hb1⟩ := hb
  obtain ⟨hd0, hd1⟩ := hd
  obtain ⟨L, hL⟩ : ∃ L, l.length = L := ⟨_, rfl⟩
  rw [hL] at hi hll ⊢
  have hiL : (i : Int) < (L : Int) := by omega
  have hi0 : (0 : Int) ≤ (i : Int) := by omega
  have HI := Lib.hid (fun W => im_any 22 W)
  clear hl hf hL hx hok hi hkid hka hkb hkd hS hN
  go_enter Tryz.func52, Tryz.ntmps52
  go_wp2_with fail
  refine (HI.out _).mono ?_
  rintro e w' ⟨rfl, rfl⟩
  go_wp2_with fail
  go_quiet ((go_at_call 93; exact Calls.quiet_of_same (ss_q _ _ _ _)))
  go_wp2_with fail
  go_ret
  exact retN rfl (below_drewN ((Below.refl _ _).alloc (Nat.le_refl _) _) _)
end Go.Proofs.YtpgnlfdindmopaaGreatDoor
