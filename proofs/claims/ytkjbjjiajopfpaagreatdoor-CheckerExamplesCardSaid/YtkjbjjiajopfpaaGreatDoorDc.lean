/- Stage 4: the walks of the lists of names: arrayNames (of no arrays), functionNames, hasRepetition. -/
import Derived.Test.YtkjbjjiajopfpaaGreatDoorCg
import Derived.Maps.AppendAt
import Derived.Deep.AppendLies
namespace Go.Proofs.YtkjbjjiajopfpaaGreatDoor
open Go.RowKit (wrap64 intOf)
open Go Go.RowKit WM LX PX CX

set_option maxRecDepth 100000
set_option maxHeartbeats 4000000
/-- A list of names was made: its slice, its reading, only new memory. -/
def NsP (xs : List (List UInt8)) (w : World) (e : Ending) (w' : World) : Prop :=
  ∃ A c, e = .returned (.slice A xs.length c) ∧ xs.length ≤ c ∧ RepL RepN 1 w' (Rg w.heap.size w'.heap.size) xs (.slice A xs.length c) ∧ Below w.heap.size w w'
theorem ns_nil (w w' : World) (h : Below w.heap.size w w') : NsP [] w (.returned (.slice none 0 0)) w' := ⟨none, 0, rfl, Nat.le_refl _, repL_nil _ _ _ _, h⟩
theorem coll_ns {w w' : World} {E : TypeId} {xs : List (List UInt8)} {css : List (List Value)} {v : Value} (c : Coll RepN 1 E w.heap.size xs css v w') (hb : Below w.heap.size w w') : NsP xs w (.returned v) w' := by
  have hl := c.len
  have ho := c.out keepsN
  rcases c.own.2 with ⟨rfl, h0⟩ | ⟨g, cap, cur, rfl, _, _, h1, _⟩
  · obtain rfl : xs = [] := List.eq_nil_of_length_eq_zero (by omega)
    exact ns_nil w w' hb
  · rw [← hl] at h1 ho ⊢
    exact ⟨_, _, rfl, h1, ho, hb⟩
def NsR (ns : List (List UInt8)) (len : Nat) (w W1 : World) (k : Nat) (v i : Value) (wr : World) : Prop :=
  ∃ (j : Nat) (css : List (List Value)), j + k = len ∧ i = .int .i64 (j : Int) ∧ Hid (Coll RepN 1 9 w.heap.size (ns.take j) css v wr) ∧ Hid (Below w.heap.size W1 wr)
theorem take_next {α : Type} {l : List α} {j : Nat} {x : α} (h : l[j]? = some x) : l.take (j + 1) = l.take j ++ [x] := by
  obtain ⟨hj, rfl⟩ := List.getElem?_eq_some_iff.1 h
  exact List.take_succ_eq_append_getElem hj
theorem below_grow {B : Nat} {a w w' : World} {row : Option Nat} (h : Below B a w) (hg : w.grownBy w' row) (hr : ∀ k, row = some k → B ≤ k) (hB : B ≤ w.heap.size) : Below B a w' := h.grown hg hB hr
theorem Coll.kept_low {α : Type} {Rep : World → (Nat → Prop) → α → List Value → Prop} {sz : Nat} {E : TypeId} {B : Nat} {xs : List α} {css : List (List Value)} {v : Value} {w w' : World} (c : Coll Rep sz E B xs css v w) (hb : Below w.heap.size w w') (hk : Keeps Rep := by exact keepsN) : Coll Rep sz E B xs css v w' :=
  ⟨own_on c.own hb, c.len, c.szs, fun i x cs hx hc => hk.k (c.rep i x cs hx hc) (fun _ h => ⟨h.1, Nat.lt_of_lt_of_le h.2.1 hb.size, h.2.2⟩) (fun _ h => hb.block _ h.2.1)⟩
theorem arr0_any (p : PG) (hp : p.arrays = []) (va vf : Value) (w : World) (ok : Nat → Prop) (h : RepP w ok p va vf) :
    Calls Tryz.prog 38 #[.agg #[va, vf]] w (NsP [] w) := by
  obtain ⟨h1, h2⟩ := h
  rw [hp] at h1
  obtain ⟨A, c, rfl, _⟩ := h1.at
  obtain ⟨A', c', rfl, _⟩ := h2.at
  have hb : Below w.heap.size w (w.alloc (.cells #[.slice A ([] : List (List UInt8 × Int)).length c, .slice A' p.funcs.length c'] 32)) := (Below.refl _ _).alloc (Nat.le_refl _) _
  have HB := Lib.hid hb
  obtain ⟨n, hn⟩ : ∃ n, p.funcs.length = n := ⟨_, rfl⟩
  rw [hn] at HB ⊢
  clear hb h1 h2 hn
  go_enter Tryz.func38, Tryz.ntmps38
  go_wp2_with fail
  go_loop [3, 9] (fun v i => v = .slice none 0 0 ∧ i = .int .i64 0) (fun _ _ => 0)
  case atStart => exact ⟨rfl, rfl⟩
  case round =>
    obtain ⟨rfl, rfl⟩ := hrel
    go_wp2_with fail
    go_ret
    exact ns_nil _ _ HB.out
theorem fnN_any (p : PG) (va vf : Value) (w : World) (ok : Nat → Prop) (h : RepP w ok p va vf) (hok : ∀ g, ok g → g < w.heap.size) (hs : p.funcs.length ≤ 1000000) :
    Calls Tryz.prog 40 #[.agg #[va, vf]] w (NsP (fnN p) w) := by
  obtain ⟨i0, hi, hz0, hz1, hz2⟩ := info_parts strInfo
  obtain ⟨A, c, rfl, _⟩ := h.1.at
  obtain ⟨A', c', rfl, hat⟩ := h.2.at
  obtain ⟨len, hlen⟩ : ∃ len, p.funcs.length = len := ⟨_, rfl⟩
  obtain ⟨na, hna⟩ : ∃ na, p.arrays.length = na := ⟨_, rfl⟩
  obtain ⟨ns, hns⟩ : ∃ ns, fnN p = ns := ⟨_, rfl⟩
  have hnl : ns.length = len := by rw [← hns, ← hlen]; simp [fnN]
  have hnx : ∀ (j : Nat) (x : FN), p.funcs[j]? = some x → ns[j]? = some x.name := fun j x hx => by rw [← hns]; simp [fnN, hx]
  have H := Lib.hid (And.intro hat (And.intro hok (And.intro hlen (And.intro hnl hnx))))
  obtain ⟨W1, hW1⟩ : ∃ W1, w.alloc (.cells #[.slice A na c, .slice A' len c'] 32) = W1 := ⟨_, rfl⟩
  have hb1 : Below w.heap.size w W1 := by rw [← hW1]; exact (Below.refl _ _).alloc (Nat.le_refl _) _
  have HB := Lib.hid (And.intro hb1 hW1)
  rw [hlen] at hs ⊢
  rw [hna, hns]
  clear hat h hok hb1 hlen hW1 hns hnl hnx hna
  go_enter Tryz.func40, Tryz.ntmps40
  go_wp2_with fail
  rw [HB.out.2]
  go_loopg [3, 9] len (fun k v i wr => NsR ns len w W1 k v i wr)
  case atStart => exact ⟨0, [], Nat.zero_add _, rfl, Lib.hid (coll_nil _ _ _ _ _), Lib.hid (Below.refl _ _)⟩
  case round =>
    obtain ⟨j, css, hj, rfl, HC, HW⟩ := hrel
    have hsz := HB.out.1.size
    have hBw : w.heap.size ≤ wr.heap.size := Nat.le_trans hsz HW.out.size
    by_cases hlt : j < len
    · obtain ⟨x, hx⟩ : ∃ x, p.funcs[j]? = some x := ⟨_, List.getElem?_eq_getElem (by rw [H.out.2.2.1]; exact hlt)⟩
      obtain ⟨g, cs, rfl, hg, hrep, hcell⟩ := H.out.1 j x hx
      have hgw := H.out.2.1 g hg
      have hwk : wr.heap[g]? = w.heap[g]? := (HW.out.block g hgw).trans (HB.out.1.block g hgw)
      obtain ⟨A1, c1, A2, c2, A3, c3, kd, nn, nm, op, A0, L0, c0, rfl, _⟩ := fun_of hrep
      obtain ⟨l1, hl1⟩ : ∃ n, x.params.length = n := ⟨_, rfl⟩
      obtain ⟨l2, hl2⟩ : ∃ n, x.locals.length = n := ⟨_, rfl⟩
      obtain ⟨l3, hl3⟩ : ∃ n, x.body.length = n := ⟨_, rfl⟩
      obtain ⟨xn, hxn⟩ : ∃ y, x.name = y := ⟨_, rfl⟩
      rw [hl1, hl2, hl3, hxn] at hcell
      have hc := fun i u hu => (World.cell?_of_block hwk).trans (hcell i u hu)
      have z0 : wr.cell? ⟨g, j * 9, none⟩ = some (.string ⟨xn.toArray⟩) := hc 0 _ rfl
      have z1 : wr.cell? ⟨g, j * 9 + 1, none⟩ = some (.slice A1 l1 c1) := hc 1 _ rfl
      have z2 : wr.cell? ⟨g, j * 9 + 2, none⟩ = some (.slice A2 l2 c2) := hc 2 _ rfl
      have z3 : wr.cell? ⟨g, j * 9 + 3, none⟩ = some (.slice A3 l3 c3) := hc 3 _ rfl
      have z4 : wr.cell? ⟨g, j * 9 + 4, none⟩ = some (.int .i64 kd) := hc 4 _ rfl
      have z5 : wr.cell? ⟨g, j * 9 + 5, none⟩ = some (.int .i64 nn) := hc 5 _ rfl
      have z6 : wr.cell? ⟨g, j * 9 + 6, none⟩ = some (.string ⟨nm.toArray⟩) := hc 6 _ rfl
      have z7 : wr.cell? ⟨g, j * 9 + 7, none⟩ = some (.int .i64 op) := hc 7 _ rfl
      have z8 : wr.cell? ⟨g, j * 9 + 8, none⟩ = some (.slice A0 L0 c0) := hc 8 _ rfl
      have hgr : g < wr.heap.size := Nat.lt_of_lt_of_le hgw hBw
      have e1 : (j : Int) < (len : Int) := by omega
      have hown := HC.out.own
      have hnj : ns[j]? = some xn := by rw [← hxn]; exact H.out.2.2.2.2 j x hx
      have hcl : css.length ≤ 1000000 := by
        have := HC.out.len
        rw [List.length_take] at this
        omega
      have HX := Lib.hid hnj
      clear hx hcell hc hwk hg hrep hnj hl1 hl2 hl3 hxn
      go_wp2_with (at_builtin; refine wpList_append_own_at _ rfl (.tmp 13) (.tmp 16) 25 rfl w.heap.size 9 i0 _ 1 16 Tryz.underlying25 hi hz0 hz1 hz2 rfl (by decide) _ _ _ rfl ((hown.alloc _).alloc _) ⟨wr.heap.size + 1, 0, none⟩ 1 1 [.string ⟨xn.toArray⟩] rfl rfl (World.news_of_block (blk_at (by simp) _ _)) (by simp [Value.oneCell']) (by unfold maxLen; omega) (by omega) (by simp; omega) ?_; intro v2 w4 hown2 hgr2 _ hob)
      have hrow : ∀ k, u3.ownBlock = some k → w.heap.size ≤ k := fun k hk => (HC.out.own.lt k hk).1
      have hrow2 : ∀ k, u3.ownBlock = some k → k < wr.heap.size := HC.out.blk
      go_roundg (gk - 1)
      case measure => omega
      case rel =>
        refine ⟨j + 1, css ++ [[.string ⟨xn.toArray⟩]], by omega, by go_num, Lib.hid ?_, Lib.hid ?_⟩
        · rw [take_next HX.out]
          have hcl2 := HC.out.kept_low ((Below.refl wr.heap.size wr).alloc (Nat.le_refl _) (.cells #[.string ⟨xn.toArray⟩, .slice A1 l1 c1, .slice A2 l2 c2, .slice A3 l3 c3, .int .i64 kd, .int .i64 nn, .string ⟨nm.toArray⟩, .int .i64 op, .slice A0 L0 c0] 28))
          exact hcl2.snoc (Rep := RepN) (x := xn) (cs := [.string ⟨xn.toArray⟩]) keepsN (lo := wr.heap.size) rfl hBw hrow2 rfl hown2 hgr2 hob
        · exact below_grow (((HW.out.alloc hBw _).alloc (Nat.le_trans hBw (by simp)) _)) hgr2 hrow (Nat.le_trans hBw (by simp; omega))
    · obtain rfl : j = len := by omega
      have hall : ns.take j = ns := List.take_of_length_le (by rw [H.out.2.2.2.1]; exact Nat.le_refl _)
      have hfin := HC.out
      rw [hall] at hfin
      have HF := Lib.hid hfin
      clear hfin hall
      go_wp2_with fail
      go_ret
      exact coll_ns HF.out (HB.out.1.trans (below_down HW.out (Nat.le_refl _)))
end Go.Proofs.YtkjbjjiajopfpaaGreatDoor
