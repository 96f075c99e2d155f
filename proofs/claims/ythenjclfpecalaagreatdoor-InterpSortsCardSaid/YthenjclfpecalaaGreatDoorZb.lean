/- Stage 6, plain mathematics: the outcomes of Sorts. -/
import Derived.Test.YthenjclfpecalaaGreatDoorI2
import Derived.Test.YthenjclfpecalaaGreatDoorI1
namespace Go.Proofs.YthenjclfpecalaaGreatDoor.IX
open Go Go.RowKit WM LX PX CX

set_option maxRecDepth 100000
/- Sorting. -/
abbrev aJ : PE := idxE [97] (varE [106])
abbrev jj : PE := opE 4 [varE [106], numE 1]
abbrev aJJ : PE := idxE [97] jj
abbrev swL : List ST := [(.mk 1 [116] [] 0 emE aJ [] [] []), (.mk 2 [97] [] 0 (varE [106]) aJJ [] [] []), (.mk 2 [97] [] 0 jj (varE [116]) [] [] [])]
abbrev bdJ : List ST := [(.mk 3 [] [] 0 emE (opE 17 [aJJ, aJ]) [] swL []), (.mk 1 [106] [] 0 emE jj [] [] [])]
abbrev cdJ : PE := opE 17 [varE [106], numE 2]
abbrev bdI : List ST := [(.mk 1 [106] [] 0 emE (numE 0) [] [] []), (.mk 4 [] [] 0 emE cdJ [] bdJ []), (.mk 1 [105] [] 0 emE (opE 4 [varE [105], numE 1]) [] [] [])]
abbrev cdI : PE := opE 17 [varE [105], numE 3]
theorem upd_at {α : Type} (g : List UInt8 → α) (x y : List UInt8) (a : α) : upd g x a y = if x = y then a else g y := rfl
section
variable (fs : List FN)
theorem yl_nil (g : Nat) (V : Vs) (m : MS) : xL fs (g + 1) V m [] = some (.ok m V) := by rw [xL]
theorem yl_cons (g : Nat) (V : Vs) (m : MS) (s : ST) (r : List ST) : xL fs (g + 1) V m (s :: r) = if few r.length = false then none else match xS fs g V m s with
    | none => none
    | some (.ended k c o) => some (.ended k c o)
    | some (.ok m V) => xL fs g V m r := by
  rw [xL]
  rfl
theorem xw_eq (g : Nat) (V : Vs) (m : MS) (e : PE) (l : List ST) : xW fs (g + 1) V m e l = match evE g V m.C e with
    | none => none
    | some (.trap c) => some (.ended 2 c m.out)
    | some (.val x) => if x = 0 then some (.ok m V) else if m.fuel = 0 then some (.ended 3 0 m.out) else match xL fs g V ⟨m.fuel - 1, m.C, m.out, m.k⟩ l with
      | none => none
      | some (.ended k c o) => some (.ended k c o)
      | some (.ok m V) => xW fs g V m e l := by
  rw [xW]
  rfl
theorem w01 : binF 4 0 1 = 1 := by kernel_rfl
theorem w11 : binF 4 1 1 = 2 := by kernel_rfl
theorem w21 : binF 4 2 1 = 3 := by kernel_rfl
theorem lt1 {p q : Int} (h : q < p) : binF 17 q p = 1 := by simp [binF, tr, h]
theorem lt0 {p q : Int} (h : ¬ q < p) : binF 17 q p = 0 := by simp [binF, tr, h]
theorem bJ0y (g : Nat) (V : Vs) (fu : Nat) (C : Cs) (out : List Int) (k : Nat) (p q r : Int) (hV : V [106] = 0) (hC : C [97] = [p, q, r]) (hk : k < 1000) (h : q < p) :
    xL fs (g + 12) V ⟨fu, C, out, k⟩ bdJ = some (.ok ⟨fu, upd (upd C [97] [q, q, r]) [97] [q, p, r], out, k + 1 + 1⟩ (upd (upd V [116] p) [106] 1)) := by
  have hb := lt1 h
  have hk1 : k < most := by unfold most; omega
  have hk2 : k + 1 < most := by unfold most; omega
  simp [yl_cons, yl_nil, xs_eq, ev_eq, nmOK, few, oob, upd_at, hV, hC, hb, w01, hk1, hk2]
theorem bJ0n (g : Nat) (V : Vs) (fu : Nat) (C : Cs) (out : List Int) (k : Nat) (p q r : Int) (hV : V [106] = 0) (hC : C [97] = [p, q, r]) (hk : k < 1000) (h : ¬ q < p) :
    xL fs (g + 12) V ⟨fu, C, out, k⟩ bdJ = some (.ok ⟨fu, C, out, k + 1⟩ (upd V [106] 1)) := by
  have hb := lt0 h
  have hk1 : k < most := by unfold most; omega
  simp [yl_cons, yl_nil, xs_eq, ev_eq, nmOK, few, oob, hV, hC, hb, w01, hk1]
theorem bJ1y (g : Nat) (V : Vs) (fu : Nat) (C : Cs) (out : List Int) (k : Nat) (p q r : Int) (hV : V [106] = 1) (hC : C [97] = [p, q, r]) (hk : k < 1000) (h : r < q) :
    xL fs (g + 12) V ⟨fu, C, out, k⟩ bdJ = some (.ok ⟨fu, upd (upd C [97] [p, r, r]) [97] [p, r, q], out, k + 1 + 1⟩ (upd (upd V [116] q) [106] 2)) := by
  have hb := lt1 h
  have hk1 : k < most := by unfold most; omega
  have hk2 : k + 1 < most := by unfold most; omega
  simp [yl_cons, yl_nil, xs_eq, ev_eq, nmOK, few, oob, upd_at, hV, hC, hb, w11, hk1, hk2]
theorem bJ1n (g : Nat) (V : Vs) (fu : Nat) (C : Cs) (out : List Int) (k : Nat) (p q r : Int) (hV : V [106] = 1) (hC : C [97] = [p, q, r]) (hk : k < 1000) (h : ¬ r < q) :
    xL fs (g + 12) V ⟨fu, C, out, k⟩ bdJ = some (.ok ⟨fu, C, out, k + 1⟩ (upd V [106] 2)) := by
  have hb := lt0 h
  have hk1 : k < most := by unfold most; omega
  simp [yl_cons, yl_nil, xs_eq, ev_eq, nmOK, few, oob, hV, hC, hb, w11, hk1]
/-- One exchange where it is wanted. -/
def Exc (p q p' q' : Int) : Prop := (p' = p ∧ q' = q ∧ p ≤ q) ∨ (p' = q ∧ q' = p ∧ q < p)
theorem bJ0 (g : Nat) (V : Vs) (fu : Nat) (C : Cs) (out : List Int) (k : Nat) (p q r : Int) (hV : V [106] = 0) (hC : C [97] = [p, q, r]) (hk : k < 1000) :
    ∃ V' C' k' p' q', xL fs (g + 12) V ⟨fu, C, out, k⟩ bdJ = some (.ok ⟨fu, C', out, k'⟩ V') ∧ V' [106] = 1 ∧ V' [105] = V [105] ∧ C' [97] = [p', q', r] ∧ Exc p q p' q' ∧ k' ≤ k + 2 := by
  by_cases h : q < p
  · exact ⟨_, _, _, q, p, bJ0y fs g V fu C out k p q r hV hC hk h, rfl, rfl, rfl, .inr ⟨rfl, rfl, h⟩, Nat.le_refl _⟩
  · exact ⟨_, _, _, p, q, bJ0n fs g V fu C out k p q r hV hC hk h, rfl, rfl, hC, .inl ⟨rfl, rfl, by omega⟩, by omega⟩
theorem bJ1 (g : Nat) (V : Vs) (fu : Nat) (C : Cs) (out : List Int) (k : Nat) (p q r : Int) (hV : V [106] = 1) (hC : C [97] = [p, q, r]) (hk : k < 1000) :
    ∃ V' C' k' q' r', xL fs (g + 12) V ⟨fu, C, out, k⟩ bdJ = some (.ok ⟨fu, C', out, k'⟩ V') ∧ V' [106] = 2 ∧ V' [105] = V [105] ∧ C' [97] = [p, q', r'] ∧ Exc q r q' r' ∧ k' ≤ k + 2 := by
  by_cases h : r < q
  · exact ⟨_, _, _, r, q, bJ1y fs g V fu C out k p q r hV hC hk h, rfl, rfl, rfl, .inr ⟨rfl, rfl, h⟩, Nat.le_refl _⟩
  · exact ⟨_, _, _, q, r, bJ1n fs g V fu C out k p q r hV hC hk h, rfl, rfl, hC, .inl ⟨rfl, rfl, by omega⟩, by omega⟩
theorem cJ (g : Nat) (V : Vs) (C : Cs) : evE (g + 2) V C cdJ = some (.val (binF 17 (V [106]) 2)) := by kernel_rfl
theorem cI (g : Nat) (V : Vs) (C : Cs) : evE (g + 2) V C cdI = some (.val (binF 17 (V [105]) 3)) := by kernel_rfl
/-- One pass. -/
def Pas (p q r p' q' r' : Int) : Prop := ∃ s, Exc p q p' s ∧ Exc s r q' r'
theorem wJ (g : Nat) (V : Vs) (fu : Nat) (C : Cs) (out : List Int) (k : Nat) (p q r : Int) (hV : V [106] = 0) (hC : C [97] = [p, q, r]) (hk : k < 900) :
    ∃ V' C' k' p' q' r', xW fs (g + 15) V ⟨fu + 2, C, out, k⟩ cdJ bdJ = some (.ok ⟨fu, C', out, k'⟩ V') ∧ V' [105] = V [105] ∧ C' [97] = [p', q', r'] ∧ Pas p q r p' q' r' ∧ k' ≤ k + 4 := by
  obtain ⟨V1, C1, k1, p1, q1, h1, a1, b1, c1, d1, e1⟩ := bJ0 fs (g + 2) V (fu + 1) C out k p q r hV hC (by omega)
  obtain ⟨V2, C2, k2, q2, r2, h2, a2, b2, c2, d2, e2⟩ := bJ1 fs (g + 1) V1 fu C1 out k1 p1 q1 r a1 c1 (by omega)
  refine ⟨V2, C2, k2, p1, q2, r2, ?_, b2.trans b1, c2, ⟨q1, d1, d2⟩, by omega⟩
  rw [xw_eq, cJ, hV]
  dsimp only
  rw [if_neg (by decide), if_neg (by omega), show fu + 2 - 1 = fu + 1 by omega, h1]
  dsimp only
  rw [xw_eq, cJ, a1]
  dsimp only
  rw [if_neg (by decide), if_neg (by omega), show fu + 1 - 1 = fu by omega, h2]
  dsimp only
  rw [xw_eq, cJ, a2]
  rfl
theorem bI (g : Nat) (V : Vs) (fu : Nat) (C : Cs) (out : List Int) (k : Nat) (p q r : Int) (hC : C [97] = [p, q, r]) (hk : k < 800) :
    ∃ V' C' k' p' q' r', xL fs (g + 18) V ⟨fu + 2, C, out, k⟩ bdI = some (.ok ⟨fu, C', out, k'⟩ V') ∧ V' [105] = binF 4 (V [105]) 1 ∧ C' [97] = [p', q', r'] ∧ Pas p q r p' q' r' ∧ k' ≤ k + 6 := by
  obtain ⟨V1, C1, k1, p1, q1, r1, h1, a1, b1, c1, d1⟩ := wJ fs g (upd V [106] 0) fu C out (k + 1) p q r rfl hC (by omega)
  have hk1 : k < most := by unfold most; omega
  have hk2 : k1 < most := by unfold most; omega
  refine ⟨upd V1 [105] (binF 4 (V1 [105]) 1), C1, k1 + 1, p1, q1, r1, ?_, by rw [upd_at, if_pos rfl, a1]; rfl, b1, c1, by omega⟩
  have s1 : xS fs (g + 17) V ⟨fu + 2, C, out, k⟩ (.mk 1 [106] [] 0 emE (numE 0) [] [] []) = some (.ok ⟨fu + 2, C, out, k + 1⟩ (upd V [106] 0)) := by
    simp [xs_eq, ev_eq, nmOK, hk1]
  have s2 : xS fs (g + 16) (upd V [106] 0) ⟨fu + 2, C, out, k + 1⟩ (.mk 4 [] [] 0 emE cdJ [] bdJ []) = some (.ok ⟨fu, C1, out, k1⟩ V1) := by
    rw [xs_eq]; exact h1
  have s3 : xS fs (g + 15) V1 ⟨fu, C1, out, k1⟩ (.mk 1 [105] [] 0 emE (opE 4 [varE [105], numE 1]) [] [] []) = some (.ok ⟨fu, C1, out, k1 + 1⟩ (upd V1 [105] (binF 4 (V1 [105]) 1))) := by
    simp [xs_eq, ev_eq, nmOK, hk2]
  rw [yl_cons, s1]
  show xL fs (g + 17) _ _ _ = _
  rw [yl_cons, s2]
  show xL fs (g + 16) _ _ _ = _
  rw [yl_cons, s3]
  rfl
theorem wI (g : Nat) (V : Vs) (fu : Nat) (C : Cs) (out : List Int) (k : Nat) (p q r : Int) (hV : V [105] = 0) (hC : C [97] = [p, q, r]) (hk : k < 700) :
    ∃ V' C' k' p1 q1 r1 p2 q2 r2 p' q' r', xW fs (g + 22) V ⟨fu + 9, C, out, k⟩ cdI bdI = some (.ok ⟨fu, C', out, k'⟩ V') ∧ C' [97] = [p', q', r'] ∧ Pas p q r p1 q1 r1 ∧ Pas p1 q1 r1 p2 q2 r2 ∧ Pas p2 q2 r2 p' q' r' ∧ k' ≤ k + 18 := by
  obtain ⟨V1, C1, k1, p1, q1, r1, h1, a1, b1, c1, d1⟩ := bI fs (g + 3) V (fu + 6) C out k p q r hC (by omega)
  obtain ⟨V2, C2, k2, p2, q2, r2, h2, a2, b2, c2, d2⟩ := bI fs (g + 2) V1 (fu + 3) C1 out k1 p1 q1 r1 b1 (by omega)
  obtain ⟨V3, C3, k3, p3, q3, r3, h3, a3, b3, c3, d3⟩ := bI fs (g + 1) V2 fu C2 out k2 p2 q2 r2 b2 (by omega)
  rw [hV, w01] at a1
  rw [a1, w11] at a2
  rw [a2, w21] at a3
  refine ⟨V3, C3, k3, p1, q1, r1, p2, q2, r2, p3, q3, r3, ?_, b3, c1, c2, c3, by omega⟩
  rw [xw_eq, cI, hV]
  dsimp only
  rw [if_neg (by decide), if_neg (by omega), show fu + 9 - 1 = fu + 6 + 2 by omega, h1]
  dsimp only
  rw [xw_eq, cI, a1]
  dsimp only
  rw [if_neg (by decide), if_neg (by omega), show fu + 6 - 1 = fu + 3 + 2 by omega, h2]
  dsimp only
  rw [xw_eq, cI, a2]
  dsimp only
  rw [if_neg (by decide), if_neg (by omega), show fu + 3 - 1 = fu + 2 by omega, h3]
  dsimp only
  rw [xw_eq, cI, a3]
  rfl
end
/-- Three words in order, and which they are. -/
def Srt (a b c x y z : Int) : Prop := x ≤ y ∧ y ≤ z ∧ ((x = a ∧ y = b ∧ z = c) ∨ (x = a ∧ y = c ∧ z = b) ∨ (x = b ∧ y = a ∧ z = c) ∨ (x = b ∧ y = c ∧ z = a) ∨ (x = c ∧ y = a ∧ z = b) ∨ (x = c ∧ y = b ∧ z = a))
theorem pas_srt {a b c p1 q1 r1 p2 q2 r2 p q r : Int} (h1 : Pas a b c p1 q1 r1) (h2 : Pas p1 q1 r1 p2 q2 r2) (h3 : Pas p2 q2 r2 p q r) : Srt a b c p q r := by
  unfold Pas Exc at h1 h2 h3
  unfold Srt
  obtain ⟨s1, h1, g1⟩ := h1
  obtain ⟨s2, h2, g2⟩ := h2
  obtain ⟨s3, h3, g3⟩ := h3
  rcases h1 with ⟨rfl, rfl, h1⟩ | ⟨rfl, rfl, h1⟩ <;> rcases g1 with ⟨rfl, rfl, g1⟩ | ⟨rfl, rfl, g1⟩ <;> rcases h2 with ⟨rfl, rfl, h2⟩ | ⟨rfl, rfl, h2⟩ <;> rcases g2 with ⟨rfl, rfl, g2⟩ | ⟨rfl, rfl, g2⟩ <;>
    rcases h3 with ⟨rfl, rfl, h3⟩ | ⟨rfl, rfl, h3⟩ <;> rcases g3 with ⟨rfl, rfl, g3⟩ | ⟨rfl, rfl, g3⟩ <;> first | (exfalso; omega) | (refine ⟨by omega, by omega, ?_⟩; simp)
theorem is_at (a b c : Int) : ∃ x y z, goF 40 isP [102] [a, b, c] 20 = some ⟨1, 0, [x, y, z], 0⟩ ∧ Srt a b c x y z := by
  obtain ⟨V0, hV0⟩ : ∃ V, actV ⟨[102], [[120], [121], [122]], [[105], [106], [116]], [], emE⟩ [a, b, c] = V := ⟨_, rfl⟩
  obtain ⟨C0, hC0⟩ : ∃ C, upd (upd (upd (iniC isP.arrays) [97] [a, 0, 0]) [97] [a, b, 0]) [97] [a, b, c] = C := ⟨_, rfl⟩
  have hi : V0 [105] = 0 := by rw [← hV0]; kernel_rfl
  have hc : C0 [97] = [a, b, c] := by rw [← hC0]; rfl
  obtain ⟨V1, C1, k1, p1, q1, r1, p2, q2, r2, p, q, r, h1, h2, h3, h4, h5, h6⟩ := wI isP.funcs 12 V0 11 C0 [] 0 a b c hi hc (by omega)
  refine ⟨p, q, r, ?_, pas_srt h3 h4 h5⟩
  have hk1 : k1 < most := by unfold most; omega
  have hk2 : k1 + 1 < most := by unfold most; omega
  have hk3 : k1 + 1 + 1 < most := by unfold most; omega
  have e0 : goF 40 isP [102] [a, b, c] 20 = ((match xL isP.funcs 36 V0 ⟨20, C0, [], 0⟩ [(.mk 4 [] [] 0 emE cdI [] bdI []), (.mk 5 [] [] 0 emE (idxE [97] (numE 0)) [] [] []), (.mk 5 [] [] 0 emE (idxE [97] (numE 1)) [] [] []), (.mk 5 [] [] 0 emE (idxE [97] (numE 2)) [] [] [])] with
      | none => none
      | some (XR.ended k c o) => some (CR.ended k c o)
      | some (XR.ok m V) => match evE 39 V m.C (numE 0) with
        | none => none
        | some (.trap c) => some (CR.ended 2 c m.out)
        | some (.val n) => some (CR.val m n)).map outO) := by
    rw [← hV0, ← hC0]
    kernel_rfl
  rw [e0]
  have s1 : xS isP.funcs 35 V0 ⟨20, C0, [], 0⟩ (.mk 4 [] [] 0 emE cdI [] bdI []) = some (.ok ⟨11, C1, [], k1⟩ V1) := by
    rw [xs_eq]; exact h1
  rw [yl_cons, s1]
  dsimp only
  simp [yl_cons, yl_nil, xs_eq, ev_eq, nmOK, few, oob, h2, hk1, hk2, hk3, outO]
end Go.Proofs.YthenjclfpecalaaGreatDoor.IX
