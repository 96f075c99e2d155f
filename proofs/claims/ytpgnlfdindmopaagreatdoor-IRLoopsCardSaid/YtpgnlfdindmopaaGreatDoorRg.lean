/- Stage 7: the walks of sortOf in general and of markUsed. -/
import Derived.Test.YtpgnlfdindmopaaGreatDoorRf
namespace Go.Proofs.YtpgnlfdindmopaaGreatDoor
open Go.RowKit (wrap64 intOf)
open Go Go.RowKit WM LX PX CX GX

set_option maxRecDepth 100000
set_option maxHeartbeats 4000000
theorem ear_in {n : ND} {i : Nat} (h : earB n i = true) : cnL n.op n.kids.length = true ∧ ∀ x ∈ n.kids, 0 ≤ x ∧ x < (i : Int) := by
  unfold earB cntB at h
  rw [Bool.and_eq_true] at h
  refine ⟨h.1, fun x hx => ?_⟩
  have := List.all_eq_true.1 h.2 x hx
  unfold inB at this
  simpa using this
theorem so_any (l : List ND) (v : Value) (w : World) (ok : Nat → Prop) (hl : RepL RepD 3 w ok l v) (hok : ∀ g, ok g → g < w.heap.size) (hf : Fits l) (i : Nat) (n : ND) (hx : l[i]? = some n) (he : earB n i = true)
    (S N cc : Nat) (t : TypeId) (ss : List Nat) (hS : Blk w S t (srtA ss)) (hN : ss.length = N) (hiN : i ≤ N) :
    Calls Tryz.prog 52 #[v, .int .i64 (i : Int), .slice (some ⟨S, 0, none⟩) N cc] w (RetN (.int .u8 ((srtF l n ss : Nat) : Int)) w) := by
  obtain ⟨op, imm, kids⟩ := n
  obtain ⟨hcnt, hin⟩ := ear_in he
  dsimp only at hcnt hin
  have hi := (List.getElem?_eq_some_iff.1 hx).1
  have hinN : ∀ x ∈ kids, 0 ≤ x ∧ x < (N : Int) := fun x h => ⟨(hin x h).1, by have := (hin x h).2; omega⟩
  by_cases hb : imm < immLo op ∨ immHi op < imm
  · have e : srtF l ⟨op, imm, kids⟩ ss = 0 := by unfold srtF; rw [if_pos hb]
    rw [e]
    exact so_bad l v w ok hl hok hf i op imm kids hx hb _
  · by_cases h22 : op = 22
    · subst h22
      have him : imm = 0 := by
        have a : immLo 22 = 0 := rfl
        have b : immHi 22 = 0 := rfl
        rw [a, b] at hb
        omega
      subst him
      have hk3 : kids.length = 3 := by
        unfold cnL at hcnt
        rw [if_neg (by decide), if_neg (by decide)] at hcnt
        simp [arB, arN] at hcnt
        omega
      match kids, hk3 with
      | [a, b, d], _ =>
        have e : srtF l ⟨22, 0, [a, b, d]⟩ ss = selS (knd ss a) (knd ss b) (knd ss d) := by unfold srtF; rw [if_neg hb, if_pos rfl]; rfl
        rw [e]
        exact so_sel l v w ok hl hok hf i a b d hx S N cc t ss hS hN (hinN a (by simp)) (hinN b (by simp)) (hinN d (by simp))
    · by_cases h25 : op = 25
      · subst h25
        have hk1 : kids.length = 1 := by
          unfold cnL at hcnt
          rw [if_neg (by decide), if_neg (by decide)] at hcnt
          simp [arB, arN] at hcnt
          omega
        match kids, hk1 with
        | [x], _ =>
          have hx1 := hin x (by simp)
          have hlt : x.toNat < l.length := by omega
          have h25' : l[x.toNat]? = some l[x.toNat] := List.getElem?_eq_getElem hlt
          have e : srtF l ⟨25, imm, [x]⟩ ss = (if opsB ⟨25, imm, [x]⟩ ss 0 [x] = false then 0 else if (varN l[x.toNat] : Int) ≤ imm then 0 else resL 25 imm) := by
            have e2 : (if (25 : Int) = 25 ∧ (varN (l.getD x.toNat nd0) : Int) ≤ imm then 0 else resL 25 imm) = (if (varN l[x.toNat] : Int) ≤ imm then 0 else resL 25 imm) := by rw [getD_of h25']; simp
            unfold srtF
            rw [if_neg hb, if_neg (show ¬ (25 : Int) = 22 by decide)]
            exact congrArg (fun z => if opsB ⟨25, imm, [x]⟩ ss 0 [x] = false then 0 else z) e2
          rw [e]
          exact so_25 l v w ok hl hok hf i imm [x] hx (by omega) (by omega) S N cc t ss hS hN hinN x _ h25' rfl
      · have e : srtF l ⟨op, imm, kids⟩ ss = (if opsB ⟨op, imm, kids⟩ ss 0 kids = false then 0 else resL op imm) := by
          unfold srtF
          rw [if_neg hb, if_neg h22]
          congr 1
          rw [if_neg (fun h => h25 h.1)]
          rfl
        rw [e]
        exact so_gen l v w ok hl hok hf i op imm kids hx (by omega) (by omega) S N cc t ss hS hN hinN h25 h22
/-- The marks' cells. -/
def bolA (u : List Bool) : Array Value := (u.map Value.bool).toArray
theorem bolA_at (u : List Bool) (k : Nat) (h : k < u.length) : (bolA u)[k]? = some (.bool (u.getD k false)) := by
  unfold bolA
  rw [List.getElem?_toArray, List.getElem?_map, List.getElem?_eq_getElem h, List.getD_eq_getElem?_getD, List.getElem?_eq_getElem h]
  rfl
theorem bolA_set (u : List Bool) (k : Nat) (b : Bool) : (bolA u).setIfInBounds k (.bool b) = bolA (u.set k b) := by
  unfold bolA
  rw [List.setIfInBounds_toArray, List.map_set]
theorem srtA_set (u : List Nat) (k : Nat) (b : Nat) : (srtA u).setIfInBounds k (.int .u8 (b : Int)) = srtA (u.set k b) := by
  unfold srtA
  rw [List.setIfInBounds_toArray, List.map_set]
theorem made_bols (n : Nat) : madeCells #[.bool false] n = bolA (List.replicate n false) := by
  apply Array.ext'
  rw [toList_madeCells_one]
  unfold bolA
  simp
theorem made_srts (n : Nat) : madeCells #[.int .u8 0] n = srtA (List.replicate n 0) := by
  apply Array.ext'
  rw [toList_madeCells_one]
  unfold srtA
  simp
theorem setAll_len : ∀ (r : List Int) (u : List Bool), (setAll u r).length = u.length := fun r => by
  induction r with
  | nil => intro u; rfl
  | cons k r ih => intro u; unfold setAll; rw [ih, List.length_set]
theorem setAll_snoc (x : Int) : ∀ (r : List Int) (u : List Bool), setAll u (r ++ [x]) = (setAll u r).set x.toNat true := fun r => by
  induction r with
  | nil => intro u; rfl
  | cons k r ih => intro u; rw [List.cons_append]; unfold setAll; exact ih _
theorem itake_nx {α : Type} {l : List α} {j : Nat} {x : α} (hx : l[j]? = some x) : l.take (j + 1) = l.take j ++ [x] := by
  obtain ⟨h, rfl⟩ := List.getElem?_eq_some_iff.1 hx
  rw [List.take_succ_eq_append_getElem h]
theorem bool_info : (Tryz.prog.info? 4).map (fun i => (i.zero, i.size, i.bytes)) = some (some (.bool false), 1, 1) := by kernel_rfl
theorem sort_info : (Tryz.prog.info? 91).map (fun i => (i.zero, i.size, i.bytes)) = some (some (.int .u8 0), 1, 1) := by kernel_rfl
end Go.Proofs.YtpgnlfdindmopaaGreatDoor
