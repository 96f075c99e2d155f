/- Stage 7: the walks of the small functions on operations and nodes. -/
import Derived.Test.YtpgnlfdindmopaaGreatDoorK1
import Derived.Test.YtpgnlfdindmopaaGreatDoorRa
namespace Go.Proofs.YtpgnlfdindmopaaGreatDoor
open Go.RowKit (wrap64 intOf)
open Go Go.RowKit WM LX PX CX GX

set_option maxRecDepth 100000
set_option maxHeartbeats 4000000
/-- A slice of integers that reads as a list; it may begin anywhere in its block. -/
def RepI (w : World) (ok : Nat → Prop) (l : List Int) (v : Value) : Prop :=
  ∃ A c, v = .slice A l.length c ∧ (∀ (i : Nat) (x : Int), l[i]? = some x → ∃ g o, A = some ⟨g, o, none⟩ ∧ ok g ∧ w.cell? ⟨g, o + i, none⟩ = some (.int .i64 x)) ∧ l.length ≤ c
theorem RepI.keep {w w' : World} {ok ok' : Nat → Prop} {l : List Int} {v : Value} (h : RepI w ok l v) (hok : ∀ g, ok g → ok' g) (hw : ∀ g, ok g → w'.heap[g]? = w.heap[g]?) : RepI w' ok' l v := by
  obtain ⟨A, c, hv, h, hcap⟩ := h
  refine ⟨A, c, hv, fun i x hx => ?_, hcap⟩
  obtain ⟨g, o, hA, hg, hc⟩ := h i x hx
  exact ⟨g, o, hA, hok g hg, (World.cell?_of_block (hw g hg)).trans hc⟩
/-- The three cells of a node. -/
def RepD (w : World) (ok : Nat → Prop) (n : ND) (cs : List Value) : Prop := ∃ v, cs = [.int .i64 n.op, .int .i64 n.imm, v] ∧ RepI w ok n.kids v
theorem keepsD : Keeps RepD := ⟨fun ⟨v, h, hi⟩ hok hw => ⟨v, h, hi.keep hok hw⟩⟩
theorem ret_ib {x a : Int} {y b : Bool} (h : x = a) (k : y = b) : Ending.returned (.tuple #[.int .i64 x, .bool y]) = .returned (.tuple #[.int .i64 a, .bool b]) := by rw [h, k]
theorem ret_ii {x a y b : Int} (h : x = a) (k : y = b) : Ending.returned (.tuple #[.int .i64 x, .int .i64 y]) = .returned (.tuple #[.int .i64 a, .int .i64 b]) := by rw [h, k]
theorem ret_u8 {x : Int} {n : Nat} (h : x = (n : Int)) : Ending.returned (.int .u8 x) = .returned (.int .u8 (n : Int)) := by rw [h]
theorem ar_any (op : Int) (w : World) : Calls Tryz.prog 30 #[.int .i64 op] w fun e w' => e = .returned (.tuple #[.int .i64 (arN op), .bool (arB op)]) ∧ w = w' := by
  obtain ⟨a, ha⟩ : ∃ a, arN op = a := ⟨_, rfl⟩
  obtain ⟨b, hb⟩ : ∃ b, arB op = b := ⟨_, rfl⟩
  rw [ha, hb]
  have H := Lib.hid (And.intro ha hb)
  clear ha hb
  go_enter Tryz.func30, Tryz.ntmps30
  go_wp2_with fail
  all_goals
    go_ret2
    refine ⟨ret_ib ?_ ?_, rfl⟩ <;> (try simp only [beq_iff_eq, beq_eq_false_iff_ne, ne_eq] at *)
    · rw [← H.out.1]; unfold arN; (repeat' split) <;> omega
    · rw [← H.out.2]; unfold arB; simp; omega
theorem im_any (op : Int) (w : World) : Calls Tryz.prog 92 #[.int .i64 op] w fun e w' => e = .returned (.tuple #[.int .i64 (immLo op), .int .i64 (immHi op)]) ∧ w = w' := by
  obtain ⟨a, ha⟩ : ∃ a, immLo op = a := ⟨_, rfl⟩
  obtain ⟨b, hb⟩ : ∃ b, immHi op = b := ⟨_, rfl⟩
  rw [ha, hb]
  have H := Lib.hid (And.intro ha hb)
  clear ha hb
  go_enter Tryz.func92, Tryz.ntmps92
  go_wp2_with fail
  all_goals
    go_ret2
    refine ⟨ret_ii ?_ ?_, rfl⟩ <;> (try simp only [beq_iff_eq, beq_eq_false_iff_ne, ne_eq] at *)
    · rw [← H.out.1]; unfold immLo; (repeat' split) <;> omega
    · rw [← H.out.2]; unfold immHi; (repeat' split) <;> omega
theorem vs_any (k : Int) (w : World) : Calls Tryz.prog 138 #[.int .i64 k] w fun e w' => e = .returned (.int .u8 (varS k : Int)) ∧ w = w' := by
  obtain ⟨a, ha⟩ : ∃ a, varS k = a := ⟨_, rfl⟩
  rw [ha]
  have H := Lib.hid ha
  clear ha
  go_enter Tryz.func138, Tryz.ntmps138
  go_wp2_with fail
  all_goals
    go_ret
    refine ⟨ret_u8 ?_, rfl⟩
    try simp only [beq_iff_eq, beq_eq_false_iff_ne, ne_eq] at *
    rw [← H.out]; unfold varS; split <;> omega
theorem vc_any (op imm : Int) (A : Option Addr) (n c : Nat) (hn : n ≤ 9223372036854775807) (w : World) : Calls Tryz.prog 95 #[.agg #[.int .i64 op, .int .i64 imm, .slice A n c]] w (RetN (.int .i64 ((n / 2 : Nat) : Int)) w) := by
  have h0 : (0 : Int) ≤ (n : Int) := by omega
  go_enter Tryz.func95, Tryz.ntmps95
  go_wp2_with fail
  go_ret
  exact retN (by congr 1) ((Below.refl _ _).alloc (Nat.le_refl _) _)
end Go.Proofs.YtpgnlfdindmopaaGreatDoor
