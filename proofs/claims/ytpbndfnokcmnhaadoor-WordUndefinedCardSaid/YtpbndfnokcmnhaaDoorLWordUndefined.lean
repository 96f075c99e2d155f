/- WordUndefined returns true for all operations and words. Conditions: none but the row's own (the library's tables start as the program's text lays them; the card ties them). -/
import Derived.Test.YtpbndfnokcmnhaaDoorLs
import Derived.Test.YtpbndfnokcmnhaaDoorWr
namespace Go.Proofs.YtpbndfnokcmnhaaDoor.lawWordUndefined
open Go Go.ChangeShapes Go.WideShapes Go.ChangeAt Go.RowKit WM
open Go.ChangeMaps (open_string)

set_option maxRecDepth 100000 in
theorem walk (op : Int) (a : Int) (b : Int) (_hop : inW op) (_ha : inW a) (_hb : inW b) (W : World) (ht : Tab W.heap.size W) :
    Calls Tryd.prog 12 #[.int .i64 op, .int .i64 a, .int .i64 b] W fun e w' => e = .returned (.bool true) ∧ Below W.heap.size W w' := by
  have hcases : op < 4 ∨ (4 ≤ op ∧ op ≤ 19) ∨ op = 20 ∨ op = 21 ∨ 21 < op := by omega
  rcases hcases with h | ⟨h, h'⟩ | rfl | rfl | h
  · have e1 : (unF op a == 0) = true := by rw [beq_iff_eq]; exact un_other op a (by omega) (by omega)
    have e2 : (binF op a b == 0) = true := by rw [beq_iff_eq]; exact bin_other op a b (by omega)
    go_enter Tryd.func12, Tryd.ntmps12
    go_wp2_with (first | (go_at_call 14; ((with_reducible refine (bin_any _ _ _ _).mono ?_); rintro e w' ⟨rfl, rfl⟩)) | (go_at_call 18; ((with_reducible refine (un_any _ _ _).mono ?_); rintro e w' ⟨rfl, rfl⟩)) | (go_at_call 3; ((with_reducible refine (examples_any _ W.heap.size (Nat.le_refl _) ht).mono ?_); rintro e w9 ⟨rfl, hb9⟩)))
    go_ret
    exact ⟨rfl, hb9⟩
  · have e1 : (unF op a == 0) = true := by rw [beq_iff_eq]; exact un_other op a (by omega) (by omega)
    go_enter Tryd.func12, Tryd.ntmps12
    go_wp2_with (first | (go_at_call 14; ((with_reducible refine (bin_any _ _ _ _).mono ?_); rintro e w' ⟨rfl, rfl⟩)) | (go_at_call 18; ((with_reducible refine (un_any _ _ _).mono ?_); rintro e w' ⟨rfl, rfl⟩)) | (go_at_call 3; ((with_reducible refine (examples_any _ W.heap.size (Nat.le_refl _) ht).mono ?_); rintro e w9 ⟨rfl, hb9⟩)))
    go_ret
    exact ⟨rfl, hb9⟩
  · have e2 : (binF 20 a b == 0) = true := by rw [beq_iff_eq]; exact bin_other 20 a b (by omega)
    go_enter Tryd.func12, Tryd.ntmps12
    go_wp2_with (first | (go_at_call 14; ((with_reducible refine (bin_any _ _ _ _).mono ?_); rintro e w' ⟨rfl, rfl⟩)) | (go_at_call 18; ((with_reducible refine (un_any _ _ _).mono ?_); rintro e w' ⟨rfl, rfl⟩)) | (go_at_call 3; ((with_reducible refine (examples_any _ W.heap.size (Nat.le_refl _) ht).mono ?_); rintro e w9 ⟨rfl, hb9⟩)))
    go_ret
    exact ⟨rfl, hb9⟩
  · have e2 : (binF 21 a b == 0) = true := by rw [beq_iff_eq]; exact bin_other 21 a b (by omega)
    go_enter Tryd.func12, Tryd.ntmps12
    go_wp2_with (first | (go_at_call 14; ((with_reducible refine (bin_any _ _ _ _).mono ?_); rintro e w' ⟨rfl, rfl⟩)) | (go_at_call 18; ((with_reducible refine (un_any _ _ _).mono ?_); rintro e w' ⟨rfl, rfl⟩)) | (go_at_call 3; ((with_reducible refine (examples_any _ W.heap.size (Nat.le_refl _) ht).mono ?_); rintro e w9 ⟨rfl, hb9⟩)))
    go_ret
    exact ⟨rfl, hb9⟩
  · have e1 : (unF op a == 0) = true := by rw [beq_iff_eq]; exact un_other op a (by omega) (by omega)
    have e2 : (binF op a b == 0) = true := by rw [beq_iff_eq]; exact bin_other op a b (by omega)
    go_enter Tryd.func12, Tryd.ntmps12
    go_wp2_with (first | (go_at_call 14; ((with_reducible refine (bin_any _ _ _ _).mono ?_); rintro e w' ⟨rfl, rfl⟩)) | (go_at_call 18; ((with_reducible refine (un_any _ _ _).mono ?_); rintro e w' ⟨rfl, rfl⟩)) | (go_at_call 3; ((with_reducible refine (examples_any _ W.heap.size (Nat.le_refl _) ht).mono ?_); rintro e w9 ⟨rfl, hb9⟩)))
    go_ret
    exact ⟨rfl, hb9⟩

theorem contract (H : Type) (enc : TypeId × Value → H) (W : World) (base : Nat) (args : Array Value) (ds gs : List (DataW H)) (before : List MemPlace)
    (hval : ∀ (j : Nat) t v, Tryd.f12.params[j]? = some t → args[j]? = some v → Value.okWide Tryd.prog W .any base t v)
    (hW : DataW.Whole enc Tryd.prog Tryd.f12.params.toList Rows.wordUndefinedSpec.vars false W args.toList ds gs before) (hL : laidMetH Tryd.prog Rows.wordUndefinedRow.laid W) :
    Calls Tryd.prog 12 args W fun e W' => ∃ v, e = .returned v ∧ Rows.wordUndefinedSpec.post enc Tryd.prog Tryd.f12 false true false false W args v W' := by
  have hW' := hW
  obtain ⟨p, q, hA, hV, rfl, hfz, hnd⟩ := hW
  rw [Tryd.params12] at hA hval
  obtain ⟨v0, vs0, d0, ds0, p0, q0, hargs, rfl, rfl, h0, r0⟩ := trodAll_cons hA
  obtain ⟨v1, vs1, d1, ds1, p1, q1, rfl, rfl, rfl, h1, r1⟩ := trodAll_cons r0
  obtain ⟨v2, vs2, d2, ds2, p2, q2, rfl, rfl, rfl, h2, r2⟩ := trodAll_cons r1
  obtain ⟨rfl, rfl, rfl⟩ := trodAll_nil r2
  obtain rfl : args = #[v0, v1, v2] := by cases args; simp_all
  obtain ⟨rfl, rfl⟩ := trodVars_none hV
  obtain ⟨op, rfl, rfl, rfl, wop⟩ := open_int Tryd.underlying3 (hval 0 3 v0 rfl rfl) h0
  obtain ⟨a, rfl, rfl, rfl, wa⟩ := open_int Tryd.underlying2 (hval 1 2 v1 rfl rfl) h1
  obtain ⟨b, rfl, rfl, rfl, wb⟩ := open_int Tryd.underlying2 (hval 2 2 v2 rfl rfl) h2
  refine (walk op a b (inW_of wop) (inW_of wa) (inW_of wb) W (tab_of hL)).mono fun e W' ⟨he, hb⟩ => ⟨_, he, ?_⟩
  exact FR.law_post laidOut (all_fit (by kernel_rfl)) (by kernel_rfl) Tryd.underlying4 rfl rfl hW' hb

theorem laid_met (os : Os) : laidMet Tryd.prog Rows.wordUndefinedRow.laid ((laidWorld os).forCall (fun _ _ => 0) ⟨#[], #[.int .i64 0, .int .i64 0, .int .i64 0], []⟩).memory :=
  laidMet_of_run' 8 (by kernel_rfl) (by kernel_rfl)
theorem reads (os : Os) {H : Type} (enc : TypeId × Value → H) : ∃ places, DataW.whole enc Tryd.prog ((laidWorld os).forCall (fun _ _ => 0) ⟨#[], #[.int .i64 0, .int .i64 0, .int .i64 0], []⟩).memory Tryd.f12.params.toList Rows.wordUndefinedSpec.vars false (#[.int .i64 0, .int .i64 0, .int .i64 0] : Array Value).toList 8 = some ([.lit (.int .i64 0), .lit (.int .i64 0), .lit (.int .i64 0)], [], places) :=
  ⟨[], by kernel_rfl⟩
set_option maxRecDepth 100000 in
theorem lifted (os : Os) (started : os.Started) (H : Type) (enc : TypeId × Value → H) (F : Stop.Interp) :
    ReturnsInHanded {} Tryd.checked os 12 .any ((OpenSpec.ofChange Rows.wordUndefinedSpec).preRow enc Tryd.prog Tryd.f12 Rows.wordUndefinedRow.domain false Rows.wordUndefinedRow.laid) (((OpenSpec.ofChange Rows.wordUndefinedSpec).at F).post enc Tryd.prog Tryd.f12 false true false false) := by
  obtain ⟨places, hx⟩ := reads os enc
  refine returnsInHanded_of_row (C := Tryd.checked) (s := OpenSpec.ofChange Rows.wordUndefinedSpec) own started (by kernel_rfl) Tryd.func12
    (witness_row_at (enc := enc) (C := Tryd.checked) false (laidWorld os) #[.int .i64 0, .int .i64 0, .int .i64 0] rfl (by kernel_rfl) (by kernel_rfl) (by kernel_rfl)
      (OpenSpec.preRow_of_cond 8 hx (by kernel_rfl) (fun k hk => by cases hk) (by kernel_rfl) (laid_met os))) ?_
  intro W base args ds gs before hval hW _ _ _ hL _ _
  exact contract H enc W base args ds gs before hval hW hL
theorem said : Rows.WordUndefinedSaid :=
  OpenClaim.holds_of_cond 12 Tryd.f12 rfl rfl rfl rfl rfl rfl rfl ⟨rfl, rfl, rfl, rfl, rfl⟩ rfl rfl rfl rfl rfl (by kernel_rfl) Tryd.func12 (by kernel_rfl)
    (of_decide_eq_true (by kernel_rfl)) (by unfold Func.isWrapper; first | (rw [if_pos (by decide +kernel)]; kernel_rfl) | (rw [if_neg (by decide +kernel)]; exact ⟨rfl, rfl⟩))
    (fun os started H enc _ F => by rw [OpenClaim.pre_eq_preRow]; exact lifted os started H enc F)
/-- No parameter wants a stand-in; the program's own looks are off: what the card asks. -/
theorem plain (f : FuncId) (fn : Func) (hf : Tryd.pinned.checked.prog.funcNamed "fulling/fullinglaw1.WordUndefined" = some f) (hfn : Tryd.pinned.checked.prog.funcs[f]? = some fn) :
    false = Tryd.pinned.checked.prog.looks [] ∧ ∀ (j : Nat) t, fn.params[j]? = some t → Tryd.pinned.checked.prog.wantsStandIn t = false := by
  obtain rfl : f = 12 := Option.some.inj ((show Tryd.prog.funcNamed "fulling/fullinglaw1.WordUndefined" = some 12 by kernel_rfl).symm.trans hf) |>.symm
  obtain rfl : fn = Tryd.f12 := (Option.some.inj (Tryd.func12.symm.trans hfn)).symm
  refine ⟨by kernel_rfl, fun j t ht => ?_⟩
  have hall : (Tryd.f12.params.toList.all fun t => Tryd.prog.wantsStandIn t == false) = true := by kernel_rfl
  have := List.all_eq_true.1 hall t (Array.mem_toList_iff.2 (Array.mem_of_getElem? ht))
  exact beq_iff_eq.1 this
/-- THE CARD -/
theorem card : Rows.WordUndefinedCardSaid :=
  Claim7.holds_tied_plain_at .later [] _ _ _ _ said (fun _ h => by cases h) (by kernel_rfl) (fun _ h => by cases h) wordUndefined_row_tie rfl ⟨rfl, rfl⟩ (by kernel_rfl) rfl plain (by kernel_rfl)
end Go.Proofs.YtpbndfnokcmnhaaDoor.lawWordUndefined
