/- WordShiftsCompose returns true for all words and counts. Conditions: none but the row's own (the library's tables start as the program's text lays them; the card ties them). -/
import Derived.Test.YtpbndfnokcmnhaaDoorLs
import Derived.Test.YtpbndfnokcmnhaaDoorWr
import Derived.Test.YtpbndfnokcmnhaaDoorWk
namespace Go.Proofs.YtpbndfnokcmnhaaDoor.lawWordShiftsCompose
open Go Go.ChangeShapes Go.WideShapes Go.ChangeAt Go.RowKit WM
open Go.ChangeMaps (open_string)

set_option maxRecDepth 100000 in
theorem walk (a : Int) (j : Int) (k : Int) (_ha : inW a) (_hj : inW j) (_hk : inW k) (W : World) (ht : Tab W.heap.size W) :
    Calls Tryd.prog 10 #[.int .i64 a, .int .i64 j, .int .i64 k] W fun e w' => e = .returned (.bool true) ∧ Below W.heap.size W w' := by
  obtain ⟨p, hp⟩ : ∃ p, j % 64 = p := ⟨_, rfl⟩
  obtain ⟨q, hq⟩ : ∃ q, k % 64 = q := ⟨_, rfl⟩
  have hp0 : 0 ≤ p := by omega
  have hp1 : p < 64 := by omega
  have hq0 : 0 ≤ q := by omega
  have hq1 : q < 64 := by omega
  have HP := Lib.hid hp
  have HQ := Lib.hid hq
  clear hp hq
  have e2 : (binF 12 a p == binF 6 a (binF 12 1 p)) = true := by rw [beq_iff_eq]; exact shl_mul a p
  by_cases hs : p + q < 64
  · have e1 : (binF 12 (binF 12 a p) q == binF 12 a (p + q)) = true := by rw [beq_iff_eq, shl_shl a p q ⟨hp0, hp1⟩ ⟨hq0, hq1⟩, if_pos hs]
    go_enter Tryd.func10, Tryd.ntmps10
    go_wp2_with (first | (go_at_call 17; ((with_reducible refine (pick_any j 64 _ (by decide) (by decide) HP.out _).mono ?_); rintro e w' ⟨rfl, rfl⟩)) | (go_at_call 17; ((with_reducible refine (pick_any k 64 _ (by decide) (by decide) HQ.out _).mono ?_); rintro e w' ⟨rfl, rfl⟩)) | (go_at_call 14; ((with_reducible refine (bin_any _ _ _ _).mono ?_); rintro e w' ⟨rfl, rfl⟩)) | (go_at_call 3; ((with_reducible refine (examples_any _ W.heap.size (Nat.le_refl _) ht).mono ?_); rintro e w9 ⟨rfl, hb9⟩)))
    go_ret
    exact ⟨rfl, hb9⟩
  · have e1 : (binF 12 (binF 12 a p) q == 0) = true := by rw [beq_iff_eq, shl_shl a p q ⟨hp0, hp1⟩ ⟨hq0, hq1⟩, if_neg hs]
    go_enter Tryd.func10, Tryd.ntmps10
    go_wp2_with (first | (go_at_call 17; ((with_reducible refine (pick_any j 64 _ (by decide) (by decide) HP.out _).mono ?_); rintro e w' ⟨rfl, rfl⟩)) | (go_at_call 17; ((with_reducible refine (pick_any k 64 _ (by decide) (by decide) HQ.out _).mono ?_); rintro e w' ⟨rfl, rfl⟩)) | (go_at_call 14; ((with_reducible refine (bin_any _ _ _ _).mono ?_); rintro e w' ⟨rfl, rfl⟩)) | (go_at_call 3; ((with_reducible refine (examples_any _ W.heap.size (Nat.le_refl _) ht).mono ?_); rintro e w9 ⟨rfl, hb9⟩)))
    go_ret
    exact ⟨rfl, hb9⟩

theorem contract (H : Type) (enc : TypeId × Value → H) (W : World) (base : Nat) (args : Array Value) (ds gs : List (DataW H)) (before : List MemPlace)
    (hval : ∀ (j : Nat) t v, Tryd.f10.params[j]? = some t → args[j]? = some v → Value.okWide Tryd.prog W .any base t v)
    (hW : DataW.Whole enc Tryd.prog Tryd.f10.params.toList Rows.wordShiftsComposeSpec.vars false W args.toList ds gs before) (hL : laidMetH Tryd.prog Rows.wordShiftsComposeRow.laid W) :
    Calls Tryd.prog 10 args W fun e W' => ∃ v, e = .returned v ∧ Rows.wordShiftsComposeSpec.post enc Tryd.prog Tryd.f10 false true false false W args v W' := by
  have hW' := hW
  obtain ⟨p, q, hA, hV, rfl, hfz, hnd⟩ := hW
  rw [Tryd.params10] at hA hval
  obtain ⟨v0, vs0, d0, ds0, p0, q0, hargs, rfl, rfl, h0, r0⟩ := trodAll_cons hA
  obtain ⟨v1, vs1, d1, ds1, p1, q1, rfl, rfl, rfl, h1, r1⟩ := trodAll_cons r0
  obtain ⟨v2, vs2, d2, ds2, p2, q2, rfl, rfl, rfl, h2, r2⟩ := trodAll_cons r1
  obtain ⟨rfl, rfl, rfl⟩ := trodAll_nil r2
  obtain rfl : args = #[v0, v1, v2] := by cases args; simp_all
  obtain ⟨rfl, rfl⟩ := trodVars_none hV
  obtain ⟨a, rfl, rfl, rfl, wa⟩ := open_int Tryd.underlying2 (hval 0 2 v0 rfl rfl) h0
  obtain ⟨j, rfl, rfl, rfl, wj⟩ := open_int Tryd.underlying3 (hval 1 3 v1 rfl rfl) h1
  obtain ⟨k, rfl, rfl, rfl, wk⟩ := open_int Tryd.underlying3 (hval 2 3 v2 rfl rfl) h2
  refine (walk a j k (inW_of wa) (inW_of wj) (inW_of wk) W (tab_of hL)).mono fun e W' ⟨he, hb⟩ => ⟨_, he, ?_⟩
  exact FR.law_post laidOut (all_fit (by kernel_rfl)) (by kernel_rfl) Tryd.underlying4 rfl rfl hW' hb

theorem laid_met (os : Os) : laidMet Tryd.prog Rows.wordShiftsComposeRow.laid ((laidWorld os).forCall (fun _ _ => 0) ⟨#[], #[.int .i64 0, .int .i64 0, .int .i64 0], []⟩).memory :=
  laidMet_of_run' 8 (by kernel_rfl) (by kernel_rfl)
theorem reads (os : Os) {H : Type} (enc : TypeId × Value → H) : ∃ places, DataW.whole enc Tryd.prog ((laidWorld os).forCall (fun _ _ => 0) ⟨#[], #[.int .i64 0, .int .i64 0, .int .i64 0], []⟩).memory Tryd.f10.params.toList Rows.wordShiftsComposeSpec.vars false (#[.int .i64 0, .int .i64 0, .int .i64 0] : Array Value).toList 8 = some ([.lit (.int .i64 0), .lit (.int .i64 0), .lit (.int .i64 0)], [], places) :=
  ⟨[], by kernel_rfl⟩
set_option maxRecDepth 100000 in
theorem lifted (os : Os) (started : os.Started) (H : Type) (enc : TypeId × Value → H) (F : Stop.Interp) :
    ReturnsInHanded {} Tryd.checked os 10 .any ((OpenSpec.ofChange Rows.wordShiftsComposeSpec).preRow enc Tryd.prog Tryd.f10 Rows.wordShiftsComposeRow.domain false Rows.wordShiftsComposeRow.laid) (((OpenSpec.ofChange Rows.wordShiftsComposeSpec).at F).post enc Tryd.prog Tryd.f10 false true false false) := by
  obtain ⟨places, hx⟩ := reads os enc
  refine returnsInHanded_of_row (C := Tryd.checked) (s := OpenSpec.ofChange Rows.wordShiftsComposeSpec) own started (by kernel_rfl) Tryd.func10
    (witness_row_at (enc := enc) (C := Tryd.checked) false (laidWorld os) #[.int .i64 0, .int .i64 0, .int .i64 0] rfl (by kernel_rfl) (by kernel_rfl) (by kernel_rfl)
      (OpenSpec.preRow_of_cond 8 hx (by kernel_rfl) (fun k hk => by cases hk) (by kernel_rfl) (laid_met os))) ?_
  intro W base args ds gs before hval hW _ _ _ hL _ _
  exact contract H enc W base args ds gs before hval hW hL
theorem said : Rows.WordShiftsComposeSaid :=
  OpenClaim.holds_of_cond 10 Tryd.f10 rfl rfl rfl rfl rfl rfl rfl ⟨rfl, rfl, rfl, rfl, rfl⟩ rfl rfl rfl rfl rfl (by kernel_rfl) Tryd.func10 (by kernel_rfl)
    (of_decide_eq_true (by kernel_rfl)) (by unfold Func.isWrapper; first | (rw [if_pos (by decide +kernel)]; kernel_rfl) | (rw [if_neg (by decide +kernel)]; exact ⟨rfl, rfl⟩))
    (fun os started H enc _ F => by rw [OpenClaim.pre_eq_preRow]; exact lifted os started H enc F)
/-- No parameter wants a stand-in; the program's own looks are off: what the card asks. -/
theorem plain (f : FuncId) (fn : Func) (hf : Tryd.pinned.checked.prog.funcNamed "fulling/fullinglaw1.WordShiftsCompose" = some f) (hfn : Tryd.pinned.checked.prog.funcs[f]? = some fn) :
    false = Tryd.pinned.checked.prog.looks [] ∧ ∀ (j : Nat) t, fn.params[j]? = some t → Tryd.pinned.checked.prog.wantsStandIn t = false := by
  obtain rfl : f = 10 := Option.some.inj ((show Tryd.prog.funcNamed "fulling/fullinglaw1.WordShiftsCompose" = some 10 by kernel_rfl).symm.trans hf) |>.symm
  obtain rfl : fn = Tryd.f10 := (Option.some.inj (Tryd.func10.symm.trans hfn)).symm
  refine ⟨by kernel_rfl, fun j t ht => ?_⟩
  have hall : (Tryd.f10.params.toList.all fun t => Tryd.prog.wantsStandIn t == false) = true := by kernel_rfl
  have := List.all_eq_true.1 hall t (Array.mem_toList_iff.2 (Array.mem_of_getElem? ht))
  exact beq_iff_eq.1 this
/-- THE CARD -/
theorem card : Rows.WordShiftsComposeCardSaid :=
  Claim7.holds_tied_plain_at .later [] _ _ _ _ said (fun _ h => by cases h) (by kernel_rfl) (fun _ h => by cases h) wordShiftsCompose_row_tie rfl ⟨rfl, rfl⟩ (by kernel_rfl) rfl plain (by kernel_rfl)
end Go.Proofs.YtpbndfnokcmnhaaDoor.lawWordShiftsCompose
