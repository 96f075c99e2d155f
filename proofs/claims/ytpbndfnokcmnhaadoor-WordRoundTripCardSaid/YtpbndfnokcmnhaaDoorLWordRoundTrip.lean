/- WordRoundTrip returns true for all words. Conditions: none but the row's own (the library's tables start as the program's text lays them; the card ties them). -/
import Derived.Test.YtpbndfnokcmnhaaDoorLs
import Derived.Test.YtpbndfnokcmnhaaDoorWr
import Derived.Test.YtpbndfnokcmnhaaDoorWk
namespace Go.Proofs.YtpbndfnokcmnhaaDoor.lawWordRoundTrip
open Go Go.ChangeShapes Go.WideShapes Go.ChangeAt Go.RowKit WM
open Go.ChangeMaps (open_string)

theorem parse_text (n : Int) (hn : inW n) (B : Nat) (w : World) (hB : B ≤ w.heap.size) (ht : Tab B w) :
    Calls Tryd.prog 13 #[.string ⟨(Lib.itoa n).toArray⟩] w fun e w' => e = .returned (.tuple #[.int .i64 n, .bool true]) ∧ Below B w w' := by
  have hl := itoa_len n hn
  have hsz : (ByteArray.size ⟨(Lib.itoa n).toArray⟩) = (Lib.itoa n).length := rfl
  exact (parse_any ⟨(Lib.itoa n).toArray⟩ (by rw [hsz]; omega) w B hB ht).mono fun e w' ⟨h1, h2⟩ => ⟨h1.trans (by rw [show (⟨(Lib.itoa n).toArray⟩ : ByteArray).data.toList = Lib.itoa n from rfl, parseB_itoa n hn, parseV_itoa n hn]), h2⟩
set_option maxRecDepth 100000 in
set_option maxHeartbeats 2000000 in
theorem walk (a : Int) (b : Int) (p : Int) (q : Int) (_ha : inW a) (_hb : inW b) (hp : inW p) (hq : inW q) (W : World) (ht : Tab W.heap.size W) :
    Calls Tryd.prog 9 #[.int .i64 a, .int .i64 b, .int .i64 p, .int .i64 q] W fun e w' => e = .returned (.bool true) ∧ Below W.heap.size W w' := by
  go_enter Tryd.func9, Tryd.ntmps9
  go_wp2_with (go_at_call 16; ((with_reducible refine (word_any a p hp _ W.heap.size (Nat.le_refl _)).mono ?_); rintro e w1 ⟨x, hx, rfl, hb1⟩))
  go_wp2_with (go_at_call 16; ((with_reducible refine (word_any b q hq _ W.heap.size hb1.size).mono ?_); rintro e w2 ⟨y, hy, rfl, hb2⟩))
  have hbb := hb1.trans hb2
  have ht2 := ht.on hbb
  have hB2 := hbb.size
  clear hb1 hb2 hp hq
  go_wp2_with (go_at_call 15; ((with_reducible refine (text_any x hx _ _ hB2 ht2).mono ?_); rintro e w3 ⟨rfl, hb3⟩))
  have hB3 := Nat.le_trans hB2 hb3.size
  have ht3 := ht2.on hb3
  go_wp2_with (go_at_call 13; ((with_reducible refine (parse_text x hx _ _ hB3 ht3).mono ?_); rintro e w4 ⟨rfl, hb4⟩))
  have hB4 := Nat.le_trans hB3 hb4.size
  have ht4 := ht3.on hb4
  go_wp2_with (go_at_call 15; ((with_reducible refine (text_any x hx _ _ hB4 ht4).mono ?_); rintro e w5 ⟨rfl, hb5⟩))
  have hB5 := Nat.le_trans hB4 hb5.size
  have ht5 := ht4.on hb5
  by_cases hxy : x = y
  · subst hxy
    go_wp2_with (go_at_call 15; ((with_reducible refine (text_any x hx _ _ hB5 ht5).mono ?_); rintro e w6 ⟨rfl, hb6⟩))
    have hB6 := Nat.le_trans hB5 hb6.size
    have ht6 := ht5.on hb6
    have hb7 := (((hbb.trans hb3).trans hb4).trans hb5).trans hb6
    go_wp2_with (go_at_call 3; ((with_reducible refine (examples_any _ W.heap.size hB6 ht6).mono ?_); rintro e w9 ⟨rfl, hb9⟩))
    go_ret
    exact ⟨rfl, hb7.trans hb9⟩
  · have e0 : (x == y) = false := by rw [beq_eq_false_iff_ne]; exact hxy
    have e1 : (Lib.itoa x == Lib.itoa y) = false := by rw [beq_eq_false_iff_ne]; exact fun h => hxy (itoa_inj x y hx hy h)
    clear hxy
    go_wp2_with (go_at_call 15; ((with_reducible refine (text_any y hy _ _ hB5 ht5).mono ?_); rintro e w6 ⟨rfl, hb6⟩))
    have hB6 := Nat.le_trans hB5 hb6.size
    have ht6 := ht5.on hb6
    have hb7 := (((hbb.trans hb3).trans hb4).trans hb5).trans hb6
    go_wp2_with (go_at_call 3; ((with_reducible refine (examples_any _ W.heap.size hB6 ht6).mono ?_); rintro e w9 ⟨rfl, hb9⟩))
    go_ret
    exact ⟨rfl, hb7.trans hb9⟩

theorem contract (H : Type) (enc : TypeId × Value → H) (W : World) (base : Nat) (args : Array Value) (ds gs : List (DataW H)) (before : List MemPlace)
    (hval : ∀ (j : Nat) t v, Tryd.f9.params[j]? = some t → args[j]? = some v → Value.okWide Tryd.prog W .any base t v)
    (hW : DataW.Whole enc Tryd.prog Tryd.f9.params.toList Rows.wordRoundTripSpec.vars false W args.toList ds gs before) (hL : laidMetH Tryd.prog Rows.wordRoundTripRow.laid W) :
    Calls Tryd.prog 9 args W fun e W' => ∃ v, e = .returned v ∧ Rows.wordRoundTripSpec.post enc Tryd.prog Tryd.f9 false true false false W args v W' := by
  have hW' := hW
  obtain ⟨p, q, hA, hV, rfl, hfz, hnd⟩ := hW
  rw [Tryd.params9] at hA hval
  obtain ⟨v0, vs0, d0, ds0, p0, q0, hargs, rfl, rfl, h0, r0⟩ := trodAll_cons hA
  obtain ⟨v1, vs1, d1, ds1, p1, q1, rfl, rfl, rfl, h1, r1⟩ := trodAll_cons r0
  obtain ⟨v2, vs2, d2, ds2, p2, q2, rfl, rfl, rfl, h2, r2⟩ := trodAll_cons r1
  obtain ⟨v3, vs3, d3, ds3, p3, q3, rfl, rfl, rfl, h3, r3⟩ := trodAll_cons r2
  obtain ⟨rfl, rfl, rfl⟩ := trodAll_nil r3
  obtain rfl : args = #[v0, v1, v2, v3] := by cases args; simp_all
  obtain ⟨rfl, rfl⟩ := trodVars_none hV
  obtain ⟨a, rfl, rfl, rfl, wa⟩ := open_int Tryd.underlying3 (hval 0 3 v0 rfl rfl) h0
  obtain ⟨b, rfl, rfl, rfl, wb⟩ := open_int Tryd.underlying3 (hval 1 3 v1 rfl rfl) h1
  obtain ⟨p, rfl, rfl, rfl, wp⟩ := open_int Tryd.underlying2 (hval 2 2 v2 rfl rfl) h2
  obtain ⟨q, rfl, rfl, rfl, wq⟩ := open_int Tryd.underlying2 (hval 3 2 v3 rfl rfl) h3
  refine (walk a b p q (inW_of wa) (inW_of wb) (inW_of wp) (inW_of wq) W (tab_of hL)).mono fun e W' ⟨he, hb⟩ => ⟨_, he, ?_⟩
  exact FR.law_post laidOut (all_fit (by kernel_rfl)) (by kernel_rfl) Tryd.underlying4 rfl rfl hW' hb

theorem laid_met (os : Os) : laidMet Tryd.prog Rows.wordRoundTripRow.laid ((laidWorld os).forCall (fun _ _ => 0) ⟨#[], #[.int .i64 0, .int .i64 0, .int .i64 0, .int .i64 0], []⟩).memory :=
  laidMet_of_run' 8 (by kernel_rfl) (by kernel_rfl)
theorem reads (os : Os) {H : Type} (enc : TypeId × Value → H) : ∃ places, DataW.whole enc Tryd.prog ((laidWorld os).forCall (fun _ _ => 0) ⟨#[], #[.int .i64 0, .int .i64 0, .int .i64 0, .int .i64 0], []⟩).memory Tryd.f9.params.toList Rows.wordRoundTripSpec.vars false (#[.int .i64 0, .int .i64 0, .int .i64 0, .int .i64 0] : Array Value).toList 8 = some ([.lit (.int .i64 0), .lit (.int .i64 0), .lit (.int .i64 0), .lit (.int .i64 0)], [], places) :=
  ⟨[], by kernel_rfl⟩
set_option maxRecDepth 100000 in
theorem lifted (os : Os) (started : os.Started) (H : Type) (enc : TypeId × Value → H) (F : Stop.Interp) :
    ReturnsInHanded {} Tryd.checked os 9 .any ((OpenSpec.ofChange Rows.wordRoundTripSpec).preRow enc Tryd.prog Tryd.f9 Rows.wordRoundTripRow.domain false Rows.wordRoundTripRow.laid) (((OpenSpec.ofChange Rows.wordRoundTripSpec).at F).post enc Tryd.prog Tryd.f9 false true false false) := by
  obtain ⟨places, hx⟩ := reads os enc
  refine returnsInHanded_of_row (C := Tryd.checked) (s := OpenSpec.ofChange Rows.wordRoundTripSpec) own started (by kernel_rfl) Tryd.func9
    (witness_row_at (enc := enc) (C := Tryd.checked) false (laidWorld os) #[.int .i64 0, .int .i64 0, .int .i64 0, .int .i64 0] rfl (by kernel_rfl) (by kernel_rfl) (by kernel_rfl)
      (OpenSpec.preRow_of_cond 8 hx (by kernel_rfl) (fun k hk => by cases hk) (by kernel_rfl) (laid_met os))) ?_
  intro W base args ds gs before hval hW _ _ _ hL _ _
  exact contract H enc W base args ds gs before hval hW hL
theorem said : Rows.WordRoundTripSaid :=
  OpenClaim.holds_of_cond 9 Tryd.f9 rfl rfl rfl rfl rfl rfl rfl ⟨rfl, rfl, rfl, rfl, rfl⟩ rfl rfl rfl rfl rfl (by kernel_rfl) Tryd.func9 (by kernel_rfl)
    (of_decide_eq_true (by kernel_rfl)) (by unfold Func.isWrapper; first | (rw [if_pos (by decide +kernel)]; kernel_rfl) | (rw [if_neg (by decide +kernel)]; exact ⟨rfl, rfl⟩))
    (fun os started H enc _ F => by rw [OpenClaim.pre_eq_preRow]; exact lifted os started H enc F)
/-- No parameter wants a stand-in; the program's own looks are off: what the card asks. -/
theorem plain (f : FuncId) (fn : Func) (hf : Tryd.pinned.checked.prog.funcNamed "fulling/fullinglaw1.WordRoundTrip" = some f) (hfn : Tryd.pinned.checked.prog.funcs[f]? = some fn) :
    false = Tryd.pinned.checked.prog.looks [] ∧ ∀ (j : Nat) t, fn.params[j]? = some t → Tryd.pinned.checked.prog.wantsStandIn t = false := by
  obtain rfl : f = 9 := Option.some.inj ((show Tryd.prog.funcNamed "fulling/fullinglaw1.WordRoundTrip" = some 9 by kernel_rfl).symm.trans hf) |>.symm
  obtain rfl : fn = Tryd.f9 := (Option.some.inj (Tryd.func9.symm.trans hfn)).symm
  refine ⟨by kernel_rfl, fun j t ht => ?_⟩
  have hall : (Tryd.f9.params.toList.all fun t => Tryd.prog.wantsStandIn t == false) = true := by kernel_rfl
  have := List.all_eq_true.1 hall t (Array.mem_toList_iff.2 (Array.mem_of_getElem? ht))
  exact beq_iff_eq.1 this
/-- THE CARD -/
theorem card : Rows.WordRoundTripCardSaid :=
  Claim7.holds_tied_plain_at .later [] _ _ _ _ said (fun _ h => by cases h) (by kernel_rfl) (fun _ h => by cases h) wordRoundTrip_row_tie rfl ⟨rfl, rfl⟩ (by kernel_rfl) rfl plain (by kernel_rfl)
end Go.Proofs.YtpbndfnokcmnhaaDoor.lawWordRoundTrip
