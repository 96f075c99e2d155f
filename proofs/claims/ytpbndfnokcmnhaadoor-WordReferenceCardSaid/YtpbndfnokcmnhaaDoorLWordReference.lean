/- WordReference returns true for all operations, words and strings. Conditions: none but the row's own (the library's tables start as the program's text lays them; the card ties them). -/
import Derived.Test.YtpbndfnokcmnhaaDoorLs
import Derived.Test.YtpbndfnokcmnhaaDoorWn
namespace Go.Proofs.YtpbndfnokcmnhaaDoor.lawWordReference
open Go Go.ChangeShapes Go.WideShapes Go.ChangeAt Go.RowKit WM
open Go.ChangeMaps (open_string)

theorem six (w : World) (raw : ByteArray) (x y : Int) (T : TypeId) (hraw : raw.size ≤ maxLen) (hlx : (Lib.itoa x).length ≤ 20) (hly : (Lib.itoa y).length ≤ 20) (k : Nat) (hk : k < 6) :
    ∃ s : ByteArray, (w.alloc (Obj.cells #[Value.string raw, Value.string ⟨(Lib.itoa x).toArray⟩, Value.string (⟨#[48]⟩ ++ ⟨(Lib.itoa x).toArray⟩), Value.string (⟨#[45]⟩ ++ ⟨(Lib.itoa x).toArray⟩), Value.string (⟨(Lib.itoa x).toArray⟩ ++ ⟨#[48]⟩), Value.string (⟨#[43]⟩ ++ ⟨(Lib.itoa y).toArray⟩)] T)).cell? ⟨w.heap.size, k, none⟩ = some (.string s) ∧ s.size ≤ 9223372036854775807 := by
  unfold maxLen at hraw
  have hc := fun (C : Array Value) => World.cell?_alloc_mark w C T (0, 0) k
  have hx : (ByteArray.size ⟨(Lib.itoa x).toArray⟩) = (Lib.itoa x).length := rfl
  have hy : (ByteArray.size ⟨(Lib.itoa y).toArray⟩) = (Lib.itoa y).length := rfl
  have h1 : ∀ c : UInt8, (ByteArray.size ⟨#[c]⟩) = 1 := fun _ => rfl
  have hcases : k = 0 ∨ k = 1 ∨ k = 2 ∨ k = 3 ∨ k = 4 ∨ k = 5 := by omega
  rcases hcases with rfl | rfl | rfl | rfl | rfl | rfl
  · exact ⟨raw, (hc _).trans rfl, hraw⟩
  · exact ⟨_, (hc _).trans rfl, by omega⟩
  · exact ⟨_, (hc _).trans rfl, by rw [ByteArray.size_append, h1]; omega⟩
  · exact ⟨_, (hc _).trans rfl, by rw [ByteArray.size_append, h1]; omega⟩
  · exact ⟨_, (hc _).trans rfl, by rw [ByteArray.size_append, h1]; omega⟩
  · exact ⟨_, (hc _).trans rfl, by rw [ByteArray.size_append, h1]; omega⟩
set_option maxRecDepth 100000 in
set_option maxHeartbeats 2000000 in
theorem walk (op : Int) (a : Int) (b : Int) (p : Int) (q : Int) (raw : ByteArray) (_hop : inW op) (_ha : inW a) (_hb : inW b) (hp : inW p) (hq : inW q) (hraw : raw.size ≤ maxLen) (W : World) (ht : Tab W.heap.size W) :
    Calls Tryd.prog 4 #[.int .i64 op, .int .i64 a, .int .i64 b, .int .i64 p, .int .i64 q, .string raw] W fun e w' => e = .returned (.bool true) ∧ Below W.heap.size W w' := by
  obtain ⟨p36, hp36⟩ : ∃ k, op % 36 = k := ⟨_, rfl⟩
  obtain ⟨p18, hp18⟩ : ∃ k, op % 18 = k := ⟨_, rfl⟩
  have h18 : 0 ≤ p18 ∧ p18 < 18 := by omega
  have H36 := Lib.hid hp36
  have H18 := Lib.hid hp18
  clear hp36 hp18
  go_enter Tryd.func4, Tryd.ntmps4
  go_wp2_with (go_at_call 16; ((with_reducible refine (word_any a p hp _ W.heap.size (Nat.le_refl _)).mono ?_); rintro e w1 ⟨x, hx, rfl, hb1⟩))
  go_wp2_with (go_at_call 16; ((with_reducible refine (word_any b q hq _ W.heap.size hb1.size).mono ?_); rintro e w2 ⟨y, hy, rfl, hb2⟩))
  have hbb := hb1.trans hb2
  have ht2 := ht.on hbb
  have hB2 := hbb.size
  clear hb1 hb2 hp hq
  go_wp2_with (first | (go_at_call 17; ((with_reducible refine (pick_any op 36 _ (by decide) (by decide) H36.out _).mono ?_); rintro e w' ⟨rfl, rfl⟩)) | (go_at_call 17; ((with_reducible refine (pick_any op 18 _ (by decide) (by decide) H18.out _).mono ?_); rintro e w' ⟨rfl, rfl⟩)))
  go_loop [37] (fun i => ∃ k : Nat, k ≤ 3 ∧ i = .int .i64 k) (fun i => 3 - (intOf i).toNat)
  case atStart => exact ⟨0, by omega, rfl⟩
  case round =>
    obtain ⟨k, hk, rfl⟩ := hrel
    have hcases : k = 0 ∨ k = 1 ∨ k = 2 ∨ k = 3 := by omega
    have hx' := Lib.hid hx
    clear hx
    rcases hcases with rfl | rfl | rfl | rfl
    · go_wp2_with (first | (go_at_call 14; ((with_reducible refine (bin_any _ _ _ _).mono ?_); rintro e w' ⟨rfl, rfl⟩)) | (go_at_call 18; ((with_reducible refine (un_any _ _ _).mono ?_); rintro e w' ⟨rfl, rfl⟩)) | (go_at_call 20; ((with_reducible refine (rbin_any _ _ _ hx'.out _).mono ?_); rintro e w' ⟨rfl, rfl⟩)) | (go_at_call 19; ((with_reducible refine (run_any _ _ _).mono ?_); rintro e w' ⟨rfl, rfl⟩)))
      go_round
      case rel => exact ⟨1, by omega, rfl⟩
      case measure => simp [intOf]
    · go_wp2_with (first | (go_at_call 14; ((with_reducible refine (bin_any _ _ _ _).mono ?_); rintro e w' ⟨rfl, rfl⟩)) | (go_at_call 18; ((with_reducible refine (un_any _ _ _).mono ?_); rintro e w' ⟨rfl, rfl⟩)) | (go_at_call 20; ((with_reducible refine (rbin_any _ _ _ hx'.out _).mono ?_); rintro e w' ⟨rfl, rfl⟩)) | (go_at_call 19; ((with_reducible refine (run_any _ _ _).mono ?_); rintro e w' ⟨rfl, rfl⟩)))
      go_round
      case rel => exact ⟨2, by omega, rfl⟩
      case measure => simp [intOf]
    · go_wp2_with (first | (go_at_call 14; ((with_reducible refine (bin_any _ _ _ _).mono ?_); rintro e w' ⟨rfl, rfl⟩)) | (go_at_call 18; ((with_reducible refine (un_any _ _ _).mono ?_); rintro e w' ⟨rfl, rfl⟩)) | (go_at_call 20; ((with_reducible refine (rbin_any _ _ _ hx'.out _).mono ?_); rintro e w' ⟨rfl, rfl⟩)) | (go_at_call 19; ((with_reducible refine (run_any _ _ _).mono ?_); rintro e w' ⟨rfl, rfl⟩)))
      go_round
      case rel => exact ⟨3, by omega, rfl⟩
      case measure => simp [intOf]
    · have hb3 : Below W.heap.size W (w2.alloc (Obj.cells #[Value.int IntKind.i64 op, Value.int IntKind.i64 p36, Value.int IntKind.i64 (4 + p18)] 3)) := hbb.alloc hB2 _
      have ht3 := ht.on hb3
      have hlx := itoa_len x hx'.out
      have hly := itoa_len y hy
      have hx := hx'.out
      clear hbb ht2 hB2 h18
      go_wp2_with fail
      generalize (w2.alloc (Obj.cells #[Value.int IntKind.i64 op, Value.int IntKind.i64 p36, Value.int IntKind.i64 (4 + p18)] 3)) = w3 at hb3 ht3 ⊢
      go_wp2_with (go_at_call 21; ((with_reducible refine (rtext_any x hx _ W.heap.size hb3.size).mono ?_); rintro e w4 ⟨rfl, hc4⟩))
      have hb4 := hb3.trans hc4
      go_wp2_with (go_at_call 21; ((with_reducible refine (rtext_any x hx _ W.heap.size hb4.size).mono ?_); rintro e w5 ⟨rfl, hc5⟩))
      have hb5 := hb4.trans hc5
      go_wp2_with (go_at_call 21; ((with_reducible refine (rtext_any x hx _ W.heap.size hb5.size).mono ?_); rintro e w6 ⟨rfl, hc6⟩))
      have hb6 := hb5.trans hc6
      go_wp2_with (go_at_call 21; ((with_reducible refine (rtext_any x hx _ W.heap.size hb6.size).mono ?_); rintro e w7 ⟨rfl, hc7⟩))
      have hb7 := hb6.trans hc7
      go_wp2_with (go_at_call 21; ((with_reducible refine (rtext_any y hy _ W.heap.size hb7.size).mono ?_); rintro e w8 ⟨rfl, hc8⟩))
      have hb8 := hb7.trans hc8
      clear hb3 hb4 hb5 hb6 hb7 hc4 hc5 hc6 hc7 hc8 ht3
      have hb9 : Below W.heap.size W (w8.alloc (Obj.cells #[Value.string raw, Value.string ⟨(Lib.itoa x).toArray⟩, Value.string (⟨#[48]⟩ ++ ⟨(Lib.itoa x).toArray⟩), Value.string (⟨#[45]⟩ ++ ⟨(Lib.itoa x).toArray⟩), Value.string (⟨(Lib.itoa x).toArray⟩ ++ ⟨#[48]⟩), Value.string (⟨#[43]⟩ ++ ⟨(Lib.itoa y).toArray⟩)] 9)) := hb8.alloc hb8.size _
      have hg : w8.heap.size < (w8.alloc (Obj.cells #[Value.string raw, Value.string ⟨(Lib.itoa x).toArray⟩, Value.string (⟨#[48]⟩ ++ ⟨(Lib.itoa x).toArray⟩), Value.string (⟨#[45]⟩ ++ ⟨(Lib.itoa x).toArray⟩), Value.string (⟨(Lib.itoa x).toArray⟩ ++ ⟨#[48]⟩), Value.string (⟨#[43]⟩ ++ ⟨(Lib.itoa y).toArray⟩)] 9)).heap.size := by
        show w8.heap.size < (w8.heap.push _).size; simp
      have hcells := six w8 raw x y 9 hraw hlx hly
      have ht9 := ht.on hb9
      generalize (w8.alloc (Obj.cells #[Value.string raw, Value.string ⟨(Lib.itoa x).toArray⟩, Value.string (⟨#[48]⟩ ++ ⟨(Lib.itoa x).toArray⟩), Value.string (⟨#[45]⟩ ++ ⟨(Lib.itoa x).toArray⟩), Value.string (⟨(Lib.itoa x).toArray⟩ ++ ⟨#[48]⟩), Value.string (⟨#[43]⟩ ++ ⟨(Lib.itoa y).toArray⟩)] 9)) = w9 at hb9 hg hcells ht9 ⊢
      have HC := Lib.hid hcells
      clear hcells hb8 hlx hly
      go_loopw [77] (fun i wr => ∃ k : Nat, k ≤ 6 ∧ i = .int .i64 k ∧ Below w9.heap.size w9 wr) (fun i _ => 6 - (intOf i).toNat)
      case atStart => exact ⟨0, by omega, rfl, Below.refl _ _⟩
      case round =>
        obtain ⟨k, hk, rfl, hbr⟩ := hrel
        have hbr' := hb9.trans (hbr.mono hb9.size)
        have hBr := hbr'.size
        have htr := ht.on hbr'
        have ht9' : Tab w9.heap.size wr := fun w' h => htr w' (h.mono hb9.size)
        by_cases hlt : k < 6
        · obtain ⟨s, hc, hs⟩ := HC.out k hlt
          have hcr := (hbr.cell (p := ⟨w8.heap.size, k, none⟩) hg).trans hc
          clear hc hbr'
          go_wp2_with (first
            | (go_at_call 13; ((with_reducible refine (parse_any s hs _ w9.heap.size hbr.size ht9').mono ?_); rintro e wp ⟨rfl, hbp⟩))
            | (go_at_call 22; ((with_reducible refine (rparse_any s hs _).mono ?_); rintro e w' ⟨rfl, rfl⟩)))
          go_roundw
          case rel => exact ⟨k + 1, by omega, by go_num, hbr.trans hbp⟩
          case measure => simp [intOf]; omega
        · obtain rfl : k = 6 := by omega
          clear hbr ht9' HC hg ht9 hb9
          go_wp2_with (go_at_call 15; ((with_reducible refine (text_any x hx W.heap.size _ hBr htr).mono ?_); rintro e wa ⟨rfl, hca⟩))
          have hba := hbr'.trans hca
          go_wp2_with (go_at_call 21; ((with_reducible refine (rtext_any x hx _ W.heap.size hba.size).mono ?_); rintro e wb ⟨rfl, hcb⟩))
          have hbb := hba.trans hcb
          have htb := ht.on hbb
          go_wp2_with (go_at_call 3; ((with_reducible refine (examples_any _ W.heap.size hbb.size htb).mono ?_); rintro e wz ⟨rfl, hcz⟩))
          go_ret
          exact ⟨rfl, hbb.trans hcz⟩

theorem contract (H : Type) (enc : TypeId × Value → H) (W : World) (base : Nat) (args : Array Value) (ds gs : List (DataW H)) (before : List MemPlace)
    (hval : ∀ (j : Nat) t v, Tryd.f4.params[j]? = some t → args[j]? = some v → Value.okWide Tryd.prog W .any base t v)
    (hW : DataW.Whole enc Tryd.prog Tryd.f4.params.toList Rows.wordReferenceSpec.vars false W args.toList ds gs before) (hL : laidMetH Tryd.prog Rows.wordReferenceRow.laid W) :
    Calls Tryd.prog 4 args W fun e W' => ∃ v, e = .returned v ∧ Rows.wordReferenceSpec.post enc Tryd.prog Tryd.f4 false true false false W args v W' := by
  have hW' := hW
  obtain ⟨p, q, hA, hV, rfl, hfz, hnd⟩ := hW
  rw [Tryd.params4] at hA hval
  obtain ⟨v0, vs0, d0, ds0, p0, q0, hargs, rfl, rfl, h0, r0⟩ := trodAll_cons hA
  obtain ⟨v1, vs1, d1, ds1, p1, q1, rfl, rfl, rfl, h1, r1⟩ := trodAll_cons r0
  obtain ⟨v2, vs2, d2, ds2, p2, q2, rfl, rfl, rfl, h2, r2⟩ := trodAll_cons r1
  obtain ⟨v3, vs3, d3, ds3, p3, q3, rfl, rfl, rfl, h3, r3⟩ := trodAll_cons r2
  obtain ⟨v4, vs4, d4, ds4, p4, q4, rfl, rfl, rfl, h4, r4⟩ := trodAll_cons r3
  obtain ⟨v5, vs5, d5, ds5, p5, q5, rfl, rfl, rfl, h5, r5⟩ := trodAll_cons r4
  obtain ⟨rfl, rfl, rfl⟩ := trodAll_nil r5
  obtain rfl : args = #[v0, v1, v2, v3, v4, v5] := by cases args; simp_all
  obtain ⟨rfl, rfl⟩ := trodVars_none hV
  obtain ⟨op, rfl, rfl, rfl, wop⟩ := open_int Tryd.underlying3 (hval 0 3 v0 rfl rfl) h0
  obtain ⟨a, rfl, rfl, rfl, wa⟩ := open_int Tryd.underlying3 (hval 1 3 v1 rfl rfl) h1
  obtain ⟨b, rfl, rfl, rfl, wb⟩ := open_int Tryd.underlying3 (hval 2 3 v2 rfl rfl) h2
  obtain ⟨p, rfl, rfl, rfl, wp⟩ := open_int Tryd.underlying2 (hval 3 2 v3 rfl rfl) h3
  obtain ⟨q, rfl, rfl, rfl, wq⟩ := open_int Tryd.underlying2 (hval 4 2 v4 rfl rfl) h4
  obtain ⟨raw, rfl, rfl, rfl, wraw⟩ := open_string Tryd.underlying9 (hval 5 9 v5 rfl rfl) h5
  refine (walk op a b p q raw (inW_of wop) (inW_of wa) (inW_of wb) (inW_of wp) (inW_of wq) wraw W (tab_of hL)).mono fun e W' ⟨he, hb⟩ => ⟨_, he, ?_⟩
  exact FR.law_post laidOut (all_fit (by kernel_rfl)) (by kernel_rfl) Tryd.underlying4 rfl rfl hW' hb

theorem laid_met (os : Os) : laidMet Tryd.prog Rows.wordReferenceRow.laid ((laidWorld os).forCall (fun _ _ => 0) ⟨#[], #[.int .i64 0, .int .i64 0, .int .i64 0, .int .i64 0, .int .i64 0, .string ⟨#[]⟩], []⟩).memory :=
  laidMet_of_run' 8 (by kernel_rfl) (by kernel_rfl)
theorem reads (os : Os) {H : Type} (enc : TypeId × Value → H) : ∃ places, DataW.whole enc Tryd.prog ((laidWorld os).forCall (fun _ _ => 0) ⟨#[], #[.int .i64 0, .int .i64 0, .int .i64 0, .int .i64 0, .int .i64 0, .string ⟨#[]⟩], []⟩).memory Tryd.f4.params.toList Rows.wordReferenceSpec.vars false (#[.int .i64 0, .int .i64 0, .int .i64 0, .int .i64 0, .int .i64 0, .string ⟨#[]⟩] : Array Value).toList 8 = some ([.lit (.int .i64 0), .lit (.int .i64 0), .lit (.int .i64 0), .lit (.int .i64 0), .lit (.int .i64 0), .lit (.string [])], [], places) :=
  ⟨[], by kernel_rfl⟩
set_option maxRecDepth 100000 in
theorem lifted (os : Os) (started : os.Started) (H : Type) (enc : TypeId × Value → H) (F : Stop.Interp) :
    ReturnsInHanded {} Tryd.checked os 4 .any ((OpenSpec.ofChange Rows.wordReferenceSpec).preRow enc Tryd.prog Tryd.f4 Rows.wordReferenceRow.domain false Rows.wordReferenceRow.laid) (((OpenSpec.ofChange Rows.wordReferenceSpec).at F).post enc Tryd.prog Tryd.f4 false true false false) := by
  obtain ⟨places, hx⟩ := reads os enc
  refine returnsInHanded_of_row (C := Tryd.checked) (s := OpenSpec.ofChange Rows.wordReferenceSpec) own started (by kernel_rfl) Tryd.func4
    (witness_row_at (enc := enc) (C := Tryd.checked) false (laidWorld os) #[.int .i64 0, .int .i64 0, .int .i64 0, .int .i64 0, .int .i64 0, .string ⟨#[]⟩] rfl (by kernel_rfl) (by kernel_rfl) (by kernel_rfl)
      (OpenSpec.preRow_of_cond 8 hx (by kernel_rfl) (fun k hk => by cases hk) (by kernel_rfl) (laid_met os))) ?_
  intro W base args ds gs before hval hW _ _ _ hL _ _
  exact contract H enc W base args ds gs before hval hW hL
theorem said : Rows.WordReferenceSaid :=
  OpenClaim.holds_of_cond 4 Tryd.f4 rfl rfl rfl rfl rfl rfl rfl ⟨rfl, rfl, rfl, rfl, rfl⟩ rfl rfl rfl rfl rfl (by kernel_rfl) Tryd.func4 (by kernel_rfl)
    (of_decide_eq_true (by kernel_rfl)) (by unfold Func.isWrapper; first | (rw [if_pos (by decide +kernel)]; kernel_rfl) | (rw [if_neg (by decide +kernel)]; exact ⟨rfl, rfl⟩))
    (fun os started H enc _ F => by rw [OpenClaim.pre_eq_preRow]; exact lifted os started H enc F)
/-- No parameter wants a stand-in; the program's own looks are off: what the card asks. -/
theorem plain (f : FuncId) (fn : Func) (hf : Tryd.pinned.checked.prog.funcNamed "fulling/fullinglaw1.WordReference" = some f) (hfn : Tryd.pinned.checked.prog.funcs[f]? = some fn) :
    false = Tryd.pinned.checked.prog.looks [] ∧ ∀ (j : Nat) t, fn.params[j]? = some t → Tryd.pinned.checked.prog.wantsStandIn t = false := by
  obtain rfl : f = 4 := Option.some.inj ((show Tryd.prog.funcNamed "fulling/fullinglaw1.WordReference" = some 4 by kernel_rfl).symm.trans hf) |>.symm
  obtain rfl : fn = Tryd.f4 := (Option.some.inj (Tryd.func4.symm.trans hfn)).symm
  refine ⟨by kernel_rfl, fun j t ht => ?_⟩
  have hall : (Tryd.f4.params.toList.all fun t => Tryd.prog.wantsStandIn t == false) = true := by kernel_rfl
  have := List.all_eq_true.1 hall t (Array.mem_toList_iff.2 (Array.mem_of_getElem? ht))
  exact beq_iff_eq.1 this
/-- THE CARD -/
theorem card : Rows.WordReferenceCardSaid :=
  Claim7.holds_tied_plain_at .later [] _ _ _ _ said (fun _ h => by cases h) (by kernel_rfl) (fun _ h => by cases h) wordReference_row_tie rfl ⟨rfl, rfl⟩ (by kernel_rfl) rfl plain (by kernel_rfl)
end Go.Proofs.YtpbndfnokcmnhaaDoor.lawWordReference
