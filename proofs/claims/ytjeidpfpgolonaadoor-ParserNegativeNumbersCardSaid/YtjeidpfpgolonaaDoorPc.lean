/- Stage 3: the walks of isName, name, number, constant, negativeConstant, operator. -/
import Derived.Test.YtjeidpfpgolonaaDoorPb
namespace Go.Proofs.YtjeidpfpgolonaaDoor
open Go.RowKit (wrap64 intOf)
open Go Go.RowKit WM LX PX

set_option maxRecDepth 100000
theorem isNm_of {kd : Nat} {x : List UInt8} {o : Nat} {b : Bool} (h : isNm ⟨kd, x, o⟩ = b) (hk : kd = 1) : (!resW.contains x) = b := by
  subst hk; rw [← h]; rfl
theorem isName_any (t : Tk) (b : Bool) (hb : Hid (isNm t = b)) (B : Nat) (w : World) (hB : B ≤ w.heap.size) (ht : FR.TabAt 2 resCells B w) :
    Calls Tryd.prog 81 #[.agg #[.int .i64 (t.kind : Int), .string ⟨t.text.toArray⟩, .int .i64 (t.pos : Int)]] w (RetN (.bool b) w) := by
  obtain ⟨kd, x, o⟩ := t
  have ht2 := ht.on (B := B) ((Below.refl _ _).alloc hB (.cells #[.int .i64 (kd : Int), .string ⟨x.toArray⟩, .int .i64 (o : Int)] 54))
  obtain ⟨r, hr⟩ : ∃ r, resW.contains x = r := ⟨_, rfl⟩
  have HR := Lib.hid hr
  clear hr
  by_cases hk : kd = 1
  · have h1 : ((kd : Int) == 1) = true := by rw [beq_iff_eq]; omega
    have HK := Lib.hid hk
    clear hk
    go_enter Tryd.func81, Tryd.ntmps81
    go_wp2_with (go_at_call 91; ((with_reducible refine (isReserved_any x r HR B _ ht2).mono ?_); rintro e w' ⟨rfl, rfl⟩))
    go_ret
    refine retN ?_ ((Below.refl _ _).alloc (Nat.le_refl _) _)
    have := isNm_of hb.out HK.out
    rw [HR.out] at this
    exact congrArg Value.bool this
  · have h1 : ((kd : Int) == 1) = false := by rw [beq_eq_false_iff_ne]; omega
    have HK := Lib.hid hk
    clear hk
    go_enter Tryd.func81, Tryd.ntmps81
    go_wp2_with fail
    go_ret
    refine retN ?_ ((Below.refl _ _).alloc (Nat.le_refl _) _)
    have := hb.out
    unfold isNm at this
    rw [show decide ((⟨kd, x, o⟩ : Tk).kind = 1) = false from decide_eq_false HK.out] at this
    rw [← this]; rfl
theorem name_any (ts : List Tk) (p : Nat) (s s1 : PS) (nm : List UInt8) (hv : Hid (nmV ts s = nm)) (hs : Hid (nmS ts s = s1)) (w : World) (h : PSt ts p s w) :
    Calls Tryd.prog 62 #[.pointer (some ⟨p, 0, none⟩)] w (AccP ts p s1 (.string ⟨nm.toArray⟩) w) := by
  obtain ⟨t, ht⟩ : ∃ t, pk ts s = t := ⟨_, rfl⟩
  have HT := Lib.hid ht
  obtain ⟨b, hb⟩ : ∃ b, isNm t = b := ⟨_, rfl⟩
  have HB := Lib.hid hb
  have hv := hv.out
  have hs := hs.out
  unfold nmV at hv
  unfold nmS at hs
  rw [ht, hb] at hv hs
  obtain ⟨ty, hty⟩ : ∃ ty : Nat, 54 = ty := ⟨_, rfl⟩
  cases b
  · rw [if_neg (by decide)] at hv hs
    subst hv hs
    clear ht hb
    go_enter Tryd.func62, Tryd.ntmps62
    go_wp2_with fail
    refine (peek_any ts p s t HT _ h).mono ?_
    rintro e w1 ⟨rfl, hb1⟩
    have h1 := (h.keep hb1).alloc (.cells #[.int .i64 (t.kind : Int), .string ⟨t.text.toArray⟩, .int .i64 (t.pos : Int)] 54)
    have hg1 := (hb1.alloc hb1.size (.cells #[.int .i64 (t.kind : Int), .string ⟨t.text.toArray⟩, .int .i64 (t.pos : Int)] 54))
    clear hb1 hty
    go_wp2_with fail
    refine (isName_any t false HB p _ (Nat.le_of_lt h1.lt) h1.env.1).mono ?_
    rintro e w2 ⟨rfl, hb2⟩
    have h2 := h1.keep hb2
    have hg2 := hg1.trans (below_down hb2 hg1.size)
    clear hb2 hg1 h1
    go_wp2_with fail
    refine (fail_any ts p s _ h2).mono ?_
    rintro e w3 ⟨rfl, rfl⟩
    go_wp2_with fail
    go_ret
    exact accP rfl (grown_s (grown_b hg2 _) _) h2.setF
  · rw [if_pos rfl] at hv hs
    subst hv hs
    have hlen := (pk_len (ts := ts) (s := s) (Or.inr (by rw [ht, isNm_kind hb]; decide))).2
    clear ht hb
    go_enter Tryd.func62, Tryd.ntmps62
    go_wp2_with fail
    refine (peek_any ts p s t HT _ h).mono ?_
    rintro e w1 ⟨rfl, hb1⟩
    have h1 := (h.keep hb1).alloc (.cells #[.int .i64 (t.kind : Int), .string ⟨t.text.toArray⟩, .int .i64 (t.pos : Int)] 54)
    have hg1 := (hb1.alloc hb1.size (.cells #[.int .i64 (t.kind : Int), .string ⟨t.text.toArray⟩, .int .i64 (t.pos : Int)] 54))
    have hK := Blk.new w1 54 #[.int .i64 (t.kind : Int), .string ⟨t.text.toArray⟩, .int .i64 (t.pos : Int)]
    have hne : w1.heap.size ≠ p := by have := h.lt; have := hb1.size; omega
    clear hb1 hty
    go_wp2_with fail
    refine (isName_any t true HB p _ (Nat.le_of_lt h1.lt) h1.env.1).mono ?_
    rintro e w2 ⟨rfl, hb2⟩
    have h2 := h1.keep hb2
    obtain ⟨k0, k1, k2, _⟩ := (hK.on hb2 hK.lt).cells3
    have hg2 := hg1.trans (below_down hb2 hg1.size)
    obtain ⟨c1, f1, hi⟩ := h2.cells
    clear hb2 hg1 h1 hK
    go_wp2_with fail
    go_ret
    exact accP rfl (grown_s (grown_b hg2 _) _) (h2.setI (by omega) rfl)
theorem pnumber_any (ts : List Tk) (p : Nat) (s s1 : PS) (n : Int) (hv : Hid (nuV ts s = n)) (hs : Hid (nuS ts s = s1)) (w : World) (h : PSt ts p s w) :
    Calls Tryd.prog 63 #[.pointer (some ⟨p, 0, none⟩)] w (AccP ts p s1 (.int .i64 n) w) := by
  obtain ⟨t, ht⟩ : ∃ t, pk ts s = t := ⟨_, rfl⟩
  have hsz := h.tok ht
  have HT := Lib.hid ht
  have hv := hv.out
  have hs := hs.out
  unfold nuV at hv
  unfold nuS at hs
  rw [ht] at hv hs
  obtain ⟨b, hb⟩ : ∃ b, parseB t.text = b := ⟨_, rfl⟩
  obtain ⟨z, hz⟩ : ∃ z, parseV t.text = z := ⟨_, rfl⟩
  unfold nuB at hv hs
  rw [hb, hz] at hv hs
  have hpt : (pk ts s).text = t.text := by rw [ht]
  have kf := tokF1
  have hbig : b = true → t.text ≠ [] := fun h1 h2 => by rw [h2, parseB_nil] at hb; rw [← hb] at h1; cases h1
  have HBIG := Lib.hid hbig
  have HPT := Lib.hid hpt
  have hcall : ∀ w, PSt ts p s w → Calls Tryd.prog 82 #[.string ⟨t.text.toArray⟩] w (fun e w' => e = .returned (.tuple #[.int .i64 z, .bool b]) ∧ Below w.heap.size w w') := fun w h => by
    subst hb hz
    have hE := h.env.2.2
    exact (wparse_any ⟨t.text.toArray⟩ (by show t.text.length ≤ _; omega) w w.heap.size (Nat.le_refl _) (fun w' hb => hE w' (below_down hb (Nat.le_of_lt h.lt)))).mono fun _ _ h => h
  clear hb hz ht hbig hpt hsz
  cases b
  · simp only [Bool.false_and, Bool.false_eq_true, if_false] at hv hs
    subst hv hs
    go_enter Tryd.func63, Tryd.ntmps63
    go_wp2_with fail
    refine (peek_any ts p s t HT _ h).mono ?_
    rintro e w1 ⟨rfl, hb1⟩
    have h1 := h.keep hb1
    go_wp2_with fail
    refine (hcall _ h1).mono ?_
    rintro e w2 ⟨rfl, hb2⟩
    have h2 := h1.keep hb2
    have hg2 := hb1.trans (below_down hb2 hb1.size)
    clear hb1 hb2 h1 hcall
    go_wp2_with fail
    refine (fail_any ts p s _ h2).mono ?_
    rintro e w3 ⟨rfl, rfl⟩
    go_wp2_with fail
    go_ret
    exact accP rfl (grown_s (grown_b hg2 _) _) h2.setF
  · by_cases hle : z ≤ 1000000
    · simp only [hle, decide_true, Bool.true_and, if_true] at hv hs
      subst hv hs
      have hlen := (pk_len (ts := ts) (s := s) (Or.inl (by rw [HPT.out]; exact HBIG.out rfl))).2
      go_enter Tryd.func63, Tryd.ntmps63
      go_wp2_with fail
      refine (peek_any ts p s t HT _ h).mono ?_
      rintro e w1 ⟨rfl, hb1⟩
      have h1 := h.keep hb1
      go_wp2_with fail
      refine (hcall _ h1).mono ?_
      rintro e w2 ⟨rfl, hb2⟩
      have h2 := h1.keep hb2
      have hg2 := hb1.trans (below_down hb2 hb1.size)
      obtain ⟨c1, f1, hi⟩ := h2.cells
      clear hb1 hb2 h1 hcall
      go_wp2_with fail
      go_ret
      exact accP rfl (grown_s (grown_b hg2 _) _) (h2.setI (by omega) rfl)
    · simp only [hle, decide_false, Bool.and_false, Bool.false_eq_true, if_false] at hv hs
      subst hv hs
      go_enter Tryd.func63, Tryd.ntmps63
      go_wp2_with fail
      refine (peek_any ts p s t HT _ h).mono ?_
      rintro e w1 ⟨rfl, hb1⟩
      have h1 := h.keep hb1
      go_wp2_with fail
      refine (hcall _ h1).mono ?_
      rintro e w2 ⟨rfl, hb2⟩
      have h2 := h1.keep hb2
      have hg2 := hb1.trans (below_down hb2 hb1.size)
      clear hb1 hb2 h1 hcall
      go_wp2_with fail
      refine (fail_any ts p s _ h2).mono ?_
      rintro e w3 ⟨rfl, rfl⟩
      go_wp2_with fail
      go_ret
      exact accP rfl (grown_s (grown_b hg2 _) _) h2.setF
end Go.Proofs.YtjeidpfpgolonaaDoor
