/- Stage 3: the walks of constant, negativeConstant, operation. -/
import Derived.Test.YtjeidpfpgolonaaDoorPc
namespace Go.Proofs.YtjeidpfpgolonaaDoor
open Go.RowKit (wrap64 intOf)
open Go Go.RowKit WM LX PX

set_option maxRecDepth 100000
theorem operation_any (op : Int) (A : Option Addr) (L c : Nat) (w : World) :
    Calls Tryd.prog 113 #[.int .i64 op, .slice A L c] w (RetN (exV 4 0 [] op A L c) w) := by
  go_enter Tryd.func113, Tryd.ntmps113
  go_wp2_with fail
  exact bodyPost_ret (v := exV 4 0 [] op A L c) (by simp [results, Tryd.results113, go_sem]) rfl ⟨rfl, (Below.refl _ _).alloc (Nat.le_refl _) _⟩
theorem word_call {ts : List Tk} {p : Nat} {s : PS} (x : List UInt8) (hx : x.length ≤ 20001) (z : Int) (b : Bool) (hb : Hid (parseB x = b)) (hz : Hid (parseV x = z)) (w : World) (h : PSt ts p s w) :
    Calls Tryd.prog 82 #[.string ⟨x.toArray⟩] w (RetN (.tuple #[.int .i64 z, .bool b]) w) := by
  obtain rfl := hb.out
  obtain rfl := hz.out
  have hE := h.env.2.2
  exact (wparse_any ⟨x.toArray⟩ (by show x.length ≤ _; omega) w w.heap.size (Nat.le_refl _) (fun w' hb => hE w' (below_down hb (Nat.le_of_lt h.lt)))).mono fun _ _ h => h
theorem word_call' {ts : List Tk} {p : Nat} {s : PS} (x : List UInt8) (hx : x.length ≤ 20001) (y : ByteArray) (hy : Hid (y = ⟨x.toArray⟩)) (z : Int) (b : Bool) (hb : Hid (parseB x = b)) (hz : Hid (parseV x = z)) (w : World) (h : PSt ts p s w) :
    Calls Tryd.prog 82 #[.string y] w (RetN (.tuple #[.int .i64 z, .bool b]) w) := by
  obtain rfl := hy.out
  exact word_call x hx z b hb hz w h
theorem constant_any (ts : List Tk) (p : Nat) (s : PS) (q : PE × PS) (hq : Hid ((if parseB (pk ts s).text = true then (numE (parseV (pk ts s).text), adv s) else (emE, fl s)) = q)) (w : World) (h : PSt ts p s w) :
    Calls Tryd.prog 117 #[.pointer (some ⟨p, 0, none⟩)] w (ExP ts p q w) := by
  obtain rfl := hq.out
  obtain ⟨t, ht⟩ : ∃ t, pk ts s = t := ⟨_, rfl⟩
  have hsz := h.tok ht
  have HT := Lib.hid ht
  obtain ⟨b, hb⟩ : ∃ b, parseB t.text = b := ⟨_, rfl⟩
  obtain ⟨z, hz⟩ : ∃ z, parseV t.text = z := ⟨_, rfl⟩
  have HB := Lib.hid hb
  have HZ := Lib.hid hz
  rw [ht, hb, hz]
  have hlen : b = true → s.i < ts.length := fun h1 => (pk_len (ts := ts) (s := s) (Or.inl (by rw [ht]; intro h2; rw [h2, parseB_nil] at hb; rw [← hb] at h1; cases h1))).2
  have kf := tokF1
  have o := Own.start h 45 ex0
  clear hb hz ht h hq
  have HL := Lib.hid hlen
  clear hlen
  cases b
  · rw [if_neg (by decide)]
    go_enter Tryd.func117, Tryd.ntmps117
    go_wp2_with fail
    refine (peek_any ts p s t HT _ o.s).mono ?_
    rintro e w1 ⟨rfl, hb1⟩
    replace o := o.low hb1
    clear hb1
    go_wp2_with fail
    refine (word_call t.text (by omega) z false HB HZ _ o.s).mono ?_
    rintro e w2 ⟨rfl, hb2⟩
    replace o := o.low hb2
    clear hb2
    go_wp2_with fail
    refine (fail_any ts p s _ o.s).mono ?_
    rintro e w3 ⟨rfl, hw3⟩
    replace o := o.setF
    rw [hw3] at o
    clear hw3
    obtain ⟨r0, r1, r2, r3, r4, f0, f1, f2, f3, f4⟩ := o.ok
    go_wp2_with fail
    obtain ⟨hk, hx⟩ := o.fin (repE_leaf _ _ 0 0 [] 0 none 0)
    obtain ⟨q0, q1, q2, q3, q4, _⟩ := hk.cells5
    exact bodyPost_ret (v := exV 0 0 [] 0 none 0 0) (by simp [results, Tryd.results117, go_sem, q0, q1, q2, q3, q4]) rfl hx
  · rw [if_pos rfl]
    have hlen := HL.out rfl
    go_enter Tryd.func117, Tryd.ntmps117
    go_wp2_with fail
    refine (peek_any ts p s t HT _ o.s).mono ?_
    rintro e w1 ⟨rfl, hb1⟩
    replace o := o.low hb1
    clear hb1
    go_wp2_with fail
    refine (word_call t.text (by omega) z true HB HZ _ o.s).mono ?_
    rintro e w2 ⟨rfl, hb2⟩
    replace o := o.low hb2
    clear hb2
    obtain ⟨c1, g1, hi⟩ := o.s.cells
    obtain ⟨r0, r1, r2, r3, r4, f0, f1, f2, f3, f4⟩ := o.ok
    have hne : w.heap.size ≠ p := Nat.ne_of_gt o.p
    go_wp2_with fail
    obtain ⟨hk, hx⟩ := (o.setI (i := s.i + 1) (by omega) (u := .int .i64 ((s.i : Int) + 1)) rfl).fin (repE_leaf _ _ 1 z [] 0 none 0)
    obtain ⟨q0, q1, q2, q3, q4, _⟩ := hk.cells5
    exact bodyPost_ret (v := exV 1 z [] 0 none 0 0) (by simp [results, Tryd.results117, go_sem, q0, q1, q2, q3, q4]) rfl hx
theorem beq_false {a b : List UInt8} (h : a ≠ b) : (a == b) = false := by simp [h]
theorem negative_any (ts : List Tk) (p : Nat) (s : PS) (t : Tk) (hkd : t.kind = 2) (ht : Hid (pk ts s = t)) (w : World) (h : PSt ts p s w) :
    Calls Tryd.prog 112 #[.pointer (some ⟨p, 0, none⟩)] w (ExP ts p (numE (negV t.text), adv s) w) := by
  have HT := ht
  have ht := ht.out
  have hsz := h.tok ht
  obtain ⟨b, hb⟩ : ∃ b, parseB (45 :: t.text) = b := ⟨_, rfl⟩
  obtain ⟨z, hz⟩ : ∃ z, parseV (45 :: t.text) = z := ⟨_, rfl⟩
  have HB := Lib.hid hb
  have HZ := Lib.hid hz
  have hlen := (pk_len (ts := ts) (s := s) (Or.inr (by rw [ht, hkd]; decide))).2
  have kf := tokF1
  have o := Own.start h 45 ex0
  unfold negV
  rw [hz]
  clear hb hz ht h hkd
  by_cases h0 : t.text = [48]
  · rw [if_pos h0]
    have hq : (t.text == [48]) = true := by rw [h0]; rfl
    clear h0
    go_enter Tryd.func112, Tryd.ntmps112
    go_wp2_with fail
    refine (peek_any ts p s t HT _ o.s).mono ?_
    rintro e w1 ⟨rfl, hb1⟩
    replace o := o.low hb1
    clear hb1
    obtain ⟨c1, g1, hi⟩ := o.s.cells
    obtain ⟨r0, r1, r2, r3, r4, f0, f1, f2, f3, f4⟩ := o.ok
    have hne : w.heap.size ≠ p := Nat.ne_of_gt o.p
    go_wp2_with fail
    obtain ⟨hk, hx⟩ := (o.setI (i := s.i + 1) (by omega) (u := .int .i64 ((s.i : Int) + 1)) rfl).fin (repE_leaf _ _ 1 0 [] 0 none 0)
    obtain ⟨q0, q1, q2, q3, q4, _⟩ := hk.cells5
    exact bodyPost_ret (v := exV 1 0 [] 0 none 0 0) (by simp [results, Tryd.results112, go_sem, q0, q1, q2, q3, q4]) rfl hx
  · rw [if_neg h0]
    have hq := beq_false h0
    clear h0
    have hsum : (⟨#[45]⟩ : ByteArray) ++ ⟨t.text.toArray⟩ = ⟨(45 :: t.text).toArray⟩ := by
      apply ByteArray.ext; simp [ByteArray.data_append]
    have HSUM := Lib.hid hsum
    clear hsum
    go_enter Tryd.func112, Tryd.ntmps112
    go_wp2_with fail
    refine (peek_any ts p s t HT _ o.s).mono ?_
    rintro e w1 ⟨rfl, hb1⟩
    replace o := o.low hb1
    clear hb1
    obtain ⟨c1, g1, hi⟩ := o.s.cells
    have hne : w.heap.size ≠ p := Nat.ne_of_gt o.p
    go_wp2_with fail
    replace o := o.setI (i := s.i + 1) (by omega) (u := .int .i64 ((s.i : Int) + 1)) rfl
    refine (word_call' (45 :: t.text) (by simp; omega) _ HSUM z b HB HZ _ o.s).mono ?_
    rintro e w2 ⟨rfl, hb2⟩
    replace o := o.low hb2
    clear hb2 c1 g1
    obtain ⟨r0, r1, r2, r3, r4, f0, f1, f2, f3, f4⟩ := o.ok
    go_wp2_with fail
    obtain ⟨hk, hx⟩ := o.fin (repE_leaf _ _ 1 z [] 0 none 0)
    obtain ⟨q0, q1, q2, q3, q4, _⟩ := hk.cells5
    exact bodyPost_ret (v := exV 1 z [] 0 none 0 0) (by simp [results, Tryd.results112, go_sem, q0, q1, q2, q3, q4]) rfl hx
end Go.Proofs.YtjeidpfpgolonaaDoor
