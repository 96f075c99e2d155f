/- Stage 4: the walks of every and of slices.ContainsFunc: whatever the test, if it keeps an invariant. -/
import Derived.Test.YtgiggkfnpbgkpaaGreatDoorKa
import Derived.Deep.LoopGhost
import Derived.Outline
namespace Go.Proofs.YtgiggkfnpbgkpaaGreatDoor
open Go.RowKit (wrap64 intOf)
open Go Go.RowKit WM LX PX CX

set_option maxRecDepth 100000
set_option maxHeartbeats 4000000
theorem sizeE : (Tryz.prog.info? 44).map (·.size) = some 5 := by kernel_rfl
theorem every0_E {α : Type} {Rep : World → (Nat → Prop) → α → List Value → Prop} (hk : Keeps Rep) (hone : Ones Rep 5)
    (xs : List α) (v : Value) (w0 : World) (ok : Nat → Prop) (hl : RepL Rep 5 w0 ok xs v) (hfew : xs.length ≤ 1000000000) (p : α → Bool) (m : Option Nat) (g : Nat) (pre lb : Array Value)
    (eg : ∀ args w, (callFunc g args).run Tryz.prog w = .ok (.enter g args) w) (I : Nat → World → Prop) (hI : Inv I ok m w0) (f : α → Nat)
    (hp : ∀ (i : Nat) (x : α), xs[i]? = some x → Tst Tryz.prog Rep ok I m g pre lb p f x) (c : Nat) (hbud : c + sumL f xs ≤ 1000000000000) (w : World) (hw : I c w) :
    Calls Tryz.prog 184 #[v, .func (.func g) pre lb] w (RetI (.bool (xs.all p)) (I (c + sumL f xs))) := by
  obtain ⟨A, cp, rfl, hat⟩ := hl.at
  obtain ⟨len, hlen⟩ : ∃ len, xs.length = len := ⟨_, rfl⟩
  have HL := Lib.hid hlen
  have H := Lib.hid (And.intro hat (And.intro hI hp))
  rw [hlen] at hfew ⊢
  clear hlen hat hI hp hl
  have HW := Lib.hid hw
  clear hw
  go_enter Tryz.func184, Tryz.ntmps184
  go_wp2_with fail
  go_loopg [9] len (fun k i wr => EvR I f c (fun x => p x = true) xs len k i wr)
  case atStart => exact evR (Nat.zero_add _) HW.out (fun m x h => absurd h (Nat.not_lt_zero _))
  case round =>
    obtain ⟨j, hj, rfl, HI, HQ⟩ := hrel
    by_cases hlt : j < len
    · obtain ⟨x, hx⟩ : ∃ x, xs[j]? = some x := ⟨_, List.getElem?_eq_getElem (by rw [HL.out]; exact hlt)⟩
      obtain ⟨h1, h2, h3⟩ := H.out
      obtain ⟨b, cs, rfl, hb, hrep, hcell⟩ := h1 j x hx
      have hbw := h2.ok _ wr HI.out b hb
      have hc : ∀ i u, cs[i]? = some u → wr.cell? ⟨b, j * 5 + i, none⟩ = some u := fun i u hu => (World.cell?_of_block hbw.2).trans (hcell i u hu)
      have hr2 := hk.k (w' := wr) (ok' := ok) hrep (fun _ h => h) (fun b' hb' => (h2.ok _ wr HI.out b' hb').2)
      obtain ⟨h5, h6⟩ := hone _ _ _ _ hrep
      have hlb : b < wr.heap.size := hbw.1
      have e1 : (j : Int) < (len : Int) := by omega
      have HC := Lib.hid hc
      have H6 := Lib.hid h6
      have HS : Hid ((Tryz.prog.info? 44).map (·.size) = some cs.length) := by rw [h5]; exact sizeE
      have hcall : ∀ W', Below wr.heap.size wr W' → Calls Tryz.prog g (pre.push (.agg cs.toArray) ++ lb) W' (RetI (.bool (p x)) (I (c + sumL f (xs.take (j + 1))))) := fun W' hW' => by
        rw [sumL_step f xs j x hx, Nat.add_assoc, ← Nat.add_assoc c]
        exact (h3 j x hx cs W' _ (by have := sumL_step f xs j x hx; have := sumL_take f xs (j + 1); omega) (h2.easy _ _ _ HI.out hW') (hk.k hr2 (fun _ h => h) (fun b' hb' => hW'.block b' (h2.ok _ wr HI.out b' hb').1))).mono fun _ _ k => ⟨k.1, k.2.1⟩
      have hdone := sumL_take f xs (j + 1)
      have HX := Lib.hid hx
      have H5 := Lib.hid h5
      clear h1 h2 h3 hcell hbw hrep hr2 hc h6 hx h5
      cases hq : p x with
      | true =>
        rw [hq] at hcall
        go_wp2_with (first | (refine wpList_load_at rfl 44 _ rfl b (j * 5) rfl cs HC.out _ Tryz.underlying44 rfl HS.out ?_) | (refine wpList_store_row rfl _ _ _ rfl wr.heap.size cs.toArray rfl rfl _ _ (Blk.new wr _ _) (by simpa using HS.out) (by simp [H5.out]) H6.out ?_) | ((refine wpList_load_row rfl _ _ rfl wr.heap.size rfl 44 cs.toArray (0, 0) _ (blk_row (Blk.new wr _ _) _) Tryz.underlying44 rfl (by simpa using HS.out) ?_)))
        refine (hcall _ (below_row ((Below.refl _ _).alloc (Nat.le_refl _) _) (Nat.le_refl _) _)).mono ?_
        rintro e w2 ⟨rfl, hi⟩
        go_wp2_with fail
        go_roundg (gk - 1)
        case measure => omega
        case rel => exact ⟨j + 1, by omega, by go_num, Lib.hid hi, Lib.hid (ev_step HQ.out HX.out hq)⟩
      | false =>
        rw [hq] at hcall
        rw [all_upto p xs j x HX.out hq]
        go_wp2_with (first | (refine wpList_load_at rfl 44 _ rfl b (j * 5) rfl cs HC.out _ Tryz.underlying44 rfl HS.out ?_) | (refine wpList_store_row rfl _ _ _ rfl wr.heap.size cs.toArray rfl rfl _ _ (Blk.new wr _ _) (by simpa using HS.out) (by simp [H5.out]) H6.out ?_) | ((refine wpList_load_row rfl _ _ rfl wr.heap.size rfl 44 cs.toArray (0, 0) _ (blk_row (Blk.new wr _ _) _) Tryz.underlying44 rfl (by simpa using HS.out) ?_)))
        refine (hcall _ (below_row ((Below.refl _ _).alloc (Nat.le_refl _) _) (Nat.le_refl _) _)).mono ?_
        rintro e w2 ⟨rfl, hi⟩
        go_wp2_with fail
        go_ret
        exact retI rfl ((H.out.2.1).mono _ _ _ hi (by omega))
    · obtain rfl : j = len := by omega
      have hall := all_done p xs (fun m x hm => HQ.out m x (by rw [← HL.out]; exact (List.getElem?_eq_some_iff.1 hm).1) hm)
      have hin : I (c + sumL f xs) wr := by
        have := HI.out
        rwa [List.take_of_length_le (by rw [HL.out]; exact Nat.le_refl _)] at this
      have HN := Lib.hid (And.intro hall hin)
      clear hall hin
      go_wp2_with fail
      go_ret
      exact retI (by rw [HN.out.1]; rfl) HN.out.2
theorem every_E {α : Type} {Rep : World → (Nat → Prop) → α → List Value → Prop} (hk : Keeps Rep) (hone : Ones Rep 5)
    (xs : List α) (v : Value) (w0 : World) (ok : Nat → Prop) (hl : RepL Rep 5 w0 ok xs v) (hfew : xs.length ≤ 1000000000) (p : α → Bool) (m : Option Nat) (g : Nat) (pre lb : Array Value)
    (eg : ∀ args w, (callFunc g args).run Tryz.prog w = .ok (.enter g args) w) (I : Nat → World → Prop) (hI : Inv I ok m w0) (f : α → Nat)
    (hp : ∀ (i : Nat) (x : α), xs[i]? = some x → Tst Tryz.prog Rep ok I m g pre lb p f x) (c : Nat) (hbud : c + sumL f xs ≤ 1000000000000) (w : World) (hw : I c w) :
    Calls Tryz.prog 184 #[v, .func (.func g) pre lb] w (RetK (.bool (xs.all p)) m w (I (c + sumL f xs))) :=
  every0_E hk hone xs v w0 ok hl hfew p m g pre lb eg _ (hI.and w) f (fun i x hx => (hp i x hx).and w) c hbud w ⟨hw, grown_id _ _⟩
theorem index_E {α : Type} {Rep : World → (Nat → Prop) → α → List Value → Prop} (hk : Keeps Rep) (hone : Ones Rep 5)
    (xs : List α) (v : Value) (w0 : World) (ok : Nat → Prop) (hl : RepL Rep 5 w0 ok xs v) (hfew : xs.length ≤ 1000000000) (p : α → Bool) (m : Option Nat) (g : Nat) (pre lb : Array Value)
    (eg : ∀ args w, (callFunc g args).run Tryz.prog w = .ok (.enter g args) w) (I : Nat → World → Prop) (hI : Inv I ok m w0) (f : α → Nat)
    (hp : ∀ (i : Nat) (x : α), xs[i]? = some x → Tst Tryz.prog Rep ok I m g pre lb p f x) (c : Nat) (hbud : c + sumL f xs ≤ 1000000000000) (w : World) (hw : I c w) :
    Calls Tryz.prog 219 #[v, .func (.func g) pre lb] w (IdxP (xs.any p) (I (c + sumL f xs))) := by
  obtain ⟨A, cp, rfl, hat⟩ := hl.at
  obtain ⟨len, hlen⟩ : ∃ len, xs.length = len := ⟨_, rfl⟩
  have HL := Lib.hid hlen
  have H := Lib.hid (And.intro hat (And.intro hI hp))
  rw [hlen] at hfew ⊢
  clear hlen hat hI hp hl
  have HW := Lib.hid hw
  clear hw
  go_enter Tryz.func219, Tryz.ntmps219
  go_wp2_with fail
  go_loopg [8] len (fun k i wr => EvR I f c (fun x => p x = false) xs len k i wr)
  case atStart => exact evR (Nat.zero_add _) HW.out (fun m x h => absurd h (Nat.not_lt_zero _))
  case round =>
    obtain ⟨j, hj, rfl, HI, HQ⟩ := hrel
    by_cases hlt : j < len
    · obtain ⟨x, hx⟩ : ∃ x, xs[j]? = some x := ⟨_, List.getElem?_eq_getElem (by rw [HL.out]; exact hlt)⟩
      obtain ⟨h1, h2, h3⟩ := H.out
      obtain ⟨b, cs, rfl, hb, hrep, hcell⟩ := h1 j x hx
      have hbw := h2.ok _ wr HI.out b hb
      have hc : ∀ i u, cs[i]? = some u → wr.cell? ⟨b, j * 5 + i, none⟩ = some u := fun i u hu => (World.cell?_of_block hbw.2).trans (hcell i u hu)
      have hr2 := hk.k (w' := wr) (ok' := ok) hrep (fun _ h => h) (fun b' hb' => (h2.ok _ wr HI.out b' hb').2)
      obtain ⟨h5, h6⟩ := hone _ _ _ _ hrep
      have e1 : (j : Int) < (len : Int) := by omega
      have HC := Lib.hid hc
      have HS : Hid ((Tryz.prog.info? 44).map (·.size) = some cs.length) := by rw [h5]; exact sizeE
      have hcall : ∀ W', Below wr.heap.size wr W' → Calls Tryz.prog g (pre.push (.agg cs.toArray) ++ lb) W' (RetI (.bool (p x)) (I (c + sumL f (xs.take (j + 1))))) := fun W' hW' => by
        rw [sumL_step f xs j x hx, Nat.add_assoc, ← Nat.add_assoc c]
        exact (h3 j x hx cs W' _ (by have := sumL_step f xs j x hx; have := sumL_take f xs (j + 1); omega) (h2.easy _ _ _ HI.out hW') (hk.k hr2 (fun _ h => h) (fun b' hb' => hW'.block b' (h2.ok _ wr HI.out b' hb').1))).mono fun _ _ k => ⟨k.1, k.2.1⟩
      have hdone := sumL_take f xs (j + 1)
      have HX := Lib.hid hx
      clear h1 h2 h3 hcell hbw hrep hr2 hc h6 hx h5
      cases hq : p x with
      | false =>
        rw [hq] at hcall
        go_wp2_with (refine wpList_load_at rfl 44 _ rfl b (j * 5) rfl cs HC.out _ Tryz.underlying44 rfl HS.out ?_)
        refine (hcall _ (Below.refl _ _)).mono ?_
        rintro e w2 ⟨rfl, hi⟩
        go_wp2_with fail
        go_roundg (gk - 1)
        case measure => omega
        case rel => exact ⟨j + 1, by omega, by go_num, Lib.hid hi, Lib.hid (ev_step HQ.out HX.out hq)⟩
      | true =>
        rw [hq] at hcall
        have hany := any_upto p xs j x HX.out hq
        have HA := Lib.hid hany
        clear hany
        go_wp2_with (refine wpList_load_at rfl 44 _ rfl b (j * 5) rfl cs HC.out _ Tryz.underlying44 rfl HS.out ?_)
        refine (hcall _ (Below.refl _ _)).mono ?_
        rintro e w2 ⟨rfl, hi⟩
        go_wp2_with fail
        go_ret
        exact ⟨(j : Int), rfl, by rw [HA.out]; exact decide_eq_true (by omega), (H.out.2.1).mono _ _ _ hi (by omega)⟩
    · obtain rfl : j = len := by omega
      have hall := any_done p xs (fun m x hm => HQ.out m x (by rw [← HL.out]; exact (List.getElem?_eq_some_iff.1 hm).1) hm)
      have hin : I (c + sumL f xs) wr := by
        have := HI.out
        rwa [List.take_of_length_le (by rw [HL.out]; exact Nat.le_refl _)] at this
      have HN := Lib.hid (And.intro hall hin)
      clear hall hin
      go_wp2_with fail
      go_ret
      exact ⟨-1, rfl, by rw [HN.out.1]; rfl, HN.out.2⟩
theorem contains0_E {α : Type} {Rep : World → (Nat → Prop) → α → List Value → Prop} (hk : Keeps Rep) (hone : Ones Rep 5)
    (xs : List α) (v : Value) (w0 : World) (ok : Nat → Prop) (hl : RepL Rep 5 w0 ok xs v) (hfew : xs.length ≤ 1000000000) (p : α → Bool) (m : Option Nat) (g : Nat) (pre lb : Array Value)
    (eg : ∀ args w, (callFunc g args).run Tryz.prog w = .ok (.enter g args) w) (I : Nat → World → Prop) (hI : Inv I ok m w0) (f : α → Nat)
    (hp : ∀ (i : Nat) (x : α), xs[i]? = some x → Tst Tryz.prog Rep ok I m g pre lb p f x) (c : Nat) (hbud : c + sumL f xs ≤ 1000000000000) (w : World) (hw : I c w) :
    Calls Tryz.prog 178 #[v, .func (.func g) pre lb] w (RetI (.bool (xs.any p)) (I (c + sumL f xs))) := by
  have HC := Lib.hid (index_E hk hone xs v w0 ok hl hfew p m g pre lb eg I hI f hp c hbud w hw)
  clear hl hI hp hw
  cases ha : xs.any p
  all_goals
    rw [ha] at HC
    go_enter Tryz.func178, Tryz.ntmps178
    go_wp2_with fail
    refine HC.out.mono ?_
    rintro e w2 ⟨n, rfl, hn, hi⟩
    have HI := Lib.hid hi
    clear hi
    first
      | (go_wp2_with fail
         go_ret
         exact retI rfl HI.out)
      | (have hn' : 0 ≤ n := of_decide_eq_true hn
         clear hn
         go_wp2_with fail
         go_ret
         exact retI rfl HI.out)
theorem contains_E {α : Type} {Rep : World → (Nat → Prop) → α → List Value → Prop} (hk : Keeps Rep) (hone : Ones Rep 5)
    (xs : List α) (v : Value) (w0 : World) (ok : Nat → Prop) (hl : RepL Rep 5 w0 ok xs v) (hfew : xs.length ≤ 1000000000) (p : α → Bool) (m : Option Nat) (g : Nat) (pre lb : Array Value)
    (eg : ∀ args w, (callFunc g args).run Tryz.prog w = .ok (.enter g args) w) (I : Nat → World → Prop) (hI : Inv I ok m w0) (f : α → Nat)
    (hp : ∀ (i : Nat) (x : α), xs[i]? = some x → Tst Tryz.prog Rep ok I m g pre lb p f x) (c : Nat) (hbud : c + sumL f xs ≤ 1000000000000) (w : World) (hw : I c w) :
    Calls Tryz.prog 178 #[v, .func (.func g) pre lb] w (RetK (.bool (xs.any p)) m w (I (c + sumL f xs))) :=
  contains0_E hk hone xs v w0 ok hl hfew p m g pre lb eg _ (hI.and w) f (fun i x hx => (hp i x hx).and w) c hbud w ⟨hw, grown_id _ _⟩
end Go.Proofs.YtgiggkfnpbgkpaaGreatDoor
/- Stage 4: the walks of every and of slices.ContainsFunc: whatever the test, if it keeps an invariant. -/
namespace Go.Proofs.YtgiggkfnpbgkpaaGreatDoor
open Go.RowKit (wrap64 intOf)
open Go Go.RowKit WM LX PX CX

set_option maxRecDepth 100000
set_option maxHeartbeats 4000000
theorem sizeS : (Tryz.prog.info? 50).map (·.size) = some 17 := by kernel_rfl
theorem every0_S {α : Type} {Rep : World → (Nat → Prop) → α → List Value → Prop} (hk : Keeps Rep) (hone : Ones Rep 17)
    (xs : List α) (v : Value) (w0 : World) (ok : Nat → Prop) (hl : RepL Rep 17 w0 ok xs v) (hfew : xs.length ≤ 1000000000) (p : α → Bool) (m : Option Nat) (g : Nat) (pre lb : Array Value)
    (eg : ∀ args w, (callFunc g args).run Tryz.prog w = .ok (.enter g args) w) (I : Nat → World → Prop) (hI : Inv I ok m w0) (f : α → Nat)
    (hp : ∀ (i : Nat) (x : α), xs[i]? = some x → Tst Tryz.prog Rep ok I m g pre lb p f x) (c : Nat) (hbud : c + sumL f xs ≤ 1000000000000) (w : World) (hw : I c w) :
    Calls Tryz.prog 150 #[v, .func (.func g) pre lb] w (RetI (.bool (xs.all p)) (I (c + sumL f xs))) := by
  obtain ⟨A, cp, rfl, hat⟩ := hl.at
  obtain ⟨len, hlen⟩ : ∃ len, xs.length = len := ⟨_, rfl⟩
  have HL := Lib.hid hlen
  have H := Lib.hid (And.intro hat (And.intro hI hp))
  rw [hlen] at hfew ⊢
  clear hlen hat hI hp hl
  have HW := Lib.hid hw
  clear hw
  go_enter Tryz.func150, Tryz.ntmps150
  go_wp2_with fail
  go_loopg [9] len (fun k i wr => EvR I f c (fun x => p x = true) xs len k i wr)
  case atStart => exact evR (Nat.zero_add _) HW.out (fun m x h => absurd h (Nat.not_lt_zero _))
  case round =>
    obtain ⟨j, hj, rfl, HI, HQ⟩ := hrel
    by_cases hlt : j < len
    · obtain ⟨x, hx⟩ : ∃ x, xs[j]? = some x := ⟨_, List.getElem?_eq_getElem (by rw [HL.out]; exact hlt)⟩
      obtain ⟨h1, h2, h3⟩ := H.out
      obtain ⟨b, cs, rfl, hb, hrep, hcell⟩ := h1 j x hx
      have hbw := h2.ok _ wr HI.out b hb
      have hc : ∀ i u, cs[i]? = some u → wr.cell? ⟨b, j * 17 + i, none⟩ = some u := fun i u hu => (World.cell?_of_block hbw.2).trans (hcell i u hu)
      have hr2 := hk.k (w' := wr) (ok' := ok) hrep (fun _ h => h) (fun b' hb' => (h2.ok _ wr HI.out b' hb').2)
      obtain ⟨h5, h6⟩ := hone _ _ _ _ hrep
      have hlb : b < wr.heap.size := hbw.1
      have e1 : (j : Int) < (len : Int) := by omega
      have HC := Lib.hid hc
      have H6 := Lib.hid h6
      have HS : Hid ((Tryz.prog.info? 50).map (·.size) = some cs.length) := by rw [h5]; exact sizeS
      have hcall : ∀ W', Below wr.heap.size wr W' → Calls Tryz.prog g (pre.push (.agg cs.toArray) ++ lb) W' (RetI (.bool (p x)) (I (c + sumL f (xs.take (j + 1))))) := fun W' hW' => by
        rw [sumL_step f xs j x hx, Nat.add_assoc, ← Nat.add_assoc c]
        exact (h3 j x hx cs W' _ (by have := sumL_step f xs j x hx; have := sumL_take f xs (j + 1); omega) (h2.easy _ _ _ HI.out hW') (hk.k hr2 (fun _ h => h) (fun b' hb' => hW'.block b' (h2.ok _ wr HI.out b' hb').1))).mono fun _ _ k => ⟨k.1, k.2.1⟩
      have hdone := sumL_take f xs (j + 1)
      have HX := Lib.hid hx
      have H5 := Lib.hid h5
      clear h1 h2 h3 hcell hbw hrep hr2 hc h6 hx h5
      cases hq : p x with
      | true =>
        rw [hq] at hcall
        go_wp2_with (first | (refine wpList_load_at rfl 50 _ rfl b (j * 17) rfl cs HC.out _ Tryz.underlying50 rfl HS.out ?_) | (refine wpList_store_row rfl _ _ _ rfl wr.heap.size cs.toArray rfl rfl _ _ (Blk.new wr _ _) (by simpa using HS.out) (by simp [H5.out]) H6.out ?_) | ((refine wpList_load_row rfl _ _ rfl wr.heap.size rfl 50 cs.toArray (0, 0) _ (blk_row (Blk.new wr _ _) _) Tryz.underlying50 rfl (by simpa using HS.out) ?_)))
        refine (hcall _ (below_row ((Below.refl _ _).alloc (Nat.le_refl _) _) (Nat.le_refl _) _)).mono ?_
        rintro e w2 ⟨rfl, hi⟩
        go_wp2_with fail
        go_roundg (gk - 1)
        case measure => omega
        case rel => exact ⟨j + 1, by omega, by go_num, Lib.hid hi, Lib.hid (ev_step HQ.out HX.out hq)⟩
      | false =>
        rw [hq] at hcall
        rw [all_upto p xs j x HX.out hq]
        go_wp2_with (first | (refine wpList_load_at rfl 50 _ rfl b (j * 17) rfl cs HC.out _ Tryz.underlying50 rfl HS.out ?_) | (refine wpList_store_row rfl _ _ _ rfl wr.heap.size cs.toArray rfl rfl _ _ (Blk.new wr _ _) (by simpa using HS.out) (by simp [H5.out]) H6.out ?_) | ((refine wpList_load_row rfl _ _ rfl wr.heap.size rfl 50 cs.toArray (0, 0) _ (blk_row (Blk.new wr _ _) _) Tryz.underlying50 rfl (by simpa using HS.out) ?_)))
        refine (hcall _ (below_row ((Below.refl _ _).alloc (Nat.le_refl _) _) (Nat.le_refl _) _)).mono ?_
        rintro e w2 ⟨rfl, hi⟩
        go_wp2_with fail
        go_ret
        exact retI rfl ((H.out.2.1).mono _ _ _ hi (by omega))
    · obtain rfl : j = len := by omega
      have hall := all_done p xs (fun m x hm => HQ.out m x (by rw [← HL.out]; exact (List.getElem?_eq_some_iff.1 hm).1) hm)
      have hin : I (c + sumL f xs) wr := by
        have := HI.out
        rwa [List.take_of_length_le (by rw [HL.out]; exact Nat.le_refl _)] at this
      have HN := Lib.hid (And.intro hall hin)
      clear hall hin
      go_wp2_with fail
      go_ret
      exact retI (by rw [HN.out.1]; rfl) HN.out.2
theorem every_S {α : Type} {Rep : World → (Nat → Prop) → α → List Value → Prop} (hk : Keeps Rep) (hone : Ones Rep 17)
    (xs : List α) (v : Value) (w0 : World) (ok : Nat → Prop) (hl : RepL Rep 17 w0 ok xs v) (hfew : xs.length ≤ 1000000000) (p : α → Bool) (m : Option Nat) (g : Nat) (pre lb : Array Value)
    (eg : ∀ args w, (callFunc g args).run Tryz.prog w = .ok (.enter g args) w) (I : Nat → World → Prop) (hI : Inv I ok m w0) (f : α → Nat)
    (hp : ∀ (i : Nat) (x : α), xs[i]? = some x → Tst Tryz.prog Rep ok I m g pre lb p f x) (c : Nat) (hbud : c + sumL f xs ≤ 1000000000000) (w : World) (hw : I c w) :
    Calls Tryz.prog 150 #[v, .func (.func g) pre lb] w (RetK (.bool (xs.all p)) m w (I (c + sumL f xs))) :=
  every0_S hk hone xs v w0 ok hl hfew p m g pre lb eg _ (hI.and w) f (fun i x hx => (hp i x hx).and w) c hbud w ⟨hw, grown_id _ _⟩
end Go.Proofs.YtgiggkfnpbgkpaaGreatDoor
/- Stage 4: the walks of every and of slices.ContainsFunc: whatever the test, if it keeps an invariant. -/
namespace Go.Proofs.YtgiggkfnpbgkpaaGreatDoor
open Go.RowKit (wrap64 intOf)
open Go Go.RowKit WM LX PX CX

set_option maxRecDepth 100000
set_option maxHeartbeats 4000000
theorem sizeF : (Tryz.prog.info? 47).map (·.size) = some 9 := by kernel_rfl
theorem every0_F {α : Type} {Rep : World → (Nat → Prop) → α → List Value → Prop} (hk : Keeps Rep) (hone : Ones Rep 9)
    (xs : List α) (v : Value) (w0 : World) (ok : Nat → Prop) (hl : RepL Rep 9 w0 ok xs v) (hfew : xs.length ≤ 1000000000) (p : α → Bool) (m : Option Nat) (g : Nat) (pre lb : Array Value)
    (eg : ∀ args w, (callFunc g args).run Tryz.prog w = .ok (.enter g args) w) (I : Nat → World → Prop) (hI : Inv I ok m w0) (f : α → Nat)
    (hp : ∀ (i : Nat) (x : α), xs[i]? = some x → Tst Tryz.prog Rep ok I m g pre lb p f x) (c : Nat) (hbud : c + sumL f xs ≤ 1000000000000) (w : World) (hw : I c w) :
    Calls Tryz.prog 89 #[v, .func (.func g) pre lb] w (RetI (.bool (xs.all p)) (I (c + sumL f xs))) := by
  obtain ⟨A, cp, rfl, hat⟩ := hl.at
  obtain ⟨len, hlen⟩ : ∃ len, xs.length = len := ⟨_, rfl⟩
  have HL := Lib.hid hlen
  have H := Lib.hid (And.intro hat (And.intro hI hp))
  rw [hlen] at hfew ⊢
  clear hlen hat hI hp hl
  have HW := Lib.hid hw
  clear hw
  go_enter Tryz.func89, Tryz.ntmps89
  go_wp2_with fail
  go_loopg [9] len (fun k i wr => EvR I f c (fun x => p x = true) xs len k i wr)
  case atStart => exact evR (Nat.zero_add _) HW.out (fun m x h => absurd h (Nat.not_lt_zero _))
  case round =>
    obtain ⟨j, hj, rfl, HI, HQ⟩ := hrel
    by_cases hlt : j < len
    · obtain ⟨x, hx⟩ : ∃ x, xs[j]? = some x := ⟨_, List.getElem?_eq_getElem (by rw [HL.out]; exact hlt)⟩
      obtain ⟨h1, h2, h3⟩ := H.out
      obtain ⟨b, cs, rfl, hb, hrep, hcell⟩ := h1 j x hx
      have hbw := h2.ok _ wr HI.out b hb
      have hc : ∀ i u, cs[i]? = some u → wr.cell? ⟨b, j * 9 + i, none⟩ = some u := fun i u hu => (World.cell?_of_block hbw.2).trans (hcell i u hu)
      have hr2 := hk.k (w' := wr) (ok' := ok) hrep (fun _ h => h) (fun b' hb' => (h2.ok _ wr HI.out b' hb').2)
      obtain ⟨h5, h6⟩ := hone _ _ _ _ hrep
      have hlb : b < wr.heap.size := hbw.1
      have e1 : (j : Int) < (len : Int) := by omega
      have HC := Lib.hid hc
      have H6 := Lib.hid h6
      have HS : Hid ((Tryz.prog.info? 47).map (·.size) = some cs.length) := by rw [h5]; exact sizeF
      have hcall : ∀ W', Below wr.heap.size wr W' → Calls Tryz.prog g (pre.push (.agg cs.toArray) ++ lb) W' (RetI (.bool (p x)) (I (c + sumL f (xs.take (j + 1))))) := fun W' hW' => by
        rw [sumL_step f xs j x hx, Nat.add_assoc, ← Nat.add_assoc c]
        exact (h3 j x hx cs W' _ (by have := sumL_step f xs j x hx; have := sumL_take f xs (j + 1); omega) (h2.easy _ _ _ HI.out hW') (hk.k hr2 (fun _ h => h) (fun b' hb' => hW'.block b' (h2.ok _ wr HI.out b' hb').1))).mono fun _ _ k => ⟨k.1, k.2.1⟩
      have hdone := sumL_take f xs (j + 1)
      have HX := Lib.hid hx
      have H5 := Lib.hid h5
      clear h1 h2 h3 hcell hbw hrep hr2 hc h6 hx h5
      cases hq : p x with
      | true =>
        rw [hq] at hcall
        go_wp2_with (first | (refine wpList_load_at rfl 47 _ rfl b (j * 9) rfl cs HC.out _ Tryz.underlying47 rfl HS.out ?_) | (refine wpList_store_row rfl _ _ _ rfl wr.heap.size cs.toArray rfl rfl _ _ (Blk.new wr _ _) (by simpa using HS.out) (by simp [H5.out]) H6.out ?_) | ((refine wpList_load_row rfl _ _ rfl wr.heap.size rfl 47 cs.toArray (0, 0) _ (blk_row (Blk.new wr _ _) _) Tryz.underlying47 rfl (by simpa using HS.out) ?_)))
        refine (hcall _ (below_row ((Below.refl _ _).alloc (Nat.le_refl _) _) (Nat.le_refl _) _)).mono ?_
        rintro e w2 ⟨rfl, hi⟩
        go_wp2_with fail
        go_roundg (gk - 1)
        case measure => omega
        case rel => exact ⟨j + 1, by omega, by go_num, Lib.hid hi, Lib.hid (ev_step HQ.out HX.out hq)⟩
      | false =>
        rw [hq] at hcall
        rw [all_upto p xs j x HX.out hq]
        go_wp2_with (first | (refine wpList_load_at rfl 47 _ rfl b (j * 9) rfl cs HC.out _ Tryz.underlying47 rfl HS.out ?_) | (refine wpList_store_row rfl _ _ _ rfl wr.heap.size cs.toArray rfl rfl _ _ (Blk.new wr _ _) (by simpa using HS.out) (by simp [H5.out]) H6.out ?_) | ((refine wpList_load_row rfl _ _ rfl wr.heap.size rfl 47 cs.toArray (0, 0) _ (blk_row (Blk.new wr _ _) _) Tryz.underlying47 rfl (by simpa using HS.out) ?_)))
        refine (hcall _ (below_row ((Below.refl _ _).alloc (Nat.le_refl _) _) (Nat.le_refl _) _)).mono ?_
        rintro e w2 ⟨rfl, hi⟩
        go_wp2_with fail
        go_ret
        exact retI rfl ((H.out.2.1).mono _ _ _ hi (by omega))
    · obtain rfl : j = len := by omega
      have hall := all_done p xs (fun m x hm => HQ.out m x (by rw [← HL.out]; exact (List.getElem?_eq_some_iff.1 hm).1) hm)
      have hin : I (c + sumL f xs) wr := by
        have := HI.out
        rwa [List.take_of_length_le (by rw [HL.out]; exact Nat.le_refl _)] at this
      have HN := Lib.hid (And.intro hall hin)
      clear hall hin
      go_wp2_with fail
      go_ret
      exact retI (by rw [HN.out.1]; rfl) HN.out.2
theorem every_F {α : Type} {Rep : World → (Nat → Prop) → α → List Value → Prop} (hk : Keeps Rep) (hone : Ones Rep 9)
    (xs : List α) (v : Value) (w0 : World) (ok : Nat → Prop) (hl : RepL Rep 9 w0 ok xs v) (hfew : xs.length ≤ 1000000000) (p : α → Bool) (m : Option Nat) (g : Nat) (pre lb : Array Value)
    (eg : ∀ args w, (callFunc g args).run Tryz.prog w = .ok (.enter g args) w) (I : Nat → World → Prop) (hI : Inv I ok m w0) (f : α → Nat)
    (hp : ∀ (i : Nat) (x : α), xs[i]? = some x → Tst Tryz.prog Rep ok I m g pre lb p f x) (c : Nat) (hbud : c + sumL f xs ≤ 1000000000000) (w : World) (hw : I c w) :
    Calls Tryz.prog 89 #[v, .func (.func g) pre lb] w (RetK (.bool (xs.all p)) m w (I (c + sumL f xs))) :=
  every0_F hk hone xs v w0 ok hl hfew p m g pre lb eg _ (hI.and w) f (fun i x hx => (hp i x hx).and w) c hbud w ⟨hw, grown_id _ _⟩
theorem index_F {α : Type} {Rep : World → (Nat → Prop) → α → List Value → Prop} (hk : Keeps Rep) (hone : Ones Rep 9)
    (xs : List α) (v : Value) (w0 : World) (ok : Nat → Prop) (hl : RepL Rep 9 w0 ok xs v) (hfew : xs.length ≤ 1000000000) (p : α → Bool) (m : Option Nat) (g : Nat) (pre lb : Array Value)
    (eg : ∀ args w, (callFunc g args).run Tryz.prog w = .ok (.enter g args) w) (I : Nat → World → Prop) (hI : Inv I ok m w0) (f : α → Nat)
    (hp : ∀ (i : Nat) (x : α), xs[i]? = some x → Tst Tryz.prog Rep ok I m g pre lb p f x) (c : Nat) (hbud : c + sumL f xs ≤ 1000000000000) (w : World) (hw : I c w) :
    Calls Tryz.prog 141 #[v, .func (.func g) pre lb] w (IdxP (xs.any p) (I (c + sumL f xs))) := by
  obtain ⟨A, cp, rfl, hat⟩ := hl.at
  obtain ⟨len, hlen⟩ : ∃ len, xs.length = len := ⟨_, rfl⟩
  have HL := Lib.hid hlen
  have H := Lib.hid (And.intro hat (And.intro hI hp))
  rw [hlen] at hfew ⊢
  clear hlen hat hI hp hl
  have HW := Lib.hid hw
  clear hw
  go_enter Tryz.func141, Tryz.ntmps141
  go_wp2_with fail
  go_loopg [8] len (fun k i wr => EvR I f c (fun x => p x = false) xs len k i wr)
  case atStart => exact evR (Nat.zero_add _) HW.out (fun m x h => absurd h (Nat.not_lt_zero _))
  case round =>
    obtain ⟨j, hj, rfl, HI, HQ⟩ := hrel
    by_cases hlt : j < len
    · obtain ⟨x, hx⟩ : ∃ x, xs[j]? = some x := ⟨_, List.getElem?_eq_getElem (by rw [HL.out]; exact hlt)⟩
      obtain ⟨h1, h2, h3⟩ := H.out
      obtain ⟨b, cs, rfl, hb, hrep, hcell⟩ := h1 j x hx
      have hbw := h2.ok _ wr HI.out b hb
      have hc : ∀ i u, cs[i]? = some u → wr.cell? ⟨b, j * 9 + i, none⟩ = some u := fun i u hu => (World.cell?_of_block hbw.2).trans (hcell i u hu)
      have hr2 := hk.k (w' := wr) (ok' := ok) hrep (fun _ h => h) (fun b' hb' => (h2.ok _ wr HI.out b' hb').2)
      obtain ⟨h5, h6⟩ := hone _ _ _ _ hrep
      have e1 : (j : Int) < (len : Int) := by omega
      have HC := Lib.hid hc
      have HS : Hid ((Tryz.prog.info? 47).map (·.size) = some cs.length) := by rw [h5]; exact sizeF
      have hcall : ∀ W', Below wr.heap.size wr W' → Calls Tryz.prog g (pre.push (.agg cs.toArray) ++ lb) W' (RetI (.bool (p x)) (I (c + sumL f (xs.take (j + 1))))) := fun W' hW' => by
        rw [sumL_step f xs j x hx, Nat.add_assoc, ← Nat.add_assoc c]
        exact (h3 j x hx cs W' _ (by have := sumL_step f xs j x hx; have := sumL_take f xs (j + 1); omega) (h2.easy _ _ _ HI.out hW') (hk.k hr2 (fun _ h => h) (fun b' hb' => hW'.block b' (h2.ok _ wr HI.out b' hb').1))).mono fun _ _ k => ⟨k.1, k.2.1⟩
      have hdone := sumL_take f xs (j + 1)
      have HX := Lib.hid hx
      clear h1 h2 h3 hcell hbw hrep hr2 hc h6 hx h5
      cases hq : p x with
      | false =>
        rw [hq] at hcall
        go_wp2_with (refine wpList_load_at rfl 47 _ rfl b (j * 9) rfl cs HC.out _ Tryz.underlying47 rfl HS.out ?_)
        refine (hcall _ (Below.refl _ _)).mono ?_
        rintro e w2 ⟨rfl, hi⟩
        go_wp2_with fail
        go_roundg (gk - 1)
        case measure => omega
        case rel => exact ⟨j + 1, by omega, by go_num, Lib.hid hi, Lib.hid (ev_step HQ.out HX.out hq)⟩
      | true =>
        rw [hq] at hcall
        have hany := any_upto p xs j x HX.out hq
        have HA := Lib.hid hany
        clear hany
        go_wp2_with (refine wpList_load_at rfl 47 _ rfl b (j * 9) rfl cs HC.out _ Tryz.underlying47 rfl HS.out ?_)
        refine (hcall _ (Below.refl _ _)).mono ?_
        rintro e w2 ⟨rfl, hi⟩
        go_wp2_with fail
        go_ret
        exact ⟨(j : Int), rfl, by rw [HA.out]; exact decide_eq_true (by omega), (H.out.2.1).mono _ _ _ hi (by omega)⟩
    · obtain rfl : j = len := by omega
      have hall := any_done p xs (fun m x hm => HQ.out m x (by rw [← HL.out]; exact (List.getElem?_eq_some_iff.1 hm).1) hm)
      have hin : I (c + sumL f xs) wr := by
        have := HI.out
        rwa [List.take_of_length_le (by rw [HL.out]; exact Nat.le_refl _)] at this
      have HN := Lib.hid (And.intro hall hin)
      clear hall hin
      go_wp2_with fail
      go_ret
      exact ⟨-1, rfl, by rw [HN.out.1]; rfl, HN.out.2⟩
theorem contains0_F {α : Type} {Rep : World → (Nat → Prop) → α → List Value → Prop} (hk : Keeps Rep) (hone : Ones Rep 9)
    (xs : List α) (v : Value) (w0 : World) (ok : Nat → Prop) (hl : RepL Rep 9 w0 ok xs v) (hfew : xs.length ≤ 1000000000) (p : α → Bool) (m : Option Nat) (g : Nat) (pre lb : Array Value)
    (eg : ∀ args w, (callFunc g args).run Tryz.prog w = .ok (.enter g args) w) (I : Nat → World → Prop) (hI : Inv I ok m w0) (f : α → Nat)
    (hp : ∀ (i : Nat) (x : α), xs[i]? = some x → Tst Tryz.prog Rep ok I m g pre lb p f x) (c : Nat) (hbud : c + sumL f xs ≤ 1000000000000) (w : World) (hw : I c w) :
    Calls Tryz.prog 84 #[v, .func (.func g) pre lb] w (RetI (.bool (xs.any p)) (I (c + sumL f xs))) := by
  have HC := Lib.hid (index_F hk hone xs v w0 ok hl hfew p m g pre lb eg I hI f hp c hbud w hw)
  clear hl hI hp hw
  cases ha : xs.any p
  all_goals
    rw [ha] at HC
    go_enter Tryz.func84, Tryz.ntmps84
    go_wp2_with fail
    refine HC.out.mono ?_
    rintro e w2 ⟨n, rfl, hn, hi⟩
    have HI := Lib.hid hi
    clear hi
    first
      | (go_wp2_with fail
         go_ret
         exact retI rfl HI.out)
      | (have hn' : 0 ≤ n := of_decide_eq_true hn
         clear hn
         go_wp2_with fail
         go_ret
         exact retI rfl HI.out)
theorem contains_F {α : Type} {Rep : World → (Nat → Prop) → α → List Value → Prop} (hk : Keeps Rep) (hone : Ones Rep 9)
    (xs : List α) (v : Value) (w0 : World) (ok : Nat → Prop) (hl : RepL Rep 9 w0 ok xs v) (hfew : xs.length ≤ 1000000000) (p : α → Bool) (m : Option Nat) (g : Nat) (pre lb : Array Value)
    (eg : ∀ args w, (callFunc g args).run Tryz.prog w = .ok (.enter g args) w) (I : Nat → World → Prop) (hI : Inv I ok m w0) (f : α → Nat)
    (hp : ∀ (i : Nat) (x : α), xs[i]? = some x → Tst Tryz.prog Rep ok I m g pre lb p f x) (c : Nat) (hbud : c + sumL f xs ≤ 1000000000000) (w : World) (hw : I c w) :
    Calls Tryz.prog 84 #[v, .func (.func g) pre lb] w (RetK (.bool (xs.any p)) m w (I (c + sumL f xs))) :=
  contains0_F hk hone xs v w0 ok hl hfew p m g pre lb eg _ (hI.and w) f (fun i x hx => (hp i x hx).and w) c hbud w ⟨hw, grown_id _ _⟩
theorem sizeA : (Tryz.prog.info? 61).map (·.size) = some 2 := by kernel_rfl
theorem every0_A {α : Type} {Rep : World → (Nat → Prop) → α → List Value → Prop} (hk : Keeps Rep) (hone : Ones Rep 2)
    (xs : List α) (v : Value) (w0 : World) (ok : Nat → Prop) (hl : RepL Rep 2 w0 ok xs v) (hfew : xs.length ≤ 1000000000) (p : α → Bool) (m : Option Nat) (g : Nat) (pre lb : Array Value)
    (eg : ∀ args w, (callFunc g args).run Tryz.prog w = .ok (.enter g args) w) (I : Nat → World → Prop) (hI : Inv I ok m w0) (f : α → Nat)
    (hp : ∀ (i : Nat) (x : α), xs[i]? = some x → Tst Tryz.prog Rep ok I m g pre lb p f x) (c : Nat) (hbud : c + sumL f xs ≤ 1000000000000) (w : World) (hw : I c w) :
    Calls Tryz.prog 86 #[v, .func (.func g) pre lb] w (RetI (.bool (xs.all p)) (I (c + sumL f xs))) := by
  obtain ⟨A, cp, rfl, hat⟩ := hl.at
  obtain ⟨len, hlen⟩ : ∃ len, xs.length = len := ⟨_, rfl⟩
  have HL := Lib.hid hlen
  have H := Lib.hid (And.intro hat (And.intro hI hp))
  rw [hlen] at hfew ⊢
  clear hlen hat hI hp hl
  have HW := Lib.hid hw
  clear hw
  go_enter Tryz.func86, Tryz.ntmps86
  go_wp2_with fail
  go_loopg [9] len (fun k i wr => EvR I f c (fun x => p x = true) xs len k i wr)
  case atStart => exact evR (Nat.zero_add _) HW.out (fun m x h => absurd h (Nat.not_lt_zero _))
  case round =>
    obtain ⟨j, hj, rfl, HI, HQ⟩ := hrel
    by_cases hlt : j < len
    · obtain ⟨x, hx⟩ : ∃ x, xs[j]? = some x := ⟨_, List.getElem?_eq_getElem (by rw [HL.out]; exact hlt)⟩
      obtain ⟨h1, h2, h3⟩ := H.out
      obtain ⟨b, cs, rfl, hb, hrep, hcell⟩ := h1 j x hx
      have hbw := h2.ok _ wr HI.out b hb
      have hc : ∀ i u, cs[i]? = some u → wr.cell? ⟨b, j * 2 + i, none⟩ = some u := fun i u hu => (World.cell?_of_block hbw.2).trans (hcell i u hu)
      have hr2 := hk.k (w' := wr) (ok' := ok) hrep (fun _ h => h) (fun b' hb' => (h2.ok _ wr HI.out b' hb').2)
      obtain ⟨h5, h6⟩ := hone _ _ _ _ hrep
      have hlb : b < wr.heap.size := hbw.1
      have e1 : (j : Int) < (len : Int) := by omega
      have HC := Lib.hid hc
      have H6 := Lib.hid h6
      have HS : Hid ((Tryz.prog.info? 61).map (·.size) = some cs.length) := by rw [h5]; exact sizeA
      have hcall : ∀ W', Below wr.heap.size wr W' → Calls Tryz.prog g (pre.push (.agg cs.toArray) ++ lb) W' (RetI (.bool (p x)) (I (c + sumL f (xs.take (j + 1))))) := fun W' hW' => by
        rw [sumL_step f xs j x hx, Nat.add_assoc, ← Nat.add_assoc c]
        exact (h3 j x hx cs W' _ (by have := sumL_step f xs j x hx; have := sumL_take f xs (j + 1); omega) (h2.easy _ _ _ HI.out hW') (hk.k hr2 (fun _ h => h) (fun b' hb' => hW'.block b' (h2.ok _ wr HI.out b' hb').1))).mono fun _ _ k => ⟨k.1, k.2.1⟩
      have hdone := sumL_take f xs (j + 1)
      have HX := Lib.hid hx
      have H5 := Lib.hid h5
      clear h1 h2 h3 hcell hbw hrep hr2 hc h6 hx h5
      cases hq : p x with
      | true =>
        rw [hq] at hcall
        go_wp2_with (first | (refine wpList_load_at rfl 61 _ rfl b (j * 2) rfl cs HC.out _ Tryz.underlying61 rfl HS.out ?_) | (refine wpList_store_row rfl _ _ _ rfl wr.heap.size cs.toArray rfl rfl _ _ (Blk.new wr _ _) (by simpa using HS.out) (by simp [H5.out]) H6.out ?_) | ((refine wpList_load_row rfl _ _ rfl wr.heap.size rfl 61 cs.toArray (0, 0) _ (blk_row (Blk.new wr _ _) _) Tryz.underlying61 rfl (by simpa using HS.out) ?_)))
        refine (hcall _ (below_row ((Below.refl _ _).alloc (Nat.le_refl _) _) (Nat.le_refl _) _)).mono ?_
        rintro e w2 ⟨rfl, hi⟩
        go_wp2_with fail
        go_roundg (gk - 1)
        case measure => omega
        case rel => exact ⟨j + 1, by omega, by go_num, Lib.hid hi, Lib.hid (ev_step HQ.out HX.out hq)⟩
      | false =>
        rw [hq] at hcall
        rw [all_upto p xs j x HX.out hq]
        go_wp2_with (first | (refine wpList_load_at rfl 61 _ rfl b (j * 2) rfl cs HC.out _ Tryz.underlying61 rfl HS.out ?_) | (refine wpList_store_row rfl _ _ _ rfl wr.heap.size cs.toArray rfl rfl _ _ (Blk.new wr _ _) (by simpa using HS.out) (by simp [H5.out]) H6.out ?_) | ((refine wpList_load_row rfl _ _ rfl wr.heap.size rfl 61 cs.toArray (0, 0) _ (blk_row (Blk.new wr _ _) _) Tryz.underlying61 rfl (by simpa using HS.out) ?_)))
        refine (hcall _ (below_row ((Below.refl _ _).alloc (Nat.le_refl _) _) (Nat.le_refl _) _)).mono ?_
        rintro e w2 ⟨rfl, hi⟩
        go_wp2_with fail
        go_ret
        exact retI rfl ((H.out.2.1).mono _ _ _ hi (by omega))
    · obtain rfl : j = len := by omega
      have hall := all_done p xs (fun m x hm => HQ.out m x (by rw [← HL.out]; exact (List.getElem?_eq_some_iff.1 hm).1) hm)
      have hin : I (c + sumL f xs) wr := by
        have := HI.out
        rwa [List.take_of_length_le (by rw [HL.out]; exact Nat.le_refl _)] at this
      have HN := Lib.hid (And.intro hall hin)
      clear hall hin
      go_wp2_with fail
      go_ret
      exact retI (by rw [HN.out.1]; rfl) HN.out.2
theorem every_A {α : Type} {Rep : World → (Nat → Prop) → α → List Value → Prop} (hk : Keeps Rep) (hone : Ones Rep 2)
    (xs : List α) (v : Value) (w0 : World) (ok : Nat → Prop) (hl : RepL Rep 2 w0 ok xs v) (hfew : xs.length ≤ 1000000000) (p : α → Bool) (m : Option Nat) (g : Nat) (pre lb : Array Value)
    (eg : ∀ args w, (callFunc g args).run Tryz.prog w = .ok (.enter g args) w) (I : Nat → World → Prop) (hI : Inv I ok m w0) (f : α → Nat)
    (hp : ∀ (i : Nat) (x : α), xs[i]? = some x → Tst Tryz.prog Rep ok I m g pre lb p f x) (c : Nat) (hbud : c + sumL f xs ≤ 1000000000000) (w : World) (hw : I c w) :
    Calls Tryz.prog 86 #[v, .func (.func g) pre lb] w (RetK (.bool (xs.all p)) m w (I (c + sumL f xs))) :=
  every0_A hk hone xs v w0 ok hl hfew p m g pre lb eg _ (hI.and w) f (fun i x hx => (hp i x hx).and w) c hbud w ⟨hw, grown_id _ _⟩
theorem index_A {α : Type} {Rep : World → (Nat → Prop) → α → List Value → Prop} (hk : Keeps Rep) (hone : Ones Rep 2)
    (xs : List α) (v : Value) (w0 : World) (ok : Nat → Prop) (hl : RepL Rep 2 w0 ok xs v) (hfew : xs.length ≤ 1000000000) (p : α → Bool) (m : Option Nat) (g : Nat) (pre lb : Array Value)
    (eg : ∀ args w, (callFunc g args).run Tryz.prog w = .ok (.enter g args) w) (I : Nat → World → Prop) (hI : Inv I ok m w0) (f : α → Nat)
    (hp : ∀ (i : Nat) (x : α), xs[i]? = some x → Tst Tryz.prog Rep ok I m g pre lb p f x) (c : Nat) (hbud : c + sumL f xs ≤ 1000000000000) (w : World) (hw : I c w) :
    Calls Tryz.prog 140 #[v, .func (.func g) pre lb] w (IdxP (xs.any p) (I (c + sumL f xs))) := by
  obtain ⟨A, cp, rfl, hat⟩ := hl.at
  obtain ⟨len, hlen⟩ : ∃ len, xs.length = len := ⟨_, rfl⟩
  have HL := Lib.hid hlen
  have H := Lib.hid (And.intro hat (And.intro hI hp))
  rw [hlen] at hfew ⊢
  clear hlen hat hI hp hl
  have HW := Lib.hid hw
  clear hw
  go_enter Tryz.func140, Tryz.ntmps140
  go_wp2_with fail
  go_loopg [8] len (fun k i wr => EvR I f c (fun x => p x = false) xs len k i wr)
  case atStart => exact evR (Nat.zero_add _) HW.out (fun m x h => absurd h (Nat.not_lt_zero _))
  case round =>
    obtain ⟨j, hj, rfl, HI, HQ⟩ := hrel
    by_cases hlt : j < len
    · obtain ⟨x, hx⟩ : ∃ x, xs[j]? = some x := ⟨_, List.getElem?_eq_getElem (by rw [HL.out]; exact hlt)⟩
      obtain ⟨h1, h2, h3⟩ := H.out
      obtain ⟨b, cs, rfl, hb, hrep, hcell⟩ := h1 j x hx
      have hbw := h2.ok _ wr HI.out b hb
      have hc : ∀ i u, cs[i]? = some u → wr.cell? ⟨b, j * 2 + i, none⟩ = some u := fun i u hu => (World.cell?_of_block hbw.2).trans (hcell i u hu)
      have hr2 := hk.k (w' := wr) (ok' := ok) hrep (fun _ h => h) (fun b' hb' => (h2.ok _ wr HI.out b' hb').2)
      obtain ⟨h5, h6⟩ := hone _ _ _ _ hrep
      have e1 : (j : Int) < (len : Int) := by omega
      have HC := Lib.hid hc
      have HS : Hid ((Tryz.prog.info? 61).map (·.size) = some cs.length) := by rw [h5]; exact sizeA
      have hcall : ∀ W', Below wr.heap.size wr W' → Calls Tryz.prog g (pre.push (.agg cs.toArray) ++ lb) W' (RetI (.bool (p x)) (I (c + sumL f (xs.take (j + 1))))) := fun W' hW' => by
        rw [sumL_step f xs j x hx, Nat.add_assoc, ← Nat.add_assoc c]
        exact (h3 j x hx cs W' _ (by have := sumL_step f xs j x hx; have := sumL_take f xs (j + 1); omega) (h2.easy _ _ _ HI.out hW') (hk.k hr2 (fun _ h => h) (fun b' hb' => hW'.block b' (h2.ok _ wr HI.out b' hb').1))).mono fun _ _ k => ⟨k.1, k.2.1⟩
      have hdone := sumL_take f xs (j + 1)
      have HX := Lib.hid hx
      clear h1 h2 h3 hcell hbw hrep hr2 hc h6 hx h5
      cases hq : p x with
      | false =>
        rw [hq] at hcall
        go_wp2_with (refine wpList_load_at rfl 61 _ rfl b (j * 2) rfl cs HC.out _ Tryz.underlying61 rfl HS.out ?_)
        refine (hcall _ (Below.refl _ _)).mono ?_
        rintro e w2 ⟨rfl, hi⟩
        go_wp2_with fail
        go_roundg (gk - 1)
        case measure => omega
        case rel => exact ⟨j + 1, by omega, by go_num, Lib.hid hi, Lib.hid (ev_step HQ.out HX.out hq)⟩
      | true =>
        rw [hq] at hcall
        have hany := any_upto p xs j x HX.out hq
        have HA := Lib.hid hany
        clear hany
        go_wp2_with (refine wpList_load_at rfl 61 _ rfl b (j * 2) rfl cs HC.out _ Tryz.underlying61 rfl HS.out ?_)
        refine (hcall _ (Below.refl _ _)).mono ?_
        rintro e w2 ⟨rfl, hi⟩
        go_wp2_with fail
        go_ret
        exact ⟨(j : Int), rfl, by rw [HA.out]; exact decide_eq_true (by omega), (H.out.2.1).mono _ _ _ hi (by omega)⟩
    · obtain rfl : j = len := by omega
      have hall := any_done p xs (fun m x hm => HQ.out m x (by rw [← HL.out]; exact (List.getElem?_eq_some_iff.1 hm).1) hm)
      have hin : I (c + sumL f xs) wr := by
        have := HI.out
        rwa [List.take_of_length_le (by rw [HL.out]; exact Nat.le_refl _)] at this
      have HN := Lib.hid (And.intro hall hin)
      clear hall hin
      go_wp2_with fail
      go_ret
      exact ⟨-1, rfl, by rw [HN.out.1]; rfl, HN.out.2⟩
theorem contains0_A {α : Type} {Rep : World → (Nat → Prop) → α → List Value → Prop} (hk : Keeps Rep) (hone : Ones Rep 2)
    (xs : List α) (v : Value) (w0 : World) (ok : Nat → Prop) (hl : RepL Rep 2 w0 ok xs v) (hfew : xs.length ≤ 1000000000) (p : α → Bool) (m : Option Nat) (g : Nat) (pre lb : Array Value)
    (eg : ∀ args w, (callFunc g args).run Tryz.prog w = .ok (.enter g args) w) (I : Nat → World → Prop) (hI : Inv I ok m w0) (f : α → Nat)
    (hp : ∀ (i : Nat) (x : α), xs[i]? = some x → Tst Tryz.prog Rep ok I m g pre lb p f x) (c : Nat) (hbud : c + sumL f xs ≤ 1000000000000) (w : World) (hw : I c w) :
    Calls Tryz.prog 82 #[v, .func (.func g) pre lb] w (RetI (.bool (xs.any p)) (I (c + sumL f xs))) := by
  have HC := Lib.hid (index_A hk hone xs v w0 ok hl hfew p m g pre lb eg I hI f hp c hbud w hw)
  clear hl hI hp hw
  cases ha : xs.any p
  all_goals
    rw [ha] at HC
    go_enter Tryz.func82, Tryz.ntmps82
    go_wp2_with fail
    refine HC.out.mono ?_
    rintro e w2 ⟨n, rfl, hn, hi⟩
    have HI := Lib.hid hi
    clear hi
    first
      | (go_wp2_with fail
         go_ret
         exact retI rfl HI.out)
      | (have hn' : 0 ≤ n := of_decide_eq_true hn
         clear hn
         go_wp2_with fail
         go_ret
         exact retI rfl HI.out)
theorem contains_A {α : Type} {Rep : World → (Nat → Prop) → α → List Value → Prop} (hk : Keeps Rep) (hone : Ones Rep 2)
    (xs : List α) (v : Value) (w0 : World) (ok : Nat → Prop) (hl : RepL Rep 2 w0 ok xs v) (hfew : xs.length ≤ 1000000000) (p : α → Bool) (m : Option Nat) (g : Nat) (pre lb : Array Value)
    (eg : ∀ args w, (callFunc g args).run Tryz.prog w = .ok (.enter g args) w) (I : Nat → World → Prop) (hI : Inv I ok m w0) (f : α → Nat)
    (hp : ∀ (i : Nat) (x : α), xs[i]? = some x → Tst Tryz.prog Rep ok I m g pre lb p f x) (c : Nat) (hbud : c + sumL f xs ≤ 1000000000000) (w : World) (hw : I c w) :
    Calls Tryz.prog 82 #[v, .func (.func g) pre lb] w (RetK (.bool (xs.any p)) m w (I (c + sumL f xs))) :=
  contains0_A hk hone xs v w0 ok hl hfew p m g pre lb eg _ (hI.and w) f (fun i x hx => (hp i x hx).and w) c hbud w ⟨hw, grown_id _ _⟩
end Go.Proofs.YtgiggkfnpbgkpaaGreatDoor
/- Stage 4: the walks of every and of slices.ContainsFunc: whatever the test, if it keeps an invariant. -/
namespace Go.Proofs.YtgiggkfnpbgkpaaGreatDoor
open Go.RowKit (wrap64 intOf)
open Go Go.RowKit WM LX PX CX

set_option maxRecDepth 100000
set_option maxHeartbeats 4000000
theorem every0_N (xs : List (List UInt8)) (v : Value) (w0 : World) (ok : Nat → Prop) (hl : RepL RepN 1 w0 ok xs v) (hfew : xs.length ≤ 1000000000) (p : List UInt8 → Bool) (m : Option Nat) (g : Nat) (pre lb : Array Value)
    (eg : ∀ args w, (callFunc g args).run Tryz.prog w = .ok (.enter g args) w) (I : Nat → World → Prop) (hI : Inv I ok m w0)
    (hp : ∀ (i : Nat) (x : List UInt8), xs[i]? = some x → TstN Tryz.prog I m g pre lb p x) (c : Nat) (hbud : c + sumL List.length xs ≤ 1000000000000) (w : World) (hw : I c w) :
    Calls Tryz.prog 145 #[v, .func (.func g) pre lb] w (RetI (.bool (xs.all p)) (I (c + sumL List.length xs))) := by
  obtain ⟨A, cp, rfl, hat⟩ := hl.at
  obtain ⟨len, hlen⟩ : ∃ len, xs.length = len := ⟨_, rfl⟩
  have HL := Lib.hid hlen
  have H := Lib.hid (And.intro hat (And.intro hI hp))
  rw [hlen] at hfew ⊢
  clear hlen hat hI hp hl
  have HW := Lib.hid hw
  clear hw
  go_enter Tryz.func145, Tryz.ntmps145
  go_wp2_with fail
  go_loopg [9] len (fun k i wr => EvR I List.length c (fun x => p x = true) xs len k i wr)
  case atStart => exact evR (Nat.zero_add _) HW.out (fun m x h => absurd h (Nat.not_lt_zero _))
  case round =>
    obtain ⟨j, hj, rfl, HI, HQ⟩ := hrel
    by_cases hlt : j < len
    · obtain ⟨x, hx⟩ : ∃ x, xs[j]? = some x := ⟨_, List.getElem?_eq_getElem (by rw [HL.out]; exact hlt)⟩
      obtain ⟨h1, h2, h3⟩ := H.out
      obtain ⟨b, cs, rfl, hb, hrep, hcell⟩ := h1 j x hx
      have hbw := h2.ok _ wr HI.out b hb
      have hc : wr.cell? ⟨b, j, none⟩ = some (.string ⟨x.toArray⟩) := by
        have := (World.cell?_of_block hbw.2).trans (hcell 0 (.string ⟨x.toArray⟩) (by rw [show cs = [.string ⟨x.toArray⟩] from hrep]; rfl))
        rwa [Nat.mul_one, Nat.add_zero] at this
      have hlb : b < wr.heap.size := hbw.1
      have hne : b ≠ wr.heap.size := Nat.ne_of_lt hlb
      have e1 : (j : Int) < (len : Int) := by omega
      have hcall : ∀ W', Below wr.heap.size wr W' → Calls Tryz.prog g (pre.push (.string ⟨x.toArray⟩) ++ lb) W' (RetI (.bool (p x)) (I (c + sumL List.length (xs.take (j + 1))))) := fun W' hW' => by
        rw [sumL_step List.length xs j x hx, Nat.add_assoc, ← Nat.add_assoc c]
        exact (h3 j x hx W' _ (by have := sumL_step List.length xs j x hx; have := sumL_take List.length xs (j + 1); omega) (h2.easy _ _ _ HI.out hW')).mono fun _ _ k => ⟨k.1, k.2.1⟩
      have hdone := sumL_take List.length xs (j + 1)
      have HX := Lib.hid hx
      clear h1 h2 h3 hcell hbw hrep hx
      cases hq : p x with
      | true =>
        rw [hq] at hcall
        go_wp2_with fail
        refine (hcall _ (Below.refl _ _)).mono ?_
        rintro e w2 ⟨rfl, hi⟩
        go_wp2_with fail
        go_roundg (gk - 1)
        case measure => omega
        case rel => exact ⟨j + 1, by omega, by go_num, Lib.hid hi, Lib.hid (ev_step HQ.out HX.out hq)⟩
      | false =>
        rw [hq] at hcall
        have hall := all_upto p xs j x HX.out hq
        have HA := Lib.hid hall
        clear hall
        go_wp2_with fail
        refine (hcall _ (Below.refl _ _)).mono ?_
        rintro e w2 ⟨rfl, hi⟩
        go_wp2_with fail
        go_ret
        exact retI (by rw [HA.out]; rfl) ((H.out.2.1).mono _ _ _ hi (by omega))
    · obtain rfl : j = len := by omega
      have hall := all_done p xs (fun m x hm => HQ.out m x (by rw [← HL.out]; exact (List.getElem?_eq_some_iff.1 hm).1) hm)
      have hin : I (c + sumL List.length xs) wr := by
        have := HI.out
        rwa [List.take_of_length_le (by rw [HL.out]; exact Nat.le_refl _)] at this
      have HN := Lib.hid (And.intro hall hin)
      clear hall hin
      go_wp2_with fail
      go_ret
      exact retI (by rw [HN.out.1]; rfl) HN.out.2
theorem every_N (xs : List (List UInt8)) (v : Value) (w0 : World) (ok : Nat → Prop) (hl : RepL RepN 1 w0 ok xs v) (hfew : xs.length ≤ 1000000000) (p : List UInt8 → Bool) (m : Option Nat) (g : Nat) (pre lb : Array Value)
    (eg : ∀ args w, (callFunc g args).run Tryz.prog w = .ok (.enter g args) w) (I : Nat → World → Prop) (hI : Inv I ok m w0)
    (hp : ∀ (i : Nat) (x : List UInt8), xs[i]? = some x → TstN Tryz.prog I m g pre lb p x) (c : Nat) (hbud : c + sumL List.length xs ≤ 1000000000000) (w : World) (hw : I c w) :
    Calls Tryz.prog 145 #[v, .func (.func g) pre lb] w (RetK (.bool (xs.all p)) m w (I (c + sumL List.length xs))) :=
  every0_N xs v w0 ok hl hfew p m g pre lb eg _ (hI.and w) (fun i x hx => (hp i x hx).and w) c hbud w ⟨hw, grown_id _ _⟩
end Go.Proofs.YtgiggkfnpbgkpaaGreatDoor
