/- Stage 7: the order of nodes, as plain Lean. -/
import Derived.Test.YtpgnlfdindmopaaGreatDoorRa
import Derived.Test.YtpgnlfdindmopaaGreatDoorRb
import Derived.Deep.RegionWith
import Derived.StillTailTactics
namespace Go.Proofs.YtpgnlfdindmopaaGreatDoor
open Go Go.RowKit GX

set_option maxRecDepth 100000
namespace GX
def cmpI (x y : Int) : Int := if x < y then -1 else if y < x then 1 else 0
/-- Lists of ints in the order of the dictionary. -/
def cmpL : List Int → List Int → Int
  | [], [] => 0
  | [], _ :: _ => -1
  | _ :: _, [] => 1
  | x :: a, y :: b => if cmpI x y = 0 then cmpL a b else cmpI x y
def keyN (n : ND) : List Int := n.op :: n.imm :: n.kids
def cmpN (a b : ND) : Int := cmpL (keyN a) (keyN b)
theorem cmpI_zero (x y : Int) : cmpI x y = 0 ↔ x = y := by
  unfold cmpI
  split
  · omega
  · split <;> omega
theorem cmpI_swap (x y : Int) : cmpI y x = -cmpI x y := by
  unfold cmpI
  by_cases h : x < y
  · rw [if_neg (by omega), if_pos h, if_pos h]
    rfl
  · by_cases k : y < x
    · rw [if_pos k, if_neg h, if_pos k]
    · rw [if_neg k, if_neg h, if_neg h, if_neg k]
      rfl
theorem cmpI_neg (x y : Int) : cmpI x y < 0 ↔ x < y := by
  unfold cmpI
  split
  · omega
  · split <;> omega
theorem cmpL_cons (x y : Int) (a b : List Int) : cmpL (x :: a) (y :: b) = if cmpI x y = 0 then cmpL a b else cmpI x y := rfl
theorem cmpL_zero : ∀ (a b : List Int), cmpL a b = 0 ↔ a = b
  | [], [] => by simp [cmpL]
  | [], _ :: _ => by simp [cmpL]
  | _ :: _, [] => by simp [cmpL]
  | x :: a, y :: b => by
    rw [cmpL_cons]
    by_cases h : cmpI x y = 0
    · rw [if_pos h, cmpL_zero a b, (cmpI_zero x y).1 h]
      simp
    · rw [if_neg h]
      have hne : x ≠ y := fun e => h ((cmpI_zero x y).2 e)
      simp [h, hne]
theorem cmpL_swap : ∀ (a b : List Int), cmpL b a = -cmpL a b
  | [], [] => rfl
  | [], _ :: _ => rfl
  | _ :: _, [] => rfl
  | x :: a, y :: b => by
    rw [cmpL_cons, cmpL_cons, cmpI_swap x y, cmpL_swap a b]
    by_cases h : cmpI x y = 0
    · rw [if_pos h, if_pos (by omega)]
    · rw [if_neg h, if_neg (by omega)]
theorem cmpL_lt (x y : Int) (a b : List Int) : cmpL (x :: a) (y :: b) < 0 ↔ x < y ∨ x = y ∧ cmpL a b < 0 := by
  rw [cmpL_cons]
  by_cases h : cmpI x y = 0
  · rw [if_pos h]
    have := (cmpI_zero x y).1 h
    omega
  · rw [if_neg h, cmpI_neg]
    have hne : x ≠ y := fun e => h ((cmpI_zero x y).2 e)
    omega
theorem cmpL_trans : ∀ (a b c : List Int), cmpL a b < 0 → cmpL b c < 0 → cmpL a c < 0
  | [], [], _ => fun h => absurd h (by simp [cmpL])
  | [], _ :: _, [] => fun _ h => absurd h (by simp [cmpL])
  | [], _ :: _, _ :: _ => fun _ _ => by simp [cmpL]
  | _ :: _, [], _ => fun h => absurd h (by simp [cmpL])
  | _ :: _, _ :: _, [] => fun _ h => absurd h (by simp [cmpL])
  | x :: a, y :: b, z :: c => fun h k => by
    rw [cmpL_lt] at *
    rcases h with h | ⟨h, h2⟩ <;> rcases k with k | ⟨k, k2⟩
    · exact .inl (by omega)
    · exact .inl (by omega)
    · exact .inl (by omega)
    · exact .inr ⟨by omega, cmpL_trans a b c h2 k2⟩
theorem keyN_inj {a b : ND} (h : keyN a = keyN b) : a = b := by
  obtain ⟨o, i, k⟩ := a
  obtain ⟨o', i', k'⟩ := b
  simp only [keyN, List.cons.injEq] at h
  obtain ⟨rfl, rfl, rfl⟩ := h
  rfl
theorem cmpN_zero (a b : ND) : cmpN a b = 0 ↔ a = b := ⟨fun h => keyN_inj ((cmpL_zero _ _).1 h), fun h => (cmpL_zero _ _).2 (congrArg keyN h)⟩
theorem cmpN_swap (a b : ND) : cmpN b a = -cmpN a b := cmpL_swap _ _
theorem cmpN_trans (a b c : ND) : cmpN a b < 0 → cmpN b c < 0 → cmpN a c < 0 := cmpL_trans _ _ _
theorem cmpN_ntrans (a b c : ND) (h : ¬ cmpN a b < 0) (k : ¬ cmpN b c < 0) : ¬ cmpN a c < 0 := by
  have s1 := cmpN_swap a b
  have s2 := cmpN_swap b c
  have s3 := cmpN_swap a c
  by_cases h0 : cmpN a b = 0
  · rw [(cmpN_zero a b).1 h0]
    exact k
  · by_cases k0 : cmpN b c = 0
    · rw [← (cmpN_zero b c).1 k0]
      exact h
    · have := cmpN_trans c b a (by omega) (by omega)
      omega
/-- In a sorted list two equal nodes stand side by side, if any. -/
theorem dup_next : ∀ (l : List ND), l.Pairwise (fun a b => ¬ cmpN b a < 0) → (∀ (i : Nat) (a b : ND), l[i]? = some a → l[i + 1]? = some b → cmpN a b ≠ 0) → l.Nodup
  | [], _, _ => List.nodup_nil
  | [a], _, _ => by simp
  | a :: b :: r, hp, hn => by
    rw [List.pairwise_cons] at hp
    have ih := dup_next (b :: r) hp.2 (fun i x y hx hy => hn (i + 1) x y hx hy)
    rw [List.nodup_cons]
    refine ⟨fun hm => ?_, ih⟩
    have hab := hn 0 a b rfl rfl
    rcases List.mem_cons.1 hm with e | hm'
    · exact hab ((cmpN_zero a b).2 e)
    · have h1 := hp.1 b (by simp)
      have h2 := (List.pairwise_cons.1 hp.2).1 a hm'
      have s := cmpN_swap a b
      omega
end GX
end Go.Proofs.YtpgnlfdindmopaaGreatDoor
namespace Go.Proofs.YtpgnlfdindmopaaGreatDoor
open Go.RowKit (wrap64 intOf)
open Go Go.RowKit WM LX PX CX GX

set_option maxRecDepth 100000
set_option maxHeartbeats 4000000
/-- A call that leaves the world as it was. -/
def RetE (v : Value) (w : World) (e : Ending) (w' : World) : Prop := e = .returned v ∧ w' = w
theorem nan64 (x : Int) (w : World) : Calls Tryz.prog 188 #[.int .i64 x] w (RetE (.bool false) w) := by
  have hb : (x != x) = false := by simp
  go_enter Tryz.func188, Tryz.ntmps188
  go_wp2_with fail
  go_ret
  exact ⟨rfl, rfl⟩
theorem cmp64 (x y : Int) (w : World) : Calls Tryz.prog 143 #[.int .i64 x, .int .i64 y] w (RetE (.int .i64 (cmpI x y)) w) := by
  obtain ⟨c, hc⟩ : ∃ c, cmpI x y = c := ⟨_, rfl⟩
  rw [hc]
  have HC := Lib.hid hc
  clear hc
  by_cases h : x < y
  · have hr : (-1 : Int) = c := by rw [← HC.out]; unfold cmpI; rw [if_pos h]
    have HR := Lib.hid hr
    clear hr
    go_enter Tryz.func143, Tryz.ntmps143
    go_wp2_with fail
    (with_reducible refine (nan64 x w).mono ?_)
    rintro e w' ⟨rfl, rfl⟩
    go_wp2_with fail
    (with_reducible refine (nan64 y w').mono ?_)
    rintro e w'' ⟨rfl, rfl⟩
    go_wp2_with fail
    go_ret
    exact ⟨by rw [← HR.out]; rfl, rfl⟩
  by_cases k : y < x
  · have hr : (1 : Int) = c := by rw [← HC.out]; unfold cmpI; rw [if_neg h, if_pos k]
    have HR := Lib.hid hr
    have h' : y ≤ x := by omega
    clear hr h
    go_enter Tryz.func143, Tryz.ntmps143
    go_wp2_with fail
    (with_reducible refine (nan64 x w).mono ?_)
    rintro e w' ⟨rfl, rfl⟩
    go_wp2_with fail
    (with_reducible refine (nan64 y w').mono ?_)
    rintro e w'' ⟨rfl, rfl⟩
    go_wp2_with fail
    go_ret
    exact ⟨by rw [← HR.out]; rfl, rfl⟩
  have hr : (0 : Int) = c := by rw [← HC.out]; unfold cmpI; rw [if_neg h, if_neg k]
  have HR := Lib.hid hr
  have h' : y ≤ x := by omega
  have k' : x ≤ y := by omega
  clear hr h k
  go_enter Tryz.func143, Tryz.ntmps143
  go_wp2_with fail
  (with_reducible refine (nan64 x w).mono ?_)
  rintro e w' ⟨rfl, rfl⟩
  go_wp2_with fail
  (with_reducible refine (nan64 y w').mono ?_)
  rintro e w'' ⟨rfl, rfl⟩
  go_wp2_with fail
  go_ret
  exact ⟨by rw [← HR.out]; rfl, rfl⟩
end Go.Proofs.YtpgnlfdindmopaaGreatDoor
namespace Go.Proofs.YtpgnlfdindmopaaGreatDoor
open Go.RowKit (wrap64 intOf)
open Go Go.RowKit WM LX PX CX GX

set_option maxRecDepth 100000
set_option maxHeartbeats 4000000
theorem nanIn (x : Int) (w : World) : Calls Tryz.prog 187 #[.int .i64 x] w (RetE (.bool false) w) := by
  have hb : (x != x) = false := by simp
  go_enter Tryz.func187, Tryz.ntmps187
  go_wp2_with fail
  go_ret
  exact ⟨rfl, rfl⟩
theorem cmpIn (x y : Int) (w : World) : Calls Tryz.prog 142 #[.int .i64 x, .int .i64 y] w (RetE (.int .i64 (cmpI x y)) w) := by
  obtain ⟨c, hc⟩ : ∃ c, cmpI x y = c := ⟨_, rfl⟩
  rw [hc]
  have HC := Lib.hid hc
  clear hc
  by_cases h : x < y
  · have hr : (-1 : Int) = c := by rw [← HC.out]; unfold cmpI; rw [if_pos h]
    have HR := Lib.hid hr
    clear hr
    go_enter Tryz.func142, Tryz.ntmps142
    go_wp2_with fail
    (with_reducible refine (nanIn x w).mono ?_)
    rintro e w' ⟨rfl, rfl⟩
    go_wp2_with fail
    (with_reducible refine (nanIn y w').mono ?_)
    rintro e w'' ⟨rfl, rfl⟩
    go_wp2_with fail
    go_ret
    exact ⟨by rw [← HR.out]; rfl, rfl⟩
  by_cases k : y < x
  · have hr : (1 : Int) = c := by rw [← HC.out]; unfold cmpI; rw [if_neg h, if_pos k]
    have HR := Lib.hid hr
    have h' : y ≤ x := by omega
    clear hr h
    go_enter Tryz.func142, Tryz.ntmps142
    go_wp2_with fail
    (with_reducible refine (nanIn x w).mono ?_)
    rintro e w' ⟨rfl, rfl⟩
    go_wp2_with fail
    (with_reducible refine (nanIn y w').mono ?_)
    rintro e w'' ⟨rfl, rfl⟩
    go_wp2_with fail
    go_ret
    exact ⟨by rw [← HR.out]; rfl, rfl⟩
  have hr : (0 : Int) = c := by rw [← HC.out]; unfold cmpI; rw [if_neg h, if_neg k]
  have HR := Lib.hid hr
  have h' : y ≤ x := by omega
  have k' : x ≤ y := by omega
  clear hr h k
  go_enter Tryz.func142, Tryz.ntmps142
  go_wp2_with fail
  (with_reducible refine (nanIn x w).mono ?_)
  rintro e w' ⟨rfl, rfl⟩
  go_wp2_with fail
  (with_reducible refine (nanIn y w').mono ?_)
  rintro e w'' ⟨rfl, rfl⟩
  go_wp2_with fail
  go_ret
  exact ⟨by rw [← HR.out]; rfl, rfl⟩
def ScR (l m : List Int) (R : Int) (N M : Nat) (w : World) (z : Value) (wr : World) : Prop :=
  ∃ j k : Nat, z = .int .i64 (j : Int) ∧ j + k = N ∧ j ≤ M ∧ cmpL (l.drop j) (m.drop j) = R ∧ wr = w
theorem dropz_at {l : List Int} {j : Nat} {x : Int} (h : l[j]? = some x) : l.drop j = x :: l.drop (j + 1) := by
  obtain ⟨hlt, hx⟩ := List.getElem?_eq_some_iff.1 h
  rw [List.drop_eq_getElem_cons hlt, hx]
theorem sc_any (l m : List Int) (v u : Value) (w : World) (ok : Nat → Prop) (hl : RepI w ok l v) (hm : RepI w ok m u) (hok : ∀ g, ok g → g < w.heap.size) (hn : l.length ≤ 1000000000000) :
    Calls Tryz.prog 144 #[v, u] w (RetE (.int .i64 (cmpL l m)) w) := by
  obtain ⟨A, c, rfl, hA, _⟩ := hl
  obtain ⟨A', c', rfl, hA', _⟩ := hm
  obtain ⟨N, hN⟩ : ∃ N, l.length = N := ⟨_, rfl⟩
  obtain ⟨M, hM⟩ : ∃ M, m.length = M := ⟨_, rfl⟩
  obtain ⟨R, hR⟩ : ∃ R, cmpL l m = R := ⟨_, rfl⟩
  rw [hN] at hn ⊢
  rw [hM, hR]
  have HL := Lib.hid (And.intro hA (And.intro hA' (And.intro hN (And.intro hM (And.intro hR hok)))))
  clear hA hA' hN hM hR hok
  go_enter Tryz.func144, Tryz.ntmps144
  go_wp2_with fail
  go_loopw [11] (fun z wr => Hid (ScR l m R N M w z wr)) (fun z _ => N - (intOf z).toNat)
  case atStart => exact Lib.hid ⟨0, N, rfl, Nat.zero_add _, Nat.zero_le _, HL.out.2.2.2.2.1, rfl⟩
  case round =>
    obtain ⟨j, k, rfl, hjk, hjM, hR, rfl⟩ := hrel.out
    have HR := Lib.hid hR
    clear hrel hR
    cases k with
    | zero =>
      obtain rfl : j = N := by omega
      have h0 : l.drop j = [] := List.drop_eq_nil_of_le (by rw [HL.out.2.2.1]; exact Nat.le_refl _)
      by_cases hlt : j < M
      · have e2 : (j : Int) < (M : Int) := by omega
        have hr : (-1 : Int) = R := by
          have := HR.out
          rw [h0, List.drop_eq_getElem_cons (by rw [HL.out.2.2.2.1]; exact hlt)] at this
          exact this
        have HX := Lib.hid hr
        clear hr h0
        go_wp2_with fail
        go_ret
        exact ⟨by rw [← HX.out]; rfl, rfl⟩
      · have e2 : (M : Int) ≤ (j : Int) := by omega
        have hr : (0 : Int) = R := by
          have := HR.out
          rw [h0, List.drop_eq_nil_of_le (by rw [HL.out.2.2.2.1]; omega)] at this
          exact this
        have HX := Lib.hid hr
        clear hr h0
        go_wp2_with fail
        go_ret
        exact ⟨by rw [← HX.out]; rfl, rfl⟩
    | succ k =>
      have e1 : (j : Int) < (N : Int) := by omega
      obtain ⟨x, hx⟩ : ∃ x, l[j]? = some x := ⟨_, List.getElem?_eq_getElem (by rw [HL.out.2.2.1]; omega)⟩
      have h0 := dropz_at hx
      obtain ⟨g, o, rfl, hg, hc⟩ := HL.out.1 j x hx
      have hgw := HL.out.2.2.2.2.2 g hg
      by_cases hlt : j < M
      · have e2 : (j : Int) < (M : Int) := by omega
        obtain ⟨y, hy⟩ : ∃ y, m[j]? = some y := ⟨_, List.getElem?_eq_getElem (by rw [HL.out.2.2.2.1]; exact hlt)⟩
        have h1 := dropz_at hy
        obtain ⟨g', o', rfl, hg', hc'⟩ := HL.out.2.1 j y hy
        have hgw' := HL.out.2.2.2.2.2 g' hg'
        have hr := HR.out
        rw [h0, h1, cmpL_cons] at hr
        have HC := Lib.hid (cmpIn x y wr)
        obtain ⟨q, hq⟩ : ∃ q, cmpI x y = q := ⟨_, rfl⟩
        rw [hq] at hr HC
        have HX := Lib.hid hr
        clear hr h0 h1 hq hx hy hg hg'
        by_cases hq0 : q = 0
        · subst hq0
          have hr2 : cmpL (l.drop (j + 1)) (m.drop (j + 1)) = R := by have := HX.out; rwa [if_pos rfl] at this
          have HY := Lib.hid hr2
          clear hr2
          go_wp2_with fail
          (with_reducible refine HC.out.mono ?_)
          rintro e w' ⟨rfl, rfl⟩
          go_wp2_with fail
          exact ⟨Lib.hid ⟨j + 1, k, by go_num, by omega, hlt, HY.out, rfl⟩, by simp only [intOf]; omega⟩
        · have hb : (q != 0) = true := bne_iff_ne.2 hq0
          have hr : q = R := by have := HX.out; rwa [if_neg hq0] at this
          have HQ := Lib.hid hr
          clear hr hq0
          go_wp2_with fail
          (with_reducible refine HC.out.mono ?_)
          rintro e w' ⟨rfl, rfl⟩
          go_wp2_with fail
          go_ret
          exact ⟨by rw [← HQ.out]; rfl, rfl⟩
      · have e2 : (M : Int) ≤ (j : Int) := by omega
        have h1 : m.drop j = [] := List.drop_eq_nil_of_le (by rw [HL.out.2.2.2.1]; omega)
        have hr : (1 : Int) = R := by
          have := HR.out
          rw [h0, h1] at this
          exact this
        have HX := Lib.hid hr
        clear hr h0 h1 hx hg
        go_wp2_with fail
        go_ret
        exact ⟨by rw [← HX.out]; rfl, rfl⟩
end Go.Proofs.YtpgnlfdindmopaaGreatDoor
namespace Go.Proofs.YtpgnlfdindmopaaGreatDoor
open Go.RowKit (wrap64 intOf)
open Go Go.RowKit WM LX PX CX GX

set_option maxRecDepth 100000
set_option maxHeartbeats 4000000
def orN (x y : Int) : Int := if x = 0 then y else x
theorem or_any (K c : Nat) (x y : Int) (w : World) (hK : K < w.heap.size) (h0 : w.cell? ⟨K, 0, none⟩ = some (.int .i64 x)) (h1 : w.cell? ⟨K, 1, none⟩ = some (.int .i64 y)) :
    Calls Tryz.prog 141 #[.slice (some ⟨K, 0, none⟩) 2 c] w (RetE (.int .i64 (orN x y)) w) := by
  obtain ⟨R, hR⟩ : ∃ R, orN x y = R := ⟨_, rfl⟩
  rw [hR]
  have HR := Lib.hid hR
  have HL := Lib.hid (And.intro h0 h1)
  clear hR h0 h1
  go_enter Tryz.func141, Tryz.ntmps141
  go_wp2_with fail
  go_loopw [8] (fun z wr => Hid (∃ j : Nat, z = .int .i64 (j : Int) ∧ j ≤ 2 ∧ (0 < j → x = 0) ∧ (1 < j → y = 0) ∧ wr = w)) (fun z _ => 2 - (intOf z).toNat)
  case atStart => exact Lib.hid ⟨0, rfl, by omega, by omega, by omega, rfl⟩
  case round =>
    obtain ⟨j, rfl, hj, hx, hy, rfl⟩ := hrel.out
    clear hrel
    match j, hj with
    | 0, _ =>
      clear hx hy
      have p0 := HL.out.1
      by_cases hq : x = 0
      · subst hq
        go_wp2_with fail
        exact ⟨Lib.hid ⟨1, by go_num, by omega, by simp, by omega, by simp⟩, by simp [intOf]⟩
      · have hb : (x != 0) = true := bne_iff_ne.2 hq
        have hr : x = R := by rw [← HR.out]; unfold orN; rw [if_neg hq]
        have HX := Lib.hid hr
        clear hr hq
        go_wp2_with fail
        go_ret
        exact ⟨by rw [← HX.out]; rfl, rfl⟩
    | 1, _ =>
      have hx0 := hx (by omega)
      clear hx hy
      subst hx0
      have p1 := HL.out.2
      by_cases hq : y = 0
      · subst hq
        go_wp2_with fail
        exact ⟨Lib.hid ⟨2, by go_num, by omega, by simp, by simp, by simp⟩, by simp [intOf]⟩
      · have hb : (y != 0) = true := bne_iff_ne.2 hq
        have hr : y = R := by rw [← HR.out]; rfl
        have HX := Lib.hid hr
        clear hr hq
        go_wp2_with fail
        go_ret
        exact ⟨by rw [← HX.out]; rfl, rfl⟩
    | 2, _ =>
      have hx0 := hx (by omega)
      have hy0 := hy (by omega)
      clear hx hy
      subst hx0 hy0
      have hr : (0 : Int) = R := by rw [← HR.out]; rfl
      have HX := Lib.hid hr
      clear hr
      go_wp2_with fail
      go_ret
      exact ⟨by rw [← HX.out]; rfl, rfl⟩
end Go.Proofs.YtpgnlfdindmopaaGreatDoor
namespace Go.Proofs.YtpgnlfdindmopaaGreatDoor
open Go.RowKit (wrap64 intOf)
open Go Go.RowKit Go.Sort WM LX PX CX GX

set_option maxRecDepth 100000
set_option maxHeartbeats 4000000
/-- A call that only draws and makes blocks. -/
def RetL (v : Value) (w : World) (e : Ending) (w' : World) : Prop := e = .returned v ∧ ∃ q os, w' = grow (w.drewN q) os
theorem cmpN_or (a b : ND) : cmpN a b = if orN (cmpI a.op b.op) (cmpI a.imm b.imm) = 0 then cmpL a.kids b.kids else orN (cmpI a.op b.op) (cmpI a.imm b.imm) := by
  unfold cmpN keyN orN
  rw [cmpL_cons, cmpL_cons]
  by_cases h : cmpI a.op b.op = 0
  · simp only [h, if_true]
  · simp only [h, if_false]
theorem cmpn_any (a b : ND) (va vb : Value) (w : World) (ok : Nat → Prop) (ha : RepI w ok a.kids va) (hb : RepI w ok b.kids vb) (hok : ∀ g, ok g → g < w.heap.size) (hl : a.kids.length ≤ 1000000000000) :
    Calls Tryz.prog 99 #[.agg #[.int .i64 a.op, .int .i64 a.imm, va], .agg #[.int .i64 b.op, .int .i64 b.imm, vb]] w (RetL (.int .i64 (cmpN a b)) w) := by
  have hsc := fun W (hW : Below w.heap.size w W) => sc_any a.kids b.kids va vb W ok (ha.keep (fun _ h => h) (fun g hg => hW.block g (hok g hg))) (hb.keep (fun _ h => h) (fun g hg => hW.block g (hok g hg))) (fun g hg => Nat.lt_of_lt_of_le (hok g hg) hW.size) hl
  obtain ⟨ao, ai, ak⟩ := a
  obtain ⟨bo, bi, bk⟩ := b
  have hcn := cmpN_or ⟨ao, ai, ak⟩ ⟨bo, bi, bk⟩
  dsimp only at hsc hcn ha hb ⊢
  obtain ⟨A, c, rfl, _⟩ := ha
  obtain ⟨A', c', rfl, _⟩ := hb
  obtain ⟨n, hn⟩ : ∃ n, ak.length = n := ⟨_, rfl⟩
  obtain ⟨n', hn'⟩ : ∃ n, bk.length = n := ⟨_, rfl⟩
  rw [hn, hn'] at hsc ⊢
  have h1 := fun W => cmpIn ao bo W
  have h2 := fun W => cmp64 ai bi W
  obtain ⟨p, hp⟩ : ∃ p, cmpI ao bo = p := ⟨_, rfl⟩
  obtain ⟨q, hq⟩ : ∃ q, cmpI ai bi = q := ⟨_, rfl⟩
  obtain ⟨R, hR⟩ : ∃ R, cmpN ⟨ao, ai, ak⟩ ⟨bo, bi, bk⟩ = R := ⟨_, rfl⟩
  obtain ⟨s, hs⟩ : ∃ s, orN p q = s := ⟨_, rfl⟩
  obtain ⟨t, ht⟩ : ∃ t, cmpL ak bk = t := ⟨_, rfl⟩
  rw [hp] at h1
  rw [hq] at h2
  rw [hp, hq, hs, ht, hR] at hcn
  rw [ht] at hsc
  rw [hR]
  have h3 := fun K c (W : World) (k1 : K < W.heap.size) k2 k3 => or_any K c p q W k1 k2 k3
  rw [hs] at h3
  obtain ⟨V, hV⟩ : ∃ V, (((w.alloc (.cells #[.int .i64 ao, .int .i64 ai, .slice A n c] 49)).alloc (.cells #[.int .i64 bo, .int .i64 bi, .slice A' n' c'] 49)).alloc (.cells #[.int .i64 p, .int .i64 q] 3)).drew = V := ⟨_, rfl⟩
  have hor : Calls Tryz.prog 141 #[.slice (some ⟨w.heap.size + 1 + 1, 0, none⟩) 2 2] V (RetE (.int .i64 s) V) := by
    have hb : Blk V (w.heap.size + 1 + 1) 3 #[.int .i64 p, .int .i64 q] := by rw [← hV]; exact blk_at (by simp) _ _
    exact h3 _ 2 V hb.lt (hb.cell 0) (hb.cell 1)
  have hbV : Below w.heap.size w V := by rw [← hV]; exact below_drewN ((((Below.refl _ _).alloc (Nat.le_refl _) _).alloc (by simp) _).alloc (by simp; omega) _) 1
  have hsv := hsc V hbV
  have hlay : ∃ q os, V = grow (w.drewN q) os := ⟨1, _, by rw [← hV, alloc_eq_grow, alloc_eq_grow, alloc_eq_grow, grow_grow, grow_grow]; rfl⟩
  obtain ⟨Z, hZ⟩ : ∃ Z, ((w.alloc (.cells #[.int .i64 ao, .int .i64 ai, .slice A n c] 49)).alloc (.cells #[.int .i64 bo, .int .i64 bi, .slice A' n' c'] 49)) = Z := ⟨_, rfl⟩
  have k1 : Blk V w.heap.size 49 #[.int .i64 ao, .int .i64 ai, .slice A n c] := by rw [← hV]; exact ((Blk.new _ _ _).alloc _).alloc _
  have k2 : Blk V (w.heap.size + 1) 49 #[.int .i64 bo, .int .i64 bi, .slice A' n' c'] := by
    rw [← hV]
    have h0 : Blk ((w.alloc (.cells #[.int .i64 ao, .int .i64 ai, .slice A n c] 49)).alloc (.cells #[.int .i64 bo, .int .i64 bi, .slice A' n' c'] 49)) (w.heap.size + 1) 49 #[.int .i64 bo, .int .i64 bi, .slice A' n' c'] := blk_at (by simp) _ _
    exact h0.alloc _
  have v2 : V.cell? ⟨w.heap.size, 2, none⟩ = some (.slice A n c) := k1.cell 2
  have v3 : V.cell? ⟨w.heap.size + 1, 2, none⟩ = some (.slice A' n' c') := k2.cell 2
  have HS := Lib.hid (And.intro hV (And.intro h1 (And.intro h2 (And.intro hor (And.intro hsv hlay)))))
  have hr : (s = 0 ∧ t = R) ∨ (s ≠ 0 ∧ s = R) := by
    by_cases h0 : s = 0
    · exact .inl ⟨h0, by rw [hcn, if_pos h0]⟩
    · exact .inr ⟨h0, by rw [hcn, if_neg h0]⟩
  clear hsc h1 h2 h3 hcn hp hq hR hs ht hn hn' hok hl hV hor hbV hsv hlay hZ k1 k2
  rcases hr with ⟨rfl, rfl⟩ | ⟨hs0, rfl⟩
  · go_enter Tryz.func99, Tryz.ntmps99
    go_wp2_with fail
    refine wp_region_still_tail 10 (by kernel_rfl) (by kernel_rfl) ?_
    simp only [List.take_succ_cons, List.take_zero, List.drop_succ_cons, List.drop_zero]
    change wpStill _ _ (World.drew _) _ _ _
    repeat (first | still_call (HS.out.2.1 _) | still_call (HS.out.2.2.1 _) | still_step)
    change wpList _ _ _ _ _ (World.drew _)
    go_wp2_with (rw [HS.out.1]; go_at_call 141; ((with_reducible refine HS.out.2.2.2.1.mono ?_); rintro e w' ⟨rfl, rfl⟩))
    (with_reducible refine HS.out.2.2.2.2.1.mono ?_)
    rintro e w'' ⟨rfl, rfl⟩
    go_wp2_with fail
    go_ret
    exact ⟨rfl, HS.out.2.2.2.2.2⟩
  · have hb : (s != 0) = true := bne_iff_ne.2 hs0
    have hb2 : (s == 0) = false := beq_eq_false_iff_ne.2 hs0
    go_enter Tryz.func99, Tryz.ntmps99
    go_wp2_with fail
    refine wp_region_still_tail 10 (by kernel_rfl) (by kernel_rfl) ?_
    simp only [List.take_succ_cons, List.take_zero, List.drop_succ_cons, List.drop_zero]
    change wpStill _ _ (World.drew _) _ _ _
    repeat (first | still_call (HS.out.2.1 _) | still_call (HS.out.2.2.1 _) | still_step)
    change wpList _ _ _ _ _ (World.drew _)
    go_wp2_with (rw [HS.out.1]; go_at_call 141; ((with_reducible refine HS.out.2.2.2.1.mono ?_); rintro e w' ⟨rfl, rfl⟩))
    go_ret
    exact ⟨rfl, HS.out.2.2.2.2.2⟩
end Go.Proofs.YtpgnlfdindmopaaGreatDoor
