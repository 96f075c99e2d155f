/- Stage 3: the walks of while, statement. -/
import Derived.Test.YtjeidpfpgolonaaDoorPu
import Derived.Deep.RegionWith
namespace Go.Proofs.YtjeidpfpgolonaaDoor
open Go.RowKit (wrap64 intOf)
open Go Go.RowKit WM LX PX

set_option maxRecDepth 100000
set_option maxHeartbeats 4000000
theorem while_step (ts : List Tk) (p n : Nat) (hbl : WBl ts p n) : WWh ts p (n + 1) := by
  intro s q w hq hm h
  have hq := hq.out
  rw [whF] at hq
  obtain ⟨⟨cpe, s1⟩, hc⟩ : ∃ x, cdF ts n s = x := ⟨_, rfl⟩
  have HC := Lib.hid hc
  have hm1 := ms_cd (ts := ts) n s
  rw [hc] at hq hm1
  dsimp only at hq hm1
  obtain ⟨⟨tl, s2⟩, hd⟩ : ∃ x, blF ts n s1 = x := ⟨_, rfl⟩
  have HD := Lib.hid hd
  rw [hd] at hq
  dsimp only at hq
  subst hq
  have hA : 5 * ms ts s + 4 ≤ n := by omega
  have hB : 5 * ms ts s1 + 8 ≤ n := by omega
  have o := Own.start h 88 st0
  have HBL := Lib.hid hbl
  clear hc hd hbl h hm hm1
  go_enter Tryd.func95, Tryd.ntmps95
  go_wp2_with fail
  refine (condition_any ts p n s _ HC hA _ o.s).mono ?_
  rintro e w1 ⟨k2, n2, x2, o2, A2, L2, c2, rfl, hr, hg, hp⟩
  have x2h := Hold.start hr o hg.size 45
  replace o := (o.acc hg hp).al (.cells #[.int .i64 k2, .int .i64 n2, .string ⟨x2.toArray⟩, .int .i64 o2, .slice A2 L2 c2] 45)
  clear hg hp hr
  go_wp2_with fail
  generalize hwA : w1.alloc (.cells #[.int .i64 k2, .int .i64 n2, .string ⟨x2.toArray⟩, .int .i64 o2, .slice A2 L2 c2] 45) = wA at *
  clear hwA
  have hbl : Calls Tryd.prog 110 #[.pointer (some ⟨p, 0, none⟩)] wA.drew (LiP RepS 17 ts p (tl, s2) wA.drew) := HBL.out s1 _ _ HD hB (o.s.drewN 1)
  obtain ⟨a0, a1, a2, a3, a4, _⟩ := x2h.k.cells5
  have oD : Own ts p s1 88 st0 w wA.drew := o.low (below_drewN (Below.refl _ _) 1)
  have xD := x2h.low (w2 := wA.drew) (below_drewN (Below.refl _ _) 1)
  refine wp_region_any (by kernel_rfl) ?_
  change wpAny _ _ _ _ _ _ _ (World.drew _)
  refine wpAny_take (i := 1) (v := .pointer (some ⟨p, 0, none⟩)) rfl (by kernel_rfl) (by kernel_rfl) (by kernel_rfl) (fun _ _ _ h => h) (Or.inl ⟨by kernel_rfl, fun w => by go_simp⟩) ?_
  refine wpAny_ready (rs := [0, 2]) (by kernel_rfl) (by simp) ?_
  refine AllReady.cons rfl (fun K hK => ?_) (AllReady.cons rfl (fun K hK => ?_) AllReady.nil)
  · go_simp
    refine hK _ _ ?_
    clear hK K
    refine wpAny_ready (rs := [2]) (by kernel_rfl) (by simp) ?_
    refine AllReady.cons rfl (fun K hK => ?_) AllReady.nil
    go_simp
    go_wp2_with (go_at_call 110; ((with_reducible refine hbl.mono ?_); rintro e w2 ⟨A4, L4, c4, rfl, ht, hg2, hp2⟩; have oE := oD.acc hg2 hp2; have xE := xD.acc hg2))
    refine wpAny_take (i := 3) (v := .agg #[.int .i64 4, .string ⟨#[]⟩, .string ⟨#[]⟩, .int .i64 0, .int .i64 0, .int .i64 0, .string ⟨#[]⟩, .int .i64 0, .slice none 0 0, .int .i64 k2, .int .i64 n2, .string ⟨x2.toArray⟩, .int .i64 o2, .slice A2 L2 c2, .slice none 0 0, .slice A4 L4 c4, .slice none 0 0]) rfl (by kernel_rfl) (by kernel_rfl) (by kernel_rfl) (fun _ _ _ h => h) (Or.inl ⟨by kernel_rfl, fun w => by go_simp⟩) ?_
    refine wpAny_ready (rs := [4]) (by kernel_rfl) (by simp) ?_
    refine AllReady.cons rfl (fun K hK => ?_) AllReady.nil
    rw [if_pos (by kernel_rfl)]
    refine wp_store_row _ _ _ rfl w.heap.size #[.int .i64 4, .string ⟨#[]⟩, .string ⟨#[]⟩, .int .i64 0, .int .i64 0, .int .i64 0, .string ⟨#[]⟩, .int .i64 0, .slice none 0 0, .int .i64 k2, .int .i64 n2, .string ⟨x2.toArray⟩, .int .i64 o2, .slice A2 L2 c2, .slice none 0 0, .slice A4 L4 c4, .slice none 0 0] rfl rfl _ _ oE.r stSize rfl (by simp [Value.oneCell']) ?_
    refine hK _ _ ?_
    clear hK K
    refine wpAny_done (by kernel_rfl) ?_ _
    have hzw : wA.heap.size ≤ w2.heap.size := hg2.size
    have hzo : w.heap.size < wA.heap.size := o.sz
    obtain ⟨hk, hx⟩ := oE.fin17 (kd := 4) (nm := []) (to := []) (num := 0) (repS_mk (repE_leaf _ _ 0 0 [] 0 none 0) xE.out (repL_nil _ _ _ _) (ht.mono keepsS (lo' := w.heap.size + 1) hzo (Nat.le_refl _)) (repL_nil _ _ _ _))
    go_wp2_with fail
    exact bodyPost_ret (results_cell_row rfl _ _ _ _ _ _ _ rfl hk Tryd.underlying88 rfl stSize) rfl hx
  · go_simp
    go_wp2_with (go_at_call 110; ((with_reducible refine hbl.mono ?_); rintro e w2 ⟨A4, L4, c4, rfl, ht, hg2, hp2⟩; have oE := oD.acc hg2 hp2; have xE := xD.acc hg2; obtain ⟨b0, b1, b2, b3, b4, _⟩ := xE.k.cells5))
    refine wpAny_ready (rs := [0]) (by kernel_rfl) (by simp) ?_
    refine AllReady.cons rfl (fun K hK => ?_) AllReady.nil
    go_simp
    refine hK _ _ ?_
    clear hK K
    refine wpAny_take (i := 3) (v := .agg #[.int .i64 4, .string ⟨#[]⟩, .string ⟨#[]⟩, .int .i64 0, .int .i64 0, .int .i64 0, .string ⟨#[]⟩, .int .i64 0, .slice none 0 0, .int .i64 k2, .int .i64 n2, .string ⟨x2.toArray⟩, .int .i64 o2, .slice A2 L2 c2, .slice none 0 0, .slice A4 L4 c4, .slice none 0 0]) rfl (by kernel_rfl) (by kernel_rfl) (by kernel_rfl) (fun _ _ _ h => h) (Or.inl ⟨by kernel_rfl, fun w => by go_simp⟩) ?_
    refine wpAny_ready (rs := [4]) (by kernel_rfl) (by simp) ?_
    refine AllReady.cons rfl (fun K hK => ?_) AllReady.nil
    rw [if_pos (by kernel_rfl)]
    refine wp_store_row _ _ _ rfl w.heap.size #[.int .i64 4, .string ⟨#[]⟩, .string ⟨#[]⟩, .int .i64 0, .int .i64 0, .int .i64 0, .string ⟨#[]⟩, .int .i64 0, .slice none 0 0, .int .i64 k2, .int .i64 n2, .string ⟨x2.toArray⟩, .int .i64 o2, .slice A2 L2 c2, .slice none 0 0, .slice A4 L4 c4, .slice none 0 0] rfl rfl _ _ oE.r stSize rfl (by simp [Value.oneCell']) ?_
    refine hK _ _ ?_
    clear hK K
    refine wpAny_done (by kernel_rfl) ?_ _
    have hzw : wA.heap.size ≤ w2.heap.size := hg2.size
    have hzo : w.heap.size < wA.heap.size := o.sz
    obtain ⟨hk, hx⟩ := oE.fin17 (kd := 4) (nm := []) (to := []) (num := 0) (repS_mk (repE_leaf _ _ 0 0 [] 0 none 0) xE.out (repL_nil _ _ _ _) (ht.mono keepsS (lo' := w.heap.size + 1) hzo (Nat.le_refl _)) (repL_nil _ _ _ _))
    go_wp2_with fail
    exact bodyPost_ret (results_cell_row rfl _ _ _ _ _ _ _ rfl hk Tryd.underlying88 rfl stSize) rfl hx
end Go.Proofs.YtjeidpfpgolonaaDoor
