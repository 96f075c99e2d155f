/- Stage 4: the walk of isWellFormed. -/
import Derived.Test.YtkjbjjiajopfpaaGreatDoorDa
import Derived.Carry
namespace Go.Proofs.YtkjbjjiajopfpaaGreatDoor
open Go.RowKit (wrap64 intOf)
open Go Go.RowKit WM LX PX CX

set_option maxRecDepth 100000
set_option maxHeartbeats 4000000
theorem nm_made (w : World) : NMp w.heap.size 0 (w.alloc (.map #[] 0)) :=
  ⟨0, .map [], Nat.le_refl _, World.ownsMap_made w _ _ _, Maps.isMap_empty, fun x h => by
    have h2 : (DataW.lit (Lit.bool false) : DataW Unit) = .lit (.bool true) := h
    injection h2 with h2
    injection h2 with h2
    cases h2⟩
theorem arr_cl (b B S : Nat) (hbB : b ≤ B) (w0 : World) (x : List UInt8 × Int) (hx : x.1.length ≤ 1000000000) (cs : List Value) (w : World) (c : Nat) (hc : c ≤ 1000000000000) (hw : ShI b B w0 c w) (ok : Nat → Prop) (hr : RepA w ok x cs) (hk : Blk w S 71 #[.map (some B)]) :
    Calls Tryz.prog 34 #[.agg cs.toArray, .pointer (some ⟨S, 0, none⟩)] w (RetK (.bool (nameB x.1)) (some B) w (ShI b B w0 (c + 1))) := by
  have hI := inv_sh b B w0 hbB (fun _ => False) (fun _ h => h.elim)
  obtain ⟨nm, n⟩ := x
  obtain rfl : cs = [.string ⟨nm.toArray⟩, .int .i64 n] := hr
  obtain ⟨W1, hW1⟩ : ∃ W1, w.alloc (.cells #[.string ⟨nm.toArray⟩, .int .i64 n] 44) = W1 := ⟨_, rfl⟩
  have hb1 : Below w.heap.size w W1 := by rw [← hW1]; exact (Below.refl _ _).alloc (Nat.le_refl _) _
  have ht := tst_nm b B hbB w0 nm hx c hc W1 (hI.easy c w W1 hw hb1)
  have HC := Lib.hid (And.intro ht (And.intro hb1 hW1))
  have x0 : w.cell? ⟨S, 0, none⟩ = some (.map (some B)) := hk.cell 0
  have hl := hk.lt
  obtain ⟨q, hq⟩ : ∃ q, nameB nm = q := ⟨_, rfl⟩
  dsimp only
  rw [hq] at HC ⊢
  clear ht hb1 hW1 hI hw hk hq
  go_enter Tryz.func34, Tryz.ntmps34
  go_wp2_with fail
  rw [HC.out.2.2]
  refine HC.out.1.mono ?_
  rintro e w2 ⟨rfl, hi, hk⟩
  have HK := Lib.hid (And.intro hi hk)
  clear hi hk
  go_wp2_with fail
  go_ret
  exact retK rfl HK.out.1 (kp_to (kp_below HC.out.2.1 _) HK.out.2)
theorem wf_any (p : PG) (hbody : ∀ f ∈ p.funcs, f.body = []) (va vf : Value) (w : World) (ok : Nat → Prop) (h : RepP w ok p va vf) (hok : ∀ g, ok g → g < w.heap.size) (hs : szP p ≤ 1000000000) (he : PEnv w) :
    Calls Tryz.prog 15 #[.agg #[va, vf]] w (RetN (.bool (shpB p)) w) := by
  obtain ⟨A, c, rfl, _⟩ := h.1.at
  obtain ⟨A', c', rfl, _⟩ := h.2.at
  obtain ⟨W1, hW1⟩ : ∃ W1, ((w.alloc (.cells #[.slice A p.arrays.length c, .slice A' p.funcs.length c'] 32)).alloc (.map #[] 0)).alloc (.cells #[.map (some (w.heap.size + 1))] 71) = W1 := ⟨_, rfl⟩
  have hb0 : Below w.heap.size w ((w.alloc (.cells #[.slice A p.arrays.length c, .slice A' p.funcs.length c'] 32)).alloc (.map #[] 0)) := ((Below.refl _ _).alloc (Nat.le_refl _) _).alloc (by simp) _
  have hb1 : Below w.heap.size w W1 := by rw [← hW1]; exact hb0.alloc (by simp; omega) _
  have k1 : Blk W1 w.heap.size 32 #[.slice A p.arrays.length c, .slice A' p.funcs.length c'] := by rw [← hW1]; exact ((Blk.new _ _ _).alloc _).alloc _
  have k2 : Blk W1 (w.heap.size + 1 + 1) 71 #[.map (some (w.heap.size + 1))] := by rw [← hW1]; exact blk_at (by simp) _ _
  have hnm : NMp (w.heap.size + 1) 0 W1 := by
    have := nm_made (w.alloc (.cells #[.slice A p.arrays.length c, .slice A' p.funcs.length c'] 32))
    rw [show (w.alloc (.cells #[.slice A p.arrays.length c, .slice A' p.funcs.length c'] 32)).heap.size = w.heap.size + 1 by simp] at this
    rw [← hW1]
    exact this.on ((Below.refl _ _).alloc (Nat.le_refl _) _) (Nat.le_refl _)
  have hen : En w.heap.size W1 := En.on (show En w.heap.size w from he) hb1
  have hB : w.heap.size ≤ w.heap.size + 1 := Nat.le_succ _
  have hok1 : ∀ x, ok x → x < W1.heap.size ∧ x ≠ w.heap.size + 1 := fun x hx => ⟨Nat.lt_of_lt_of_le (hok x hx) hb1.size, by have := hok x hx; omega⟩
  have hI := inv_sh w.heap.size (w.heap.size + 1) W1 hB ok hok1
  have h0 : ShI w.heap.size (w.heap.size + 1) W1 0 W1 := ⟨hnm, hen, grown_id _ _⟩
  have h1 := h.keep (fun _ h => h) (fun x hx => hb1.block x (hok x hx))
  unfold szP at hs
  have l1 := sumL_len (fun a : List UInt8 × Int => a.1.length) p.arrays
  have l2 := sumL_len szF p.funcs
  have hc4 : sumL (fun f => 4 * szF f) p.funcs ≤ 4 * sumL szF p.funcs := by
    have : ∀ l : List FN, sumL (fun f => 4 * szF f) l ≤ 4 * sumL szF l := fun l => by
      induction l with
      | nil => exact Nat.le_refl _
      | cons a r ih => rw [sumL, sumL]; omega
    exact this _
  have ha := every_A keepsA onesA p.arrays _ W1 ok h1.1 (by omega) (fun a => nameB a.1) (some (w.heap.size + 1)) 34 #[] #[.pointer (some ⟨w.heap.size + 1 + 1, 0, none⟩)] (enters_of Tryz.func34 (by kernel_rfl) rfl)
    (ShI w.heap.size (w.heap.size + 1) W1) hI (fun a => a.1.length) (fun i x hx cs W d hd hI' hr => by
      rw [app_l]
      have hsx := sumL_at (fun a : List UInt8 × Int => a.1.length) p.arrays i x hx
      have hd' : d + (1 + x.1.length) ≤ 1000000000000 := hd
      exact (arr_cl w.heap.size (w.heap.size + 1) (w.heap.size + 1 + 1) hB W1 x (by omega) cs W d (by omega) hI' ok hr (k2.kp hI'.2.2 (fun b hb => by injection hb with hb; omega))).mono fun _ _ k => ⟨k.1, hI.mono _ _ _ k.2.1 (by omega), k.2.2⟩) 0 (by omega) W1 h0
  have hf := fun W (hW : ShI w.heap.size (w.heap.size + 1) W1 (0 + sumL (fun a : List UInt8 × Int => a.1.length) p.arrays) W) => every_F keepsF onesF p.funcs _ W1 ok h1.2 (by omega) funB (some (w.heap.size + 1)) 37 #[.agg #[.map (some (w.heap.size + 1))]] #[] (enters_of Tryz.func37 (by kernel_rfl) rfl)
    (ShI w.heap.size (w.heap.size + 1) W1) hI (fun f => 4 * szF f) (fun i x hx => func_any w.heap.size (w.heap.size + 1) hB W1 ok hok1 x (by have := sumL_at szF p.funcs i x hx; omega) (by
      rw [hbody x (List.mem_of_getElem? hx)]
      exact evL_nil _ _ _ _ _ _ _ hI stmB)) _ (by omega) W hW
  obtain ⟨q1, hq1⟩ : ∃ q, p.arrays.all (fun a => nameB a.1) = q := ⟨_, rfl⟩
  obtain ⟨q2, hq2⟩ : ∃ q, p.funcs.all funB = q := ⟨_, rfl⟩
  obtain ⟨n1, hn1⟩ : ∃ n, p.arrays.length = n := ⟨_, rfl⟩
  obtain ⟨n2, hn2⟩ : ∃ n, p.funcs.length = n := ⟨_, rfl⟩
  have hshp : shpB p = (q1 && q2) := by unfold shpB; rw [hq1, hq2]
  rw [hshp]
  rw [hq1, hn1] at ha
  rw [hq2, hn2] at hf
  rw [hn1, hn2] at k1 hW1 ⊢
  have HA := Lib.hid ha
  have HF := Lib.hid hf
  have HB := Lib.hid (And.intro hb1 (And.intro k1 (And.intro k2 hW1)))
  have hmm := @run_makeMap Tryz.prog
  clear ha hf hb0 hb1 k1 k2 hW1 hnm hen hB hok1 hI h0 h1 h hs l1 l2 hc4 hq1 hq2 hn1 hn2 hshp hok he
  go_enter Tryz.func15, Tryz.ntmps15
  go_wp2_with fail
  rw [HB.out.2.2.2]
  refine HA.out.mono ?_
  rintro e w2 ⟨rfl, hi, hk⟩
  have x1 : w2.cell? ⟨w.heap.size, 1, none⟩ = some (.slice A' n2 c') := (HB.out.2.1.kp hk (fun b hb => by injection hb with hb; omega)).cell 1
  have x2 : w2.cell? ⟨w.heap.size + 1 + 1, 0, none⟩ = some (.map (some (w.heap.size + 1))) := (HB.out.2.2.1.kp hk (fun b hb => by injection hb with hb; omega)).cell 0
  have hu : ∀ w', Kp (some (w.heap.size + 1)) W1 w' → Below w.heap.size w w' := fun w' hk => HB.out.1.trans (kp_under hk (fun y hy => by injection hy with hy; omega) HB.out.1.size)
  have H2 := Lib.hid (And.intro hi (And.intro hk hu))
  clear hi hk hu
  cases q1 with
  | false =>
    go_wp2_with fail
    go_ret
    exact retN rfl (H2.out.2.2 _ H2.out.2.1)
  | true =>
    go_wp2_with fail
    refine (HF.out w2 H2.out.1).mono ?_
    rintro e w3 ⟨rfl, hi, hk⟩
    have H3 := Lib.hid (H2.out.2.2 _ (kp_to H2.out.2.1 hk))
    clear hi hk x1 x2
    go_wp2_with fail
    go_ret
    exact retN rfl H3.out
end Go.Proofs.YtkjbjjiajopfpaaGreatDoor
