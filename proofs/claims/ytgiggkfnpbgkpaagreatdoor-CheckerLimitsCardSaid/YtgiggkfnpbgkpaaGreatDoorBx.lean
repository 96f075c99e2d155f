/- Stage 3: the walk of ParserExamples. -/
import Derived.Test.YtgiggkfnpbgkpaaGreatDoorBl
import Derived.Test.YtgiggkfnpbgkpaaGreatDoorBs
namespace Go.Proofs.YtgiggkfnpbgkpaaGreatDoor
open Go.RowKit (wrap64 intOf)
open Go Go.RowKit WM LX PX

set_option maxRecDepth 100000
set_option maxHeartbeats 4000000
/-- One function was parsed: its expression's cells. -/
def P1 (ve : PE) (w : World) (e : Ending) (w' : World) : Prop :=
  ∃ (A : Option Addr) (L c g c' : Nat) (kd nn : Int) (nm : List UInt8) (op : Int) (A3 : Option Addr) (L3 c3 : Nat), e = .returned (.tuple #[.agg #[.slice A L c, .slice (some ⟨g, 0, none⟩) 1 c'], .agg #[.int .i64 0, .int .i64 0]]) ∧ g < w'.heap.size ∧
    w'.cell? ⟨g, 4, none⟩ = some (.int .i64 kd) ∧ w'.cell? ⟨g, 5, none⟩ = some (.int .i64 nn) ∧ w'.cell? ⟨g, 6, none⟩ = some (.string ⟨nm.toArray⟩) ∧ w'.cell? ⟨g, 7, none⟩ = some (.int .i64 op) ∧ w'.cell? ⟨g, 8, none⟩ = some (.slice A3 L3 c3) ∧
    RepE w' (fun x => x < w'.heap.size) ve (exC kd nn nm op A3 L3 c3) ∧ Below w.heap.size w w'
theorem p1_of {ars : List (List UInt8 × Int)} {f : FN} {w : World} {e : Ending} {w' : World} (h : PaP (⟨ars, [f]⟩, 0, 0) w e w') : P1 f.value w e w' := by
  obtain ⟨A, L, c, A', L', c', rfl, _, ⟨F, ⟨A2, cc, hv, hrow⟩, hel⟩, hb⟩ := h
  obtain ⟨g, rfl, hg, hcell⟩ := hrow (by show 0 < 1; decide)
  injection hv with h1 h2 h3
  subst h1 h2 h3
  obtain ⟨B1, K1, d1, B2, K2, d2, B3, K3, d3, kd, nn, nm, op, A3, L3, c3, hF, _, _, _, hE⟩ := hel 0 f rfl
  have hc := fun j u (h : (F 0)[j]? = some u) => hcell 0 j u (by show 0 < 1; decide) h
  rw [hF] at hc
  have e4 := hc 4 _ rfl
  have e5 := hc 5 _ rfl
  have e6 := hc 6 _ rfl
  have e7 := hc 7 _ rfl
  have e8 := hc 8 _ rfl
  exact ⟨A, L, c, g, _, kd, nn, nm, op, A3, L3, c3, rfl, hg.2, by simpa using e4, by simpa using e5, by simpa using e6, by simpa using e7, by simpa using e8, hE.keep (fun _ h => h.2) (fun _ _ => rfl), hb⟩
def P3 (y a : Int) (w : World) (e : Ending) (w' : World) : Prop :=
  ∃ A L c A' L' c', e = .returned (.tuple #[.agg #[.slice A L c, .slice A' L' c'], .agg #[.int .i64 y, .int .i64 a]]) ∧ Below w.heap.size w w'
theorem parse1 (w : World) (h : PEnv w) : Calls Tryz.prog 17 #[.string ⟨#[102, 117, 110, 99, 32, 102, 40, 41, 32, 123, 32, 114, 101, 116, 117, 114, 110, 32, 50, 32, 45, 32, 45, 51, 59, 32, 125]⟩] w (P1 (opE 5 [numE 2, numE (-3)]) w) :=
  (parse_any ⟨#[102, 117, 110, 99, 32, 102, 40, 41, 32, 123, 32, 114, 101, 116, 117, 114, 110, 32, 50, 32, 45, 32, 45, 51, 59, 32, 125]⟩ _ (Lib.hid PX.ex1_parse) w h).mono fun _ _ h => p1_of h
theorem parse2 (w : World) (h : PEnv w) : Calls Tryz.prog 17 #[.string ⟨#[102, 117, 110, 99, 32, 102, 40, 97, 41, 32, 123, 32, 114, 101, 116, 117, 114, 110, 32, 97, 32, 62, 32, 49, 59, 32, 125]⟩] w (P1 (opE 17 [numE 1, varE [97]]) w) :=
  (parse_any ⟨#[102, 117, 110, 99, 32, 102, 40, 97, 41, 32, 123, 32, 114, 101, 116, 117, 114, 110, 32, 97, 32, 62, 32, 49, 59, 32, 125]⟩ _ (Lib.hid PX.ex2_parse) w h).mono fun _ _ h => p1_of h
theorem parse3 (w : World) (h : PEnv w) : Calls Tryz.prog 17 #[.string ⟨#[102, 117, 110, 99, 32, 102, 40, 41, 32, 123, 32, 120, 32, 61, 32, 102, 40, 41, 32, 43, 32, 49, 59, 32, 114, 101, 116, 117, 114, 110, 32, 48, 59, 32, 125]⟩] w (P3 2 19 w) :=
  (parse_any ⟨#[102, 117, 110, 99, 32, 102, 40, 41, 32, 123, 32, 120, 32, 61, 32, 102, 40, 41, 32, 43, 32, 49, 59, 32, 114, 101, 116, 117, 114, 110, 32, 48, 59, 32, 125]⟩ _ (Lib.hid PX.ex3_parse) w h).mono fun _ _ ⟨A, L, c, A', L', c', he, _, _, hb⟩ => ⟨A, L, c, A', L', c', he, hb⟩
/-- An expression in memory against one that was just laid. -/
theorem same_call (a b : PE) (op : Int) (kd nn : Int) (nm : List UInt8) (o1 : Int) (A3 : Option Addr) (L3 c3 : Nat) (k1 n1 : Int) (x1 : List UInt8) (k2 n2 : Int) (x2 : List UInt8) (ha : a = .mk k1 n1 x1 0 []) (hb : b = .mk k2 n2 x2 0 [])
    (w : World) (K : Nat) (hK : w.heap.size = K) (hr : RepE w (fun x => x < w.heap.size) (opE op [a, b]) (exC kd nn nm o1 A3 L3 c3)) :
    Calls Tryz.prog 31 #[exV kd nn nm o1 A3 L3 c3, exV 4 0 [] op (some ⟨K, 0, none⟩) 2 2] (w.alloc (.cells #[.int .i64 k1, .int .i64 n1, .string ⟨x1.toArray⟩, .int .i64 0, .slice none 0 0, .int .i64 k2, .int .i64 n2, .string ⟨x2.toArray⟩, .int .i64 0, .slice none 0 0] 44))
      (RetN (.bool true) (w.alloc (.cells #[.int .i64 k1, .int .i64 n1, .string ⟨x1.toArray⟩, .int .i64 0, .slice none 0 0, .int .i64 k2, .int .i64 n2, .string ⟨x2.toArray⟩, .int .i64 0, .slice none 0 0] 44))) := by
  subst ha hb hK
  refine same_E 1 (opE op [.mk k1 n1 x1 0 [], .mk k2 n2 x2 0 []]) _ _ _ (fun x => x < w.heap.size) (fun x => x = w.heap.size) ⟨(by show 2 ≤ 1000; decide), fun k hk => ?_⟩ (hr.keep (fun _ h => h) (fun g hg => Below.heap_alloc _ _ _ hg))
    (repE_2 (ok := fun x => x = w.heap.size) (ca := exC k1 n1 x1 0 none 0 0) (cb := exC k2 n2 x2 0 none 0 0) (c := 2) (Blk.new w 44 #[.int .i64 k1, .int .i64 n1, .string ⟨x1.toArray⟩, .int .i64 0, .slice none 0 0, .int .i64 k2, .int .i64 n2, .string ⟨x2.toArray⟩, .int .i64 0, .slice none 0 0]) rfl rfl (repE_leaf _ _ k1 n1 x1 0 none 0) (repE_leaf _ _ k2 n2 x2 0 none 0) rfl rfl 4 0 [] op) (fun g hg => by rw [World.size_alloc]; omega) (fun g hg => by rw [World.size_alloc]; omega)
  rcases List.mem_cons.1 hk with h | h
  · rw [h]; rfl
  · rw [List.mem_singleton] at h; rw [h]; rfl
theorem examples_any (w : World) (h : PEnv w) : Calls Tryz.prog 20 #[] w (RetN (.bool true) w) := by
  go_enter Tryz.func20, Tryz.ntmps20
  go_wp2_with fail
  refine (parse1 w h).mono ?_
  rintro e w1 ⟨A, L, c, g, c', kd, nn, nm, op, A3, L3, c3, rfl, hg, u4, u5, u6, u7, u8, hr, hb⟩
  have hb1 := (hb.alloc hb.size (.cells #[.slice A L c, .slice (some ⟨g, 0, none⟩) 1 c'] 28)).alloc (Nat.le_trans hb.size (by simp)) (.cells #[.int .i64 0, .int .i64 0] 31)
  have h2 := h.on hb1
  have H1 := Lib.hid (And.intro u4 (And.intro u5 (And.intro u6 (And.intro u7 (And.intro u8 hr)))))
  have HB1 := Lib.hid hb1
  clear u4 u5 u6 u7 u8 hr hb hb1
  go_wp2_with fail
  refine (parse2 _ h2).mono ?_
  rintro e w2 ⟨A', L', d, g2, d', kd2, nn2, nm2, op2, A4, L4, c4, rfl, hg2, v4, v5, v6, v7, v8, hr2, hb2⟩
  have hb3 := (hb2.alloc hb2.size (.cells #[.slice A' L' d, .slice (some ⟨g2, 0, none⟩) 1 d'] 28)).alloc (Nat.le_trans hb2.size (by simp)) (.cells #[.int .i64 0, .int .i64 0] 31)
  have h3 := h2.on hb3
  have H2 := Lib.hid (And.intro v4 (And.intro v5 (And.intro v6 (And.intro v7 (And.intro v8 hr2)))))
  have HB2 := Lib.hid hb3
  have hsw2 := hb2.size
  clear v4 v5 v6 v7 v8 hr2 hb2 hb3
  go_wp2_with fail
  refine (parse3 _ h3).mono ?_
  rintro e w3 ⟨A5, L5, c5, A6, L6, c6, rfl, hb4⟩
  have za : ((w1.alloc (.cells #[.slice A L c, .slice (some ⟨g, 0, none⟩) 1 c'] 28)).alloc (.cells #[.int .i64 0, .int .i64 0] 31)).heap.size = w1.heap.size + 2 := by simp
  have zb : ((w2.alloc (.cells #[.slice A' L' d, .slice (some ⟨g2, 0, none⟩) 1 d'] 28)).alloc (.cells #[.int .i64 0, .int .i64 0] 31)).heap.size = w2.heap.size + 2 := by simp
  have hab : w1.heap.size + 2 ≤ w2.heap.size := by rw [← za]; exact hsw2
  have hbc : w2.heap.size + 2 ≤ w3.heap.size := by rw [← zb]; exact hb4.size
  have b2 : Below (w1.heap.size + 2) ((w1.alloc (.cells #[.slice A L c, .slice (some ⟨g, 0, none⟩) 1 c'] 28)).alloc (.cells #[.int .i64 0, .int .i64 0] 31)) w3 := by rw [← za]; exact HB2.out.trans (below_down hb4 HB2.out.size)
  have b3 : Below (w2.heap.size + 2) ((w2.alloc (.cells #[.slice A' L' d, .slice (some ⟨g2, 0, none⟩) 1 d'] 28)).alloc (.cells #[.int .i64 0, .int .i64 0] 31)) w3 := by rw [← zb]; exact hb4
  have kp1 : Blk w3 w1.heap.size 28 #[.slice A L c, .slice (some ⟨g, 0, none⟩) 1 c'] := ((Blk.new w1 _ _).alloc _).on b2 (by omega)
  have ke1 : Blk w3 (w1.heap.size + 1) 31 #[.int .i64 0, .int .i64 0] := (blk_at (W := w1.alloc (.cells #[.slice A L c, .slice (some ⟨g, 0, none⟩) 1 c'] 28)) (by simp) _ _).on b2 (by omega)
  have kp2 : Blk w3 w2.heap.size 28 #[.slice A' L' d, .slice (some ⟨g2, 0, none⟩) 1 d'] := ((Blk.new w2 _ _).alloc _).on b3 (by omega)
  have ke2 : Blk w3 (w2.heap.size + 1) 31 #[.int .i64 0, .int .i64 0] := (blk_at (W := w2.alloc (.cells #[.slice A' L' d, .slice (some ⟨g2, 0, none⟩) 1 d'] 28)) (by simp) _ _).on b3 (by omega)
  have h13 : ∀ x, x < w1.heap.size → w3.heap[x]? = w1.heap[x]? := fun x hx => (b2.block x (by omega)).trans ((Below.heap_alloc _ _ _ (by simp; omega)).trans (Below.heap_alloc _ _ _ hx))
  have h23 : ∀ x, x < w2.heap.size → w3.heap[x]? = w2.heap[x]? := fun x hx => (b3.block x (by omega)).trans ((Below.heap_alloc _ _ _ (by simp; omega)).trans (Below.heap_alloc _ _ _ hx))
  obtain ⟨u4, u5, u6, u7, u8, hr1⟩ := H1.out
  obtain ⟨v4, v5, v6, v7, v8, hr2⟩ := H2.out
  replace u4 := (World.cell?_of_block (h13 _ hg)).trans u4
  replace u5 := (World.cell?_of_block (h13 _ hg)).trans u5
  replace u6 := (World.cell?_of_block (h13 _ hg)).trans u6
  replace u7 := (World.cell?_of_block (h13 _ hg)).trans u7
  replace u8 := (World.cell?_of_block (h13 _ hg)).trans u8
  have hWc : Below w3.heap.size w3 ((w3.alloc (.cells #[.slice A5 L5 c5, .slice A6 L6 c6] 28)).alloc (.cells #[.int .i64 2, .int .i64 19] 31)) := ((Below.refl _ _).alloc (Nat.le_refl _) _).alloc (by simp) _
  have zc : ((w3.alloc (.cells #[.slice A5 L5 c5, .slice A6 L6 c6] 28)).alloc (.cells #[.int .i64 2, .int .i64 19] 31)).heap.size = w3.heap.size + 2 := by simp
  have hR1 : RepE ((w3.alloc (.cells #[.slice A5 L5 c5, .slice A6 L6 c6] 28)).alloc (.cells #[.int .i64 2, .int .i64 19] 31)) (fun x => x < ((w3.alloc (.cells #[.slice A5 L5 c5, .slice A6 L6 c6] 28)).alloc (.cells #[.int .i64 2, .int .i64 19] 31)).heap.size) (opE 5 [numE 2, numE (-3)]) (exC kd nn nm op A3 L3 c3) := hr1.keep (fun x hx => by rw [zc]; omega) (fun x hx => (hWc.block x (by omega)).trans (h13 x hx))
  have hR2 : RepE ((w3.alloc (.cells #[.slice A5 L5 c5, .slice A6 L6 c6] 28)).alloc (.cells #[.int .i64 2, .int .i64 19] 31)) (fun x => x < w2.heap.size) (opE 17 [numE 1, varE [97]]) (exC kd2 nn2 nm2 op2 A4 L4 c4) := hr2.keep (fun x hx => hx) (fun x hx => (hWc.block x (by omega)).trans (h23 x hx))
  obtain ⟨p0, p1, _⟩ := kp1.cells2
  obtain ⟨e0, e1, _⟩ := ke1.cells2
  have HR1 := Lib.hid hR1
  have HR2 := Lib.hid hR2
  have HK2 := Lib.hid (And.intro kp2 ke2)
  have HV := Lib.hid (And.intro v4 (And.intro v5 (And.intro v6 (And.intro v7 v8))))
  have HX := Lib.hid (And.intro h23 (And.intro hWc (HB1.out.trans (below_down b2 (by have := HB1.out.size; rw [World.size_alloc, World.size_alloc] at this; omega)))))
  have l1 : w1.heap.size < w3.heap.size := by omega
  have l2 : w1.heap.size + 1 < w3.heap.size := by omega
  have l3 : g < w3.heap.size := by omega
  clear kp1 ke1 kp2 ke2 h13 h23 v4 v5 v6 v7 v8 hr1 hr2 hR1 hR2 hWc b2 b3 za zb zc h2 h3 hb4
  go_wp2_with fail
  refine (same_call (numE 2) (numE (-3)) 5 kd nn nm op A3 L3 c3 1 2 [] 1 (-3) [] rfl rfl _ _ (by simp) HR1.out).mono ?_
  rintro e w5 ⟨rfl, hb5⟩
  have zc : ((w3.alloc (.cells #[.slice A5 L5 c5, .slice A6 L6 c6] 28)).alloc (.cells #[.int .i64 2, .int .i64 19] 31)).heap.size = w3.heap.size + 2 := by simp
  have zk : (((w3.alloc (.cells #[.slice A5 L5 c5, .slice A6 L6 c6] 28)).alloc (.cells #[.int .i64 2, .int .i64 19] 31)).alloc (.cells #[.int .i64 1, .int .i64 2, .string ⟨#[]⟩, .int .i64 0, .slice none 0 0, .int .i64 1, .int .i64 (-3), .string ⟨#[]⟩, .int .i64 0, .slice none 0 0] 44)).heap.size = w3.heap.size + 3 := by simp
  have b5 : Below (w3.heap.size + 3) (((w3.alloc (.cells #[.slice A5 L5 c5, .slice A6 L6 c6] 28)).alloc (.cells #[.int .i64 2, .int .i64 19] 31)).alloc (.cells #[.int .i64 1, .int .i64 2, .string ⟨#[]⟩, .int .i64 0, .slice none 0 0, .int .i64 1, .int .i64 (-3), .string ⟨#[]⟩, .int .i64 0, .slice none 0 0] 44)) w5 := by rw [← zk]; exact hb5
  have bc : Below w3.heap.size w3 (((w3.alloc (.cells #[.slice A5 L5 c5, .slice A6 L6 c6] 28)).alloc (.cells #[.int .i64 2, .int .i64 19] 31)).alloc (.cells #[.int .i64 1, .int .i64 2, .string ⟨#[]⟩, .int .i64 0, .slice none 0 0, .int .i64 1, .int .i64 (-3), .string ⟨#[]⟩, .int .i64 0, .slice none 0 0] 44)) := HX.out.2.1.alloc (by rw [zc]; omega) _
  have b35 : Below w3.heap.size w3 w5 := bc.trans (below_down b5 (by omega))
  have k3 : Blk w5 (w3.heap.size + 1) 31 #[.int .i64 2, .int .i64 19] := ((blk_at (W := w3.alloc (.cells #[.slice A5 L5 c5, .slice A6 L6 c6] 28)) (by simp) _ _).alloc _).on b5 (by omega)
  obtain ⟨v4, v5, v6, v7, v8⟩ := HV.out
  have h25 : ∀ x, x < w2.heap.size → w5.heap[x]? = w2.heap[x]? := fun x hx => (b35.block x (by omega)).trans (HX.out.1 x hx)
  replace v4 := (World.cell?_of_block (h25 _ hg2)).trans v4
  replace v5 := (World.cell?_of_block (h25 _ hg2)).trans v5
  replace v6 := (World.cell?_of_block (h25 _ hg2)).trans v6
  replace v7 := (World.cell?_of_block (h25 _ hg2)).trans v7
  replace v8 := (World.cell?_of_block (h25 _ hg2)).trans v8
  obtain ⟨j0, j1, _⟩ := (HK2.out.1.on b35 (by omega)).cells2
  obtain ⟨i0, i1, _⟩ := (HK2.out.2.on b35 (by omega)).cells2
  have h35s := b35.size
  have hR5 : RepE w5 (fun x => x < w5.heap.size) (opE 17 [numE 1, varE [97]]) (exC kd2 nn2 nm2 op2 A4 L4 c4) := HR2.out.keep (fun x hx => by omega) (fun x hx => (b35.block x (by omega)).trans (HX.out.2.1.block x (by omega)).symm)
  have HR5 := Lib.hid hR5
  have HK3 := Lib.hid k3
  have HB5 := Lib.hid (HX.out.2.2.trans (below_down b35 (by have := HX.out.2.2.size; omega)))
  have l4 : w2.heap.size < w5.heap.size := by omega
  have l5 : w2.heap.size + 1 < w5.heap.size := by omega
  have l6 : g2 < w5.heap.size := by omega
  clear zc zk b5 bc b35 k3 h25 hR5 hb5 u4 u5 u6 u7 u8 p0 p1 e0 e1
  go_wp2_with fail
  refine (same_call (numE 1) (varE [97]) 17 kd2 nn2 nm2 op2 A4 L4 c4 1 1 [] 2 0 [97] rfl rfl w5 _ rfl HR5.out).mono ?_
  rintro e w6 ⟨rfl, hb6⟩
  have k3 := (HK3.out.alloc (.cells #[.int .i64 1, .int .i64 1, .string ⟨#[]⟩, .int .i64 0, .slice none 0 0, .int .i64 2, .int .i64 0, .string ⟨#[97]⟩, .int .i64 0, .slice none 0 0] 44)).on hb6 (HK3.out.alloc (.cells #[.int .i64 1, .int .i64 1, .string ⟨#[]⟩, .int .i64 0, .slice none 0 0, .int .i64 2, .int .i64 0, .string ⟨#[97]⟩, .int .i64 0, .slice none 0 0] 44)).lt
  obtain ⟨s0, s1, _⟩ := k3.cells2
  have l7 := k3.lt
  have HB6 := Lib.hid (HB5.out.trans (below_down (((Below.refl w5.heap.size w5).alloc (Nat.le_refl _) (.cells #[.int .i64 1, .int .i64 1, .string ⟨#[]⟩, .int .i64 0, .slice none 0 0, .int .i64 2, .int .i64 0, .string ⟨#[97]⟩, .int .i64 0, .slice none 0 0] 44)).trans (below_down hb6 (by rw [World.size_alloc]; omega))) HB5.out.size))
  clear hb6 k3 v4 v5 v6 v7 v8 j0 j1 i0 i1
  go_wp2_with fail
  go_ret
  exact retN rfl HB6.out
end Go.Proofs.YtgiggkfnpbgkpaaGreatDoor
