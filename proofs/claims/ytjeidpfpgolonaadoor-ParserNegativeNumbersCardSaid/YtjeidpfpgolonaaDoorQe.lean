/- Stage 3: two lists that one loop collects; append as one operation of a region. -/
import Derived.Test.YtjeidpfpgolonaaDoorQb
import Derived.Test.YtjeidpfpgolonaaDoorQc
namespace Go.Proofs.YtjeidpfpgolonaaDoor
open Go.RowKit (wrap64 intOf)
open Go Go.RowKit WM LX PX

theorem function_any (ts : List Tk) (p n : Nat) (s : PS) (q : FN × PS) (hq : Hid (fnF ts n s = q)) (hm : 5 * ms ts s + 9 ≤ n) (w : World) (h : PSt ts p s w) :
    Calls Tryd.prog 45 #[.pointer (some ⟨p, 0, none⟩)] w (FnP ts p q w) := by
  cases hx : nx ts (pNF ts n (nmS ts s)).2 wVar with
  | true => exact function_yes ts p n s q hq hm w h hx
  | false => exact function_no ts p n s q hq hm w h hx
/-- The arrays and the functions read so far: two rows of the call's own from block B on; the functions' parts lie in neither. -/
structure Two (B : Nat) (xa : List (List UInt8 × Int)) (ca : List (List Value)) (va : Value) (xf : List FN) (cf : List (List Value)) (vf : Value) (w : World) : Prop where
  a : Coll RepA 2 69 B xa ca va w
  o : w.ownsRow B 47 9 vf cf.length cf.flatten
  l : xf.length = cf.length
  s : ∀ cs ∈ cf, cs.length = 9
  r : ∀ (i : Nat) (x : FN) (cs : List Value), xf[i]? = some x → cf[i]? = some cs → RepF w (fun g => B ≤ g ∧ g < w.heap.size ∧ vf.ownBlock ≠ some g ∧ va.ownBlock ≠ some g) x cs
  d : ∀ g, va.ownBlock = some g → vf.ownBlock ≠ some g
section
variable {B p : Nat} {xa : List (List UInt8 × Int)} {ca : List (List Value)} {va va' : Value} {xf : List FN} {cf : List (List Value)} {vf vf' : Value} {w w1 w' : World}
theorem two_nil (B : Nat) (w : World) : Two B [] [] (.slice none 0 0) [] [] (.slice none 0 0) w :=
  ⟨coll_nil _ _ _ _ _, World.ownsRow_nil _ _ _ _, rfl, fun _ h => (by cases h), fun i x cs h => (by simp at h), fun g h => by simp [Value.ownBlock] at h⟩
theorem own_p {e : TypeId} {size n : Nat} {v : Value} {xs : List Value} (h : w.ownsRow B e size v n xs) (hg : w.grownBy w' (some p)) (hp : p < B) : w'.ownsRow B e size v n xs :=
  h.kept hg (by
    cases hv : v.ownBlock with
    | none => exact Or.inl rfl
    | some k => exact Or.inr (fun e => by injection e with e; have := (h.lt k hv).1; omega))
theorem Two.grown (t : Two B xa ca va xf cf vf w) (hg : w.grownBy w' (some p)) (hp : p < B) : Two B xa ca va xf cf vf w' :=
  ⟨t.a.grown keepsA hg hp, own_p t.o hg hp, t.l, t.s, fun i x cs hx hc => keepsF.k (t.r i x cs hx hc) (fun g h => ⟨h.1, Nat.lt_of_lt_of_le h.2.1 hg.size, h.2.2⟩) (fun g h => hg.block g h.2.1 (by intro e; injection e with e; have := h.1; omega)), t.d⟩
theorem Two.snocA {o : Obj} {x : List UInt8 × Int} {cs : List Value} (t : Two B xa ca va xf cf vf w1) (hx : cs = [.string ⟨x.1.toArray⟩, .int .i64 x.2])
    (hown : w'.ownsRow B 69 2 va' (ca.length + 1) (ca.flatten ++ cs)) (hg : (w1.alloc o).grownBy w' va.ownBlock) (hv' : va'.ownBlock = va.ownBlock ∨ va'.ownBlock = some (w1.alloc o).heap.size) : Two B (xa ++ [x]) (ca ++ [cs]) va' xf cf vf w' := by
  have hz : w1.heap.size < (w1.alloc o).heap.size := by rw [World.size_alloc]; omega
  have hz2 := hg.size
  have hkeep : ∀ g, g < w1.heap.size → va.ownBlock ≠ some g → w'.heap[g]? = w1.heap[g]? := fun g h1 h2 =>
    (hg.block g (by omega) (fun e => h2 e.symm)).trans (Below.heap_alloc _ _ _ h1)
  have hno : ∀ g, g < w1.heap.size → va.ownBlock ≠ some g → va'.ownBlock ≠ some g := fun g h1 h2 h3 => by
    rcases hv' with e | e
    · exact h2 (e ▸ h3)
    · rw [e] at h3; injection h3 with h3; omega
  refine ⟨?_, ?_, t.l, t.s, fun i y c hy hc => keepsF.k (t.r i y c hy hc) (fun g h => ⟨h.1, by have := h.2.1; omega, h.2.2.1, hno g h.2.1 h.2.2.2⟩) (fun g h => hkeep g h.2.1 h.2.2.2), fun g h => ?_⟩
  · refine ⟨by simpa using hown, by simp [t.a.len], fun c hc => ?_, fun i y c hy hc => ?_⟩
    · rcases List.mem_append.1 hc with h | h
      · exact t.a.szs c h
      · rw [List.mem_singleton] at h; rw [h, hx]; rfl
    · by_cases hi : i < xa.length
      · rw [List.getElem?_append_left hi] at hy
        rw [List.getElem?_append_left (by rw [← t.a.len]; exact hi)] at hc
        exact t.a.rep i y c hy hc
      · rw [List.getElem?_append_right (by omega)] at hy
        rw [List.getElem?_append_right (by rw [← t.a.len]; omega)] at hc
        have hi2 : i = xa.length := by
          have := (List.getElem?_eq_some_iff.1 hy).1
          simp at this; omega
        subst hi2
        rw [t.a.len] at hc
        simp at hy hc
        subst hy hc
        exact hx
  · refine (t.o.alloc o).kept hg ?_
    cases hv : vf.ownBlock with
    | none => exact Or.inl rfl
    | some k => exact Or.inr (fun e => t.d k e.symm hv)
  · rcases hv' with e | e
    · exact t.d g (e ▸ h)
    · rw [e] at h
      injection h with h
      intro hf
      have := (t.o.lt g hf).2
      omega
theorem Two.snocF {o : Obj} {x : FN} {cs : List Value} {lo : Nat} (t : Two B xa ca va xf cf vf w1) (hr : RepF w1 (Rg lo w1.heap.size) x cs) (hl : B ≤ lo) (hva : ∀ k, va.ownBlock = some k → k < lo) (hvf : ∀ k, vf.ownBlock = some k → k < lo) (hs : cs.length = 9)
    (hown : w'.ownsRow B 47 9 vf' (cf.length + 1) (cf.flatten ++ cs)) (hg : (w1.alloc o).grownBy w' vf.ownBlock) (hv' : vf'.ownBlock = vf.ownBlock ∨ vf'.ownBlock = some (w1.alloc o).heap.size) : Two B xa ca va (xf ++ [x]) (cf ++ [cs]) vf' w' := by
  have hz : w1.heap.size < (w1.alloc o).heap.size := by rw [World.size_alloc]; omega
  have hz2 := hg.size
  have hkeep : ∀ g, g < w1.heap.size → vf.ownBlock ≠ some g → w'.heap[g]? = w1.heap[g]? := fun g h1 h2 =>
    (hg.block g (by omega) (fun e => h2 e.symm)).trans (Below.heap_alloc _ _ _ h1)
  have hno : ∀ g, g < w1.heap.size → vf.ownBlock ≠ some g → vf'.ownBlock ≠ some g := fun g h1 h2 h3 => by
    rcases hv' with e | e
    · exact h2 (e ▸ h3)
    · rw [e] at h3; injection h3 with h3; omega
  refine ⟨⟨?_, t.a.len, t.a.szs, fun i y c hy hc => t.a.rep i y c hy hc⟩, by simpa using hown, by simp [t.l], fun c hc => ?_, fun i y c hy hc => ?_, fun g h => hno g (t.a.own.lt g h).2 (t.d g h)⟩
  · refine (t.a.own.alloc o).kept hg ?_
    cases hv : va.ownBlock with
    | none => exact Or.inl rfl
    | some k => exact Or.inr (fun e => t.d k hv e.symm)
  · rcases List.mem_append.1 hc with h | h
    · exact t.s c h
    · rw [List.mem_singleton] at h; rw [h, hs]
  · by_cases hi : i < xf.length
    · rw [List.getElem?_append_left hi] at hy
      rw [List.getElem?_append_left (by rw [← t.l]; exact hi)] at hc
      exact keepsF.k (t.r i y c hy hc) (fun g h => ⟨h.1, by have := h.2.1; omega, hno g h.2.1 h.2.2.1, h.2.2.2⟩) (fun g h => hkeep g h.2.1 h.2.2.1)
    · rw [List.getElem?_append_right (by omega)] at hy
      rw [List.getElem?_append_right (by rw [← t.l]; omega)] at hc
      have hi2 : i = xf.length := by
        have := (List.getElem?_eq_some_iff.1 hy).1
        simp at this; omega
      subst hi2
      rw [t.l] at hc
      simp at hy hc
      subst hy hc
      have hne : ∀ g, lo ≤ g → vf.ownBlock ≠ some g := fun g h e => by have := hvf g e; omega
      have hne2 : ∀ g, lo ≤ g → va.ownBlock ≠ some g := fun g h e => by have := hva g e; omega
      exact keepsF.k hr (fun g h => ⟨Nat.le_trans hl h.1, by have := h.2; omega, hno g h.2 (hne g h.1), hne2 g h.1⟩) (fun g h => hkeep g h.2 (hne g h.1))
theorem Two.formF (t : Two B xa ca va xf cf vf w) : ∃ A L cp, vf = .slice A L cp := by
  rcases t.o.2 with ⟨rfl, _⟩ | ⟨g, cap, cur, hv, _⟩
  · exact ⟨_, _, _, rfl⟩
  · exact ⟨_, _, _, hv⟩
theorem Two.outF (t : Two B xa ca va xf cf vf w) : RepL RepF 9 w (Rg B w.heap.size) xf vf := by
  refine ⟨fun i => cf.getD i [], ?_, fun i x hx => ?_⟩
  · rw [t.l]; exact rowF_own t.o rfl t.s
  · have hi : i < cf.length := by rw [← t.l]; exact (List.getElem?_eq_some_iff.1 hx).1
    have hci : cf[i]? = some (cf.getD i []) := by rw [List.getD_eq_getElem?_getD, List.getElem?_eq_getElem hi]; rfl
    exact keepsF.k (t.r i x _ hx hci) (fun g h => ⟨h.1, h.2.1⟩) (fun _ _ => rfl)
end
/-- append, met as one operation. -/
theorem wp_app {P : Program} {Q : Exit → Act → World → Prop} {K : Act → World → Prop} {o : Oper} {a : Act} {w : World} (s x : Operand) (t : TypeId) (ho : o.op = .call { callee := .builtin .append, args := #[s, x], argTypes := #[t, t] })
    (B : Nat) (e : TypeId) (i : TypeInfo) (z : Value) (size bytes : Nat) (ht : P.underlying t = some (.slice e)) (hi : P.info? e = some i) (hz : i.zero = some z) (hsize : i.size = size) (hby : i.bytes = bytes) (hzs : z.cells.size = size) (hsz : 0 < size)
    (v : Value) (n : Nat) (xs : List Value) (hs : a.eval s = v) (hown : w.ownsRow B e size v n xs) (ad : Addr) (c : Nat) (news : List Value) (hx : a.eval x = .slice (some ad) 1 c) (hl : news.length = 1 * size)
    (hnews : ∀ j u, news[j]? = some u → w.cell? (ad.add j) = some u) (h1 : ∀ u ∈ news, u.oneCell' = true) (h63 : n + 1 ≤ maxLen) (hb : (n + 1) * bytes ≤ 140737488355328) (hB : B ≤ w.heap.size)
    (h : ∀ v' w', w'.ownsRow B e size v' (n + 1) (xs ++ news) → w.grownBy w' v.ownBlock → (v'.ownBlock = v.ownBlock ∨ v'.ownBlock = some w.heap.size) → K (a.put o.dst v') w') : o.wp P a w K Q := by
  obtain ⟨v', w', hr, h2, h3, _, h5⟩ := run_append_own_at (P := P) w B t o.type e i z size bytes ht hi hz hsize hby hzs hsz v n xs hown ad 1 c news hl hnews h1 h63 hb hB
  unfold Oper.wp execOp
  simp only [ho, resolve, invoke, builtin, Sem.run_bind, Sem.run_pure, Result.andThen_ok, List.map_toArray, List.map_cons, List.map_nil, hs, hx, hr]
  exact h v' w' h2 h3 h5
end Go.Proofs.YtjeidpfpgolonaaDoor
