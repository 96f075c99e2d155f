/- Stage 3: the walk of ParserExamples. -/
import Derived.Test.YtkjbjjiajopfpaaGreatDoorBl
import Derived.Test.YtkjbjjiajopfpaaGreatDoorBs
namespace Go.Proofs.YtkjbjjiajopfpaaGreatDoor
open Go.RowKit (wrap64 intOf)
open Go Go.RowKit WM LX PX

set_option maxRecDepth 100000
set_option maxHeartbeats 4000000
/-- One function was parsed: its expression's cells. -/
def P1 (ve : PE) (w : World) (e : Ending) (w' : World) : Prop :=
  ∃ (A : Option Addr) (L c g c' : Nat) (kd nn : Int) (nm : List UInt8) (op : Int) (A3 : Option Addr) (L3 c3 : Nat), e = .returned (.tuple #[.agg #[.slice A L c, .slice (some ⟨g, 0, none⟩) 1 c'], .agg #[.int .i64 0, .int .i64 0]]) ∧ g < w'.heap.size ∧
    w'.cell? ⟨g, 4, none⟩ = some (.int .i64 kd) ∧ w'.cell? ⟨g, 5, none⟩ = some (.int .i64 nn) ∧ w'.cell? ⟨g, 6, none⟩ = some (.string ⟨nm.toArray⟩) ∧ w'.cell? ⟨g, 7, none⟩ = some (.int .i64 op) ∧ w'.cell? ⟨g, 8, none⟩ = some (.slice A3 L3 c3) ∧
    RepE w' (fun x => x < w'.heap.size) ve (exC kd nn nm op A3 L3 c3) ∧ Below w.heap.size w w'
theorem p1_of {ars : List (List UInt8 × Int)} {f : FN} {w : World} {e : Ending} {w' : World} (h : PaP (⟨ars, [f]⟩, 0, 0) w e w') : P1 f.value w e w' := by
  obtain ⟨A, L, c, A', L', c', rfl, _, ⟨F, ⟨A2, cc, hv, hrow⟩, hel⟩, hb⟩ := h
  obtain ⟨g, rfl, hg, hcell⟩ := hrow (by show 0 < 1; decide)
  injection hv with h1 h2 h3
  subst h1 h2 h3
  obtain ⟨B1, K1, d1, B2, K2, d2, B3, K3, d3, kd, nn, nm, op, A3, L3, c3, hF, _, _, _, hE⟩ := hel 0 f rfl
  have hc := fun j u (h : (F 0)[j]? = some u) => hcell 0 j u (by show 0 < 1; decide) h
  rw [hF] at hc
  have e4 := hc 4 _ rfl
  have e5 := hc 5 _ rfl
  have e6 := hc 6 _ rfl
  have e7 := hc 7 _ rfl
  have e8 := hc 8 _ rfl
  exact ⟨A, L, c, g, _, kd, nn, nm, op, A3, L3, c3, rfl, hg.2, by simpa using e4, by simpa using e5, by simpa using e6, by simpa using e7, by simpa using e8, hE.keep (fun _ h => h.2) (fun _ _ => rfl), hb⟩
def P3 (y a : Int) (w : World) (e : Ending) (w' : World) : Prop :=
  ∃ A L c A' L' c', e = .returned (.tuple #[.agg #[.slice A L c, .slice A' L' c'], .agg #[.int .i64 y, .int .i64 a]]) ∧ Below w.heap.size w w'
theorem parse1 (w : World) (h : PEnv w) : Calls Tryz.prog 84 #[.string ⟨#[102, 117, 110, 99, 32, 102, 40, 41, 32, 123, 32, 114, 101, 116, 117, 114, 110, 32, 50, 32, 45, 32, 45, 51, 59, 32, 125]⟩] w (P1 (opE 5 [numE 2, numE (-3)]) w) :=
  (parse_any ⟨#[102, 117, 110, 99, 32, 102, 40, 41, 32, 123, 32, 114, 101, 116, 117, 114, 110, 32, 50, 32, 45, 32, 45, 51, 59, 32, 125]⟩ _ (Lib.hid PX.ex1_parse) w h).mono fun _ _ h => p1_of h
theorem parse2 (w : World) (h : PEnv w) : Calls Tryz.prog 84 #[.string ⟨#[102, 117, 110, 99, 32, 102, 40, 97, 41, 32, 123, 32, 114, 101, 116, 117, 114, 110, 32, 97, 32, 62, 32, 49, 59, 32, 125]⟩] w (P1 (opE 17 [numE 1, varE [97]]) w) :=
  (parse_any ⟨#[102, 117, 110, 99, 32, 102, 40, 97, 41, 32, 123, 32, 114, 101, 116, 117, 114, 110, 32, 97, 32, 62, 32, 49, 59, 32, 125]⟩ _ (Lib.hid PX.ex2_parse) w h).mono fun _ _ h => p1_of h
theorem parse3 (w : World) (h : PEnv w) : Calls Tryz.prog 84 #[.string ⟨#[102, 117, 110, 99, 32, 102, 40, 41, 32, 123, 32, 120, 32, 61, 32, 102, 40, 41, 32, 43, 32, 49, 59, 32, 114, 101, 116, 117, 114, 110, 32, 48, 59, 32, 125]⟩] w (P3 2 19 w) :=
  (parse_any ⟨#[102, 117, 110, 99, 32, 102, 40, 41, 32, 123, 32, 120, 32, 61, 32, 102, 40, 41, 32, 43, 32, 49, 59, 32, 114, 101, 116, 117, 114, 110, 32, 48, 59, 32, 125]⟩ _ (Lib.hid PX.ex3_parse) w h).mono fun _ _ ⟨A, L, c, A', L', c', he, _, _, hb⟩ => ⟨A, L, c, A', L', c', he, hb⟩
end Go.Proofs.YtkjbjjiajopfpaaGreatDoor
