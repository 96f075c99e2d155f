/- Stage 3, plain mathematics of ParserPrecedence: the two texts of a pair of operators and their tree. -/
import Derived.Test.YtgiggkfnpbgkpaaGreatDoorBa
namespace Go.Proofs.YtgiggkfnpbgkpaaGreatDoor.PX
open Go Go.RowKit WM LX

/-- The parse by computation. -/
def parseN (l : List UInt8) : PG × Nat × Nat :=
  let q := scanN l
  if q.2.1 = 0 then parseT q.1 l.length else (⟨[], []⟩, q.2.1, q.2.2)
theorem parseN_eq (l : List UInt8) : parseN l = parseF l := by
  unfold parseN parseF
  rw [scanN_eq]
  obtain ⟨⟨ts, y, a⟩, hq⟩ : ∃ q, scanF l = q := ⟨_, rfl⟩
  rw [hq]
  dsimp only
  by_cases hy : y = 0
  · rw [if_pos hy, if_pos hy]
    rfl
  · rw [if_neg hy, if_neg hy]
/-- The signs and their operations. -/
def prT : List (List UInt8 × Int) := [([124], 10), ([94], 11), ([38], 9), ([61, 61], 15), ([60], 17), ([60, 60], 12), ([43], 4), ([42], 6)]
def prS (p : Nat) : List UInt8 := (prT.getD p ([], 0)).1
def prO (p : Nat) : Int := (prT.getD p ([], 0)).2
/-- x P y Q z, and with its parentheses. -/
def prA (p q : Nat) : List UInt8 := [120, 32] ++ prS p ++ [32, 121, 32] ++ prS q ++ [32, 122]
def prB (p q : Nat) : List UInt8 := if q ≤ p then [40, 40, 120, 41, 32] ++ prS p ++ [32, 121, 41, 32] ++ prS q ++ [32, 40, 40, 40, 122, 41, 41, 41] else [120, 32] ++ prS p ++ [32, 40, 121, 32] ++ prS q ++ [32, 122, 41]
abbrev prH : List UInt8 := [102, 117, 110, 99, 32, 102, 40, 120, 44, 32, 121, 44, 32, 122, 41, 32, 123, 32, 114, 101, 116, 117, 114, 110, 32]
def prE (p q : Nat) : List UInt8 := prH ++ prA p q ++ [59, 32, 125]
def prF' (p q : Nat) : List UInt8 := prH ++ [40] ++ prB p q ++ [41, 59, 32, 125]
def prV (p q : Nat) : PE := if q ≤ p then opE (prO q) [opE (prO p) [varE [120], varE [121]], varE [122]] else opE (prO p) [varE [120], opE (prO q) [varE [121], varE [122]]]
def prR (p q : Nat) : PG × Nat × Nat := (⟨[], [⟨[102], [[120], [121], [122]], [], [], prV p q⟩]⟩, 0, 0)
def prI : List (Nat × Nat) := (List.range 64).map fun i => (i / 8, i % 8)
theorem prI_in {p q : Nat} (hp : p < 8) (hq : q < 8) : (p, q) ∈ prI := by
  unfold prI
  rw [List.mem_map]
  exact ⟨8 * p + q, List.mem_range.2 (by omega), by rw [show (8 * p + q) / 8 = p by omega, show (8 * p + q) % 8 = q by omega]⟩
theorem prE_all : (prI.map fun x => parseN (prE x.1 x.2)) = prI.map fun x => prR x.1 x.2 := by kernel_rfl
theorem prF_all : (prI.map fun x => parseN (prF' x.1 x.2)) = prI.map fun x => prR x.1 x.2 := by kernel_rfl
theorem prE_parse {p q : Nat} (hp : p < 8) (hq : q < 8) : parseF (prE p q) = prR p q := by
  rw [← parseN_eq]
  exact (List.map_inj_left.1 prE_all) (p, q) (prI_in hp hq)
theorem prF_parse {p q : Nat} (hp : p < 8) (hq : q < 8) : parseF (prF' p q) = prR p q := by
  rw [← parseN_eq]
  exact (List.map_inj_left.1 prF_all) (p, q) (prI_in hp hq)
theorem prS_len : ∀ p, p < 8 → (prS p).length ≤ 2 := by
  intro p hp
  have : (List.range 8).all (fun p => decide ((prS p).length ≤ 2)) = true := by decide
  exact of_decide_eq_true (List.all_eq_true.1 this p (List.mem_range.2 hp))
end Go.Proofs.YtgiggkfnpbgkpaaGreatDoor.PX
