/- Stage 3: ParserNegativeNumbers: the plain mathematics, the contracts, the walk. -/
import Derived.Test.YtjeidpfpgolonaaDoorQh
import Derived.Test.YtjeidpfpgolonaaDoorPq
import Derived.Test.YtjeidpfpgolonaaDoorRf
import Derived.Test.YtjeidpfpgolonaaDoorRk
import Derived.KernelRfl
/- Stage 3, plain mathematics: the parse of 'func f() { return - - .. n; }'. -/
namespace Go.Proofs.YtjeidpfpgolonaaDoor.PX
open Go Go.RowKit WM LX

/- func f() { return -/
abbrev ngPre : List UInt8 := [102, 117, 110, 99, 32, 102, 40, 41, 32, 123, 32, 114, 101, 116, 117, 114, 110]
abbrev ngPT : List Tk := [⟨1, wFunc, 0⟩, ⟨1, [102], 5⟩, ⟨3, [40], 6⟩, ⟨3, [41], 7⟩, ⟨3, [123], 9⟩, ⟨1, wReturn, 11⟩]
def ngM : Nat → List UInt8
  | 0 => []
  | k + 1 => 45 :: 32 :: ngM k
def ngMT : Nat → Nat → List Tk
  | 0, _ => []
  | k + 1, p => ⟨3, [45], p⟩ :: ngMT k (p + 2)
abbrev ngE (u : List UInt8) (p : Nat) : List Tk := [⟨2, u, p⟩, ⟨3, [59], p + u.length⟩, ⟨3, [125], p + u.length + 2⟩]
def ngT (k : Nat) (u : List UInt8) : List Tk := ngPT ++ (ngMT k 18 ++ ngE u (18 + 2 * k))
theorem lx_pre (r : List UInt8) : lx (ngPre ++ 32 :: r) 0 = (ngPT ++ (lx r 18).1, (lx r 18).2) := by
  have h : lxN (((32 : UInt8) :: r).length + 1 + 17) (ngPre ++ 32 :: r) 0 = (ngPT ++ (lxN (((32 : UInt8) :: r).length + 1 + 11) (32 :: r) 17).1, (lxN (((32 : UInt8) :: r).length + 1 + 11) (32 :: r) 17).2) := by kernel_rfl
  rw [lxN_eq _ _ _ (by simp), lxN_eq _ _ _ (by simp), lx_sep _ _ (by rfl)] at h
  exact h
theorem lx_minus (r : List UInt8) (p : Nat) : lx (45 :: 32 :: r) p = (⟨3, [45], p⟩ :: (lx r (p + 2)).1, (lx r (p + 2)).2) := by
  rw [lx_tok p (by rfl) (by simp) (by rfl)]
  show ((⟨3, [45], p⟩ : Tk) :: (lx (32 :: r) (p + 1)).1, (lx (32 :: r) (p + 1)).2) = _
  rw [lx_sep _ _ (by rfl)]
theorem lx_ms (k : Nat) : ∀ (r : List UInt8) (p : Nat), lx (ngM k ++ r) p = (ngMT k p ++ (lx r (p + 2 * k)).1, (lx r (p + 2 * k)).2) := by
  induction k with
  | zero => intro r p; rfl
  | succ k ih =>
    intro r p
    show lx (45 :: 32 :: (ngM k ++ r)) p = _
    rw [lx_minus, ih, show p + 2 + 2 * k = p + 2 * (k + 1) by omega]
    rfl
theorem dig_word {c : UInt8} (h : 48 ≤ c.toNat ∧ c.toNat ≤ 57) : digB c = true := by
  unfold digB; simp [h]
theorem wlen_dec (u : Nat) (m : List UInt8) : wlen (Lib.decDigits u ++ 59 :: m) = (Lib.decDigits u).length := by
  unfold wlen
  rw [List.takeWhile_append_of_pos (fun c hc => by unfold wordB; rw [dig_word ((dec_facts u).1 c hc)]; simp)]
  rw [List.takeWhile_cons, if_neg (by decide)]
  simp
theorem lx_num (u : Nat) (hu : u ≤ 9223372036854775808) (p : Nat) : lx (Lib.decDigits u ++ [59, 32, 125]) p = (ngE (Lib.decDigits u) p, 0, 0) := by
  obtain ⟨c, l, e, h1, h2⟩ := dec_head u
  have hw := wlen_dec u [32, 125]
  have hd := dig_word ⟨h1, h2⟩
  have hn := (num_dec u most63 (by omega) (by unfold most63; omega)).1
  have hh : (Lib.decDigits u ++ [59, 32, 125]).headD 0 = c := by rw [e]; rfl
  have hN : tokN (Lib.decDigits u ++ [59, 32, 125]) = (Lib.decDigits u).length := by
    unfold tokN wordB; rw [hh, hd, if_pos (by simp), hw]
  have hK : tokK (Lib.decDigits u ++ [59, 32, 125]) = 2 := by unfold tokK; rw [hh, hd]; rfl
  have hs : skipLen false (Lib.decDigits u ++ [59, 32, 125]) = 0 := by
    rw [e]
    exact skip_zero _ (by unfold sepB; simp; omega) (by omega)
  rw [lx_tok p hs (by simp) (by unfold tokE; rw [hh, hd, hw, List.take_left, hn]; rfl), hN, hK, List.take_left, List.drop_left]
  have h3 : ∀ q, lx [59, 32, 125] q = ([⟨3, [59], q⟩, ⟨3, [125], q + 2⟩], 0, 0) := by
    intro q
    rw [lx_tok q (by rfl) (by simp) (by rfl)]
    show ((⟨3, [59], q⟩ : Tk) :: (lx [32, 125] (q + 1)).1, (lx [32, 125] (q + 1)).2) = _
    rw [lx_sep _ _ (by rfl), lx_tok _ (by rfl) (by simp) (by rfl)]
    show ((⟨3, [59], q⟩ : Tk) :: ⟨3, [125], q + 1 + 1⟩ :: (lx [] (q + 1 + 1 + 1)).1, (lx [] (q + 1 + 1 + 1)).2) = _
    rw [lx_nil]
  rw [h3]
def ngS (k : Nat) (u : Nat) : List UInt8 := ngPre ++ 32 :: (ngM k ++ (Lib.decDigits u ++ [59, 32, 125]))
theorem ngM_len (k : Nat) : (ngM k).length = 2 * k := by
  induction k with
  | zero => rfl
  | succ k ih => show (ngM k).length + 1 + 1 = _; omega
theorem ng_scan (k u : Nat) (hk : k ≤ 5) (hu : u ≤ 9223372036854775808) (hl : (Lib.decDigits u).length ≤ 40) : scanF (ngS k u) = (ngT k (Lib.decDigits u), 0, 0) := by
  unfold scanF ngS
  have h1 : (ngPre ++ 32 :: (ngM k ++ (Lib.decDigits u ++ [59, 32, 125]))).length = 18 + (2 * k + ((Lib.decDigits u).length + 3)) := by
    simp [ngM_len]; omega
  rw [h1, if_neg (by omega), lx_pre, lx_ms, lx_num u hu]
  rfl
/-- The value that the text's expression has. -/
def ngX : Nat → PE → PE
  | 0, e => e
  | k + 1, e => opE 20 [ngX k e]
theorem ng_pg10 (u : List UInt8) : pgF (ngT (0 + 1) u) (5 * (ngT (0 + 1) u).length + 20) ⟨0, false⟩ = (⟨[], [⟨[102], [], [], [], ngX 0 (numE (negV u))⟩]⟩, ⟨10 + 0, false⟩) := by kernel_rfl
theorem ng_pg11 (u : List UInt8) : pgF (ngT (1 + 1) u) (5 * (ngT (1 + 1) u).length + 20) ⟨0, false⟩ = (⟨[], [⟨[102], [], [], [], ngX 1 (numE (negV u))⟩]⟩, ⟨10 + 1, false⟩) := by kernel_rfl
theorem ng_pg12 (u : List UInt8) : pgF (ngT (2 + 1) u) (5 * (ngT (2 + 1) u).length + 20) ⟨0, false⟩ = (⟨[], [⟨[102], [], [], [], ngX 2 (numE (negV u))⟩]⟩, ⟨10 + 2, false⟩) := by kernel_rfl
theorem ng_pg13 (u : List UInt8) : pgF (ngT (3 + 1) u) (5 * (ngT (3 + 1) u).length + 20) ⟨0, false⟩ = (⟨[], [⟨[102], [], [], [], ngX 3 (numE (negV u))⟩]⟩, ⟨10 + 3, false⟩) := by kernel_rfl
theorem ng_pg14 (u : List UInt8) : pgF (ngT (4 + 1) u) (5 * (ngT (4 + 1) u).length + 20) ⟨0, false⟩ = (⟨[], [⟨[102], [], [], [], ngX 4 (numE (negV u))⟩]⟩, ⟨10 + 4, false⟩) := by kernel_rfl
theorem ng_pg1 (u : List UInt8) (k : Nat) (hk : k ≤ 4) : pgF (ngT (k + 1) u) (5 * (ngT (k + 1) u).length + 20) ⟨0, false⟩ = (⟨[], [⟨[102], [], [], [], ngX k (numE (negV u))⟩]⟩, ⟨10 + k, false⟩) := by
  have h : k = 0 ∨ k = 1 ∨ k = 2 ∨ k = 3 ∨ k = 4 := by omega
  clear hk
  rcases h with h | h | h | h | h <;> subst h
  · exact ng_pg10 u
  · exact ng_pg11 u
  · exact ng_pg12 u
  · exact ng_pg13 u
  · exact ng_pg14 u
theorem ng_pr0 {u : List UInt8} {v : Int} (hd : ∃ c l, u = c :: l ∧ 48 ≤ c.toNat ∧ c.toNat ≤ 57) (hb : parseB u = true) (hv : parseV u = v) (n : Nat) : prF (ngT 0 u) (n + 2) ⟨6, false⟩ = (numE v, ⟨7, false⟩) := by
  obtain ⟨c, l, rfl, h1, h2⟩ := hd
  have hp : pk (ngT 0 (c :: l)) ⟨6, false⟩ = ⟨2, c :: l, 18⟩ := rfl
  have hne : ∀ x : UInt8, x.toNat < 48 ∨ 57 < x.toNat → nx (ngT 0 (c :: l)) ⟨6, false⟩ [x] = false := by
    intro x hx
    unfold nx
    rw [hp, decide_eq_false_iff_not]
    intro h
    have : c = x := by simpa using (List.cons.inj h).1
    subst this
    omega
  rw [prF, hne 45 (by decide), if_neg (by decide), hne 126 (by decide), if_neg (by decide), hne 33 (by decide), if_neg (by decide), piF, hp, if_pos rfl, if_pos hb, hv]
  rfl
theorem ng_ex0 {u : List UInt8} {v : Int} (hd : ∃ c l, u = c :: l ∧ 48 ≤ c.toNat ∧ c.toNat ≤ 57) (hb : parseB u = true) (hv : parseV u = v) (n : Nat) : exF (ngT 0 u) (n + 4) ⟨6, false⟩ = (numE v, ⟨7, false⟩) := by
  have hbi : biF (ngT 0 u) (n + 3) 1 ⟨6, false⟩ = (numE v, ⟨7, false⟩) := by
    rw [biF, ng_pr0 hd hb hv]
    rfl
  rw [exF, hbi]
  rfl
theorem ng_fn0 (u : List UInt8) (n : Nat) : fnF (ngT 0 u) (n + 4) ⟨1, false⟩ = (⟨[102], [], [], [], (exF (ngT 0 u) (n + 4) ⟨6, false⟩).1⟩, exs (ngT 0 u) (exs (ngT 0 u) (exF (ngT 0 u) (n + 4) ⟨6, false⟩).2 cSemi) cRc) := by kernel_rfl
theorem ng_pg0 {u : List UInt8} {v : Int} (hd : ∃ c l, u = c :: l ∧ 48 ≤ c.toNat ∧ c.toNat ≤ 57) (hb : parseB u = true) (hv : parseV u = v) : pgF (ngT 0 u) (64 + 1) ⟨0, false⟩ = (⟨[], [⟨[102], [], [], [], numE v⟩]⟩, ⟨9, false⟩) := by
  have hf : fnF (ngT 0 u) 64 (adv ⟨0, false⟩) = (⟨[102], [], [], [], numE v⟩, ⟨9, false⟩) := by
    have e1 := ng_fn0 u 60
    rw [ng_ex0 hd hb hv 60] at e1
    have e2 : exs (ngT 0 u) (exs (ngT 0 u) ⟨7, false⟩ cSemi) cRc = ⟨9, false⟩ := by kernel_rfl
    rw [e2] at e1
    exact e1
  have h1 : pgF (ngT 0 u) 64 ⟨9, false⟩ = (⟨[], []⟩, ⟨9, false⟩) := by kernel_rfl
  have c1 : ((⟨0, false⟩ : PS).f || decide ((ngT 0 u).length ≤ (⟨0, false⟩ : PS).i)) = false := by kernel_rfl
  have c2 : nx (ngT 0 u) ⟨0, false⟩ wArray = false := by kernel_rfl
  have c3 : nx (ngT 0 u) ⟨0, false⟩ wFunc = true := by kernel_rfl
  rw [pgF, if_neg (by rw [c1]; decide), if_neg (by rw [c2]; decide), if_pos c3, hf, h1]
/-- The parse of the text. -/
theorem ng_parse0 (u : Nat) (hu : u ≤ 9223372036854775807) (hl : (Lib.decDigits u).length ≤ 40) : parseF (ngS 0 u) = (⟨[], [⟨[102], [], [], [], numE u⟩]⟩, 0, 0) := by
  have hi : inW (u : Int) := by unfold inW; omega
  have he : Lib.itoa (u : Int) = Lib.decDigits u := by unfold Lib.itoa; rw [if_neg (by omega)]; simp
  have hb := parseB_itoa _ hi
  have hv := parseV_itoa _ hi
  rw [he] at hb hv
  have h := ng_pg0 (by obtain ⟨c, l, e, h1, h2⟩ := dec_head u; exact ⟨c, l, e, h1, h2⟩) hb hv
  have hlen : 5 * (ngT 0 (Lib.decDigits u)).length + 20 = 64 + 1 := by kernel_rfl
  unfold parseF
  rw [ng_scan 0 u (by omega) (by omega) hl]
  dsimp only
  rw [if_pos rfl, hlen, h]
  rfl
theorem negV_dec (u : Nat) (hu : u ≤ 9223372036854775808) : negV (Lib.decDigits u) = -(u : Int) := by
  have hf := dec_facts u
  unfold negV
  by_cases h : u = 0
  · subst h
    rw [if_pos (by rw [Lib.decDigits_one (by decide)]; rfl)]
    rfl
  · rw [if_neg (by intro e; have := hf.2.1 (by omega); rw [e] at this; exact this rfl)]
    have he : Lib.itoa (-(u : Int)) = 45 :: Lib.decDigits u := by
      unfold Lib.itoa
      rw [if_pos (by omega)]
      simp
    rw [← he]
    exact parseV_itoa _ (by unfold inW; omega)
theorem ng_parse1 (k u : Nat) (hk : k ≤ 4) (hu : u ≤ 9223372036854775808) (hl : (Lib.decDigits u).length ≤ 40) : parseF (ngS (k + 1) u) = (⟨[], [⟨[102], [], [], [], ngX k (numE (-(u : Int)))⟩]⟩, 0, 0) := by
  have h := ng_pg1 (Lib.decDigits u) k hk
  rw [negV_dec u hu] at h
  unfold parseF
  rw [ng_scan (k + 1) u (by omega) hu hl]
  dsimp only
  rw [if_pos rfl, h]
  rfl
/- func f() { return 9223372036854775808; }, and with its sign -/
theorem ng_min : parseF (ngPre ++ 32 :: 45 :: [57, 50, 50, 51, 51, 55, 50, 48, 51, 54, 56, 53, 52, 55, 55, 53, 56, 48, 56, 59, 32, 125]) = (⟨[], [⟨[102], [], [], [], numE (-9223372036854775808)⟩]⟩, 0, 0) :=
  parseF_of (ts := ngPT ++ [⟨3, [45], 18⟩, ⟨2, [57, 50, 50, 51, 51, 55, 50, 48, 51, 54, 56, 53, 52, 55, 55, 53, 56, 48, 56], 19⟩, ⟨3, [59], 38⟩, ⟨3, [125], 40⟩]) (len := 41) (by kernel_rfl) (by kernel_rfl) (by kernel_rfl)
theorem ng_big : parseF (ngS 0 9223372036854775808) = (⟨[], []⟩, 2, 18) := by
  have e : Lib.decDigits 9223372036854775808 = [57, 50, 50, 51, 51, 55, 50, 48, 51, 54, 56, 53, 52, 55, 55, 53, 56, 48, 56] := by simp [Lib.decDigits]
  unfold ngS
  rw [e]
  exact parseF_of (ts := ngT 0 [57, 50, 50, 51, 51, 55, 50, 48, 51, 54, 56, 53, 52, 55, 55, 53, 56, 48, 56]) (len := 40) (by kernel_rfl) (by kernel_rfl) (by kernel_rfl)
end Go.Proofs.YtjeidpfpgolonaaDoor.PX
/- Stage 3: Parse of 'func f() { return - - .. n; }', as the law's walk meets it. -/
namespace Go.Proofs.YtjeidpfpgolonaaDoor
open Go.RowKit (wrap64 intOf)
open Go Go.RowKit WM LX PX

theorem ngM_snoc (k : Nat) : ngM k ++ [45, 32] = ngM (k + 1) := by
  induction k with
  | zero => rfl
  | succ k ih => show 45 :: 32 :: (ngM k ++ [45, 32]) = _; rw [ih]; rfl
/-- The text as the law joins it. -/
theorem ng_text (k u : Nat) (t : ByteArray) (ht : t.data.toList = ngM k) : (((⟨#[102, 117, 110, 99, 32, 102, 40, 41, 32, 123, 32, 114, 101, 116, 117, 114, 110, 32]⟩ : ByteArray) ++ t ++ ⟨(Lib.itoa (u : Int)).toArray⟩) ++ ⟨#[59, 32, 125]⟩).data.toList = ngS k u := by
  have he : Lib.itoa (u : Int) = Lib.decDigits u := by unfold Lib.itoa; rw [if_neg (by omega)]; simp
  unfold ngS
  rw [he]
  simp [ByteArray.data_append, ht]
/-- The number with its sign, by how many minuses stand before it. -/
def ngZ (k u : Nat) : Int := if k = 0 then (u : Int) else -(u : Int)
theorem itoa_nat (u : Nat) : Lib.itoa (u : Int) = Lib.decDigits u := by unfold Lib.itoa; rw [if_neg (by omega)]; simp
theorem ng_parse_0 (s : ByteArray) (u : Nat) (hu : u ≤ 9223372036854775807) (hl : (Lib.decDigits u).length ≤ 40) (hs : s.data.toList = ngS 0 u) (w : World) (h : PEnv w) :
    Calls Tryd.prog 13 #[.string s] w (P1 (numE u) w) :=
  (parse_any s _ (Lib.hid (by rw [hs]; exact ng_parse0 u hu hl)) w h).mono fun _ _ h => p1_of h
theorem ng_parse_1 (s : ByteArray) (k u : Nat) (hk : k ≤ 4) (hu : u ≤ 9223372036854775807) (hl : (Lib.decDigits u).length ≤ 40) (hs : s.data.toList = ngS (k + 1) u) (w : World) (h : PEnv w) :
    Calls Tryd.prog 13 #[.string s] w (P1 (ngX k (numE (-(u : Int)))) w) :=
  (parse_any s _ (Lib.hid (by rw [hs]; exact ng_parse1 k u hk (by omega) hl)) w h).mono fun _ _ h => p1_of h
theorem ng_parse (s : ByteArray) (k u : Nat) (hk : k ≤ 5) (hu : u ≤ 9223372036854775807) (hl : (Lib.decDigits u).length ≤ 40) (hs : s.data.toList = ngS k u) (w : World) (h : PEnv w) :
    Calls Tryd.prog 13 #[.string s] w (P1 (ngX (k - 1) (numE (ngZ k u))) w) := by
  cases k with
  | zero => exact ng_parse_0 s u hu hl hs w h
  | succ k =>
    rw [show ngZ (k + 1) u = -(u : Int) by unfold ngZ; rw [if_neg (by omega)]]
    exact ng_parse_1 s k u (by omega) hu hl hs w h
theorem dec_len (u : Nat) (hu : u ≤ 9223372036854775807) : (Lib.decDigits u).length ≤ 40 := by
  rw [Lib.decDigits_length]
  have := nDigits_le 18 u (by omega)
  omega
theorem big_parseF : parseF [102, 117, 110, 99, 32, 102, 40, 41, 32, 123, 32, 114, 101, 116, 117, 114, 110, 32, 57, 50, 50, 51, 51, 55, 50, 48, 51, 54, 56, 53, 52, 55, 55, 53, 56, 48, 56, 59, 32, 125] = (⟨[], []⟩, 2, 18) :=
  parseF_of (ts := [⟨1, wFunc, 0⟩, ⟨1, [102], 5⟩, ⟨3, [40], 6⟩, ⟨3, [41], 7⟩, ⟨3, [123], 9⟩, ⟨1, wReturn, 11⟩, ⟨2, [57, 50, 50, 51, 51, 55, 50, 48, 51, 54, 56, 53, 52, 55, 55, 53, 56, 48, 56], 18⟩, ⟨3, [59], 37⟩, ⟨3, [125], 39⟩]) (len := 40) (by kernel_rfl) (by kernel_rfl) (by kernel_rfl)
theorem min_parseF : parseF [102, 117, 110, 99, 32, 102, 40, 41, 32, 123, 32, 114, 101, 116, 117, 114, 110, 32, 45, 57, 50, 50, 51, 51, 55, 50, 48, 51, 54, 56, 53, 52, 55, 55, 53, 56, 48, 56, 59, 32, 125] = (⟨[], [⟨[102], [], [], [], numE (-9223372036854775808)⟩]⟩, 0, 0) :=
  parseF_of (ts := [⟨1, wFunc, 0⟩, ⟨1, [102], 5⟩, ⟨3, [40], 6⟩, ⟨3, [41], 7⟩, ⟨3, [123], 9⟩, ⟨1, wReturn, 11⟩, ⟨3, [45], 18⟩, ⟨2, [57, 50, 50, 51, 51, 55, 50, 48, 51, 54, 56, 53, 52, 55, 55, 53, 56, 48, 56], 19⟩, ⟨3, [59], 38⟩, ⟨3, [125], 40⟩]) (len := 41) (by kernel_rfl) (by kernel_rfl) (by kernel_rfl)
theorem big_parse (w : World) (h : PEnv w) : Calls Tryd.prog 13 #[.string ⟨#[102, 117, 110, 99, 32, 102, 40, 41, 32, 123, 32, 114, 101, 116, 117, 114, 110, 32, 57, 50, 50, 51, 51, 55, 50, 48, 51, 54, 56, 53, 52, 55, 55, 53, 56, 48, 56, 59, 32, 125]⟩] w (P3 2 18 w) :=
  (parse_any ⟨#[102, 117, 110, 99, 32, 102, 40, 41, 32, 123, 32, 114, 101, 116, 117, 114, 110, 32, 57, 50, 50, 51, 51, 55, 50, 48, 51, 54, 56, 53, 52, 55, 55, 53, 56, 48, 56, 59, 32, 125]⟩ _ (Lib.hid big_parseF) w h).mono fun _ _ ⟨A, L, c, A', L', c', he, _, _, hb⟩ => ⟨A, L, c, A', L', c', he, hb⟩
theorem min_parse (w : World) (h : PEnv w) : Calls Tryd.prog 13 #[.string ⟨#[102, 117, 110, 99, 32, 102, 40, 41, 32, 123, 32, 114, 101, 116, 117, 114, 110, 32, 45, 57, 50, 50, 51, 51, 55, 50, 48, 51, 54, 56, 53, 52, 55, 55, 53, 56, 48, 56, 59, 32, 125]⟩] w (P1 (numE (-9223372036854775808)) w) :=
  (parse_any ⟨#[102, 117, 110, 99, 32, 102, 40, 41, 32, 123, 32, 114, 101, 116, 117, 114, 110, 32, 45, 57, 50, 50, 51, 51, 55, 50, 48, 51, 54, 56, 53, 52, 55, 55, 53, 56, 48, 56, 59, 32, 125]⟩ _ (Lib.hid min_parseF) w h).mono fun _ _ h => p1_of h
end Go.Proofs.YtjeidpfpgolonaaDoor
/- Stage 3: the walk of ParserNegativeNumbers. -/
namespace Go.Proofs.YtjeidpfpgolonaaDoor
open Go.RowKit (wrap64 intOf)
open Go Go.RowKit WM LX PX

set_option maxRecDepth 100000
set_option maxHeartbeats 4000000
theorem inv0 {w : World} {ok : Nat → Prop} {z kd nn : Int} {nm : List UInt8} {op : Int} {A : Option Addr} {L c : Nat} (h : RepE w ok (numE z) (exC kd nn nm op A L c)) : kd = 1 ∧ nn = z := by
  generalize hcs : exC kd nn nm op A L c = cs at h
  cases h with
  | mk _ _ _ _ _ A' c' g F hA hc hk =>
    simp only [List.cons.injEq, Value.int.injEq] at hcs
    exact ⟨hcs.1.2, hcs.2.1.2⟩
theorem exC_of {w : World} {ok : Nat → Prop} {e : PE} {cs : List Value} (h : RepE w ok e cs) : ∃ kd nn nm op A L c, cs = exC kd nn nm op A L c := by
  cases h with
  | mk kind n name op kids A c g F hA hc hk => exact ⟨_, _, _, _, _, _, _, rfl⟩
theorem inv1 {w : World} {ok : Nat → Prop} {a : PE} {o kd nn : Int} {nm : List UInt8} {op : Int} {A : Option Addr} {L c : Nat} (h : RepE w ok (opE o [a]) (exC kd nn nm op A L c)) :
    kd = 4 ∧ op = o ∧ L = 1 ∧ ∃ (g : Nat) (kd' nn' : Int) (nm' : List UInt8) (op' : Int) (A' : Option Addr) (L' c' : Nat), A = some ⟨g, 0, none⟩ ∧ ok g ∧ w.cell? ⟨g, 0, none⟩ = some (.int .i64 kd') ∧ w.cell? ⟨g, 1, none⟩ = some (.int .i64 nn') ∧
      w.cell? ⟨g, 2, none⟩ = some (.string ⟨nm'.toArray⟩) ∧ w.cell? ⟨g, 3, none⟩ = some (.int .i64 op') ∧ w.cell? ⟨g, 4, none⟩ = some (.slice A' L' c') ∧ RepE w ok a (exC kd' nn' nm' op' A' L' c') := by
  generalize hcs : exC kd nn nm op A L c = cs at h
  cases h with
  | mk _ _ _ _ _ A1 c1 g F hA hc hk =>
    simp only [List.cons.injEq, Value.int.injEq, Value.slice.injEq] at hcs
    obtain ⟨hA1, hok⟩ := hA (by simp)
    have hr := hk 0 a rfl
    obtain ⟨kd', nn', nm', op', A', L', c', e⟩ := exC_of hr
    rw [e] at hr
    have hc' := fun j u (h : (exC kd' nn' nm' op' A' L' c')[j]? = some u) => hc 0 j u (by simp) (by rw [e]; exact h)
    refine ⟨hcs.1.2, hcs.2.2.2.1.2, by have := hcs.2.2.2.2.1.2.1; simpa using this, g, kd', nn', nm', op', A', L', c', hcs.2.2.2.2.1.1.trans hA1, hok, ?_, ?_, ?_, ?_, ?_, hr⟩
    · simpa using hc' 0 _ rfl
    · simpa using hc' 1 _ rfl
    · simpa using hc' 2 _ rfl
    · simpa using hc' 3 _ rfl
    · simpa using hc' 4 _ rfl
theorem ng_pos (u K : Nat) (m : Int) (hu : u ≤ 9223372036854775807) (hl : (Lib.decDigits u).length ≤ 40) (hK : Hid (m % 6 = (K : Int))) (hK6 : K < 6) (w : World) (h : PEnv w) :
    Calls Tryd.prog 6 #[.int .i64 (u : Int), .int .i64 m] w (RetN (.bool true) w) := by
  have HL := Lib.hid hl
  have HE := Lib.hid h
  clear hl h
  go_enter Tryd.func6, Tryd.ntmps6
  go_wp2_with fail
  go_loopw [5, 6] (fun s i wr => ∃ (k : Nat) (t : ByteArray), k ≤ K ∧ i = .int .i64 k ∧ s = .string t ∧ t.size = 2 * k ∧ Hid (t.data.toList = ngM k) ∧ wr = w) (fun _ i _ => K - (intOf i).toNat)
  case atStart => exact ⟨0, ⟨#[]⟩, Nat.zero_le _, rfl, rfl, rfl, Lib.hid rfl, rfl⟩
  case round =>
    obtain ⟨k, t, hk, rfl, rfl, ht, HT, rfl⟩ := hrel
    by_cases hlt : k < K
    · go_wp2_with (go_at_call 15; ((with_reducible refine (pick_any _ 6 _ (by decide) (by decide) hK.out _).mono ?_); rintro e w' ⟨rfl, rfl⟩))
      go_roundw
      case rel => exact ⟨k + 1, t ++ ⟨#[45, 32]⟩, by omega, by go_num, rfl, by rw [ByteArray.size_append, ht]; rfl, Lib.hid (by rw [← ngM_snoc, ← HT.out]; simp [ByteArray.data_append]), (by trivial)⟩
      case measure => simp [intOf]; omega
    · obtain rfl : k = K := by omega
      go_wp2_with (go_at_call 15; ((with_reducible refine (pick_any _ 6 _ (by decide) (by decide) hK.out _).mono ?_); rintro e w' ⟨rfl, rfl⟩))
      go_wp2_with fail
      refine (rtext_any (u : Int) (by unfold inW; omega) _ _ (Nat.le_refl _)).mono ?_
      rintro e w1 ⟨rfl, hb0⟩
      have hsz : (⟨(Lib.itoa (u : Int)).toArray⟩ : ByteArray).size ≤ 40 := by rw [itoa_nat]; show (Lib.decDigits u).toArray.size ≤ 40; simpa using HL.out
      have HE1 := Lib.hid (HE.out.on hb0)
      obtain ⟨tx, htx⟩ : ∃ tx : ByteArray, (⟨(Lib.itoa (u : Int)).toArray⟩ : ByteArray) = tx := ⟨_, rfl⟩
      rw [htx] at hsz ⊢
      go_wp2_with fail
      refine (ng_parse _ k u (by omega) hu HL.out (by rw [← htx]; exact ng_text k u t HT.out) _ HE1.out).mono ?_
      rintro e w2 ⟨A, L, c, g, c', kd, nn, nm, op, A3, L3, c3, rfl, hg, u4, u5, u6, u7, u8, hr, hb⟩
      have HR := Lib.hid hr
      have HB := Lib.hid (hb0.trans (below_down hb hb0.size))
      have HE2 := Lib.hid (HE1.out.on hb)
      clear hr hb hb0
      go_wp2_with fail
      go_loopw [10] (fun i wr => ∃ (i' d : Nat) (kd nn : Int) (nm : List UInt8) (op : Int) (A3 : Option Addr) (L3 c3 : Nat), i = .int .i64 i' ∧ 1 ≤ i' ∧ i' + d = k - 1 + 1 ∧ Below w2.heap.size w2 wr ∧ wr.heap.size = w2.heap.size + 3 ∧
        Blk wr w2.heap.size 38 #[.slice A L c, .slice (some ⟨g, 0, none⟩) 1 c'] ∧ Blk wr (w2.heap.size + 1) 30 #[.int .i64 0, .int .i64 0] ∧ Blk wr (w2.heap.size + 1 + 1) 45 #[.int .i64 kd, .int .i64 nn, .string ⟨nm.toArray⟩, .int .i64 op, .slice A3 L3 c3] ∧
        Hid (RepE wr (fun x => x < w2.heap.size) (ngX d (numE (ngZ k u))) (exC kd nn nm op A3 L3 c3))) (fun i _ => 7 - (intOf i).toNat)
      case atStart =>
        have hb3 : Below w2.heap.size w2 (((w2.alloc (.cells #[.slice A L c, .slice (some ⟨g, 0, none⟩) 1 c'] 38)).alloc (.cells #[.int .i64 0, .int .i64 0] 30)).alloc (.cells #[.int .i64 kd, .int .i64 nn, .string ⟨nm.toArray⟩, .int .i64 op, .slice A3 L3 c3] 45)) := (((Below.refl _ _).alloc (Nat.le_refl _) _).alloc (by simp) _).alloc (by simp; omega) _
        exact ⟨1, k - 1, kd, nn, nm, op, A3, L3, c3, rfl, Nat.le_refl _, by omega, hb3, by simp, ((Blk.new w2 _ _).alloc _).alloc _, (blk_at (by simp) _ _).alloc _, blk_at (by simp) _ _, Lib.hid (HR.out.keep (fun _ h => h) (fun x hx => hb3.block x hx))⟩
      case round =>
        obtain ⟨i', d, kd', nn', nm', op', A4, L4, c4, rfl, hi1, hid, hbw, hsz', k1, k2, k3, HR'⟩ := hrel
        by_cases hlt : i' < k
        · obtain ⟨d, rfl⟩ : ∃ d', d = d' + 1 := ⟨d - 1, by omega⟩
          obtain ⟨rfl, rfl, rfl, g', kd5, nn5, nm5, op5, A5, L5, c5, rfl, hg', v0, v1, v2, v3, v4, hr5⟩ := inv1 HR'.out
          obtain ⟨x0, x3, x4⟩ : wr.cell? ⟨w2.heap.size + 1 + 1, 0, none⟩ = some (.int .i64 4) ∧ wr.cell? ⟨w2.heap.size + 1 + 1, 3, none⟩ = some (.int .i64 20) ∧ wr.cell? ⟨w2.heap.size + 1 + 1, 4, none⟩ = some (.slice (some ⟨g', 0, none⟩) 1 c4) := ⟨k3.cell 0, k3.cell 3, k3.cell 4⟩
          obtain ⟨z0, z1, z2, z3, z4⟩ : wr.frozen? ⟨w2.heap.size + 1 + 1, 0, none⟩ = false ∧ wr.frozen? ⟨w2.heap.size + 1 + 1, 1, none⟩ = false ∧ wr.frozen? ⟨w2.heap.size + 1 + 1, 2, none⟩ = false ∧ wr.frozen? ⟨w2.heap.size + 1 + 1, 3, none⟩ = false ∧ wr.frozen? ⟨w2.heap.size + 1 + 1, 4, none⟩ = false := ⟨k3.free 0, k3.free 1, k3.free 2, k3.free 3, k3.free 4⟩
          have x1 := k3.cell 1
          have x2 := k3.cell 2
          have HK := Lib.hid (And.intro k1 (And.intro k2 k3))
          have HR5 := Lib.hid hr5
          have HBW := Lib.hid hbw
          have hne : g' ≠ w2.heap.size + 1 + 1 := by omega
          clear k1 k2 k3 hr5 hbw HR'
          go_wp2_with (go_at_call 15; ((with_reducible refine (pick_any _ 6 _ (by decide) (by decide) hK.out _).mono ?_); rintro e w' ⟨rfl, rfl⟩))
          go_roundw
          case rel =>
            have hx0 : w2.heap.size ≤ w2.heap.size + 1 + 1 := by omega
            have hbs : Below w2.heap.size wr (set5 wr (w2.heap.size + 1 + 1) (.int .i64 kd5) (.int .i64 nn5) (.string ⟨nm5.toArray⟩) (.int .i64 op5) (.slice A5 L5 c5)) := (((((Below.refl w2.heap.size wr)).setCell hx0 _).setCell hx0 _).setCell hx0 _).setCell hx0 _ |>.setCell hx0 _
            have hbs' : Below (w2.heap.size + 1 + 1) wr (set5 wr (w2.heap.size + 1 + 1) (.int .i64 kd5) (.int .i64 nn5) (.string ⟨nm5.toArray⟩) (.int .i64 op5) (.slice A5 L5 c5)) := (((((Below.refl (w2.heap.size + 1 + 1) wr)).setCell (Nat.le_refl _) _).setCell (Nat.le_refl _) _).setCell (Nat.le_refl _) _).setCell (Nat.le_refl _) _ |>.setCell (Nat.le_refl _) _
            exact ⟨i' + 1, d, kd5, nn5, nm5, op5, A5, L5, c5, by go_num, by omega, by omega, HBW.out.trans hbs, by simp [hsz'], HK.out.1.on hbs' (by omega), HK.out.2.1.on hbs' (by omega), set5_blk HK.out.2.2 _ _ _ _ _, Lib.hid (HR5.out.keep (fun _ h => h) (fun x hx => hbs.block x hx))⟩
          case measure => simp [intOf]; omega
        · obtain rfl : d = 0 := by omega
          have h0 : RepE wr (fun x => x < w2.heap.size) (numE (ngZ k u)) (exC kd' nn' nm' op' A4 L4 c4) := HR'.out
          obtain ⟨rfl, hnn⟩ := inv0 h0
          subst hnn
          have HBW := Lib.hid hbw
          have HK := Lib.hid (And.intro k1 (And.intro k2 k3))
          have HE3 := Lib.hid (HE2.out.on hbw)
          clear k1 k2 k3 hbw HR' h0
          by_cases hk0 : k = 0
          · subst hk0
            go_wp2_with (go_at_call 15; ((with_reducible refine (pick_any _ 6 _ (by decide) (by decide) hK.out _).mono ?_); rintro e w' ⟨rfl, rfl⟩))
            refine (big_parse _ HE3.out).mono ?_
            rintro e w4 ⟨B1, M1, d1, B2, M2, d2, rfl, hb4⟩
            have HE4 := Lib.hid ((HE3.out.on hb4).on (((Below.refl _ _).alloc (Nat.le_refl _) (.cells #[.slice B1 M1 d1, .slice B2 M2 d2] 38)).alloc (by simp) (.cells #[.int .i64 2, .int .i64 18] 30)))
            have HB4 := Lib.hid hb4
            clear hb4
            go_wp2_with fail
            refine (min_parse _ HE4.out).mono ?_
            rintro e w5 ⟨B3, M3, d3, g6, d6, kd6, nn6, nm6, op6, A6, L6, c6, rfl, hg6, v4, v5, v6, v7, v8, hr6, hb6⟩
            have HB6 := Lib.hid hb6
            have HE5 := Lib.hid (HE4.out.on hb6)
            have q1 := hb6.size
            have q2 := HB4.out.size
            rw [World.size_alloc, World.size_alloc] at q1
            have hb46 : Below w4.heap.size w4 w5 := (((Below.refl _ _).alloc (Nat.le_refl _) _).alloc (by simp) _).trans (below_down hb6 (by simp; omega))
            have hb36 : Below wr.heap.size wr w5 := HB4.out.trans (below_down hb46 q2)
            obtain ⟨rfl, rfl⟩ := inv0 hr6
            have x0 : w5.cell? ⟨w2.heap.size + 1 + 1, 0, none⟩ = some (.int .i64 1) := (HK.out.2.2.on hb36 (by omega)).cell 0
            have x1 : w5.cell? ⟨w2.heap.size + 1 + 1, 1, none⟩ = some (.int .i64 (u : Int)) := (HK.out.2.2.on hb36 (by omega)).cell 1
            have e0 : w5.cell? ⟨w4.heap.size + 1, 0, none⟩ = some (.int .i64 2) := ((blk_at (W := w4.alloc (.cells #[.slice B1 M1 d1, .slice B2 M2 d2] 38)) (n := w4.heap.size + 1) (by simp) 30 #[.int .i64 2, .int .i64 18]).on hb6 (by simp)).cell 0
            have e1 : w5.cell? ⟨w4.heap.size + 1, 1, none⟩ = some (.int .i64 18) := ((blk_at (W := w4.alloc (.cells #[.slice B1 M1 d1, .slice B2 M2 d2] 38)) (n := w4.heap.size + 1) (by simp) 30 #[.int .i64 2, .int .i64 18]).on hb6 (by simp)).cell 1
            have l1 : w4.heap.size + 1 < w5.heap.size := by omega
            have l2 : w2.heap.size + 1 + 1 < w5.heap.size := by omega
            have y0 : ((w5.alloc (.cells #[.slice B3 M3 d3, .slice (some ⟨g6, 0, none⟩) 1 d6] 38)).alloc (.cells #[.int .i64 0, .int .i64 0] 30)).cell? ⟨w2.heap.size + 1 + 1, 0, none⟩ = some (.int .i64 1) := (World.cell?_of_block ((Below.heap_alloc _ _ _ (by simp; omega)).trans (Below.heap_alloc _ _ _ l2))).trans x0
            have y1 : ((w5.alloc (.cells #[.slice B3 M3 d3, .slice (some ⟨g6, 0, none⟩) 1 d6] 38)).alloc (.cells #[.int .i64 0, .int .i64 0] 30)).cell? ⟨w2.heap.size + 1 + 1, 1, none⟩ = some (.int .i64 (u : Int)) := (World.cell?_of_block ((Below.heap_alloc _ _ _ (by simp; omega)).trans (Below.heap_alloc _ _ _ l2))).trans x1
            have y2 : ((w5.alloc (.cells #[.slice B3 M3 d3, .slice (some ⟨g6, 0, none⟩) 1 d6] 38)).alloc (.cells #[.int .i64 0, .int .i64 0] 30)).cell? ⟨w4.heap.size + 1, 0, none⟩ = some (.int .i64 2) := (World.cell?_of_block ((Below.heap_alloc _ _ _ (by simp; omega)).trans (Below.heap_alloc _ _ _ l1))).trans e0
            have y3 : ((w5.alloc (.cells #[.slice B3 M3 d3, .slice (some ⟨g6, 0, none⟩) 1 d6] 38)).alloc (.cells #[.int .i64 0, .int .i64 0] 30)).cell? ⟨w4.heap.size + 1, 1, none⟩ = some (.int .i64 18) := (World.cell?_of_block ((Below.heap_alloc _ _ _ (by simp; omega)).trans (Below.heap_alloc _ _ _ l1))).trans e1
            have y4 : ((w5.alloc (.cells #[.slice B3 M3 d3, .slice (some ⟨g6, 0, none⟩) 1 d6] 38)).alloc (.cells #[.int .i64 0, .int .i64 0] 30)).cell? ⟨g6, 5, none⟩ = some (.int .i64 (-9223372036854775808)) := (World.cell?_of_block ((Below.heap_alloc _ _ _ (by simp; omega)).trans (Below.heap_alloc _ _ _ hg6))).trans v5
            have hw7 : Below w5.heap.size w5 ((w5.alloc (.cells #[.slice B3 M3 d3, .slice (some ⟨g6, 0, none⟩) 1 d6] 38)).alloc (.cells #[.int .i64 0, .int .i64 0] 30)) := ((Below.refl _ _).alloc (Nat.le_refl _) _).alloc (by simp) _
            have HF := Lib.hid (HB.out.trans (below_down (HBW.out.trans (below_down (hb36.trans (below_down hw7 hb36.size)) HBW.out.size)) HB.out.size))
            have HE7 := Lib.hid (HE5.out.on hw7)
            have q7 := HF.out.size
            clear hb6 hb46 hb36 hr6 v4 v6 v7 v8 hw7 x0 x1 e0 e1 v5
            go_wp2_with fail
            refine (examples_any _ HE7.out).mono ?_
            rintro e w6 ⟨rfl, hb8⟩
            have HF8 := Lib.hid (HF.out.trans (below_down hb8 q7))
            clear hb8 y0 y1 y2 y3 y4
            go_wp2_with fail
            go_ret
            exact retN rfl HF8.out
          · have hz : ngZ k u = -(u : Int) := by unfold ngZ; rw [if_neg hk0]
            have hkp : (0 : Int) < k := by omega
            go_wp2_with (go_at_call 15; ((with_reducible refine (pick_any _ 6 _ (by decide) (by decide) hK.out _).mono ?_); rintro e w' ⟨rfl, rfl⟩))
            refine (big_parse _ HE3.out).mono ?_
            rintro e w4 ⟨B1, M1, d1, B2, M2, d2, rfl, hb4⟩
            have HE4 := Lib.hid ((HE3.out.on hb4).on (((Below.refl _ _).alloc (Nat.le_refl _) (.cells #[.slice B1 M1 d1, .slice B2 M2 d2] 38)).alloc (by simp) (.cells #[.int .i64 2, .int .i64 18] 30)))
            have HB4 := Lib.hid hb4
            clear hb4
            go_wp2_with fail
            refine (min_parse _ HE4.out).mono ?_
            rintro e w5 ⟨B3, M3, d3, g6, d6, kd6, nn6, nm6, op6, A6, L6, c6, rfl, hg6, v4, v5, v6, v7, v8, hr6, hb6⟩
            have HB6 := Lib.hid hb6
            have HE5 := Lib.hid (HE4.out.on hb6)
            have q1 := hb6.size
            have q2 := HB4.out.size
            rw [World.size_alloc, World.size_alloc] at q1
            have hb46 : Below w4.heap.size w4 w5 := (((Below.refl _ _).alloc (Nat.le_refl _) _).alloc (by simp) _).trans (below_down hb6 (by simp; omega))
            have hb36 : Below wr.heap.size wr w5 := HB4.out.trans (below_down hb46 q2)
            obtain ⟨rfl, rfl⟩ := inv0 hr6
            have x0 : w5.cell? ⟨w2.heap.size + 1 + 1, 0, none⟩ = some (.int .i64 1) := (HK.out.2.2.on hb36 (by omega)).cell 0
            have x1 : w5.cell? ⟨w2.heap.size + 1 + 1, 1, none⟩ = some (.int .i64 (-(u : Int))) := by rw [← hz]; exact (HK.out.2.2.on hb36 (by omega)).cell 1
            have e0 : w5.cell? ⟨w4.heap.size + 1, 0, none⟩ = some (.int .i64 2) := ((blk_at (W := w4.alloc (.cells #[.slice B1 M1 d1, .slice B2 M2 d2] 38)) (n := w4.heap.size + 1) (by simp) 30 #[.int .i64 2, .int .i64 18]).on hb6 (by simp)).cell 0
            have e1 : w5.cell? ⟨w4.heap.size + 1, 1, none⟩ = some (.int .i64 18) := ((blk_at (W := w4.alloc (.cells #[.slice B1 M1 d1, .slice B2 M2 d2] 38)) (n := w4.heap.size + 1) (by simp) 30 #[.int .i64 2, .int .i64 18]).on hb6 (by simp)).cell 1
            have l1 : w4.heap.size + 1 < w5.heap.size := by omega
            have l2 : w2.heap.size + 1 + 1 < w5.heap.size := by omega
            have y0 : ((w5.alloc (.cells #[.slice B3 M3 d3, .slice (some ⟨g6, 0, none⟩) 1 d6] 38)).alloc (.cells #[.int .i64 0, .int .i64 0] 30)).cell? ⟨w2.heap.size + 1 + 1, 0, none⟩ = some (.int .i64 1) := (World.cell?_of_block ((Below.heap_alloc _ _ _ (by simp; omega)).trans (Below.heap_alloc _ _ _ l2))).trans x0
            have y1 : ((w5.alloc (.cells #[.slice B3 M3 d3, .slice (some ⟨g6, 0, none⟩) 1 d6] 38)).alloc (.cells #[.int .i64 0, .int .i64 0] 30)).cell? ⟨w2.heap.size + 1 + 1, 1, none⟩ = some (.int .i64 (-(u : Int))) := (World.cell?_of_block ((Below.heap_alloc _ _ _ (by simp; omega)).trans (Below.heap_alloc _ _ _ l2))).trans x1
            have y2 : ((w5.alloc (.cells #[.slice B3 M3 d3, .slice (some ⟨g6, 0, none⟩) 1 d6] 38)).alloc (.cells #[.int .i64 0, .int .i64 0] 30)).cell? ⟨w4.heap.size + 1, 0, none⟩ = some (.int .i64 2) := (World.cell?_of_block ((Below.heap_alloc _ _ _ (by simp; omega)).trans (Below.heap_alloc _ _ _ l1))).trans e0
            have y3 : ((w5.alloc (.cells #[.slice B3 M3 d3, .slice (some ⟨g6, 0, none⟩) 1 d6] 38)).alloc (.cells #[.int .i64 0, .int .i64 0] 30)).cell? ⟨w4.heap.size + 1, 1, none⟩ = some (.int .i64 18) := (World.cell?_of_block ((Below.heap_alloc _ _ _ (by simp; omega)).trans (Below.heap_alloc _ _ _ l1))).trans e1
            have y4 : ((w5.alloc (.cells #[.slice B3 M3 d3, .slice (some ⟨g6, 0, none⟩) 1 d6] 38)).alloc (.cells #[.int .i64 0, .int .i64 0] 30)).cell? ⟨g6, 5, none⟩ = some (.int .i64 (-9223372036854775808)) := (World.cell?_of_block ((Below.heap_alloc _ _ _ (by simp; omega)).trans (Below.heap_alloc _ _ _ hg6))).trans v5
            have hw7 : Below w5.heap.size w5 ((w5.alloc (.cells #[.slice B3 M3 d3, .slice (some ⟨g6, 0, none⟩) 1 d6] 38)).alloc (.cells #[.int .i64 0, .int .i64 0] 30)) := ((Below.refl _ _).alloc (Nat.le_refl _) _).alloc (by simp) _
            have HF := Lib.hid (HB.out.trans (below_down (HBW.out.trans (below_down (hb36.trans (below_down hw7 hb36.size)) HBW.out.size)) HB.out.size))
            have HE7 := Lib.hid (HE5.out.on hw7)
            have q7 := HF.out.size
            clear hb6 hb46 hb36 hr6 v4 v6 v7 v8 hw7 x0 x1 e0 e1 v5
            go_wp2_with fail
            refine (examples_any _ HE7.out).mono ?_
            rintro e w6 ⟨rfl, hb8⟩
            have HF8 := Lib.hid (HF.out.trans (below_down hb8 q7))
            clear hb8 y0 y1 y2 y3 y4
            go_wp2_with fail
            go_ret
            exact retN rfl HF8.out
theorem ng_neg (n : Int) (u K : Nat) (m : Int) (hn : n < 0) (hn2 : -9223372036854775808 ≤ n) (hnu : -(n + 1) = (u : Int)) (hu : u ≤ 9223372036854775807) (hl : (Lib.decDigits u).length ≤ 40) (hK : Hid (m % 6 = (K : Int))) (hK6 : K < 6) (w : World) (h : PEnv w) :
    Calls Tryd.prog 6 #[.int .i64 n, .int .i64 m] w (RetN (.bool true) w) := by
  have HL := Lib.hid hl
  have HE := Lib.hid h
  clear hl h
  go_enter Tryd.func6, Tryd.ntmps6
  go_wp2_with fail
  go_loopw [5, 6] (fun s i wr => ∃ (k : Nat) (t : ByteArray), k ≤ K ∧ i = .int .i64 k ∧ s = .string t ∧ t.size = 2 * k ∧ Hid (t.data.toList = ngM k) ∧ wr = w) (fun _ i _ => K - (intOf i).toNat)
  case atStart => exact ⟨0, ⟨#[]⟩, Nat.zero_le _, rfl, rfl, rfl, Lib.hid rfl, rfl⟩
  case round =>
    obtain ⟨k, t, hk, rfl, rfl, ht, HT, rfl⟩ := hrel
    by_cases hlt : k < K
    · go_wp2_with (go_at_call 15; ((with_reducible refine (pick_any _ 6 _ (by decide) (by decide) hK.out _).mono ?_); rintro e w' ⟨rfl, rfl⟩))
      go_roundw
      case rel => exact ⟨k + 1, t ++ ⟨#[45, 32]⟩, by omega, by go_num, rfl, by rw [ByteArray.size_append, ht]; rfl, Lib.hid (by rw [← ngM_snoc, ← HT.out]; simp [ByteArray.data_append]), (by trivial)⟩
      case measure => simp [intOf]; omega
    · obtain rfl : k = K := by omega
      go_wp2_with (go_at_call 15; ((with_reducible refine (pick_any _ 6 _ (by decide) (by decide) hK.out _).mono ?_); rintro e w' ⟨rfl, rfl⟩))
      go_wp2_with fail
      refine (rtext_any (u : Int) (by unfold inW; omega) _ _ (Nat.le_refl _)).mono ?_
      rintro e w1 ⟨rfl, hb0⟩
      have hsz : (⟨(Lib.itoa (u : Int)).toArray⟩ : ByteArray).size ≤ 40 := by rw [itoa_nat]; show (Lib.decDigits u).toArray.size ≤ 40; simpa using HL.out
      have HE1 := Lib.hid (HE.out.on hb0)
      obtain ⟨tx, htx⟩ : ∃ tx : ByteArray, (⟨(Lib.itoa (u : Int)).toArray⟩ : ByteArray) = tx := ⟨_, rfl⟩
      rw [htx] at hsz ⊢
      go_wp2_with fail
      refine (ng_parse _ k u (by omega) hu HL.out (by rw [← htx]; exact ng_text k u t HT.out) _ HE1.out).mono ?_
      rintro e w2 ⟨A, L, c, g, c', kd, nn, nm, op, A3, L3, c3, rfl, hg, u4, u5, u6, u7, u8, hr, hb⟩
      have HR := Lib.hid hr
      have HB := Lib.hid (hb0.trans (below_down hb hb0.size))
      have HE2 := Lib.hid (HE1.out.on hb)
      clear hr hb hb0
      go_wp2_with fail
      go_loopw [10] (fun i wr => ∃ (i' d : Nat) (kd nn : Int) (nm : List UInt8) (op : Int) (A3 : Option Addr) (L3 c3 : Nat), i = .int .i64 i' ∧ 1 ≤ i' ∧ i' + d = k - 1 + 1 ∧ Below w2.heap.size w2 wr ∧ wr.heap.size = w2.heap.size + 3 ∧
        Blk wr w2.heap.size 38 #[.slice A L c, .slice (some ⟨g, 0, none⟩) 1 c'] ∧ Blk wr (w2.heap.size + 1) 30 #[.int .i64 0, .int .i64 0] ∧ Blk wr (w2.heap.size + 1 + 1) 45 #[.int .i64 kd, .int .i64 nn, .string ⟨nm.toArray⟩, .int .i64 op, .slice A3 L3 c3] ∧
        Hid (RepE wr (fun x => x < w2.heap.size) (ngX d (numE (ngZ k u))) (exC kd nn nm op A3 L3 c3))) (fun i _ => 7 - (intOf i).toNat)
      case atStart =>
        have hb3 : Below w2.heap.size w2 (((w2.alloc (.cells #[.slice A L c, .slice (some ⟨g, 0, none⟩) 1 c'] 38)).alloc (.cells #[.int .i64 0, .int .i64 0] 30)).alloc (.cells #[.int .i64 kd, .int .i64 nn, .string ⟨nm.toArray⟩, .int .i64 op, .slice A3 L3 c3] 45)) := (((Below.refl _ _).alloc (Nat.le_refl _) _).alloc (by simp) _).alloc (by simp; omega) _
        exact ⟨1, k - 1, kd, nn, nm, op, A3, L3, c3, rfl, Nat.le_refl _, by omega, hb3, by simp, ((Blk.new w2 _ _).alloc _).alloc _, (blk_at (by simp) _ _).alloc _, blk_at (by simp) _ _, Lib.hid (HR.out.keep (fun _ h => h) (fun x hx => hb3.block x hx))⟩
      case round =>
        obtain ⟨i', d, kd', nn', nm', op', A4, L4, c4, rfl, hi1, hid, hbw, hsz', k1, k2, k3, HR'⟩ := hrel
        by_cases hlt : i' < k
        · obtain ⟨d, rfl⟩ : ∃ d', d = d' + 1 := ⟨d - 1, by omega⟩
          obtain ⟨rfl, rfl, rfl, g', kd5, nn5, nm5, op5, A5, L5, c5, rfl, hg', v0, v1, v2, v3, v4, hr5⟩ := inv1 HR'.out
          obtain ⟨x0, x3, x4⟩ : wr.cell? ⟨w2.heap.size + 1 + 1, 0, none⟩ = some (.int .i64 4) ∧ wr.cell? ⟨w2.heap.size + 1 + 1, 3, none⟩ = some (.int .i64 20) ∧ wr.cell? ⟨w2.heap.size + 1 + 1, 4, none⟩ = some (.slice (some ⟨g', 0, none⟩) 1 c4) := ⟨k3.cell 0, k3.cell 3, k3.cell 4⟩
          obtain ⟨z0, z1, z2, z3, z4⟩ : wr.frozen? ⟨w2.heap.size + 1 + 1, 0, none⟩ = false ∧ wr.frozen? ⟨w2.heap.size + 1 + 1, 1, none⟩ = false ∧ wr.frozen? ⟨w2.heap.size + 1 + 1, 2, none⟩ = false ∧ wr.frozen? ⟨w2.heap.size + 1 + 1, 3, none⟩ = false ∧ wr.frozen? ⟨w2.heap.size + 1 + 1, 4, none⟩ = false := ⟨k3.free 0, k3.free 1, k3.free 2, k3.free 3, k3.free 4⟩
          have x1 := k3.cell 1
          have x2 := k3.cell 2
          have HK := Lib.hid (And.intro k1 (And.intro k2 k3))
          have HR5 := Lib.hid hr5
          have HBW := Lib.hid hbw
          have hne : g' ≠ w2.heap.size + 1 + 1 := by omega
          clear k1 k2 k3 hr5 hbw HR'
          go_wp2_with (go_at_call 15; ((with_reducible refine (pick_any _ 6 _ (by decide) (by decide) hK.out _).mono ?_); rintro e w' ⟨rfl, rfl⟩))
          go_roundw
          case rel =>
            have hx0 : w2.heap.size ≤ w2.heap.size + 1 + 1 := by omega
            have hbs : Below w2.heap.size wr (set5 wr (w2.heap.size + 1 + 1) (.int .i64 kd5) (.int .i64 nn5) (.string ⟨nm5.toArray⟩) (.int .i64 op5) (.slice A5 L5 c5)) := (((((Below.refl w2.heap.size wr)).setCell hx0 _).setCell hx0 _).setCell hx0 _).setCell hx0 _ |>.setCell hx0 _
            have hbs' : Below (w2.heap.size + 1 + 1) wr (set5 wr (w2.heap.size + 1 + 1) (.int .i64 kd5) (.int .i64 nn5) (.string ⟨nm5.toArray⟩) (.int .i64 op5) (.slice A5 L5 c5)) := (((((Below.refl (w2.heap.size + 1 + 1) wr)).setCell (Nat.le_refl _) _).setCell (Nat.le_refl _) _).setCell (Nat.le_refl _) _).setCell (Nat.le_refl _) _ |>.setCell (Nat.le_refl _) _
            exact ⟨i' + 1, d, kd5, nn5, nm5, op5, A5, L5, c5, by go_num, by omega, by omega, HBW.out.trans hbs, by simp [hsz'], HK.out.1.on hbs' (by omega), HK.out.2.1.on hbs' (by omega), set5_blk HK.out.2.2 _ _ _ _ _, Lib.hid (HR5.out.keep (fun _ h => h) (fun x hx => hbs.block x hx))⟩
          case measure => simp [intOf]; omega
        · obtain rfl : d = 0 := by omega
          have h0 : RepE wr (fun x => x < w2.heap.size) (numE (ngZ k u)) (exC kd' nn' nm' op' A4 L4 c4) := HR'.out
          obtain ⟨rfl, hnn⟩ := inv0 h0
          subst hnn
          have HBW := Lib.hid hbw
          have HK := Lib.hid (And.intro k1 (And.intro k2 k3))
          have HE3 := Lib.hid (HE2.out.on hbw)
          clear k1 k2 k3 hbw HR' h0
          by_cases hk0 : k = 0
          · subst hk0
            go_wp2_with (go_at_call 15; ((with_reducible refine (pick_any _ 6 _ (by decide) (by decide) hK.out _).mono ?_); rintro e w' ⟨rfl, rfl⟩))
            refine (big_parse _ HE3.out).mono ?_
            rintro e w4 ⟨B1, M1, d1, B2, M2, d2, rfl, hb4⟩
            have HE4 := Lib.hid ((HE3.out.on hb4).on (((Below.refl _ _).alloc (Nat.le_refl _) (.cells #[.slice B1 M1 d1, .slice B2 M2 d2] 38)).alloc (by simp) (.cells #[.int .i64 2, .int .i64 18] 30)))
            have HB4 := Lib.hid hb4
            clear hb4
            go_wp2_with fail
            refine (min_parse _ HE4.out).mono ?_
            rintro e w5 ⟨B3, M3, d3, g6, d6, kd6, nn6, nm6, op6, A6, L6, c6, rfl, hg6, v4, v5, v6, v7, v8, hr6, hb6⟩
            have HB6 := Lib.hid hb6
            have HE5 := Lib.hid (HE4.out.on hb6)
            have q1 := hb6.size
            have q2 := HB4.out.size
            rw [World.size_alloc, World.size_alloc] at q1
            have hb46 : Below w4.heap.size w4 w5 := (((Below.refl _ _).alloc (Nat.le_refl _) _).alloc (by simp) _).trans (below_down hb6 (by simp; omega))
            have hb36 : Below wr.heap.size wr w5 := HB4.out.trans (below_down hb46 q2)
            obtain ⟨rfl, rfl⟩ := inv0 hr6
            have x0 : w5.cell? ⟨w2.heap.size + 1 + 1, 0, none⟩ = some (.int .i64 1) := (HK.out.2.2.on hb36 (by omega)).cell 0
            have x1 : w5.cell? ⟨w2.heap.size + 1 + 1, 1, none⟩ = some (.int .i64 (u : Int)) := (HK.out.2.2.on hb36 (by omega)).cell 1
            have e0 : w5.cell? ⟨w4.heap.size + 1, 0, none⟩ = some (.int .i64 2) := ((blk_at (W := w4.alloc (.cells #[.slice B1 M1 d1, .slice B2 M2 d2] 38)) (n := w4.heap.size + 1) (by simp) 30 #[.int .i64 2, .int .i64 18]).on hb6 (by simp)).cell 0
            have e1 : w5.cell? ⟨w4.heap.size + 1, 1, none⟩ = some (.int .i64 18) := ((blk_at (W := w4.alloc (.cells #[.slice B1 M1 d1, .slice B2 M2 d2] 38)) (n := w4.heap.size + 1) (by simp) 30 #[.int .i64 2, .int .i64 18]).on hb6 (by simp)).cell 1
            have l1 : w4.heap.size + 1 < w5.heap.size := by omega
            have l2 : w2.heap.size + 1 + 1 < w5.heap.size := by omega
            have y0 : ((w5.alloc (.cells #[.slice B3 M3 d3, .slice (some ⟨g6, 0, none⟩) 1 d6] 38)).alloc (.cells #[.int .i64 0, .int .i64 0] 30)).cell? ⟨w2.heap.size + 1 + 1, 0, none⟩ = some (.int .i64 1) := (World.cell?_of_block ((Below.heap_alloc _ _ _ (by simp; omega)).trans (Below.heap_alloc _ _ _ l2))).trans x0
            have y1 : ((w5.alloc (.cells #[.slice B3 M3 d3, .slice (some ⟨g6, 0, none⟩) 1 d6] 38)).alloc (.cells #[.int .i64 0, .int .i64 0] 30)).cell? ⟨w2.heap.size + 1 + 1, 1, none⟩ = some (.int .i64 (u : Int)) := (World.cell?_of_block ((Below.heap_alloc _ _ _ (by simp; omega)).trans (Below.heap_alloc _ _ _ l2))).trans x1
            have y2 : ((w5.alloc (.cells #[.slice B3 M3 d3, .slice (some ⟨g6, 0, none⟩) 1 d6] 38)).alloc (.cells #[.int .i64 0, .int .i64 0] 30)).cell? ⟨w4.heap.size + 1, 0, none⟩ = some (.int .i64 2) := (World.cell?_of_block ((Below.heap_alloc _ _ _ (by simp; omega)).trans (Below.heap_alloc _ _ _ l1))).trans e0
            have y3 : ((w5.alloc (.cells #[.slice B3 M3 d3, .slice (some ⟨g6, 0, none⟩) 1 d6] 38)).alloc (.cells #[.int .i64 0, .int .i64 0] 30)).cell? ⟨w4.heap.size + 1, 1, none⟩ = some (.int .i64 18) := (World.cell?_of_block ((Below.heap_alloc _ _ _ (by simp; omega)).trans (Below.heap_alloc _ _ _ l1))).trans e1
            have y4 : ((w5.alloc (.cells #[.slice B3 M3 d3, .slice (some ⟨g6, 0, none⟩) 1 d6] 38)).alloc (.cells #[.int .i64 0, .int .i64 0] 30)).cell? ⟨g6, 5, none⟩ = some (.int .i64 (-9223372036854775808)) := (World.cell?_of_block ((Below.heap_alloc _ _ _ (by simp; omega)).trans (Below.heap_alloc _ _ _ hg6))).trans v5
            have hw7 : Below w5.heap.size w5 ((w5.alloc (.cells #[.slice B3 M3 d3, .slice (some ⟨g6, 0, none⟩) 1 d6] 38)).alloc (.cells #[.int .i64 0, .int .i64 0] 30)) := ((Below.refl _ _).alloc (Nat.le_refl _) _).alloc (by simp) _
            have HF := Lib.hid (HB.out.trans (below_down (HBW.out.trans (below_down (hb36.trans (below_down hw7 hb36.size)) HBW.out.size)) HB.out.size))
            have HE7 := Lib.hid (HE5.out.on hw7)
            have q7 := HF.out.size
            clear hb6 hb46 hb36 hr6 v4 v6 v7 v8 hw7 x0 x1 e0 e1 v5
            go_wp2_with fail
            refine (examples_any _ HE7.out).mono ?_
            rintro e w6 ⟨rfl, hb8⟩
            have HF8 := Lib.hid (HF.out.trans (below_down hb8 q7))
            clear hb8 y0 y1 y2 y3 y4
            go_wp2_with fail
            go_ret
            exact retN rfl HF8.out
          · have hz : ngZ k u = -(u : Int) := by unfold ngZ; rw [if_neg hk0]
            have hkp : (0 : Int) < k := by omega
            go_wp2_with (go_at_call 15; ((with_reducible refine (pick_any _ 6 _ (by decide) (by decide) hK.out _).mono ?_); rintro e w' ⟨rfl, rfl⟩))
            refine (big_parse _ HE3.out).mono ?_
            rintro e w4 ⟨B1, M1, d1, B2, M2, d2, rfl, hb4⟩
            have HE4 := Lib.hid ((HE3.out.on hb4).on (((Below.refl _ _).alloc (Nat.le_refl _) (.cells #[.slice B1 M1 d1, .slice B2 M2 d2] 38)).alloc (by simp) (.cells #[.int .i64 2, .int .i64 18] 30)))
            have HB4 := Lib.hid hb4
            clear hb4
            go_wp2_with fail
            refine (min_parse _ HE4.out).mono ?_
            rintro e w5 ⟨B3, M3, d3, g6, d6, kd6, nn6, nm6, op6, A6, L6, c6, rfl, hg6, v4, v5, v6, v7, v8, hr6, hb6⟩
            have HB6 := Lib.hid hb6
            have HE5 := Lib.hid (HE4.out.on hb6)
            have q1 := hb6.size
            have q2 := HB4.out.size
            rw [World.size_alloc, World.size_alloc] at q1
            have hb46 : Below w4.heap.size w4 w5 := (((Below.refl _ _).alloc (Nat.le_refl _) _).alloc (by simp) _).trans (below_down hb6 (by simp; omega))
            have hb36 : Below wr.heap.size wr w5 := HB4.out.trans (below_down hb46 q2)
            obtain ⟨rfl, rfl⟩ := inv0 hr6
            have x0 : w5.cell? ⟨w2.heap.size + 1 + 1, 0, none⟩ = some (.int .i64 1) := (HK.out.2.2.on hb36 (by omega)).cell 0
            have x1 : w5.cell? ⟨w2.heap.size + 1 + 1, 1, none⟩ = some (.int .i64 (-(u : Int))) := by rw [← hz]; exact (HK.out.2.2.on hb36 (by omega)).cell 1
            have e0 : w5.cell? ⟨w4.heap.size + 1, 0, none⟩ = some (.int .i64 2) := ((blk_at (W := w4.alloc (.cells #[.slice B1 M1 d1, .slice B2 M2 d2] 38)) (n := w4.heap.size + 1) (by simp) 30 #[.int .i64 2, .int .i64 18]).on hb6 (by simp)).cell 0
            have e1 : w5.cell? ⟨w4.heap.size + 1, 1, none⟩ = some (.int .i64 18) := ((blk_at (W := w4.alloc (.cells #[.slice B1 M1 d1, .slice B2 M2 d2] 38)) (n := w4.heap.size + 1) (by simp) 30 #[.int .i64 2, .int .i64 18]).on hb6 (by simp)).cell 1
            have l1 : w4.heap.size + 1 < w5.heap.size := by omega
            have l2 : w2.heap.size + 1 + 1 < w5.heap.size := by omega
            have y0 : ((w5.alloc (.cells #[.slice B3 M3 d3, .slice (some ⟨g6, 0, none⟩) 1 d6] 38)).alloc (.cells #[.int .i64 0, .int .i64 0] 30)).cell? ⟨w2.heap.size + 1 + 1, 0, none⟩ = some (.int .i64 1) := (World.cell?_of_block ((Below.heap_alloc _ _ _ (by simp; omega)).trans (Below.heap_alloc _ _ _ l2))).trans x0
            have y1 : ((w5.alloc (.cells #[.slice B3 M3 d3, .slice (some ⟨g6, 0, none⟩) 1 d6] 38)).alloc (.cells #[.int .i64 0, .int .i64 0] 30)).cell? ⟨w2.heap.size + 1 + 1, 1, none⟩ = some (.int .i64 (-(u : Int))) := (World.cell?_of_block ((Below.heap_alloc _ _ _ (by simp; omega)).trans (Below.heap_alloc _ _ _ l2))).trans x1
            have y2 : ((w5.alloc (.cells #[.slice B3 M3 d3, .slice (some ⟨g6, 0, none⟩) 1 d6] 38)).alloc (.cells #[.int .i64 0, .int .i64 0] 30)).cell? ⟨w4.heap.size + 1, 0, none⟩ = some (.int .i64 2) := (World.cell?_of_block ((Below.heap_alloc _ _ _ (by simp; omega)).trans (Below.heap_alloc _ _ _ l1))).trans e0
            have y3 : ((w5.alloc (.cells #[.slice B3 M3 d3, .slice (some ⟨g6, 0, none⟩) 1 d6] 38)).alloc (.cells #[.int .i64 0, .int .i64 0] 30)).cell? ⟨w4.heap.size + 1, 1, none⟩ = some (.int .i64 18) := (World.cell?_of_block ((Below.heap_alloc _ _ _ (by simp; omega)).trans (Below.heap_alloc _ _ _ l1))).trans e1
            have y4 : ((w5.alloc (.cells #[.slice B3 M3 d3, .slice (some ⟨g6, 0, none⟩) 1 d6] 38)).alloc (.cells #[.int .i64 0, .int .i64 0] 30)).cell? ⟨g6, 5, none⟩ = some (.int .i64 (-9223372036854775808)) := (World.cell?_of_block ((Below.heap_alloc _ _ _ (by simp; omega)).trans (Below.heap_alloc _ _ _ hg6))).trans v5
            have hw7 : Below w5.heap.size w5 ((w5.alloc (.cells #[.slice B3 M3 d3, .slice (some ⟨g6, 0, none⟩) 1 d6] 38)).alloc (.cells #[.int .i64 0, .int .i64 0] 30)) := ((Below.refl _ _).alloc (Nat.le_refl _) _).alloc (by simp) _
            have HF := Lib.hid (HB.out.trans (below_down (HBW.out.trans (below_down (hb36.trans (below_down hw7 hb36.size)) HBW.out.size)) HB.out.size))
            have HE7 := Lib.hid (HE5.out.on hw7)
            have q7 := HF.out.size
            clear hb6 hb46 hb36 hr6 v4 v6 v7 v8 hw7 x0 x1 e0 e1 v5
            go_wp2_with fail
            refine (examples_any _ HE7.out).mono ?_
            rintro e w6 ⟨rfl, hb8⟩
            have HF8 := Lib.hid (HF.out.trans (below_down hb8 q7))
            clear hb8 y0 y1 y2 y3 y4
            go_wp2_with fail
            go_ret
            exact retN rfl HF8.out
theorem neg_any (n m : Int) (hn : inW n) (w : World) (h : PEnv w) : Calls Tryd.prog 6 #[.int .i64 n, .int .i64 m] w (RetN (.bool true) w) := by
  obtain ⟨K, hK⟩ : ∃ K : Nat, m % 6 = (K : Int) := ⟨(m % 6).toNat, by omega⟩
  have hK6 : K < 6 := by omega
  unfold inW at hn
  by_cases h0 : n < 0
  · obtain ⟨u, hu⟩ : ∃ u : Nat, -(n + 1) = (u : Int) := ⟨(-(n + 1)).toNat, by omega⟩
    have hul : u ≤ 9223372036854775807 := by omega
    exact ng_neg n u K m h0 hn.1 hu hul (dec_len u hul) (Lib.hid hK) hK6 w h
  · obtain ⟨u, rfl⟩ : ∃ u : Nat, n = (u : Int) := ⟨n.toNat, by omega⟩
    have hul : u ≤ 9223372036854775807 := by omega
    exact ng_pos u K m hul (dec_len u hul) (Lib.hid hK) hK6 w h
theorem inW_of' {a : Int} (h : (Lit.int .i64 a).wf = true) : inW a := by
  simp only [Lit.wf, IntKind.min, IntKind.max, IntKind.signed, IntKind.bits, Bool.and_eq_true, decide_eq_true_eq, if_true] at h
  unfold inW; omega
end Go.Proofs.YtjeidpfpgolonaaDoor
