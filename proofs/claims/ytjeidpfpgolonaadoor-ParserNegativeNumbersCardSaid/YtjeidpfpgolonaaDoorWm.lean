/- Stage 1, plain mathematics: the word operations as 64-bit vectors, and their laws. Nothing of the dump is used. -/
import Derived.RowKit
import Derived.Laws.Entries
import Derived.Lib.Strings
import Derived.Lib.ItoaNum
namespace Go.Proofs.YtjeidpfpgolonaaDoor.WM
open Go Go.RowKit

def inW (a : Int) : Prop := -9223372036854775808 ≤ a ∧ a ≤ 9223372036854775807
def bv (a : Int) : BitVec 64 := BitVec.ofInt 64 a
/-- the lowest six bits of a count -/
def shc (b : Int) : Int := b % 64
def tr (p : Bool) : Int := if p then 1 else 0

def divF (a b : Int) : Int := if b = 0 then 0 else wrap64 (a.tdiv b)
def remF (a b : Int) : Int := if b = 0 then 0 else a.tmod b

def binF (op a b : Int) : Int :=
  if op = 4 then wrap64 (a + b) else
  if op = 5 then wrap64 (a - b) else
  if op = 6 then wrap64 (a * b) else
  if op = 7 then divF a b else
  if op = 8 then remF a b else
  if op = 9 then bits .and .i64 a b else
  if op = 10 then bits .or .i64 a b else
  if op = 11 then bits .xor .i64 a b else
  if op = 12 then wrap64 (a * 2 ^ (shc b).toNat) else
  if op = 13 then wrap64 ((a % 18446744073709551616) / 2 ^ (shc b).toNat) else
  if op = 14 then a / 2 ^ (shc b).toNat else
  if op = 15 then tr (a == b) else
  if op = 16 then tr (a != b) else
  if op = 17 then tr (decide (a < b)) else
  if op = 18 then tr (decide (a ≤ b)) else
  if op = 19 then tr (decide (a % 18446744073709551616 < b % 18446744073709551616)) else 0

def unF (op a : Int) : Int :=
  if op = 20 then wrap64 (0 - a) else
  if op = 21 then bits .xor .i64 (-1) a else 0

theorem wrap64_bv (n : Int) : wrap64 n = (bv n).toInt := by
  unfold bv
  rw [BitVec.toInt_ofInt, Int.bmod_def, wrap64]
  have e : ((2 ^ 64 : Nat) : Int) = 18446744073709551616 := by decide
  rw [e]; omega
theorem bv_of (a : Int) (h : inW a) : (bv a).toInt = a := by
  unfold inW at h
  rw [← wrap64_bv, wrap64]; omega
theorem bv_in (x : BitVec 64) : inW x.toInt := by
  have h1 := BitVec.toInt_lt (x := x)
  have h2 := BitVec.le_toInt (x := x)
  unfold inW; omega
theorem bv_toInt (x : BitVec 64) : bv x.toInt = x := BitVec.ofInt_toInt
theorem wrap_in (n : Int) : inW (wrap64 n) := by unfold inW wrap64; omega
theorem wrap_of (n : Int) (h : inW n) : wrap64 n = n := by unfold inW at h; unfold wrap64; omega
theorem i64wrap_nat (x : BitVec 64) : IntKind.i64.wrap (x.toNat : Int) = x.toInt := by
  have := x.isLt
  rw [BitVec.toInt_eq_toNat_bmod, Int.bmod_def]
  simp [IntKind.wrap, IntKind.bits, IntKind.signed]
  omega
theorem bits_and (a b : Int) : bits .and .i64 a b = (bv a &&& bv b).toInt := by
  unfold bits; exact i64wrap_nat _
theorem bits_or (a b : Int) : bits .or .i64 a b = (bv a ||| bv b).toInt := by
  unfold bits; exact i64wrap_nat _
theorem bits_xor (a b : Int) : bits .xor .i64 a b = (bv a ^^^ bv b).toInt := by
  unfold bits; exact i64wrap_nat _
theorem shc_in (b : Int) : 0 ≤ shc b ∧ shc b < 64 := by unfold shc; omega
theorem u64wrap_nat (x : BitVec 64) : IntKind.u64.wrap (x.toNat : Int) = (x.toNat : Int) := by
  have h := x.isLt
  simp only [IntKind.wrap, IntKind.bits, IntKind.signed, Bool.false_and, Bool.false_eq_true, if_false]
  omega
theorem bits63 (b : Int) : bits .and .u64 (b % 18446744073709551616) 63 = shc b := by
  have e : bits .and .u64 (b % 18446744073709551616) 63 = ((BitVec.ofInt 64 (b % 18446744073709551616) &&& BitVec.ofInt 64 63).toNat : Int) := by
    unfold bits; exact u64wrap_nat _
  rw [e, BitVec.toNat_and, BitVec.toNat_ofInt, BitVec.toNat_ofInt]
  have h63 : ((63 : Int) % (2 ^ 64 : Nat)).toNat = 2 ^ 6 - 1 := by decide
  rw [h63, Nat.and_two_pow_sub_one_eq_mod]
  have e2 : ((2 ^ 64 : Nat) : Int) = 18446744073709551616 := by decide
  rw [e2]; unfold shc; omega
theorem in0 : inW 0 := by unfold inW; omega
theorem in1 : inW 1 := by unfold inW; omega
theorem ite_in {p : Prop} [Decidable p] {x y : Int} (hx : inW x) (hy : inW y) : inW (if p then x else y) := by split <;> assumption
theorem u64wrap (b : Int) : IntKind.u64.wrap b = b % 18446744073709551616 := by
  simp only [IntKind.wrap, IntKind.bits, IntKind.signed, Bool.false_and, Bool.false_eq_true, if_false]; rfl
theorem bits63w (b : Int) : bits .and .u64 (IntKind.u64.wrap b) 63 = shc b := by rw [u64wrap, bits63]
theorem tr_in (p : Bool) : inW (tr p) := ite_in in1 in0
theorem tr_01 (p : Bool) : tr p = 0 ∨ tr p = 1 := by unfold tr; split <;> simp

theorem tmod_in (a b : Int) (ha : inW a) : inW (a.tmod b) := by
  unfold inW at *
  have h0 : (a.tmod b).natAbs ≤ a.natAbs := by rw [Int.natAbs_tmod]; exact Nat.mod_le _ _
  rcases Int.le_total 0 a with h1 | h1
  · have := Int.tmod_nonneg b h1; omega
  · have h2 := Int.tmod_nonneg b (a := -a) (by omega)
    rw [Int.neg_tmod] at h2
    omega
theorem div_in (a b : Int) : inW (divF a b) := by unfold divF; exact ite_in in0 (wrap_in _)
theorem rem_in (a b : Int) (ha : inW a) : inW (remF a b) := by unfold remF; exact ite_in in0 (tmod_in a b ha)
theorem sar_in (a : Int) (n : Nat) (ha : inW a) : inW (a / 2 ^ n) := by
  unfold inW at *
  have hp : (0 : Int) < 2 ^ n := Int.pow_pos (by decide)
  have h1 : 1 ≤ (2 : Int) ^ n := hp
  constructor
  · rw [Int.le_ediv_iff_mul_le hp]; omega
  · have h2 : a / 2 ^ n < 9223372036854775808 := by rw [Int.ediv_lt_iff_lt_mul hp]; omega
    omega
theorem bin_in (op a b : Int) (ha : inW a) : inW (binF op a b) := by
  have hand : inW (bits .and .i64 a b) := by rw [bits_and]; exact bv_in _
  have hor : inW (bits .or .i64 a b) := by rw [bits_or]; exact bv_in _
  have hxor : inW (bits .xor .i64 a b) := by rw [bits_xor]; exact bv_in _
  unfold binF
  exact ite_in (wrap_in _) (ite_in (wrap_in _) (ite_in (wrap_in _) (ite_in (div_in _ _) (ite_in (rem_in _ _ ha) (ite_in hand (ite_in hor (ite_in hxor
    (ite_in (wrap_in _) (ite_in (wrap_in _) (ite_in (sar_in _ _ ha) (ite_in (tr_in _) (ite_in (tr_in _) (ite_in (tr_in _) (ite_in (tr_in _) (ite_in (tr_in _) in0)))))))))))))))
theorem un_in (op a : Int) : inW (unF op a) := by
  have hxor : inW (bits .xor .i64 (-1) a) := by rw [bits_xor]; exact bv_in _
  unfold unF
  exact ite_in (wrap_in _) (ite_in hxor in0)

/-- One digit of Parse, as the program reckons it. -/
def dstep (n : Int) (c : UInt8) : Int := wrap64 (wrap64 (wrap64 (10 * n) + wrap64 (c.toNat : Int)) - 48)
def dfold (l : List UInt8) : Int := l.foldl dstep 0
theorem dfold_in (l : List UInt8) : inW (dfold l) := by
  unfold dfold
  suffices h : ∀ n, inW n → inW (l.foldl dstep n) from h 0 in0
  induction l with
  | nil => exact fun n h => h
  | cons c l ih => exact fun n _ => ih _ (wrap_in _)
theorem dfold_snoc (l : List UInt8) (c : UInt8) : dfold (l ++ [c]) = dstep (dfold l) c := by simp [dfold]
theorem take_snoc (s : ByteArray) (k : Nat) (h : k < s.size) : s.data.toList.take (k + 1) = s.data.toList.take k ++ [s[k]] := by
  rw [List.take_succ_eq_append_getElem (by simpa using h)]; rfl

/-- What Parse computes: the number, and whether the text is that number's. -/
def valF (l : List UInt8) : Int := if Lib.hasPrefix l [45] then wrap64 (-dfold (Lib.trimPrefix l [45])) else dfold (Lib.trimPrefix l [45])
def parseB (l : List UInt8) : Bool := Lib.itoa (valF l) == l
def parseV (l : List UInt8) : Int := if parseB l then valF l else 0

theorem wrap_step (x u d : Int) (h : u = 10 * x + d) : wrap64 (wrap64 (wrap64 (10 * wrap64 x) + wrap64 (48 + d)) - 48) = wrap64 u := by
  subst h; unfold wrap64; omega
theorem dfold_one (c : UInt8) : dfold [c] = dstep 0 c := by unfold dfold; rw [List.foldl_cons, List.foldl_nil]
theorem digit_nat (d : Nat) (h : d < 10) : ((UInt8.ofNat (48 + d)).toNat : Int) = 48 + (d : Int) := by
  rw [UInt8.toNat_ofNat']; omega
theorem wrap_zero : wrap64 0 = 0 := by unfold wrap64; omega
theorem dfold_dec (u : Nat) : dfold (Lib.decDigits u) = wrap64 (u : Int) := by
  induction u using Nat.strongRecOn with
  | _ u ih =>
    by_cases h : u < 10
    · rw [Lib.decDigits_one h, dfold_one]
      unfold dstep
      rw [digit_nat u h, ← wrap_zero]
      exact wrap_step 0 u u (by omega)
    · rw [Lib.decDigits, dif_neg h, dfold_snoc, ih (u / 10) (by omega)]
      unfold dstep
      rw [digit_nat (u % 10) (by omega)]
      exact wrap_step _ u _ (by omega)
theorem dec_head (u : Nat) : ∃ c l, Lib.decDigits u = c :: l ∧ 48 ≤ c.toNat ∧ c.toNat ≤ 57 := by
  induction u using Nat.strongRecOn with
  | _ u ih =>
    by_cases h : u < 10
    · rw [Lib.decDigits_one h]
      exact ⟨_, _, rfl, by rw [UInt8.toNat_ofNat']; omega, by rw [UInt8.toNat_ofNat']; omega⟩
    · obtain ⟨c, l, e, h1, h2⟩ := ih (u / 10) (by omega)
      rw [Lib.decDigits, dif_neg h, e]
      exact ⟨c, _, rfl, h1, h2⟩
theorem hasP_cons (c : UInt8) (l : List UInt8) : Lib.hasPrefix (c :: l) [45] = (45 == c) := by
  simp [Lib.hasPrefix, List.isPrefixOf]
theorem valF_neg (l : List UInt8) : valF (45 :: l) = wrap64 (-dfold l) := by
  unfold valF Lib.trimPrefix
  rw [hasP_cons]; simp
theorem valF_dec (u : Nat) : valF (Lib.decDigits u) = wrap64 (u : Int) := by
  obtain ⟨c, l, e, h1, h2⟩ := dec_head u
  have h := dfold_dec u
  rw [e] at h ⊢
  unfold valF Lib.trimPrefix
  rw [hasP_cons]
  have hc : (45 == c) = false := by
    rw [beq_eq_false_iff_ne]; rintro rfl; simp at h1
  rw [hc]; simpa using h
/-- Parse of a word's text gives the word. -/
theorem valF_itoa (n : Int) (h : inW n) : valF (Lib.itoa n) = n := by
  have hn := h
  unfold inW at h
  unfold Lib.itoa
  split
  · rw [valF_neg, dfold_dec]; unfold wrap64; omega
  · rw [valF_dec]; unfold wrap64; omega
theorem parseB_itoa (n : Int) (h : inW n) : parseB (Lib.itoa n) = true := by unfold parseB; rw [valF_itoa n h]; simp
theorem parseV_itoa (n : Int) (h : inW n) : parseV (Lib.itoa n) = n := by unfold parseV; rw [parseB_itoa n h, valF_itoa n h]; rfl
theorem itoa_inj (n m : Int) (hn : inW n) (hm : inW m) (h : Lib.itoa n = Lib.itoa m) : n = m := by rw [← valF_itoa n hn, h, valF_itoa m hm]

theorem itoa_min : Lib.itoa (-9223372036854775808) = [45, 57, 50, 50, 51, 51, 55, 50, 48, 51, 54, 56, 53, 52, 55, 55, 53, 56, 48, 56] := by
  have e : Lib.decDigits 9223372036854775808 = [57, 50, 50, 51, 51, 55, 50, 48, 51, 54, 56, 53, 52, 55, 55, 53, 56, 48, 56] := by simp [Lib.decDigits]
  unfold Lib.itoa
  rw [if_pos (by decide)]
  show 45 :: Lib.decDigits 9223372036854775808 = _
  rw [e]
theorem min_in : inW (-9223372036854775808) := by unfold inW; omega
theorem parse_minB : parseB [45, 57, 50, 50, 51, 51, 55, 50, 48, 51, 54, 56, 53, 52, 55, 55, 53, 56, 48, 56] = true := by rw [← itoa_min]; exact parseB_itoa _ min_in
theorem parse_minV : parseV [45, 57, 50, 50, 51, 51, 55, 50, 48, 51, 54, 56, 53, 52, 55, 55, 53, 56, 48, 56] = -9223372036854775808 := by rw [← itoa_min]; exact parseV_itoa _ min_in
theorem parse_zeroB : parseB [45, 48] = false := by
  unfold parseB
  rw [valF_neg]
  have e : wrap64 (-dfold [48]) = 0 := by decide
  have e2 : Lib.itoa 0 = [48] := by simp [Lib.itoa, Lib.decDigits]
  rw [e, e2]; decide
theorem parse_zeroV : parseV [45, 48] = 0 := by unfold parseV; rw [parse_zeroB]; rfl
end Go.Proofs.YtjeidpfpgolonaaDoor.WM
