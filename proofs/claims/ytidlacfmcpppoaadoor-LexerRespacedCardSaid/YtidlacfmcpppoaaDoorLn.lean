/- Stage 2: blank text: the plain function, and the walk of the statements' helper blank. -/
import Derived.Test.YtidlacfmcpppoaaDoorLb
namespace Go.Proofs.YtidlacfmcpppoaaDoor
open Go.RowKit (wrap64 intOf)
open Go Go.RowKit WM LX

/-- Spaces and comments alone; the flag: inside a comment. -/
def blankF : Bool → List UInt8 → Bool
  | _, [] => true
  | b, c :: t => if c.toNat = 10 then blankF false t else if c.toNat = 35 then blankF true t else if b then blankF true t else (sepB c && blankF false t)
theorem blankF_true (c : UInt8) (t : List UInt8) : blankF true (c :: t) = if c.toNat = 10 then blankF false t else blankF true t := by
  rw [blankF]; by_cases h : c.toNat = 10
  · rw [if_pos h, if_pos h]
  · rw [if_neg h, if_neg h]; split <;> simp
theorem blankF_false (c : UInt8) (t : List UInt8) : blankF false (c :: t) = if c.toNat = 35 then blankF true t else (sepB c && blankF false t) := by
  rw [blankF]; by_cases h : c.toNat = 10
  · rw [if_pos h, if_neg (by omega), show sepB c = true by unfold sepB; simp [h]]; rfl
  · rw [if_neg h]; simp
theorem skip_blank (b : Bool) (l : List UInt8) : blankF b (l.take (skipLen b l)) = true := by
  induction l generalizing b with
  | nil => cases b <;> rfl
  | cons c t ih =>
    cases b
    · by_cases h : sepB c = true
      · rw [skip_sep t h, Nat.add_comm, List.take_succ_cons, blankF_false]
        by_cases h2 : c.toNat = 35
        · rw [not_sep35 h2] at h; cases h
        · rw [if_neg h2, h, ih false]; rfl
      · by_cases h2 : c.toNat = 35
        · rw [sk_f, if_neg h, if_pos h2, Nat.add_comm, List.take_succ_cons, blankF_false, if_pos h2, ih true]
        · rw [sk_f, if_neg h, if_neg h2]; rfl
    · rw [sk_t, Nat.add_comm, List.take_succ_cons, blankF_true]
      by_cases h2 : c.toNat = 10
      · rw [if_pos h2]; simp only [h2, decide_true, Bool.not_true]; exact ih false
      · rw [if_neg h2]; simp only [h2, decide_false, Bool.not_false]; exact ih true
def BlankAt (s : ByteArray) (b : Bool) (k : Nat) : Prop := blankF b (s.data.toList.drop k) = true
theorem blank_nl {s : ByteArray} {b : Bool} {k : Nat} (h : BlankAt s b k) (hk : k < s.size) (h10 : s[k].toNat = 10) : BlankAt s false (k + 1) := by
  unfold BlankAt at *
  rw [drop_cons s k hk] at h
  cases b
  · rw [blankF_false, if_neg (by omega)] at h
    simp only [Bool.and_eq_true] at h; exact h.2
  · rwa [blankF_true, if_pos h10] at h
theorem blank_hash {s : ByteArray} {b : Bool} {k : Nat} (h : BlankAt s b k) (hk : k < s.size) (h35 : s[k].toNat = 35) : BlankAt s true (k + 1) := by
  unfold BlankAt at *
  rw [drop_cons s k hk] at h
  cases b
  · rwa [blankF_false, if_pos h35] at h
  · rwa [blankF_true, if_neg (by omega)] at h
theorem blank_in {s : ByteArray} {k : Nat} (h : BlankAt s true k) (hk : k < s.size) (h10 : s[k].toNat ≠ 10) : BlankAt s true (k + 1) := by
  unfold BlankAt at *
  rw [drop_cons s k hk] at h
  rwa [blankF_true, if_neg h10] at h
theorem blank_out {s : ByteArray} {k : Nat} (h : BlankAt s false k) (hk : k < s.size) (h35 : s[k].toNat ≠ 35) : BlankAt s false (k + 1) ∧ sepB s[k] = true := by
  unfold BlankAt at *
  rw [drop_cons s k hk, blankF_false, if_neg h35] at h
  simp only [Bool.and_eq_true] at h; exact ⟨h.2, h.1⟩
theorem sep_of {c : UInt8} (h : sepB c = true) (h10 : c.toNat ≠ 10) : (c.toNat : Int) = 32 ∨ (c.toNat : Int) = 9 ∨ (c.toNat : Int) = 13 := by
  rcases sep_cases c with ⟨h1, _⟩ | ⟨_, h2⟩
  · omega
  · rw [h] at h2; cases h2
theorem bneF {a b : Int} (h : a = b) : (a != b) = false := by rw [bne, beqT h]; rfl
theorem bneT {a b : Int} (h : a ≠ b) : (a != b) = true := by rw [bne, beqF h]; rfl
theorem blank_true (s : ByteArray) (hs : s.size ≤ 9223372036854775807) (hb : BlankAt s false 0) (w : World) :
    Calls Tryd.prog 14 #[.string s] w (IsB true w) := by
  go_enter Tryd.func14, Tryd.ntmps14
  go_wp2_with fail
  go_loop [3, 4] (fun v i => ∃ (k : Nat) (b : Bool), k ≤ s.size ∧ BlankAt s b k ∧ i = .int .i64 k ∧ v = .bool b) (fun _ i => s.size - (intOf i).toNat)
  case atStart => exact ⟨0, false, Nat.zero_le _, hb, rfl, rfl⟩
  case round =>
    obtain ⟨k, b, hk, hbl, rfl, rfl⟩ := hrel
    clear hb
    by_cases hlt : k < s.size
    · by_cases h10 : s[k].toNat = 10
      · have b1 := beqT (a := (s[k].toNat : Int)) (b := 10) (by omega)
        have H := blank_nl hbl hlt h10
        clear h10
        go_wp2_with fail
        go_round
        case rel => exact ⟨k + 1, false, by omega, H, by go_num, rfl⟩
        case measure => simp [intOf]; omega
      · have b1 := beqF (a := (s[k].toNat : Int)) (b := 10) (by omega)
        by_cases h35 : s[k].toNat = 35
        · have b2 := beqT (a := (s[k].toNat : Int)) (b := 35) (by omega)
          have H := blank_hash hbl hlt h35
          clear h10 h35
          go_wp2_with fail
          go_round
          case rel => exact ⟨k + 1, true, by omega, H, by go_num, rfl⟩
          case measure => simp [intOf]; omega
        · have b2 := beqF (a := (s[k].toNat : Int)) (b := 35) (by omega)
          cases b
          · obtain ⟨H, hsp⟩ := blank_out hbl hlt h35
            have hsp := sep_of hsp h10
            clear h10 h35
            rcases hsp with h | h | h
            all_goals
              have b3 := bneF h
              try have b4 : ((s[k].toNat : Int) != 32) = true := bneT (by omega)
              try have b5 : ((s[k].toNat : Int) != 9) = true := bneT (by omega)
              clear h
              go_wp2_with fail
              go_round
              case rel => exact ⟨k + 1, false, by omega, H, by go_num, rfl⟩
              case measure => simp [intOf]; omega
          · have H := blank_in hbl hlt h10
            clear h10 h35
            go_wp2_with fail
            go_round
            case rel => exact ⟨k + 1, true, by omega, H, by go_num, rfl⟩
            case measure => simp [intOf]; omega
    · obtain rfl : k = s.size := by omega
      go_wp2_with fail
      go_ret
      exact isB rfl
end Go.Proofs.YtidlacfmcpppoaaDoor
