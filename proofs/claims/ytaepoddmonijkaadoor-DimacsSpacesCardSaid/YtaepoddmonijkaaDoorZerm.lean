/-
  Plain facts for TextZeros, TextBounds and TextCounts: digits without noughts ahead; powers of ten. No program in this text. No condition.
-/
import Derived.Test.YtaepoddmonijkaaDoorLinm
import Derived.Test.YtaepoddmonijkaaDoorWrit
namespace Go.Proofs.YtaepoddmonijkaaDoor
open Go
set_option linter.unusedVariables false
namespace Txt

theorem decV_pos {r : List UInt8} (h : r.all dig = true) (hh : r ≠ []) (h0 : r.head? ≠ some 48) : 1 ≤ decV 0 r := by
  rcases r with _ | ⟨c, r⟩
  · exact absurd rfl hh
  · rw [decV_cons]
    simp only [List.all_cons, Bool.and_eq_true] at h
    have hc := (dig_iff c).1 h.1
    have : c.toNat ≠ 48 := by
      intro e; apply h0; rw [List.head?_cons]; congr 1; exact UInt8.toNat_inj.1 (by simpa using e)
    have := decV_ge r (0 * 10 + (c.toNat - 48))
    omega
theorem digit_back {c : UInt8} (h : dig c = true) : UInt8.ofNat (48 + (c.toNat - 48)) = c := by
  have hc := (dig_iff c).1 h
  apply UInt8.toNat_inj.1
  rw [UInt8.toNat_ofNat']; omega
theorem digits_canon_n : ∀ (n : Nat) (r : List UInt8), r.length = n → r.all dig = true → r ≠ [] → (r.length = 1 ∨ r.head? ≠ some 48) → Lib.decDigits (decV 0 r) = r
  | 0, r, hl, _, hne, _ => absurd (List.length_eq_zero_iff.1 hl) hne
  | n + 1, r, hl, hd, hne, hh => by
    obtain ⟨r', c, rfl⟩ : ∃ r' c, r = r' ++ [c] := ⟨r.dropLast, r.getLast hne, (List.dropLast_concat_getLast hne).symm⟩
    rw [List.all_append, Bool.and_eq_true] at hd
    have hc : dig c = true := by simpa using hd.2
    have hc' := (dig_iff c).1 hc
    rw [decV_snoc]
    by_cases hr : r' = []
    · subst hr
      rw [decV_nil, Lib.decDigits, dif_pos (by omega), Nat.zero_mul, Nat.zero_add, digit_back hc]; rfl
    · have hh' : r'.head? ≠ some 48 := by
        rcases hh with h | h
        · simp at h; exact absurd h hr
        · rcases r' with _ | ⟨x, y⟩
          · exact absurd rfl hr
          · simpa using h
      have ih := digits_canon_n n r' (by simp at hl; omega) hd.1 hr (.inr hh')
      have hp := decV_pos hd.1 hr hh'
      rw [Lib.decDigits, dif_neg (by omega)]
      rw [show (decV 0 r' * 10 + (c.toNat - 48)) / 10 = decV 0 r' by omega, ih, show (decV 0 r' * 10 + (c.toNat - 48)) % 10 = c.toNat - 48 by omega, digit_back hc]
theorem digits_canon {r : List UInt8} (hd : r.all dig = true) (hne : r ≠ []) (hh : r.length = 1 ∨ r.head? ≠ some 48) : Lib.decDigits (decV 0 r) = r := digits_canon_n r.length r rfl hd hne hh
theorem decV_nought (r : List UInt8) : decV 0 (48 :: r) = decV 0 r := by rw [decV_cons]; rfl

theorem decV_tens (k : Nat) : decV 0 (49 :: List.replicate k 48) = 10 ^ k := by
  have h : ∀ k a, decV a (List.replicate k 48) = a * 10 ^ k := by
    intro k
    induction k with
    | zero => intro a; rw [List.replicate_zero, decV_nil]; simp
    | succ k ih => intro a; rw [List.replicate_succ, decV_cons, ih, Nat.pow_succ]; simp [Nat.mul_assoc, Nat.mul_comm]
  rw [decV_cons, h]; simp
theorem tens_all (k : Nat) : (49 :: List.replicate k (48 : UInt8)).all dig = true := by
  simp only [List.all_cons, List.all_eq_true, List.mem_replicate, Bool.and_eq_true]
  exact ⟨rfl, by rintro x ⟨_, rfl⟩; rfl⟩
theorem num_tens {k : Nat} (hk : 19 ≤ k) {l : List UInt8} (hl : l = 49 :: List.replicate k 48) : numE l = 3 := by
  have hn : neg l = false := by rw [hl]; exact neg_dig rfl
  have hb : body l = 49 :: List.replicate k 48 := by rw [hl]; exact body_dig rfl
  refine numE_range (by rw [hb]; unfold okB; rw [tens_all]; rfl) ?_
  unfold mag
  rw [hb, decV_tens, hn]
  have : 10 ^ 19 ≤ 10 ^ k := Nat.pow_le_pow_right (by decide) hk
  have h19 : (10 : Nat) ^ 19 = 10000000000000000000 := by decide
  simp; omega

/-- a byte that is no digit, and stands not as a sign ahead, makes a word no number -/
theorem num_bad {l : List UInt8} {c : UInt8} (hm : c ∈ body l) (hd : dig c = false) : numE l = 2 := by
  apply numE_form
  unfold okB
  have : (body l).all dig = false := by rw [List.all_eq_false]; exact ⟨c, hm, by simp [hd]⟩
  rw [this]; simp
theorem mem_body_of_ne {l : List UInt8} {c : UInt8} (h : c ∈ l) (hc : c ≠ 45) : c ∈ body l := by
  unfold body
  split
  · rename_i hn
    rcases l with _ | ⟨x, r⟩
    · simp at h
    · have hx : x = 45 := by simpa [neg] using hn
      subst hx
      rcases List.mem_cons.1 h with h | h
      · exact absurd h hc
      · exact h
  · exact h

theorem nDigits_le {a b : Nat} (h : a ≤ b) : Lib.nDigits a ≤ Lib.nDigits b := by
  induction b using Nat.strongRecOn generalizing a with
  | _ b ih =>
    by_cases ha : a < 10
    · rw [Lib.nDigits_small ha]; exact Lib.nDigits_pos b
    · rw [Lib.nDigits_big ha, Lib.nDigits_big (u := b) (by omega)]
      have := ih (b / 10) (by omega) (a := a / 10) (by omega)
      omega
theorem itoa_len_le {a b : Int} (h : (0 ≤ a ∧ a ≤ b) ∨ (a < 0 ∧ b ≤ a)) : (Lib.itoa a).length ≤ (Lib.itoa b).length := by
  rw [itoa_form, itoa_form, List.length_append, List.length_append, Lib.decDigits_length, Lib.decDigits_length]
  have := nDigits_le (a := a.natAbs) (b := b.natAbs) (by omega)
  rcases h with h | h
  · rw [if_neg (by omega), if_neg (by omega)]; omega
  · rw [if_pos (by omega), if_pos (by omega)]; omega

end Txt
end Go.Proofs.YtaepoddmonijkaaDoor
