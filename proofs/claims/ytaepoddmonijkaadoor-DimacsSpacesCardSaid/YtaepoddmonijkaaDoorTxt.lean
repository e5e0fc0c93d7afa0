/-
  Plain facts on lists of bytes: the number that a word says, how it is written, lines and words. No program in this text. No condition.
-/
import Derived.Lib.ParseIntB
import Derived.Lib.Split
import Derived.Lib.FieldsP
import Derived.Lib.ItoaNum
import Derived.Lib.ItoaMem
import Derived.Lib.Join
import Derived.Lib.Strings
namespace Go.Proofs.YtaepoddmonijkaaDoor
open Go
set_option linter.unusedVariables false
namespace Txt

def dig (c : UInt8) : Bool := decide (48 ≤ c.toNat ∧ c.toNat ≤ 57)
theorem dig_iff (c : UInt8) : dig c = true ↔ (48 ≤ c.toNat ∧ c.toNat ≤ 57) := by unfold dig; simp
def decV (acc : Nat) (l : List UInt8) : Nat := l.foldl (fun a c => a * 10 + (c.toNat - 48)) acc
theorem decV_nil (acc : Nat) : decV acc [] = acc := by unfold decV; rw [List.foldl_nil]
theorem decV_cons (acc : Nat) (c : UInt8) (r : List UInt8) : decV acc (c :: r) = decV (acc * 10 + (c.toNat - 48)) r := by unfold decV; rw [List.foldl_cons]
theorem decV_append (a b : List UInt8) : ∀ (acc : Nat), decV acc (a ++ b) = decV (decV acc a) b := by
  induction a with
  | nil => intro acc; rw [List.nil_append, decV_nil]
  | cons c a ih => intro acc; rw [List.cons_append, decV_cons, decV_cons]; exact ih _
theorem decV_ge (l : List UInt8) : ∀ (acc : Nat), acc ≤ decV acc l := by
  induction l with
  | nil => intro acc; rw [decV_nil]; exact Nat.le_refl _
  | cons c l ih => intro acc; rw [decV_cons]; have := ih (acc * 10 + (c.toNat - 48)); omega
theorem decV_mono (l : List UInt8) : ∀ (a b : Nat), a ≤ b → decV a l ≤ decV b l := by
  induction l with
  | nil => intro a b h; rw [decV_nil, decV_nil]; exact h
  | cons c l ih => intro a b h; rw [decV_cons, decV_cons]; exact ih _ _ (by omega)
theorem decV_snoc (acc : Nat) (l : List UInt8) (c : UInt8) : decV acc (l ++ [c]) = decV acc l * 10 + (c.toNat - 48) := by rw [decV_append, decV_cons, decV_nil]
/-- what the first bytes say is no more than what all say -/
theorem decV_take (acc k : Nat) (l : List UInt8) : decV acc (l.take k) ≤ decV acc l := by
  conv => rhs; rw [← List.take_append_drop k l]
  rw [decV_append]; exact decV_ge _ _

def neg (l : List UInt8) : Bool := l.head? == some 45
def body (l : List UInt8) : List UInt8 := if neg l then l.tail else l
def okB (l : List UInt8) : Bool := !l.isEmpty && l.all dig
def mag (l : List UInt8) : Nat := decV 0 (body l)
/-- what is wrong of a word: 0 nothing, 2 its form, 3 its range -/
def numE (l : List UInt8) : Int := if okB (body l) then (if mag l < 9223372036854775808 + (if neg l then 1 else 0) then 0 else 3) else 2
def numV (l : List UInt8) : Int := if numE l = 0 then (if neg l then -(mag l : Int) else mag l) else 0

theorem numE_cases (l : List UInt8) : numE l = 0 ∨ numE l = 2 ∨ numE l = 3 := by
  unfold numE
  by_cases h : okB (body l) = true
  · rw [if_pos h]
    by_cases h2 : mag l < 9223372036854775808 + (if neg l then 1 else 0)
    · rw [if_pos h2]; exact .inl rfl
    · rw [if_neg h2]; exact .inr (.inr rfl)
  · rw [if_neg h]; exact .inr (.inl rfl)
theorem numE_form {l : List UInt8} (h : okB (body l) = false) : numE l = 2 := by unfold numE; simp [h]
theorem numV_form {l : List UInt8} (h : okB (body l) = false) : numV l = 0 := by unfold numV; simp [numE_form h]
theorem numE_range {l : List UInt8} (h : okB (body l) = true) (h2 : ¬ mag l < 9223372036854775808 + (if neg l then 1 else 0)) : numE l = 3 := by unfold numE; rw [if_pos h, if_neg h2]
theorem numV_range {l : List UInt8} (h : okB (body l) = true) (h2 : ¬ mag l < 9223372036854775808 + (if neg l then 1 else 0)) : numV l = 0 := by unfold numV; simp [numE_range h h2]
theorem numE_ok {l : List UInt8} (h : okB (body l) = true) (h2 : mag l < 9223372036854775808 + (if neg l then 1 else 0)) : numE l = 0 := by unfold numE; rw [if_pos h, if_pos h2]
theorem numV_ok {l : List UInt8} (h : okB (body l) = true) (h2 : mag l < 9223372036854775808 + (if neg l then 1 else 0)) : numV l = (if neg l then -(mag l : Int) else mag l) := by unfold numV; rw [if_pos (numE_ok h h2)]
theorem numV_err {l : List UInt8} (h : numE l ≠ 0) : numV l = 0 := by unfold numV; rw [if_neg h]
theorem numV_bd (l : List UInt8) : -9223372036854775808 ≤ numV l ∧ numV l ≤ 9223372036854775807 := by
  by_cases h : okB (body l) = true
  · by_cases h2 : mag l < 9223372036854775808 + (if neg l then 1 else 0)
    · rw [numV_ok h h2]; split <;> rename_i g <;> simp [g] at h2 <;> omega
    · rw [numV_range h h2]; omega
  · rw [numV_form (by simpa using h)]; omega

/-- the library's parsing, of digits alone -/
theorem parseUintM_dig (M : Nat) (hM : M ≤ 18446744073709551615) : ∀ (l : List UInt8) (acc : Nat), acc ≤ M → l.all dig = true →
    Lib.parseUintM M acc l = if decV acc l ≤ M then .ok (decV acc l) else .range
  | [], acc, ha, _ => by rw [decV_nil, if_pos ha]; rfl
  | c :: l, acc, ha, hd => by
    simp only [List.all_cons, Bool.and_eq_true] at hd
    obtain ⟨hc, hl⟩ := hd
    have hc' := (dig_iff c).1 hc
    have hge := decV_ge l (acc * 10 + (c.toNat - 48))
    rw [decV_cons]
    unfold Lib.parseUintM
    rw [if_pos hc']
    have hx0 : acc * 10 ≤ acc * 10 + (c.toNat - 48) := by omega
    generalize acc * 10 + (c.toNat - 48) = x at hge hx0 ⊢
    by_cases h1 : 1844674407370955162 ≤ acc
    · have h3 : ¬ decV x l ≤ M := by omega
      simp only [if_pos h1, if_neg h3]
    · rw [if_neg h1]
      by_cases h2 : M < x
      · have h3 : ¬ decV x l ≤ M := by omega
        simp only [if_pos h2, if_neg h3]
      · rw [if_neg h2]
        exact parseUintM_dig M hM l _ (by omega) hl

theorem parseInt_good (l : List UInt8) (h : okB (body l) = true) :
    Lib.parseIntB 64 l = if numE l = 0 then .ok (numV l) else .range := by
  unfold okB at h
  simp only [Bool.and_eq_true, Bool.not_eq_true'] at h
  obtain ⟨hne, hd⟩ := h
  have hok : okB (body l) = true := by unfold okB; simp [hne, hd]
  rcases l with _ | ⟨c, r⟩
  · simp [body, neg] at hne
  by_cases hc : c.toNat = 45
  · have hc' : c = 45 := UInt8.toNat_inj.1 (by simpa using hc)
    subst hc'
    have hn : neg (45 :: r) = true := by simp [neg]
    have hb : body (45 :: r) = r := by simp [body, hn]
    rw [hb] at hne hd
    have hr : r ≠ [] := by intro e; subst e; simp at hne
    have hm : mag (45 :: r) = decV 0 r := by unfold mag; rw [hb]
    unfold Lib.parseIntB
    simp only [show (45 : UInt8).toNat = 45 from rfl, or_true, if_true, true_and, not_true, false_and, if_false]
    unfold Lib.parseUintB
    rw [if_neg hr, parseUintM_dig _ (by decide) r 0 (by decide) hd]
    by_cases h2 : decV 0 r < 9223372036854775809
    · have e1 := numE_ok hok (by rw [hm, hn]; simpa using h2)
      have e2 := numV_ok hok (by rw [hm, hn]; simpa using h2)
      rw [if_pos e1, e2, hm, hn]
      have hx : decV 0 r ≤ 2 ^ 64 - 1 := by omega
      simp only [if_pos hx]
      rw [if_neg (by omega)]
      simp
    · have e1 := numE_range hok (by rw [hm, hn]; simpa using h2)
      rw [if_neg (show ¬ numE (45 :: r) = 0 by rw [e1]; decide)]
      by_cases hx : decV 0 r ≤ 2 ^ 64 - 1
      · simp only [if_pos hx]; rw [if_pos (by omega)]
      · simp only [if_neg hx]
  · have hn : neg (c :: r) = false := by
      simp only [neg, List.head?_cons, beq_eq_false_iff_ne, ne_eq, Option.some.injEq]
      intro e; subst e; exact hc rfl
    have hb : body (c :: r) = c :: r := by simp [body, hn]
    rw [hb] at hne hd
    have hcd : dig c = true := by simp only [List.all_cons, Bool.and_eq_true] at hd; exact hd.1
    have hcd' := (dig_iff c).1 hcd
    have hm : mag (c :: r) = decV 0 (c :: r) := by unfold mag; rw [hb]
    unfold Lib.parseIntB
    have h43 : ¬ (c.toNat = 43 ∨ c.toNat = 45) := by omega
    simp only [if_neg h43, if_neg hc]
    unfold Lib.parseUintB
    rw [if_neg (by simp), parseUintM_dig _ (by decide) (c :: r) 0 (by decide) hd]
    by_cases h2 : decV 0 (c :: r) < 9223372036854775808
    · have e1 := numE_ok hok (by rw [hm, hn]; simpa using h2)
      have e2 := numV_ok hok (by rw [hm, hn]; simpa using h2)
      rw [if_pos e1, e2, hm, hn]
      have hx : decV 0 (c :: r) ≤ 2 ^ 64 - 1 := by omega
      simp only [if_pos hx]
      rw [if_neg (by omega), if_neg (by omega)]
      simp
    · have e1 := numE_range hok (by rw [hm, hn]; simpa using h2)
      rw [if_neg (show ¬ numE (c :: r) = 0 by rw [e1]; decide)]
      by_cases hx : decV 0 (c :: r) ≤ 2 ^ 64 - 1
      · simp only [if_pos hx]; rw [if_pos (by omega)]
      · simp only [if_neg hx]

/-- the word behind its sign -/
theorem body_trim (l : List UInt8) : Lib.trimPrefix l [45] = body l := by
  unfold Lib.trimPrefix Lib.hasPrefix body neg
  rcases l with _ | ⟨c, r⟩
  · simp
  · by_cases hc : c = 45
    · subst hc; simp
    · have : ¬ 45 = c := fun e => hc e.symm
      simp [hc, this]

/-! writing -/
theorem ofNat_dig {d : Nat} (h : d < 10) : (UInt8.ofNat (48 + d)).toNat = 48 + d := by
  simp [UInt8.toNat_ofNat']; omega
theorem decDigits_ne (u : Nat) : Lib.decDigits u ≠ [] := by
  rw [Lib.decDigits]; split <;> simp
theorem decDigits_dig (u : Nat) : (Lib.decDigits u).all dig = true := by
  induction u using Nat.strongRecOn with
  | _ u ih =>
    rw [Lib.decDigits]
    split
    · rename_i h
      simp [dig]; omega
    · rename_i h
      rw [List.all_append, ih (u / 10) (by omega)]
      have : u % 10 < 10 := by omega
      simp [dig]; omega
theorem decV_decDigits (u : Nat) : decV 0 (Lib.decDigits u) = u := by
  induction u using Nat.strongRecOn with
  | _ u ih =>
    rw [Lib.decDigits]
    split
    · rename_i h
      rw [decV_cons, decV_nil, ofNat_dig h]; omega
    · rename_i h
      rw [decV_snoc, ih (u / 10) (by omega), ofNat_dig (by omega)]; omega
theorem decDigits_head (u : Nat) (h : 1 ≤ u) : (Lib.decDigits u).head? ≠ some 48 := by
  induction u using Nat.strongRecOn with
  | _ u ih =>
    rw [Lib.decDigits]
    split
    · rename_i h1
      simp only [List.head?_cons, ne_eq, Option.some.injEq]
      intro e
      have := congrArg UInt8.toNat e
      rw [ofNat_dig h1] at this
      simp at this; omega
    · rename_i h1
      have := ih (u / 10) (by omega) (by omega)
      have hne := decDigits_ne (u / 10)
      rcases hd : Lib.decDigits (u / 10) with _ | ⟨x, y⟩
      · exact absurd hd hne
      · rw [hd] at this; simpa using this
theorem decDigits_first (u : Nat) : ∃ c r, Lib.decDigits u = c :: r ∧ dig c = true := by
  have h := decDigits_dig u
  have hne := decDigits_ne u
  rcases hd : Lib.decDigits u with _ | ⟨c, r⟩
  · exact absurd hd hne
  · rw [hd] at h; simp only [List.all_cons, Bool.and_eq_true] at h; exact ⟨c, r, rfl, h.1⟩
theorem neg_dig {c : UInt8} {r : List UInt8} (h : dig c = true) : neg (c :: r) = false := by
  have := (dig_iff c).1 h
  simp only [neg, List.head?_cons, beq_eq_false_iff_ne, ne_eq, Option.some.injEq]
  intro e; subst e; simp at this
theorem neg_minus (r : List UInt8) : neg (45 :: r) = true := by simp [neg]
theorem body_minus (r : List UInt8) : body (45 :: r) = r := by simp [body, neg_minus]
theorem body_dig {c : UInt8} {r : List UInt8} (h : dig c = true) : body (c :: r) = c :: r := by simp [body, neg_dig h]

/-- a number between its noughts: sign, noughts, digits -/
theorem num_padded (n : Int) (k : Nat) (h0 : -9223372036854775808 ≤ n) (h1 : n ≤ 9223372036854775807) (l : List UInt8)
    (hl : l = (if n < 0 then [45] else []) ++ (List.replicate k 48 ++ Lib.decDigits n.natAbs)) : numE l = 0 ∧ numV l = n := by
  have hz : ∀ k, (List.replicate k (48 : UInt8)).all dig = true := by
    intro k; simp only [List.all_eq_true, List.mem_replicate]; rintro x ⟨_, rfl⟩; rfl
  have hdv : ∀ k, decV 0 (List.replicate k (48 : UInt8)) = 0 := by
    intro k; induction k with
    | zero => exact decV_nil 0
    | succ k ih => rw [List.replicate_succ, decV_cons]; exact ih
  have hall : (List.replicate k (48 : UInt8) ++ Lib.decDigits n.natAbs).all dig = true := by rw [List.all_append, hz, decDigits_dig]; rfl
  have hok : okB (List.replicate k (48 : UInt8) ++ Lib.decDigits n.natAbs) = true := by
    unfold okB; rw [hall]; simp [decDigits_ne]
  have hv : decV 0 (List.replicate k (48 : UInt8) ++ Lib.decDigits n.natAbs) = n.natAbs := by rw [decV_append, hdv, decV_decDigits]
  obtain ⟨c, r, hcr, hc⟩ : ∃ c r, List.replicate k (48 : UInt8) ++ Lib.decDigits n.natAbs = c :: r ∧ dig c = true := by
    obtain ⟨c, r, e, hc⟩ := decDigits_first n.natAbs
    rcases k with _ | k
    · exact ⟨c, r, by simpa using e, hc⟩
    · exact ⟨48, _, by rw [List.replicate_succ]; rfl, rfl⟩
  by_cases hn : n < 0
  · rw [if_pos hn] at hl
    have hN : neg l = true := by rw [hl]; exact neg_minus _
    have hB : body l = List.replicate k (48 : UInt8) ++ Lib.decDigits n.natAbs := by rw [hl]; exact body_minus _
    have hM : mag l = n.natAbs := by unfold mag; rw [hB, hv]
    have hlt : mag l < 9223372036854775808 + (if neg l then 1 else 0) := by rw [hM, hN]; simp; omega
    refine ⟨numE_ok (by rw [hB]; exact hok) hlt, ?_⟩
    rw [numV_ok (by rw [hB]; exact hok) hlt, hN, hM]; simp; omega
  · rw [if_neg hn, List.nil_append] at hl
    have hN : neg l = false := by rw [hl, hcr]; exact neg_dig hc
    have hB : body l = List.replicate k (48 : UInt8) ++ Lib.decDigits n.natAbs := by rw [hl, hcr]; exact body_dig hc
    have hM : mag l = n.natAbs := by unfold mag; rw [hB, hv]
    have hlt : mag l < 9223372036854775808 + (if neg l then 1 else 0) := by rw [hM, hN]; simp; omega
    refine ⟨numE_ok (by rw [hB]; exact hok) hlt, ?_⟩
    rw [numV_ok (by rw [hB]; exact hok) hlt, hN, hM]; simp; omega

theorem itoa_form (n : Int) : Lib.itoa n = (if n < 0 then [45] else []) ++ Lib.decDigits n.natAbs := by
  unfold Lib.itoa; split
  · rfl
  · rw [show n.natAbs = n.toNat by omega]; rfl
theorem num_itoa (n : Int) (h0 : -9223372036854775808 ≤ n) (h1 : n ≤ 9223372036854775807) : numE (Lib.itoa n) = 0 ∧ numV (Lib.itoa n) = n :=
  num_padded n 0 h0 h1 _ (by rw [itoa_form]; simp)
theorem itoa_inj {a b : Int} (a0 : -9223372036854775808 ≤ a) (a1 : a ≤ 9223372036854775807) (b0 : -9223372036854775808 ≤ b) (b1 : b ≤ 9223372036854775807) (h : Lib.itoa a = Lib.itoa b) : a = b := by
  have := (num_itoa a a0 a1).2; rw [h, (num_itoa b b0 b1).2] at this; exact this.symm

/-! lines and words -/
def lin : List UInt8 → List UInt8 → List (List UInt8)
  | cur, [] => if cur = [] then [] else [cur]
  | cur, c :: r => if c = 10 then cur :: lin [] r else lin (cur ++ [c]) r
def blk (c : UInt8) : Bool := c == 32 || c == 9 || c == 13
def wrd : List UInt8 → List UInt8 → List (List UInt8)
  | cur, [] => if cur = [] then [] else [cur]
  | cur, c :: r => if blk c then (if cur = [] then wrd [] r else cur :: wrd [] r) else wrd (cur ++ [c]) r

end Txt
end Go.Proofs.YtaepoddmonijkaaDoor
