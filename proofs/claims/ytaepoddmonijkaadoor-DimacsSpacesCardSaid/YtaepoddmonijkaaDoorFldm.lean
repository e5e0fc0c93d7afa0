/-
  What the library's splitting at a byte 10, and its fields of three blanks, are: Txt's lines and words. No program in this text. No condition.
-/
import Derived.Test.YtaepoddmonijkaaDoorLinm
import Derived.Lib.SplitLaws
import Derived.Lib.CountLaws
namespace Go.Proofs.YtaepoddmonijkaaDoor
open Go
set_option linter.unusedVariables false
namespace Txt

/-! splitting -/
def spl : List UInt8 → List UInt8 → List (List UInt8)
  | cur, [] => [cur]
  | cur, c :: r => if c = 10 then cur :: spl [] r else spl (cur ++ [c]) r
theorem spl_nil (cur : List UInt8) : spl cur [] = [cur] := by simp only [spl]
theorem spl_cons (cur : List UInt8) (c : UInt8) (r : List UInt8) : spl cur (c :: r) = if c = 10 then cur :: spl [] r else spl (cur ++ [c]) r := by simp only [spl]
theorem lin_snoc (r : List UInt8) : ∀ cur, lin cur (r ++ [10]) = spl cur r := by
  induction r with
  | nil => intro cur; rw [List.nil_append, lin_cons, if_pos rfl, lin_nil, if_pos rfl, spl_nil]
  | cons c r ih =>
    intro cur; rw [List.cons_append, lin_cons, spl_cons, ih, ih]
theorem lin_spl (r : List UInt8) : ∀ cur, r.getLast? ≠ some 10 → (cur ≠ [] ∨ r ≠ []) → lin cur r = spl cur r := by
  induction r with
  | nil => intro cur _ h; rw [lin_nil, spl_nil, if_neg (by rcases h with h | h; exact h; exact absurd rfl h)]
  | cons c r ih =>
    intro cur h _
    rw [lin_cons, spl_cons]
    have hr : r.getLast? ≠ some 10 := by
      intro e; apply h
      rcases r with _ | ⟨x, y⟩
      · simp at e
      · rw [List.getLast?_cons_cons]; exact e
    by_cases hc : c = 10
    · rw [if_pos hc, if_pos hc]
      have hne : r ≠ [] := by intro e; subst e; subst hc; simp at h
      rw [ih [] hr (.inr hne)]
    · rw [if_neg hc, if_neg hc, ih _ hr (.inl (by simp))]
theorem lines_eq (s : List UInt8) (h : s ≠ []) : spl [] (Lib.trimSuffix s [10]) = lin [] s := by
  unfold Lib.trimSuffix Lib.hasSuffix
  by_cases hs : ([10] : List UInt8).isSuffixOf s = true
  · rw [if_pos hs]
    obtain ⟨t, rfl⟩ := List.isSuffixOf_iff_suffix.1 hs
    rw [lin_snoc]; simp
  · rw [if_neg hs, lin_spl s [] ?_ (.inr h)]
    intro e
    apply hs
    rw [List.isSuffixOf_iff_suffix]
    obtain ⟨ys, hy⟩ := List.getLast?_eq_some_iff.1 e
    exact ⟨ys, hy.symm⟩

theorem index10_cons (c : UInt8) (l : List UInt8) : Lib.index (c :: l) [10] = if c = 10 then 0 else if Lib.index l [10] = -1 then -1 else Lib.index l [10] + 1 := by
  rw [Lib.index]
  by_cases h : c = 10
  · subst h; simp [List.isPrefixOf]
  · have : ([10] : List UInt8).isPrefixOf (c :: l) = false := by simp [List.isPrefixOf]; exact fun e => h e.symm
    rw [this, if_neg h]; simp
theorem index10_miss (l : List UInt8) : ∀ cur, Lib.index l [10] = -1 → spl cur l = [cur ++ l] := by
  induction l with
  | nil => intro cur _; rw [spl_nil, List.append_nil]
  | cons c l ih =>
    intro cur h
    rw [index10_cons] at h
    by_cases hc : c = 10
    · rw [if_pos hc] at h; exact absurd h (by decide)
    · rw [if_neg hc] at h
      have hm : Lib.index l [10] = -1 := by
        by_cases hm : Lib.index l [10] = -1
        · exact hm
        · rw [if_neg hm] at h; have := Lib.index_ge l [10]; omega
      rw [spl_cons, if_neg hc, ih _ hm, List.append_assoc]; rfl
theorem index10_hit (l : List UInt8) : ∀ cur (i : Nat), Lib.index l [10] = i → spl cur l = (cur ++ l.take i) :: spl [] (l.drop (i + 1)) := by
  induction l with
  | nil => intro cur i h; simp [Lib.index] at h
  | cons c l ih =>
    intro cur i h
    rw [index10_cons] at h
    by_cases hc : c = 10
    · rw [if_pos hc] at h
      obtain rfl : i = 0 := by omega
      rw [spl_cons, if_pos hc]; simp
    · rw [if_neg hc] at h
      by_cases hm : Lib.index l [10] = -1
      · rw [if_pos hm] at h; omega
      · rw [if_neg hm] at h
        obtain ⟨j, rfl⟩ : ∃ j, i = j + 1 := ⟨i - 1, by have := Lib.index_ge l [10]; omega⟩
        rw [spl_cons, if_neg hc, ih (cur ++ [c]) j (by omega)]; simp
theorem splitK_spl : ∀ (k : Nat) (l : List UInt8), Lib.count l [10] = k → Lib.splitK [10] 0 k l = spl [] l
  | 0, l, h => by
    unfold Lib.splitK
    by_cases hm : Lib.index l [10] = -1
    · rw [index10_miss l [] hm, List.nil_append]
    · have := Lib.index_ge l [10]
      obtain ⟨j, hj⟩ : ∃ j : Nat, Lib.index l [10] = j := ⟨(Lib.index l [10]).toNat, by omega⟩
      rw [Lib.count_hit (by simp) hj] at h; omega
  | k + 1, l, h => by
    unfold Lib.splitK
    by_cases hm : Lib.index l [10] = -1
    · rw [if_pos (beq_iff_eq.2 hm), index10_miss l [] hm, List.nil_append]
    · have := Lib.index_ge l [10]
      obtain ⟨j, hj⟩ : ∃ j : Nat, Lib.index l [10] = j := ⟨(Lib.index l [10]).toNat, by omega⟩
      rw [if_neg (by rw [beq_iff_eq]; exact hm), hj, index10_hit l [] j hj]
      rw [Lib.count_hit (by simp) hj] at h
      simp only [Int.toNat_natCast, List.length_cons, List.length_nil, Nat.zero_add, Nat.add_zero, List.nil_append] at h ⊢
      rw [splitK_spl k _ (by omega)]
theorem split_lines (t : ByteArray) : (Lib.splitB ⟨#[10]⟩ 0 (Lib.countB t ⟨#[10]⟩) t).map (·.data.toList) = spl [] t.data.toList := by
  rw [Lib.splitB_data]
  exact splitK_spl _ _ rfl

/-! fields -/
theorem get_at (s : ByteArray) (i : Nat) (hi : i < s.size) : s.get! i = s[i] := by
  show s.data[i]! = s.data[i]
  exact getElem!_pos s.data i hi
theorem dec_ascii (s : ByteArray) (i : Nat) (hi : i < s.size) (h : s[i].toNat < 128) : Utf8.decode s i = (s[i].toNat, 1) := by
  have e : s.get! i = s[i] := get_at s i hi
  unfold Utf8.decode
  simp only [Nat.add_zero, e]
  rw [if_pos h]
theorem high_div {x : Nat} (h : x / 64 = 2) : 128 ≤ x := by omega
theorem dec_high (s : ByteArray) (i : Nat) (hi : i < s.size) (h : 128 ≤ s[i].toNat) :
    128 ≤ (Utf8.decode s i).1 ∧ 1 ≤ (Utf8.decode s i).2 ∧ i + (Utf8.decode s i).2 ≤ s.size ∧ ∀ j, j < (Utf8.decode s i).2 → 128 ≤ (s.get! (i + j)).toNat := by
  have e : s.get! i = s[i] := get_at s i hi
  have e0 : ∀ j, j < 1 → 128 ≤ (s.get! (i + j)).toNat := by
    intro j hj; obtain rfl : j = 0 := by omega
    rw [Nat.add_zero, e]; exact h
  have bad : 128 ≤ ((Utf8.runeError, 1) : Nat × Nat).1 ∧ 1 ≤ ((Utf8.runeError, 1) : Nat × Nat).2 ∧ i + ((Utf8.runeError, 1) : Nat × Nat).2 ≤ s.size ∧ ∀ j, j < ((Utf8.runeError, 1) : Nat × Nat).2 → 128 ≤ (s.get! (i + j)).toNat :=
    ⟨by show 128 ≤ Utf8.runeError; unfold Utf8.runeError; decide, Nat.le_refl _, hi, e0⟩
  unfold Utf8.decode
  simp only [Nat.add_zero, e]
  rw [if_neg (by omega)]
  split
  · rename_i h2
    simp only [Bool.and_eq_true, decide_eq_true_eq, beq_iff_eq] at h2
    split
    · refine ⟨by assumption, (by decide : 1 ≤ 2), by omega, ?_⟩
      intro j hj
      match j, hj with
      | 0, _ => exact e0 0 (by decide)
      | 1, _ => exact high_div h2.2.2
    · exact bad
  · split
    · rename_i h2
      simp only [Bool.and_eq_true, decide_eq_true_eq, beq_iff_eq] at h2
      split
      · rename_i h3
        simp only [Bool.and_eq_true, decide_eq_true_eq, ge_iff_le] at h3
        refine ⟨Nat.le_trans (show 128 ≤ 2048 by decide) h3.1, (by decide : 1 ≤ 3), by omega, ?_⟩
        intro j hj
        match j, hj with
        | 0, _ => exact e0 0 (by decide)
        | 1, _ => exact high_div h2.1.2.2
        | 2, _ => exact high_div h2.2.2
      · exact bad
    · split
      · rename_i h2
        simp only [Bool.and_eq_true, decide_eq_true_eq, beq_iff_eq] at h2
        split
        · rename_i h3
          simp only [Bool.and_eq_true, decide_eq_true_eq, ge_iff_le] at h3
          refine ⟨Nat.le_trans (show 128 ≤ 65536 by decide) h3.1, (by decide : 1 ≤ 4), by omega, ?_⟩
          intro j hj
          match j, hj with
          | 0, _ => exact e0 0 (by decide)
          | 1, _ => exact high_div h2.1.1.2.2
          | 2, _ => exact high_div h2.1.2.2
          | 3, _ => exact high_div h2.2.2
        · exact bad
      · exact bad

theorem wrd_mores {l : List UInt8} {f : Nat} : ∀ (n k : Nat), f ≤ k → (∀ j, j < n → ∃ c, l[k + j]? = some c ∧ blk c = false) → wrd (seg l f k) (l.drop k) = wrd (seg l f (k + n)) (l.drop (k + n))
  | 0, k, _, _ => rfl
  | n + 1, k, hf, h => by
    obtain ⟨c, hc, hb⟩ := h 0 (by omega)
    rw [Nat.add_zero] at hc
    rw [wrd_more hf hc hb, wrd_mores n (k + 1) (by omega) (fun j hj => by have := h (j + 1) (by omega); rwa [show k + 1 + j = k + (j + 1) by omega])]
    rw [show k + 1 + n = k + (n + 1) by omega]

/-- the three blanks, asked of a rune -/
def pBlank (x : Nat) : Bool := x == 32 || x == 9 || x == 13
theorem pBlank_byte (c : UInt8) : pBlank c.toNat = blk c := by
  have h : ∀ n : UInt8, (c == n) = (c.toNat == n.toNat) := by
    intro n; rw [Bool.eq_iff_iff]; simp only [beq_iff_eq]
    constructor
    · rintro rfl; rfl
    · exact UInt8.toNat_inj.1
  unfold pBlank blk; rw [h, h, h]; rfl
theorem pBlank_high {x : Nat} (h : 128 ≤ x) : pBlank x = false := by unfold pBlank; simp; omega
theorem blk_high {c : UInt8} (h : 128 ≤ c.toNat) : blk c = false := by rw [← pBlank_byte]; exact pBlank_high h
theorem high_bytes {s : ByteArray} {i n : Nat} (hn : i + n ≤ s.size) (h : ∀ j, j < n → 128 ≤ (s.get! (i + j)).toNat) : ∀ j, j < n → ∃ c, s.data.toList[i + j]? = some c ∧ blk c = false := by
  intro j hj
  have e : s.get! (i + j) = s[i + j]'(by omega) := get_at s (i + j) (by omega)
  exact ⟨s[i + j]'(by omega), Lib.data_getElem? s (i + j) (by omega), blk_high (by rw [← e]; exact h j hj)⟩

def curOf (l : List UInt8) (pos : Nat) : Option Nat → List UInt8
  | some a => seg l a pos
  | none => []
theorem spans_wrd (s : ByteArray) : ∀ (f pos : Nat) (st : Option Nat) (acc : List (Nat × Nat)), s.size ≤ pos + f → pos ≤ s.size → (∀ a, st = some a → a < pos) →
    (Lib.closeSpans s (Lib.spansFromP pBlank s f pos st acc)).map (fun x => seg s.data.toList x.1 x.2) = acc.map (fun x => seg s.data.toList x.1 x.2) ++ wrd (curOf s.data.toList pos st) (s.data.toList.drop pos)
  | 0, pos, st, acc, h1, h2, h3 => by
    have e : pos = s.data.toList.length := by rw [← Lib.size_eq]; omega
    unfold Lib.spansFromP Lib.closeSpans
    cases st with
    | none => simp only [curOf]; rw [List.drop_eq_nil_of_le (by omega), wrd_nil, if_pos rfl, List.append_nil]
    | some a =>
      have := h3 a rfl
      simp only [curOf]
      rw [List.drop_eq_nil_of_le (by omega), wrd_nil, if_neg (fun h => by have := (seg_nil (by omega) (by omega)).1 h; omega), List.map_append, Lib.size_eq, ← e]; rfl
  | f + 1, pos, st, acc, h1, h2, h3 => by
    by_cases hp : pos < s.size
    · unfold Lib.spansFromP
      rw [if_pos hp]
      have hget := Lib.data_getElem? s pos hp
      by_cases hb : s[pos].toNat < 128
      · rw [dec_ascii s pos hp hb]
        simp only [pBlank_byte]
        by_cases hk : blk s[pos] = true
        · rw [if_pos hk]
          cases st with
          | none =>
            simp only []
            rw [spans_wrd s f (pos + 1) none acc (by omega) (by omega) (fun a h => by cases h)]
            simp only [curOf]; rw [wrd_skip hget hk]
          | some a =>
            have := h3 a rfl
            simp only []
            rw [spans_wrd s f (pos + 1) none _ (by omega) (by omega) (fun a h => by cases h)]
            simp only [curOf]
            rw [wrd_stop (by omega) (by rw [← Lib.size_eq]; omega) (.inr ⟨_, hget, hk⟩), List.map_append, List.append_assoc]; rfl
        · have hk : blk s[pos] = false := by simpa using hk
          rw [if_neg (by simp [hk])]
          cases st with
          | none =>
            simp only []
            rw [spans_wrd s f (pos + 1) (some pos) acc (by omega) (by omega) (fun a h => by cases h; omega)]
            simp only [curOf]
            rw [← wrd_more (Nat.le_refl _) hget hk, seg_same]
          | some a =>
            have := h3 a rfl
            simp only []
            rw [spans_wrd s f (pos + 1) (some a) acc (by omega) (by omega) (fun a h => by cases h; omega)]
            simp only [curOf]
            rw [← wrd_more (by omega) hget hk]
      · obtain ⟨d1, d2, d3, d4⟩ := dec_high s pos hp (by omega)
        generalize Utf8.decode s pos = d at *
        rw [pBlank_high d1, if_neg (by decide)]
        have hbs := high_bytes d3 d4
        cases st with
        | none =>
          simp only []
          rw [spans_wrd s f (pos + d.2) (some pos) acc (by omega) (by omega) (fun a h => by cases h; omega)]
          simp only [curOf]
          rw [← wrd_mores d.2 pos (Nat.le_refl _) hbs, seg_same]
        | some a =>
          have := h3 a rfl
          simp only []
          rw [spans_wrd s f (pos + d.2) (some a) acc (by omega) (by omega) (fun a h => by cases h; omega)]
          simp only [curOf]
          rw [← wrd_mores d.2 pos (by omega) hbs]
    · rw [Lib.spansFromP_end pBlank s (f + 1) pos st acc hp]
      have := spans_wrd s 0 pos st acc (by omega) h2 h3
      unfold Lib.spansFromP at this
      exact this
theorem fields_wrd (s : ByteArray) : (Lib.goFieldsP pBlank s).map (·.data.toList) = wrd [] s.data.toList := by
  have := spans_wrd s s.size 0 none [] (by omega) (by omega) (fun a h => by cases h)
  unfold Lib.goFieldsP Lib.spansOfP
  rw [List.map_map]
  rw [show ((fun x : ByteArray => x.data.toList) ∘ fun x : Nat × Nat => s.extract x.1 x.2) = fun x => seg s.data.toList x.1 x.2 from ?_]
  · rw [this]; simp [curOf]
  · funext x; simp [extract_seg]

end Txt
end Go.Proofs.YtaepoddmonijkaaDoor
