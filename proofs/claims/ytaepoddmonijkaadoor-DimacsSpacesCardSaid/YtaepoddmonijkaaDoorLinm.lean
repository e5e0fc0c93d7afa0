/-
  Lines and words: how the pieces grow, byte by byte; what the library's splitting and field-finding give. No program in this text. No condition.
-/
import Derived.Test.YtaepoddmonijkaaDoorDig
namespace Go.Proofs.YtaepoddmonijkaaDoor
open Go
set_option linter.unusedVariables false
namespace Txt

/-- the bytes from f up to k -/
def seg (l : List UInt8) (f k : Nat) : List UInt8 := (l.drop f).take (k - f)
theorem seg_same (l : List UInt8) (k : Nat) : seg l k k = [] := by simp [seg]
theorem seg_snoc (l : List UInt8) (f k : Nat) (c : UInt8) (hf : f ≤ k) (hc : l[k]? = some c) : seg l f (k + 1) = seg l f k ++ [c] := by
  unfold seg
  rw [show k + 1 - f = (k - f) + 1 by omega, List.take_add_one, List.getElem?_drop, show f + (k - f) = k by omega, hc]; rfl
theorem seg_nil {l : List UInt8} {f k : Nat} (hf : f ≤ k) (hk : k ≤ l.length) : seg l f k = [] ↔ f = k := by
  unfold seg; constructor
  · intro h
    have := congrArg List.length h
    simp at this; omega
  · rintro rfl; simp
theorem drop_get {l : List UInt8} {k : Nat} {c : UInt8} (hc : l[k]? = some c) : l.drop k = c :: l.drop (k + 1) := by
  have h : k < l.length := (List.getElem?_eq_some_iff.1 hc).1
  rw [List.drop_eq_getElem_cons h]
  congr 1
  exact (List.getElem?_eq_some_iff.1 hc).2
theorem extract_seg (s : ByteArray) (f k : Nat) : s.extract f k = ⟨(seg s.data.toList f k).toArray⟩ := by rw [Lib.extract_eq]; rfl

theorem lin_nil (cur : List UInt8) : lin cur [] = if cur = [] then [] else [cur] := by simp only [lin]
theorem lin_cons (cur : List UInt8) (c : UInt8) (r : List UInt8) : lin cur (c :: r) = if c = 10 then cur :: lin [] r else lin (cur ++ [c]) r := by simp only [lin]
theorem wrd_nil (cur : List UInt8) : wrd cur [] = if cur = [] then [] else [cur] := by simp only [wrd]
theorem wrd_cons (cur : List UInt8) (c : UInt8) (r : List UInt8) : wrd cur (c :: r) = if blk c then (if cur = [] then wrd [] r else cur :: wrd [] r) else wrd (cur ++ [c]) r := by simp only [wrd]

theorem lin_hit {l : List UInt8} {f k : Nat} (hc : l[k]? = some 10) : lin (seg l f k) (l.drop k) = seg l f k :: lin (seg l (k + 1) (k + 1)) (l.drop (k + 1)) := by
  rw [drop_get hc, lin_cons, if_pos rfl, seg_same]
theorem lin_miss {l : List UInt8} {f k : Nat} {c : UInt8} (hf : f ≤ k) (hc : l[k]? = some c) (h : c ≠ 10) : lin (seg l f k) (l.drop k) = lin (seg l f (k + 1)) (l.drop (k + 1)) := by
  rw [drop_get hc, lin_cons, if_neg h, seg_snoc l f k c hf hc]
theorem lin_end {l : List UInt8} {f : Nat} (hf : f ≤ l.length) : lin (seg l f l.length) (l.drop l.length) = if f = l.length then [] else [seg l f l.length] := by
  rw [List.drop_length, lin_nil]
  by_cases h : f = l.length
  · rw [if_pos h, if_pos ((seg_nil hf (Nat.le_refl _)).2 h)]
  · rw [if_neg h, if_neg (fun e => h ((seg_nil hf (Nat.le_refl _)).1 e))]
theorem lin_len (r : List UInt8) : ∀ cur, (lin cur r).length ≤ r.length + 1 := by
  induction r with
  | nil => intro cur; rw [lin_nil]; split <;> simp
  | cons c r ih =>
    intro cur; rw [lin_cons]; split
    · have := ih []; simp; omega
    · have := ih (cur ++ [c]); simp; omega
theorem wrd_len (r : List UInt8) : ∀ cur, (wrd cur r).length ≤ r.length + 1 := by
  induction r with
  | nil => intro cur; rw [wrd_nil]; split <;> simp
  | cons c r ih =>
    intro cur; rw [wrd_cons]; split
    · split
      · have := ih []; simp; omega
      · have := ih []; simp; omega
    · have := ih (cur ++ [c]); simp; omega
/-- a blank ahead of a word; the word's bytes; its end -/
theorem wrd_skip {l : List UInt8} {k : Nat} {c : UInt8} (hc : l[k]? = some c) (h : blk c = true) : wrd [] (l.drop k) = wrd [] (l.drop (k + 1)) := by
  rw [drop_get hc, wrd_cons, if_pos h, if_pos rfl]
theorem wrd_more {l : List UInt8} {f k : Nat} {c : UInt8} (hf : f ≤ k) (hc : l[k]? = some c) (h : blk c = false) : wrd (seg l f k) (l.drop k) = wrd (seg l f (k + 1)) (l.drop (k + 1)) := by
  rw [drop_get hc, wrd_cons, if_neg (by simp [h]), seg_snoc l f k c hf hc]
theorem wrd_stop {l : List UInt8} {f k : Nat} (hf : f < k) (hk : k ≤ l.length) (h : k = l.length ∨ ∃ c, l[k]? = some c ∧ blk c = true) : wrd (seg l f k) (l.drop k) = seg l f k :: wrd [] (l.drop (k + 1)) := by
  have hn : seg l f k ≠ [] := fun e => by have := (seg_nil (by omega) hk).1 e; omega
  rcases h with h | ⟨c, hc, hb⟩
  · subst h
    rw [List.drop_length, wrd_nil, if_neg hn, List.drop_eq_nil_of_le (by omega), wrd_nil, if_pos rfl]
  · rw [drop_get hc, wrd_cons, if_pos hb, if_neg hn]
end Txt
end Go.Proofs.YtaepoddmonijkaaDoor
