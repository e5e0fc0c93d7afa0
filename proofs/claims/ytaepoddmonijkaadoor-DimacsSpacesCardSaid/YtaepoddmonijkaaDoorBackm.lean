/-
  Plain facts for TextBack, TextOrder and TextTells: words that are joined are found again, lines too; what stands between words. No program in this text. No condition.
-/
import Derived.Test.YtaepoddmonijkaaDoorLinm
import Derived.Test.YtaepoddmonijkaaDoorZerm
namespace Go.Proofs.YtaepoddmonijkaaDoor
open Go
set_option linter.unusedVariables false
namespace Txt

/-- no blank and no end in it, and not empty -/
def Clean (x : List UInt8) : Prop := x ≠ [] ∧ ∀ c ∈ x, blk c = false ∧ c ≠ 10
theorem wrd_run (x : List UInt8) : ∀ (cur r : List UInt8), (∀ c ∈ x, blk c = false) → wrd cur (x ++ r) = wrd (cur ++ x) r := by
  induction x with
  | nil => intro cur r _; simp
  | cons c x ih =>
    intro cur r h
    rw [List.cons_append, wrd_cons, if_neg (by rw [h c (by simp)]; decide), ih _ _ (fun d hd => h d (by simp [hd]))]
    simp
theorem lin_run (x : List UInt8) : ∀ (cur r : List UInt8), (∀ c ∈ x, c ≠ 10) → lin cur (x ++ r) = lin (cur ++ x) r := by
  induction x with
  | nil => intro cur r _; simp
  | cons c x ih =>
    intro cur r h
    rw [List.cons_append, lin_cons, if_neg (h c (by simp)), ih _ _ (fun d hd => h d (by simp [hd]))]
    simp
theorem wrd_blanks (z : List UInt8) : (∀ c ∈ z, blk c = true) → wrd [] z = [] := by
  induction z with
  | nil => intro _; rw [wrd_nil, if_pos rfl]
  | cons c z ih => intro h; rw [wrd_cons, if_pos (h c (by simp)), if_pos rfl, ih (fun d hd => h d (by simp [hd]))]
theorem wrd_tail {x z : List UInt8} (hx : x ≠ []) (hz : ∀ c ∈ z, blk c = true) : wrd x z = [x] := by
  rcases z with _ | ⟨c, z⟩
  · rw [wrd_nil, if_neg hx]
  · rw [wrd_cons, if_pos (hz c (by simp)), if_neg hx, wrd_blanks z (fun d hd => hz d (by simp [hd]))]
theorem wrd_joinTail (r : List (List UInt8)) : ∀ (x z : List UInt8), x ≠ [] → (∀ y ∈ r, Clean y) → (∀ c ∈ z, blk c = true) → wrd x (Lib.joinTail [32] r ++ z) = x :: r := by
  induction r with
  | nil => intro x z hx _ hz; simp only [Lib.joinTail, List.map_nil, List.flatten_nil, List.nil_append]; exact wrd_tail hx hz
  | cons y r ih =>
    intro x z hx hr hz
    have hy := hr y (by simp)
    have e : Lib.joinTail [32] (y :: r) ++ z = 32 :: (y ++ (Lib.joinTail [32] r ++ z)) := by simp [Lib.joinTail]
    rw [e, wrd_cons, if_pos (show blk 32 = true from rfl), if_neg hx, wrd_run y [] _ (fun c hc => (hy.2 c hc).1), List.nil_append, ih y z hy.1 (fun d hd => hr d (by simp [hd])) hz]
theorem wrd_join (l : List (List UInt8)) (z : List UInt8) (hl : ∀ y ∈ l, Clean y) (hz : ∀ c ∈ z, blk c = true) : wrd [] (Lib.join l [32] ++ z) = l := by
  rcases l with _ | ⟨x, r⟩
  · rw [Lib.join_nil, List.nil_append]; exact wrd_blanks z hz
  · have hx := hl x (by simp)
    rw [Lib.join_cons, List.append_assoc, wrd_run x [] _ (fun c hc => (hx.2 c hc).1), List.nil_append]
    exact wrd_joinTail r x z hx.1 (fun y hy => hl y (by simp [hy])) hz
def ends (l : List (List UInt8)) : List UInt8 := (l.map (· ++ [10])).flatten
theorem ends_snoc (l : List (List UInt8)) (x : List UInt8) : ends (l ++ [x]) = ends l ++ x ++ [10] := by unfold ends; simp
theorem ends_cons (x : List UInt8) (l : List (List UInt8)) : ends (x :: l) = x ++ 10 :: ends l := by unfold ends; simp
theorem lin_ends (l : List (List UInt8)) : (∀ y ∈ l, Clean y) → lin [] (ends l) = l := by
  induction l with
  | nil => intro _; unfold ends; rw [List.map_nil, List.flatten_nil, lin_nil, if_pos rfl]
  | cons x l ih =>
    intro h
    rw [ends_cons, lin_run x [] _ (fun c hc => ((h x (by simp)).2 c hc).2), List.nil_append, lin_cons, if_pos rfl, ih (fun y hy => h y (by simp [hy]))]
theorem ends_len (l : List (List UInt8)) (h : ∀ y ∈ l, y.length ≤ 100) : (ends l).length ≤ 101 * l.length := by
  induction l with
  | nil => simp [ends]
  | cons x l ih => rw [ends_cons]; have := h x (by simp); have := ih (fun y hy => h y (by simp [hy])); simp; omega
theorem joinTail_len (r : List (List UInt8)) (h : ∀ y ∈ r, y.length ≤ 100) : (Lib.joinTail [32] r).length ≤ 101 * r.length := by
  induction r with
  | nil => simp [Lib.joinTail]
  | cons x l ih => simp only [Lib.joinTail, List.map_cons, List.flatten_cons, List.length_append, List.length_cons, List.length_nil] at ih ⊢; have := h x (by simp); have := ih (fun y hy => h y (by simp [hy])); omega
theorem join_len (l : List (List UInt8)) (h : ∀ y ∈ l, y.length ≤ 100) : (Lib.join l [32]).length ≤ 101 * l.length := by
  rcases l with _ | ⟨x, r⟩
  · simp [Lib.join_nil]
  · rw [Lib.join_cons, List.length_append]
    have := h x (by simp); have := joinTail_len r (fun y hy => h y (by simp [hy])); simp; omega
def total (l : List (List UInt8)) : Nat := (l.map List.length).sum
theorem total_snoc (l : List (List UInt8)) (x : List UInt8) : total (l ++ [x]) = total l + x.length := by unfold total; simp
theorem join_total (l : List (List UInt8)) : (Lib.join l [32]).length ≤ total l + l.length := by
  rcases l with _ | ⟨x, r⟩
  · simp [Lib.join_nil]
  · rw [Lib.join_cons]
    have h : ∀ r : List (List UInt8), (Lib.joinTail [32] r).length = total r + r.length := by
      intro r; induction r with
      | nil => simp [Lib.joinTail, total]
      | cons y r ih => simp only [Lib.joinTail, total, List.map_cons, List.flatten_cons, List.length_append, List.length_cons, List.length_nil, List.sum_cons] at ih ⊢; omega
    rw [List.length_append, h]; simp [total]; omega

/-! what stands between the words -/
/-- a word that is told of what is left: it stands there, not empty, and a blank, or nothing, behind it -/
theorem wrd_head (r : List UInt8) : ∀ (cur x : List UInt8) (rest : List (List UInt8)), (cur ≠ [] ∨ ∃ c r', r = c :: r' ∧ blk c = false) → wrd cur r = x :: rest →
    ∃ y r', x = cur ++ y ∧ r = y ++ r' ∧ x ≠ [] ∧ (r' = [] ∨ ∃ c r'', r' = c :: r'' ∧ blk c = true) ∧ wrd [] r' = rest := by
  induction r with
  | nil =>
    intro cur x rest h he
    rcases h with h | ⟨c, r', h, _⟩
    · rw [wrd_nil, if_neg h] at he
      simp only [List.cons.injEq] at he
      exact ⟨[], [], by simp [he.1], rfl, by rw [← he.1]; exact h, .inl rfl, by rw [wrd_nil, if_pos rfl, ← he.2]⟩
    · cases h
  | cons c r ih =>
    intro cur x rest h he
    by_cases hb : blk c = true
    · have hcur : cur ≠ [] := by
        rcases h with h | ⟨c', r', h, hc⟩
        · exact h
        · simp only [List.cons.injEq] at h; rw [h.1, hc] at hb; cases hb
      rw [wrd_cons, if_pos hb, if_neg hcur] at he
      simp only [List.cons.injEq] at he
      exact ⟨[], c :: r, by simp [he.1], rfl, by rw [← he.1]; exact hcur, .inr ⟨c, r, rfl, hb⟩, by rw [wrd_cons, if_pos hb, if_pos rfl]; exact he.2⟩
    · rw [wrd_cons, if_neg hb] at he
      obtain ⟨y, r', h1, h2, h3, h4, h5⟩ := ih (cur ++ [c]) x rest (.inl (by simp)) he
      exact ⟨c :: y, r', by rw [h1]; simp, by rw [h2]; rfl, h3, h4, h5⟩
theorem wrd_none (r : List UInt8) : wrd [] r = [] → ∀ c ∈ r, blk c = true := by
  induction r with
  | nil => intro _ c hc; simp at hc
  | cons c r ih =>
    intro h d hd
    by_cases hb : blk c = true
    · rw [wrd_cons, if_pos hb, if_pos rfl] at h
      rcases List.mem_cons.1 hd with e | e
      · rw [e]; exact hb
      · exact ih h d e
    · exfalso
      have hne : ∀ (r cur : List UInt8), cur ≠ [] → wrd cur r ≠ [] := by
        intro r; induction r with
        | nil => intro cur hc; rw [wrd_nil, if_neg hc]; simp
        | cons d r ih2 =>
          intro cur hc; rw [wrd_cons, if_neg hc]; split
          · simp
          · exact ih2 _ (by simp)
      rw [wrd_cons, if_neg hb] at h
      exact hne r _ (by simp) h

/-! how many lines, and the text out of them -/
def more (cur r : List UInt8) : Bool := decide (¬ (cur ++ r = [] ∨ r.getLast? = some 10))
theorem more_cons {cur : List UInt8} {c : UInt8} {r : List UInt8} : more cur (c :: r) = if r = [] then decide (c ≠ 10) else decide (r.getLast? ≠ some 10) := by
  unfold more
  rcases r with _ | ⟨x, y⟩
  · simp
  · rw [List.getLast?_cons_cons]; simp
theorem lin_tells (r : List UInt8) : ∀ cur, ends (lin cur r) = cur ++ r ++ (if more cur r then [10] else []) ∧ (lin cur r).length = r.count 10 + (if more cur r then 1 else 0) := by
  induction r with
  | nil =>
    intro cur
    rw [lin_nil]
    unfold more
    by_cases hc : cur = []
    · simp [hc, ends]
    · simp [hc, ends]
  | cons c r ih =>
    intro cur
    rw [lin_cons]
    by_cases hc : c = 10
    · subst hc
      rw [if_pos rfl]
      obtain ⟨h1, h2⟩ := ih []
      have hm : more cur (10 :: r) = more [] r := by
        rw [more_cons]; unfold more
        rcases r with _ | ⟨x, y⟩ <;> simp
      refine ⟨?_, ?_⟩
      · rw [ends_cons, h1, hm]; simp
      · rw [List.length_cons, h2, hm, List.count_cons_self]; omega
    · rw [if_neg hc]
      obtain ⟨h1, h2⟩ := ih (cur ++ [c])
      have hm : more cur (c :: r) = more (cur ++ [c]) r := by
        rw [more_cons]; unfold more
        rcases r with _ | ⟨x, y⟩
        · simp [hc]
        · simp
      refine ⟨?_, ?_⟩
      · rw [h1, hm]; simp
      · rw [h2, hm, List.count_cons_of_ne (by simpa using hc)]

end Txt
end Go.Proofs.YtaepoddmonijkaaDoor
