/-
  Plain facts on the DIMACS format: notes and empty lines between; what is parsed is right. No program in this text. No condition.
-/
import Derived.Test.YtaepoddmonijkaaDoorMk4
namespace Go.Proofs.YtaepoddmonijkaaDoor
open Go
set_option linter.unusedVariables false
set_option linter.unusedSimpArgs false
namespace Dm
open Txt (lin wrd ends)

theorem wrd_end (x : List UInt8) : ∀ cur : List UInt8, wrd cur (x ++ [9]) = wrd cur x := by
  induction x with
  | nil =>
    intro cur
    rw [List.nil_append, Txt.wrd_cons, if_pos (show Txt.blk 9 = true from rfl), Txt.wrd_nil, if_pos rfl, Txt.wrd_nil]
  | cons c x ih =>
    intro cur
    rw [List.cons_append, Txt.wrd_cons, Txt.wrd_cons, ih, ih]
theorem wrd_pad (x : List UInt8) : wrd [] ([32] ++ x ++ [9]) = wrd [] x := by
  rw [List.append_assoc, List.singleton_append, Txt.wrd_cons, if_pos (show Txt.blk 32 = true from rfl), if_pos rfl, wrd_end]
theorem note_says (x : List UInt8) : says (wrd [] ([99, 32] ++ x)) = false := by
  have : wrd [] ([99, 32] ++ x) = [99] :: wrd [] x := by
    rw [show ([99, 32] ++ x : List UInt8) = 99 :: 32 :: x from rfl, Txt.wrd_cons, if_neg (by decide), Txt.wrd_cons, if_pos (show Txt.blk 32 = true from rfl), if_neg (by simp)]
    simp
  rw [this]; simp [says]
theorem step_quiet {st : St} {ws : List (List UInt8)} (hs : says ws = false) : stepW st ws = (0, st) := by unfold stepW; rw [if_pos hs]
/-- a line, padded, with an empty one and a note behind it -/
def blkT (note y : List UInt8) : List (List UInt8) := [[32] ++ y ++ [9], [], [99, 32] ++ note]
theorem runs_blk (note : List UInt8) : ∀ (L : List (List UInt8)) (st st' : St), runs st L = some st' → runs st (L.flatMap (blkT note)) = some st' := by
  intro L
  induction L with
  | nil => intro st st' h; exact h
  | cons y L ih =>
    intro st st' h
    unfold runs at h
    split at h
    · rename_i h0
      have e : stepW st (wrd [] ([32] ++ y ++ [9])) = (0, (stepW st (wrd [] y)).2) := by rw [wrd_pad]; rw [← h0]
      rw [List.flatMap_cons]
      show runs st (([32] ++ y ++ [9]) :: [] :: ([99, 32] ++ note) :: L.flatMap (blkT note)) = _
      rw [runs_cons e, runs_cons (step_quiet (by rw [Txt.wrd_nil, if_pos rfl]; simp [says])), runs_cons (step_quiet (note_says note))]
      exact ih _ _ h
    · cases h
def allX (M : Ne.Net) (note : List UInt8) : List (List UInt8) := ([99, 32] ++ note) :: (linesT M).flatMap (blkT note)
theorem allX_no10 {M : Ne.Net} {note : List UInt8} (h : ∀ c ∈ note, c ≠ 10) : ∀ y ∈ allX M note, ∀ c ∈ y, c ≠ 10 := by
  have hn : ∀ c ∈ [99, 32] ++ note, c ≠ 10 := by
    intro c hc
    rcases List.mem_append.1 hc with g | g
    · simp at g; rcases g with rfl | rfl <;> decide
    · exact h c g
  intro y hy
  rcases List.mem_cons.1 hy with rfl | hy
  · exact hn
  · obtain ⟨z, hz, hyz⟩ := List.mem_flatMap.1 hy
    simp only [blkT, List.mem_cons, List.not_mem_nil, or_false] at hyz
    rcases hyz with rfl | rfl | rfl
    · intro c hc
      rcases List.mem_append.1 hc with g | g
      · rcases List.mem_append.1 g with g | g
        · simp at g; subst g; decide
        · exact linesT_no10 M z hz c g
      · simp at g; subst g; decide
    · intro c hc; simp at hc
    · exact hn
theorem all_parse {M : Ne.Net} (h : Fine M) {note s : List UInt8} (hn : ∀ c ∈ note, c ≠ 10) (hs : s = ends (allX M note)) : parseE s = 0 ∧ parseI s = 0 ∧ parseN s = M := by
  obtain ⟨h1, h2, h3⟩ := parse_lines (s := s) (X := allX M note) (by rw [hs, lin_ends2 _ (allX_no10 hn)])
  have hr : runs st0 (allX M note) = some ⟨M.n, M.s, M.t, M.l.length, capsum M.l, M.l⟩ := by
    unfold allX
    rw [runs_cons (step_quiet (note_says note))]
    exact runs_blk note _ _ _ (runs_lines h)
  have := runL_app (allX M note) [] 0 st0 _ hr
  rw [List.append_nil] at this
  have e : endE ⟨M.n, M.s, M.t, M.l.length, capsum M.l, M.l⟩ = 0 := by
    have := fine_st h
    unfold endE; rw [if_neg (by simp only; omega), if_neg (by simp)]
  rw [show ∀ i st, runL i st [] = if endE st = 0 then (0, 0, st) else (endE st, i + 1, st) from fun _ _ => rfl, if_pos e] at this
  rw [this] at h1 h2 h3
  exact ⟨h1, h2, h3⟩
theorem ends_blk (note y : List UInt8) : ends (blkT note y) = [32] ++ y ++ [9, 10, 10, 99, 32] ++ note ++ [10] := by unfold ends blkT; simp

/-- what was read so far is right -/
structure Good (st : St) : Prop where
  n : st.n = 0 ∨ (2 ≤ st.n ∧ st.n ≤ 500)
  s : st.s = 0 ∨ Ne.isNode st.n st.s = true
  t : st.t = 0 ∨ Ne.isNode st.n st.t = true
  df : st.s ≠ 0 → st.s ≠ st.t
  sm : (st.l.length : Int) ≤ st.arcs ∧ st.arcs ≤ 2000
  l : ∀ a ∈ st.l, Ne.isNode st.n a.fr = true ∧ Ne.isNode st.n a.to = true ∧ 0 ≤ a.cap
  sum : capsum st.l = st.sum ∧ st.sum ≤ top
theorem good0 : Good st0 := ⟨.inl rfl, .inl rfl, .inl rfl, fun h => absurd rfl h, by simp [st0], by simp [st0], by simp [st0, capsum]⟩
theorem node_n {n v : Int} (h : Ne.isNode n v = true) (h0 : n = 0) : False := by have := isNode_bd h; omega
theorem good_problem {st : St} (h : Good st) (h0 : st.n = 0) (a c : Int) : Good (problem st a c).2 := by
  unfold problem
  split
  · exact h
  · rename_i g
    have hl : st.l = [] := by
      rcases hx : st.l with _ | ⟨x, r⟩
      · rfl
      · exact (node_n (h.l x (by rw [hx]; simp)).1 h0).elim
    have hs : st.s = 0 := h.s.resolve_right fun g => node_n g h0
    have ht : st.t = 0 := h.t.resolve_right fun g => node_n g h0
    exact ⟨.inr (by simp only; omega), .inl hs, .inl ht, fun g => absurd hs g, by simp only; rw [hl]; simp; omega, by simp only; rw [hl]; simp, h.sum⟩
theorem good_source {st : St} (h : Good st) (v : Int) : Good (source st v).2 := by
  unfold source
  split
  · rename_i g
    split
    · exact h
    · rename_i g2; exact ⟨h.n, .inr g, h.t, fun _ => g2, h.sm, h.l, h.sum⟩
  · exact h
theorem good_sink {st : St} (h : Good st) (v : Int) : Good (sink st v).2 := by
  unfold sink
  split
  · rename_i g
    split
    · exact h
    · rename_i g2; exact ⟨h.n, h.s, .inr g, fun _ e => g2 e.symm, h.sm, h.l, h.sum⟩
  · exact h
theorem good_arc {st : St} (h : Good st) (f t c : Int) : Good (arc st f t c).2 := by
  unfold arc
  split
  · rename_i g
    simp only [Bool.and_eq_true] at g
    split
    · exact h
    · split
      · exact h
      · split
        · exact h
        · rename_i g1 g2 g3
          have h1 := h.sm
          have h2 := h.sum
          refine ⟨h.n, h.s, h.t, h.df, by simp only [List.length_append, List.length_singleton]; omega, ?_, ?_⟩
          · intro a ha
            rcases List.mem_append.1 ha with hh | hh
            · exact h.l a hh
            · simp at hh; subst hh; exact ⟨g.1, g.2, by simp only; omega⟩
          · constructor
            · simp only [capsum, List.map_append, List.sum_append]; have := h2.1; unfold capsum at this; rw [this]; simp
            · simp only; omega
  · exact h
theorem good_does {st : St} (h : Good st) (k : Nat) (ws : List (List UInt8)) : Good (does st k ws).2 := by
  unfold does
  split
  · rename_i g
    split
    · unfold act
      match k, g with
      | 0, g => exact good_problem h (by simpa [may] using g) _ _
      | 1, _ => exact good_source h _
      | 2, _ => exact good_sink h _
      | k + 3, _ => exact good_arc h _ _ _
    · exact h
  · exact h
theorem good_step {st : St} (h : Good st) (ws : List (List UInt8)) : Good (stepW st ws).2 := by
  unfold stepW
  split
  · exact h
  split
  · exact good_does h 0 ws
  split
  · exact good_does h 1 ws
  split
  · exact good_does h 2 ws
  split
  · exact good_does h 3 ws
  · exact h
theorem good_run : ∀ (X : List (List UInt8)) (i : Nat) (st : St), Good st → (runL i st X).1 = 0 → Good (runL i st X).2.2 ∧ endE (runL i st X).2.2 = 0 := by
  intro X
  induction X with
  | nil =>
    intro i st h h0
    unfold runL at h0 ⊢
    split
    · rename_i g; exact ⟨h, g⟩
    · rename_i g; rw [if_neg g] at h0; exact absurd h0 g
  | cons x X ih =>
    intro i st h h0
    unfold runL at h0 ⊢
    split
    · rename_i g; rw [if_pos g] at h0; exact ih _ _ (good_step h _) h0
    · rename_i g; rw [if_neg g] at h0; exact absurd h0 g
theorem good_fine {st : St} (h : Good st) (he : endE st = 0) : Fine st.net := by
  unfold endE at he
  split at he
  · simp at he
  · rename_i g
    have hs : st.s ≠ 0 := fun e => g (.inl e)
    have ht : st.t ≠ 0 := fun e => g (.inr e)
    have s1 := h.s.resolve_left hs
    have t1 := h.t.resolve_left ht
    have hn : st.n ≠ 0 := fun e => node_n s1 e
    have hm := h.sm
    exact ⟨h.n.resolve_left hn, s1, t1, h.df hs, by simp only [St.net]; omega, h.l, by simp only [St.net]; have := h.sum; omega⟩
/-- what Parse tells of any text -/
theorem parse_tells (s : List UInt8) : (parseE s = 0 ∧ parseI s = 0 ∧ Fine (parseN s)) ∨ (parseE s ≠ 0 ∧ 1 ≤ parseI s ∧ parseI s ≤ (lin [] s).length + 1 ∧ parseN s = zeroN) := by
  obtain ⟨h1, h2, h3⟩ := parse_lines (s := s) (X := lin [] s) rfl
  rcases runL_late (lin [] s) 0 st0 with g | g
  · left
    have := good_run (lin [] s) 0 st0 good0 g.1
    refine ⟨h1.trans g.1, h2.trans g.2, ?_⟩
    rw [h3, if_pos g.1]
    exact good_fine this.1 this.2
  · right
    exact ⟨by rw [h1]; exact g.1, by omega, by omega, by rw [h3, if_neg g.1]⟩
theorem fine_net_ok {n : Ne.Net} (h : Fine n) : n.ok := by
  obtain ⟨h1, h2, h3⟩ := fine_i64 h
  exact ⟨h1, h2, h3, fine_ok h⟩
end Dm
end Go.Proofs.YtaepoddmonijkaaDoor
