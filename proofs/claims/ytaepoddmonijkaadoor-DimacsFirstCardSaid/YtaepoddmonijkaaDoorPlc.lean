/-
  Plain facts on the DIMACS format: a line that may stand but once, or at its place alone. No program in this text. No condition.
-/
import Derived.Test.YtaepoddmonijkaaDoorMk4
namespace Go.Proofs.YtaepoddmonijkaaDoor
open Go
set_option linter.unusedVariables false
set_option linter.unusedSimpArgs false
namespace Dm
open Txt (lin wrd ends)

theorem runs_take {M : Ne.Net} (h : Fine M) {q : Nat} (h1 : 1 ≤ q) (h2 : q ≤ (linesT M).length) :
    ∃ st, runs st0 ((linesT M).take q) = some st ∧ st.n = M.n ∧ (2 ≤ q → st.s = M.s) ∧ (3 ≤ q → st.t = M.t) := by
  have hlen := h.len
  have hM0 : (0 : Int) ≤ M.l.length := by omega
  have hM1 : (M.l.length : Int) ≤ 2000 := by omega
  rcases Nat.lt_or_ge q 3 with hq | hq
  · have e : q = 1 ∨ q = 2 := by omega
    rcases e with rfl | rfl
    · refine ⟨stP M M.l.length, ?_, rfl, fun h => by omega, fun h => by omega⟩
      show runs st0 [jn (wPr M.n M.l.length)] = _
      rw [runs_cons (step1 h hM0 hM1)]; rfl
    · refine ⟨stS M M.l.length, ?_, rfl, fun _ => rfl, fun h => by omega⟩
      show runs st0 [jn (wPr M.n M.l.length), jn (wSr M.s)] = _
      rw [runs_cons (step1 h hM0 hM1), runs_cons (step2 h)]; rfl
  · have e : (linesT M).take q = headL M M.l.length ++ (M.l.take (q - 3)).map lineA := by
      unfold linesT
      rw [List.take_append, List.take_of_length_le (by simp [headL]; omega), ← List.map_take]
      congr 3
    have e0 : M.l = M.l.take (q - 3) ++ M.l.drop (q - 3) := (List.take_append_drop _ M.l).symm
    refine ⟨⟨M.n, M.s, M.t, M.l.length, capsum (M.l.take (q - 3)), M.l.take (q - 3)⟩, ?_, rfl, fun _ => rfl, fun _ => rfl⟩
    rw [e, runs_app (runs_head h hM0 hM1)]
    exact runs_some h e0 (by rw [List.length_take]; omega)
/-- one of the three first lines, once more -/
theorem dup_step {M : Ne.Net} (h : Fine M) {i q : Nat} {x : List UInt8} {st : St} (hi : i < 3) (hq : i + 1 ≤ q) (hx : (linesT M)[i]? = some x) (h1 : st.n = M.n) (h2 : 2 ≤ q → st.s = M.s) (h3 : 3 ≤ q → st.t = M.t) :
    stepW st (wrd [] x) = (2, st) := by
  have hn := h.nodes
  have hlen := h.len
  obtain ⟨hs, ht⟩ := fine_st h
  match i, hi with
  | 0, _ =>
    obtain rfl : jn (wPr M.n M.l.length) = x := Option.some.inj hx
    rw [step_p (fine_i64 h).1 ⟨by omega, by omega⟩, if_neg (by rw [h1]; omega)]
  | 1, _ =>
    obtain rfl : jn (wSr M.s) = x := Option.some.inj hx
    rw [step_s (fine_i64 h).2.1, if_neg (by rw [h2 (by omega)]; exact fun e => hs e.2)]
  | 2, _ =>
    obtain rfl : jn (wTr M.t) = x := Option.some.inj hx
    rw [step_t (fine_i64 h).2.2, if_neg (by rw [h3 (by omega)]; exact fun e => ht e.2)]
theorem plc_run {M : Ne.Net} (h : Fine M) {i a : Nat} {x : List UInt8} (hi : i < 3) (ha : i ≤ a) (ha2 : a < (linesT M).length) (hx : (linesT M)[i]? = some x) :
    ∃ st, runL 0 st0 ((linesT M).take (a + 1) ++ x :: (linesT M).drop (a + 1)) = (2, a + 2, st) := by
  obtain ⟨st, hr, h1, h2, h3⟩ := runs_take h (q := a + 1) (by omega) (by omega)
  refine ⟨st, ?_⟩
  rw [runL_app _ _ 0 st0 _ hr, runL_err (dup_step h hi (by omega) hx h1 h2 h3) (by decide)]
  rw [List.length_take, Nat.min_eq_left (by omega)]; simp <;> omega
/-- the text while it is made: the line x once more behind line a -/
def dupT (L : List (List UInt8)) (x : List UInt8) (a j : Nat) : List (List UInt8) := if j ≤ a then L.take j else L.take (a + 1) ++ x :: (L.take j).drop (a + 1)
theorem dupT_zero (L : List (List UInt8)) (x : List UInt8) (a : Nat) : dupT L x a 0 = [] := by unfold dupT; rw [if_pos (by omega)]; simp
theorem dupT_at {L : List (List UInt8)} {x y : List UInt8} {j : Nat} (h : L[j]? = some y) : dupT L x j (j + 1) = dupT L x j j ++ [y] ++ [x] := by
  unfold dupT
  rw [if_neg (by omega), if_pos (Nat.le_refl _), List.take_add_one, h]
  have : ((L.take j ++ (some y).toList)).drop (j + 1) = [] := by
    rw [List.drop_eq_nil_iff]; simp [List.length_take]; omega
  rw [this]; simp
theorem dupT_on {L : List (List UInt8)} {x y : List UInt8} {a j : Nat} (h : L[j]? = some y) (hne : j ≠ a) : dupT L x a (j + 1) = dupT L x a j ++ [y] := by
  have hj := (List.getElem?_eq_some_iff.1 h).1
  unfold dupT
  rcases Nat.lt_or_ge j a with hlt | hge
  · rw [if_pos (by omega), if_pos (by omega), List.take_add_one, h]; rfl
  · rw [if_neg (by omega), if_neg (by omega)]
    have e : (L.take (j + 1)).drop (a + 1) = (L.take j).drop (a + 1) ++ [y] := by
      rw [List.take_add_one, h, List.drop_append_of_le_length (by rw [List.length_take]; omega)]; rfl
    rw [e]; simp
theorem dupT_end {L : List (List UInt8)} {x : List UInt8} {a : Nat} (h : a < L.length) : dupT L x a L.length = L.take (a + 1) ++ x :: L.drop (a + 1) := by
  unfold dupT; rw [if_neg (by omega), List.take_length]
theorem dup_no10 {M : Ne.Net} {i a : Nat} {x : List UInt8} (hx : (linesT M)[i]? = some x) : ∀ y ∈ (linesT M).take (a + 1) ++ x :: (linesT M).drop (a + 1), ∀ c ∈ y, c ≠ 10 := by
  intro y hy
  apply linesT_no10 M y
  rcases List.mem_append.1 hy with h | h
  · exact List.mem_of_mem_take h
  · rcases List.mem_cons.1 h with rfl | h
    · exact List.mem_of_getElem? hx
    · exact List.mem_of_mem_drop h
theorem plc_parse {M : Ne.Net} (h : Fine M) {i a : Nat} {x s : List UInt8} (hi : i < 3) (ha : i ≤ a) (ha2 : a < (linesT M).length) (hx : (linesT M)[i]? = some x) (hs : s = ends ((linesT M).take (a + 1) ++ x :: (linesT M).drop (a + 1))) :
    parseE s = 2 ∧ parseI s = a + 2 ∧ parseN s = zeroN := by
  obtain ⟨h1, h2, h3⟩ := parse_lines (s := s) (X := (linesT M).take (a + 1) ++ x :: (linesT M).drop (a + 1)) (by rw [hs, lin_ends2 _ (dup_no10 hx)])
  obtain ⟨st, hr⟩ := plc_run h hi ha ha2 hx
  rw [hr] at h1 h2 h3
  exact ⟨h1, h2, h3⟩
theorem arc_first {M : Ne.Net} {s : List UInt8} (hs : s = [97, 32, 49, 32, 50, 32, 51, 10] ++ printT M) : parseE s = 2 ∧ parseI s = 1 ∧ parseN s = zeroN := by
  have e : s = ends (lineA ⟨1, 2, 3⟩ :: linesT M) := by
    rw [Txt.ends_cons, ← printT_ends, hs]
    have : lineA ⟨1, 2, 3⟩ = [97, 32, 49, 32, 50, 32, 51] := by decide +kernel
    rw [this]; rfl
  have hn : ∀ y ∈ lineA ⟨1, 2, 3⟩ :: linesT M, ∀ c ∈ y, c ≠ 10 := by
    intro y hy
    rcases List.mem_cons.1 hy with rfl | h
    · exact join_no10 (wA_clean _)
    · exact linesT_no10 M y h
  obtain ⟨h1, h2, h3⟩ := parse_lines (s := s) (X := lineA ⟨1, 2, 3⟩ :: linesT M) (by rw [e, lin_ends2 _ hn])
  have hst : stepW st0 (wrd [] (lineA ⟨1, 2, 3⟩)) = (2, st0) := by
    unfold lineA; rw [step_a (by unfold Ne.Arc.ok Ne.in64; simp), if_neg (by decide)]
  rw [runL_err hst (by decide)] at h1 h2 h3
  exact ⟨h1, h2, h3⟩
theorem src_first {M : Ne.Net} (h : Fine M) {x s : List UInt8} (hx : (linesT M)[1]? = some x) (hs : s = x ++ [10] ++ printT M) : parseE s = 2 ∧ parseI s = 1 ∧ parseN s = zeroN := by
  have e : s = ends (x :: linesT M) := by rw [Txt.ends_cons, ← printT_ends, hs]; simp
  have hn : ∀ y ∈ x :: linesT M, ∀ c ∈ y, c ≠ 10 := by
    intro y hy
    rcases List.mem_cons.1 hy with rfl | h
    · exact linesT_no10 M _ (List.mem_of_getElem? hx)
    · exact linesT_no10 M y h
  obtain ⟨h1, h2, h3⟩ := parse_lines (s := s) (X := x :: linesT M) (by rw [e, lin_ends2 _ hn])
  have hst : stepW st0 (wrd [] x) = (2, st0) := by
    obtain rfl : jn (wSr M.s) = x := Option.some.inj hx
    rw [step_s (fine_i64 h).2.1, if_neg (by decide)]
  rw [runL_err hst (by decide)] at h1 h2 h3
  exact ⟨h1, h2, h3⟩
end Dm
end Go.Proofs.YtaepoddmonijkaaDoor
