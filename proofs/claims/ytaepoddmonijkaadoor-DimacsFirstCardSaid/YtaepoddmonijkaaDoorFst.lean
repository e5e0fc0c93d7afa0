/-
  Plain facts on the DIMACS format: one line changed, the last one left out, one arc too many. No program in this text. No condition.
-/
import Derived.Test.YtaepoddmonijkaaDoorPlc
namespace Go.Proofs.YtaepoddmonijkaaDoor
open Go
set_option linter.unusedVariables false
set_option linter.unusedSimpArgs false
namespace Dm
open Txt (lin wrd ends)

theorem runs_takeA {M : Ne.Net} (h : Fine M) {q : Nat} (h1 : 3 ≤ q) (h2 : q ≤ (linesT M).length) :
    runs st0 ((linesT M).take q) = some ⟨M.n, M.s, M.t, M.l.length, capsum (M.l.take (q - 3)), M.l.take (q - 3)⟩ := by
  have hlen := h.len
  have e : (linesT M).take q = headL M M.l.length ++ (M.l.take (q - 3)).map lineA := by
    unfold linesT
    rw [List.take_append, List.take_of_length_le (by simp [headL]; omega), ← List.map_take]
    congr 3
  have e0 : M.l = M.l.take (q - 3) ++ M.l.drop (q - 3) := (List.take_append_drop _ M.l).symm
  rw [e, runs_app (runs_head h (by omega) (by omega))]
  exact runs_some h e0 (by rw [List.length_take]; omega)
theorem runs_any {M : Ne.Net} (h : Fine M) {q : Nat} (h2 : q ≤ (linesT M).length) : ∃ st, runs st0 ((linesT M).take q) = some st := by
  rcases Nat.eq_zero_or_pos q with rfl | hq
  · exact ⟨st0, by simp [runs]⟩
  · obtain ⟨st, hr, _⟩ := runs_take h hq h2
    exact ⟨st, hr⟩
theorem set_no10 {M : Ne.Net} {i : Nat} {x : List UInt8} (hx : ∀ c ∈ x, c ≠ 10) : ∀ y ∈ (linesT M).set i x, ∀ c ∈ y, c ≠ 10 := by
  intro y hy
  rcases List.mem_or_eq_of_mem_set hy with h | rfl
  · exact linesT_no10 M y h
  · exact hx
theorem fst_parse {M : Ne.Net} (h : Fine M) {i : Nat} {x s : List UInt8} (hi : i < (linesT M).length) (hx : ∀ c ∈ x, c ≠ 10) (hs : s = ends ((linesT M).set i x)) :
    (parseE s = 0 ∧ parseI s = 0) ∨ (parseE s ≠ 0 ∧ i + 1 ≤ parseI s) := by
  obtain ⟨h1, h2, _⟩ := parse_lines (s := s) (X := (linesT M).set i x) (by rw [hs, lin_ends2 _ (set_no10 hx)])
  obtain ⟨st, hr⟩ := runs_any h (q := i) (by omega)
  have e : (linesT M).set i x = (linesT M).take i ++ x :: (linesT M).drop (i + 1) := by rw [List.set_eq_take_append_cons_drop, if_pos hi]
  rw [e, runL_app _ _ 0 st0 _ hr] at h1 h2
  have hl : ((linesT M).take i).length = i := by rw [List.length_take]; omega
  rw [hl, Nat.zero_add] at h1 h2
  rw [h1, h2]
  rcases runL_late (x :: (linesT M).drop (i + 1)) i st with g | g
  · exact .inl g
  · exact .inr ⟨g.1, g.2.1⟩
theorem short_parse {M : Ne.Net} (h : Fine M) {s : List UInt8} (h0 : 0 < M.l.length) (hs : s = ends ((linesT M).take ((linesT M).length - 1))) : parseE s = 6 ∧ parseI s = (linesT M).length := by
  have hL := linesT_len M
  have hlen := h.len
  have hn : ∀ y ∈ (linesT M).take ((linesT M).length - 1), ∀ c ∈ y, c ≠ 10 := fun y hy => linesT_no10 M y (List.mem_of_mem_take hy)
  obtain ⟨h1, h2, _⟩ := parse_lines (s := s) (X := (linesT M).take ((linesT M).length - 1)) (by rw [hs, lin_ends2 _ hn])
  have hr := runs_takeA h (q := (linesT M).length - 1) (by omega) (by omega)
  have := runL_app ((linesT M).take ((linesT M).length - 1)) [] 0 st0 _ hr
  rw [List.append_nil] at this
  rw [this] at h1 h2
  have hst := fine_st h
  have e : endE ⟨M.n, M.s, M.t, M.l.length, capsum (M.l.take ((linesT M).length - 1 - 3)), M.l.take ((linesT M).length - 1 - 3)⟩ = 6 := by
    unfold endE; rw [if_neg (by simp only; omega), if_pos (by simp only [List.length_take]; omega)]
  unfold runL at h1 h2
  rw [e, if_neg (by decide)] at h1 h2
  refine ⟨h1, ?_⟩
  rw [h2]; simp only; rw [List.length_take]; omega
theorem more_parse {M : Ne.Net} (h : Fine M) {x s : List UInt8} (h0 : 0 < M.l.length) (hx : (linesT M)[(linesT M).length - 1]? = some x) (hs : s = printT M ++ x) : parseE s = 6 ∧ parseI s = (linesT M).length + 1 := by
  have hL := linesT_len M
  have hlen := h.len
  obtain ⟨a, ha⟩ : ∃ a, M.l[M.l.length - 1]? = some a := ⟨_, List.getElem?_eq_getElem (by omega)⟩
  have hxa : x = lineA a := by
    unfold linesT at hx
    rw [List.getElem?_append_right (by simp [headL]; omega), List.getElem?_map] at hx
    have e : (headL M M.l.length ++ M.l.map lineA).length - 1 - (headL M M.l.length).length = M.l.length - 1 := by simp [headL] <;> omega
    rw [e, ha] at hx; exact (Option.some.inj hx).symm
  have hin := List.mem_of_getElem? ha
  have hne : x ≠ [] := by rw [hxa]; unfold lineA jn wA; rw [join4]; simp
  obtain ⟨h1, h2, _⟩ := parse_lines (s := s) (X := linesT M ++ [x]) (by rw [hs, printT_ends]; exact lin_open _ x (linesT_no10 M) (linesT_no10 M x (List.mem_of_getElem? hx)) hne)
  rw [runL_app _ _ 0 st0 _ (runs_lines h)] at h1 h2
  have hstep : stepW ⟨M.n, M.s, M.t, M.l.length, capsum M.l, M.l⟩ (wrd [] x) = (6, ⟨M.n, M.s, M.t, M.l.length, capsum M.l, M.l⟩) := by
    rw [hxa]; unfold lineA
    rw [step_a (fine_ok h a hin), if_pos (fine_st h)]
    exact arc_over (h.arcs a hin).1 (h.arcs a hin).2.1 (h.arcs a hin).2.2 rfl
  rw [runL_err hstep (by decide)] at h1 h2
  exact ⟨h1, by rw [h2]; simp⟩
theorem set_on {L : List (List UInt8)} {x y : List UInt8} {i j : Nat} (h : L[j]? = some y) (hne : j ≠ i) : (L.set i x).take (j + 1) = (L.set i x).take j ++ [y] := by
  rw [List.take_add_one, List.getElem?_set_ne (fun e => hne e.symm), h]; rfl
theorem set_at {L : List (List UInt8)} {x : List UInt8} {j : Nat} (h : j < L.length) : (L.set j x).take (j + 1) = (L.set j x).take j ++ [x] := by
  rw [List.take_add_one, List.getElem?_set_self h]; rfl
theorem take_on {L : List (List UInt8)} {y : List UInt8} {j : Nat} (h : L[j]? = some y) : L.take (j + 1) = L.take j ++ [y] := by rw [List.take_add_one, h]; rfl
end Dm
end Go.Proofs.YtaepoddmonijkaaDoor
