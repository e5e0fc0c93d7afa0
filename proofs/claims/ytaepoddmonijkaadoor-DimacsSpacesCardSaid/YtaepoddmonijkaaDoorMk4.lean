/-
  Plain facts on made networks, and on texts that tell another number of arcs. No condition.
-/
import Derived.Test.YtaepoddmonijkaaDoorMadem
import Derived.Test.YtaepoddmonijkaaDoorDimp
namespace Go.Proofs.YtaepoddmonijkaaDoor
open Go
set_option linter.unusedVariables false
set_option linter.unusedSimpArgs false
namespace Dm
open Txt (lin wrd ends)

theorem made_fine {nodes nds : Int} {l : List Ne.Arc} (h : ∀ a ∈ l, a.ok) : Fine (Ne.madeN nodes nds l) ∧ (Ne.madeN nodes nds l).l.length ≤ 24 ∧ (Ne.madeN nodes nds l).ok := by
  obtain ⟨h1, h2, h3, h4, h5, h6, h7, h8, h9⟩ := Ne.madeN_fine (nodes := nodes) (ends := nds) h
  generalize Ne.madeN nodes nds l = M at *
  have hs : ∀ k : List Ne.Arc, (∀ a ∈ k, Ne.fineA M.n a) → capsum k ≤ 1000000 * (k.length : Int) := by
    intro k
    induction k with
    | nil => intro _; simp [capsum]
    | cons a k ih =>
      intro hk
      have := ih fun x hx => hk x (by simp [hx])
      have h2 := (hk a (by simp)).2.2
      rw [capsum_cons, List.length_cons]; omega
  have hl : M.l.length ≤ 24 := by omega
  have hF : Fine M := ⟨by omega, by simp [Ne.isNode]; omega, by simp [Ne.isNode]; omega, h7, by omega, fun a ha => ⟨(h9 a ha).1, (h9 a ha).2.1, (h9 a ha).2.2.1⟩, by have := hs M.l h9; simp only [top]; omega⟩
  refine ⟨hF, hl, ?_, ?_, ?_, fine_ok hF⟩ <;> unfold Ne.in64 <;> omega
theorem prt_fine {M : Ne.Net} (h : Fine M) : prtS M = printT M ∧ prtE M = 0 := by
  unfold prtS prtE; rw [if_pos (check_of h), if_pos (check_of h)]; exact ⟨rfl, rfl⟩
theorem printT_len {M : Ne.Net} (h : M.ok) (hl : M.l.length ≤ 1000000) : (printT M).length ≤ 102 + 68 * M.l.length := by
  have h1 := headT_len h hl
  have h2 := arcsT_len h.2.2.2
  unfold printT; rw [List.length_append]; omega
theorem linesT_len (M : Ne.Net) : (linesT M).length = 3 + M.l.length := by unfold linesT headL; simp; omega
theorem linesT_elem {M : Ne.Net} (h : M.ok) (hl : M.l.length ≤ 1000000) : ∀ y ∈ linesT M, y.length ≤ 67 := by
  intro y hy
  rcases List.mem_append.1 hy with h1 | h1
  · simp only [headL, List.mem_cons, List.not_mem_nil, or_false] at h1
    rcases h1 with rfl | rfl | rfl
    · exact Nat.le_trans (wP_len h hl).1 (by decide)
    · exact Nat.le_trans (wS_len h).1 (by decide)
    · exact Nat.le_trans (wT_len h).1 (by decide)
  · obtain ⟨a, ha, rfl⟩ := List.mem_map.1 h1
    exact (wA_len (h.2.2.2 a ha)).1
/-- the lines of M, m arcs told -/
def cntX (M : Ne.Net) (m : Int) : List (List UInt8) := headL M m ++ M.l.map lineA
theorem cntX_same (M : Ne.Net) : cntX M M.l.length = linesT M := rfl
theorem cntX_cons (M : Ne.Net) (m : Int) : cntX M m = jn (wPr M.n m) :: (linesT M).drop 1 := by unfold cntX linesT headL; simp
theorem cntX_no10 (M : Ne.Net) (m : Int) : ∀ y ∈ cntX M m, ∀ c ∈ y, c ≠ 10 := by
  intro y hy
  rcases List.mem_append.1 hy with h | h
  · exact headL_no10 M m y h
  · exact arcs_no10 _ y h
theorem cnt_more {M : Ne.Net} (h : Fine M) {m : Int} (h1 : (M.l.length : Int) < m) (h2 : m ≤ 2000) : ∃ st, runL 0 st0 (cntX M m) = (6, 4 + M.l.length, st) := by
  have hr : runs st0 (cntX M m) = some ⟨M.n, M.s, M.t, m, capsum M.l, M.l⟩ := by
    unfold cntX
    rw [runs_app (runs_head h (by omega) h2)]
    exact runs_some h (r := []) (by simp) (by omega)
  have := runL_app (cntX M m) [] 0 st0 _ hr
  rw [List.append_nil] at this
  refine ⟨⟨M.n, M.s, M.t, m, capsum M.l, M.l⟩, ?_⟩
  rw [this]
  have e : endE ⟨M.n, M.s, M.t, m, capsum M.l, M.l⟩ = 6 := by
    have := fine_st h
    unfold endE; rw [if_neg (by simp only; omega), if_pos h1]
  unfold runL
  rw [e, if_neg (by decide)]
  simp [cntX, headL]; omega
theorem cnt_less {M : Ne.Net} (h : Fine M) {m : Nat} (h1 : m < M.l.length) : ∃ st, runL 0 st0 (cntX M m) = (6, 4 + m, st) := by
  have hlen := h.len
  have e0 : M.l = M.l.take m ++ M.l.drop m := (List.take_append_drop m M.l).symm
  obtain ⟨a, ha⟩ : ∃ a, M.l[m]? = some a := ⟨_, List.getElem?_eq_getElem h1⟩
  have e1 : M.l.drop m = a :: M.l.drop (m + 1) := by
    obtain ⟨h, e⟩ := List.getElem?_eq_some_iff.1 ha
    rw [List.drop_eq_getElem_cons h, e]
  have hm : (M.l.take m).length = m := by rw [List.length_take]; omega
  have hr : runs st0 (headL M m ++ (M.l.take m).map lineA) = some ⟨M.n, M.s, M.t, m, capsum (M.l.take m), M.l.take m⟩ := by
    rw [runs_app (runs_head h (by omega) (by omega))]
    exact runs_some h e0 (by omega)
  have ex : cntX M m = (headL M m ++ (M.l.take m).map lineA) ++ (lineA a :: (M.l.drop (m + 1)).map lineA) := by
    unfold cntX
    rw [List.append_assoc, ← List.map_cons, ← e1, ← List.map_append, List.take_append_drop]
  refine ⟨⟨M.n, M.s, M.t, m, capsum (M.l.take m), M.l.take m⟩, ?_⟩
  rw [ex, runL_app _ _ 0 st0 _ hr]
  have hstep : stepW ⟨M.n, M.s, M.t, m, capsum (M.l.take m), M.l.take m⟩ (wrd [] (lineA a)) = (6, ⟨M.n, M.s, M.t, m, capsum (M.l.take m), M.l.take m⟩) := by
    unfold lineA
    have hin := List.mem_of_getElem? ha
    rw [step_a (fine_ok h a hin), if_pos (fine_st h)]
    exact arc_over (h.arcs a hin).1 (h.arcs a hin).2.1 (h.arcs a hin).2.2 (by simp only; omega)
  rw [runL_err hstep (by decide)]
  simp only [Prod.mk.injEq, true_and, and_true]
  rw [List.length_append, List.length_map, hm]; simp [headL]; omega
theorem cnt_parse {M : Ne.Net} {m : Int} {s : List UInt8} (h : s = ends (cntX M m)) : parseE s = (runL 0 st0 (cntX M m)).1 ∧ parseI s = (runL 0 st0 (cntX M m)).2.1 ∧ parseN s = if (runL 0 st0 (cntX M m)).1 = 0 then (runL 0 st0 (cntX M m)).2.2.net else zeroN :=
  parse_lines (by rw [h, lin_ends2 _ (cntX_no10 M m)])
theorem take_drop1 {L : List (List UInt8)} {j : Nat} {x : List UInt8} (h : L[j]? = some x) (hj : 1 ≤ j) : (L.take (j + 1)).drop 1 = (L.take j).drop 1 ++ [x] := by
  rw [List.take_add_one, h, List.drop_append_of_le_length]
  · rfl
  · rw [List.length_take]; have := (List.getElem?_eq_some_iff.1 h).1; omega
end Dm
end Go.Proofs.YtaepoddmonijkaaDoor
