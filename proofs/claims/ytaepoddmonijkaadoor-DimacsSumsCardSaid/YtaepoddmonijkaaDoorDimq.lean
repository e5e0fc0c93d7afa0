/-
  Plain facts on the DIMACS format: arcs of one capacity, one behind the other, till they are too great together. No program in this text. No condition.
-/
import Derived.Test.YtaepoddmonijkaaDoorDimp
namespace Go.Proofs.YtaepoddmonijkaaDoor
open Go
set_option linter.unusedVariables false
set_option linter.unusedSimpArgs false
namespace Dm
open Txt (lin wrd ends)

theorem arc_sum {st : St} {a : Ne.Arc} (h1 : Ne.isNode st.n a.fr = true) (h2 : Ne.isNode st.n a.to = true) (h3 : 0 ≤ a.cap) (h4 : (st.l.length : Int) ≠ st.arcs) (h5 : top - st.sum < a.cap) :
    arc st a.fr a.to a.cap = (7, st) := by
  unfold arc; rw [if_pos (by simp [h1, h2]), if_neg (by omega), if_neg h4, if_pos h5]
def n0 : Ne.Net := ⟨2, 2, 1, []⟩
theorem n0_fine : Fine n0 := ⟨by decide, by decide, by decide, by decide, by decide, by simp [n0], by decide⟩
def ac (c : Int) : Ne.Arc := ⟨1, 2, c⟩
theorem capsum_rep (k : Nat) (c : Int) : capsum (List.replicate k (ac c)) = (k : Int) * c := by
  induction k with
  | zero => simp [capsum]
  | succ k ih => rw [List.replicate_succ, capsum_cons, ih]; simp only [ac]; rw [show ((k + 1 : Nat) : Int) = (k : Int) + 1 by omega, Int.add_mul]; omega
def sumsX (K : Nat) (c : Int) : List (List UInt8) := headL n0 K ++ (List.replicate K (ac c)).map lineA
theorem ac_node (c : Int) : Ne.isNode 2 (ac c).fr = true ∧ Ne.isNode 2 (ac c).to = true := ⟨by show Ne.isNode 2 1 = true; decide, by show Ne.isNode 2 2 = true; decide⟩
theorem runs_rep {K j : Nat} {c : Int} (hK : K ≤ 2000) (hj : j ≤ K) (hc : 0 ≤ c ∧ c ≤ 9223372036854775807) (hs : (j : Int) * c ≤ top) :
    runs (stH n0 K) ((List.replicate j (ac c)).map lineA) = some ⟨2, 2, 1, K, (j : Int) * c, List.replicate j (ac c)⟩ := by
  have := runs_arcs (List.replicate j (ac c)) (stH n0 K) (fun a ha => by
      rw [(List.mem_replicate.1 ha).2]
      unfold Ne.Arc.ok Ne.in64 ac; simp only; omega) (by show (2 : Int) ≠ 0; decide) (by show (1 : Int) ≠ 0; decide) (fun a ha => by
      rw [(List.mem_replicate.1 ha).2]
      exact ⟨(ac_node c).1, (ac_node c).2, hc.1⟩) (by simp [stH]; omega) (by rw [capsum_rep]; simp only [stH]; omega)
  rw [this, capsum_rep]; simp [stH, n0]
theorem sums_ok {K : Nat} {c : Int} (hK : K ≤ 2000) (hc : 0 ≤ c ∧ c ≤ 9223372036854775807) (hs : (K : Int) * c ≤ top) : runL 0 st0 (sumsX K c) = (0, 0, ⟨2, 2, 1, K, (K : Int) * c, List.replicate K (ac c)⟩) := by
  have h1 : runs st0 (sumsX K c) = some ⟨2, 2, 1, K, (K : Int) * c, List.replicate K (ac c)⟩ := by
    unfold sumsX
    rw [runs_app (runs_head n0_fine (by omega) (by omega))]
    exact runs_rep hK (Nat.le_refl _) hc hs
  have := runL_app (sumsX K c) [] 0 st0 _ h1
  rw [List.append_nil] at this
  rw [this]
  unfold runL
  rw [if_pos (by unfold endE; simp)]
theorem sums_err {K j : Nat} {c : Int} (hK : K ≤ 2000) (hj : j < K) (hc : 0 ≤ c ∧ c ≤ 9223372036854775807) (hs : (j : Int) * c ≤ top) (ho : top - (j : Int) * c < c) :
    ∃ st, runL 0 st0 (sumsX K c) = (7, 4 + j, st) := by
  have h1 : runs st0 (headL n0 K ++ (List.replicate j (ac c)).map lineA) = some ⟨2, 2, 1, K, (j : Int) * c, List.replicate j (ac c)⟩ := by
    rw [runs_app (runs_head n0_fine (by omega) (by omega))]
    exact runs_rep hK (by omega) hc hs
  have e : sumsX K c = (headL n0 K ++ (List.replicate j (ac c)).map lineA) ++ (lineA (ac c) :: (List.replicate (K - j - 1) (ac c)).map lineA) := by
    unfold sumsX
    rw [List.append_assoc]
    congr 1
    rw [← List.map_cons, ← List.map_append, ← List.replicate_succ, List.replicate_append_replicate]
    congr 2; omega
  refine ⟨⟨2, 2, 1, K, (j : Int) * c, List.replicate j (ac c)⟩, ?_⟩
  rw [e, runL_app _ _ 0 st0 _ h1]
  have hstep : stepW ⟨2, 2, 1, K, (j : Int) * c, List.replicate j (ac c)⟩ (wrd [] (lineA (ac c))) = (7, ⟨2, 2, 1, K, (j : Int) * c, List.replicate j (ac c)⟩) := by
    unfold lineA
    rw [step_a (by unfold Ne.Arc.ok Ne.in64 ac; simp only; omega), if_pos (by simp)]
    exact arc_sum (ac_node c).1 (ac_node c).2 hc.1 (by simp; omega) ho
  rw [runL_err hstep (by decide)]
  simp [headL]; omega
theorem sumsX_no10 (K : Nat) (c : Int) : ∀ y ∈ sumsX K c, ∀ d ∈ y, d ≠ 10 := by
  intro y hy
  rcases List.mem_append.1 hy with h | h
  · exact headL_no10 n0 _ y h
  · exact arcs_no10 _ y h
/-- the text that the law makes -/
def sumsH (K : Nat) : List UInt8 := [112, 32, 109, 97, 120, 32, 50, 32] ++ Lib.itoa (K : Int) ++ [10, 110, 32, 50, 32, 115, 10, 110, 32, 49, 32, 116, 10]
def sumsT (K i : Nat) (c : Int) : List UInt8 := sumsH K ++ (List.replicate i ([97, 32, 49, 32, 50, 32] ++ Lib.itoa c ++ [10])).flatten
theorem itoa1 : Lib.itoa 1 = [49] := by decide +kernel
theorem itoa2 : Lib.itoa 2 = [50] := by decide +kernel
theorem sumsT_succ (K i : Nat) (c : Int) : sumsT K (i + 1) c = sumsT K i c ++ ([97, 32, 49, 32, 50, 32] ++ Lib.itoa c ++ [10]) := by
  unfold sumsT; rw [List.replicate_succ']; simp
theorem sumsT_ends (K : Nat) (c : Int) : sumsT K K c = ends (sumsX K c) := by
  unfold sumsT sumsX
  rw [ends_append]
  congr 1
  · unfold sumsH headL Txt.ends jn wPr wSr wTr n0
    simp only [List.map_cons, List.map_nil, List.flatten_cons, List.flatten_nil, List.append_nil]
    rw [join4, join3, join3]; simp [itoa1, itoa2]
  · unfold Txt.ends lineA jn wA ac
    rw [List.map_map, List.map_replicate]
    congr 2
    simp only [Function.comp]
    rw [join4]; simp [itoa1, itoa2]
theorem sumsT_len {K i : Nat} {c : Int} (hK : K ≤ 2000) (hc : 0 ≤ c ∧ c ≤ 9223372036854775807) : (sumsT K i c).length ≤ 42 + 28 * i := by
  have h1 := itoa_len (n := (K : Int)) (by omega) (by omega)
  have h2 := itoa_len (n := c) (by omega) hc.2
  induction i with
  | zero => unfold sumsT sumsH; simp; omega
  | succ i ih => rw [sumsT_succ, List.length_append]; simp; omega
theorem sums_parse_ok {K : Nat} {c : Int} (hK : K ≤ 2000) (hc : 0 ≤ c ∧ c ≤ 9223372036854775807) (hs : (K : Int) * c ≤ top) : parseE (sumsT K K c) = 0 ∧ parseI (sumsT K K c) = 0 ∧ parseN (sumsT K K c) = ⟨2, 2, 1, List.replicate K (ac c)⟩ := by
  obtain ⟨h1, h2, h3⟩ := parse_lines (s := sumsT K K c) (X := sumsX K c) (by rw [sumsT_ends, lin_ends2 _ (sumsX_no10 K c)])
  rw [sums_ok hK hc hs] at h1 h2 h3
  exact ⟨h1, h2, h3⟩
theorem sums_parse_err {K j : Nat} {c : Int} (hK : K ≤ 2000) (hj : j < K) (hc : 0 ≤ c ∧ c ≤ 9223372036854775807) (hs : (j : Int) * c ≤ top) (ho : top - (j : Int) * c < c) : parseE (sumsT K K c) = 7 ∧ parseI (sumsT K K c) = 4 + j ∧ parseN (sumsT K K c) = zeroN := by
  obtain ⟨h1, h2, h3⟩ := parse_lines (s := sumsT K K c) (X := sumsX K c) (by rw [sumsT_ends, lin_ends2 _ (sumsX_no10 K c)])
  obtain ⟨st, h⟩ := sums_err hK hj hc hs ho
  rw [h] at h1 h2 h3
  exact ⟨h1, h2, h3⟩
end Dm
end Go.Proofs.YtaepoddmonijkaaDoor
