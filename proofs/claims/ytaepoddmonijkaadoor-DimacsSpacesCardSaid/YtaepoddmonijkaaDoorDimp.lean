/-
  Plain facts on the DIMACS format: what is printed is parsed as it was; texts whose lines are run one behind the other. No program in this text. No condition.
-/
import Derived.Test.YtaepoddmonijkaaDoorPrtm
import Derived.Test.YtaepoddmonijkaaDoorBackm
namespace Go.Proofs.YtaepoddmonijkaaDoor
open Go
set_option linter.unusedVariables false
set_option linter.unusedSimpArgs false
namespace Dm
open Txt (lin wrd ends itoa_form)

theorem lin_ends2 (l : List (List UInt8)) : (∀ y ∈ l, ∀ c ∈ y, c ≠ 10) → lin [] (ends l) = l := by
  induction l with
  | nil => intro _; unfold ends; rw [List.map_nil, List.flatten_nil, Txt.lin_nil, if_pos rfl]
  | cons x l ih =>
    intro h
    rw [Txt.ends_cons, Txt.lin_run x [] _ (h x (by simp)), List.nil_append, Txt.lin_cons, if_pos rfl, ih (fun y hy => h y (by simp [hy]))]
theorem ends_append (a b : List (List UInt8)) : ends (a ++ b) = ends a ++ ends b := by unfold ends; simp
theorem ends_one (x : List UInt8) : ends [x] = x ++ [10] := by unfold ends; simp
/-- whole lines, and one more without an end -/
theorem lin_open (l : List (List UInt8)) (x : List UInt8) (h : ∀ y ∈ l, ∀ c ∈ y, c ≠ 10) (hx : ∀ c ∈ x, c ≠ 10) (hn : x ≠ []) : lin [] (ends l ++ x) = l ++ [x] := by
  induction l with
  | nil =>
    have := Txt.lin_run x [] [] hx
    rw [List.append_nil] at this
    unfold ends; rw [List.map_nil, List.flatten_nil, List.nil_append, this, Txt.lin_nil, List.nil_append, if_neg hn]; rfl
  | cons y l ih =>
    rw [Txt.ends_cons, List.append_assoc, Txt.lin_run y [] _ (h y (by simp)), List.nil_append, List.cons_append, Txt.lin_cons, if_pos rfl, ih (fun z hz => h z (by simp [hz]))]; rfl

theorem dig_clean {c : UInt8} (h : Txt.dig c = true) : Txt.blk c = false ∧ c ≠ 10 := by
  have h2 := (Txt.dig_iff c).1 h
  refine ⟨?_, ?_⟩
  · unfold Txt.blk
    simp only [Bool.or_eq_false_iff, beq_eq_false_iff_ne]
    refine ⟨⟨?_, ?_⟩, ?_⟩ <;> (intro e; subst e; simp at h2)
  · intro e; subst e; simp at h2
theorem itoa_clean (n : Int) : Txt.Clean (Lib.itoa n) := by
  rw [itoa_form]
  have hd := Txt.decDigits_dig n.natAbs
  have hne := Txt.decDigits_ne n.natAbs
  refine ⟨?_, ?_⟩
  · split <;> simp [hne]
  · intro c hc
    rcases List.mem_append.1 hc with h | h
    · split at h
      · simp at h; subst h; exact ⟨rfl, by decide⟩
      · simp at h
    · exact dig_clean (List.all_eq_true.1 hd c h)
theorem words_clean {ws : List (List UInt8)} (h : ∀ y ∈ ws, Txt.Clean y) : wrd [] (Lib.join ws [32]) = ws := by
  have := Txt.wrd_join ws [] h (by simp); rwa [List.append_nil] at this
theorem join_no10 {ws : List (List UInt8)} (h : ∀ y ∈ ws, Txt.Clean y) : ∀ c ∈ Lib.join ws [32], c ≠ 10 := by
  rcases ws with _ | ⟨x, r⟩
  · intro c hc; simp [Lib.join_nil] at hc
  · intro c hc
    rw [Lib.join_cons] at hc
    rcases List.mem_append.1 hc with h1 | h1
    · exact ((h x (by simp)).2 c h1).2
    · unfold Lib.joinTail at h1
      obtain ⟨y, hy, hcy⟩ := List.mem_flatten.1 h1
      obtain ⟨z, hz, rfl⟩ := List.mem_map.1 hy
      rcases List.mem_append.1 hcy with h2 | h2
      · simp at h2; subst h2; decide
      · exact ((h z (by simp [hz])).2 c h2).2
theorem lit_clean (l : List UInt8) (h : (decide (l ≠ []) && l.all fun c => !Txt.blk c && decide (c ≠ 10)) = true) : Txt.Clean l := by
  simp only [Bool.and_eq_true, decide_eq_true_eq, List.all_eq_true, Bool.not_eq_true'] at h
  exact ⟨h.1, fun c hc => h.2 c hc⟩
/-- the problem's line, told of N and M -/
def wPr (N M : Int) : List (List UInt8) := [[112], [109, 97, 120], Lib.itoa N, Lib.itoa M]
def wSr (v : Int) : List (List UInt8) := [[110], Lib.itoa v, [115]]
def wTr (v : Int) : List (List UInt8) := [[110], Lib.itoa v, [116]]
theorem wPr_clean (N M : Int) : ∀ y ∈ wPr N M, Txt.Clean y := by
  intro y hy; simp only [wPr, List.mem_cons, List.not_mem_nil, or_false] at hy
  rcases hy with rfl | rfl | rfl | rfl
  · exact lit_clean _ rfl
  · exact lit_clean _ rfl
  · exact itoa_clean _
  · exact itoa_clean _
theorem wSr_clean (v : Int) : ∀ y ∈ wSr v, Txt.Clean y := by
  intro y hy; simp only [wSr, List.mem_cons, List.not_mem_nil, or_false] at hy
  rcases hy with rfl | rfl | rfl
  · exact lit_clean _ rfl
  · exact itoa_clean _
  · exact lit_clean _ rfl
theorem wTr_clean (v : Int) : ∀ y ∈ wTr v, Txt.Clean y := by
  intro y hy; simp only [wTr, List.mem_cons, List.not_mem_nil, or_false] at hy
  rcases hy with rfl | rfl | rfl
  · exact lit_clean _ rfl
  · exact itoa_clean _
  · exact lit_clean _ rfl
theorem wA_clean (a : Ne.Arc) : ∀ y ∈ wA a, Txt.Clean y := by
  intro y hy; simp only [wA, List.mem_cons, List.not_mem_nil, or_false] at hy
  rcases hy with rfl | rfl | rfl | rfl
  · exact lit_clean _ rfl
  · exact itoa_clean _
  · exact itoa_clean _
  · exact itoa_clean _
abbrev jn (ws : List (List UInt8)) : List UInt8 := Lib.join ws [32]

/-! steps -/
def i64 (x : Int) : Prop := -9223372036854775808 ≤ x ∧ x ≤ 9223372036854775807
theorem numsE_two {a b : Int} (ha : i64 a) (hb : i64 b) : numsE [Lib.itoa a, Lib.itoa b] = 0 := by
  simp [numsE, (Txt.num_itoa a ha.1 ha.2).1, (Txt.num_itoa b hb.1 hb.2).1]
theorem step_p {st : St} {a c : Int} (ha : i64 a) (hc : i64 c) : stepW st (wrd [] (jn (wPr a c))) = if st.n = 0 then problem st a c else (2, st) := by
  rw [words_clean (wPr_clean a c)]
  have hf : fitsL (pat 0) (wPr a c) = true := by simp [fitsL, pat, wPr]
  have hs : says (wPr a c) = true := by simp [says, wPr]
  unfold stepW
  rw [if_neg (by simp [hs]), if_pos hf]
  unfold does
  have hsel : sel (pat 0) (wPr a c) = [Lib.itoa a, Lib.itoa c] := by simp [sel, pat, wPr]
  by_cases h : st.n = 0
  · rw [if_pos (by simp [may, h]), if_pos (by rw [hsel]; exact numsE_two ha hc), if_pos h, hsel]
    simp [act, (Txt.num_itoa a ha.1 ha.2).2, (Txt.num_itoa c hc.1 hc.2).2]
  · rw [if_neg (by simp [may, h]), if_neg h]
theorem step_s {st : St} {v : Int} (hv : i64 v) : stepW st (wrd [] (jn (wSr v))) = if st.n ≠ 0 ∧ st.s = 0 then source st v else (2, st) := by
  rw [words_clean (wSr_clean v)]
  have h0 : fitsL (pat 0) (wSr v) = false := by simp [fitsL, pat, wSr]
  have hf : fitsL (pat 1) (wSr v) = true := by simp [fitsL, pat, wSr]
  have hs : says (wSr v) = true := by simp [says, wSr]
  unfold stepW
  rw [if_neg (by simp [hs]), if_neg (by simp [h0]), if_pos hf]
  unfold does
  have hsel : sel (pat 1) (wSr v) = [Lib.itoa v] := by simp [sel, pat, wSr]
  by_cases h : st.n ≠ 0 ∧ st.s = 0
  · rw [if_pos (by simp [may, h.1, h.2]), if_pos (by rw [hsel]; simp [numsE, (Txt.num_itoa v hv.1 hv.2).1]), if_pos h, hsel]
    simp [act, (Txt.num_itoa v hv.1 hv.2).2]
  · rw [if_neg (by simp [may]; intro h1 h2; exact h ⟨h1, h2⟩), if_neg h]
theorem step_t {st : St} {v : Int} (hv : i64 v) : stepW st (wrd [] (jn (wTr v))) = if st.n ≠ 0 ∧ st.t = 0 then sink st v else (2, st) := by
  rw [words_clean (wTr_clean v)]
  have h0 : fitsL (pat 0) (wTr v) = false := by simp [fitsL, pat, wTr]
  have h1 : fitsL (pat 1) (wTr v) = false := by simp [fitsL, pat, wTr]
  have hf : fitsL (pat 2) (wTr v) = true := by simp [fitsL, pat, wTr]
  have hs : says (wTr v) = true := by simp [says, wTr]
  unfold stepW
  rw [if_neg (by simp [hs]), if_neg (by simp [h0]), if_neg (by simp [h1]), if_pos hf]
  unfold does
  have hsel : sel (pat 2) (wTr v) = [Lib.itoa v] := by simp [sel, pat, wTr]
  by_cases h : st.n ≠ 0 ∧ st.t = 0
  · rw [if_pos (by simp [may, h.1, h.2]), if_pos (by rw [hsel]; simp [numsE, (Txt.num_itoa v hv.1 hv.2).1]), if_pos h, hsel]
    simp [act, (Txt.num_itoa v hv.1 hv.2).2]
  · rw [if_neg (by simp [may]; intro h1 h2; exact h ⟨h1, h2⟩), if_neg h]
theorem step_a {st : St} {a : Ne.Arc} (ha : a.ok) : stepW st (wrd [] (jn (wA a))) = if st.s ≠ 0 ∧ st.t ≠ 0 then arc st a.fr a.to a.cap else (2, st) := by
  rw [words_clean (wA_clean a)]
  have h0 : fitsL (pat 0) (wA a) = false := by simp [fitsL, pat, wA]
  have h1 : fitsL (pat 1) (wA a) = false := by simp [fitsL, pat, wA]
  have h2 : fitsL (pat 2) (wA a) = false := by simp [fitsL, pat, wA]
  have hf : fitsL (pat 3) (wA a) = true := by simp [fitsL, pat, wA]
  have hs : says (wA a) = true := by simp [says, wA]
  have e1 := Txt.num_itoa a.fr ha.1.1 ha.1.2
  have e2 := Txt.num_itoa a.to ha.2.1.1 ha.2.1.2
  have e3 := Txt.num_itoa a.cap ha.2.2.1 ha.2.2.2
  unfold stepW
  rw [if_neg (by simp [hs]), if_neg (by simp [h0]), if_neg (by simp [h1]), if_neg (by simp [h2]), if_pos hf]
  unfold does
  have hsel : sel (pat 3) (wA a) = [Lib.itoa a.fr, Lib.itoa a.to, Lib.itoa a.cap] := by simp [sel, pat, wA]
  by_cases h : st.s ≠ 0 ∧ st.t ≠ 0
  · rw [if_pos (by simp [may, h.1, h.2]), if_pos (by rw [hsel]; simp [numsE, e1.1, e2.1, e3.1]), if_pos h, hsel]
    simp [act, e1.2, e2.2, e3.2]
  · rw [if_neg (by simp [may]; intro h1; exact Decidable.byContradiction fun h2 => h ⟨h1, h2⟩), if_neg h]

/-! runs of lines -/
def runs : St → List (List UInt8) → Option St
  | st, [] => some st
  | st, x :: r => if (stepW st (wrd [] x)).1 = 0 then runs (stepW st (wrd [] x)).2 r else none
theorem runs_cons {st : St} {x : List UInt8} {r : List (List UInt8)} {st' : St} (h : stepW st (wrd [] x) = (0, st')) : runs st (x :: r) = runs st' r := by
  simp only [runs]; rw [h]; simp
theorem runL_app : ∀ (A B : List (List UInt8)) (i : Nat) (st st' : St), runs st A = some st' → runL i st (A ++ B) = runL (i + A.length) st' B := by
  intro A
  induction A with
  | nil => intro B i st st' h; simp [runs] at h; subst h; simp
  | cons x A ih =>
    intro B i st st' h
    unfold runs at h
    split at h
    · rename_i h0
      rw [List.cons_append]
      conv => lhs; unfold runL
      rw [if_pos h0, ih B (i + 1) _ st' h, List.length_cons]
      congr 1; omega
    · cases h
theorem runs_app {A B : List (List UInt8)} : ∀ {st st' : St}, runs st A = some st' → runs st (A ++ B) = runs st' B := by
  induction A with
  | nil => intro st st' h; simp [runs] at h; subst h; rfl
  | cons x A ih =>
    intro st st' h
    unfold runs at h
    split at h
    · rename_i h0
      rw [List.cons_append]
      conv => lhs; unfold runs
      rw [if_pos h0]; exact ih h
    · cases h
theorem runL_err {i : Nat} {st st' : St} {x : List UInt8} {r : List (List UInt8)} {c : Int} (h : stepW st (wrd [] x) = (c, st')) (hc : c ≠ 0) : runL i st (x :: r) = (c, i + 1, st) := by
  unfold runL; rw [h, if_neg hc]
/-- an error's line is none of the first i -/
theorem runL_late : ∀ (X : List (List UInt8)) (i : Nat) (st : St), ((runL i st X).1 = 0 ∧ (runL i st X).2.1 = 0) ∨ ((runL i st X).1 ≠ 0 ∧ i + 1 ≤ (runL i st X).2.1 ∧ (runL i st X).2.1 ≤ i + X.length + 1) := by
  intro X
  induction X with
  | nil => intro i st; unfold runL; split <;> simp [*]
  | cons x X ih =>
    intro i st
    unfold runL
    split
    · rcases ih (i + 1) (stepW st (wrd [] x)).2 with h | h
      · exact .inl h
      · right; simp only [List.length_cons]; refine ⟨h.1, by omega, by omega⟩
    · rename_i h; right; simp only [List.length_cons]; exact ⟨h, by omega, by omega⟩

def capsum (l : List Ne.Arc) : Int := (l.map Ne.Arc.cap).sum
theorem capsum_cons (a : Ne.Arc) (l : List Ne.Arc) : capsum (a :: l) = a.cap + capsum l := by simp [capsum]
theorem capsum_nn : ∀ {l : List Ne.Arc}, (∀ x ∈ l, 0 ≤ x.cap) → 0 ≤ capsum l := by
  intro l
  induction l with
  | nil => intro _; simp [capsum]
  | cons x l ih => intro h; rw [capsum_cons]; have := ih fun y hy => h y (by simp [hy]); have := h x (by simp); omega
def lineA (a : Ne.Arc) : List UInt8 := jn (wA a)
theorem arc_in {st : St} {a : Ne.Arc} (h1 : Ne.isNode st.n a.fr = true) (h2 : Ne.isNode st.n a.to = true) (h3 : 0 ≤ a.cap) (h4 : (st.l.length : Int) < st.arcs) (h5 : a.cap ≤ top - st.sum) :
    arc st a.fr a.to a.cap = (0, ⟨st.n, st.s, st.t, st.arcs, st.sum + a.cap, st.l ++ [a]⟩) := by
  unfold arc; rw [if_pos (by simp [h1, h2]), if_neg (by omega), if_neg (by omega), if_neg (by omega)]
theorem arc_over {st : St} {a : Ne.Arc} (h1 : Ne.isNode st.n a.fr = true) (h2 : Ne.isNode st.n a.to = true) (h3 : 0 ≤ a.cap) (h4 : (st.l.length : Int) = st.arcs) :
    arc st a.fr a.to a.cap = (6, st) := by
  unfold arc; rw [if_pos (by simp [h1, h2]), if_neg (by omega), if_pos h4]
/-- arcs that are right, one behind the other -/
theorem runs_arcs : ∀ (l : List Ne.Arc) (st : St), (∀ a ∈ l, a.ok) → st.s ≠ 0 → st.t ≠ 0 → (∀ a ∈ l, Ne.isNode st.n a.fr = true ∧ Ne.isNode st.n a.to = true ∧ 0 ≤ a.cap) → (st.l.length : Int) + l.length ≤ st.arcs → st.sum + capsum l ≤ top →
    runs st (l.map lineA) = some ⟨st.n, st.s, st.t, st.arcs, st.sum + capsum l, st.l ++ l⟩ := by
  intro l
  induction l with
  | nil => intro st _ _ _ _ _ _; simp [runs, capsum]
  | cons a l ih =>
    intro st hok hs ht hn hlen hsum
    obtain ⟨h1, h2, h3⟩ := hn a (by simp)
    rw [capsum_cons] at hsum
    have hc0 := capsum_nn (l := l) fun x hx => (hn x (by simp [hx])).2.2
    simp only [List.length_cons] at hlen
    have e : stepW st (wrd [] (lineA a)) = (0, ⟨st.n, st.s, st.t, st.arcs, st.sum + a.cap, st.l ++ [a]⟩) := by
      unfold lineA
      rw [step_a (hok a (by simp)), if_pos ⟨hs, ht⟩, arc_in h1 h2 h3 (by omega) (by omega)]
    rw [List.map_cons, runs_cons e, ih ⟨st.n, st.s, st.t, st.arcs, st.sum + a.cap, st.l ++ [a]⟩ (fun x hx => hok x (by simp [hx])) hs ht (fun x hx => hn x (by simp [hx])) (by simp only [List.length_append, List.length_singleton]; omega) (by simp only; omega)]
    rw [capsum_cons]; simp only [List.append_assoc, List.singleton_append]; congr 2; omega
/-- a right network, told piece by piece -/
structure Fine (n : Ne.Net) : Prop where
  nodes : 2 ≤ n.n ∧ n.n ≤ 500
  s : Ne.isNode n.n n.s = true
  t : Ne.isNode n.n n.t = true
  st : n.s ≠ n.t
  len : n.l.length ≤ 2000
  arcs : ∀ a ∈ n.l, Ne.isNode n.n a.fr = true ∧ Ne.isNode n.n a.to = true ∧ 0 ≤ a.cap
  sum : capsum n.l ≤ top
theorem checkL_fine {n : Int} : ∀ (l : List Ne.Arc) (left : Int), 0 ≤ left → Ne.checkL n left l = 0 → (∀ a ∈ l, Ne.isNode n a.fr = true ∧ Ne.isNode n a.to = true ∧ 0 ≤ a.cap) ∧ capsum l ≤ left := by
  intro l
  induction l with
  | nil => intro left h0 _; exact ⟨by simp, by simp [capsum]; exact h0⟩
  | cons a l ih =>
    intro left h0 h
    unfold Ne.checkL at h
    split at h
    · rename_i g
      simp only [Bool.and_eq_true] at g
      split at h
      · simp at h
      · split at h
        · simp at h
        · obtain ⟨h1, h2⟩ := ih (left - a.cap) (by omega) h
          refine ⟨fun x hx => ?_, by rw [capsum_cons]; omega⟩
          rcases List.mem_cons.1 hx with rfl | hx
          · exact ⟨g.1, g.2, by omega⟩
          · exact h1 x hx
    · simp at h
theorem fine_of {n : Ne.Net} (h : Ne.checkN n = 0) : Fine n := by
  unfold Ne.checkN at h
  split at h
  · simp at h
  · rename_i g
    split at h
    · rename_i g2
      simp only [Bool.and_eq_true] at g2
      split at h
      · simp at h
      · rename_i g3
        split at h
        · simp at h
        · rename_i g4
          obtain ⟨h1, h2⟩ := checkL_fine n.l 4611686018427387903 (by decide) h
          exact ⟨by omega, g2.1, g2.2, g3, by omega, h1, h2⟩
    · simp at h
theorem checkL_of {n : Int} : ∀ (l : List Ne.Arc) (left : Int), (∀ a ∈ l, Ne.isNode n a.fr = true ∧ Ne.isNode n a.to = true ∧ 0 ≤ a.cap) → capsum l ≤ left → Ne.checkL n left l = 0 := by
  intro l
  induction l with
  | nil => intro left _ _; rfl
  | cons a l ih =>
    intro left h hs
    obtain ⟨h1, h2, h3⟩ := h a (by simp)
    rw [capsum_cons] at hs
    have hc0 := capsum_nn (l := l) fun x hx => (h x (by simp [hx])).2.2
    unfold Ne.checkL
    rw [if_pos (by simp [h1, h2]), if_neg (by omega), if_neg (by omega)]
    exact ih _ (fun x hx => h x (by simp [hx])) (by omega)
theorem check_of {n : Ne.Net} (h : Fine n) : Ne.checkN n = 0 := by
  have := h.nodes
  have h5 := h.len
  unfold Ne.checkN
  rw [if_neg (by omega), if_pos (by simp [h.s, h.t]), if_neg h.st, if_neg (by omega)]
  exact checkL_of _ _ h.arcs h.sum
theorem fine_i64 {n : Ne.Net} (h : Fine n) : i64 n.n ∧ i64 n.s ∧ i64 n.t := by
  have h1 := h.nodes
  have h2 := isNode_bd h.s
  have h3 := isNode_bd h.t
  exact ⟨⟨by omega, by omega⟩, ⟨by omega, by omega⟩, ⟨by omega, by omega⟩⟩
theorem cap_le {l : List Ne.Arc} (h : ∀ x ∈ l, 0 ≤ x.cap) {a : Ne.Arc} (ha : a ∈ l) : a.cap ≤ capsum l := by
  induction l with
  | nil => simp at ha
  | cons x l ih =>
    rw [capsum_cons]
    have hx := h x (by simp)
    have h0 : 0 ≤ capsum l := capsum_nn fun y hy => h y (by simp [hy])
    rcases List.mem_cons.1 ha with rfl | ha
    · omega
    · have := ih (fun y hy => h y (by simp [hy])) ha; omega
theorem fine_ok {n : Ne.Net} (h : Fine n) : ∀ a ∈ n.l, a.ok := by
  intro a ha
  obtain ⟨h1, h2, h3⟩ := h.arcs a ha
  have b1 := isNode_bd h1
  have b2 := isNode_bd h2
  have h4 := h.nodes
  have h5 := cap_le (fun x hx => (h.arcs x hx).2.2) ha
  have h6 := h.sum
  simp only [top] at h6
  unfold Ne.Arc.ok Ne.in64
  omega
/-- the three first lines, M arcs told -/
def headL (n : Ne.Net) (M : Int) : List (List UInt8) := [jn (wPr n.n M), jn (wSr n.s), jn (wTr n.t)]
def linesT (n : Ne.Net) : List (List UInt8) := headL n n.l.length ++ n.l.map lineA
theorem printT_ends (n : Ne.Net) : printT n = ends (linesT n) := by
  unfold printT headT linesT headL
  rw [ends_append]
  congr 1
  · unfold ends lineT; simp [wP, wPr, wS, wSr, wT, wTr]
  · unfold arcsT ends lineT lineA; rw [List.map_map]; rfl
theorem headL_no10 (n : Ne.Net) (M : Int) : ∀ y ∈ headL n M, ∀ c ∈ y, c ≠ 10 := by
  intro y hy
  simp only [headL, List.mem_cons, List.not_mem_nil, or_false] at hy
  rcases hy with rfl | rfl | rfl
  · exact join_no10 (wPr_clean _ _)
  · exact join_no10 (wSr_clean _)
  · exact join_no10 (wTr_clean _)
theorem arcs_no10 (l : List Ne.Arc) : ∀ y ∈ l.map lineA, ∀ c ∈ y, c ≠ 10 := by
  intro y hy
  obtain ⟨a, _, rfl⟩ := List.mem_map.1 hy
  exact join_no10 (wA_clean a)
theorem linesT_no10 (n : Ne.Net) : ∀ y ∈ linesT n, ∀ c ∈ y, c ≠ 10 := by
  intro y hy
  rcases List.mem_append.1 hy with h | h
  · exact headL_no10 n _ y h
  · exact arcs_no10 _ y h
theorem lin_print (n : Ne.Net) : lin [] (printT n) = linesT n := by rw [printT_ends, lin_ends2 _ (linesT_no10 n)]
def stP (n : Ne.Net) (M : Int) : St := ⟨n.n, 0, 0, M, 0, []⟩
def stS (n : Ne.Net) (M : Int) : St := ⟨n.n, n.s, 0, M, 0, []⟩
def stH (n : Ne.Net) (M : Int) : St := ⟨n.n, n.s, n.t, M, 0, []⟩
theorem step1 {n : Ne.Net} (h : Fine n) {M : Int} (h0 : 0 ≤ M) (h1 : M ≤ 2000) : stepW st0 (wrd [] (jn (wPr n.n M))) = (0, stP n M) := by
  have := h.nodes
  rw [step_p (fine_i64 h).1 ⟨by omega, by omega⟩, if_pos (show st0.n = 0 from rfl)]
  unfold problem; rw [if_neg (by omega)]; rfl
theorem step2 {n : Ne.Net} (h : Fine n) {M : Int} : stepW (stP n M) (wrd [] (jn (wSr n.s))) = (0, stS n M) := by
  have := h.nodes
  have hs := isNode_bd h.s
  rw [step_s (fine_i64 h).2.1, if_pos ⟨by simp only [stP]; omega, rfl⟩]
  unfold source; rw [if_pos (show Ne.isNode (stP n M).n n.s = true from h.s), if_neg (show ¬ n.s = (stP n M).t by simp only [stP]; omega)]; rfl
theorem step3 {n : Ne.Net} (h : Fine n) {M : Int} : stepW (stS n M) (wrd [] (jn (wTr n.t))) = (0, stH n M) := by
  have := h.nodes
  rw [step_t (fine_i64 h).2.2, if_pos ⟨by simp only [stS]; omega, rfl⟩]
  unfold sink; rw [if_pos (show Ne.isNode (stS n M).n n.t = true from h.t), if_neg (show ¬ n.t = (stS n M).s from fun e => h.st e.symm)]; rfl
theorem runs_head {n : Ne.Net} (h : Fine n) {M : Int} (h0 : 0 ≤ M) (h1 : M ≤ 2000) : runs st0 (headL n M) = some (stH n M) := by
  unfold headL
  rw [runs_cons (step1 h h0 h1), runs_cons (step2 h), runs_cons (step3 h)]; rfl
theorem fine_st {n : Ne.Net} (h : Fine n) : n.s ≠ 0 ∧ n.t ≠ 0 := by
  have h2 := isNode_bd h.s
  have h3 := isNode_bd h.t
  omega
/-- the first arcs of a right network, behind its first lines -/
theorem runs_some {n : Ne.Net} (h : Fine n) {M : Int} {l r : List Ne.Arc} (hl : n.l = l ++ r) (hm : (l.length : Int) ≤ M) : runs (stH n M) (l.map lineA) = some ⟨n.n, n.s, n.t, M, capsum l, l⟩ := by
  have hr : 0 ≤ capsum r := capsum_nn fun x hx => (h.arcs x (by rw [hl]; simp [hx])).2.2
  have hs : capsum n.l = capsum l + capsum r := by rw [hl]; simp [capsum]
  have := runs_arcs l (stH n M) (fun a ha => fine_ok h a (by rw [hl]; simp [ha])) (fine_st h).1 (fine_st h).2 (fun a ha => h.arcs a (by rw [hl]; simp [ha])) (by simp only [stH, List.length_nil]; omega) (by simp only [stH]; have := h.sum; omega)
  rw [this]; simp [stH]
theorem runs_lines {n : Ne.Net} (h : Fine n) : runs st0 (linesT n) = some ⟨n.n, n.s, n.t, n.l.length, capsum n.l, n.l⟩ := by
  unfold linesT
  rw [runs_app (runs_head h (by omega) (by have := h.len; omega))]
  exact runs_some h (r := []) (by simp) (Int.le_refl _)
/-- what is printed is parsed as it was -/
theorem res_lines {n : Ne.Net} (h : Fine n) : runL 0 st0 (linesT n) = (0, 0, ⟨n.n, n.s, n.t, n.l.length, capsum n.l, n.l⟩) := by
  have := runL_app (linesT n) [] 0 st0 _ (runs_lines h)
  rw [List.append_nil] at this
  rw [this]
  unfold runL
  have e : endE ⟨n.n, n.s, n.t, n.l.length, capsum n.l, n.l⟩ = 0 := by
    have := fine_st h
    unfold endE; rw [if_neg (by simp only; omega), if_neg (by simp)]
  rw [if_pos e]
theorem parse_print {n : Ne.Net} (h : Fine n) : parseE (printT n) = 0 ∧ parseI (printT n) = 0 ∧ parseN (printT n) = n := by
  have hr : res (printT n) = (0, 0, ⟨n.n, n.s, n.t, n.l.length, capsum n.l, n.l⟩) := by unfold res; rw [lin_print, res_lines h]
  have e1 : parseE (printT n) = 0 := by unfold parseE; rw [hr]
  refine ⟨e1, by unfold parseI; rw [hr], ?_⟩
  unfold parseN; rw [if_pos e1, hr]; rfl
/-- what a text's lines tell, told of Parse -/
theorem parse_lines {s : List UInt8} {X : List (List UInt8)} (h : lin [] s = X) : parseE s = (runL 0 st0 X).1 ∧ parseI s = (runL 0 st0 X).2.1 ∧ parseN s = if (runL 0 st0 X).1 = 0 then (runL 0 st0 X).2.2.net else zeroN := by
  unfold parseE parseI parseN parseE res; rw [h]; exact ⟨rfl, rfl, rfl⟩
end Dm
end Go.Proofs.YtaepoddmonijkaaDoor
