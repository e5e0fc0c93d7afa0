/-
  Plain facts on the DIMACS format: what a line's words do to what was read so far. No program in this text. No condition.
-/
import Derived.Test.YtaepoddmonijkaaDoorRcheck
import Derived.Test.YtaepoddmonijkaaDoorTxt
namespace Go.Proofs.YtaepoddmonijkaaDoor
open Go
set_option linter.unusedVariables false
set_option linter.unusedSimpArgs false
namespace Dm

/-- what was read so far: nodes, source, sink (0: none yet), how many arcs there are to be, what all capacities are together, the arcs -/
structure St where
  n : Int
  s : Int
  t : Int
  arcs : Int
  sum : Int
  l : List Ne.Arc

def st0 : St := ⟨0, 0, 0, 0, 0, []⟩
abbrev top : Int := 4611686018427387903
def numsE : List (List UInt8) → Int
  | [] => 0
  | x :: r => if Txt.numE x = 0 then numsE r else Txt.numE x
def problem (st : St) (a c : Int) : Int × St := if a < 2 ∨ 500 < a ∨ c < 0 ∨ 2000 < c then (3, st) else (0, ⟨a, st.s, st.t, c, st.sum, st.l⟩)
def source (st : St) (v : Int) : Int × St := if Ne.isNode st.n v then (if v = st.t then (5, st) else (0, ⟨st.n, v, st.t, st.arcs, st.sum, st.l⟩)) else (4, st)
def sink (st : St) (v : Int) : Int × St := if Ne.isNode st.n v then (if v = st.s then (5, st) else (0, ⟨st.n, st.s, v, st.arcs, st.sum, st.l⟩)) else (4, st)
def arc (st : St) (f t c : Int) : Int × St :=
  if (Ne.isNode st.n f && Ne.isNode st.n t) = true then
    (if c < 0 then (3, st) else if (st.l.length : Int) = st.arcs then (6, st) else if top - st.sum < c then (7, st) else (0, ⟨st.n, st.s, st.t, st.arcs, st.sum + c, st.l ++ [⟨f, t, c⟩]⟩))
  else (4, st)
def nv (ws : List (List UInt8)) (i : Nat) : Int := Txt.numV (ws[i]?.getD [])
/-- of which kind a line is: 0 to 3: problem, source, sink, arc -/
def pat : Nat → List (List UInt8)
  | 0 => [[112], [109, 97, 120], [], []]
  | 1 => [[110], [], [115]]
  | 2 => [[110], [], [116]]
  | _ => [[97], [], [], []]
def fitsL : List (List UInt8) → List (List UInt8) → Bool
  | [], [] => true
  | p :: P, x :: X => (decide (p = []) || decide (p = x)) && fitsL P X
  | _, _ => false
/-- the words of a line that stand where numbers do -/
def sel : List (List UInt8) → List (List UInt8) → List (List UInt8)
  | p :: P, x :: X => if p = [] then x :: sel P X else sel P X
  | _, _ => []
def may (st : St) : Nat → Bool
  | 0 => decide (st.n = 0)
  | 1 => decide (st.n ≠ 0) && decide (st.s = 0)
  | 2 => decide (st.n ≠ 0) && decide (st.t = 0)
  | _ => decide (st.s ≠ 0) && decide (st.t ≠ 0)
def act (st : St) (k : Nat) (l : List Int) : Int × St :=
  match k with
  | 0 => problem st (l[0]?.getD 0) (l[1]?.getD 0)
  | 1 => source st (l[0]?.getD 0)
  | 2 => sink st (l[0]?.getD 0)
  | _ => arc st (l[0]?.getD 0) (l[1]?.getD 0) (l[2]?.getD 0)
/-- what a line of kind k does -/
def does (st : St) (k : Nat) (ws : List (List UInt8)) : Int × St :=
  if may st k = true then (if numsE (sel (pat k) ws) = 0 then act st k ((sel (pat k) ws).map Txt.numV) else (numsE (sel (pat k) ws), st)) else (2, st)
def says (ws : List (List UInt8)) : Bool := !(decide (ws = []) || decide (ws[0]? = some [99]))
def stepW (st : St) (ws : List (List UInt8)) : Int × St :=
  if says ws = false then (0, st)
  else if fitsL (pat 0) ws then does st 0 ws
  else if fitsL (pat 1) ws then does st 1 ws
  else if fitsL (pat 2) ws then does st 2 ws
  else if fitsL (pat 3) ws then does st 3 ws
  else (2, st)
def endE (st : St) : Int := if st.s = 0 ∨ st.t = 0 then 2 else if (st.l.length : Int) < st.arcs then 6 else 0
/-- line by line: the first error with its line's number (i lines are done), or what was read -/
def runL : Nat → St → List (List UInt8) → Int × Nat × St
  | i, st, [] => if endE st = 0 then (0, 0, st) else (endE st, i + 1, st)
  | i, st, x :: r => if (stepW st (Txt.wrd [] x)).1 = 0 then runL (i + 1) (stepW st (Txt.wrd [] x)).2 r else ((stepW st (Txt.wrd [] x)).1, i + 1, st)
def St.net (st : St) : Ne.Net := ⟨st.n, st.s, st.t, st.l⟩
def zeroN : Ne.Net := ⟨0, 0, 0, []⟩
def res (s : List UInt8) : Int × Nat × St := runL 0 st0 (Txt.lin [] s)
def parseE (s : List UInt8) : Int := (res s).1
def parseI (s : List UInt8) : Nat := (res s).2.1
def parseN (s : List UInt8) : Ne.Net := if parseE s = 0 then (res s).2.2.net else zeroN

structure St.ok (st : St) : Prop where
  n : st.n = 0 ∨ (2 ≤ st.n ∧ st.n ≤ 500)
  s : 0 ≤ st.s ∧ st.s ≤ st.n
  t : 0 ≤ st.t ∧ st.t ≤ st.n
  arcs : 0 ≤ st.arcs ∧ st.arcs ≤ 2000
  sum : 0 ≤ st.sum ∧ st.sum ≤ top
  l : (st.l.length : Int) ≤ st.arcs
  ends : st.l ≠ [] → st.s ≠ 0 ∧ st.t ≠ 0
theorem st0_ok : st0.ok := ⟨.inl rfl, by simp [st0], by simp [st0], by simp [st0], by simp [st0], by simp [st0], by simp [st0]⟩

theorem numE_err {x : List UInt8} (h : Txt.numE x ≠ 0) : Txt.numE x = 2 ∨ Txt.numE x = 3 := (Txt.numE_cases x).resolve_left h
theorem numsE_cases (l : List (List UInt8)) : numsE l = 0 ∨ numsE l = 2 ∨ numsE l = 3 := by
  induction l with
  | nil => exact .inl rfl
  | cons x r ih => unfold numsE; split; exact ih; exact Txt.numE_cases x

theorem isNode_bd {n v : Int} (h : Ne.isNode n v = true) : 1 ≤ v ∧ v ≤ n := by unfold Ne.isNode at h; simpa using h
theorem problem_ok {st : St} (h : st.ok) (h0 : st.n = 0) (a c : Int) : (problem st a c).2.ok := by
  unfold problem
  split
  · exact h
  · rename_i g
    have hs := h.s; have ht := h.t; rw [h0] at hs ht
    have hl : st.l = [] := by
      rcases hx : st.l with _ | ⟨x, r⟩
      · rfl
      · have := h.ends (by rw [hx]; simp); omega
    exact ⟨.inr (by simp only; omega), by simp only; omega, by simp only; omega, by simp only; omega, h.sum, by simp only; rw [hl]; simp; omega, fun hn => absurd hl hn⟩
theorem source_ok {st : St} (h : st.ok) (v : Int) : (source st v).2.ok := by
  unfold source
  split
  · rename_i g
    have := isNode_bd g
    split
    · exact h
    · exact ⟨h.n, by simp only; omega, h.t, h.arcs, h.sum, h.l, fun hn => ⟨by simp only; omega, (h.ends hn).2⟩⟩
  · exact h
theorem sink_ok {st : St} (h : st.ok) (v : Int) : (sink st v).2.ok := by
  unfold sink
  split
  · rename_i g
    have := isNode_bd g
    split
    · exact h
    · exact ⟨h.n, h.s, by simp only; omega, h.arcs, h.sum, h.l, fun hn => ⟨(h.ends hn).1, by simp only; omega⟩⟩
  · exact h
theorem arc_ok {st : St} (h : st.ok) (hs : st.s ≠ 0) (ht : st.t ≠ 0) (f t c : Int) : (arc st f t c).2.ok := by
  unfold arc
  split
  · split
    · exact h
    · split
      · exact h
      · split
        · exact h
        · rename_i g1 g2 g3 g4
          have h1 := h.sum
          have h2 := h.l
          exact ⟨h.n, h.s, h.t, h.arcs, by simp only [top] at *; omega, by simp only [List.length_append, List.length_singleton]; omega, fun _ => ⟨hs, ht⟩⟩
  · exact h
theorem does_ok {st : St} (h : st.ok) (k : Nat) (ws : List (List UInt8)) : (does st k ws).2.ok := by
  unfold does
  split
  · rename_i g
    split
    · unfold act
      match k, g with
      | 0, g => exact problem_ok h (by simpa [may] using g) _ _
      | 1, _ => exact source_ok h _
      | 2, _ => exact sink_ok h _
      | k + 3, g => simp [may] at g; exact arc_ok h g.1 g.2 _ _ _
    · exact h
  · exact h
theorem stepW_ok {st : St} (h : st.ok) (ws : List (List UInt8)) : (stepW st ws).2.ok := by
  unfold stepW
  split
  · exact h
  split
  · exact does_ok h 0 ws
  split
  · exact does_ok h 1 ws
  split
  · exact does_ok h 2 ws
  split
  · exact does_ok h 3 ws
  · exact h
theorem fitsL_len : ∀ (P X : List (List UInt8)), fitsL P X = true → X.length = P.length
  | [], [], _ => rfl
  | [], _ :: _, h => by simp [fitsL] at h
  | _ :: _, [], h => by simp [fitsL] at h
  | p :: P, x :: X, h => by
    simp only [fitsL, Bool.and_eq_true] at h
    simp [fitsL_len P X h.2]
theorem fitsL_ne {P X : List (List UInt8)} (h : X.length ≠ P.length) : fitsL P X = false := by
  rcases hf : fitsL P X with _ | _
  · rfl
  · exact absurd (fitsL_len P X hf) h
theorem fitsL_drop : ∀ {P X : List (List UInt8)} {k : Nat} {p x : List UInt8}, P[k]? = some p → X[k]? = some x → fitsL (P.drop k) (X.drop k) = ((decide (p = []) || decide (p = x)) && fitsL (P.drop (k + 1)) (X.drop (k + 1))) := by
  intro P X k p x hp hx
  have e1 : P.drop k = p :: P.drop (k + 1) := by
    obtain ⟨h, e⟩ := List.getElem?_eq_some_iff.1 hp
    rw [List.drop_eq_getElem_cons h, e]
  have e2 : X.drop k = x :: X.drop (k + 1) := by
    obtain ⟨h, e⟩ := List.getElem?_eq_some_iff.1 hx
    rw [List.drop_eq_getElem_cons h, e]
  rw [e1, e2]; rfl
theorem sel_drop {P X : List (List UInt8)} {k : Nat} {p x : List UInt8} (hp : P[k]? = some p) (hx : X[k]? = some x) : sel (P.drop k) (X.drop k) = if p = [] then x :: sel (P.drop (k + 1)) (X.drop (k + 1)) else sel (P.drop (k + 1)) (X.drop (k + 1)) := by
  have e1 : P.drop k = p :: P.drop (k + 1) := by
    obtain ⟨h, e⟩ := List.getElem?_eq_some_iff.1 hp
    rw [List.drop_eq_getElem_cons h, e]
  have e2 : X.drop k = x :: X.drop (k + 1) := by
    obtain ⟨h, e⟩ := List.getElem?_eq_some_iff.1 hx
    rw [List.drop_eq_getElem_cons h, e]
  rw [e1, e2]; rfl
theorem fitsL_end {P X : List (List UInt8)} {k : Nat} (h : P.length ≤ k) (hx : X.length ≤ k) : fitsL (P.drop k) (X.drop k) = true := by
  rw [List.drop_eq_nil_of_le h, List.drop_eq_nil_of_le hx]; rfl
theorem sel_end {P X : List (List UInt8)} {k : Nat} (h : P.length ≤ k) : sel (P.drop k) (X.drop k) = [] := by
  rw [List.drop_eq_nil_of_le h]; unfold sel; rfl
theorem sel_len (P : List (List UInt8)) : ∀ (X : List (List UInt8)), (sel P X).length ≤ P.length := by
  induction P with
  | nil => intro X; simp [sel]
  | cons p P ih =>
    intro X
    cases X with
    | nil => simp [sel]
    | cons x X => simp only [sel]; split <;> simp <;> have := ih X <;> omega
end Dm
end Go.Proofs.YtaepoddmonijkaaDoor
