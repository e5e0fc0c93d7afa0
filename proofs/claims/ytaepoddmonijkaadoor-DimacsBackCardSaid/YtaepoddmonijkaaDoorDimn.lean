/-
  Plain facts on the DIMACS format: a parsed network has no more arcs than its text has bytes. No program in this text. No condition.
-/
import Derived.Test.YtaepoddmonijkaaDoorDimm
namespace Go.Proofs.YtaepoddmonijkaaDoor
open Go
set_option linter.unusedVariables false
set_option linter.unusedSimpArgs false
namespace Dm
theorem arc_len {st : St} {f t c : Int} : (arc st f t c).2.l.length ≤ st.l.length + 1 := by
  unfold arc
  split
  · split
    · simp
    · split
      · simp
      · split <;> simp
  · simp
theorem does_len {st : St} {k : Nat} {ws : List (List UInt8)} : (does st k ws).2.l.length ≤ st.l.length + 1 := by
  unfold does
  split
  · split
    · unfold act
      match k with
      | 0 => unfold problem; simp only; split <;> simp
      | 1 => unfold source; simp only; split; split <;> simp; simp
      | 2 => unfold sink; simp only; split; split <;> simp; simp
      | k + 3 => exact arc_len
    · simp
  · simp
theorem stepW_len {st : St} {ws : List (List UInt8)} : (stepW st ws).2.l.length ≤ st.l.length + 1 := by
  unfold stepW
  split
  · simp
  split
  · exact does_len
  split
  · exact does_len
  split
  · exact does_len
  split
  · exact does_len
  · simp
theorem runL_len : ∀ (X : List (List UInt8)) (i : Nat) (st : St), (runL i st X).2.2.l.length ≤ st.l.length + X.length := by
  intro X
  induction X with
  | nil => intro i st; unfold runL; split <;> simp
  | cons x X ih =>
    intro i st
    unfold runL
    split
    · have h1 := ih (i + 1) (stepW st (Txt.wrd [] x)).2
      have h2 := stepW_len (st := st) (ws := Txt.wrd [] x)
      simp only [List.length_cons]; omega
    · simp only [List.length_cons]; omega
theorem lin_le (r : List UInt8) : ∀ cur, (Txt.lin cur r).length ≤ r.length + (if cur = [] then 0 else 1) := by
  induction r with
  | nil => intro cur; unfold Txt.lin; split <;> simp [*]
  | cons c r ih =>
    intro cur
    unfold Txt.lin
    split
    · have := ih []; simp at this ⊢; split <;> omega
    · have := ih (cur ++ [c]); simp at this ⊢; split <;> omega
theorem parseN_le (s : List UInt8) : (parseN s).l.length ≤ s.length := by
  unfold parseN
  split
  · have h1 := runL_len (Txt.lin [] s) 0 st0
    have h2 := lin_le s []
    unfold St.net res
    simp [st0] at h1 h2 ⊢; omega
  · simp [zeroN]
end Dm
end Go.Proofs.YtaepoddmonijkaaDoor
