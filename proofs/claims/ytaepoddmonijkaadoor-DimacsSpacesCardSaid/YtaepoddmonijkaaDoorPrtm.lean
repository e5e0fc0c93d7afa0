/-
  Plain facts: how a network is printed. No program in this text. No condition.
-/
import Derived.Test.YtaepoddmonijkaaDoorDimm
import Derived.Test.YtaepoddmonijkaaDoorWrit
namespace Go.Proofs.YtaepoddmonijkaaDoor
open Go
set_option linter.unusedVariables false
set_option linter.unusedSimpArgs false
namespace Dm

/-- a line's text: its words with one blank between, and an end -/
def lineT (ws : List (List UInt8)) : List UInt8 := Lib.join ws [32] ++ [10]
def wP (n : Ne.Net) : List (List UInt8) := [[112], [109, 97, 120], Lib.itoa n.n, Lib.itoa n.l.length]
def wS (n : Ne.Net) : List (List UInt8) := [[110], Lib.itoa n.s, [115]]
def wT (n : Ne.Net) : List (List UInt8) := [[110], Lib.itoa n.t, [116]]
def wA (a : Ne.Arc) : List (List UInt8) := [[97], Lib.itoa a.fr, Lib.itoa a.to, Lib.itoa a.cap]
def headT (n : Ne.Net) : List UInt8 := lineT (wP n) ++ lineT (wS n) ++ lineT (wT n)
def arcsT (l : List Ne.Arc) : List UInt8 := (l.map fun a => lineT (wA a)).flatten
def printT (n : Ne.Net) : List UInt8 := headT n ++ arcsT n.l
/-- what Print hands back: the text, or nothing; its error -/
def prtS (n : Ne.Net) : List UInt8 := if Ne.checkN n = 0 then printT n else []
def prtE (n : Ne.Net) : Int := if Ne.checkN n = 0 then 0 else 1
theorem arcsT_snoc {l : List Ne.Arc} {k : Nat} {a : Ne.Arc} (h : l[k]? = some a) : arcsT (l.take (k + 1)) = arcsT (l.take k) ++ lineT (wA a) := by
  unfold arcsT; rw [List.take_add_one, h]; simp
theorem itoa_len {n : Int} (h0 : -9223372036854775808 ≤ n) (h1 : n ≤ 9223372036854775807) : (Lib.itoa n).length ≤ 21 := by
  rw [Txt.itoa_form]
  have := Txt.digits_len n.natAbs (by omega)
  rw [List.length_append]; split <;> simp <;> omega
theorem join3 (a b c : List UInt8) : Lib.join [a, b, c] [32] = a ++ [32] ++ b ++ [32] ++ c := by
  rw [Lib.join_cons]; simp [Lib.joinTail]
theorem join4 (a b c d : List UInt8) : Lib.join [a, b, c, d] [32] = a ++ [32] ++ b ++ [32] ++ c ++ [32] ++ d := by
  rw [Lib.join_cons]; simp [Lib.joinTail]
theorem wA_len {a : Ne.Arc} (h : a.ok) : (Lib.join (wA a) [32]).length ≤ 67 ∧ (lineT (wA a)).length ≤ 68 := by
  obtain ⟨h1, h2, h3⟩ := h
  unfold Ne.in64 at h1 h2 h3
  have e1 := itoa_len h1.1 h1.2
  have e2 := itoa_len h2.1 h2.2
  have e3 := itoa_len h3.1 h3.2
  unfold lineT wA; rw [join4]; simp; omega
theorem wP_len {n : Ne.Net} (h : n.ok) (hl : n.l.length ≤ 1000000) : (Lib.join (wP n) [32]).length ≤ 49 ∧ (lineT (wP n)).length ≤ 50 := by
  obtain ⟨h1, h2, h3, _⟩ := h
  unfold Ne.in64 at h1 h2 h3
  have e1 := itoa_len h1.1 h1.2
  have e2 := itoa_len (n := (n.l.length : Int)) (by omega) (by omega)
  unfold lineT wP; rw [join4]; simp; omega
theorem wS_len {n : Ne.Net} (h : n.ok) : (Lib.join (wS n) [32]).length ≤ 25 ∧ (lineT (wS n)).length ≤ 26 := by
  obtain ⟨h1, h2, h3, _⟩ := h
  unfold Ne.in64 at h1 h2 h3
  have e1 := itoa_len h2.1 h2.2
  unfold lineT wS; rw [join3]; simp; omega
theorem wT_len {n : Ne.Net} (h : n.ok) : (Lib.join (wT n) [32]).length ≤ 25 ∧ (lineT (wT n)).length ≤ 26 := by
  obtain ⟨h1, h2, h3, _⟩ := h
  unfold Ne.in64 at h1 h2 h3
  have e1 := itoa_len h3.1 h3.2
  unfold lineT wT; rw [join3]; simp; omega
theorem headT_len {n : Ne.Net} (h : n.ok) (hl : n.l.length ≤ 1000000) : (headT n).length ≤ 102 := by
  have e1 := wP_len h hl
  have e2 := wS_len h
  have e3 := wT_len h
  unfold headT; simp; omega
theorem arcsT_len {l : List Ne.Arc} (h : ∀ a ∈ l, a.ok) : (arcsT l).length ≤ 68 * l.length := by
  unfold arcsT
  induction l with
  | nil => simp
  | cons a r ih =>
    have e := (wA_len (h a (by simp))).2
    have := ih fun x hx => h x (by simp [hx])
    rw [List.map_cons, List.flatten_cons, List.length_append, List.length_cons]; omega
end Dm
end Go.Proofs.YtaepoddmonijkaaDoor
