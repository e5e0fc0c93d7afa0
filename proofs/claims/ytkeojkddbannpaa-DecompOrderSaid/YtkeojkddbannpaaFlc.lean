/-
  Contract of flow's Check at what is known to be a flow; small facts on rows. No condition.
-/
import Derived.Test.YtkeojkddbannpaaNets
import Derived.Test.YtkeojkddbannpaaFchk
import Derived.Test.YtkeojkddbannpaaRtm
namespace Go.Proofs.Ytkeojkddbannpaa
open Go.ChangeShapes Go.WideShapes Go.ChangeAt Go.RowKit
set_option linter.unusedVariables false
set_option linter.unusedSimpArgs false
namespace Ne
theorem arow_ofA {w : World} {B n cap : Nat} {ao : Option Addr} {l : List Arc} (h : OwnA w B (.slice ao n cap) l) : ARow w ao l := by
  obtain ⟨ao', cap', h1, _, _, h4, h5, _⟩ := Rw.own_row encA_len h
  simp only [Value.slice.injEq] at h1
  obtain ⟨rfl, rfl, rfl⟩ := h1
  exact h5
theorem cap_64 {n : Net} (hR : Right n) : ∀ a ∈ n.l, in64 a.cap := by
  intro a ha
  obtain ⟨i, hi, rfl⟩ := List.mem_iff_getElem.1 ha
  have e : arcAt n.l i = n.l[i] := by simp [arcAt, hi]
  have h0 := hR.cap0 i hi
  have e1 : capS n.l (i + 1) ≤ capS n.l n.l.length := sumTo_mono hR.cap0 (by omega)
  have e2 : 0 ≤ capS n.l i := sumTo_nn fun j hj => hR.cap0 j (by omega)
  have e3 : capS n.l (i + 1) = capS n.l i + (arcAt n.l i).cap := rfl
  have := hR.sum
  rw [e] at h0 e3
  unfold in64; omega
section
variable {n : Net} (ao : Option Addr) (cap : Nat) (fo : Option Addr) (fc : Nat) {f : List Int} (w : World) (ck : checkN n = 0) (hr : ARow w ao n.l) (hf : IRow w fo f)
include ck hr hf
theorem chk_ok (hl : f.length = n.l.length) : Calls Try.prog 29 #[encN n ao cap, .slice fo n.l.length fc] w fun e w' => e = .returned (.int .i64 (chkF n f)) ∧ Below w.heap.size w w' := by
  have h := fchk_any n ao cap fo fc f w hr hf (by have := (right_of ck).len; omega) (cap_64 (right_of ck))
  rw [hl] at h; exact h
end
theorem ownL_cell {w : World} {B g n cap : Nat} {l : List Int} (h : OwnL w B (.slice (some ⟨g, 0, none⟩) n cap) l) {i : Nat} (hi : i < l.length) : w.cell? ⟨g, i, none⟩ = some (.int .i64 (amt l i)) ∧ w.frozen? ⟨g, i, none⟩ = false := by
  obtain ⟨g', e, _, _, h1, h2⟩ := own_cells encI_len h (at_amt hi)
  cases e
  exact ⟨by simpa using h1 0 _ rfl, h2 i⟩
theorem ownL_put {w : World} {B g n cap : Nat} {l : List Int} (h : OwnL w B (.slice (some ⟨g, 0, none⟩) n cap) l) {i : Nat} (hi : i < l.length) (y : Int) : OwnL (w.setCell ⟨g, i, none⟩ (.int .i64 y)) B (.slice (some ⟨g, 0, none⟩) n cap) (l.set i y) := by
  have := own_put encI_len h (at_amt hi) (j := 0) (by decide) (u := .int .i64 y) (y := y) rfl
  simpa using this
theorem irow_ofL' {w : World} {B n c : Nat} {o : Option Addr} {l : List Int} (h : OwnL w B (.slice o n c) l) : IRow w o l := by
  obtain ⟨ao, cap, h1, _, _, _, h5, _⟩ := Rw.own_row encI_len h
  simp only [Value.slice.injEq] at h1
  obtain ⟨rfl, _, rfl⟩ := h1
  exact h5
theorem ownL_row' {w : World} {B : Nat} {v : Value} {l : List Int} (h : OwnL w B v l) (h0 : 0 < l.length) : ∃ g c, v = .slice (some ⟨g, 0, none⟩) l.length c ∧ B ≤ g ∧ g < w.heap.size := by
  obtain ⟨ao, cap, h1, _, _, _, h5, h6, h7⟩ := Rw.own_row encI_len h
  rcases h5 with h | ⟨b, off, rfl, _, _⟩
  · rw [h] at h0; simp at h0
  · obtain ⟨b', e⟩ := h7 _ rfl
    cases e
    exact ⟨b, cap, h1, (h6 b 0 rfl).1, (h6 b 0 rfl).2⟩
end Ne
end Go.Proofs.Ytkeojkddbannpaa
