/-
  Stage 9: the three guides of descend: to the end of a row, to a place, to the first of the least ones. No condition.
-/
import Derived.Test.YtlkigpmjhojceaaSvw
namespace Go.Proofs.Ytlkigpmjhojceaa
open Go.ChangeShapes Go.WideShapes Go.ChangeAt Go.RowKit
set_option linter.unusedVariables false
set_option linter.unusedSimpArgs false
namespace Sv
/-- a block's first cell -/
def Bx (w : World) (b : Nat) (v : Value) : Prop := w.cell? ⟨b, 0, none⟩ = some v ∧ b < w.heap.size ∧ w.frozen? ⟨b, 0, none⟩ = false
section
variable {w w2 w0 : World} {B p g n c : Nat} {V : Nat → Int} {r : Nat → List Nat} {M : Nat → Nd} {I : Nat → List Nat} {P : Nat → Bool} {D : Nat → Int}
theorem Bx.off {b : Nat} {v : Value} {F : Nat → Prop} (h : Bx w b v) (ho : Sp.Off F w w2) (hb : ¬ F b) : Bx w2 b v := by
  have e := ho.block b h.2.1 hb
  refine ⟨?_, Nat.lt_of_lt_of_le h.2.1 ho.size, ?_⟩
  · have := h.1
    simp only [World.cell?] at this ⊢
    rw [e]; exact this
  · have := h.2.2
    simp only [World.frozen?] at this ⊢
    rw [e]; exact this
theorem Bx.set {b : Nat} {v u : Value} (h : Bx w b v) : Bx (w.setCell ⟨b, 0, none⟩ u) b u := by
  obtain ⟨h1, h2, h3⟩ := h
  refine ⟨?_, by simpa [World.setCell] using h2, ?_⟩
  · simp only [World.cell?, World.setCell, Array.getElem?_modify] at h1 ⊢
    cases e : w.heap[b]? with
    | none => rw [e] at h1; simp at h1
    | some o =>
      rw [e] at h1
      cases o <;> simp at h1 ⊢
      rename_i cells t z
      have : 0 < cells.size := by
        rcases Nat.eq_zero_or_pos cells.size with c | c
        · rw [Array.getElem?_eq_none (by omega)] at h1; cases h1
        · exact c
      simp [this]
  · simp only [World.frozen?, World.setCell, Array.getElem?_modify] at h3 ⊢
    cases e : w.heap[b]? with
    | none => simp
    | some o =>
      rw [e] at h3
      cases o <;> simp at h3 ⊢
      all_goals exact h3
def endL (s : Bool) (l : List Nat) : Option Nat := if s then l.getLast? else l.head?
/-- to the end -/
def QEnd (p b1 b2 : Nat) (s : Bool) (l : List Nat) (I : Nat → List Nat) (v : Nat) (wa : World) : Prop :=
  Bx wa b1 (.pointer (some ⟨p, 0, none⟩)) ∧ Bx wa b2 (.int .i64 (sz s)) ∧ ∃ t, l = if s then t ++ I v else I v ++ t
set_option maxHeartbeats 1000000 in
theorem guide_end (s : Bool) {top b1 b2 : Nat} (hb1 : b1 ≠ p ∧ b1 ≠ g) (hb2 : b2 ≠ p ∧ b2 ≠ g) :
    Guide (PG p g) B p g n V r I top 63 (.pointer (some ⟨b1, 0, none⟩)) (.pointer (some ⟨b2, 0, none⟩)) (QEnd p b1 b2 s (r top) I) (fun v => endL s (r top) = some v) := by
  refine ⟨fun k hk => hk, fun v wa wb hq ho => ⟨hq.1.off ho (by rintro (e | e); exact hb1.1 e; exact hb1.2 e), hq.2.1.off ho (by rintro (e | e); exact hb2.1 e; exact hb2.2 e), hq.2.2⟩, ?_⟩
  intro v wa M P D cc h hI hc hv hr hq
  obtain ⟨q1, q2, t, ht⟩ := hq
  have hsp := hI.spl_clear hv hc false
  simp only [ord] at hsp
  have hsp' : I v = IL I ((M v).b false) ++ v :: IL I ((M v).b true) := by simpa using hsp
  have HA := Lib.hid (show SpM wa.drew B p g n M cc ∧ Sp.Off (PG p g) wa wa.drew ∧ ((M v).b s = none → endL s (r top) = some v) ∧ ∀ y, (M v).b s = some y → Kid M v y ∧ QEnd p b1 b2 s (r top) I y wa.drew from by
    refine ⟨h.drew, off_drew wa, fun e => ?_, fun y e => ⟨⟨s, e⟩, ⟨q1.1, q1.2.1, q1.2.2⟩, ⟨q2.1, q2.2.1, q2.2.2⟩, ?_⟩⟩
    · rw [ht]
      cases s
      · rw [e] at hsp'
        simp [endL, hsp', IL]
      · rw [e] at hsp'
        simp [endL, hsp', IL]
    · cases s
      · rw [e] at hsp'
        refine ⟨v :: IL I ((M v).b true) ++ t, ?_⟩
        rw [ht, hsp']; simp [IL]
      · rw [e] at hsp'
        refine ⟨t ++ IL I ((M v).b false) ++ [v], ?_⟩
        rw [ht, hsp']; simp [IL])
  have n0 := h.head
  have c1 := q1.1
  have c2 := q2.1
  have hvi : (v : Int) < (n : Int) := by omega
  have hv0 : (0 : Int) ≤ (v : Int) := by omega
  have c5 := h.cells hv 5 _ rfl
  have c6 := h.cells hv 6 _ rfl
  obtain ⟨z0, hz0⟩ : ∃ z, z = oi ((M v).b false) := ⟨_, rfl⟩
  obtain ⟨z1, hz1⟩ : ∃ z, z = oi ((M v).b true) := ⟨_, rfl⟩
  rw [← hz0] at c5
  rw [← hz1] at c6
  have HZ0 := Lib.hid hz0
  have HZ1 := Lib.hid hz1
  clear h hI hc q1 q2 ht hsp hsp' hz0 hz1 hr
  cases s
  all_goals
    simp only [sz] at c2
    go_enter Try.func63, Try.ntmps63
    go_wp2
    go_region
    all_goals (try go_wp2)
    all_goals go_ret
  · exact ⟨(M v).b false, by rw [← HZ0.out]; rfl, HA.out⟩
  · exact ⟨(M v).b true, by rw [← HZ1.out]; rfl, HA.out⟩
end
end Sv
end Go.Proofs.Ytlkigpmjhojceaa
