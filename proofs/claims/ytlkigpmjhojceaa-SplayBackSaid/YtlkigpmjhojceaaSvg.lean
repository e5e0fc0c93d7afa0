/-
  Stage 9: what lies in a row, and what stays of the others, plainly. No condition.
-/
import Derived.Test.YtlkigpmjhojceaaSvf
namespace Go.Proofs.Ytlkigpmjhojceaa
set_option linter.unusedVariables false
set_option linter.unusedSimpArgs false
namespace Sv
section
variable {n : Nat} {V : Nat → Int} {r : Nat → List Nat} {Z : Nat → Prop} {M M1 M2 : Nat → Nd} {I : Nat → List Nat} {P : Nat → Bool} {D : Nat → Int}
theorem Inv.row_sub (h : Inv n V r Z M I P D) {x y : Nat} (hx : x < n) (hy : y ∈ I x) : r y = r x ∧ y ∈ r x := by
  obtain ⟨k, _, z, hz, ht, hs⟩ := h.climb hx
  have h1 := h.row z hz ht y (hs y hy)
  have h2 := h.row z hz ht x (hs x (h.self hx))
  exact ⟨h1.trans h2.symm, by rw [h2]; exact hs y hy⟩
theorem Inv.row_up (h : Inv n V r Z M I P D) {x u : Nat} (hu : u < n) (hx : x ∈ I u) : u ∈ r x := by
  obtain ⟨k, _, z, hz, ht, hs⟩ := h.climb hu
  rw [h.row z hz ht x (hs x hx)]
  exact hs u (h.self hu)
/-- all but a row is as it was -/
def Rest (n : Nat) (r : Nat → List Nat) (x : Nat) (M M' : Nat → Nd) : Prop := ∀ y, y < n → y ∉ r x → M' y = M y
theorem Rest.refl (x : Nat) : Rest n r x M M := fun _ _ _ => rfl
theorem Rest.trans {x : Nat} (h : Rest n r x M M1) (k : Rest n r x M1 M2) : Rest n r x M M2 := fun y h1 h2 => (k y h1 h2).trans (h y h1 h2)
theorem Rest.row {x z : Nat} (h : Rest n r x M M1) (e : r x = r z) : Rest n r z M M1 := fun y h1 h2 => h y h1 (by rw [e]; exact h2)
theorem setM_rest (h : Inv n V r Z M I P D) {x : Nat} (hx : x < n) : Rest n r x M (setM M x) := fun y hy hn => by
  refine setM_o (fun e => hn ?_) (fun c => hn ?_)
  · rw [e]; exact (h.row_sub hx (h.self hx)).2
  · obtain ⟨s, hs⟩ := hangs_some c
    exact (h.row_sub hx (h.sub hx hs y (h.self hy))).2
theorem rotM_rest (h : Inv n V r Z M I P D) {x p : Nat} {s sp : Bool} (hx : x < n) (hp : (M x).up = some p) (hs : (M p).b s = some x) : Rest n r x M (rotM M x p s sp) := fun y hy hn => by
  have R := rot_facts (sp := sp) h hx hp hs
  have hpn := (h.up_len hx hp).1
  have hxp : x ∈ I p := h.sub hpn hs x (h.self hx)
  have n1 : y ≠ x := fun e => hn (by rw [e]; exact (h.row_sub hx (h.self hx)).2)
  have n2 : y ≠ p := fun e => hn (by rw [e]; exact h.row_up hpn hxp)
  have n3 : (M x).b (!s) ≠ some y := fun e => hn (h.row_sub hx (h.sub hx e y (h.self hy))).2
  have n4 : (M p).up ≠ some y := fun e => hn (by
    obtain ⟨_, s', h2⟩ := h.par p y hpn e
    exact h.row_up hy (h.sub hy h2 x hxp))
  rw [rotM_eq R, refM_other n1, refM_other n2, R.ro y n1 n2 n3 n4]
/-- a knot that is in another's row is that, or hangs on one -/
theorem Inv.anc (h : Inv n V r Z M I P D) : ∀ {m x y : Nat}, (I x).length ≤ m → x < n → y ∈ I x → y = x ∨ (M y).up ≠ none := by
  intro m
  induction m with
  | zero =>
    intro x y hm hx hy
    have := h.two hx false
    omega
  | succ m ih =>
    intro x y hm hx hy
    rcases (h.mem hx y).1 hy with e | e | e
    · exact .inl e
    · cases hc : (M x).b false with
      | none => rw [hc] at e; simp [IL] at e
      | some c =>
        rw [hc] at e
        have e' : y ∈ I c := e
        obtain ⟨g1, g2, _⟩ := h.ch x _ c hx hc
        have g3 := h.below hx hc
        rcases ih (by omega) g1 e' with e2 | e2
        · right; rw [e2, g2]; simp
        · exact .inr e2
    · cases hc : (M x).b true with
      | none => rw [hc] at e; simp [IL] at e
      | some c =>
        rw [hc] at e
        have e' : y ∈ I c := e
        obtain ⟨g1, g2, _⟩ := h.ch x _ c hx hc
        have g3 := h.below hx hc
        rcases ih (by omega) g1 e' with e2 | e2
        · right; rw [e2, g2]; simp
        · exact .inr e2
/-- one top alone in a row -/
theorem Inv.one_top (h : Inv n V r Z M I P D) {a b : Nat} (hb : b < n) (hbt : (M b).up = none) (ha : a ∈ r b) (hne : a ≠ b) : (M a).up ≠ none := by
  rw [h.root_row hb hbt] at ha
  rcases h.anc (Nat.le_refl _) hb ha with e | e
  · exact absurd e hne
  · exact e
end
end Sv
end Go.Proofs.Ytlkigpmjhojceaa
