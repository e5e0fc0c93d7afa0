/-
  Stage 9: rows turned, added to, cut and joined at their tops, plainly. No condition.
-/
import Derived.Test.YtlkigpmjhojceaaSvg
namespace Go.Proofs.Ytlkigpmjhojceaa
set_option linter.unusedVariables false
set_option linter.unusedSimpArgs false
namespace Sv
section
variable {n : Nat} {V V' : Nat → Int} {r r' : Nat → List Nat} {M M1 M2 : Nat → Nd} {I : Nat → List Nat} {P : Nat → Bool} {D : Nat → Int}
theorem pot_len {I I' : Nat → List Nat} {k : Nat} (h : ∀ y, y < k → (I' y).length = (I y).length) : pot I' k = pot I k := by
  induction k with
  | zero => rfl
  | succ k ih => simp only [pot]; rw [ih fun y hy => h y (by omega), h k (by omega)]
theorem pot_le {I I' : Nat → List Nat} {k : Nat} (h : ∀ y, y < k → (I' y).length ≤ (I y).length) : pot I' k ≤ pot I k := by
  induction k with
  | zero => exact Nat.le_refl _
  | succ k ih =>
    simp only [pot]
    have h1 := ih fun y hy => h y (by omega)
    have h2 := St.log_mono (h k (by omega))
    omega
theorem Inv.row_eq (h : Inv n V r (fun _ => False) M I P D) {x y : Nat} (hx : x < n) (hy : y < n) : y ∈ r x ↔ r y = r x := by
  obtain ⟨_, _, w, hw, ht, hs⟩ := h.climb hx
  have h2 := h.row w hw ht x (hs x (h.self hx))
  constructor
  · intro c
    rw [h2] at c ⊢
    exact h.row w hw ht y c
  · intro e
    rw [← e]
    exact (h.row_sub hy (h.self hy)).2
/-- a knot and what hangs on it lie in one row -/
theorem Inv.row_kid (h : Inv n V r (fun _ => False) M I P D) {x y z : Nat} {s : Bool} (hx : x < n) (hy : y < n) (hz : (M y).b s = some z) : z ∈ r x ↔ y ∈ r x := by
  have hzn := (h.ch y s z hy hz).1
  have e : r z = r y := (h.row_sub hy (h.sub hy hz z (h.self hzn))).1
  rw [h.row_eq hx hzn, h.row_eq hx hy, e]
theorem Inv.row_in (h : Inv n V r (fun _ => False) M I P D) {x y z : Nat} (hx : x < n) (hy : y < n) (hz : z ∈ I y) : z ∈ r x ↔ y ∈ r x := by
  have hzn := h.lt y hy z hz
  rw [h.row_eq hx hzn, h.row_eq hx hy, (h.row_sub hy hz).1]
theorem min_rev {l : List Nat} {m : Int} (h : IsMin V l m) : IsMin V l.reverse m := by
  obtain ⟨⟨y, hy, e⟩, g⟩ := h
  exact ⟨⟨y, List.mem_reverse.2 hy, e⟩, fun y hy => g y (List.mem_reverse.1 hy)⟩
theorem max_rev {l : List Nat} {m : Int} (h : IsMax V l m) : IsMax V l.reverse m := by
  obtain ⟨⟨y, hy, e⟩, g⟩ := h
  exact ⟨⟨y, List.mem_reverse.2 hy, e⟩, fun y hy => g y (List.mem_reverse.1 hy)⟩
def turnI (r : Nat → List Nat) (x : Nat) (I : Nat → List Nat) : Nat → List Nat := fun y => if y ∈ r x then (I y).reverse else I y
def turnP (r : Nat → List Nat) (x : Nat) (P : Nat → Bool) : Nat → Bool := fun y => if y ∈ r x ∧ y ≠ x then !P y else P y
/-- a row is turned at its top -/
theorem turn_inv (h : Inv n V r (fun _ => False) M I P D) {x : Nat} (hx : x < n) (hu : (M x).up = none) (hr : ∀ y, r' y = if y ∈ r x then (r x).reverse else r y) :
    Inv n V r' (fun _ => False) (upd M x { M x with t := !(M x).t }) (turnI r x I) (turnP r x P) D := by
  have xr := (h.row_sub hx (h.self hx)).2
  have eM : ∀ y, (upd M x { M x with t := !(M x).t } y).b = (M y).b ∧ (upd M x { M x with t := !(M x).t } y).up = (M y).up ∧ (upd M x { M x with t := !(M x).t } y).a = (M y).a ∧ (upd M x { M x with t := !(M x).t } y).v = (M y).v ∧ (upd M x { M x with t := !(M x).t } y).lo = (M y).lo ∧ (upd M x { M x with t := !(M x).t } y).hi = (M y).hi ∧ (upd M x { M x with t := !(M x).t } y).c = (M y).c := fun y => by
    by_cases c : y = x
    · subst c; rw [upd_self]; exact ⟨rfl, rfl, rfl, rfl, rfl, rfl, rfl⟩
    · rw [upd_ne _ _ c]; exact ⟨rfl, rfl, rfl, rfl, rfl, rfl, rfl⟩
  have hsd : ∀ y, sd (upd M x { M x with t := !(M x).t }) (turnP r x P) y = if y ∈ r x then !sd M P y else sd M P y := fun y => by
    unfold sd turnP
    by_cases c : y = x
    · subst c
      rw [upd_self]
      simp only [ne_eq, not_true_eq_false, and_false, if_false, if_pos xr]
      cases P y <;> cases (M y).t <;> rfl
    · rw [upd_ne _ _ c]
      by_cases c2 : y ∈ r x
      · simp only [c2, c, ne_eq, not_false_eq_true, and_self, if_true]
        cases P y <;> cases (M y).t <;> rfl
      · simp [c2]
  have IT : ∀ y, y ∈ r x → turnI r x I y = (I y).reverse := fun y hy => by simp [turnI, hy]
  have IN : ∀ y, y ∉ r x → turnI r x I y = I y := fun y hy => by simp [turnI, hy]
  have ILT : ∀ y s, y < n → y ∈ r x → IL (turnI r x I) ((M y).b s) = (IL I ((M y).b s)).reverse := fun y s hy hyr => by
    cases e : (M y).b s with
    | none => rfl
    | some z => exact IT z ((h.row_kid hx hy e).2 hyr)
  have ILN : ∀ y s, y < n → y ∉ r x → IL (turnI r x I) ((M y).b s) = IL I ((M y).b s) := fun y s hy hyr => by
    cases e : (M y).b s with
    | none => rfl
    | some z => exact IN z (fun c => hyr ((h.row_kid hx hy e).1 c))
  refine ⟨fun y s z hy hz => ?_, fun y u hy hu => ?_, fun y hy => ?_, fun y hy ht => ?_, fun y hy => ?_, fun y hy => ?_, fun y hy => ?_, fun y hy hz => ?_, fun y hy hz => ?_, fun y hy hz => ?_, fun y hy ht => ?_, h.bnd⟩
  · rw [(eM y).1] at hz
    obtain ⟨g1, g2, g3, g4⟩ := h.ch y s z hy hz
    refine ⟨g1, by rw [(eM z).2.1]; exact g2, ?_, by rw [(eM y).2.2.1]; exact g4⟩
    have hzx : z ≠ x := fun e => by subst e; rw [hu] at g2; cases g2
    rw [hsd]
    unfold turnP
    have hk := h.row_kid (x := x) hx hy hz
    by_cases c : y ∈ r x
    · rw [if_pos c, if_pos ⟨hk.2 c, hzx⟩, g3]
    · rw [if_neg c, if_neg (fun e => c (hk.1 e.1)), g3]
  · rw [(eM y).2.1] at hu
    rw [(eM u).1]
    exact h.par y u hy hu
  · rw [hsd, (eM y).1]
    by_cases c : y ∈ r x
    · rw [if_pos c, IT y c, h.spl y hy, ILT y _ hy c, ILT y _ hy c]
      simp
    · rw [if_neg c, IN y c, h.spl y hy, ILN y _ hy c, ILN y _ hy c]
  · rw [(eM y).2.1] at ht
    have := h.top y hy ht
    refine ⟨?_, this.2⟩
    unfold turnP
    rw [if_neg (fun c => h.one_top hx hu c.1 c.2 ht)]
    exact this.1
  · unfold turnI
    split
    · exact List.pairwise_reverse.2 (List.Pairwise.imp (fun h => Ne.symm h) (h.nd y hy))
    · exact h.nd y hy
  · intro z hz
    refine h.lt y hy z ?_
    unfold turnI at hz
    split at hz
    · exact List.mem_reverse.1 hz
    · exact hz
  · rw [(eM y).2.2.2.1]; exact h.val y hy
  · rw [(eM y).2.2.2.2.1]
    obtain ⟨m, h1, h2⟩ := h.mn y hy hz
    refine ⟨m, ?_, h2⟩
    unfold turnI
    split
    · exact min_rev h1
    · exact h1
  · rw [(eM y).2.2.2.2.2.1]
    obtain ⟨m, h1, h2⟩ := h.mx y hy hz
    refine ⟨m, ?_, h2⟩
    unfold turnI
    split
    · exact max_rev h1
    · exact h1
  · rw [(eM y).2.2.2.2.2.2, h.cnt y hy hz]
    unfold turnI
    split <;> simp
  · rw [(eM y).2.1] at ht
    intro z hz
    by_cases c : y ∈ r x
    · have e : y = x := Classical.byContradiction fun e => h.one_top hx hu c e ht
      subst e
      rw [IT y c] at hz ⊢
      have hz2 := List.mem_reverse.1 hz
      rw [hr, if_pos ((h.row_in hx hx hz2).2 c), h.root_row hx hu]
    · rw [IN y c] at hz ⊢
      rw [hr, if_neg (fun e => c ((h.row_in hx hy hz).1 e))]
      exact h.row y hy ht z hz
theorem turn_pot (x k : Nat) : pot (turnI r x I) k = pot I k := pot_len fun y _ => by unfold turnI; split <;> simp
def addD (r : Nat → List Nat) (x : Nat) (D : Nat → Int) (d : Int) : Nat → Int := fun y => if y ∈ r x ∧ y ≠ x then wr (D y + d) else D y
theorem min_plus {l : List Nat} {m d : Int} (h : IsMin V l m) (hV : ∀ y ∈ l, V' y = V y + d) : IsMin V' l (m + d) := by
  obtain ⟨⟨y, hy, e⟩, g⟩ := h
  exact ⟨⟨y, hy, by rw [hV y hy, e]⟩, fun y hy => by rw [hV y hy]; have := g y hy; omega⟩
theorem max_plus {l : List Nat} {m d : Int} (h : IsMax V l m) (hV : ∀ y ∈ l, V' y = V y + d) : IsMax V' l (m + d) := by
  obtain ⟨⟨y, hy, e⟩, g⟩ := h
  exact ⟨⟨y, hy, by rw [hV y hy, e]⟩, fun y hy => by rw [hV y hy]; have := g y hy; omega⟩
theorem min_same {l : List Nat} {m : Int} (h : IsMin V l m) (hV : ∀ y ∈ l, V' y = V y) : IsMin V' l m := by
  have := min_plus (V' := V') (d := 0) h (fun y hy => by rw [hV y hy]; omega)
  simpa using this
theorem max_same {l : List Nat} {m : Int} (h : IsMax V l m) (hV : ∀ y ∈ l, V' y = V y) : IsMax V' l m := by
  have := max_plus (V' := V') (d := 0) h (fun y hy => by rw [hV y hy]; omega)
  simpa using this
/-- a row is added to at its top -/
theorem add_inv (h : Inv n V r (fun _ => False) M I P D) {x : Nat} {d : Int} (hx : x < n) (hu : (M x).up = none) (hV : ∀ y, y < n → V' y = if y ∈ r x then V y + d else V y) (hb : ∀ x, x < n → -4611686018427387904 ≤ V' x ∧ V' x ≤ 4611686018427387904) :
    Inv n V' r (fun _ => False) (upd M x (handN (M x) false d)) I P (addD r x D d) := by
  have xr := (h.row_sub hx (h.self hx)).2
  have hD := (h.top x hx hu).2
  have eM : ∀ y, (upd M x (handN (M x) false d) y).b = (M y).b ∧ (upd M x (handN (M x) false d) y).up = (M y).up ∧ (upd M x (handN (M x) false d) y).t = (M y).t ∧ (upd M x (handN (M x) false d) y).c = (M y).c := fun y => by
    by_cases c : y = x
    · subst c; rw [upd_self]; simp [handN]
    · rw [upd_ne _ _ c]; exact ⟨rfl, rfl, rfl, rfl⟩
  have hsd : ∀ y, sd (upd M x (handN (M x) false d)) P y = sd M P y := fun y => by unfold sd; rw [(eM y).2.2.1]
  have DX : addD r x D d x = 0 := by simp [addD, hD]
  have DT : ∀ y, y ∈ r x → y ≠ x → addD r x D d y = wr (D y + d) := fun y h1 h2 => by simp [addD, h1, h2]
  have DN : ∀ y, y ∉ r x → addD r x D d y = D y := fun y h1 => by simp [addD, h1]
  have VI : ∀ y, y < n → y ∈ r x → ∀ z ∈ I y, V' z = V z + d := fun y hy hyr z hz => by rw [hV z (h.lt y hy z hz), if_pos ((h.row_in hx hy hz).2 hyr)]
  have VN : ∀ y, y < n → y ∉ r x → ∀ z ∈ I y, V' z = V z := fun y hy hyr z hz => by rw [hV z (h.lt y hy z hz), if_neg (fun e => hyr ((h.row_in hx hy hz).1 e))]
  refine ⟨fun y s z hy hz => ?_, fun y u hy hu => ?_, fun y hy => ?_, fun y hy ht => ?_, h.nd, h.lt, fun y hy => ?_, fun y hy hz => ?_, fun y hy hz => ?_, fun y hy hz => ?_, fun y hy ht => ?_, hb⟩
  · rw [(eM y).1] at hz
    obtain ⟨g1, g2, g3, g4⟩ := h.ch y s z hy hz
    refine ⟨g1, by rw [(eM z).2.1]; exact g2, by rw [hsd]; exact g3, ?_⟩
    have hzx : z ≠ x := fun e => by subst e; rw [hu] at g2; cases g2
    have hk := h.row_kid (x := x) hx hy hz
    by_cases c : y ∈ r x
    · rw [DT z (hk.2 c) hzx, g4]
      by_cases c2 : y = x
      · subst c2
        rw [DX, upd_self, hD]
        simp only [handN, wr_eq]; omega
      · rw [DT y c c2, upd_ne _ _ c2]
        simp only [wr_eq]; omega
    · rw [DN z (fun e => c (hk.1 e)), DN y c, upd_ne _ _ (fun e => c (by rw [e]; exact xr))]
      exact g4
  · rw [(eM y).2.1] at hu
    rw [(eM u).1]
    exact h.par y u hy hu
  · rw [hsd, (eM y).1]; exact h.spl y hy
  · rw [(eM y).2.1] at ht
    have := h.top y hy ht
    refine ⟨this.1, ?_⟩
    unfold addD
    rw [if_neg (fun c => h.one_top hx hu c.1 c.2 ht)]
    exact this.2
  · have hv := h.val y hy
    by_cases c : y ∈ r x
    · rw [hV y hy, if_pos c]
      by_cases c2 : y = x
      · subst c2
        rw [DX, upd_self]
        rw [hD] at hv
        simp only [handN]
        rw [hv]; simp only [wr_eq]; omega
      · rw [DT y c c2, upd_ne _ _ c2, hv]
        simp only [wr_eq]; omega
    · rw [hV y hy, if_neg c, DN y c, upd_ne _ _ (fun e => c (by rw [e]; exact xr))]
      exact hv
  · obtain ⟨m, h1, h2⟩ := h.mn y hy hz
    by_cases c : y ∈ r x
    · refine ⟨m + d, min_plus h1 (VI y hy c), ?_⟩
      by_cases c2 : y = x
      · subst c2
        rw [DX, upd_self]
        rw [hD] at h2
        simp only [handN]
        rw [h2]; simp only [wr_eq]; omega
      · rw [DT y c c2, upd_ne _ _ c2, h2]
        simp only [wr_eq]; omega
    · exact ⟨m, min_same h1 (VN y hy c), by rw [DN y c, upd_ne _ _ (fun e => c (by rw [e]; exact xr))]; exact h2⟩
  · obtain ⟨m, h1, h2⟩ := h.mx y hy hz
    by_cases c : y ∈ r x
    · refine ⟨m + d, max_plus h1 (VI y hy c), ?_⟩
      by_cases c2 : y = x
      · subst c2
        rw [DX, upd_self]
        rw [hD] at h2
        simp only [handN]
        rw [h2]; simp only [wr_eq]; omega
      · rw [DT y c c2, upd_ne _ _ c2, h2]
        simp only [wr_eq]; omega
    · exact ⟨m, max_same h1 (VN y hy c), by rw [DN y c, upd_ne _ _ (fun e => c (by rw [e]; exact xr))]; exact h2⟩
  · rw [(eM y).2.2.2]; exact h.cnt y hy hz
  · rw [(eM y).2.1] at ht; exact h.row y hy ht
end
end Sv
end Go.Proofs.Ytlkigpmjhojceaa
