/-
  Stage 9: a knot is lifted above the one on which it hangs, plainly; sums told anew. No condition.
-/
import Derived.Test.YtlkigpmjhojceaaSvb
namespace Go.Proofs.Ytlkigpmjhojceaa
set_option linter.unusedVariables false
set_option linter.unusedSimpArgs false
namespace Sv
def mnO (M : Nat → Nd) (a : Int) : Option Nat → Int | none => a | some y => min a (M y).lo
def mxO (M : Nat → Nd) (a : Int) : Option Nat → Int | none => a | some y => max a (M y).hi
def cO (M : Nat → Nd) (a : Nat) : Option Nat → Nat | none => a | some y => a + (M y).c
def refN (M : Nat → Nd) (k : Nd) : Nd := { k with lo := mnO M (mnO M k.v (k.b false)) (k.b true), hi := mxO M (mxO M k.v (k.b false)) (k.b true), c := cO M (cO M 1 (k.b false)) (k.b true) }
def refM (M : Nat → Nd) (x : Nat) : Nat → Nd := upd M x (refN M (M x))
section
variable {n : Nat} {V : Nat → Int} {r : Nat → List Nat} {Z : Nat → Prop} {M : Nat → Nd} {I : Nat → List Nat} {P : Nat → Bool} {D : Nat → Int}
theorem wr_id {x : Int} (h : -9223372036854775808 ≤ x ∧ x ≤ 9223372036854775807) : wr x = x := by rw [wr_eq]; omega
theorem Inv.mem (h : Inv n V r Z M I P D) {x : Nat} (hx : x < n) (y : Nat) : y ∈ I x ↔ y = x ∨ y ∈ IL I ((M x).b false) ∨ y ∈ IL I ((M x).b true) := by
  rw [h.spl x hx]
  cases sd M P x <;> simp <;> grind
theorem min_bnd {l : List Nat} {m : Int} (h : IsMin V l m) (hl : ∀ y ∈ l, y < n) (hb : ∀ x, x < n → -4611686018427387904 ≤ V x ∧ V x ≤ 4611686018427387904) : -4611686018427387904 ≤ m ∧ m ≤ 4611686018427387904 := by
  obtain ⟨⟨y, hy, rfl⟩, _⟩ := h
  exact hb y (hl y hy)
theorem max_bnd {l : List Nat} {m : Int} (h : IsMax V l m) (hl : ∀ y ∈ l, y < n) (hb : ∀ x, x < n → -4611686018427387904 ≤ V x ∧ V x ≤ 4611686018427387904) : -4611686018427387904 ≤ m ∧ m ≤ 4611686018427387904 := by
  obtain ⟨⟨y, hy, rfl⟩, _⟩ := h
  exact hb y (hl y hy)
/-- where nothing waits the sums are the values' own -/
theorem Inv.lo_at (h : Inv n V r Z M I P D) {x : Nat} (hx : x < n) (hz : ¬ Z x) (hD : D x = 0) : IsMin V (I x) (M x).lo := by
  obtain ⟨m, h1, h2⟩ := h.mn x hx hz
  rw [hD, Int.sub_zero, wr_id (by have := min_bnd h1 (h.lt x hx) h.bnd; omega)] at h2
  rw [h2]; exact h1
theorem Inv.hi_at (h : Inv n V r Z M I P D) {x : Nat} (hx : x < n) (hz : ¬ Z x) (hD : D x = 0) : IsMax V (I x) (M x).hi := by
  obtain ⟨m, h1, h2⟩ := h.mx x hx hz
  rw [hD, Int.sub_zero, wr_id (by have := max_bnd h1 (h.lt x hx) h.bnd; omega)] at h2
  rw [h2]; exact h1
theorem Inv.v_at (h : Inv n V r Z M I P D) {x : Nat} (hx : x < n) (hD : D x = 0) : (M x).v = V x := by
  rw [h.val x hx, hD, Int.sub_zero, wr_id (by have := h.bnd x hx; omega)]
theorem min_add {l l2 : List Nat} {a : Int} {w : Option Nat} (h1 : IsMin V l a) (h2 : ∀ y, w = some y → IsMin V (I y) (M y).lo) (h3 : ∀ y, y ∈ l2 ↔ y ∈ l ∨ y ∈ IL I w) : IsMin V l2 (mnO M a w) := by
  cases w with
  | none =>
    obtain ⟨⟨y, hy, e⟩, g⟩ := h1
    exact ⟨⟨y, (h3 y).2 (.inl hy), e⟩, fun z hz => by rcases (h3 z).1 hz with c | c; exact g z c; simp [IL] at c⟩
  | some u =>
    obtain ⟨⟨y, hy, e⟩, g⟩ := h1
    obtain ⟨⟨y', hy', e'⟩, g'⟩ := h2 u rfl
    simp only [mnO]
    refine ⟨?_, fun z hz => ?_⟩
    · by_cases c : a ≤ (M u).lo
      · exact ⟨y, (h3 y).2 (.inl hy), by omega⟩
      · exact ⟨y', (h3 y').2 (.inr hy'), by omega⟩
    · rcases (h3 z).1 hz with c | c
      · have := g z c; omega
      · have := g' z c; omega
theorem max_add {l l2 : List Nat} {a : Int} {w : Option Nat} (h1 : IsMax V l a) (h2 : ∀ y, w = some y → IsMax V (I y) (M y).hi) (h3 : ∀ y, y ∈ l2 ↔ y ∈ l ∨ y ∈ IL I w) : IsMax V l2 (mxO M a w) := by
  cases w with
  | none =>
    obtain ⟨⟨y, hy, e⟩, g⟩ := h1
    exact ⟨⟨y, (h3 y).2 (.inl hy), e⟩, fun z hz => by rcases (h3 z).1 hz with c | c; exact g z c; simp [IL] at c⟩
  | some u =>
    obtain ⟨⟨y, hy, e⟩, g⟩ := h1
    obtain ⟨⟨y', hy', e'⟩, g'⟩ := h2 u rfl
    simp only [mxO]
    refine ⟨?_, fun z hz => ?_⟩
    · by_cases c : (M u).hi ≤ a
      · exact ⟨y, (h3 y).2 (.inl hy), by omega⟩
      · exact ⟨y', (h3 y').2 (.inr hy'), by omega⟩
    · rcases (h3 z).1 hz with c | c
      · have := g z c; omega
      · have := g' z c; omega
theorem refM_other {x y : Nat} (h : y ≠ x) : refM M x y = M y := upd_ne _ _ h
theorem refM_self (x : Nat) : refM M x x = refN M (M x) := upd_self _ _ _
theorem refM_same (x y : Nat) : (refM M x y).b = (M y).b ∧ (refM M x y).up = (M y).up ∧ (refM M x y).t = (M y).t ∧ (refM M x y).a = (M y).a ∧ (refM M x y).v = (M y).v := by
  by_cases c : y = x
  · subst c; rw [refM_self]; exact ⟨rfl, rfl, rfl, rfl, rfl⟩
  · rw [refM_other c]; exact ⟨rfl, rfl, rfl, rfl, rfl⟩
/-- the sums of a knot told anew -/
theorem refM_inv (h : Inv n V r Z M I P D) {x : Nat} (hx : x < n) (hD : D x = 0) (ha : (M x).a = 0) (hZ : ∀ s y, (M x).b s = some y → ¬ Z y) : Inv n V r (fun y => Z y ∧ y ≠ x) (refM M x) I P D := by
  have hs : ∀ y, sd (refM M x) P y = sd M P y := fun y => by unfold sd; rw [(refM_same x y).2.2.1]
  have hc : ∀ s y, (M x).b s = some y → y < n ∧ D y = 0 ∧ ¬ Z y := fun s y hy => by
    obtain ⟨h1, _, _, h4⟩ := h.ch x s y hx hy
    refine ⟨h1, by rw [h4, hD, ha]; exact wr_zero, hZ s y hy⟩
  have hmem := h.mem hx
  refine ⟨fun y s z hy hz => ?_, fun y u hy hu => ?_, fun y hy => ?_, fun y hy ht => ?_, h.nd, h.lt, fun y hy => ?_, fun y hy hz => ?_, fun y hy hz => ?_, fun y hy hz => ?_, fun y hy ht => ?_, h.bnd⟩
  · obtain ⟨e1, _, _, e4, _⟩ := refM_same (M := M) x y
    rw [e1] at hz
    rw [hs, e4, (refM_same x z).2.1]
    exact h.ch y s z hy hz
  · rw [(refM_same x y).2.1] at hu
    rw [(refM_same x u).1]
    exact h.par y u hy hu
  · rw [hs, (refM_same x y).1]; exact h.spl y hy
  · rw [(refM_same x y).2.1] at ht; exact h.top y hy ht
  · rw [(refM_same x y).2.2.2.2]; exact h.val y hy
  · by_cases c : y = x
    · subst c
      rw [refM_self, hD]
      have h0 : IsMin V [y] (M y).v := by rw [h.v_at hy hD]; exact ⟨⟨y, by simp, rfl⟩, by simp⟩
      have h1 : IsMin V (y :: IL I ((M y).b false)) (mnO M (M y).v ((M y).b false)) := min_add (I := I) h0 (fun z hz2 => by obtain ⟨g1, g2, g3⟩ := hc _ z hz2; exact h.lo_at g1 g3 g2) (by simp)
      have h2 : IsMin V (I y) (mnO M (mnO M (M y).v ((M y).b false)) ((M y).b true)) := min_add (I := I) h1 (fun z hz2 => by obtain ⟨g1, g2, g3⟩ := hc _ z hz2; exact h.lo_at g1 g3 g2) (fun z => by rw [hmem]; simp only [List.mem_cons]; grind)
      exact ⟨_, h2, by rw [Int.sub_zero, wr_id (by have := min_bnd h2 (h.lt y hy) h.bnd; omega)]; rfl⟩
    · rw [refM_other c]; exact h.mn y hy fun z => hz ⟨z, c⟩
  · by_cases c : y = x
    · subst c
      rw [refM_self, hD]
      have h0 : IsMax V [y] (M y).v := by rw [h.v_at hy hD]; exact ⟨⟨y, by simp, rfl⟩, by simp⟩
      have h1 : IsMax V (y :: IL I ((M y).b false)) (mxO M (M y).v ((M y).b false)) := max_add (I := I) h0 (fun z hz2 => by obtain ⟨g1, g2, g3⟩ := hc _ z hz2; exact h.hi_at g1 g3 g2) (by simp)
      have h2 : IsMax V (I y) (mxO M (mxO M (M y).v ((M y).b false)) ((M y).b true)) := max_add (I := I) h1 (fun z hz2 => by obtain ⟨g1, g2, g3⟩ := hc _ z hz2; exact h.hi_at g1 g3 g2) (fun z => by rw [hmem]; simp only [List.mem_cons]; grind)
      exact ⟨_, h2, by rw [Int.sub_zero, wr_id (by have := max_bnd h2 (h.lt y hy) h.bnd; omega)]; rfl⟩
    · rw [refM_other c]; exact h.mx y hy fun z => hz ⟨z, c⟩
  · by_cases c : y = x
    · subst c
      rw [refM_self, h.two hy false]
      have g : ∀ s a, cO M a ((M y).b s) = a + (IL I ((M y).b s)).length := fun s a => by
        cases e : (M y).b s with
        | none => rfl
        | some z => simp only [cO, IL]; rw [h.cnt z (hc s z e).1 (hc s z e).2.2]
      simp only [refN, g, Bool.not_false]
      omega
    · rw [refM_other c]; exact h.cnt y hy fun z => hz ⟨z, c⟩
  · rw [(refM_same x y).2.1] at ht; exact h.row y hy ht
/-- a knot lifted: what hangs on what -/
def rotL (M : Nat → Nd) (x p : Nat) (s sp : Bool) : Nat → Nd := fun y =>
  if y = x then { M x with up := (M p).up, b := setb (M x).b (!s) (some p) }
  else if y = p then { M p with up := some x, b := setb (M p).b s ((M x).b (!s)) }
  else if (M x).b (!s) = some y then { M y with up := some p }
  else if (M p).up = some y then { M y with b := setb (M y).b sp (some x) }
  else M y
def rotI (M : Nat → Nd) (I : Nat → List Nat) (x p : Nat) (s : Bool) : Nat → List Nat := fun y =>
  if y = x then I p else if y = p then ord s (IL I ((M x).b (!s))) p (IL I ((M p).b (!s))) else I y
theorem rotL_same (M : Nat → Nd) (x p : Nat) (s sp : Bool) (y : Nat) : (rotL M x p s sp y).t = (M y).t ∧ (rotL M x p s sp y).a = (M y).a ∧ (rotL M x p s sp y).v = (M y).v ∧ (rotL M x p s sp y).lo = (M y).lo ∧ (rotL M x p s sp y).hi = (M y).hi ∧ (rotL M x p s sp y).c = (M y).c := by
  unfold rotL
  by_cases c1 : y = x
  · subst c1; simp
  · rw [if_neg c1]
    by_cases c2 : y = p
    · subst c2; simp
    · rw [if_neg c2]
      split <;> (try split) <;> simp
theorem setb_self (b : Bool → Option Nat) (s : Bool) (w : Option Nat) : setb b s w s = w := by simp [setb]
theorem setb_ne (b : Bool → Option Nat) {s s' : Bool} (w : Option Nat) (h : s' ≠ s) : setb b s w s' = b s' := by simp [setb, h]
end
end Sv
end Go.Proofs.Ytlkigpmjhojceaa
