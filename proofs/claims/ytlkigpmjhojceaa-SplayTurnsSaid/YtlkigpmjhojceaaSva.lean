/-
  Stage 9: knots of the developers' splay trees, plainly: what hangs on what, which items stand below each knot in which order, what waits. No condition.
-/
import Derived.Test.YtlkigpmjhojceaaSpt
namespace Go.Proofs.Ytlkigpmjhojceaa
set_option linter.unusedVariables false
set_option linter.unusedSimpArgs false
namespace Sv
/-- a knot -/
structure Nd where
  v : Int
  lo : Int
  hi : Int
  c : Nat
  up : Option Nat
  b : Bool → Option Nat
  t : Bool
  a : Int
abbrev wr (x : Int) : Int := RowKit.wrap64 x
theorem wr_eq (x : Int) : wr x = (x + 9223372036854775808) % 18446744073709551616 - 9223372036854775808 := by show RowKit.wrap64 x = _; unfold RowKit.wrap64; rfl
theorem wr_zero : wr (0 + 0) = 0 := by rw [wr_eq]; decide
def upd (M : Nat → Nd) (x : Nat) (k : Nd) : Nat → Nd := fun y => if y = x then k else M y
theorem upd_self (M : Nat → Nd) (x : Nat) (k : Nd) : upd M x k x = k := by simp [upd]
theorem upd_ne (M : Nat → Nd) {x y : Nat} (k : Nd) (h : y ≠ x) : upd M x k y = M y := by simp [upd, h]
def setb (b : Bool → Option Nat) (s : Bool) (w : Option Nat) : Bool → Option Nat := fun s' => if s' = s then w else b s'
/-- the items below a knot, or none -/
def IL (I : Nat → List Nat) : Option Nat → List Nat
  | none => []
  | some y => I y
def IsMin (V : Nat → Int) (l : List Nat) (m : Int) : Prop := (∃ y ∈ l, V y = m) ∧ ∀ y ∈ l, m ≤ V y
def IsMax (V : Nat → Int) (l : List Nat) (m : Int) : Prop := (∃ y ∈ l, V y = m) ∧ ∀ y ∈ l, V y ≤ m
/-- what stands ahead of a knot, and behind it -/
def sd (M : Nat → Nd) (P : Nat → Bool) (x : Nat) : Bool := P x != (M x).t
/-- the knots: I tells the items below each, P whether a turn waits above, D what is to be added; Z are those whose sums are not told -/
structure Inv (n : Nat) (V : Nat → Int) (r : Nat → List Nat) (Z : Nat → Prop) (M : Nat → Nd) (I : Nat → List Nat) (P : Nat → Bool) (D : Nat → Int) : Prop where
  ch : ∀ x s y, x < n → (M x).b s = some y → y < n ∧ (M y).up = some x ∧ P y = sd M P x ∧ D y = wr (D x + (M x).a)
  par : ∀ x u, x < n → (M x).up = some u → u < n ∧ ∃ s, (M u).b s = some x
  spl : ∀ x, x < n → I x = IL I ((M x).b (sd M P x)) ++ x :: IL I ((M x).b (!(sd M P x)))
  top : ∀ x, x < n → (M x).up = none → P x = false ∧ D x = 0
  nd : ∀ x, x < n → (I x).Nodup
  lt : ∀ x, x < n → ∀ y ∈ I x, y < n
  val : ∀ x, x < n → (M x).v = wr (V x - D x)
  mn : ∀ x, x < n → ¬ Z x → ∃ m, IsMin V (I x) m ∧ (M x).lo = wr (m - D x)
  mx : ∀ x, x < n → ¬ Z x → ∃ m, IsMax V (I x) m ∧ (M x).hi = wr (m - D x)
  cnt : ∀ x, x < n → ¬ Z x → (M x).c = (I x).length
  row : ∀ x, x < n → (M x).up = none → ∀ y ∈ I x, r y = I x
  bnd : ∀ x, x < n → -4611686018427387904 ≤ V x ∧ V x ≤ 4611686018427387904
/-- nothing waits, at a knot or above it -/
def Clear (M : Nat → Nd) (P : Nat → Bool) (D : Nat → Int) (x : Nat) : Prop := P x = false ∧ D x = 0 ∧ (M x).t = false ∧ (M x).a = 0
/-- so many knots are above -/
inductive Dep (M : Nat → Nd) : Nat → Nat → Prop
  | top {x : Nat} : (M x).up = none → Dep M x 0
  | step {x p k : Nat} : (M x).up = some p → Dep M p k → Dep M x (k + 1)
/-- .. and nothing waits at any -/
inductive Cl (M : Nat → Nd) (P : Nat → Bool) (D : Nat → Int) : Nat → Nat → Prop
  | top {x : Nat} : (M x).up = none → Clear M P D x → Cl M P D x 0
  | step {x p k : Nat} : (M x).up = some p → Clear M P D x → Cl M P D p k → Cl M P D x (k + 1)
def ord (s : Bool) (A : List Nat) (x : Nat) (B : List Nat) : List Nat := if s then B ++ x :: A else A ++ x :: B
section
variable {n : Nat} {V : Nat → Int} {r : Nat → List Nat} {Z : Nat → Prop} {M : Nat → Nd} {I : Nat → List Nat} {P : Nat → Bool} {D : Nat → Int}
theorem Cl.clear {x k : Nat} (h : Cl M P D x k) : Clear M P D x := by cases h <;> assumption
theorem Cl.dep {x k : Nat} (h : Cl M P D x k) : Dep M x k := by
  induction h with
  | top h1 h2 => exact .top h1
  | step h1 h2 h3 ih => exact .step h1 ih
theorem Dep.uniq {x k j : Nat} (h : Dep M x k) (h2 : Dep M x j) : k = j := by
  induction h generalizing j with
  | top h1 => cases h2 with
    | top => rfl
    | step g _ => rw [h1] at g; cases g
  | step h1 h2' ih => cases h2 with
    | top g => rw [h1] at g; cases g
    | step g g2 => rw [h1] at g; cases g; rw [ih g2]
theorem Inv.self (h : Inv n V r Z M I P D) {x : Nat} (hx : x < n) : x ∈ I x := by rw [h.spl x hx]; simp
theorem Inv.two (h : Inv n V r Z M I P D) {x : Nat} (hx : x < n) (s : Bool) : (I x).length = (IL I ((M x).b s)).length + 1 + (IL I ((M x).b (!s))).length := by
  rw [h.spl x hx]
  cases s <;> cases sd M P x <;> simp <;> omega
theorem Inv.below (h : Inv n V r Z M I P D) {x y : Nat} {s : Bool} (hx : x < n) (hy : (M x).b s = some y) : (I y).length < (I x).length := by
  have := h.two hx s
  rw [hy] at this
  simp only [IL] at this
  omega
theorem Inv.sub (h : Inv n V r Z M I P D) {x y : Nat} {s : Bool} (hx : x < n) (hy : (M x).b s = some y) : ∀ z ∈ I y, z ∈ I x := by
  intro z hz
  rw [h.spl x hx]
  by_cases c : s = sd M P x
  · subst c; rw [hy]; simp [IL, hz]
  · have : s = !(sd M P x) := by cases s <;> cases e : sd M P x <;> simp_all
    rw [← this, hy]; simp [IL, hz]
theorem Inv.not_self (h : Inv n V r Z M I P D) {x y : Nat} {s : Bool} (hx : x < n) (hy : (M x).b s = some y) : x ∉ I y := by
  intro c
  have h1 := h.nd x hx
  rw [h.spl x hx] at h1
  by_cases e : s = sd M P x
  · subst e; rw [hy] at h1
    exact (List.nodup_append.1 h1).2.2 x c x (by simp) rfl
  · have : s = !(sd M P x) := by cases s <;> cases e : sd M P x <;> simp_all
    rw [← this, hy] at h1
    have := (List.nodup_append.1 h1).2.1
    simp only [List.nodup_cons] at this
    exact this.1 c
theorem Inv.apart (h : Inv n V r Z M I P D) {x y z : Nat} (hx : x < n) (s : Bool) (hy : (M x).b s = some y) (hz : (M x).b (!s) = some z) : y ≠ z := by
  rintro rfl
  have h1 := h.nd x hx
  rw [h.spl x hx] at h1
  have hyn := (h.ch x s y hx hy).1
  have e1 : (M x).b (sd M P x) = some y := by cases s <;> cases e : sd M P x <;> simp_all
  have e2 : (M x).b (!(sd M P x)) = some y := by cases s <;> cases e : sd M P x <;> simp_all
  rw [e1, e2] at h1
  exact (List.nodup_append.1 h1).2.2 y (h.self hyn) y (List.mem_cons_of_mem _ (h.self hyn)) rfl
theorem Inv.up_len (h : Inv n V r Z M I P D) {x u : Nat} (hx : x < n) (hu : (M x).up = some u) : u < n ∧ (I x).length < (I u).length := by
  obtain ⟨h1, s, h2⟩ := h.par x u hx hu
  exact ⟨h1, h.below h1 h2⟩
theorem Inv.len (h : Inv n V r Z M I P D) {x : Nat} (hx : x < n) : (I x).length ≤ n := Sp.len_le (h.nd x hx) (h.lt x hx)
/-- each knot has so many above, and hangs in the row of its top -/
theorem Inv.climb (h : Inv n V r Z M I P D) {x : Nat} (hx : x < n) : ∃ k, Dep M x k ∧ ∃ z, z < n ∧ (M z).up = none ∧ (∀ y ∈ I x, y ∈ I z) := by
  have key : ∀ (m : Nat) (x : Nat), x < n → n ≤ (I x).length + m → ∃ k, Dep M x k ∧ ∃ z, z < n ∧ (M z).up = none ∧ (∀ y ∈ I x, y ∈ I z) := by
    intro m
    induction m with
    | zero =>
      intro x hx hm
      cases e : (M x).up with
      | none => exact ⟨0, .top e, x, hx, e, fun _ hy => hy⟩
      | some u =>
        have h1 := h.up_len hx e
        have := h.len h1.1
        omega
    | succ m ih =>
      intro x hx hm
      cases e : (M x).up with
      | none => exact ⟨0, .top e, x, hx, e, fun _ hy => hy⟩
      | some u =>
        have h1 := h.up_len hx e
        obtain ⟨k, hk, z, hz, hzt, hsub⟩ := ih u h1.1 (by omega)
        obtain ⟨_, s, h2⟩ := h.par x u hx e
        exact ⟨k + 1, .step e hk, z, hz, hzt, fun y hy => hsub y (h.sub h1.1 h2 y hy)⟩
  exact key n x hx (by omega)
theorem Inv.root_row (h : Inv n V r Z M I P D) {x : Nat} (hx : x < n) (ht : (M x).up = none) : r x = I x := h.row x hx ht x (h.self hx)
/-- knots with more items below that are as they were keep what is above them -/
theorem Cl.frame {M' : Nat → Nd} {x k m : Nat} (h : Cl M P D x k) (hI : Inv n V r Z M I P D) (hx : x < n) (hm : m < (I x).length) (he : ∀ z, z < n → m < (I z).length → (M' z).up = (M z).up ∧ (M' z).t = (M z).t ∧ (M' z).a = (M z).a) : Cl M' P D x k := by
  induction h with
  | @top y h1 h2 =>
    obtain ⟨e1, e2, e3⟩ := he y hx hm
    exact .top (by rw [e1]; exact h1) ⟨h2.1, h2.2.1, by rw [e2]; exact h2.2.2.1, by rw [e3]; exact h2.2.2.2⟩
  | @step y u k h1 h2 h3 ih =>
    obtain ⟨e1, e2, e3⟩ := he y hx hm
    have h4 := hI.up_len hx h1
    exact .step (by rw [e1]; exact h1) ⟨h2.1, h2.2.1, by rw [e2]; exact h2.2.2.1, by rw [e3]; exact h2.2.2.2⟩ (ih h4.1 (by omega))
theorem sd_clear {x : Nat} (h : Clear M P D x) : sd M P x = false := by unfold sd; rw [h.1, h.2.2.1]; rfl
theorem Inv.spl_clear (h : Inv n V r Z M I P D) {x : Nat} (hx : x < n) (hc : Clear M P D x) (s : Bool) : I x = ord s (IL I ((M x).b s)) x (IL I ((M x).b (!s))) := by
  have h1 := h.spl x hx
  rw [sd_clear hc] at h1
  cases s <;> simp [ord] <;> simpa using h1
end
end Sv
end Go.Proofs.Ytlkigpmjhojceaa
