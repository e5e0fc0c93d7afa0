/-
  Stage 9: splay trees, plainly: a node brought to the root step by step keeps the order of all items, and what it costs is paid by the trees' potential (floors of logarithms). No condition.
-/
import Derived.Test.YtjhodnpmogkmmaaSpm
namespace Go.Proofs.Ytjhodnpmogkmmaa
set_option linter.unusedVariables false
set_option linter.unusedSimpArgs false
namespace St
inductive Tr where
  | nil
  | node (l : Tr) (x : Nat) (r : Tr)
/-- what is above a node: it is a left child of p, or a right one -/
inductive Fr where
  | L (p : Nat) (r : Tr)
  | R (l : Tr) (p : Nat)
def size : Tr → Nat
  | .nil => 0
  | .node l _ r => size l + size r + 1
def items : Tr → List Nat
  | .nil => []
  | .node l x r => items l ++ x :: items r
def rk (t : Tr) : Nat := (size t).log2
/-- the potential -/
def pot : Tr → Nat
  | .nil => 0
  | .node l x r => rk (.node l x r) + pot l + pot r
def up (f : Fr) (t : Tr) : Tr := match f with | .L p r => .node t p r | .R l p => .node l p t
def plug : List Fr → Tr → Tr
  | [], t => t
  | f :: fs, t => plug fs (up f t)
/-- a node between A and B brought to the root -/
def spl : Tr → Nat → Tr → List Fr → Tr × Tr
  | A, _, B, [] => (A, B)
  | A, _, B, [.L p C] => (A, .node B p C)
  | A, _, B, [.R C p] => (.node C p A, B)
  | A, x, B, .L p C :: .L g D :: fs => spl A x (.node B p (.node C g D)) fs
  | A, x, B, .R C p :: .R D g :: fs => spl (.node (.node D g C) p A) x B fs
  | A, x, B, .L p C :: .R D g :: fs => spl (.node D g A) x (.node B p C) fs
  | A, x, B, .R C p :: .L g D :: fs => spl (.node C p A) x (.node B g D) fs
def top (A : Tr) (x : Nat) (B : Tr) (fs : List Fr) : Tr := .node (spl A x B fs).1 x (spl A x B fs).2
theorem size_items (t : Tr) : size t = (items t).length := by
  induction t with
  | nil => rfl
  | node l x r ihl ihr => simp only [size, items, List.length_append, List.length_cons, ihl, ihr]; omega
theorem items_plug {u v : Tr} (h : items u = items v) : ∀ fs, items (plug fs u) = items (plug fs v) := by
  intro fs
  induction fs generalizing u v with
  | nil => exact h
  | cons f fs ih => exact ih (by cases f <;> simp [up, items, h])
theorem size_plug {u v : Tr} (h : size u = size v) : ∀ fs, size (plug fs u) = size (plug fs v) := by
  intro fs
  induction fs generalizing u v with
  | nil => exact h
  | cons f fs ih => exact ih (by cases f <;> simp [up, size, h])
theorem size_le_plug (u : Tr) : ∀ fs, size u ≤ size (plug fs u) := by
  intro fs
  induction fs generalizing u with
  | nil => exact Nat.le_refl _
  | cons f fs ih => exact Nat.le_trans (by cases f <;> simp [up, size] <;> omega) (ih (up f u))
theorem pot_plug {u v : Tr} (h : size u = size v) : ∀ fs, pot (plug fs u) + pot v = pot (plug fs v) + pot u := by
  intro fs
  induction fs generalizing u v with
  | nil => exact Nat.add_comm _ _
  | cons f fs ih =>
    have hs : size (up f u) = size (up f v) := by cases f <;> simp [up, size, h]
    have h1 := ih hs
    have hr : rk (up f u) = rk (up f v) := by unfold rk; rw [hs]
    show pot (plug fs (up f u)) + pot v = pot (plug fs (up f v)) + pot u
    cases f with
    | L p r =>
      have e1 : pot (up (.L p r) u) = rk (up (.L p r) u) + pot u + pot r := rfl
      have e2 : pot (up (.L p r) v) = rk (up (.L p r) v) + pot v + pot r := rfl
      omega
    | R l p =>
      have e1 : pot (up (.R l p) u) = rk (up (.R l p) u) + pot l + pot u := rfl
      have e2 : pot (up (.R l p) v) = rk (up (.R l p) v) + pot l + pot v := rfl
      omega
theorem items_top (A : Tr) (x : Nat) (B : Tr) : ∀ fs, items (top A x B fs) = items (plug fs (.node A x B)) := by
  intro fs
  unfold top
  fun_induction spl A x B fs with
  | case1 A x B => rfl
  | case2 A x B p C => simp [plug, up, items]
  | case3 A x B C p => simp [plug, up, items]
  | case4 A x B p C g D fs ih => rw [ih]; exact items_plug (by simp [up, items]) fs
  | case5 A x B C p D g fs ih => rw [ih]; exact items_plug (by simp [up, items]) fs
  | case6 A x B p C D g fs ih => rw [ih]; exact items_plug (by simp [up, items]) fs
  | case7 A x B C p g D fs ih => rw [ih]; exact items_plug (by simp [up, items]) fs
theorem size_top (A : Tr) (x : Nat) (B : Tr) (fs : List Fr) : size (top A x B fs) = size (plug fs (.node A x B)) := by rw [size_items, size_items, items_top]
theorem log_mono {a b : Nat} (h : a ≤ b) : a.log2 ≤ b.log2 := by
  by_cases ha : a = 0
  · subst ha; simp
  · exact (Nat.le_log2 (by omega)).2 (Nat.le_trans (Nat.log2_self_le ha) h)
/-- two that are together less: their floors are less than twice the whole's -/
theorem log_two {a b c : Nat} (ha : 1 ≤ a) (hb : 1 ≤ b) (h : a + b < c) : a.log2 + b.log2 + 1 ≤ 2 * c.log2 := by
  have key : ∀ {a b c : Nat}, 1 ≤ a → 1 ≤ b → a + b < c → a.log2 ≤ b.log2 → a.log2 + b.log2 + 1 ≤ 2 * c.log2 := by
    intro a b c ha hb h hab
    have h1 : b.log2 ≤ c.log2 := log_mono (a := b) (b := c) (by omega)
    by_cases e : b.log2 = c.log2
    · have h2 := Nat.log2_self_le (n := b) (by omega)
      have h3 : c < 2 ^ (c.log2 + 1) := Nat.lt_log2_self
      rw [e] at h2
      rw [Nat.pow_succ] at h3
      have h4 : a.log2 < c.log2 := (Nat.log2_lt (by omega)).2 (by omega)
      omega
    · omega
  rcases Nat.le_total a.log2 b.log2 with c1 | c1
  · exact key ha hb h c1
  · have := key (a := b) (b := a) (c := c) hb ha (by omega) c1
    omega
theorem rk_le {t u : Tr} (h : size t ≤ size u) : rk t ≤ rk u := log_mono h
theorem rk_two {t u v : Tr} (ht : 1 ≤ size t) (hu : 1 ≤ size u) (h : size t + size u < size v) : rk t + rk u + 1 ≤ 2 * rk v := log_two ht hu h
theorem rk_eq {t u : Tr} (h : size t = size u) : rk t = rk u := by unfold rk; rw [h]
/-- one step of two: what it costs -/
theorem zigzig_l (A : Tr) (x : Nat) (B : Tr) (p : Nat) (C : Tr) (g : Nat) (D : Tr) :
    pot (.node A x (.node B p (.node C g D))) + 3 * rk (.node A x B) + 1 ≤ pot (.node (.node (.node A x B) p C) g D) + 3 * rk (.node A x (.node B p (.node C g D))) := by
  have e := rk_eq (t := .node A x (.node B p (.node C g D))) (u := .node (.node (.node A x B) p C) g D) (by simp only [size]; omega)
  have h1 := rk_le (t := .node B p (.node C g D)) (u := .node A x (.node B p (.node C g D))) (by simp only [size]; omega)
  have h2 := rk_le (t := .node A x B) (u := .node (.node A x B) p C) (by simp only [size]; omega)
  have h3 := rk_two (t := .node C g D) (u := .node A x B) (v := .node A x (.node B p (.node C g D))) (by simp only [size]; omega) (by simp only [size]; omega) (by simp only [size]; omega)
  simp only [pot]
  omega
theorem zigzig_r (A : Tr) (x : Nat) (B C : Tr) (p : Nat) (D : Tr) (g : Nat) :
    pot (.node (.node (.node D g C) p A) x B) + 3 * rk (.node A x B) + 1 ≤ pot (.node D g (.node C p (.node A x B))) + 3 * rk (.node (.node (.node D g C) p A) x B) := by
  have e := rk_eq (t := .node (.node (.node D g C) p A) x B) (u := .node D g (.node C p (.node A x B))) (by simp only [size]; omega)
  have h1 := rk_le (t := .node (.node D g C) p A) (u := .node (.node (.node D g C) p A) x B) (by simp only [size]; omega)
  have h2 := rk_le (t := .node A x B) (u := .node C p (.node A x B)) (by simp only [size]; omega)
  have h3 := rk_two (t := .node D g C) (u := .node A x B) (v := .node (.node (.node D g C) p A) x B) (by simp only [size]; omega) (by simp only [size]; omega) (by simp only [size]; omega)
  simp only [pot]
  omega
theorem zigzag_l (A : Tr) (x : Nat) (B : Tr) (p : Nat) (C D : Tr) (g : Nat) :
    pot (.node (.node D g A) x (.node B p C)) + 3 * rk (.node A x B) + 1 ≤ pot (.node D g (.node (.node A x B) p C)) + 3 * rk (.node (.node D g A) x (.node B p C)) := by
  have e := rk_eq (t := .node (.node D g A) x (.node B p C)) (u := .node D g (.node (.node A x B) p C)) (by simp only [size]; omega)
  have h0 := rk_le (t := .node A x B) (u := .node (.node D g A) x (.node B p C)) (by simp only [size]; omega)
  have h2 := rk_le (t := .node A x B) (u := .node (.node A x B) p C) (by simp only [size]; omega)
  have h3 := rk_two (t := .node D g A) (u := .node B p C) (v := .node (.node D g A) x (.node B p C)) (by simp only [size]; omega) (by simp only [size]; omega) (by simp only [size]; omega)
  simp only [pot]
  omega
theorem zigzag_r (A : Tr) (x : Nat) (B C : Tr) (p g : Nat) (D : Tr) :
    pot (.node (.node C p A) x (.node B g D)) + 3 * rk (.node A x B) + 1 ≤ pot (.node (.node C p (.node A x B)) g D) + 3 * rk (.node (.node C p A) x (.node B g D)) := by
  have e := rk_eq (t := .node (.node C p A) x (.node B g D)) (u := .node (.node C p (.node A x B)) g D) (by simp only [size]; omega)
  have h0 := rk_le (t := .node A x B) (u := .node (.node C p A) x (.node B g D)) (by simp only [size]; omega)
  have h2 := rk_le (t := .node A x B) (u := .node C p (.node A x B)) (by simp only [size]; omega)
  have h3 := rk_two (t := .node C p A) (u := .node B g D) (v := .node (.node C p A) x (.node B g D)) (by simp only [size]; omega) (by simp only [size]; omega) (by simp only [size]; omega)
  simp only [pot]
  omega
theorem step_all {G t' : Tr} {fs : List Fr} {P r0 k : Nat} (hs : size t' = size G) (hl : pot t' + 3 * r0 + 1 ≤ pot G + 3 * rk t') (ih : P + 3 * rk t' + k ≤ pot (plug fs t') + 3 * rk (plug fs t') + 1) : P + 3 * r0 + (k + 1) ≤ pot (plug fs G) + 3 * rk (plug fs G) + 1 := by
  have h1 := pot_plug hs fs
  have h2 := rk_eq (size_plug hs fs)
  omega
/-- the whole way to the root: half as many steps as nodes above are paid -/
theorem pot_top (A : Tr) (x : Nat) (B : Tr) : ∀ fs : List Fr, pot (top A x B fs) + 3 * rk (.node A x B) + fs.length / 2 ≤ pot (plug fs (.node A x B)) + 3 * rk (plug fs (.node A x B)) + 1 := by
  intro fs
  unfold top
  fun_induction spl A x B fs with
  | case1 A x B => simp [plug]
  | case2 A x B p C =>
    have e := rk_eq (t := .node A x (.node B p C)) (u := .node (.node A x B) p C) (by simp only [size]; omega)
    have h1 := rk_le (t := .node B p C) (u := .node A x (.node B p C)) (by simp only [size]; omega)
    have h2 := rk_le (t := .node A x B) (u := .node (.node A x B) p C) (by simp only [size]; omega)
    simp only [plug, up, pot, List.length_cons, List.length_nil]
    omega
  | case3 A x B C p =>
    have e := rk_eq (t := .node (.node C p A) x B) (u := .node C p (.node A x B)) (by simp only [size]; omega)
    have h1 := rk_le (t := .node C p A) (u := .node (.node C p A) x B) (by simp only [size]; omega)
    have h2 := rk_le (t := .node A x B) (u := .node C p (.node A x B)) (by simp only [size]; omega)
    simp only [plug, up, pot, List.length_cons, List.length_nil]
    omega
  | case4 A x B p C g D fs ih =>
    have h := step_all (G := .node (.node (.node A x B) p C) g D) (by simp only [size]; omega) (zigzig_l A x B p C g D) ih
    have e : (Fr.L p C :: Fr.L g D :: fs).length / 2 = fs.length / 2 + 1 := by simp only [List.length_cons]; omega
    rw [e]; exact h
  | case5 A x B C p D g fs ih =>
    have h := step_all (G := .node D g (.node C p (.node A x B))) (by simp only [size]; omega) (zigzig_r A x B C p D g) ih
    have e : (Fr.R C p :: Fr.R D g :: fs).length / 2 = fs.length / 2 + 1 := by simp only [List.length_cons]; omega
    rw [e]; exact h
  | case6 A x B p C D g fs ih =>
    have h := step_all (G := .node D g (.node (.node A x B) p C)) (by simp only [size]; omega) (zigzag_l A x B p C D g) ih
    have e : (Fr.L p C :: Fr.R D g :: fs).length / 2 = fs.length / 2 + 1 := by simp only [List.length_cons]; omega
    rw [e]; exact h
  | case7 A x B C p g D fs ih =>
    have h := step_all (G := .node (.node C p (.node A x B)) g D) (by simp only [size]; omega) (zigzag_r A x B C p g D) ih
    have e : (Fr.R C p :: Fr.L g D :: fs).length / 2 = fs.length / 2 + 1 := by simp only [List.length_cons]; omega
    rw [e]; exact h
end St
end Go.Proofs.Ytjhodnpmogkmmaa
