/-
  Stage 9: what waits at a knot is handed on, plainly. No condition.
-/
import Derived.Test.YtlkigpmjhojceaaSva
namespace Go.Proofs.Ytlkigpmjhojceaa
set_option linter.unusedVariables false
set_option linter.unusedSimpArgs false
namespace Sv
/-- what waits at a knot, at one that hangs on it -/
def handN (k : Nd) (t : Bool) (a : Int) : Nd := { k with v := wr (k.v + a), lo := wr (k.lo + a), hi := wr (k.hi + a), a := wr (k.a + a), t := k.t != t }
def hand (M : Nat → Nd) (w : Option Nat) (t : Bool) (a : Int) : Nat → Nd := match w with | none => M | some y => upd M y (handN (M y) t a)
def swapN (k : Nd) : Nd := { k with b := fun s => k.b (s != k.t) }
def doneN (k : Nd) : Nd := { k with t := false, a := 0 }
/-- what waits at a knot is handed on -/
def setM (M : Nat → Nd) (x : Nat) : Nat → Nd :=
  let M1 := upd M x (swapN (M x))
  let M2 := hand M1 ((M1 x).b false) (M x).t (M x).a
  let M3 := hand M2 ((M1 x).b true) (M x).t (M x).a
  upd M3 x (doneN (M3 x))
def hangs (M : Nat → Nd) (x y : Nat) : Prop := (M x).b false = some y ∨ (M x).b true = some y
instance (M : Nat → Nd) (x y : Nat) : Decidable (hangs M x y) := by unfold hangs; infer_instance
def setP (M : Nat → Nd) (x : Nat) (P : Nat → Bool) : Nat → Bool := fun y => if hangs M x y then false else P y
def setD (M : Nat → Nd) (x : Nat) (D : Nat → Int) : Nat → Int := fun y => if hangs M x y then 0 else D y
section
variable {n : Nat} {V : Nat → Int} {r : Nat → List Nat} {Z : Nat → Prop} {M : Nat → Nd} {I : Nat → List Nat} {P : Nat → Bool} {D : Nat → Int}
theorem hangs_of {M : Nat → Nd} {x y : Nat} {s : Bool} (h : (M x).b s = some y) : hangs M x y := by cases s; exact .inl h; exact .inr h
theorem hangs_some {M : Nat → Nd} {x y : Nat} (h : hangs M x y) : ∃ s, (M x).b s = some y := by rcases h with h | h; exact ⟨_, h⟩; exact ⟨_, h⟩
theorem hand_self {M : Nat → Nd} {y : Nat} {t : Bool} {a : Int} : hand M (some y) t a y = handN (M y) t a := by simp [hand, upd]
theorem hand_ne {M : Nat → Nd} {w : Option Nat} {y : Nat} {t : Bool} {a : Int} (h : w ≠ some y) : hand M w t a y = M y := by
  cases w with
  | none => rfl
  | some z => simp only [hand]; exact upd_ne _ _ fun e => h (by rw [e])
theorem setM_x (h : Inv n V r Z M I P D) {x : Nat} (hx : x < n) : setM M x x = doneN (swapN (M x)) := by
  have h0 : ∀ s, (M x).b s ≠ some x := fun s e => h.not_self hx e (h.self hx)
  unfold setM
  simp only [upd_self, swapN]
  rw [hand_ne (h0 _), hand_ne (h0 _), upd_self]
theorem setM_c (h : Inv n V r Z M I P D) {x y : Nat} (hx : x < n) (hy : hangs M x y) : setM M x y = handN (M y) (M x).t (M x).a := by
  obtain ⟨s, hs⟩ := hangs_some hy
  have hne : y ≠ x := fun e => by subst e; exact h.not_self hx hs (h.self hx)
  have h1 : ∀ s', s' ≠ s → (M x).b s' ≠ some y := fun s' e e2 => by
    have : s' = !s := by cases s <;> cases s' <;> simp_all
    subst this
    exact h.apart hx s hs e2 rfl
  unfold setM
  simp only [upd_self, swapN]
  rw [upd_ne _ _ hne]
  by_cases c : (false != (M x).t) = s
  · rw [c, hs, hand_ne (h1 _ (by rw [← c]; cases (M x).t <;> simp)), hand_self, upd_ne _ _ hne]
  · have c2 : (true != (M x).t) = s := by cases s <;> cases e : (M x).t <;> simp_all
    rw [c2, hs, hand_self, hand_ne (h1 _ c), upd_ne _ _ hne]
theorem setM_o {x y : Nat} (hne : y ≠ x) (hy : ¬ hangs M x y) : setM M x y = M y := by
  have h1 : ∀ s, (M x).b s ≠ some y := fun s e => hy (hangs_of e)
  unfold setM
  simp only [upd_self, swapN]
  rw [upd_ne _ _ hne, hand_ne (h1 _), hand_ne (h1 _), upd_ne _ _ hne]
theorem setM_up (h : Inv n V r Z M I P D) {x : Nat} (hx : x < n) (y : Nat) : (setM M x y).up = (M y).up := by
  by_cases c : y = x
  · subst c; rw [setM_x h hx]; rfl
  · by_cases c2 : hangs M x y
    · rw [setM_c h hx c2]; rfl
    · rw [setM_o c c2]
theorem setM_hangs (h : Inv n V r Z M I P D) {x : Nat} (hx : x < n) {y z : Nat} : hangs (setM M x) y z ↔ hangs M y z := by
  by_cases c : y = x
  · subst c
    unfold hangs
    rw [setM_x h hx]
    simp only [doneN, swapN]
    cases (M y).t <;> simp
    exact Or.comm
  · by_cases c2 : hangs M x y
    · unfold hangs; rw [setM_c h hx c2]; rfl
    · unfold hangs; rw [setM_o c c2]
theorem setM_inv (h : Inv n V r Z M I P D) {x : Nat} (hx : x < n) (hP : P x = false) (hD : D x = 0) : Inv n V r Z (setM M x) I (setP M x P) (setD M x D) := by
  have hxx : ¬ hangs M x x := fun c => by obtain ⟨s, hs⟩ := hangs_some c; exact h.not_self hx hs (h.self hx)
  have PX : setP M x P x = false := by simp only [setP, if_neg hxx]; exact hP
  have DX : setD M x D x = 0 := by simp only [setD, if_neg hxx]; exact hD
  have PC : ∀ y, hangs M x y → setP M x P y = false := fun y hy => by simp only [setP, if_pos hy]
  have DC : ∀ y, hangs M x y → setD M x D y = 0 := fun y hy => by simp only [setD, if_pos hy]
  have PO : ∀ y, ¬ hangs M x y → setP M x P y = P y := fun y hy => by simp only [setP, if_neg hy]
  have DO : ∀ y, ¬ hangs M x y → setD M x D y = D y := fun y hy => by simp only [setD, if_neg hy]
  have hsx : sd M P x = (M x).t := by unfold sd; rw [hP]; simp
  have hsx' : sd (setM M x) (setP M x P) x = false := by unfold sd; rw [PX, setM_x h hx]; rfl
  have CF : ∀ y, hangs M x y → y < n ∧ (M y).up = some x ∧ P y = (M x).t ∧ D y = wr (M x).a ∧ y ≠ x := fun y hy => by
    obtain ⟨s, hs⟩ := hangs_some hy
    obtain ⟨h1, h2, h3, h4⟩ := h.ch x s y hx hs
    refine ⟨h1, h2, by rw [h3, hsx], by rw [h4, hD, Int.zero_add], fun e => hxx (by rw [← e]; rw [e] at hy ⊢; exact hy)⟩
  have hsd : ∀ y, y ≠ x → sd (setM M x) (setP M x P) y = sd M P y := fun y hne => by
    by_cases c : hangs M x y
    · unfold sd; rw [PC y c, setM_c h hx c, (CF y c).2.2.1]; simp only [handN]; cases (M y).t <;> cases (M x).t <;> rfl
    · unfold sd; rw [PO y c, setM_o hne c]
  have hb : ∀ y, y ≠ x → (setM M x y).b = (M y).b := fun y hne => by
    by_cases c : hangs M x y
    · rw [setM_c h hx c]; rfl
    · rw [setM_o hne c]
  have hbx : ∀ s, (setM M x x).b s = (M x).b (s != (M x).t) := fun s => by rw [setM_x h hx]; rfl
  have hwD : ∀ y, y ≠ x → wr (setD M x D y + (setM M x y).a) = wr (D y + (M y).a) := fun y hne => by
    by_cases c : hangs M x y
    · rw [DC y c, setM_c h hx c, (CF y c).2.2.2.1]
      simp only [handN, wr_eq]
      omega
    · rw [DO y c, setM_o hne c]
  refine ⟨fun y s z hy hz => ?_, fun y u hy hu => ?_, fun y hy => ?_, fun y hy ht => ?_, h.nd, h.lt, fun y hy => ?_, fun y hy hz => ?_, fun y hy hz => ?_, fun y hy hz => ?_, fun y hy ht => ?_, h.bnd⟩
  · by_cases c : y = x
    · subst c
      rw [hbx] at hz
      have hh := hangs_of hz
      obtain ⟨h1, h2, h3, h4, h5⟩ := CF z hh
      refine ⟨h1, by rw [setM_up h hx]; exact h2, by rw [PC z hh, hsx'], ?_⟩
      rw [DC z hh, DX, setM_x h hx]; exact wr_zero.symm
    · rw [hb y c] at hz
      obtain ⟨h1, h2, h3, h4⟩ := h.ch y s z hy hz
      have hnz : ¬ hangs M x z := fun cc => by have := (CF z cc).2.1; rw [h2] at this; cases this; exact c rfl
      refine ⟨h1, by rw [setM_up h hx]; exact h2, by rw [PO z hnz, hsd y c, h3], by rw [DO z hnz, h4, hwD y c]⟩
  · rw [setM_up h hx] at hu
    obtain ⟨h1, s, h2⟩ := h.par y u hy hu
    refine ⟨h1, ?_⟩
    by_cases c : u = x
    · subst c
      refine ⟨s != (M u).t, ?_⟩
      rw [hbx, ← h2]
      cases s <;> cases (M u).t <;> rfl
    · exact ⟨s, by rw [hb u c]; exact h2⟩
  · by_cases c : y = x
    · subst c
      rw [hsx', hbx, hbx, h.spl y hy, hsx]
      cases (M y).t <;> rfl
    · rw [hsd y c, hb y c]; exact h.spl y hy
  · rw [setM_up h hx] at ht
    have hn : ¬ hangs M x y := fun c => by have := (CF y c).2.1; rw [ht] at this; cases this
    rw [PO y hn, DO y hn]; exact h.top y hy ht
  · by_cases c : y = x
    · subst c; rw [setM_x h hx, DX]; simp only [doneN, swapN]; have := h.val y hy; rw [hD] at this; exact this
    · by_cases c2 : hangs M x y
      · rw [setM_c h hx c2, DC y c2]
        have h1 := h.val y hy
        rw [(CF y c2).2.2.2.1] at h1
        simp only [handN]
        rw [h1]; simp only [wr_eq]; omega
      · rw [setM_o c c2, DO y c2]; exact h.val y hy
  · obtain ⟨m, h1, h2⟩ := h.mn y hy hz
    refine ⟨m, h1, ?_⟩
    by_cases c : y = x
    · subst c; rw [setM_x h hx, DX]; simp only [doneN, swapN]; rw [hD] at h2; exact h2
    · by_cases c2 : hangs M x y
      · rw [setM_c h hx c2, DC y c2]
        rw [(CF y c2).2.2.2.1] at h2
        simp only [handN]
        rw [h2]; simp only [wr_eq]; omega
      · rw [setM_o c c2, DO y c2]; exact h2
  · obtain ⟨m, h1, h2⟩ := h.mx y hy hz
    refine ⟨m, h1, ?_⟩
    by_cases c : y = x
    · subst c; rw [setM_x h hx, DX]; simp only [doneN, swapN]; rw [hD] at h2; exact h2
    · by_cases c2 : hangs M x y
      · rw [setM_c h hx c2, DC y c2]
        rw [(CF y c2).2.2.2.1] at h2
        simp only [handN]
        rw [h2]; simp only [wr_eq]; omega
      · rw [setM_o c c2, DO y c2]; exact h2
  · have h1 := h.cnt y hy hz
    by_cases c : y = x
    · subst c; rw [setM_x h hx]; exact h1
    · by_cases c2 : hangs M x y
      · rw [setM_c h hx c2]; exact h1
      · rw [setM_o c c2]; exact h1
  · rw [setM_up h hx] at ht; exact h.row y hy ht
theorem setM_clear (h : Inv n V r Z M I P D) {x : Nat} (hx : x < n) (hP : P x = false) (hD : D x = 0) : Clear (setM M x) (setP M x P) (setD M x D) x := by
  have hxx : ¬ hangs M x x := fun c => by obtain ⟨s, hs⟩ := hangs_some c; exact h.not_self hx hs (h.self hx)
  exact ⟨by simp only [setP, if_neg hxx]; exact hP, by simp only [setD, if_neg hxx]; exact hD, by rw [setM_x h hx]; rfl, by rw [setM_x h hx]; rfl⟩
/-- those above stay as they are -/
theorem setM_above (h : Inv n V r Z M I P D) {x y : Nat} (hx : x < n) (hl : (I x).length < (I y).length) (hc : Clear M P D y) : Clear (setM M x) (setP M x P) (setD M x D) y := by
  have hne : y ≠ x := fun e => by subst e; omega
  have hn : ¬ hangs M x y := fun c => by obtain ⟨s, hs⟩ := hangs_some c; have := h.below hx hs; omega
  exact ⟨by simp only [setP, if_neg hn]; exact hc.1, by simp only [setD, if_neg hn]; exact hc.2.1, by rw [setM_o hne hn]; exact hc.2.2.1, by rw [setM_o hne hn]; exact hc.2.2.2⟩
/-- a way that was clear as far as the one above is clear with it -/
theorem Cl.sett {y k m : Nat} (h : Cl M P D y k) (hI : Inv n V r Z M I P D) {x : Nat} (hx : x < n) (hy : y < n) (hl : (I x).length < (I y).length) : Cl (setM M x) (setP M x P) (setD M x D) y k := by
  induction h with
  | @top z h1 h2 => exact .top (by rw [setM_up hI hx]; exact h1) (setM_above hI hx hl h2)
  | @step z u k h1 h2 h3 ih =>
    have h4 := hI.up_len hy h1
    exact .step (by rw [setM_up hI hx]; exact h1) (setM_above hI hx hl h2) (ih h4.1 (by omega))
theorem Dep.sett (h : Inv n V r Z M I P D) {x y k : Nat} (hx : x < n) (hd : Dep M y k) : Dep (setM M x) y k := by
  induction hd with
  | top h1 => exact .top (by rw [setM_up h hx]; exact h1)
  | step h1 h2 ih => exact .step (by rw [setM_up h hx]; exact h1) ih
/-- below a clear knot nothing waits from above -/
theorem clear_child (h : Inv n V r Z M I P D) {x y : Nat} {s : Bool} (hx : x < n) (hc : Clear M P D x) (hy : (M x).b s = some y) : P y = false ∧ D y = 0 := by
  obtain ⟨h1, h2, h3, h4⟩ := h.ch x s y hx hy
  rw [h3, sd_clear hc, h4, hc.2.1, hc.2.2.2]
  exact ⟨rfl, wr_zero⟩
end
end Sv
end Go.Proofs.Ytlkigpmjhojceaa
