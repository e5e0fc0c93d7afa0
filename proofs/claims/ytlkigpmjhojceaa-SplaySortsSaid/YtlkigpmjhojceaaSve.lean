/-
  Stage 9: a knot lifted above the one on which it hangs keeps the rows, plainly. No condition.
-/
import Derived.Test.YtlkigpmjhojceaaSvc
namespace Go.Proofs.Ytlkigpmjhojceaa
set_option linter.unusedVariables false
set_option linter.unusedSimpArgs false
namespace Sv
section
variable {n : Nat} {V : Nat → Int} {r : Nat → List Nat} {Z : Nat → Prop} {M : Nat → Nd} {I : Nat → List Nat} {P : Nat → Bool} {D : Nat → Int}
/-- on which side of the one above a knot hangs -/
def sideM (M : Nat → Nd) (x : Nat) : Bool := match (M x).up with | none => false | some u => decide ((M u).b false ≠ some x)
theorem Inv.side_b (h : Inv n V r Z M I P D) {x u : Nat} (hx : x < n) (hu : (M x).up = some u) : (M u).b (sideM M x) = some x := by
  obtain ⟨h1, s, h2⟩ := h.par x u hx hu
  unfold sideM
  rw [hu]
  by_cases c : (M u).b false = some x
  · simp [c]
  · cases s with
    | false => exact absurd h2 c
    | true => simp [c, h2]
theorem Inv.side_uniq (h : Inv n V r Z M I P D) {x u : Nat} {s s' : Bool} (hu : u < n) (h1 : (M u).b s = some x) (h2 : (M u).b s' = some x) : s = s' := by
  by_cases c : s' = s
  · exact c.symm
  · have : s' = !s := by cases s <;> cases s' <;> simp_all
    subst this
    exact absurd rfl (h.apart hu s h1 h2)
theorem ord_two (s : Bool) (A B C : List Nat) (x p : Nat) : ord s (ord s A x B) p C = ord s A x (ord s B p C) := by cases s <;> simp [ord]
theorem ord_len (s : Bool) (A B : List Nat) (x : Nat) : (ord s A x B).length = A.length + 1 + B.length := by cases s <;> simp [ord] <;> omega
/-- what is where, behind a lift -/
structure RF (n : Nat) (M : Nat → Nd) (I : Nat → List Nat) (x p : Nat) (s sp : Bool) : Prop where
  xp : x ≠ p
  rx : rotL M x p s sp x = { M x with up := (M p).up, b := setb (M x).b (!s) (some p) }
  rp : rotL M x p s sp p = { M p with up := some x, b := setb (M p).b s ((M x).b (!s)) }
  ri : ∀ m, (M x).b (!s) = some m → m < n ∧ m ≠ x ∧ m ≠ p ∧ (M p).up ≠ some m ∧ rotL M x p s sp m = { M m with up := some p }
  rg : ∀ g, (M p).up = some g → g < n ∧ g ≠ x ∧ g ≠ p ∧ (M x).b (!s) ≠ some g ∧ rotL M x p s sp g = { M g with b := setb (M g).b sp (some x) }
  ro : ∀ y, y ≠ x → y ≠ p → (M x).b (!s) ≠ some y → (M p).up ≠ some y → rotL M x p s sp y = M y
theorem rot_facts (h : Inv n V r Z M I P D) {x p : Nat} {s sp : Bool} (hx : x < n) (hp : (M x).up = some p) (hs : (M p).b s = some x) : RF n M I x p s sp := by
  obtain ⟨hpn, hpl⟩ := h.up_len hx hp
  have xp : x ≠ p := fun e => by subst e; omega
  have hm : ∀ m, (M x).b (!s) = some m → m < n ∧ m ≠ x ∧ m ≠ p ∧ (M p).up ≠ some m := fun m hm => by
    have h1 := h.below hx hm
    refine ⟨(h.ch x _ m hx hm).1, fun e => by subst e; omega, fun e => by subst e; omega, fun e => ?_⟩
    have := (h.up_len hpn e).2
    omega
  have hg : ∀ g, (M p).up = some g → g < n ∧ g ≠ x ∧ g ≠ p ∧ (M x).b (!s) ≠ some g := fun g e => by
    have h1 := h.up_len hpn e
    refine ⟨h1.1, fun e => by subst e; omega, fun e => by subst e; omega, fun e2 => ?_⟩
    have := h.below hx e2
    omega
  refine ⟨xp, by simp [rotL], by simp [rotL, Ne.symm xp], fun m e => ?_, fun g e => ?_, fun y h1 h2 h3 h4 => by simp [rotL, h1, h2, h3, h4]⟩
  · obtain ⟨h1, h2, h3, h4⟩ := hm m e
    exact ⟨h1, h2, h3, h4, by simp [rotL, h2, h3, e]⟩
  · obtain ⟨h1, h2, h3, h4⟩ := hg g e
    exact ⟨h1, h2, h3, h4, by simp [rotL, h2, h3, h4, e]⟩
theorem rotL_inv (h : Inv n V r (fun _ => False) M I P D) {x p : Nat} {s sp : Bool} (hx : x < n) (hp : (M x).up = some p) (hs : (M p).b s = some x) (hsp : ∀ g, (M p).up = some g → (M g).b sp = some p) (hcx : Clear M P D x) (hcp : Clear M P D p) :
    Inv n V r (fun y => y = x ∨ y = p) (rotL M x p s sp) (rotI M I x p s) P D := by
  have RR := rot_facts (sp := sp) h hx hp hs
  obtain ⟨hpn, hpl⟩ := h.up_len hx hp
  have hsd : ∀ y, sd (rotL M x p s sp) P y = sd M P y := fun y => by unfold sd; rw [(rotL_same M x p s sp y).1]
  have ha : ∀ y, (rotL M x p s sp y).a = (M y).a := fun y => (rotL_same M x p s sp y).2.1
  have sx := sd_clear hcx
  have sp0 := sd_clear hcp
  have ex := h.spl_clear hx hcx s
  have ep := h.spl_clear hpn hcp s
  rw [hs, show IL I (some x) = I x from rfl, ex, ord_two] at ep
  have I1 : rotI M I x p s x = I p := by simp [rotI]
  have I2 : rotI M I x p s p = ord s (IL I ((M x).b (!s))) p (IL I ((M p).b (!s))) := by simp [rotI, Ne.symm RR.xp]
  have I3 : ∀ y, y ≠ x → y ≠ p → rotI M I x p s y = I y := fun y h1 h2 => by simp [rotI, h1, h2]
  have IL3 : ∀ w, w ≠ some x → w ≠ some p → IL (rotI M I x p s) w = IL I w := fun w h1 h2 => by
    cases w with
    | none => rfl
    | some y => exact I3 y (fun e => h1 (by rw [e])) (fun e => h2 (by rw [e]))
  have hxs : ∀ s', (M x).b s' ≠ some x ∧ (M x).b s' ≠ some p := fun s' => ⟨fun e => by have := h.below hx e; omega, fun e => by have := h.below hx e; omega⟩
  have hps : (M p).b (!s) ≠ some x ∧ ∀ s', (M p).b s' ≠ some p := ⟨fun e => h.apart hpn s hs e rfl, fun s' e => by have := h.below hpn e; omega⟩
  -- what the one above is left with
  have hup : ∀ y, y < n → (rotL M x p s sp y).up = if y = x then (M p).up else if y = p then some x else if (M x).b (!s) = some y then some p else (M y).up := fun y hy => by
    unfold rotL
    split
    · rfl
    · split
      · rfl
      · split
        · rfl
        · split <;> rfl
  have hb : ∀ y s', (rotL M x p s sp y).b s' = if y = x then setb (M x).b (!s) (some p) s' else if y = p then setb (M p).b s ((M x).b (!s)) s' else if (M p).up = some y then setb (M y).b sp (some x) s' else (M y).b s' := fun y s' => by
    unfold rotL
    by_cases c1 : y = x
    · simp [c1]
    · by_cases c2 : y = p
      · subst c2; simp [c1]
      · simp only [c1, c2, if_false]
        by_cases c3 : (M x).b (!s) = some y
        · rw [if_pos c3, if_neg (RR.ri y c3).2.2.2.1]
        · rw [if_neg c3]
          split <;> rfl
  have boo : ∀ s', s' = s ∨ s' = !s := fun s' => by cases s <;> cases s' <;> simp
  refine ⟨fun y s' z hy hz => ?_, fun y u hy hu => ?_, fun y hy => ?_, fun y hy ht => ?_, fun y hy => ?_, fun y hy => ?_, fun y hy => ?_, fun y hy hz => ?_, fun y hy hz => ?_, fun y hy hz => ?_, fun y hy ht => ?_, h.bnd⟩
  · rw [hb] at hz
    rw [hsd, ha]
    by_cases c1 : y = x
    · subst c1
      rw [if_pos rfl] at hz
      rcases boo s' with e | e
      · subst e
        rw [setb_ne _ _ (by cases s' <;> simp)] at hz
        obtain ⟨g1, g2, g3, g4⟩ := h.ch y s' z hy hz
        refine ⟨g1, ?_, g3, g4⟩
        rw [hup z g1, if_neg (fun e => (hxs s').1 (by rw [hz, e])), if_neg (fun e => (hxs s').2 (by rw [hz, e])), if_neg (fun e => h.apart hy s' hz e rfl)]
        exact g2
      · subst e
        rw [setb_self] at hz
        cases hz
        refine ⟨hpn, by rw [hup p hpn, if_neg (Ne.symm RR.xp), if_pos rfl], by rw [hcp.1, sx], by rw [hcp.2.1, hcx.2.1, hcx.2.2.2]; exact wr_zero.symm⟩
    · rw [if_neg c1] at hz
      by_cases c2 : y = p
      · subst c2
        rw [if_pos rfl] at hz
        rcases boo s' with e | e
        · subst e
          rw [setb_self] at hz
          obtain ⟨g1, g2, g3, g4⟩ := h.ch x _ z hx hz
          obtain ⟨m1, m2, m3, m4, m5⟩ := RR.ri z hz
          refine ⟨g1, by rw [m5], by rw [g3, sx, sp0], by rw [g4, hcx.2.1, hcx.2.2.2, hcp.2.1, hcp.2.2.2]⟩
        · subst e
          rw [setb_ne _ _ (by cases s <;> simp)] at hz
          obtain ⟨g1, g2, g3, g4⟩ := h.ch y _ z hy hz
          refine ⟨g1, ?_, g3, g4⟩
          rw [hup z g1, if_neg (fun e => hps.1 (by rw [hz, e])), if_neg (fun e => hps.2 _ (by rw [hz, e])), if_neg (fun e => by have := (h.ch x _ z hx e).2.1; rw [g2] at this; cases this; exact c1 rfl)]
          exact g2
      · rw [if_neg c2] at hz
        by_cases c3 : (M p).up = some y ∧ s' = sp
        · obtain ⟨c3, rfl⟩ := c3
          rw [if_pos c3, setb_self] at hz
          cases hz
          obtain ⟨g1, g2, g3, g4⟩ := h.ch y _ p hy (hsp y c3)
          exact ⟨hx, by rw [hup x hx, if_pos rfl]; exact c3, by rw [hcx.1, ← hcp.1, g3], by rw [hcx.2.1, ← hcp.2.1, g4]⟩
        · have hz' : (M y).b s' = some z := by
            split at hz
            · rename_i c4
              rw [setb_ne _ _ (fun e => c3 ⟨c4, e⟩)] at hz
              exact hz
            · exact hz
          obtain ⟨g1, g2, g3, g4⟩ := h.ch y s' z hy hz'
          refine ⟨g1, ?_, g3, g4⟩
          rw [hup z g1, if_neg (fun e => by subst e; rw [hp] at g2; cases g2; exact c2 rfl), if_neg (fun e => by
            subst e
            exact c3 ⟨g2, h.side_uniq hy hz' (hsp y g2)⟩), if_neg (fun e => by have := (h.ch x _ z hx e).2.1; rw [g2] at this; cases this; exact c1 rfl)]
          exact g2
  · rw [hup y hy] at hu
    by_cases c1 : y = x
    · subst c1
      rw [if_pos rfl] at hu
      obtain ⟨g1, g2, g3, g4, g5⟩ := RR.rg u hu
      exact ⟨g1, sp, by rw [g5]; exact setb_self _ _ _⟩
    · rw [if_neg c1] at hu
      by_cases c2 : y = p
      · subst c2
        rw [if_pos rfl] at hu
        cases hu
        exact ⟨hx, !s, by rw [RR.rx]; exact setb_self _ _ _⟩
      · rw [if_neg c2] at hu
        by_cases c3 : (M x).b (!s) = some y
        · rw [if_pos c3] at hu
          cases hu
          exact ⟨hpn, s, by rw [RR.rp]; exact (setb_self _ _ _).trans c3⟩
        · rw [if_neg c3] at hu
          obtain ⟨g1, s', g2⟩ := h.par y u hy hu
          refine ⟨g1, s', ?_⟩
          rw [hb]
          by_cases d1 : u = x
          · subst d1
            rw [if_pos rfl, setb_ne _ _ (fun e => c3 (by rw [← e]; exact g2))]
            exact g2
          · rw [if_neg d1]
            by_cases d2 : u = p
            · subst d2
              rw [if_pos rfl, setb_ne _ _ (fun e => by subst e; rw [hs] at g2; cases g2; exact c1 rfl)]
              exact g2
            · rw [if_neg d2]
              split
              · rename_i d3
                rw [setb_ne _ _ (fun e => by subst e; rw [hsp u d3] at g2; cases g2; exact c2 rfl)]
                exact g2
              · exact g2
  · rw [hsd]
    have hq : ∀ (y : Nat) (b : Bool → Option Nat), ord s (IL (rotI M I x p s) (b s)) y (IL (rotI M I x p s) (b (!s))) = IL (rotI M I x p s) (b false) ++ y :: IL (rotI M I x p s) (b true) := fun y b => by cases s <;> simp [ord]
    by_cases c1 : y = x
    · subst c1
      rw [I1, sx, Bool.not_false, ← hq, RR.rx]
      simp only
      rw [setb_self, setb_ne _ _ (by cases s <;> simp), IL3 _ (hxs s).1 (hxs s).2]
      rw [show IL (rotI M I y p s) (some p) = rotI M I y p s p from rfl, I2]; exact ep
    · by_cases c2 : y = p
      · subst c2
        rw [I2, sp0, Bool.not_false, ← hq, RR.rp]
        simp only
        rw [setb_self, setb_ne _ _ (by cases s <;> simp), IL3 _ (hxs _).1 (hxs _).2, IL3 _ hps.1 (hps.2 _)]
      · rw [I3 y c1 c2, h.spl y hy]
        by_cases c3 : (M p).up = some y
        · have e2 : (rotL M x p s sp y).b = setb (M y).b sp (some x) := by funext s'; rw [hb, if_neg c1, if_neg c2, if_pos c3]
          rw [e2]
          have g0 := hsp y c3
          have g1 : ∀ s', s' ≠ sp → (M y).b s' ≠ some x ∧ (M y).b s' ≠ some p := fun s' e => ⟨fun e3 => by have := (h.ch y s' x hy e3).2.1; rw [hp] at this; cases this; exact c2 rfl, fun e3 => e (h.side_uniq hy e3 g0)⟩
          have g2 : IL (rotI M I x p s) (setb (M y).b sp (some x) sp) = IL I ((M y).b sp) := by rw [setb_self, g0]; exact I1
          have g3 : ∀ s', s' ≠ sp → IL (rotI M I x p s) (setb (M y).b sp (some x) s') = IL I ((M y).b s') := fun s' e => by rw [setb_ne _ _ e]; exact IL3 _ (g1 s' e).1 (g1 s' e).2
          have g4 : ∀ s', IL (rotI M I x p s) (setb (M y).b sp (some x) s') = IL I ((M y).b s') := fun s' => by
            by_cases e : s' = sp
            · rw [e]; exact g2
            · exact g3 s' e
          rw [g4, g4]
        · have e2 : (rotL M x p s sp y).b = (M y).b := by funext s'; rw [hb, if_neg c1, if_neg c2, if_neg c3]
          rw [e2]
          have g1 : ∀ s', (M y).b s' ≠ some x ∧ (M y).b s' ≠ some p := fun s' => ⟨fun e3 => by have := (h.ch y s' x hy e3).2.1; rw [hp] at this; cases this; exact c2 rfl, fun e3 => by have := (h.ch y s' p hy e3).2.1; exact c3 this⟩
          rw [IL3 _ (g1 _).1 (g1 _).2, IL3 _ (g1 _).1 (g1 _).2]
  · rw [hup y hy] at ht
    by_cases c1 : y = x
    · subst c1; exact ⟨hcx.1, hcx.2.1⟩
    · rw [if_neg c1] at ht
      by_cases c2 : y = p
      · rw [if_pos c2] at ht; cases ht
      · rw [if_neg c2] at ht
        split at ht
        · cases ht
        · exact h.top y hy ht
  · by_cases c1 : y = x
    · subst c1; rw [I1]; exact h.nd p hpn
    · by_cases c2 : y = p
      · subst c2
        rw [I2]
        have g1 := h.nd y hpn
        rw [ep] at g1
        cases s
        · simp only [ord] at g1 ⊢; exact ((List.nodup_append.1 g1).2.1).of_cons
        · simp only [ord, if_true] at g1 ⊢
          exact (List.nodup_append.1 g1).1
      · rw [I3 y c1 c2]; exact h.nd y hy
  · by_cases c1 : y = x
    · subst c1; rw [I1]; exact h.lt p hpn
    · by_cases c2 : y = p
      · subst c2
        rw [I2]
        intro z hz
        apply h.lt y hpn z
        rw [ep]
        cases s
        · simp only [ord] at hz ⊢; simp at hz ⊢; grind
        · simp only [ord, if_true] at hz ⊢; simp at hz ⊢; grind
      · rw [I3 y c1 c2]; exact h.lt y hy
  · rw [(rotL_same M x p s sp y).2.2.1]; exact h.val y hy
  · rw [I3 y (fun e => hz (.inl e)) (fun e => hz (.inr e)), (rotL_same M x p s sp y).2.2.2.1]; exact h.mn y hy id
  · rw [I3 y (fun e => hz (.inl e)) (fun e => hz (.inr e)), (rotL_same M x p s sp y).2.2.2.2.1]; exact h.mx y hy id
  · rw [I3 y (fun e => hz (.inl e)) (fun e => hz (.inr e)), (rotL_same M x p s sp y).2.2.2.2.2]; exact h.cnt y hy id
  · rw [hup y hy] at ht
    by_cases c1 : y = x
    · subst c1
      rw [if_pos rfl] at ht
      rw [I1]; exact h.row p hpn ht
    · rw [if_neg c1] at ht
      by_cases c2 : y = p
      · rw [if_pos c2] at ht; cases ht
      · rw [if_neg c2] at ht
        rw [I3 y c1 c2]
        split at ht
        · cases ht
        · exact h.row y hy ht
end
end Sv
end Go.Proofs.Ytlkigpmjhojceaa
