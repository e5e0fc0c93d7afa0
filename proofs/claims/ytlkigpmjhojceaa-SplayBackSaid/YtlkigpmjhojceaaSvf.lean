/-
  Stage 9: lifts, plainly: one at a time, two at a time; what they cost is paid by the potential. No condition.
-/
import Derived.Test.YtlkigpmjhojceaaSve
namespace Go.Proofs.Ytlkigpmjhojceaa
set_option linter.unusedVariables false
set_option linter.unusedSimpArgs false
namespace Sv
def hangM (M : Nat → Nd) (v : Nat) (s : Bool) (w : Option Nat) : Nat → Nd :=
  let M1 := upd M v { M v with b := setb (M v).b s w }
  match w with | none => M1 | some y => upd M1 y { M1 y with up := some v }
def rotT (M : Nat → Nd) (x p : Nat) (sp : Bool) : Nat → Nd := match (M p).up with | none => upd M x { M x with up := none } | some g => hangM M g sp (some x)
/-- a knot lifted above the one on which it hangs -/
def rotM (M : Nat → Nd) (x p : Nat) (s sp : Bool) : Nat → Nd :=
  let M1 := rotT M x p sp
  let M2 := hangM M1 p s ((M1 x).b (!s))
  let M3 := hangM M2 x (!s) (some p)
  refM (refM M3 p) x
def pot (I : Nat → List Nat) : Nat → Nat | 0 => 0 | k + 1 => pot I k + (I k).length.log2
section
variable {n : Nat} {V : Nat → Int} {r : Nat → List Nat} {Z : Nat → Prop} {M : Nat → Nd} {I : Nat → List Nat} {P : Nat → Bool} {D : Nat → Int}
theorem hangM_ne {v : Nat} {s : Bool} {w : Option Nat} {y : Nat} (h1 : y ≠ v) (h2 : w ≠ some y) : hangM M v s w y = M y := by
  cases w with
  | none => exact upd_ne _ _ h1
  | some z => simp only [hangM]; rw [upd_ne _ _ (fun e => h2 (by rw [e])), upd_ne _ _ h1]
theorem hangM_v {v : Nat} {s : Bool} {w : Option Nat} (h2 : w ≠ some v) : hangM M v s w v = { M v with b := setb (M v).b s w } := by
  cases w with
  | none => exact upd_self _ _ _
  | some z => simp only [hangM]; rw [upd_ne _ _ (fun e => h2 (by rw [e])), upd_self]
theorem hangM_w {v y : Nat} {s : Bool} (h : y ≠ v) : hangM M v s (some y) y = { M y with up := some v } := by
  simp only [hangM]; rw [upd_self, upd_ne _ _ h]
theorem rot_eq {x p : Nat} {s sp : Bool} (R : RF n M I x p s sp) : hangM (hangM (rotT M x p sp) p s ((rotT M x p sp x).b (!s))) x (!s) (some p) = rotL M x p s sp := by
  have hxp := R.xp
  have tx : rotT M x p sp x = { M x with up := (M p).up } := by
    unfold rotT
    cases e : (M p).up with
    | none => simp only; exact upd_self _ _ _
    | some g => simp only; exact hangM_w (Ne.symm (R.rg g e).2.1)
  have tg : ∀ g, (M p).up = some g → rotT M x p sp g = { M g with b := setb (M g).b sp (some x) } := fun g e => by
    unfold rotT
    rw [e]
    exact hangM_v (fun e2 => (R.rg g e).2.1 (by cases e2; rfl))
  have to : ∀ y, y ≠ x → (M p).up ≠ some y → rotT M x p sp y = M y := fun y h1 h2 => by
    unfold rotT
    cases e : (M p).up with
    | none => exact upd_ne _ _ h1
    | some g => exact hangM_ne (fun e2 => h2 (by rw [e, e2])) (fun e2 => h1 (by cases e2; rfl))
  have tp : rotT M x p sp p = M p := to p (Ne.symm hxp) (fun e => (R.rg p e).2.2.1 rfl)
  have bx : (rotT M x p sp x).b = (M x).b := by rw [tx]
  rw [bx]
  have hmx : (M x).b (!s) ≠ some x := fun e => (R.ri x e).2.1 rfl
  have hmp : (M x).b (!s) ≠ some p := fun e => (R.ri p e).2.2.1 rfl
  funext y
  by_cases c1 : y = x
  · subst c1
    rw [R.rx, hangM_v (fun e => hxp (by cases e; rfl)), hangM_ne hxp hmx, tx]
  · by_cases c2 : y = p
    · subst c2
      rw [R.rp, hangM_w c1, hangM_v hmp, tp]
    · rw [hangM_ne c1 (fun e => c2 (by cases e; rfl))]
      by_cases c3 : (M x).b (!s) = some y
      · obtain ⟨m1, m2, m3, m4, m5⟩ := R.ri y c3
        rw [c3, m5, hangM_w c2, to y c1 m4]
      · rw [hangM_ne c2 c3]
        by_cases c4 : (M p).up = some y
        · rw [tg y c4, (R.rg y c4).2.2.2.2]
        · rw [to y c1 c4, R.ro y c1 c2 c3 c4]
theorem rotM_eq {x p : Nat} {s sp : Bool} (R : RF n M I x p s sp) : rotM M x p s sp = refM (refM (rotL M x p s sp) p) x := by
  exact congrArg (fun q => refM (refM q p) x) (rot_eq R)
theorem rotM_same {x p : Nat} {s sp : Bool} (R : RF n M I x p s sp) (y : Nat) : (rotM M x p s sp y).b = (rotL M x p s sp y).b ∧ (rotM M x p s sp y).up = (rotL M x p s sp y).up ∧ (rotM M x p s sp y).t = (M y).t ∧ (rotM M x p s sp y).a = (M y).a := by
  rw [rotM_eq R]
  obtain ⟨a1, a2, a3, a4, _⟩ := refM_same (M := refM (rotL M x p s sp) p) x y
  obtain ⟨b1, b2, b3, b4, _⟩ := refM_same (M := rotL M x p s sp) p y
  obtain ⟨c1, c2, _⟩ := rotL_same M x p s sp y
  exact ⟨a1.trans b1, a2.trans b2, (a3.trans b3).trans c1, (a4.trans b4).trans c2⟩
theorem Inv.mono {Z' : Nat → Prop} (h : Inv n V r Z M I P D) (hz : ∀ y, Z y → Z' y) : Inv n V r Z' M I P D :=
  ⟨h.ch, h.par, h.spl, h.top, h.nd, h.lt, h.val, fun x hx c => h.mn x hx fun c2 => c (hz x c2), fun x hx c => h.mx x hx fun c2 => c (hz x c2), fun x hx c => h.cnt x hx fun c2 => c (hz x c2), h.row, h.bnd⟩
theorem rotM_inv (h : Inv n V r (fun _ => False) M I P D) {x p : Nat} {s sp : Bool} (hx : x < n) (hp : (M x).up = some p) (hs : (M p).b s = some x) (hsp : ∀ g, (M p).up = some g → (M g).b sp = some p) (hcx : Clear M P D x) (hcp : Clear M P D p) :
    Inv n V r (fun _ => False) (rotM M x p s sp) (rotI M I x p s) P D := by
  have R := rot_facts (sp := sp) h hx hp hs
  have hpn := (h.up_len hx hp).1
  rw [rotM_eq R]
  have h1 := rotL_inv h hx hp hs hsp hcx hcp
  have e := rotL_same M x p s sp
  have h2 := refM_inv h1 (x := p) hpn hcp.2.1 (by rw [(e p).2.1]; exact hcp.2.2.2) (fun s' y hy => by
    rintro (rfl | rfl)
    · have := (h1.ch p s' y hpn hy).2.1
      rw [R.rx] at this
      simp only at this
      have g := (R.rg p this).2.2.1
      exact g rfl
    · have := h1.below hpn hy; omega)
  have h3 := refM_inv h2 (x := x) hx hcx.2.1 (by rw [(refM_same p x).2.2.2.1, (e x).2.1]; exact hcx.2.2.2) (fun s' y hy => by
    rintro ⟨rfl | rfl, g⟩
    · have := h2.below hx hy; omega
    · exact g rfl)
  exact h3.mono fun y hy => by
    obtain ⟨⟨rfl | rfl, g⟩, g2⟩ := hy
    · exact g2 rfl
    · exact g rfl
theorem rotM_cl (h : Inv n V r (fun _ => False) M I P D) {x p k : Nat} {s sp : Bool} (hx : x < n) (hp : (M x).up = some p) (hs : (M p).b s = some x) (hcl : Cl M P D x (k + 1)) : Cl (rotM M x p s sp) P D x k := by
  have R := rot_facts (sp := sp) h hx hp hs
  obtain ⟨hpn, hpl⟩ := h.up_len hx hp
  have e := rotM_same R
  have ux : (rotM M x p s sp x).up = (M p).up := by rw [(e x).2.1, R.rx]
  have cx : Clear (rotM M x p s sp) P D x := by
    have := hcl.clear
    exact ⟨this.1, this.2.1, by rw [(e x).2.2.1]; exact this.2.2.1, by rw [(e x).2.2.2]; exact this.2.2.2⟩
  cases hcl with
  | step g1 g2 g3 =>
    rw [hp] at g1; cases g1
    cases g3 with
    | top g4 g5 => exact .top (by rw [ux]; exact g4) cx
    | @step _ g k' g4 g5 g6 =>
      have hg := h.up_len hpn g4
      refine .step (by rw [ux]; exact g4) cx (g6.frame h hg.1 hg.2 fun z hz hl => ?_)
      refine ⟨?_, (e z).2.2.1, (e z).2.2.2⟩
      rw [(e z).2.1]
      have z1 : z ≠ x := fun e => by subst e; omega
      have z2 : z ≠ p := fun e => by subst e; omega
      have z3 : (M x).b (!s) ≠ some z := fun e => by have := h.below hx e; omega
      by_cases z4 : (M p).up = some z
      · rw [(R.rg z z4).2.2.2.2]
      · rw [R.ro z z1 z2 z3 z4]
theorem pot_out {I I' : Nat → List Nat} {k : Nat} (h : ∀ y, y < k → I' y = I y) : pot I' k = pot I k := by
  induction k with
  | zero => rfl
  | succ k ih => simp only [pot]; rw [ih fun y hy => h y (by omega), h k (by omega)]
theorem pot_upd {I I' : Nat → List Nat} {k x : Nat} (hx : x < k) (h : ∀ y, y ≠ x → I' y = I y) : pot I' k + (I x).length.log2 = pot I k + (I' x).length.log2 := by
  induction k with
  | zero => omega
  | succ k ih =>
    simp only [pot]
    by_cases c : x = k
    · subst c
      rw [pot_out fun y hy => h y (by omega)]
      omega
    · have := ih (by omega)
      rw [h k (fun e => c e.symm)]
      omega
theorem rot_pot (h : Inv n V r (fun _ => False) M I P D) {x p : Nat} {s sp : Bool} (hx : x < n) (hp : (M x).up = some p) (hs : (M p).b s = some x) :
    pot (rotI M I x p s) n + (I x).length.log2 = pot I n + ((IL I ((M x).b (!s))).length + 1 + (IL I ((M p).b (!s))).length).log2 := by
  have R := rot_facts (sp := sp) h hx hp hs
  have hpn := (h.up_len hx hp).1
  have hxp := R.xp
  have h1 := pot_upd (I := I) (I' := fun y => if y = x then I p else I y) hx (fun y hy => by simp [hy])
  have h2 := pot_upd (I := fun y => if y = x then I p else I y) (I' := rotI M I x p s) hpn (fun y hy => by simp [rotI, hy])
  simp only [if_pos, if_neg (Ne.symm hxp)] at h1 h2
  rw [show rotI M I x p s p = ord s (IL I ((M x).b (!s))) p (IL I ((M p).b (!s))) by simp [rotI, Ne.symm hxp], ord_len] at h2
  omega
theorem zig_pot (h : Inv n V r (fun _ => False) M I P D) {x p : Nat} {s : Bool} (hx : x < n) (hp : (M x).up = some p) (hs : (M p).b s = some x) :
    pot (rotI M I x p s) n + 3 * (I x).length.log2 ≤ pot I n + 3 * (rotI M I x p s x).length.log2 := by
  have h1 := rot_pot (sp := false) h hx hp hs
  obtain ⟨hpn, hpl⟩ := h.up_len hx hp
  rw [show rotI M I x p s x = I p by simp [rotI]]
  have e1 := h.two hpn s
  rw [hs, show IL I (some x) = I x from rfl] at e1
  have e2 := h.two hx s
  have g1 := St.log_mono (a := (IL I ((M x).b (!s))).length + 1 + (IL I ((M p).b (!s))).length) (b := (I p).length) (by omega)
  have g2 := St.log_mono (a := (I x).length) (b := (I p).length) (by omega)
  omega
/-- two that hang on one side: the upper one first -/
theorem zigzig (h : Inv n V r (fun _ => False) M I P D) {x p g : Nat} {s : Bool} (hx : x < n) (hp : (M x).up = some p) (hs : (M p).b s = some x) (hg : (M p).up = some g) (hsg : (M g).b s = some p) {sg : Bool} {M1 : Nat → Nd} {I1 : Nat → List Nat} (hM : M1 = rotM M p g s sg) (hI : I1 = rotI M I p g s) :
    (M1 x).up = some p ∧ (M1 p).b s = some x ∧ (M1 p).up = (M g).up ∧ rotI M1 I1 x p s x = I g ∧ pot (rotI M1 I1 x p s) n + 3 * (I x).length.log2 + 1 ≤ pot I n + 3 * (I g).length.log2 ∧ (M1 x).t = (M x).t ∧ (M1 x).a = (M x).a := by
  obtain ⟨hpn, hpl⟩ := h.up_len hx hp
  obtain ⟨hgn, hgl⟩ := h.up_len hpn hg
  have R := rot_facts (sp := sg) h hpn hg hsg
  have E := rotM_same R
  rw [← hM] at E
  have xp : x ≠ p := fun e => by subst e; omega
  have xg : x ≠ g := fun e => by subst e; omega
  have xm : (M p).b (!s) ≠ some x := fun e => h.apart hpn s hs e rfl
  have xt : (M g).up ≠ some x := fun e => by have := (h.up_len hgn e).2; omega
  have rx : rotL M p g s sg x = M x := R.ro x xp xg xm xt
  have b1 : (M1 x).up = some p := by rw [(E x).2.1, rx]; exact hp
  have b2 : (M1 p).b s = some x := by rw [(E p).1, R.rx]; simp only; rw [setb_ne _ _ (by cases s <;> simp)]; exact hs
  have b3 : (M1 p).b (!s) = some g := by rw [(E p).1, R.rx]; exact setb_self _ _ _
  have b4 : (M1 x).b = (M x).b := by rw [(E x).1, rx]
  have i1 : I1 p = I g := by rw [hI]; simp [rotI]
  have i2 : I1 g = ord s (IL I ((M p).b (!s))) g (IL I ((M g).b (!s))) := by rw [hI]; simp [rotI, Ne.symm R.xp]
  have i3 : ∀ y, y ≠ p → y ≠ g → I1 y = I y := fun y c1 c2 => by rw [hI]; simp [rotI, c1, c2]
  have i4 : IL I1 ((M1 x).b (!s)) = IL I ((M x).b (!s)) := by
    rw [b4]
    cases e : (M x).b (!s) with
    | none => rfl
    | some m =>
      have := h.below hx e
      exact i3 m (fun e => by subst e; omega) (fun e => by subst e; omega)
  refine ⟨b1, b2, by rw [(E p).2.1, R.rx], by simp [rotI, i1], ?_, (E x).2.2.1, (E x).2.2.2⟩
  have p1 := rot_pot (sp := sg) h hpn hg hsg
  rw [← hI] at p1
  have p2 : pot (rotI M1 I1 x p s) n + (I1 x).length.log2 = pot I1 n + ((IL I1 ((M1 x).b (!s))).length + 1 + (IL I1 ((M1 p).b (!s))).length).log2 := by
    have h1 := pot_upd (I := I1) (I' := fun y => if y = x then I1 p else I1 y) hx (fun y hy => by simp [hy])
    have h2 := pot_upd (I := fun y => if y = x then I1 p else I1 y) (I' := rotI M1 I1 x p s) hpn (fun y hy => by simp [rotI, hy])
    simp only [if_pos, if_neg (Ne.symm xp)] at h1 h2
    rw [show rotI M1 I1 x p s p = ord s (IL I1 ((M1 x).b (!s))) p (IL I1 ((M1 p).b (!s))) by simp [rotI, Ne.symm xp], ord_len] at h2
    omega
  rw [i3 x xp xg, i4, b3, show IL I1 (some g) = I1 g from rfl, i2, ord_len] at p2
  have e1 := h.two hx s
  have e2 := h.two hpn s
  rw [hs, show IL I (some x) = I x from rfl] at e2
  have e3 := h.two hgn s
  rw [hsg, show IL I (some p) = I p from rfl] at e3
  have g1 := St.log_two (a := (IL I ((M p).b (!s))).length + 1 + (IL I ((M g).b (!s))).length) (b := (I x).length) (c := (I g).length) (by omega) (by omega) (by omega)
  have g2 := St.log_mono (a := (IL I ((M x).b (!s))).length + 1 + ((IL I ((M p).b (!s))).length + 1 + (IL I ((M g).b (!s))).length)) (b := (I g).length) (by omega)
  have g3 := St.log_mono (a := (I x).length) (b := (I p).length) (by omega)
  omega
/-- two that hang on different sides: the lower one twice -/
theorem zigzag (h : Inv n V r (fun _ => False) M I P D) {x p g : Nat} {s : Bool} (hx : x < n) (hp : (M x).up = some p) (hs : (M p).b s = some x) (hg : (M p).up = some g) (hsg : (M g).b (!s) = some p) {M1 : Nat → Nd} {I1 : Nat → List Nat} (hM : M1 = rotM M x p s (!s)) (hI : I1 = rotI M I x p s) :
    (M1 x).up = some g ∧ (M1 g).b (!s) = some x ∧ (M1 g).up = (M g).up ∧ rotI M1 I1 x g (!s) x = I g ∧ pot (rotI M1 I1 x g (!s)) n + 3 * (I x).length.log2 + 1 ≤ pot I n + 3 * (I g).length.log2 := by
  obtain ⟨hpn, hpl⟩ := h.up_len hx hp
  obtain ⟨hgn, hgl⟩ := h.up_len hpn hg
  have R := rot_facts (sp := !s) h hx hp hs
  have E := rotM_same R
  rw [← hM] at E
  obtain ⟨_, gx, gp, gm, gr⟩ := R.rg g hg
  have b1 : (M1 x).up = some g := by rw [(E x).2.1, R.rx]; exact hg
  have b2 : (M1 g).b (!s) = some x := by rw [(E g).1, gr]; exact setb_self _ _ _
  have b3 : (M1 g).b s = (M g).b s := by rw [(E g).1, gr]; exact setb_ne _ _ (by cases s <;> simp)
  have b4 : (M1 x).b s = (M x).b s := by rw [(E x).1, R.rx]; exact setb_ne _ _ (by cases s <;> simp)
  have i1 : I1 x = I p := by rw [hI]; simp [rotI]
  have i2 : I1 p = ord s (IL I ((M x).b (!s))) p (IL I ((M p).b (!s))) := by rw [hI]; simp [rotI, Ne.symm R.xp]
  have i3 : ∀ y, y ≠ x → y ≠ p → I1 y = I y := fun y c1 c2 => by rw [hI]; simp [rotI, c1, c2]
  have i4 : IL I1 ((M1 x).b s) = IL I ((M x).b s) := by
    rw [b4]
    cases e : (M x).b s with
    | none => rfl
    | some m =>
      have := h.below hx e
      exact i3 m (fun e => by subst e; omega) (fun e => by subst e; omega)
  have i5 : IL I1 ((M1 g).b s) = IL I ((M g).b s) := by
    rw [b3]
    cases e : (M g).b s with
    | none => rfl
    | some m =>
      refine i3 m (fun e2 => ?_) (fun e2 => ?_)
      · subst e2
        have := (h.ch g s m hgn e).2.1
        rw [hp] at this; cases this; exact gp rfl
      · subst e2
        exact h.apart hgn s e hsg rfl
  refine ⟨b1, b2, by rw [(E g).2.1, gr], by simp [rotI, i3 g gx gp], ?_⟩
  have p1 := rot_pot (sp := !s) h hx hp hs
  rw [← hI] at p1
  have p2 : pot (rotI M1 I1 x g (!s)) n + (I1 x).length.log2 = pot I1 n + ((IL I1 ((M1 x).b s)).length + 1 + (IL I1 ((M1 g).b s)).length).log2 := by
    have h1 := pot_upd (I := I1) (I' := fun y => if y = x then I1 g else I1 y) hx (fun y hy => by simp [hy])
    have h2 := pot_upd (I := fun y => if y = x then I1 g else I1 y) (I' := rotI M1 I1 x g (!s)) hgn (fun y hy => by simp [rotI, hy])
    simp only [if_pos, if_neg gx] at h1 h2
    rw [show rotI M1 I1 x g (!s) g = ord (!s) (IL I1 ((M1 x).b s)) g (IL I1 ((M1 g).b s)) by simp [rotI, gx], ord_len] at h2
    omega
  rw [i1, i4, i5] at p2
  have e1 := h.two hx s
  have e2 := h.two hpn s
  rw [hs, show IL I (some x) = I x from rfl] at e2
  have e3 := h.two hgn s
  rw [hsg, show IL I (some p) = I p from rfl] at e3
  have g1 := St.log_two (a := (IL I ((M x).b (!s))).length + 1 + (IL I ((M p).b (!s))).length) (b := (IL I ((M x).b s)).length + 1 + (IL I ((M g).b s)).length) (c := (I g).length) (by omega) (by omega) (by omega)
  have g3 := St.log_mono (a := (I x).length) (b := (I p).length) (by omega)
  have g4 := St.log_mono (a := (I p).length) (b := (I g).length) (by omega)
  omega
end
end Sv
end Go.Proofs.Ytlkigpmjhojceaa
