/-
  Stage 9: rows cut and joined at their tops, plainly. No condition.
-/
import Derived.Test.YtlkigpmjhojceaaSvh
namespace Go.Proofs.Ytlkigpmjhojceaa
set_option linter.unusedVariables false
set_option linter.unusedSimpArgs false
namespace Sv
section
variable {n : Nat} {V V' : Nat → Int} {r r' : Nat → List Nat} {M M1 M2 : Nat → Nd} {I : Nat → List Nat} {P : Nat → Bool} {D : Nat → Int}
/-- one list told anew -/
def putI (I : Nat → List Nat) (x : Nat) (l : List Nat) : Nat → List Nat := fun y => if y = x then l else I y
theorem putI_self (I : Nat → List Nat) (x : Nat) (l : List Nat) : putI I x l x = l := by simp [putI]
theorem putI_ne (I : Nat → List Nat) {x y : Nat} (l : List Nat) (h : y ≠ x) : putI I x l y = I y := by simp [putI, h]
theorem putI_IL (I : Nat → List Nat) {x : Nat} (l : List Nat) {w : Option Nat} (h : w ≠ some x) : IL (putI I x l) w = IL I w := by
  cases w with
  | none => rfl
  | some y => exact putI_ne I l (fun e => h (by rw [e]))
/-- a top's left side cut off -/
def cutM (M : Nat → Nd) (x L : Nat) : Nat → Nd := hangM (upd M L { M L with up := none }) x false none
theorem cutM_x {x L : Nat} (h : x ≠ L) : cutM M x L x = { M x with b := setb (M x).b false none } := by
  unfold cutM; rw [hangM_v (by simp), upd_ne _ _ h]
theorem cutM_L {x L : Nat} (h : x ≠ L) : cutM M x L L = { M L with up := none } := by
  unfold cutM; rw [hangM_ne (Ne.symm h) (by simp), upd_self]
theorem cutM_o {x L y : Nat} (h1 : y ≠ x) (h2 : y ≠ L) : cutM M x L y = M y := by
  unfold cutM; rw [hangM_ne h1 (by simp), upd_ne _ _ h2]
theorem cut_inv (h : Inv n V r (fun _ => False) M I P D) {x L : Nat} (hx : x < n) (hu : (M x).up = none) (hc : Clear M P D x) (hL : (M x).b false = some L)
    (hr : ∀ y, r' y = if y ∈ I L then I L else if y ∈ x :: IL I ((M x).b true) then x :: IL I ((M x).b true) else r y) :
    Inv n V r' (fun _ => False) (refM (cutM M x L) x) (putI I x (x :: IL I ((M x).b true))) P D := by
  obtain ⟨hLn, hLu, _⟩ := h.ch x _ L hx hL
  have hxL : x ≠ L := fun e => by subst e; rw [hu] at hLu; cases hLu
  have hsp := h.spl_clear hx hc false
  simp only [ord] at hsp
  have hsp' : I x = I L ++ x :: IL I ((M x).b true) := by rw [hL] at hsp; simpa [IL] using hsp
  have hnd := h.nd x hx
  rw [hsp'] at hnd
  have hrx := h.root_row hx hu
  have hcl := clear_child h hx hc hL
  have bx : ∀ s, (cutM M x L x).b s = if s = false then none else (M x).b s := fun s => by rw [cutM_x hxL]; rfl
  have bo : ∀ y, y ≠ x → (cutM M x L y).b = (M y).b := fun y hy => by
    by_cases c : y = L
    · subst c; rw [cutM_L hxL]
    · rw [cutM_o hy c]
  have upo : ∀ y, y ≠ L → (cutM M x L y).up = (M y).up := fun y hy => by
    by_cases c : y = x
    · subst c; rw [cutM_x hxL]
    · rw [cutM_o c hy]
  have same : ∀ y, (cutM M x L y).t = (M y).t ∧ (cutM M x L y).a = (M y).a ∧ (cutM M x L y).v = (M y).v ∧ (cutM M x L y).lo = (M y).lo ∧ (cutM M x L y).hi = (M y).hi ∧ (cutM M x L y).c = (M y).c := fun y => by
    by_cases c : y = x
    · subst c; rw [cutM_x hxL]; simp
    · by_cases c2 : y = L
      · subst c2; rw [cutM_L hxL]; simp
      · rw [cutM_o c c2]; simp
  have hsd : ∀ y, sd (cutM M x L) P y = sd M P y := fun y => by unfold sd; rw [(same y).1]
  have nx : ∀ y s, y < n → (M y).b s ≠ some x := fun y s hy e => by have := (h.ch y s x hy e).2.1; rw [hu] at this; cases this
  have hB : ∀ z, z ∈ x :: IL I ((M x).b true) → z ∉ I L := fun z hz c => (List.nodup_append.1 hnd).2.2 z c z hz rfl
  have hz : Inv n V r' (fun y => y = x) (cutM M x L) (putI I x (x :: IL I ((M x).b true))) P D := by
    refine ⟨fun y s z hy hz => ?_, fun y u hy hu2 => ?_, fun y hy => ?_, fun y hy ht => ?_, fun y hy => ?_, fun y hy => ?_, fun y hy => ?_, fun y hy hz => ?_, fun y hy hz => ?_, fun y hy hz => ?_, fun y hy ht => ?_, h.bnd⟩
    · rw [hsd, (same y).2.1]
      have hz' : (M y).b s = some z ∧ (y = x → s ≠ false) := by
        by_cases c : y = x
        · subst c
          rw [bx] at hz
          split at hz
          · cases hz
          · rename_i e; exact ⟨hz, fun _ => e⟩
        · rw [bo y c] at hz; exact ⟨hz, fun e => absurd e c⟩
      obtain ⟨g1, g2, g3, g4⟩ := h.ch y s z hy hz'.1
      refine ⟨g1, ?_, g3, g4⟩
      rw [upo z (fun e => by
        subst e
        rw [hLu] at g2; cases g2
        exact hz'.2 rfl (h.side_uniq hx hz'.1 hL))]
      exact g2
    · have c1 : y ≠ L := fun e => by subst e; rw [cutM_L hxL] at hu2; cases hu2
      rw [upo y c1] at hu2
      obtain ⟨g1, s, g2⟩ := h.par y u hy hu2
      refine ⟨g1, s, ?_⟩
      by_cases c : u = x
      · subst c
        rw [bx, if_neg (fun e => by subst e; rw [hL] at g2; cases g2; exact c1 rfl)]
        exact g2
      · rw [bo u c]; exact g2
    · rw [hsd]
      by_cases c : y = x
      · subst c
        rw [putI_self, sd_clear hc, bx, bx, if_pos rfl, if_neg (by simp), putI_IL _ _ (nx y _ hy)]
        rfl
      · rw [putI_ne _ _ c, bo y c, putI_IL _ _ (nx y _ hy), putI_IL _ _ (nx y _ hy)]
        exact h.spl y hy
    · by_cases c : y = L
      · subst c; exact hcl
      · rw [upo y c] at ht; exact h.top y hy ht
    · by_cases c : y = x
      · subst c; rw [putI_self]; exact (List.nodup_append.1 hnd).2.1
      · rw [putI_ne _ _ c]; exact h.nd y hy
    · by_cases c : y = x
      · subst c; rw [putI_self]
        intro z hz
        exact h.lt y hy z (by rw [hsp']; exact List.mem_append_right _ hz)
      · rw [putI_ne _ _ c]; exact h.lt y hy
    · rw [(same y).2.2.1]; exact h.val y hy
    · rw [putI_ne _ _ hz, (same y).2.2.2.1]; exact h.mn y hy id
    · rw [putI_ne _ _ hz, (same y).2.2.2.2.1]; exact h.mx y hy id
    · rw [putI_ne _ _ hz, (same y).2.2.2.2.2]; exact h.cnt y hy id
    · intro z hz
      by_cases c : y = x
      · subst c
        rw [putI_self] at hz ⊢
        rw [hr, if_neg (hB z hz), if_pos hz]
      · rw [putI_ne _ _ c] at hz ⊢
        by_cases c2 : y = L
        · subst c2; rw [hr, if_pos hz]
        · rw [upo y c2] at ht
          have hzr : z ∉ r x := fun e => by
            have := (h.row_in hx hy hz).1 e
            exact h.one_top hx hu this c ht
          rw [hrx, hsp'] at hzr
          rw [hr, if_neg (fun e => hzr (List.mem_append_left _ e)), if_neg (fun e => hzr (List.mem_append_right _ e))]
          exact h.row y hy ht z hz
  have h2 := refM_inv hz hx hc.2.1 (by rw [(same x).2.1]; exact hc.2.2.2) (fun s y hy e => by
    subst e
    have := hz.below hx hy; omega)
  exact h2.mono fun y hy => hy.2 hy.1
theorem cut_pot (h : Inv n V r (fun _ => False) M I P D) {x L : Nat} (hx : x < n) (hc : Clear M P D x) : pot (putI I x (x :: IL I ((M x).b true))) n ≤ pot I n := pot_le fun y hy => by
  by_cases c : y = x
  · subst c
    rw [putI_self, h.two hx false]
    simp; omega
  · rw [putI_ne _ _ c]; exact Nat.le_refl _
/-- one row hung behind another -/
theorem join_inv (h : Inv n V r (fun _ => False) M I P D) {v b : Nat} (hv : v < n) (hb : b < n) (hvu : (M v).up = none) (hbu : (M b).up = none) (hc : Clear M P D v) (hno : (M v).b true = none) (hne : v ≠ b)
    (hr : ∀ y, r' y = if y ∈ r v ∨ y ∈ r b then r v ++ r b else r y) :
    Inv n V r' (fun _ => False) (refM (hangM M v true (some b)) v) (putI I v (I v ++ I b)) P D := by
  have hrv := h.root_row hv hvu
  have hrb := h.root_row hb hbu
  have eb : hangM M v true (some b) b = { M b with up := some v } := hangM_w (Ne.symm hne)
  have ev : hangM M v true (some b) v = { M v with b := setb (M v).b true (some b) } := hangM_v (fun e => hne (by cases e; rfl))
  have eo : ∀ y, y ≠ v → y ≠ b → hangM M v true (some b) y = M y := fun y h1 h2 => hangM_ne h1 (fun e => h2 (by cases e; rfl))
  have bv : ∀ s, (hangM M v true (some b) v).b s = if s = true then some b else (M v).b s := fun s => by rw [ev]; rfl
  have bo : ∀ y, y ≠ v → (hangM M v true (some b) y).b = (M y).b := fun y hy => by
    by_cases c : y = b
    · subst c; rw [eb]
    · rw [eo y hy c]
  have upo : ∀ y, y ≠ b → (hangM M v true (some b) y).up = (M y).up := fun y hy => by
    by_cases c : y = v
    · subst c; rw [ev]
    · rw [eo y c hy]
  have same : ∀ y, (hangM M v true (some b) y).t = (M y).t ∧ (hangM M v true (some b) y).a = (M y).a ∧ (hangM M v true (some b) y).v = (M y).v ∧ (hangM M v true (some b) y).lo = (M y).lo ∧ (hangM M v true (some b) y).hi = (M y).hi ∧ (hangM M v true (some b) y).c = (M y).c := fun y => by
    by_cases c : y = v
    · subst c; rw [ev]; simp
    · by_cases c2 : y = b
      · subst c2; rw [eb]; simp
      · rw [eo y c c2]; simp
  have hsd : ∀ y, sd (hangM M v true (some b)) P y = sd M P y := fun y => by unfold sd; rw [(same y).1]
  have nv : ∀ y s, y < n → (M y).b s ≠ some v ∧ (M y).b s ≠ some b := fun y s hy => ⟨fun e => (by have := (h.ch y s v hy e).2.1; rw [hvu] at this; cases this), fun e => by have := (h.ch y s b hy e).2.1; rw [hbu] at this; cases this⟩
  have hbt := h.top b hb hbu
  have hdis : ∀ z, z ∈ I v → z ∉ I b := fun z hz hz2 => by
    have h1 := h.row v hv hvu z hz
    have h2 := h.row b hb hbu z hz2
    have : b ∈ r v := by rw [hrv, ← h1, h2]; exact h.self hb
    exact h.one_top hv hvu this (Ne.symm hne) hbu
  have hz : Inv n V r' (fun y => y = v) (hangM M v true (some b)) (putI I v (I v ++ I b)) P D := by
    refine ⟨fun y s z hy hz => ?_, fun y u hy hu2 => ?_, fun y hy => ?_, fun y hy ht => ?_, fun y hy => ?_, fun y hy => ?_, fun y hy => ?_, fun y hy hz => ?_, fun y hy hz => ?_, fun y hy hz => ?_, fun y hy ht => ?_, h.bnd⟩
    · rw [hsd, (same y).2.1]
      by_cases c : y = v ∧ s = true
      · obtain ⟨rfl, rfl⟩ := c
        rw [bv, if_pos rfl] at hz
        cases hz
        exact ⟨hb, by rw [eb], by rw [hbt.1, sd_clear hc], by rw [hbt.2, hc.2.1, hc.2.2.2]; exact wr_zero.symm⟩
      · have hz' : (M y).b s = some z := by
          by_cases c2 : y = v
          · subst c2
            rw [bv, if_neg (fun e => c ⟨rfl, e⟩)] at hz
            exact hz
          · rw [bo y c2] at hz; exact hz
        obtain ⟨g1, g2, g3, g4⟩ := h.ch y s z hy hz'
        exact ⟨g1, by rw [upo z (fun e => (nv y s hy).2 (by rw [hz', e]))]; exact g2, g3, g4⟩
    · by_cases c : y = b
      · subst c
        rw [eb] at hu2
        cases hu2
        exact ⟨hv, true, by rw [bv, if_pos rfl]⟩
      · rw [upo y c] at hu2
        obtain ⟨g1, s, g2⟩ := h.par y u hy hu2
        refine ⟨g1, s, ?_⟩
        by_cases c2 : u = v
        · subst c2
          rw [bv, if_neg (fun e => by subst e; rw [hno] at g2; cases g2)]
          exact g2
        · rw [bo u c2]; exact g2
    · rw [hsd]
      by_cases c : y = v
      · subst c
        have hsp := h.spl y hy
        rw [sd_clear hc] at hsp ⊢
        rw [Bool.not_false, hno] at hsp
        rw [putI_self, Bool.not_false, bv, bv, if_pos rfl, if_neg (by simp), putI_IL _ _ (nv y _ hy).1]
        rw [show IL (putI I y (I y ++ I b)) (some b) = I b from putI_ne _ _ (Ne.symm hne)]
        rw [hsp]
        simp [IL]
      · rw [putI_ne _ _ c, bo y c, putI_IL _ _ (nv y _ hy).1, putI_IL _ _ (nv y _ hy).1]
        exact h.spl y hy
    · rw [upo y (fun e => by subst e; rw [eb] at ht; cases ht)] at ht
      exact h.top y hy ht
    · by_cases c : y = v
      · subst c; rw [putI_self]
        exact List.nodup_append.2 ⟨h.nd y hy, h.nd b hb, fun z hz z2 hz2 e => hdis z hz (e ▸ hz2)⟩
      · rw [putI_ne _ _ c]; exact h.nd y hy
    · by_cases c : y = v
      · subst c; rw [putI_self]
        intro z hz
        rcases List.mem_append.1 hz with e | e
        · exact h.lt y hy z e
        · exact h.lt b hb z e
      · rw [putI_ne _ _ c]; exact h.lt y hy
    · rw [(same y).2.2.1]; exact h.val y hy
    · rw [putI_ne _ _ hz, (same y).2.2.2.1]; exact h.mn y hy id
    · rw [putI_ne _ _ hz, (same y).2.2.2.2.1]; exact h.mx y hy id
    · rw [putI_ne _ _ hz, (same y).2.2.2.2.2]; exact h.cnt y hy id
    · intro z hz
      have hyb : y ≠ b := fun e => by subst e; rw [eb] at ht; cases ht
      rw [upo y hyb] at ht
      by_cases c : y = v
      · subst c
        rw [putI_self] at hz ⊢
        rw [hr, hrv, hrb, if_pos (List.mem_append.1 hz)]
      · rw [putI_ne _ _ c] at hz ⊢
        have h1 : z ∉ r v := fun e => h.one_top hv hvu ((h.row_in hv hy hz).1 e) c ht
        have h2 : z ∉ r b := fun e => h.one_top hb hbu ((h.row_in hb hy hz).1 e) hyb ht
        rw [hr, if_neg (fun e => e.elim h1 h2)]
        exact h.row y hy ht z hz
  have h2 := refM_inv hz hv hc.2.1 (by rw [(same v).2.1]; exact hc.2.2.2) (fun s y hy e => by
    subst e
    have := hz.below hv hy; omega)
  exact h2.mono fun y hy => hy.2 hy.1
theorem join_pot {v : Nat} {l : List Nat} (hv : v < n) : pot (putI I v l) n ≤ pot I n + l.length.log2 := by
  have := pot_upd (I := I) (I' := putI I v l) hv (fun y hy => putI_ne _ _ hy)
  rw [putI_self] at this
  omega
end
end Sv
end Go.Proofs.Ytlkigpmjhojceaa
