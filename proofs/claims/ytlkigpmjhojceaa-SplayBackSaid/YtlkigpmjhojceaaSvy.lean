/-
  Stage 9: the guide of descend to a place. No condition.
-/
import Derived.Test.YtlkigpmjhojceaaSvx
namespace Go.Proofs.Ytlkigpmjhojceaa
open Go.ChangeShapes Go.WideShapes Go.ChangeAt Go.RowKit
set_option linter.unusedVariables false
set_option linter.unusedSimpArgs false
namespace Sv
def FB (p g b : Nat) (k : Nat) : Prop := PG p g k ∨ k = b
def QAt (p b1 b2 place : Nat) (l : List Nat) (I : Nat → List Nat) (v : Nat) (wa : World) : Prop :=
  Bx wa b1 (.pointer (some ⟨p, 0, none⟩)) ∧ ∃ pl : Nat, Bx wa b2 (.int .i64 (pl : Int)) ∧ pl < (I v).length ∧ ∃ t u, l = t ++ I v ++ u ∧ t.length + pl = place
section
variable {w w2 w0 : World} {B p g n c : Nat} {V : Nat → Int} {r : Nat → List Nat} {M : Nat → Nd} {I : Nat → List Nat} {P : Nat → Bool} {D : Nat → Int}
theorem at_mid {l t u A B : List Nat} {v pl place : Nat} (hl : l = t ++ (A ++ v :: B) ++ u) (hp : t.length + pl = place) (e : pl = A.length) : l[place]? = some v := by
  rw [hl, List.append_assoc, List.getElem?_append_right (by omega), show place - t.length = A.length by omega]
  simp
set_option maxHeartbeats 2000000 in
theorem guide_at {top b1 b2 place : Nat} (hb1 : b1 ≠ p ∧ b1 ≠ g) (hb2 : b2 ≠ p ∧ b2 ≠ g) (hb : b1 ≠ b2) :
    Guide (FB p g b2) B p g n V r I top 51 (.pointer (some ⟨b1, 0, none⟩)) (.pointer (some ⟨b2, 0, none⟩)) (QAt p b1 b2 place (r top) I) (fun v => (r top)[place]? = some v) := by
  refine ⟨fun k hk => .inl hk, fun v wa wb hq ho => ?_, ?_⟩
  · obtain ⟨q1, pl, q2, q3⟩ := hq
    exact ⟨q1.off ho (by rintro (e | e); exact hb1.1 e; exact hb1.2 e), pl, q2.off ho (by rintro (e | e); exact hb2.1 e; exact hb2.2 e), q3⟩
  intro v wa M P D cc h hI hc hv hr hq
  obtain ⟨q1, pl, q2, hpl, t, u, ht, htl⟩ := hq
  have hsp' : I v = IL I ((M v).b false) ++ v :: IL I ((M v).b true) := by
    have := hI.spl_clear hv hc false
    simpa [ord] using this
  have hl := hI.two hv false
  have hk3 := hI.len hv
  have hsm := h.small
  simp only [Bool.not_false] at hl
  obtain ⟨k, hk⟩ : ∃ k, k = (IL I ((M v).b false)).length := ⟨_, rfl⟩
  have hco : cO M 0 ((M v).b false) = k := by
    rw [hk]
    cases e : (M v).b false with
    | none => rfl
    | some y => simp only [cO, IL]; rw [hI.cnt y (hI.ch v _ y hv e).1 id]; omega
  have HCO := Lib.hid (count_any h ((M v).b false) (fun y hy => (hI.ch v _ y hv hy).1))
  rw [hco] at HCO
  have n0 := h.head
  have c1 := q1.1
  have c2 := q2.1
  have f2 := q2.2.2
  have hvi : (v : Int) < (n : Int) := by omega
  have hv0 : (0 : Int) ≤ (v : Int) := by omega
  have c5 := h.cells hv 5 _ rfl
  have c6 := h.cells hv 6 _ rfl
  obtain ⟨z1, hz1⟩ : ∃ z, z = oi ((M v).b true) := ⟨_, rfl⟩
  obtain ⟨z0, hz0⟩ : ∃ z, z = oi ((M v).b false) := ⟨_, rfl⟩
  rw [← hz0] at c5 HCO
  rw [← hz1] at c6
  have HZ0 := Lib.hid hz0
  have HZ1 := Lib.hid hz1
  have ho : Sp.Off (FB p g b2) wa wa := Sp.Off.refl _ _
  rcases Nat.lt_trichotomy pl k with hlt | heq | hgt
  · have HA := Lib.hid (show SpM wa B p g n M cc ∧ Sp.Off (FB p g b2) wa wa ∧ ((M v).b false = none → (r top)[place]? = some v) ∧ ∀ y, (M v).b false = some y → Kid M v y ∧ QAt p b1 b2 place (r top) I y wa from by
      refine ⟨h, ho, fun e => ?_, fun y e => ⟨⟨_, e⟩, q1, pl, q2, ?_, t, v :: IL I ((M v).b true) ++ u, ?_, htl⟩⟩
      · rw [e] at hk; simp [IL] at hk; omega
      · rw [e] at hk; simp only [IL] at hk; omega
      · rw [ht, hsp', e]; simp [IL])
    have hcmp : (pl : Int) < (k : Int) := by omega
    clear h hI hc q1 q2 ht hsp' hz0 hz1 hr hl hk hco htl hpl ho
    go_enter Try.func51, Try.ntmps51
    go_wp2_with fail
    refine HCO.out.mono ?_
    rintro e w1 ⟨rfl, rfl⟩
    go_wp2
    go_ret
    exact ⟨(M v).b false, by rw [← HZ0.out]; rfl, HA.out⟩
  · have HA := Lib.hid (show SpM wa B p g n M cc ∧ Sp.Off (FB p g b2) wa wa ∧ ((none : Option Nat) = none → (r top)[place]? = some v) ∧ ∀ y, (none : Option Nat) = some y → Kid M v y ∧ QAt p b1 b2 place (r top) I y wa from
      ⟨h, ho, fun _ => at_mid (by rw [ht, hsp']) htl (by omega), fun y e => by cases e⟩)
    have hcmp : ¬ (pl : Int) < (k : Int) := by omega
    have hcm2 : (pl : Int) = (k : Int) := by omega
    clear h hI hc q1 q2 ht hsp' hz0 hz1 hr hl hk hco htl hpl ho
    subst heq
    clear hcm2 hcmp
    go_enter Try.func51, Try.ntmps51
    go_wp2_with fail
    refine HCO.out.mono ?_
    rintro e w1 ⟨rfl, rfl⟩
    go_wp2
    go_ret
    exact ⟨none, rfl, HA.out.1, HA.out.2.1, fun _ => HA.out.2.2.1 trivial, HA.out.2.2.2⟩
  · obtain ⟨q, rfl⟩ : ∃ q, pl = q + k + 1 := ⟨pl - k - 1, by omega⟩
    have HA := Lib.hid (show SpM (wa.setCell ⟨b2, 0, none⟩ (.int .i64 (q : Int))) B p g n M cc ∧ Sp.Off (FB p g b2) wa (wa.setCell ⟨b2, 0, none⟩ (.int .i64 (q : Int))) ∧ ((M v).b true = none → (r top)[place]? = some v) ∧ ∀ y, (M v).b true = some y → Kid M v y ∧ QAt p b1 b2 place (r top) I y (wa.setCell ⟨b2, 0, none⟩ (.int .i64 (q : Int))) from by
      have ho2 : Sp.Off (fun k => k = b2) wa (wa.setCell ⟨b2, 0, none⟩ (.int .i64 (q : Int))) := (Sp.Off.refl (fun k => k = b2) wa).set (p := ⟨b2, 0, none⟩) (.inl rfl) _
      refine ⟨h.off ho2 (fun e => hb2.1 e.symm) (fun e => hb2.2 e.symm), ho2.mono fun k e => .inr e, fun e => ?_, fun y e => ⟨⟨_, e⟩, q1.off ho2 hb, q, q2.set, ?_, t ++ IL I ((M v).b false) ++ [v], u, ?_, ?_⟩⟩
      · rw [e, show IL I none = [] from rfl, ← hk] at hl; simp at hl; omega
      · rw [e, show IL I (some y) = I y from rfl, ← hk] at hl; omega
      · rw [ht, hsp', e]; simp [IL]
      · simp only [List.length_append, List.length_singleton]; rw [← hk]; omega)
    have hcmp : ¬ ((q + k + 1 : Nat) : Int) < (k : Int) := by omega
    have hcm2 : ¬ ((q + k + 1 : Nat) : Int) = (k : Int) := by omega
    have hw1 : IntKind.i64.wrap ((k : Int) + 1) = ((k + 1 : Nat) : Int) := by rw [IntKind.wrap_i64]; omega
    have hw2 : IntKind.i64.wrap (((q + k + 1 : Nat) : Int) - ((k + 1 : Nat) : Int)) = (q : Int) := by rw [IntKind.wrap_i64]; omega
    clear h hI hc q1 q2 ht hsp' hz0 hz1 hr hl hk hco htl hpl ho hgt
    generalize q + k + 1 = pp at *
    generalize k + 1 = kk at *
    go_enter Try.func51, Try.ntmps51
    go_wp2_with fail
    refine HCO.out.mono ?_
    rintro e w1 ⟨rfl, rfl⟩
    go_wp2
    go_ret
    exact ⟨(M v).b true, by rw [← HZ1.out]; rfl, HA.out⟩
end
end Sv
end Go.Proofs.Ytlkigpmjhojceaa
