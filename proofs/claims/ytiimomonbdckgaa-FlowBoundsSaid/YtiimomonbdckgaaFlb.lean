/-
  FlowBounds: plain facts on drawn amounts, and on one above or below. No condition.
-/
import Derived.Test.YtiimomonbdckgaaFln
namespace Go.Proofs.Ytiimomonbdckgaa
open Go.ChangeShapes Go.WideShapes Go.ChangeAt Go.RowKit
set_option linter.unusedVariables false
set_option linter.unusedSimpArgs false
namespace Ne
/-- the first j amounts as drawn, nothing behind them -/
def drawL (l : List Arc) (ks : List Int) (j : Nat) : List Int := (List.range l.length).map fun i => if i < j then pickN (amt ks i) ((arcAt l i).cap + 1) else 0
theorem drawL_len (l : List Arc) (ks : List Int) (j : Nat) : (drawL l ks j).length = l.length := by simp [drawL]
theorem drawL_at {l : List Arc} {ks : List Int} {j i : Nat} (h : i < l.length) : amt (drawL l ks j) i = if i < j then pickN (amt ks i) ((arcAt l i).cap + 1) else 0 := by simp [drawL, amt, h]
theorem drawL_zero (l : List Arc) (ks : List Int) : drawL l ks 0 = List.replicate l.length 0 := by
  refine ext_amt (by simp [drawL]) fun i hi => ?_
  rw [drawL_len] at hi
  rw [drawL_at hi, if_neg (by omega)]; simp [amt, hi]
theorem drawL_succ {l : List Arc} {ks : List Int} {j : Nat} (h : j < l.length) : (drawL l ks j).set j (pickN (amt ks j) ((arcAt l j).cap + 1)) = drawL l ks (j + 1) := by
  refine ext_amt (by simp [drawL]) fun i hi => ?_
  rw [List.length_set, drawL_len] at hi
  rw [amt_set _ (by rw [drawL_len]; exact h), drawL_at hi, drawL_at hi]
  by_cases e : i = j
  · subst e; rw [if_pos rfl, if_pos (by omega)]
  · rw [if_neg e]
    by_cases c : i < j
    · rw [if_pos c, if_pos (by omega)]
    · rw [if_neg c, if_neg (by omega)]
theorem drawL_wi {n : Net} (hR : Right n) (ks : List Int) (j : Nat) : wi n.l (drawL n.l ks j) := fun i hi => by
  have h0 := hR.cap0 i hi
  rw [drawL_at hi]
  by_cases c : i < j
  · rw [if_pos c]; have := pickN_bd (c := amt ks i) (n := (arcAt n.l i).cap + 1) (by omega); omega
  · rw [if_neg c]; omega
theorem set_bad {n : Net} {f : List Int} (ck : checkN n = 0) (hl : f.length = n.l.length) {k : Nat} (hk : k < n.l.length) {y : Int} (h : y < 0 ∨ (arcAt n.l k).cap < y) : chkF n (f.set k y) = 3 := by
  have e : chkA n (f.set k y) = 3 := chkA_rng ck (by rw [List.length_set, hl]) (wi_bad hk (by rw [amt_set _ (by omega), if_pos rfl]; exact h))
  unfold chkF; rw [e]; rfl
theorem exE_out {n : Net} {f : List Int} (ck : checkN n = 0) (hl : f.length = n.l.length) (hw : wi n.l f) {v : Int} (h : v < 1 ∨ n.n < v) : exE n f v = 4 ∧ exV n f v = 0 := by
  have e : exE n f v = 4 := by unfold exE; rw [if_neg (by simpa using chkA_in ck hl hw), if_pos h]
  exact ⟨e, by unfold exV; rw [e]; rfl⟩
theorem chkF_cnt {n : Net} {f : List Int} (ck : checkN n = 0) (hl : f.length ≠ n.l.length) : chkF n f = 6 := by
  have e := chkA_cnt ck hl
  unfold chkF; rw [e]; rfl
theorem chkF_is {n : Net} {f : List Int} (ck : checkN n = 0) (hl : f.length = n.l.length) (hw : wi n.l f) : (calm n f → chkF n f = 0) ∧ (¬ calm n f → chkF n f = 9) :=
  ⟨fun h => chkF_in (chkA_in ck hl hw) h, fun h => by unfold chkF; rw [if_neg (by simpa using chkA_in ck hl hw), if_neg h]⟩
theorem calm_int {n : Net} (hR : Right n) {f : List Int} : calm n f ↔ ∀ v : Int, 1 ≤ v → v < n.n + 1 → v ≠ n.s → v ≠ n.t → exc n.l f v = 0 := by
  have h0 := hR.n0
  refine ⟨fun h v h1 h2 hs ht => ?_, fun h v hv hs ht => ?_⟩
  · have := h v.toNat (by omega) (by omega) (by omega)
    rwa [show ((v.toNat : Nat) : Int) = v by omega] at this
  · by_cases c : (v : Int) < 1
    · exact exc_out hR f c
    · exact h _ (by omega) (by omega) hs ht
theorem irow_drop {w : World} {b : Nat} {f : List Int} (h : LBox w b f) : IRow w (some ⟨b, 1, none⟩) (f.drop 1) := by
  rcases h.irow with h0 | ⟨b', off', e, hlt, hc⟩
  · left; rw [h0]; rfl
  · cases e
    refine .inr ⟨b, 1, rfl, hlt, fun i x hx j v hv => ?_⟩
    rw [List.getElem?_drop] at hx
    have := hc (1 + i) x hx j v hv
    rw [show 0 + ((1 + i) * 1 + j) = 1 + (i * 1 + j) by omega] at this
    exact this
end Ne
end Go.Proofs.Ytiimomonbdckgaa
