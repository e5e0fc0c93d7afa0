/-
  FlowAdds: plain facts on two flows together, and on one more on one arc. No condition.
-/
import Derived.Test.YtiimomonbdckgaaFlh
namespace Go.Proofs.Ytiimomonbdckgaa
open Go.ChangeShapes Go.WideShapes Go.ChangeAt Go.RowKit
set_option linter.unusedVariables false
set_option linter.unusedSimpArgs false
namespace Ne
theorem arow_set {w : World} {b off : Nat} {l : List Arc} {p : Addr} {v : Value} (h : ARow w (some ⟨b, off, none⟩) l) (hp : p.block ≠ b) : ARow (w.setCell p v) (some ⟨b, off, none⟩) l := by
  rcases h with h | ⟨b', off', e, hlt, hc⟩
  · exact .inl h
  · cases e
    exact .inr ⟨b, off, rfl, by simpa [World.setCell] using hlt, fun i x hx j u hu => (World.cell?_setCell_far w p ⟨b, off + (i * 3 + j), none⟩ v hp).trans (hc i x hx j u hu)⟩
theorem add_comm {n : Net} {f g : List Int} (ck : checkN n = 0) (hF : Flow n f) (hG : Flow n g) : addE n f g = addE n g f ∧ addL n f g = addL n g f := by
  have h1 := flow_chkF ck hF
  have h2 := flow_chkF ck hG
  have e : addE n f g = addE n g f := by
    unfold addE
    rw [h1, h2]
    simp only [ne_eq, not_true_eq_false, if_false]
    have : (∀ i, i < n.l.length → amt f i + amt g i ≤ (arcAt n.l i).cap) ↔ (∀ i, i < n.l.length → amt g i + amt f i ≤ (arcAt n.l i).cap) := ⟨fun h i hi => by have := h i hi; omega, fun h i hi => by have := h i hi; omega⟩
    by_cases c : ∀ i, i < n.l.length → amt f i + amt g i ≤ (arcAt n.l i).cap
    · rw [if_pos c, if_pos (this.1 c)]
    · rw [if_neg c, if_neg (fun h => c (this.2 h))]
  refine ⟨e, ?_⟩
  unfold addL
  rw [e]
  by_cases c : addE n g f = 0
  · rw [if_neg (by simpa using c), if_neg (by simpa using c)]
    refine ext_amt (by rw [sumL_len, sumL_len, hF.len, hG.len]) fun i hi => ?_
    rw [sumL_len] at hi
    rw [sumL_at hi, sumL_at (by rw [hG.len, ← hF.len]; exact hi)]; omega
  · rw [if_pos c, if_pos c]
theorem add_nought {n : Net} {f : List Int} (ck : checkN n = 0) (hF : Flow n f) : addE n f (List.replicate n.l.length 0) = 0 ∧ addL n f (List.replicate n.l.length 0) = f := by
  have h0 : ∀ i, amt (List.replicate n.l.length (0 : Int)) i = 0 := fun i => by
    unfold amt
    by_cases e : i < n.l.length
    · simp [e]
    · simp [Nat.not_lt.1 e]
  obtain ⟨h1, h2⟩ := addE_fit ck hF (flow_nought (right_of ck)) fun i hi => by rw [h0]; have := hF.wi i hi; omega
  exact ⟨h1, by rw [h2]; exact sumL_eq rfl fun i _ => by rw [h0]; omega⟩
theorem addE_zero {n : Net} {f g : List Int} (h : addE n f g = 0) : addL n f g = sumL f g ∧ ∀ i, i < n.l.length → amt f i + amt g i ≤ (arcAt n.l i).cap := by
  refine ⟨by unfold addL; rw [if_neg (by simpa using h)], ?_⟩
  unfold addE at h
  by_cases c1 : chkF n f = 0
  case neg => rw [if_pos c1] at h; exact absurd h c1
  rw [if_neg (by simpa using c1)] at h
  by_cases c2 : chkF n g = 0
  case neg => rw [if_pos c2] at h; exact absurd h c2
  rw [if_neg (by simpa using c2)] at h
  by_cases c3 : ∀ i, i < n.l.length → amt f i + amt g i ≤ (arcAt n.l i).cap
  · exact c3
  · rw [if_neg c3] at h; cases h
theorem both_flow {n : Net} {f g : List Int} (hF : Flow n f) (hG : Flow n g) (h : addE n f g = 0) : Flow n (addL n f g) ∧ exc n.l (addL n f g) n.t = exc n.l f n.t + exc n.l g n.t := by
  obtain ⟨h1, h2⟩ := addE_zero h
  have e : ∀ i, i < n.l.length → amt (addL n f g) i = amt f i + amt g i := fun i hi => by rw [h1, sumL_at (by rw [hF.len]; exact hi)]
  exact ⟨flow_plus hF hG (by rw [h1, sumL_len, hF.len]) e h2, exc_plus e _⟩
theorem addE_none {n : Net} {f g : List Int} (ck : checkN n = 0) (hF : Flow n f) (hG : Flow n g) (h : n.l.length = 0) : addE n f g = 0 :=
  (addE_fit ck hF hG fun i hi => by omega).1
/-- whether more on one arc alone leaves a flow -/
def freeA (s t : Int) (a : Arc) : Prop := a.fr = a.to ∨ ((a.fr = s ∨ a.fr = t) ∧ (a.to = s ∨ a.to = t))
theorem more_chk {n : Net} {f : List Int} (ck : checkN n = 0) (hF : Flow n f) {k : Nat} (hk : k < n.l.length) :
    ((arcAt n.l k).cap < amt f k + 1 → chkF n (f.set k (amt f k + 1)) = 3) ∧
    (¬ (arcAt n.l k).cap < amt f k + 1 → freeA n.s n.t (arcAt n.l k) → chkF n (f.set k (amt f k + 1)) = 0) ∧
    (¬ (arcAt n.l k).cap < amt f k + 1 → ¬ freeA n.s n.t (arcAt n.l k) → chkF n (f.set k (amt f k + 1)) = 9) := by
  have hR := right_of ck
  have hkf : k < f.length := by rw [hF.len]; exact hk
  have hlen : (f.set k (amt f k + 1)).length = n.l.length := by rw [List.length_set, hF.len]
  have hat : ∀ i, amt (f.set k (amt f k + 1)) i = if i = k then amt f k + 1 else amt f i := fun i => amt_set _ hkf i
  have hex : ∀ v, exc n.l (f.set k (amt f k + 1)) v = exc n.l f v + dl v (arcAt n.l k) := fun v => by
    rw [exc_eq, exc_eq, excC_set _ _ hF.len hk, show amt f k + 1 - amt f k = 1 by omega, Int.mul_one]
  refine ⟨fun h => ?_, fun h hf => ?_, fun h hf => ?_⟩
  · have e : chkA n (f.set k (amt f k + 1)) = 3 := chkA_rng ck hlen fun hw => by have := hw k hk; rw [hat k, if_pos rfl] at this; omega
    unfold chkF; rw [e]; rfl
  all_goals
    have hw : wi n.l (f.set k (amt f k + 1)) := fun i hi => by
      rw [hat i]
      by_cases e : i = k
      · subst e; rw [if_pos rfl]; have := hF.wi i hi; omega
      · rw [if_neg e]; exact hF.wi i hi
    have ha := chkA_in ck hlen hw
  · refine chkF_in ha fun v _ hs ht => ?_
    rw [hex, hF.calm v hs ht]
    unfold dl
    rcases hf with h1 | ⟨h1, h2⟩
    · rw [h1]; omega
    · rw [if_neg (by omega), if_neg (by omega)]; rfl
  · unfold chkF
    rw [if_neg (by simpa using ha), if_neg]
    intro hc
    apply hf
    have q1 := hR.fr0 k hk
    have q2 := hR.fr1 k hk
    have q3 := hR.to0 k hk
    have q4 := hR.to1 k hk
    have hd : ∀ v : Int, 1 ≤ v → v ≤ n.n → v ≠ n.s → v ≠ n.t → dl v (arcAt n.l k) = 0 := fun v h1 h2 hs ht => by
      have := hc v.toNat (by omega) (by omega) (by omega)
      rw [show ((v.toNat : Nat) : Int) = v by omega, hex, hF.calm v hs ht] at this
      omega
    by_cases e : (arcAt n.l k).fr = (arcAt n.l k).to
    · exact .inl e
    · refine .inr ⟨?_, ?_⟩
      · by_cases c : (arcAt n.l k).fr = n.s ∨ (arcAt n.l k).fr = n.t
        · exact c
        · have := hd _ q1 q2 (by omega) (by omega)
          unfold dl at this
          rw [if_neg (Ne.symm e), if_pos rfl] at this
          omega
      · by_cases c : (arcAt n.l k).to = n.s ∨ (arcAt n.l k).to = n.t
        · exact c
        · have := hd _ q3 q4 (by omega) (by omega)
          unfold dl at this
          rw [if_pos rfl, if_neg e] at this
          omega
end Ne
end Go.Proofs.Ytiimomonbdckgaa
