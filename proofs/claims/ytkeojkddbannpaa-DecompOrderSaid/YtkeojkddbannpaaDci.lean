/-
  Stage 15: when arcs are an item, told by the row of nodes that they go by. No condition.
-/
import Derived.Test.YtkeojkddbannpaaDcw
namespace Go.Proofs.Ytkeojkddbannpaa
set_option linter.unusedVariables false
set_option linter.unusedSimpArgs false
namespace Dc
open Go.Proofs.Ytkeojkddbannpaa.Ne
/-- arcs that there are, each of which begins where the one ahead ends, up to number j -/
structure Chd (n : Net) (x : ItZ) (j : Nat) : Prop where
  inn : ∀ i, i < j → 0 ≤ amt x.arcs i ∧ amt x.arcs i < (n.l.length : Int)
  chn : ∀ i, i + 1 < j → zfr n x (i + 1) = zto n x i
theorem chd_zero (n : Net) (x : ItZ) : Chd n x 0 := ⟨fun i h => absurd h (by omega), fun i h => absurd h (by omega)⟩
theorem chd_step {n : Net} {x : ItZ} {j : Nat} (h : Chd n x j) (h1 : 0 ≤ amt x.arcs j ∧ amt x.arcs j < (n.l.length : Int)) (h2 : 0 < j → zfr n x j = zto n x (j - 1)) : Chd n x (j + 1) :=
  ⟨fun i hi => by
    by_cases c : i = j
    · rw [c]; exact h1
    · exact h.inn i (by omega), fun i hi => by
    by_cases c : i + 1 = j
    · have := h2 (by omega)
      rw [c, this]; congr 1; omega
    · exact h.chn i (by omega)⟩
/-- the nodes that the first j arcs go by -/
def ndP (n : Net) (x : ItZ) (j : Nat) : List Int := zfr n x 0 :: (List.range j).map (zto n x)
theorem ndP_len (n : Net) (x : ItZ) (j : Nat) : (ndP n x j).length = j + 1 := by simp [ndP]
theorem ndP_snoc (n : Net) (x : ItZ) (j : Nat) : ndP n x j ++ [zto n x j] = ndP n x (j + 1) := by
  unfold ndP; rw [List.range_succ, List.map_append]; rfl
theorem ndP_at {n : Net} {x : ItZ} {j i : Nat} (h : i < j) : amt (ndP n x j) (i + 1) = zto n x i := by
  unfold amt ndP
  rw [List.getD_cons_succ, List.getD_eq_getElem?_getD, List.getElem?_map, List.getElem?_range h]; rfl
theorem ndP_first (n : Net) (x : ItZ) (j : Nat) : amt (ndP n x j) 0 = zfr n x 0 := rfl
/-- a node of them -/
def ndF (n : Net) (x : ItZ) (i : Nat) : Int := if i < x.arcs.length then zfr n x i else zto n x (x.arcs.length - 1)
theorem ndP_all {n : Net} {x : ItZ} (h : Chd n x x.arcs.length) (hne : x.arcs ≠ []) : ndP n x x.arcs.length = (List.range (x.arcs.length + 1)).map (ndF n x) := by
  have hl : 0 < x.arcs.length := List.length_pos_iff.2 hne
  refine List.ext_getElem (by simp [ndP]) fun i h1 h2 => ?_
  rw [List.getElem_map, List.getElem_range]
  rcases i with _ | i
  · unfold ndF ndP; rw [if_pos hl]; rfl
  · have h1' := h1
    rw [ndP_len] at h1'
    have h3 := ndP_at (n := n) (x := x) (j := x.arcs.length) (i := i) (by omega)
    unfold amt at h3
    rw [List.getD_eq_getElem?_getD, List.getElem?_eq_getElem h1] at h3
    have e : (ndP n x x.arcs.length)[i + 1] = zto n x i := h3
    rw [e]
    unfold ndF
    by_cases c : i + 1 < x.arcs.length
    · rw [if_pos c, h.chn i c]
    · rw [if_neg c]; congr 1; omega
theorem nodup_map (F : Nat → Int) (a k : Nat) : (((List.range k).map F).drop a).Nodup ↔ ∀ i j, a ≤ i → i < j → j < k → F i ≠ F j := by
  unfold List.Nodup
  rw [List.pairwise_iff_getElem]
  constructor
  · intro h i j h0 h1 h2
    have := h (i - a) (j - a) (by simp; omega) (by simp; omega) (by omega)
    simp only [List.getElem_drop, List.getElem_map, List.getElem_range] at this
    rwa [show a + (i - a) = i by omega, show a + (j - a) = j by omega] at this
  · intro h i j h1 h2 h3
    simp at h1 h2
    simp only [List.getElem_drop, List.getElem_map, List.getElem_range]
    exact h _ _ (by omega) (by omega) (by omega)
/-- a path, or a path back -/
theorem way_iff {n : Net} {x : ItZ} (h : Chd n x x.arcs.length) (hne : x.arcs ≠ []) (h0 : zfr n x 0 ≠ zto n x (x.arcs.length - 1)) : (ndP n x x.arcs.length).Nodup ↔ (∀ i k, i < k → k < x.arcs.length → zfr n x i ≠ zfr n x k) ∧ ∀ i, 1 ≤ i → i < x.arcs.length → zfr n x i ≠ zto n x (x.arcs.length - 1) := by
  have e : (ndP n x x.arcs.length).Nodup ↔ (((List.range (x.arcs.length + 1)).map (ndF n x)).drop 0).Nodup := by rw [ndP_all h hne, List.drop_zero]
  rw [e, nodup_map]
  constructor
  · intro g
    refine ⟨fun i k h1 h2 => ?_, fun i h1 h2 => ?_⟩
    · have := g i k (Nat.zero_le _) h1 (by omega)
      unfold ndF at this; rwa [if_pos (by omega), if_pos h2] at this
    · have := g i x.arcs.length (Nat.zero_le _) h2 (by omega)
      unfold ndF at this; rwa [if_pos h2, if_neg (by omega)] at this
  · rintro ⟨g1, g2⟩ i k _ h1 h2
    unfold ndF
    by_cases c : k < x.arcs.length
    · rw [if_pos (by omega), if_pos c]; exact g1 i k h1 c
    · rw [if_pos (by omega), if_neg c]
      by_cases d : i = 0
      · rw [d]; exact h0
      · exact g2 i (by omega) (by omega)
/-- a cycle -/
theorem ring_iff {n : Net} {x : ItZ} (h : Chd n x x.arcs.length) (hne : x.arcs ≠ []) (h0 : zfr n x 0 = zto n x (x.arcs.length - 1)) : ((ndP n x x.arcs.length).drop 1).Nodup ↔ (∀ i k, i < k → k < x.arcs.length → zfr n x i ≠ zfr n x k) ∧ ∀ i, 1 ≤ i → i < x.arcs.length → zfr n x i ≠ zto n x (x.arcs.length - 1) := by
  rw [ndP_all h hne, nodup_map]
  constructor
  · intro g
    have g2 : ∀ i, 1 ≤ i → i < x.arcs.length → zfr n x i ≠ zto n x (x.arcs.length - 1) := fun i h1 h2 => by
      have := g i x.arcs.length h1 h2 (by omega)
      unfold ndF at this; rwa [if_pos h2, if_neg (by omega)] at this
    refine ⟨fun i k h1 h2 => ?_, g2⟩
    by_cases d : i = 0
    · rw [d, h0]; exact Ne.symm (g2 k (by omega) h2)
    · have := g i k (by omega) h1 (by omega)
      unfold ndF at this; rwa [if_pos (by omega), if_pos h2] at this
  · rintro ⟨g1, g2⟩ i k h3 h1 h2
    unfold ndF
    by_cases c : k < x.arcs.length
    · rw [if_pos (by omega), if_pos c]; exact g1 i k h1 c
    · rw [if_pos (by omega), if_neg c]; exact g2 i h3 (by omega)
theorem RightI.chd {n : Net} {x : ItZ} (h : RightI n x) : Chd n x x.arcs.length := ⟨h.inn, h.chn⟩
/-- what isItem tells -/
theorem item_iff {n : Net} (hR : Right n) {x : ItZ} (hc : Chd n x x.arcs.length) (hne : x.arcs ≠ []) (h0 : 0 < x.amount) : RightI n x ↔ (x.kind = 112 ∧ zfr n x 0 = n.s ∧ zto n x (x.arcs.length - 1) = n.t ∧ (ndP n x x.arcs.length).Nodup) ∨ (x.kind = 98 ∧ zfr n x 0 = n.t ∧ zto n x (x.arcs.length - 1) = n.s ∧ (ndP n x x.arcs.length).Nodup) ∨ (x.kind = 99 ∧ zfr n x 0 = zto n x (x.arcs.length - 1) ∧ ((ndP n x x.arcs.length).drop 1).Nodup) := by
  constructor
  · intro h
    rcases h.kinds with ⟨k, a, b⟩ | ⟨k, a, b⟩ | ⟨k, a⟩
    · exact Or.inl ⟨k, a, b, (way_iff hc hne (by rw [a, b]; exact hR.ne)).2 ⟨h.nd, h.last⟩⟩
    · exact Or.inr (Or.inl ⟨k, a, b, (way_iff hc hne (by rw [a, b]; exact Ne.symm hR.ne)).2 ⟨h.nd, h.last⟩⟩)
    · exact Or.inr (Or.inr ⟨k, a, (ring_iff hc hne a).2 ⟨h.nd, h.last⟩⟩)
  · rintro (⟨k, a, b, c⟩ | ⟨k, a, b, c⟩ | ⟨k, a, c⟩)
    · obtain ⟨d1, d2⟩ := (way_iff hc hne (by rw [a, b]; exact hR.ne)).1 c
      exact ⟨h0, hne, hc.inn, hc.chn, d1, d2, Or.inl ⟨k, a, b⟩⟩
    · obtain ⟨d1, d2⟩ := (way_iff hc hne (by rw [a, b]; exact Ne.symm hR.ne)).1 c
      exact ⟨h0, hne, hc.inn, hc.chn, d1, d2, Or.inr (Or.inl ⟨k, a, b⟩)⟩
    · obtain ⟨d1, d2⟩ := (ring_iff hc hne a).1 c
      exact ⟨h0, hne, hc.inn, hc.chn, d1, d2, Or.inr (Or.inr ⟨k, a⟩)⟩
end Dc
end Go.Proofs.Ytkeojkddbannpaa
