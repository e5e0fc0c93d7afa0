/-
  FlowLoops: plain facts on one loop more. No condition.
-/
import Derived.Test.YtiimomonbdckgaaFl5
namespace Go.Proofs.Ytiimomonbdckgaa
open Go.ChangeShapes Go.WideShapes Go.ChangeAt Go.RowKit
set_option linter.unusedVariables false
set_option linter.unusedSimpArgs false
namespace Ne
theorem loop_check {n s t : Int} {l : List Arc} {u : Int} (hh : 2 ≤ n ∧ n ≤ 9 ∧ 1 ≤ s ∧ s ≤ n ∧ 1 ≤ t ∧ t ≤ n ∧ s ≠ t) (hl : l.length ≤ 24) (hf : ∀ a ∈ l, fineA n a) (h1 : 1 ≤ u) (h2 : u ≤ n) : checkN ⟨n, s, t, l ++ [⟨u, u, 9⟩]⟩ = 0 := by
  refine checkN_fine ⟨by simp only; omega, by simp only; omega, by simp only; omega, by simp only; omega, by simp only; omega, by simp only; omega, hh.2.2.2.2.2.2, by simp; omega⟩ fun a ha => ?_
  rcases List.mem_append.1 ha with h | h
  · exact hf a h
  · simp at h; subst h
    refine ⟨(isNode_iff _ _).2 ⟨?_, ?_⟩, (isNode_iff _ _).2 ⟨?_, ?_⟩, ?_, ?_⟩ <;> simp only <;> omega
theorem exc_loop {l : List Arc} {f : List Int} (hl : f.length = l.length) (u x v : Int) : exc (l ++ [⟨u, u, 9⟩]) (f ++ [x]) v = exc l f v := by rw [exc_snoc _ _ hl, dl_loop]; omega
theorem wi_loop {l : List Arc} {f : List Int} (hl : f.length = l.length) (hw : wi l f) (u : Int) {x : Int} (h0 : 0 ≤ x) (h9 : x ≤ 9) : wi (l ++ [⟨u, u, 9⟩]) (f ++ [x]) := by
  intro i hi
  by_cases e : i = l.length
  · subst e
    have e1 : arcAt (l ++ [⟨u, u, 9⟩]) l.length = ⟨u, u, 9⟩ := by simp [arcAt]
    have e2 : amt (f ++ [x]) l.length = x := by rw [← hl]; simp [amt]
    rw [e1, e2]; exact ⟨h0, h9⟩
  · have hi2 : i < l.length := by simp at hi; omega
    have e3 : arcAt (l ++ [⟨u, u, 9⟩]) i = arcAt l i := by simp [arcAt, List.getElem?_append_left hi2]
    have e4 : amt (f ++ [x]) i = amt f i := by simp [amt, List.getElem?_append_left (show i < f.length by omega)]
    rw [e3, e4]; exact hw i hi2
theorem wi_no {l : List Arc} {f : List Int} (hl : f.length = l.length) (u : Int) {x : Int} (h9 : 9 < x) : ¬ wi (l ++ [⟨u, u, 9⟩]) (f ++ [x]) := by
  intro h
  have e1 : arcAt (l ++ [⟨u, u, 9⟩]) l.length = ⟨u, u, 9⟩ := by simp [arcAt]
  have e2 : amt (f ++ [x]) l.length = x := by rw [← hl]; simp [amt]
  have := h l.length (by simp)
  rw [e1, e2] at this; simp only at this; omega
theorem loop_flow {n s t : Int} {l : List Arc} {f : List Int} {u x : Int} (hF : Flow ⟨n, s, t, l⟩ f) (h0 : 0 ≤ x) (h9 : x ≤ 9) : Flow ⟨n, s, t, l ++ [⟨u, u, 9⟩]⟩ (f ++ [x]) := by
  obtain ⟨q1, q2, q3, q4, q5⟩ := hF
  simp only at q1 q2 q3 q4 q5
  exact ⟨by simp [q1], wi_loop q1 q2 u h0 h9, fun v a b => by simp only; rw [exc_loop q1]; exact q3 v a b, by simp only; rw [exc_loop q1, exc_loop q1]; exact q4, by simp only; rw [exc_loop q1]; exact q5⟩
theorem loop_no {n s t : Int} {l : List Arc} {f : List Int} {u x : Int} (ck : checkN ⟨n, s, t, l ++ [⟨u, u, 9⟩]⟩ = 0) (hl : f.length = l.length) (h9 : 9 < x) : chkF ⟨n, s, t, l ++ [⟨u, u, 9⟩]⟩ (f ++ [x]) = 3 ∧ vaV ⟨n, s, t, l ++ [⟨u, u, 9⟩]⟩ (f ++ [x]) = 0 := by
  have e : chkA ⟨n, s, t, l ++ [⟨u, u, 9⟩]⟩ (f ++ [x]) = 3 := chkA_rng ck (by simp [hl]) (wi_no hl u h9)
  have e2 : chkF ⟨n, s, t, l ++ [⟨u, u, 9⟩]⟩ (f ++ [x]) = 3 := by unfold chkF; rw [e]; rfl
  exact ⟨e2, by unfold vaV; rw [e2]; rfl⟩
theorem ownL_row {w : World} {B : Nat} {v : Value} {l : List Int} (h : OwnL w B v l) (h0 : 0 < l.length) : ∃ g c, v = .slice (some ⟨g, 0, none⟩) l.length c ∧ B ≤ g ∧ g < w.heap.size := by
  obtain ⟨ao, cap, h1, _, _, _, h5, h6, h7⟩ := Rw.own_row encI_len h
  rcases h5 with h | ⟨b, off, rfl, _, _⟩
  · rw [h] at h0; simp at h0
  · obtain ⟨b', e⟩ := h7 _ rfl
    cases e
    exact ⟨b, cap, h1, (h6 b 0 rfl).1, (h6 b 0 rfl).2⟩
end Ne
end Go.Proofs.Ytiimomonbdckgaa
