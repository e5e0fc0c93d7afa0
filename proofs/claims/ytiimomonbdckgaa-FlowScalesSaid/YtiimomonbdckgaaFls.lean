/-
  FlowScales: plain facts on a network and a flow times a number. No condition.
-/
import Derived.Test.YtiimomonbdckgaaFla
import Derived.Test.YtiimomonbdckgaaFln
namespace Go.Proofs.Ytiimomonbdckgaa
open Go.ChangeShapes Go.WideShapes Go.ChangeAt Go.RowKit
set_option linter.unusedVariables false
set_option linter.unusedSimpArgs false
namespace Ne
def scA (x : Int) (l : List Arc) : List Arc := l.map fun a => ⟨a.fr, a.to, x * a.cap⟩
theorem scA_len (x : Int) (l : List Arc) : (scA x l).length = l.length := by simp [scA]
theorem scA_at {x : Int} {l : List Arc} {i : Nat} (h : i < l.length) : arcAt (scA x l) i = ⟨(arcAt l i).fr, (arcAt l i).to, x * (arcAt l i).cap⟩ := by simp [scA, arcAt, h]
theorem scA_take {x : Int} {l : List Arc} {j : Nat} {fr to ca : Int} (h : j < l.length) (e : arcAt l j = ⟨fr, to, ca⟩) : (scA x l).take (j + 1) = (scA x l).take j ++ [⟨fr, to, x * ca⟩] := by
  have h1 : (scA x l)[j]? = some ⟨fr, to, x * ca⟩ := by rw [at_arc (by rw [scA_len]; exact h), scA_at h, e]
  rw [List.take_add_one, h1]; rfl
/-- the first j amounts times x, nothing behind them -/
def mulL (x : Int) (f : List Int) (n j : Nat) : List Int := (List.range n).map fun i => if i < j then x * amt f i else 0
theorem mulL_len (x : Int) (f : List Int) (n j : Nat) : (mulL x f n j).length = n := by simp [mulL]
theorem mulL_at {x : Int} {f : List Int} {n j i : Nat} (h : i < n) : amt (mulL x f n j) i = if i < j then x * amt f i else 0 := by simp [mulL, amt, h]
theorem mulL_zero (x : Int) (f : List Int) (n : Nat) : mulL x f n 0 = List.replicate n 0 := by
  refine ext_amt (by simp [mulL]) fun i hi => ?_
  rw [mulL_len] at hi
  rw [mulL_at hi, if_neg (by omega)]; simp [amt, hi]
theorem mulL_succ {x : Int} {f : List Int} {n j : Nat} (h : j < n) : (mulL x f n j).set j (x * amt f j) = mulL x f n (j + 1) := by
  refine ext_amt (by simp [mulL]) fun i hi => ?_
  rw [List.length_set, mulL_len] at hi
  rw [amt_set _ (by rw [mulL_len]; exact h), mulL_at hi, mulL_at hi]
  by_cases e : i = j
  · subst e; rw [if_pos rfl, if_pos (by omega)]
  · rw [if_neg e]
    by_cases c : i < j
    · rw [if_pos c, if_pos (by omega)]
    · rw [if_neg c, if_neg (by omega)]
theorem checkL_fit {n : Int} : ∀ (l : List Arc) (left : Int), (∀ a ∈ l, isNode n a.fr = true ∧ isNode n a.to = true ∧ 0 ≤ a.cap ∧ a.cap ≤ 1000000000) → 1000000000 * (l.length : Int) ≤ left → checkL n left l = 0
  | [], _, _, _ => rfl
  | a :: l, left, h, hl => by
    obtain ⟨h1, h2, h3, h4⟩ := h a List.mem_cons_self
    simp only [List.length_cons, Int.natCast_add, Int.natCast_one] at hl
    rw [checkL, h1, h2]
    simp only [Bool.and_true, if_true]
    rw [if_neg (by omega), if_neg (by omega)]
    exact checkL_fit l (left - a.cap) (fun b hb => h b (List.mem_cons_of_mem _ hb)) (by omega)
theorem mul_bd {x y Y : Int} (h1 : 1 ≤ x) (h2 : x ≤ 1000) (h3 : 0 ≤ y) (h4 : y ≤ Y) : 0 ≤ x * y ∧ x * y ≤ 1000 * Y := by
  have a := Int.mul_nonneg (a := x) (b := y) (by omega) h3
  have b := Int.mul_le_mul_of_nonneg_right (a := x) (b := 1000) h2 h3
  omega
theorem sc_check {n s t : Int} {l : List Arc} (hR : fineH ⟨n, s, t, l⟩) (hl : ∀ a ∈ l, fineA n a) (h24 : l.length ≤ 24) {x : Int} (h1 : 1 ≤ x) (h2 : x ≤ 1000) : checkN ⟨n, s, t, scA x l⟩ = 0 := by
  obtain ⟨q1, q2, q3, q4, q5, q6, q7, q8⟩ := hR
  rw [checkN_head (n := ⟨n, s, t, scA x l⟩) ⟨q1, q2, q3, q4, q5, q6, q7, by simp only [scA_len]; omega⟩]
  refine checkL_fit _ _ (fun a ha => ?_) (by simp only [scA_len]; omega)
  obtain ⟨b, hb, rfl⟩ := List.mem_map.1 ha
  obtain ⟨g1, g2, g3, g4⟩ := hl b hb
  have := mul_bd h1 h2 g3 g4
  exact ⟨g1, g2, this.1, by simp only; omega⟩
theorem sc_flow {n s t : Int} {l : List Arc} {f : List Int} {x : Int} (hF : Flow ⟨n, s, t, l⟩ f) (h1 : 1 ≤ x) : Flow ⟨n, s, t, scA x l⟩ (mulL x f l.length l.length) ∧ exc (scA x l) (mulL x f l.length l.length) t = x * exc l f t := by
  have e : ∀ i, i < l.length → amt (mulL x f l.length l.length) i = x * amt f i := fun i hi => by rw [mulL_at hi, if_pos hi]
  have he : ∀ v, exc (scA x l) (mulL x f l.length l.length) v = x * exc l f v := fun v => exc_times x (scA_len x l) (fun i hi => by rw [scA_at hi]; exact ⟨rfl, rfl⟩) e v
  obtain ⟨q1, q2, q3, q4, q5⟩ := hF
  simp only at q1 q2 q3 q4 q5
  refine ⟨⟨by simp [mulL_len, scA_len], fun i hi => ?_, fun v hs ht => ?_, ?_, ?_⟩, he t⟩
  · have hi2 : i < l.length := by simpa [scA_len] using hi
    have := q2 i hi2
    show 0 ≤ amt (mulL x f l.length l.length) i ∧ amt (mulL x f l.length l.length) i ≤ (arcAt (scA x l) i).cap
    rw [e i hi2, scA_at hi2]
    exact ⟨Int.mul_nonneg (by omega) this.1, Int.mul_le_mul_of_nonneg_left this.2 (by omega)⟩
  · simp only; rw [he, q3 v hs ht]; simp
  · simp only; rw [he, he, q4, Int.mul_neg]
  · simp only; rw [he]; exact Int.mul_nonneg (by omega) q5
theorem capS_le {l : List Arc} (h : ∀ i, i < l.length → (arcAt l i).cap ≤ 1000000) : ∀ k, k ≤ l.length → capS l k ≤ 1000000 * (k : Int)
  | 0, _ => by simp [capS, sumTo]
  | k + 1, hk => by
    have h1 := capS_le h k (by omega)
    have h2 := h k (by omega)
    have e : capS l (k + 1) = capS l k + (arcAt l k).cap := rfl
    rw [e]; omega
theorem val_small {n s t : Int} {l : List Arc} {f : List Int} (hR : Right ⟨n, s, t, l⟩) (hF : Flow ⟨n, s, t, l⟩ f) (hl : ∀ a ∈ l, fineA n a) (h24 : l.length ≤ 24) : exc l f t ≤ 24000000 := by
  have h1 := exc_inC (l := l) hF.wi t
  have h2 : inC l t l.length ≤ capS l l.length := sumTo_le fun i hi => by have := hR.cap0 i hi; simp only at this; split <;> omega
  have h3 := capS_le (l := l) (fun i hi => by
    have := (hl (arcAt l i) (List.mem_of_getElem? (at_arc hi))).2.2.2; exact this) l.length (Nat.le_refl _)
  omega
end Ne
end Go.Proofs.Ytiimomonbdckgaa
