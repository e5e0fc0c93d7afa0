/-
  Stage 10: plain facts of what is added along a path, and of its least node. No condition.
-/
import Derived.Test.YtjhodnpmogkmmaaFlp
import Derived.Test.YtjhodnpmogkmmaaSpf
namespace Go.Proofs.Ytjhodnpmogkmmaa
set_option linter.unusedVariables false
set_option linter.unusedSimpArgs false
namespace Fo
theorem snoc_ind {P : List Nat → Prop} (h0 : P []) (h1 : ∀ l a, P l → P (l ++ [a])) : ∀ l, P l := by
  have : ∀ n (l : List Nat), l.length = n → P l := by
    intro n
    induction n with
    | zero => intro l hl; rw [List.eq_nil_of_length_eq_zero hl]; exact h0
    | succ n ih =>
      intro l hl
      rcases List.eq_nil_or_concat l with rfl | ⟨A, a, rfl⟩
      · simp at hl
      · rw [List.concat_eq_append] at hl ⊢
        exact h1 A a (ih A (by simpa using hl))
  exact fun l => this l.length l rfl
/-- the first of the least ones -/
theorem least_split (v : List Int) : ∀ l : List Nat, l = [] ∧ Sp.leastL v l = -1 ∨ ∃ (t : List Nat) (a : Nat) (u : List Nat), l = t ++ a :: u ∧ Sp.leastL v l = (a : Int) ∧ (∀ y ∈ t, Ne.amt v a < Ne.amt v y) ∧ ∀ y ∈ u, Ne.amt v a ≤ Ne.amt v y := by
  refine snoc_ind (.inl ⟨rfl, rfl⟩) fun l i ih => .inr ?_
  rcases ih with ⟨rfl, h⟩ | ⟨t, a, u, rfl, h1, h2, h3⟩
  · refine ⟨[], i, [], rfl, ?_, by simp, by simp⟩
    rw [Sp.leastL_snoc, h, if_pos (.inl (by omega))]
  · by_cases c : Ne.amt v i < Ne.amt v a
    · refine ⟨t ++ a :: u, i, [], rfl, ?_, fun y hy => ?_, by simp⟩
      · rw [Sp.leastL_snoc, h1, if_pos (.inr (by simpa using c))]
      · rcases List.mem_append.1 hy with d | d
        · have := h2 y d; omega
        · rcases List.mem_cons.1 d with e | e
          · rw [e]; exact c
          · have := h3 y e; omega
    · refine ⟨t, a, u ++ [i], by simp, ?_, h2, fun y hy => ?_⟩
      · rw [Sp.leastL_snoc, h1, if_neg (by simp; omega)]
      · rcases List.mem_append.1 hy with d | d
        · exact h3 y d
        · simp at d; rw [d]; omega
/-- comparisons alone matter -/
theorem least_cong {v w : List Int} : ∀ l : List Nat, (∀ a ∈ l, ∀ b ∈ l, (Ne.amt v a < Ne.amt v b ↔ Ne.amt w a < Ne.amt w b)) → Sp.leastL v l = Sp.leastL w l := by
  refine snoc_ind (fun _ => rfl) fun l i ih h => ?_
  have ih' := ih fun a ha b hb => h a (List.mem_append_left _ ha) b (List.mem_append_left _ hb)
  rw [Sp.leastL_snoc, Sp.leastL_snoc, ← ih']
  rcases Sp.leastL_in v (n := (l.foldl Nat.max 0) + 1) l (fun y hy => by
    have : ∀ (l : List Nat) (b : Nat), (∀ y ∈ l, y ≤ l.foldl Nat.max b) ∧ b ≤ l.foldl Nat.max b := by
      intro l
      induction l with
      | nil => intro b; simp
      | cons c l ih =>
        intro b
        obtain ⟨g1, g2⟩ := ih (Nat.max b c)
        refine ⟨fun y hy => ?_, Nat.le_trans (Nat.le_max_left b c) g2⟩
        rcases List.mem_cons.1 hy with e | e
        · rw [e]; exact Nat.le_trans (Nat.le_max_right b c) g2
        · exact g1 y e
    exact Nat.lt_succ_of_le ((this l 0).1 y hy)) with ⟨h1, _⟩ | ⟨h1, h2⟩
  · rw [h1]; simp
  · have := h i (by simp) _ (List.mem_append_left _ h2)
    simp only [this]
section
variable {f : Ft}
theorem leastZ_nat (f : Ft) (v : Nat) : leastZ f (v : Int) = Sp.leastL f.v (path f v) := by unfold leastZ; rw [pathZ_nat]
/-- the least node of a path, where it stands -/
theorem least_says (h : Good f) {v : Nat} (hv : v < f.v.length) : ∃ k le : Nat, (path f v)[k]? = some le ∧ leastZ f (v : Int) = (le : Int) ∧ le < f.v.length ∧ k < (path f v).length ∧
    (∀ i y : Nat, (path f v)[i]? = some y → ¬ Ne.amt f.v y < Ne.amt f.v le) ∧ (∀ i y : Nat, (path f v)[i]? = some y → i < k → Ne.amt f.v y ≠ Ne.amt f.v le) ∧ (∀ i y : Nat, (path f v)[i]? = some y → (y = le ↔ i = k)) := by
  have hn := h.path_nodup v
  rw [leastZ_nat]
  rcases least_split f.v (path f v) with ⟨h1, _⟩ | ⟨t, a, u, h1, h2, h3, h4⟩
  · have := h.path_self hv; rw [h1] at this; simp at this
  · have hat : (path f v)[t.length]? = some a := by rw [h1, List.getElem?_append_right (Nat.le_refl _), Nat.sub_self]; rfl
    refine ⟨t.length, a, hat, h2, h.path_lt (x := v) (by rw [h1]; simp), by rw [h1]; simp, fun i y hy => ?_, fun i y hy hi => ?_, fun i y hy => ?_⟩
    · have hm := List.mem_of_getElem? hy
      rw [h1] at hm
      rcases List.mem_append.1 hm with d | d
      · have := h3 y d; omega
      · rcases List.mem_cons.1 d with e | e
        · rw [e]; omega
        · have := h4 y e; omega
    · rw [h1, List.getElem?_append_left hi] at hy
      have := h3 y (List.mem_of_getElem? hy)
      omega
    · constructor
      · intro e
        rw [e] at hy
        exact (List.getElem?_inj (List.getElem?_eq_some_iff.1 hy).1 hn).1 (by rw [hy, hat])
      · intro e
        rw [e, hat] at hy
        exact (Option.some.inj hy).symm
/-- what is added, if it is small -/
theorem add_says (h : Good f) {v : Nat} (hv : v < f.v.length) {d : Int} (hd : -1000 < d ∧ d < 1000) (hb : ∀ i, i < f.v.length → 0 ≤ Ne.amt f.v i ∧ Ne.amt f.v i < 5) :
    addE f (v : Int) d = 0 ∧ addS f (v : Int) d = ⟨Sp.addL f.v (path f v) d, f.up⟩ ∧ leastZ (addS f (v : Int) d) (v : Int) = leastZ f (v : Int) ∧ ∀ u, u < f.v.length → valZ (addS f (v : Int) d) (u : Int) = if u ∈ path f v then Ne.amt f.v u + d else Ne.amt f.v u := by
  have hne : pathZ f (v : Int) ≠ [] := by rw [pathZ_nat]; exact fun e => by have := h.path_self hv; rw [e] at this; simp at this
  have hE : addE f (v : Int) d = 0 := by
    unfold addE
    rw [if_neg hne, if_pos]
    intro i hi
    have hil : i < f.v.length := by rw [pathZ_nat] at hi; exact h.path_lt hi
    have := hb i hil
    exact (Sp.fits_iff _ _ (by unfold Sp.big; omega)).2 (by unfold Sp.big; omega)
  have hS : addS f (v : Int) d = ⟨Sp.addL f.v (path f v) d, f.up⟩ := by unfold addS; rw [if_pos hE, pathZ_nat]
  have hat : ∀ u, u < f.v.length → Ne.amt (Sp.addL f.v (path f v) d) u = if u ∈ path f v then Ne.amt f.v u + d else Ne.amt f.v u := fun u hu => Sp.addL_at hu
  refine ⟨hE, hS, ?_, fun u hu => ?_⟩
  · rw [hS, leastZ_nat, leastZ_nat, path_val (Sp.addL_len _ _ _)]
    refine (least_cong (path f v) fun a ha b hb => ?_).symm
    show _ ↔ Ne.amt (Sp.addL f.v (path f v) d) a < Ne.amt (Sp.addL f.v (path f v) d) b
    rw [hat a (h.path_lt ha), hat b (h.path_lt hb), if_pos ha, if_pos hb]
    omega
  · rw [hS]
    unfold valZ
    rw [if_neg (by omega), Int.toNat_natCast]
    exact hat u hu
end
/-- the first values -/
def valL (n : Nat) : List Int := (List.range n).map fun (i : Nat) => Int.tmod (7 * (i : Int)) 5
theorem valL_len (n : Nat) : (valL n).length = n := by simp [valL]
theorem valL_snoc (n : Nat) : valL (n + 1) = valL n ++ [Int.tmod (7 * (n : Int)) 5] := by simp [valL, List.range_succ]
theorem valL_bd (n i : Nat) (h : i < n) : 0 ≤ Ne.amt (valL n) i ∧ Ne.amt (valL n) i < 5 := by
  have e : Ne.amt (valL n) i = Int.tmod (7 * (i : Int)) 5 := by simp [valL, Ne.amt, h]
  rw [e]
  exact ⟨Int.tmod_nonneg _ (by omega), Int.tmod_lt_of_pos _ (by omega)⟩
theorem valL_new {n : Nat} (h : n ≤ 3000) : Sp.newE (valL n) = 0 := by
  unfold Sp.newE
  rw [if_neg (by rw [valL_len]; omega), if_pos]
  intro i hi
  rw [valL_len] at hi
  have := valL_bd n i hi
  unfold Sp.big
  omega
end Fo
end Go.Proofs.Ytjhodnpmogkmmaa
