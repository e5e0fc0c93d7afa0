/-
  Stage 10: plain facts of the laws: paths step by step; linked and cut again; rooted anew there and back. No condition.
-/
import Derived.Test.YtjhodnpmogkmmaaFpb
namespace Go.Proofs.Ytjhodnpmogkmmaa
set_option linter.unusedVariables false
set_option linter.unusedSimpArgs false
namespace Fo
theorem ft_ext {f g : Ft} (h1 : f.v = g.v) (h2 : ∀ x, f.up x = g.up x) : f = g := by
  obtain ⟨v, u⟩ := f
  obtain ⟨v2, u2⟩ := g
  simp only at h1 h2
  rw [h1, show u = u2 from funext h2]
section
variable {f : Ft}
theorem there_nat {v : Nat} (hv : v < f.v.length) : there f (v : Int) := ⟨by omega, by omega⟩
theorem aboveZ_nat {v : Nat} (hv : v < f.v.length) : aboveZ f (v : Int) = oz (f.up v) := by unfold aboveZ; rw [if_pos (there_nat hv), Int.toNat_natCast]
theorem path_last (h : Good f) {v : Nat} (hv : v < f.v.length) {M : Nat} (hM : (path f v).length = M + 1) : (path f v)[M]? = some v := by
  cases hu : f.up v with
  | none => rw [h.path_top hv hu] at hM ⊢; simp at hM; subst hM; rfl
  | some u =>
    rw [h.path_step hv hu] at hM ⊢
    simp at hM
    rw [List.getElem?_append_right (by omega), show M - (path f u).length = 0 by omega]
    rfl
theorem path_pos (h : Good f) {v : Nat} (hv : v < f.v.length) : 0 < (path f v).length ∧ (path f v).length ≤ f.v.length :=
  ⟨List.length_pos_of_mem (h.path_self hv), Sp.len_le (h.path_nodup v) (fun y hy => h.path_lt hy)⟩
theorem path_first (h : Good f) {v : Nat} (hv : v < f.v.length) : ∃ r : Nat, (path f v)[0]? = some r ∧ rootZ f (v : Int) = (r : Int) ∧ r < f.v.length ∧ f.up r = none ∧ aboveZ f (r : Int) = -1 := by
  obtain ⟨r, g1, g2, g3, g4⟩ := h.rootZ_eq hv
  refine ⟨r, ?_, g2, g3, g4, by rw [aboveZ_nat g3, g4]; rfl⟩
  unfold root at g1
  rwa [List.head?_eq_getElem?] at g1
theorem root_pre (h : Good f) {v b : Nat} (hb : b ∈ path f v) : root f b = root f v := by
  have h1 := h.path_pre hb
  have h2 := h.path_self (h.path_lt hb)
  unfold root
  obtain ⟨R, e⟩ := h1
  rw [← e]
  cases e2 : path f b with
  | nil => rw [e2] at h2; simp at h2
  | cons c l => rfl
theorem rootZ_root {v r : Nat} (h : root f v = some r) : rootZ f (v : Int) = (r : Int) := by
  unfold rootZ
  rw [pathZ_nat]
  unfold root at h
  cases e : path f v with
  | nil => rw [e] at h; cases h
  | cons a l => rw [e] at h; cases h; rfl
theorem path_pair (h : Good f) {v : Nat} {A C : List Nat} {a b : Nat} (e : path f v = A ++ a :: b :: C) : f.up b = some a := by
  have hb : b ∈ path f v := by rw [e]; simp
  have hbn := h.path_lt hb
  have h1 : (A ++ [a]) ++ [b] <+: path f v := ⟨C, by rw [e]; simp⟩
  have h2 := h.path_pre hb
  cases hu : f.up b with
  | none =>
    rw [h.path_top hbn hu] at h2
    have := prefix_end (h.path_nodup v) (P := []) h2 h1
    simp at this
  | some u =>
    rw [h.path_step hbn hu] at h2
    have h3 := prefix_end (h.path_nodup v) h2 h1
    have hun := h.lt b u hbn hu
    obtain ⟨M, hM⟩ : ∃ M, (path f u).length = M + 1 := ⟨(path f u).length - 1, by have := (path_pos h hun).1; omega⟩
    have h4 := path_last h hun hM
    rw [h3] at hM h4
    simp at hM
    subst hM
    rw [List.getElem?_append_right (by omega), Nat.sub_self] at h4
    simp at h4
    rw [h4]
theorem idx_split {l : List Nat} {i a b : Nat} (ha : l[i]? = some a) (hb : l[i + 1]? = some b) : ∃ A C, l = A ++ a :: b :: C := by
  obtain ⟨a1, a2⟩ := List.getElem?_eq_some_iff.1 ha
  obtain ⟨b1, b2⟩ := List.getElem?_eq_some_iff.1 hb
  have e1 := (List.take_append_drop i l).symm
  rw [List.drop_eq_getElem_cons a1, List.drop_eq_getElem_cons b1, a2, b2] at e1
  exact ⟨_, _, e1⟩
theorem path_next (h : Good f) {v i a b : Nat} (ha : (path f v)[i]? = some a) (hb : (path f v)[i + 1]? = some b) : aboveZ f (b : Int) = (a : Int) ∧ rootZ f (b : Int) = rootZ f (v : Int) := by
  obtain ⟨A, C, e⟩ := idx_split ha hb
  have hbm := List.mem_of_getElem? hb
  have hbn := h.path_lt hbm
  refine ⟨by rw [aboveZ_nat hbn, path_pair h e]; rfl, ?_⟩
  obtain ⟨k, hk⟩ := h.dep b hbn
  obtain ⟨r, g1, _⟩ := h.dp_root hbn hk
  rw [rootZ_root g1, rootZ_root (by rw [← root_pre h hbm]; exact g1)]
theorem linkE_cases (h : Good f) {x y : Nat} (hx : x < f.v.length) (hy : y < f.v.length) :
    (linkE f (x : Int) (y : Int) = 0 ∧ f.up x = none ∧ root f y ≠ some x ∧ linkS f (x : Int) (y : Int) = linkF f x y) ∨ (linkE f (x : Int) (y : Int) = 9 ∧ (f.up x).isSome = true ∧ linkS f (x : Int) (y : Int) = f) ∨ (linkE f (x : Int) (y : Int) = 5 ∧ f.up x = none ∧ root f y = some x ∧ linkS f (x : Int) (y : Int) = f) := by
  have hth : ¬ (¬ there f (x : Int) ∨ ¬ there f (y : Int)) := by simp [there_nat hx, there_nat hy]
  obtain ⟨r, g1, g2, _⟩ := h.rootZ_eq hy
  unfold linkS linkE
  rw [if_neg hth, Int.toNat_natCast, Int.toNat_natCast, g2]
  by_cases c1 : (f.up x).isSome = true
  · right; left
    rw [if_pos c1]
    exact ⟨rfl, c1, rfl⟩
  · have hu : f.up x = none := by
      cases e : f.up x with
      | none => rfl
      | some u => rw [e] at c1; simp at c1
    rw [if_neg c1]
    by_cases c2 : r = x
    · right; right
      subst c2
      rw [if_pos rfl]
      exact ⟨rfl, hu, g1, rfl⟩
    · left
      rw [if_neg (show ¬ ((r : Int) = (x : Int)) by omega), if_pos rfl]
      exact ⟨rfl, hu, fun c => c2 (by rw [g1] at c; cases c; rfl), rfl⟩
/-- linked -/
theorem link_says (h : Good f) {x y : Nat} (hx : x < f.v.length) (hy : y < f.v.length) (hu : f.up x = none) (hne : root f y ≠ some x) :
    Good (linkF f x y) ∧ rootZ f (x : Int) = (x : Int) ∧ aboveZ f (x : Int) = -1 ∧ rootZ (linkF f x y) (y : Int) = rootZ (linkF f x y) (x : Int) ∧ aboveZ (linkF f x y) (x : Int) = (y : Int) ∧ cutE (linkF f x y) (x : Int) = 0 ∧ cutS (linkF f x y) (x : Int) = f := by
  have h' := good_link h hx hy hu hne
  have hx' : x < (linkF f x y).v.length := hx
  have hy' : y < (linkF f x y).v.length := hy
  have hup : (linkF f x y).up x = some y := by simp [linkF]
  have hc : cutE (linkF f x y) (x : Int) = 0 := by unfold cutE; rw [if_neg (by simp [there_nat hx']), Int.toNat_natCast, if_neg (by rw [hup]; simp)]
  refine ⟨h', rootZ_root (h.root_top hx hu), by rw [aboveZ_nat hx, hu]; rfl, ?_, by rw [aboveZ_nat hx', hup]; rfl, hc, ?_⟩
  · obtain ⟨k, hk⟩ := h'.dep y hy'
    obtain ⟨r, g1, _⟩ := h'.dp_root hy' hk
    rw [rootZ_root g1, rootZ_root (by rw [h'.root_step hx' hup]; exact g1)]
  · unfold cutS
    rw [hc, if_pos rfl, Int.toNat_natCast]
    refine ft_ext rfl fun z => ?_
    show (if z = x then none else if z = x then some y else f.up z) = f.up z
    split
    · rename_i e; rw [e, hu]
    · rfl
theorem nextL_rev {l : List Nat} (hn : l.Nodup) {a b : Nat} {A C : List Nat} (e : l = A ++ a :: b :: C) : nextL l.reverse b = some a := by
  have e2 : l.reverse = C.reverse ++ b :: a :: A.reverse := by rw [e]; simp
  have hn2 : (C.reverse ++ b :: a :: A.reverse).Nodup := by rw [← e2]; exact List.pairwise_reverse.2 (List.Pairwise.imp (fun h => Ne.symm h) hn)
  rw [e2]
  exact nextL_app hn2
/-- rooted anew, there and back -/
theorem evert_says (h : Good f) {y : Nat} (hy : y < f.v.length) : ∃ r : Nat, rootZ f (y : Int) = (r : Int) ∧ r < f.v.length ∧ evertE f (y : Int) = 0 ∧ evertS f (y : Int) = evertF f y ∧ rootZ (evertF f y) (r : Int) = (y : Int) ∧ evertE (evertF f y) (r : Int) = 0 ∧ evertS (evertF f y) (r : Int) = f := by
  have h' := good_evert h y
  obtain ⟨k, hk⟩ := h.dep y hy
  obtain ⟨r, g1, g2, g3⟩ := h.dp_root hy hk
  have hr' : r < (evertF f y).v.length := g2
  obtain ⟨hp, _⟩ := near_evert h g1
  have hn := h.path_nodup y
  refine ⟨r, rootZ_root g1, g2, by unfold evertE; rw [if_neg (by simp [there_nat hy])], by unfold evertS; rw [if_pos (there_nat hy), Int.toNat_natCast], ?_, by unfold evertE; rw [if_neg (by simp [there_nat hr'])], ?_⟩
  · refine rootZ_root ?_
    unfold root
    rw [hp, List.head?_reverse]
    cases hu : f.up y with
    | none => rw [h.path_top hy hu]; rfl
    | some u => rw [h.path_step hy hu]; simp
  · unfold evertS
    rw [if_pos (there_nat hr'), Int.toNat_natCast]
    refine ft_ext rfl fun z => ?_
    show (if z ∈ path (evertF f y) r then nextL (path (evertF f y) r) z else if z ∈ path f y then nextL (path f y) z else f.up z) = f.up z
    rw [hp]
    by_cases c : z ∈ path f y
    · rw [if_pos (List.mem_reverse.2 c)]
      by_cases hh : (path f y).head? = some z
      · rw [root_up h hh]
        cases e : path f y with
        | nil => rw [e] at c; simp at c
        | cons a l =>
          rw [e] at hh hn
          cases hh
          rw [List.reverse_cons]
          refine nextL_last ?_
          rw [← List.reverse_cons]
          exact List.pairwise_reverse.2 (List.Pairwise.imp (fun h => Ne.symm h) hn)
      · obtain ⟨a, A, C, e⟩ := pv_of c hh
        rw [nextL_rev hn e, path_pair h e]
    · rw [if_neg (fun c2 => c (List.mem_reverse.1 c2)), if_neg c]
end
end Fo
end Go.Proofs.Ytjhodnpmogkmmaa
