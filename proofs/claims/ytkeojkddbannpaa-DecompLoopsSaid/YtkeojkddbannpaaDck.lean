/-
  Stage 15: arcs behind one another, and circles of two arcs beside one another: their items (DecompChain, DecompLoops), plainly. No condition.
-/
import Derived.Test.YtkeojkddbannpaaDcv
import Derived.Test.YtkeojkddbannpaaMadem
namespace Go.Proofs.Ytkeojkddbannpaa
set_option linter.unusedVariables false
set_option linter.unusedSimpArgs false
namespace Dc
open Go.Proofs.Ytkeojkddbannpaa.Ne
theorem ix_not {L : List Int} {x : Int} (h : ∀ i, i < L.length → amt L i ≠ x) : ixOf L x = none := List.find?_eq_none.2 fun i hi => by
  have := h i (List.mem_range.1 hi)
  simpa using this
theorem beg_at (l : List Arc) {R : List Nat} {i : Nat} (hi : i < R.length) : amt (beg l R) i = (arcAt l (R.getD i 0)).fr := by
  unfold amt beg
  rw [List.getD_eq_getElem?_getD, List.getD_eq_getElem?_getD, List.getElem?_map, List.getElem?_eq_getElem hi]; rfl
/-- found: an arc that begins there, none ahead of it -/
theorem fst_at {l : List Arc} {g : List Int} {v : Int} {i : Nat} (hi : i < l.length) (h1 : 0 < amt g i) (h2 : v = 0 ∨ (arcAt l i).fr = v) (h3 : ∀ j, j < i → ¬ (0 < amt g j ∧ (v = 0 ∨ (arcAt l j).fr = v))) : fstA l g v = some i := fst_is hi ⟨h1, h2⟩ h3
theorem fst_no {l : List Arc} {g : List Int} {v : Int} (h : ∀ i, amt g i = 0) : fstA l g v = none := List.find?_eq_none.2 fun i _ => by
  have := h i
  simp; omega
-- one chain
def arcsK (k : Nat) : List Arc := (List.range k).map fun i : Nat => ⟨(i : Int) + 1, (i : Int) + 2, 9⟩
def netK (k : Nat) : Net := ⟨(k : Int) + 1, 1, (k : Int) + 1, arcsK k⟩
theorem arcsK_len (k : Nat) : (arcsK k).length = k := by simp [arcsK]
theorem arcsK_succ (k : Nat) : arcsK (k + 1) = arcsK k ++ [⟨(k : Int) + 1, (k : Int) + 2, 9⟩] := by simp [arcsK, List.range_succ]
theorem arcsK_at {k i : Nat} (h : i < k) : arcAt (arcsK k) i = ⟨(i : Int) + 1, (i : Int) + 2, 9⟩ := by simp [arcsK, arcAt, h]
theorem repK_at {m i : Nat} (v : Int) (h : i < m) : amt (List.replicate m v) i = v := by simp [amt, h]
theorem netK_check {k : Nat} (h1 : 1 ≤ k) (h2 : k ≤ 60) : checkN (netK k) = 0 := by
  unfold netK
  refine checkN_fine ⟨by simp only; omega, by simp only; omega, by simp only; omega, by simp only; omega, by simp only; omega, by simp only; omega, by simp only; omega, by simp only [arcsK_len]; omega⟩ fun a ha => ?_
  simp only at ha ⊢
  obtain ⟨i, hi, rfl⟩ := List.mem_map.1 ha
  rw [List.mem_range] at hi
  exact ⟨(isNode_iff _ _).2 (by simp only; omega), (isNode_iff _ _).2 (by simp only; omega), by simp only; omega, by simp only; omega⟩
theorem toK {k : Nat} (x v : Int) : ∀ j, j ≤ k → sumTo (fun i => if (arcAt (arcsK k) i).to = v then amt (List.replicate k x) i else 0) j = if 2 ≤ v ∧ v < (j : Int) + 2 then x else 0
  | 0, _ => by rw [if_neg (by omega)]; rfl
  | j + 1, h => by
    have e : sumTo (fun i => if (arcAt (arcsK k) i).to = v then amt (List.replicate k x) i else 0) (j + 1) = sumTo (fun i => if (arcAt (arcsK k) i).to = v then amt (List.replicate k x) i else 0) j + if (arcAt (arcsK k) j).to = v then amt (List.replicate k x) j else 0 := rfl
    rw [e, toK x v j (by omega), arcsK_at (by omega), repK_at x (by omega)]
    simp only
    by_cases c : (j : Int) + 2 = v
    · rw [if_pos c, if_neg (by omega), if_pos (by omega)]; omega
    · rw [if_neg c]
      by_cases d : 2 ≤ v ∧ v < (j : Int) + 2
      · rw [if_pos d, if_pos (by omega)]; omega
      · rw [if_neg d, if_neg (by omega)]; omega
theorem frK {k : Nat} (x v : Int) : ∀ j, j ≤ k → sumTo (fun i => if (arcAt (arcsK k) i).fr = v then amt (List.replicate k x) i else 0) j = if 1 ≤ v ∧ v < (j : Int) + 1 then x else 0
  | 0, _ => by rw [if_neg (by omega)]; rfl
  | j + 1, h => by
    have e : sumTo (fun i => if (arcAt (arcsK k) i).fr = v then amt (List.replicate k x) i else 0) (j + 1) = sumTo (fun i => if (arcAt (arcsK k) i).fr = v then amt (List.replicate k x) i else 0) j + if (arcAt (arcsK k) j).fr = v then amt (List.replicate k x) j else 0 := rfl
    rw [e, frK x v j (by omega), arcsK_at (by omega), repK_at x (by omega)]
    simp only
    by_cases c : (j : Int) + 1 = v
    · rw [if_pos c, if_neg (by omega), if_pos (by omega)]; omega
    · rw [if_neg c]
      by_cases d : 1 ≤ v ∧ v < (j : Int) + 1
      · rw [if_pos d, if_pos (by omega)]; omega
      · rw [if_neg d, if_neg (by omega)]; omega
theorem excK {k : Nat} (x v : Int) : exc (arcsK k) (List.replicate k x) v = (if 2 ≤ v ∧ v < (k : Int) + 2 then x else 0) - (if 1 ≤ v ∧ v < (k : Int) + 1 then x else 0) := by
  show toS (arcsK k) (List.replicate k x) v (arcsK k).length - frS (arcsK k) (List.replicate k x) v (arcsK k).length = _
  rw [arcsK_len]
  show sumTo _ k - sumTo _ k = _
  rw [toK x v k (Nat.le_refl _), frK x v k (Nat.le_refl _)]
theorem lfK {k : Nat} (h1 : 1 ≤ k) {x : Int} (h0 : 0 ≤ x) (h9 : x ≤ 9) : Lf (netK k) (List.replicate k x) := by
  refine ⟨?_, fun i hi => ?_, fun v a b => ?_, ?_⟩
  · show _ = (arcsK k).length
    rw [arcsK_len]; simp
  · have hi2 : i < k := by rw [← arcsK_len k]; exact hi
    show _ ∧ _ ≤ (arcAt (arcsK k) i).cap
    rw [repK_at x hi2, arcsK_at hi2]; exact ⟨h0, h9⟩
  · have a' : v ≠ 1 := a
    have b' : v ≠ (k : Int) + 1 := b
    show exc (arcsK k) _ v = 0
    rw [excK]
    by_cases c : 2 ≤ v ∧ v < (k : Int) + 2
    · rw [if_pos c, if_pos (by omega)]; omega
    · rw [if_neg c, if_neg (by omega)]; rfl
  · show exc (arcsK k) _ 1 = -exc (arcsK k) _ ((k : Int) + 1)
    rw [excK, excK, if_neg (by omega), if_pos (by omega), if_pos (by omega), if_neg (by omega)]; omega
theorem wlkK {k : Nat} {x : Int} (hx : 0 < x) : ∀ (d j f : Nat), j + d + 1 = k → d < f → wlk (arcsK k) (List.replicate k x) ((k : Int) + 1) f ((j : Int) + 1) (List.range j) = some (true, List.range k)
  | d, j, 0, _, hf => absurd hf (by omega)
  | d, j, f + 1, hj, hf => by
    have h1 : fstA (arcsK k) (List.replicate k x) ((j : Int) + 1) = some j := by
      refine fst_at (by rw [arcsK_len]; omega) (by rw [repK_at x (by omega)]; exact hx) (Or.inr (by rw [arcsK_at (by omega)])) fun i hi h => ?_
      rw [arcsK_at (by omega)] at h
      rcases h.2 with h | h
      · omega
      · simp only at h; omega
    simp only [wlk, h1, arcsK_at (show j < k by omega)]
    rw [← List.range_succ]
    rcases d with _ | d
    · have ejk : j + 1 = k := by omega
      rw [if_pos (by omega)]
      show some (true, List.range (j + 1)) = _
      rw [ejk]
    · rw [if_neg (by omega)]
      have h2 : ixOf (beg (arcsK k) (List.range (j + 1))) ((j : Int) + 2) = none := ix_not fun i hi => by
        rw [beg_len] at hi
        rw [beg_at _ hi]
        simp only [List.length_range] at hi
        have e : (List.range (j + 1)).getD i 0 = i := by rw [List.getD_eq_getElem?_getD, List.getElem?_range hi]; rfl
        rw [e, arcsK_at (by omega)]
        simp only; omega
      rw [h2]
      simp only
      have := wlkK (k := k) hx d (j + 1) f (by omega) (by omega)
      rw [← this]
      congr 1
/-- U1: along one chain there is one path, of all that is led -/
theorem chain_items {k : Nat} (h1 : 1 ≤ k) (h2 : k ≤ 60) {x : Int} (h0 : 0 ≤ x) (h9 : x ≤ 9) : splA (netK k) (List.replicate k x) = if x = 0 then [] else [⟨112, List.range k, x⟩] := by
  have ck := netK_check h1 h2
  have hR := right_of ck
  have hL := lfK h1 h0 h9
  have hz : ∀ i, amt (List.replicate k (0 : Int)) i = 0 := fun i => by
    unfold amt
    by_cases e : i < k
    · simp [e]
    · simp [Nat.not_lt.1 e]
  by_cases c : x = 0
  · subst c
    rw [if_pos rfl]
    exact splA_nil hR hL (fst_no hz)
  · rw [if_neg c]
    have ha : fstA (netK k).l (List.replicate k x) 0 = some 0 := fst_at (by show 0 < (arcsK k).length; rw [arcsK_len]; omega) (by rw [repK_at x (by omega)]; omega) (Or.inl rfl) fun j hj => by omega
    have hv : exc (netK k).l (List.replicate k x) (netK k).t = x := by
      show exc (arcsK k) _ ((k : Int) + 1) = x
      rw [excK, if_pos (by omega), if_neg (by omega)]; omega
    have hw : wlk (netK k).l (List.replicate k x) (fin (netK k) (List.replicate k x)) ((netK k).n.toNat + 1) (bgn (netK k) (List.replicate k x)) [] = some (true, List.range k) := by
      unfold fin bgn
      rw [hv, if_pos (by omega), if_pos (by omega)]
      exact wlkK (by omega) (k - 1) 0 _ (by omega) (by show k - 1 < ((k : Int) + 1).toNat + 1; omega)
    have hl : lst (List.replicate k x) x (List.range k) = x := by
      obtain ⟨-, -, h3⟩ := lst_le (g := List.replicate k x) (List.range k) x
      rcases h3 with h | ⟨a, ha, h⟩
      · exact h
      · rw [h, repK_at x (List.mem_range.1 ha)]
    have hi : itm (netK k) (List.replicate k x) = ⟨112, List.range k, x⟩ := by
      unfold itm
      rw [hw]
      simp only
      rw [hv, if_pos (by omega), hl]
    have hx := itm_is hR hL ha
    rw [splA_cons hR hL ha]
    rw [hi] at hx ⊢
    rw [splA_nil hR (tk_lf hR hL hx) (fst_no fun i => ?_)]
    rw [tk_at hL hx]
    by_cases e : i < k
    · rw [repK_at x e, if_pos (List.mem_range.2 e)]; simp only; omega
    · rw [if_neg (fun h => e (List.mem_range.1 h))]
      unfold amt; simp [Nat.not_lt.1 e]
-- circles of two arcs
def arcsO (c : Nat) : List Arc := (List.range (2 * c)).map fun j : Nat => if j % 2 = 0 then ⟨(j : Int) + 3, (j : Int) + 4, 5⟩ else ⟨(j : Int) + 3, (j : Int) + 2, 5⟩
def netO (c : Nat) : Net := ⟨2 + 2 * (c : Int), 1, 2, arcsO c⟩
/-- the amounts of the circles from number p on -/
def amtO (X : Nat → Int) (c p : Nat) : List Int := (List.range (2 * c)).map fun j => if j / 2 < p then 0 else X (j / 2)
theorem arcsO_len (c : Nat) : (arcsO c).length = 2 * c := by simp [arcsO]
theorem arcsO_succ (c : Nat) : arcsO (c + 1) = arcsO c ++ [⟨3 + 2 * (c : Int), 4 + 2 * (c : Int), 5⟩] ++ [⟨4 + 2 * (c : Int), 3 + 2 * (c : Int), 5⟩] := by
  unfold arcsO
  rw [show 2 * (c + 1) = 2 * c + 1 + 1 by omega, List.range_succ, List.range_succ, List.map_append, List.map_append]
  simp only [List.map_cons, List.map_nil]
  rw [if_pos (by omega), if_neg (by omega)]
  have e1 : (⟨((2 * c : Nat) : Int) + 3, ((2 * c : Nat) : Int) + 4, 5⟩ : Arc) = ⟨3 + 2 * (c : Int), 4 + 2 * (c : Int), 5⟩ := by congr 1 <;> omega
  have e2 : (⟨((2 * c + 1 : Nat) : Int) + 3, ((2 * c + 1 : Nat) : Int) + 2, 5⟩ : Arc) = ⟨4 + 2 * (c : Int), 3 + 2 * (c : Int), 5⟩ := by congr 1 <;> omega
  rw [e1, e2]
theorem arcsO_at0 {c i : Nat} (h : i < c) : arcAt (arcsO c) (2 * i) = ⟨3 + 2 * (i : Int), 4 + 2 * (i : Int), 5⟩ := by
  unfold arcsO arcAt
  rw [List.getD_eq_getElem?_getD, List.getElem?_map, List.getElem?_range (by omega)]
  simp only [Option.map_some, Option.getD_some]
  rw [if_pos (by omega)]
  congr 1 <;> omega
theorem arcsO_at1 {c i : Nat} (h : i < c) : arcAt (arcsO c) (2 * i + 1) = ⟨4 + 2 * (i : Int), 3 + 2 * (i : Int), 5⟩ := by
  unfold arcsO arcAt
  rw [List.getD_eq_getElem?_getD, List.getElem?_map, List.getElem?_range (by omega)]
  simp only [Option.map_some, Option.getD_some]
  rw [if_neg (by omega)]
  congr 1 <;> omega
theorem amtO_len (X : Nat → Int) (c p : Nat) : (amtO X c p).length = 2 * c := by simp [amtO]
theorem amtO_at (X : Nat → Int) {c p j : Nat} (h : j < 2 * c) : amt (amtO X c p) j = if j / 2 < p then 0 else X (j / 2) := by
  unfold amtO amt
  rw [List.getD_eq_getElem?_getD, List.getElem?_map, List.getElem?_range h]; rfl
theorem half {c j : Nat} (h : j < 2 * c) : ∃ i, i < c ∧ (j = 2 * i ∨ j = 2 * i + 1) := ⟨j / 2, by omega, by omega⟩
theorem netO_check {c : Nat} (h : c ≤ 60) : checkN (netO c) = 0 := by
  unfold netO
  refine checkN_fine ⟨by simp only; omega, by simp only; omega, by simp only; omega, by simp only; omega, by simp only; omega, by simp only; omega, by simp only; omega, by simp only [arcsO_len]; omega⟩ fun a ha => ?_
  simp only at ha ⊢
  obtain ⟨j, hj, rfl⟩ := List.mem_map.1 ha
  rw [List.mem_range] at hj
  by_cases e : j % 2 = 0
  · rw [if_pos e]; exact ⟨(isNode_iff _ _).2 (by simp only; omega), (isNode_iff _ _).2 (by simp only; omega), by simp only; omega, by simp only; omega⟩
  · rw [if_neg e]; exact ⟨(isNode_iff _ _).2 (by simp only; omega), (isNode_iff _ _).2 (by simp only; omega), by simp only; omega, by simp only; omega⟩
theorem excO (X : Nat → Int) (c p : Nat) (v : Int) : exc (arcsO c) (amtO X c p) v = 0 := by
  rw [exc_eq]
  unfold excC
  rw [arcsO_len]
  have h : ∀ k, k ≤ c → sumTo (fun i => dl v (arcAt (arcsO c) i) * amt (amtO X c p) i) (2 * k) = 0 := by
    intro k
    induction k with
    | zero => intro _; rfl
    | succ k ih =>
      intro hk
      have e : sumTo (fun i => dl v (arcAt (arcsO c) i) * amt (amtO X c p) i) (2 * k + 1 + 1) = sumTo (fun i => dl v (arcAt (arcsO c) i) * amt (amtO X c p) i) (2 * k) + dl v (arcAt (arcsO c) (2 * k)) * amt (amtO X c p) (2 * k) + dl v (arcAt (arcsO c) (2 * k + 1)) * amt (amtO X c p) (2 * k + 1) := rfl
      rw [show 2 * (k + 1) = 2 * k + 1 + 1 by omega, e, ih (by omega), arcsO_at0 (by omega), arcsO_at1 (by omega), amtO_at X (by omega), amtO_at X (by omega), show (2 * k + 1) / 2 = k by omega, show 2 * k / 2 = k by omega]
      have e2 : dl v ⟨4 + 2 * (k : Int), 3 + 2 * (k : Int), 5⟩ = -dl v ⟨3 + 2 * (k : Int), 4 + 2 * (k : Int), 5⟩ := by unfold dl; simp only; omega
      rw [e2, Int.neg_mul]; omega
  exact h c (Nat.le_refl _)
theorem lfO {X : Nat → Int} (hX : ∀ i, 0 ≤ X i ∧ X i ≤ 5) (c p : Nat) : Lf (netO c) (amtO X c p) := by
  refine ⟨?_, fun j hj => ?_, fun v _ _ => excO X c p v, ?_⟩
  · show _ = (arcsO c).length
    rw [arcsO_len, amtO_len]
  · have hj2 : j < 2 * c := by rw [← arcsO_len c]; exact hj
    have hcap : (arcAt (arcsO c) j).cap = 5 := by
      obtain ⟨i, hi, e | e⟩ := half hj2
      · rw [e, arcsO_at0 hi]
      · rw [e, arcsO_at1 hi]
    show _ ∧ _ ≤ (arcAt (arcsO c) j).cap
    rw [amtO_at X hj2, hcap]
    have := hX (j / 2)
    split <;> omega
  · show exc (arcsO c) _ 1 = -exc (arcsO c) _ 2
    rw [excO, excO]; rfl
/-- the items, from circle p on, of d circles -/
def itemsO (X : Nat → Int) : Nat → Nat → List Itm
  | 0, _ => []
  | d + 1, p => if X p = 0 then itemsO X d (p + 1) else ⟨99, [2 * p, 2 * p + 1], X p⟩ :: itemsO X d (p + 1)
theorem amtO_skip {X : Nat → Int} {c p : Nat} (h : X p = 0) : amtO X c p = amtO X c (p + 1) := by
  unfold amtO
  refine List.map_congr_left fun j _ => ?_
  by_cases e : j / 2 = p
  · rw [e, if_neg (by omega), if_pos (by omega), h]
  · by_cases d : j / 2 < p
    · rw [if_pos d, if_pos (by omega)]
    · rw [if_neg d, if_neg (by omega)]
theorem itmO {X : Nat → Int} (hX : ∀ i, 0 ≤ X i ∧ X i ≤ 5) {c p : Nat} (hp : p < c) (h0 : 0 < X p) : fstA (netO c).l (amtO X c p) 0 = some (2 * p) ∧ itm (netO c) (amtO X c p) = ⟨99, [2 * p, 2 * p + 1], X p⟩ := by
  have a0 : amt (amtO X c p) (2 * p) = X p := by rw [amtO_at X (by omega), show 2 * p / 2 = p by omega, if_neg (by omega)]
  have a1 : amt (amtO X c p) (2 * p + 1) = X p := by rw [amtO_at X (by omega), show (2 * p + 1) / 2 = p by omega, if_neg (by omega)]
  have an : ∀ j, j < 2 * p → ¬ 0 < amt (amtO X c p) j := fun j hj => by rw [amtO_at X (by omega), if_pos (by omega)]; omega
  have hf : fstA (netO c).l (amtO X c p) 0 = some (2 * p) := fst_at (by show _ < (arcsO c).length; rw [arcsO_len]; omega) (by rw [a0]; exact h0) (Or.inl rfl) fun j hj h => an j hj h.1
  have f1 : fstA (arcsO c) (amtO X c p) (3 + 2 * (p : Int)) = some (2 * p) := fst_at (by rw [arcsO_len]; omega) (by rw [a0]; exact h0) (Or.inr (by rw [arcsO_at0 hp])) fun j hj h => an j hj h.1
  have f2 : fstA (arcsO c) (amtO X c p) (4 + 2 * (p : Int)) = some (2 * p + 1) := by
    refine fst_at (by rw [arcsO_len]; omega) (by rw [a1]; exact h0) (Or.inr (by rw [arcsO_at1 hp])) fun j hj h => ?_
    by_cases e : j = 2 * p
    · rw [e, arcsO_at0 hp] at h
      rcases h.2 with h | h
      · omega
      · simp only at h; omega
    · exact an j (by omega) h.1
  refine ⟨hf, ?_⟩
  have hv : exc (netO c).l (amtO X c p) (netO c).t = 0 := excO X c p 2
  have hb : bgn (netO c) (amtO X c p) = 3 + 2 * (p : Int) := by
    unfold bgn
    rw [hv, if_neg (by omega), if_neg (by omega), hf]
    show (arcAt (arcsO c) (2 * p)).fr = _
    rw [arcsO_at0 hp]
  have hfi : fin (netO c) (amtO X c p) = 0 := by
    unfold fin; rw [hv, if_neg (by omega), if_neg (by omega)]
  obtain ⟨f, hfu⟩ : ∃ f, (netO c).n.toNat + 1 = f + 1 + 1 := ⟨(netO c).n.toNat - 1, by show (2 + 2 * (c : Int)).toNat + 1 = (2 + 2 * (c : Int)).toNat - 1 + 1 + 1; omega⟩
  have hw : wlk (netO c).l (amtO X c p) (fin (netO c) (amtO X c p)) ((netO c).n.toNat + 1) (bgn (netO c) (amtO X c p)) [] = some (false, [2 * p, 2 * p + 1]) := by
    rw [hb, hfi, hfu]
    show wlk (arcsO c) (amtO X c p) 0 (f + 1 + 1) (3 + 2 * (p : Int)) [] = _
    have x1 : ixOf (beg (arcsO c) [2 * p]) (4 + 2 * (p : Int)) = none := ix_not fun i hi => by
      rw [beg_len] at hi
      rw [beg_at _ hi]
      have : i = 0 := by simpa using hi
      subst this
      show (arcAt (arcsO c) (2 * p)).fr ≠ _
      rw [arcsO_at0 hp]; simp only; omega
    have x2 : ixOf (beg (arcsO c) [2 * p, 2 * p + 1]) (3 + 2 * (p : Int)) = some 0 := by
      have e : beg (arcsO c) [2 * p, 2 * p + 1] = [3 + 2 * (p : Int), 4 + 2 * (p : Int)] := by
        simp only [beg, List.map_cons, List.map_nil]; rw [arcsO_at0 hp, arcsO_at1 hp]
      rw [e]
      unfold ixOf
      rw [show [3 + 2 * (p : Int), 4 + 2 * (p : Int)].length = 1 + 1 from rfl, List.range_succ, List.find?_append, List.range_succ, List.range_zero]
      simp [amt]
    simp only [wlk, f1, arcsO_at0 hp, List.nil_append]
    rw [if_neg (by omega), x1]
    simp only [f2, arcsO_at1 hp, List.singleton_append]
    rw [if_neg (by omega), x2]
    simp only [List.drop_zero]
  unfold itm
  rw [hw]
  simp only
  congr 1
  show lst (amtO X c p) (amt (amtO X c p) (2 * p)) [2 * p, 2 * p + 1] = X p
  obtain ⟨-, -, h3⟩ := lst_le (g := amtO X c p) [2 * p, 2 * p + 1] (amt (amtO X c p) (2 * p))
  rcases h3 with h | ⟨a, ha, h⟩
  · rw [h, a0]
  · rw [h]
    rcases List.mem_cons.1 ha with e | e
    · rw [e, a0]
    · rw [List.mem_singleton.1 e, a1]
theorem tkO {X : Nat → Int} (hX : ∀ i, 0 ≤ X i ∧ X i ≤ 5) {c p : Nat} (hp : p < c) (h60 : c ≤ 60) (h0 : 0 < X p) : tk (amtO X c p) ⟨99, [2 * p, 2 * p + 1], X p⟩ = amtO X c (p + 1) := by
  have hR := right_of (netO_check h60)
  have hL := lfO hX c p
  obtain ⟨hf, hi⟩ := itmO hX hp h0
  have hx := itm_is hR hL hf
  rw [hi] at hx
  have hlen : (tk (amtO X c p) ⟨99, [2 * p, 2 * p + 1], X p⟩).length = 2 * c := by unfold tk; rw [addN_len, amtO_len]
  refine List.ext_getElem (by rw [hlen, amtO_len]) fun j h1 h2 => ?_
  have hj : j < 2 * c := by rw [hlen] at h1; exact h1
  have h3 := tk_at hL hx j
  have h4 := amtO_at X (p := p + 1) hj
  rw [amtO_at X hj] at h3
  have e1 : amt (tk (amtO X c p) ⟨99, [2 * p, 2 * p + 1], X p⟩) j = (tk (amtO X c p) ⟨99, [2 * p, 2 * p + 1], X p⟩)[j] := by
    unfold amt; rw [List.getD_eq_getElem?_getD, List.getElem?_eq_getElem h1]; rfl
  have e2 : amt (amtO X c (p + 1)) j = (amtO X c (p + 1))[j] := by
    unfold amt; rw [List.getD_eq_getElem?_getD, List.getElem?_eq_getElem h2]; rfl
  rw [← e1, ← e2, h3, h4]
  simp only [List.mem_cons, List.mem_nil_iff, or_false]
  by_cases c1 : j / 2 = p
  · have m1 : j = 2 * p ∨ j = 2 * p + 1 := by omega
    have m2 : ¬ j / 2 < p := by omega
    have m3 : j / 2 < p + 1 := by omega
    rw [if_neg m2, if_pos m1, if_pos m3, c1]; omega
  · have m1 : ¬ (j = 2 * p ∨ j = 2 * p + 1) := by omega
    by_cases c2 : j / 2 < p
    · have m3 : j / 2 < p + 1 := by omega
      rw [if_pos c2, if_neg m1, if_pos m3]; rfl
    · have m3 : ¬ j / 2 < p + 1 := by omega
      rw [if_neg c2, if_neg m1, if_neg m3]; omega
/-- U1: what goes round and round alone is cycles alone, each of its own amount -/
theorem loops_items {X : Nat → Int} (hX : ∀ i, 0 ≤ X i ∧ X i ≤ 5) {c : Nat} (h60 : c ≤ 60) : ∀ (d p : Nat), p + d = c → splA (netO c) (amtO X c p) = itemsO X d p
  | 0, p, h => by
    refine splA_nil (right_of (netO_check h60)) (lfO hX c p) (fst_no fun j => ?_)
    by_cases e : j < 2 * c
    · rw [amtO_at X e, if_pos (by omega)]
    · unfold amt; rw [List.getD_eq_getElem?_getD, List.getElem?_eq_none (by rw [amtO_len]; omega)]; rfl
  | d + 1, p, h => by
    have := hX p
    by_cases e : X p = 0
    · rw [amtO_skip e, loops_items hX h60 d (p + 1) (by omega)]
      show _ = if X p = 0 then _ else _
      rw [if_pos e]
    · obtain ⟨hf, hi⟩ := itmO hX (show p < c by omega) (by omega)
      rw [splA_cons (right_of (netO_check h60)) (lfO hX c p) hf, hi, tkO hX (by omega) h60 (by omega), loops_items hX h60 d (p + 1) (by omega)]
      show _ = if X p = 0 then _ else _
      rw [if_neg e]
end Dc
end Go.Proofs.Ytkeojkddbannpaa
