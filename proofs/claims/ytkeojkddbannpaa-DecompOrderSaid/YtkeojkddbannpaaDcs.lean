/-
  Stage 15: all items of what is left: how many there are, what they add up to, what they lead. No condition.
-/
import Derived.Test.YtkeojkddbannpaaDcp
namespace Go.Proofs.Ytkeojkddbannpaa
set_option linter.unusedVariables false
set_option linter.unusedSimpArgs false
namespace Dc
open Go.Proofs.Ytkeojkddbannpaa.Ne
theorem cP_succ (p : Nat → Bool) (k : Nat) : (List.range (k + 1)).countP p = (List.range k).countP p + if p k = true then 1 else 0 := by
  rw [List.range_succ, List.countP_append, List.countP_singleton]
theorem cP_le {p q : Nat → Bool} : ∀ k, (∀ i, i < k → p i = true → q i = true) → (List.range k).countP p ≤ (List.range k).countP q
  | 0, _ => Nat.le_refl _
  | k + 1, h => by
    rw [cP_succ, cP_succ]
    have := cP_le k fun i hi => h i (by omega)
    have h3 := h k (by omega)
    by_cases c : p k = true
    · rw [if_pos c, if_pos (h3 c)]; omega
    · rw [if_neg c]; omega
theorem cP_one {p q : Nat → Bool} {j : Nat} : ∀ k, (∀ i, i < k → p i = true → q i = true) → j < k → q j = true → p j = false → (List.range k).countP p + 1 ≤ (List.range k).countP q
  | 0, _, h, _, _ => absurd h (by omega)
  | k + 1, h, hj, h1, h2 => by
    rw [cP_succ, cP_succ]
    by_cases c : j = k
    · subst c
      have := cP_le j fun i hi => h i (by omega)
      rw [if_pos h1, if_neg (by rw [h2]; decide)]; omega
    · have := cP_one k (fun i hi => h i (by omega)) (by omega) h1 h2
      have := h k (by omega)
      by_cases c : p k = true
      · rw [if_pos c, if_pos (this c)]; omega
      · rw [if_neg c]; omega
theorem cP_two {p q : Nat → Bool} {i j : Nat} : ∀ k, (∀ i, i < k → p i = true → q i = true) → i < j → j < k → q i = true → p i = false → q j = true → p j = false → (List.range k).countP p + 2 ≤ (List.range k).countP q
  | 0, _, _, h, _, _, _, _ => absurd h (by omega)
  | k + 1, h, hij, hj, h1, h2, h3, h4 => by
    rw [cP_succ, cP_succ]
    by_cases c : j = k
    · subst c
      have := cP_one j (fun i hi => h i (by omega)) hij h1 h2
      rw [if_pos h3, if_neg (by rw [h4]; decide)]; omega
    · have := cP_two k (fun i hi => h i (by omega)) hij (by omega) h1 h2 h3 h4
      have := h k (by omega)
      by_cases c : p k = true
      · rw [if_pos c, if_pos (this c)]; omega
      · rw [if_neg c]; omega
/-- how many arcs have an amount left -/
def cnt (l : List Arc) (g : List Int) : Nat := (List.range l.length).countP fun i => decide (0 < amt g i)
/-- does one that is no loop? -/
def nlp (l : List Arc) (g : List Int) : Bool := (List.range l.length).any fun i => decide (0 < amt g i ∧ (arcAt l i).fr ≠ (arcAt l i).to)
theorem nlp_in {l : List Arc} {g : List Int} {i : Nat} (hi : i < l.length) (h : 0 < amt g i) (h2 : (arcAt l i).fr ≠ (arcAt l i).to) : nlp l g = true := by
  unfold nlp; rw [List.any_eq_true]
  exact ⟨i, List.mem_range.2 hi, by simpa using ⟨h, h2⟩⟩
theorem nlp_out {l : List Arc} {g : List Int} (h : nlp l g = true) : ∃ i, i < l.length ∧ 0 < amt g i ∧ (arcAt l i).fr ≠ (arcAt l i).to := by
  unfold nlp at h; rw [List.any_eq_true] at h
  obtain ⟨i, hi, h⟩ := h
  exact ⟨i, List.mem_range.1 hi, by simpa using h⟩
/-- at most so many items -/
def bnd (n : Net) (g : List Int) : Nat := if exc n.l g n.t = 0 ∧ nlp n.l g = true then cnt n.l g - 1 else cnt n.l g
theorem bnd_le (n : Net) (g : List Int) : bnd n g ≤ cnt n.l g := by unfold bnd; split <;> omega
theorem Lf.calm0 {n : Net} {g : List Int} (hL : Lf n g) (h0 : exc n.l g n.t = 0) (v : Int) : exc n.l g v = 0 := by
  by_cases c : v = n.s
  · rw [c, hL.ends, h0]; rfl
  · by_cases d : v = n.t
    · rw [d, h0]
    · exact hL.calm v c d
/-- what goes round and is no loop goes by two arcs -/
theorem two_arcs {n : Net} {g : List Int} (hL : Lf n g) (h0 : exc n.l g n.t = 0) (h : nlp n.l g = true) : ∃ i j, i < j ∧ j < n.l.length ∧ (0 < amt g i ∧ (arcAt n.l i).fr ≠ (arcAt n.l i).to) ∧ (0 < amt g j ∧ (arcAt n.l j).fr ≠ (arcAt n.l j).to) := by
  obtain ⟨i, hi, h1, h2⟩ := nlp_out h
  obtain ⟨g0, hg0⟩ : ∃ g0 : List Int, g0 = (List.range n.l.length).map fun i => if (arcAt n.l i).fr = (arcAt n.l i).to then 0 else amt g i := ⟨_, rfl⟩
  have ha : ∀ i, i < n.l.length → amt g0 i = if (arcAt n.l i).fr = (arcAt n.l i).to then 0 else amt g i := fun i hi => by
    rw [hg0]; unfold amt
    rw [List.getD_eq_getElem?_getD, List.getElem?_map, List.getElem?_range hi]; rfl
  have he : ∀ v, exc n.l g0 v = exc n.l g v := fun v => by
    rw [exc_eq, exc_eq]
    refine sumTo_congr fun i hi => ?_
    rw [ha i hi]
    by_cases c : (arcAt n.l i).fr = (arcAt n.l i).to
    · rw [if_pos c]; unfold dl; rw [c]; simp
    · rw [if_neg c]
  have hw : wi n.l g0 := fun i hi => by
    rw [ha i hi]
    have := hL.wi i hi
    split <;> omega
  obtain ⟨b, hb, hb0, hbf⟩ := exc_in hw hi (by rw [ha i hi, if_neg h2]; exact h1) rfl (by rw [he, hL.calm0 h0]; exact Int.le_refl _)
  rw [ha b hb] at hb0
  by_cases c : (arcAt n.l b).fr = (arcAt n.l b).to
  · rw [if_pos c] at hb0; omega
  · rw [if_neg c] at hb0
    have hne : b ≠ i := fun e => by rw [e] at hbf; exact h2 hbf
    rcases Nat.lt_or_gt_of_ne hne with h | h
    · exact ⟨b, i, h, hi, ⟨hb0, c⟩, ⟨h1, h2⟩⟩
    · exact ⟨i, b, h, hb, ⟨h1, h2⟩, ⟨hb0, c⟩⟩
theorem cnt_two {n : Net} {g : List Int} (hL : Lf n g) (h0 : exc n.l g n.t = 0) (h : nlp n.l g = true) : 2 ≤ cnt n.l g := by
  obtain ⟨i, j, h1, h2, h3, h4⟩ := two_arcs hL h0 h
  have := cP_two (p := fun _ => false) (q := fun i => decide (0 < amt g i)) n.l.length (by simp) h1 h2 (by simpa using h3.1) rfl (by simpa using h4.1) rfl
  unfold cnt; omega
theorem bnd_pos {n : Net} {g : List Int} (hL : Lf n g) {a : Nat} (ha : fstA n.l g 0 = some a) : 1 ≤ bnd n g := by
  obtain ⟨a1, a2, -⟩ := fst_some ha
  unfold bnd
  split
  · rename_i h; have := cnt_two hL h.1 h.2; omega
  · have := cP_one (p := fun _ => false) (q := fun i => decide (0 < amt g i)) n.l.length (by simp) a1 (by simpa using a2) rfl
    unfold cnt; omega
/-- what is left when an item is taken off -/
def tk (g : List Int) (x : Itm) : List Int := addN (-x.amount) g x.arcs
/-- what an item leads -/
def leds (x : Itm) : Int := if x.kind = 112 then x.amount else if x.kind = 98 then -x.amount else 0
theorem tk_at {n : Net} {g : List Int} {x : Itm} (hL : Lf n g) (hx : IsI n g x) (i : Nat) : amt (tk g x) i = amt g i - if i ∈ x.arcs then x.amount else 0 := by
  unfold tk
  rw [addN_at x.arcs g (beg_nodup hx.nd) (fun k hk => by rw [hL.len]; exact (hx.inn k hk).1) i]
  split <;> omega
theorem tk_exc {n : Net} (hR : Right n) {g : List Int} {x : Itm} (hL : Lf n g) (hx : IsI n g x) (v : Int) : exc n.l (tk g x) v = exc n.l g v - leds x * ((if n.t = v then 1 else 0) - (if n.s = v then 1 else 0)) := by
  have h := addN_exc (dl v) (m := -x.amount) x.arcs g hL.len (fun k hk => (hx.inn k hk).1)
  rw [exc_eq, exc_eq]
  unfold tk
  rw [h]
  have hm : ∀ m a b : Int, -m * (a - b) = -(-m * (b - a)) := fun m a b => by rw [← Int.mul_neg, Int.neg_sub]
  rcases hx.kinds with ⟨k, -, -, c, -⟩ | ⟨k, -, -, c, -⟩ | ⟨k, u, c⟩
  · have hl : leds x = x.amount := by unfold leds; rw [k]; rfl
    rw [c.sum v, hl, Int.neg_mul]; omega
  · have hl : leds x = -x.amount := by unfold leds; rw [k]; rfl
    rw [c.sum v, hl, hm]; omega
  · have hl : leds x = 0 := by unfold leds; rw [k]; rfl
    rw [c.sum v, hl, Int.sub_self, Int.mul_zero, Int.zero_mul]; omega
theorem tk_lf {n : Net} (hR : Right n) {g : List Int} {x : Itm} (hL : Lf n g) (hx : IsI n g x) : Lf n (tk g x) := by
  have hne := hR.ne
  have hc : ∀ v, v ≠ n.s → v ≠ n.t → exc n.l (tk g x) v = 0 := fun v h1 h2 => by
    rw [tk_exc hR hL hx v, hL.calm v h1 h2, if_neg (Ne.symm h2), if_neg (Ne.symm h1)]; simp
  refine ⟨?_, fun i hi => ?_, hc, calm_ends hR hc⟩
  · unfold tk; rw [addN_len, hL.len]
  · rw [tk_at hL hx]
    have := hL.wi i hi
    have := hx.pos
    split
    · rename_i h; have := (hx.inn i h).2; omega
    · omega
theorem tk_val {n : Net} (hR : Right n) {g : List Int} {x : Itm} (hL : Lf n g) (hx : IsI n g x) : exc n.l (tk g x) n.t = exc n.l g n.t - leds x := by
  rw [tk_exc hR hL hx, if_pos rfl, if_neg hR.ne]; simp
theorem tk_bnd {n : Net} (hR : Right n) {g : List Int} {x : Itm} (hL : Lf n g) (hx : IsI n g x) : bnd n (tk g x) + 1 ≤ bnd n g := by
  have hL' := tk_lf hR hL hx
  have hv := tk_val hR hL hx
  have hat := tk_at hL hx
  have hpos := hx.pos
  have hsub : ∀ i, i < n.l.length → decide (0 < amt (tk g x) i) = true → decide (0 < amt g i) = true := fun i hi h => by
    simp only [decide_eq_true_eq] at h ⊢
    rw [hat i] at h
    split at h <;> omega
  have hle : cnt n.l (tk g x) ≤ cnt n.l g := cP_le _ hsub
  by_cases hf : ∃ a ∈ x.arcs, amt g a = x.amount
  · obtain ⟨a, ha, hae⟩ := hf
    have hlt : cnt n.l (tk g x) + 1 ≤ cnt n.l g := cP_one (j := a) _ hsub (hx.inn a ha).1 (by simp; omega) (by
      simp only [decide_eq_false_iff_not]
      rw [hat a, if_pos ha]; omega)
    by_cases h0 : exc n.l g n.t = 0 ∧ nlp n.l g = true
    · have hk : leds x = 0 := by
        unfold leds
        rcases hx.kinds with ⟨k, h, -⟩ | ⟨k, h, -⟩ | ⟨k, -⟩
        · omega
        · omega
        · rw [k]; rfl
      rw [h0.1, hk] at hv
      have e1 : bnd n g = cnt n.l g - 1 := by unfold bnd; rw [if_pos h0]
      have h2 := cnt_two hL h0.1 h0.2
      by_cases hn : nlp n.l (tk g x) = true
      · have e2 : bnd n (tk g x) = cnt n.l (tk g x) - 1 := by unfold bnd; rw [if_pos ⟨by omega, hn⟩]
        have := cnt_two hL' (by omega) hn
        omega
      · obtain ⟨i, j, h1, h2, h3, h4⟩ := two_arcs hL h0.1 h0.2
        have hz : ∀ i, i < n.l.length → 0 < amt g i → (arcAt n.l i).fr ≠ (arcAt n.l i).to → decide (0 < amt (tk g x) i) = false := fun i hi _ hne => by
          simp only [decide_eq_false_iff_not]
          exact fun h => hn (nlp_in hi h hne)
        have := cP_two (p := fun i => decide (0 < amt (tk g x) i)) (q := fun i => decide (0 < amt g i)) n.l.length hsub h1 h2 (by simpa using h3.1) (hz i (by omega) h3.1 h3.2) (by simpa using h4.1) (hz j h2 h4.1 h4.2)
        have e2 := bnd_le n (tk g x)
        unfold cnt at *
        omega
    · have e1 : bnd n g = cnt n.l g := by unfold bnd; rw [if_neg h0]
      have := bnd_le n (tk g x)
      omega
  · have hk : x.amount = exc n.l g n.t ∧ leds x = x.amount ∨ x.amount = -exc n.l g n.t ∧ leds x = -x.amount := by
      unfold leds
      rcases hx.full with h | ⟨k, h⟩ | ⟨k, h⟩
      · exact absurd h hf
      · rw [k]; exact Or.inl ⟨h, rfl⟩
      · rw [k]; exact Or.inr ⟨h, rfl⟩
    have hv0 : exc n.l (tk g x) n.t = 0 := by omega
    have e1 : bnd n g = cnt n.l g := by unfold bnd; rw [if_neg (fun h => by omega)]
    have hm : x.arcs.getD (x.arcs.length - 1) 0 ∈ x.arcs := by
      have hlen : 0 < x.arcs.length := List.length_pos_iff.2 hx.ne
      rw [List.getD_eq_getElem?_getD, List.getElem?_eq_getElem (by omega)]
      exact List.getElem_mem _
    have hfrm : (arcAt n.l (x.arcs.getD (x.arcs.length - 1) 0)).fr ∈ beg n.l x.arcs := List.mem_map.2 ⟨_, hm, rfl⟩
    have hn : nlp n.l (tk g x) = true := by
      refine nlp_in (hx.inn _ hm).1 ?_ ?_
      · rw [hat, if_pos hm]
        have := (hx.inn _ hm).2
        rcases Int.lt_or_eq_of_le this with h | h
        · omega
        · exact absurd ⟨_, hm, h.symm⟩ hf
      · rcases hx.kinds with ⟨k, h, -, c, d⟩ | ⟨k, h, -, c, d⟩ | ⟨k, -⟩
        · rw [c.last hx.ne]; exact fun e => d (e ▸ hfrm)
        · rw [c.last hx.ne]; exact fun e => d (e ▸ hfrm)
        · rcases hx.full with h | ⟨k2, h⟩ | ⟨k2, h⟩
          · exact absurd h hf
          · rw [k] at k2; exact absurd k2 (by decide)
          · rw [k] at k2; exact absurd k2 (by decide)
    have e2 : bnd n (tk g x) = cnt n.l (tk g x) - 1 := by unfold bnd; rw [if_pos ⟨hv0, hn⟩]
    have := cnt_two hL' hv0 hn
    omega
/-- all items -/
def spl (n : Net) : Nat → List Int → List Itm
  | 0, _ => []
  | k + 1, g => match fstA n.l g 0 with
    | none => []
    | some _ => itm n g :: spl n k (tk g (itm n g))
/-- by how much the items go by an arc -/
def sumI (L : List Itm) (i : Nat) : Int := (L.map fun x => if i ∈ x.arcs then x.amount else 0).sum
/-- what the paths lead together -/
def led (L : List Itm) : Int := (L.map fun x => if x.kind = 112 then x.amount else 0).sum
theorem no_left {n : Net} {g : List Int} (hL : Lf n g) (h : fstA n.l g 0 = none) : ∀ i, amt g i = 0 := fun i => by
  by_cases hi : i < n.l.length
  · have := (hL.wi i hi).1
    rcases Int.lt_or_eq_of_le this with c | c
    · exact absurd (Or.inl rfl) (fst_none h hi c)
    · exact c.symm
  · have := hL.len
    unfold amt; rw [List.getD_eq_getElem?_getD, List.getElem?_eq_none (by omega)]; rfl
/-- U1, U3: what all items are -/
structure Spl (n : Net) (g : List Int) (L : List Itm) : Prop where
  len : L.length ≤ bnd n g
  sum : ∀ i, amt g i = sumI L i
  each : ∀ x ∈ L, ∃ h, Lf n h ∧ IsI n h x ∧ (∀ i, amt h i ≤ amt g i)
  up : 0 ≤ exc n.l g n.t → (∀ x ∈ L, x.kind ≠ 98) ∧ led L = exc n.l g n.t
  dn : exc n.l g n.t ≤ 0 → ∀ x ∈ L, x.kind ≠ 112
theorem spl_ok {n : Net} (hR : Right n) : ∀ (k : Nat) (g : List Int), Lf n g → bnd n g ≤ k → Spl n g (spl n k g) := by
  have base : ∀ g, Lf n g → fstA n.l g 0 = none → Spl n g [] := fun g hL h =>
    ⟨Nat.zero_le _, fun i => by rw [no_left hL h i]; rfl, fun x hx => by simp at hx, fun _ => ⟨fun x hx => by simp at hx, by rw [exc_zero (no_left hL h)]; rfl⟩, fun _ x hx => by simp at hx⟩
  intro k
  induction k with
  | zero =>
    intro g hL hb
    rcases h : fstA n.l g 0 with _ | a
    · exact base g hL h
    · have := bnd_pos hL h; omega
  | succ k ih =>
    intro g hL hb
    rcases h : fstA n.l g 0 with _ | a
    · have e : spl n (k + 1) g = [] := by simp only [spl, h]
      rw [e]; exact base g hL h
    · have e : spl n (k + 1) g = itm n g :: spl n k (tk g (itm n g)) := by simp only [spl, h]
      have hx := itm_is hR hL h
      rw [e]
      generalize itm n g = x at *
      have hb2 := tk_bnd hR hL hx
      have hv := tk_val hR hL hx
      have hS := ih (tk g x) (tk_lf hR hL hx) (by omega)
      have hk : (x.kind = 112 ∧ 0 < exc n.l g n.t ∧ x.amount ≤ exc n.l g n.t) ∨ (x.kind = 98 ∧ exc n.l g n.t < 0 ∧ x.amount ≤ -exc n.l g n.t) ∨ x.kind = 99 := by
        rcases hx.kinds with ⟨k, h1, h2, -⟩ | ⟨k, h1, h2, -⟩ | ⟨k, -⟩
        · exact Or.inl ⟨k, h1, h2⟩
        · exact Or.inr (Or.inl ⟨k, h1, h2⟩)
        · exact Or.inr (Or.inr k)
      refine ⟨?_, fun i => ?_, fun y hy => ?_, fun h0 => ?_, fun h0 y hy => ?_⟩
      · have := hS.len; simp only [List.length_cons]; omega
      · have h1 := hS.sum i
        rw [tk_at hL hx i] at h1
        have h2 : sumI (x :: spl n k (tk g x)) i = (if i ∈ x.arcs then x.amount else 0) + sumI (spl n k (tk g x)) i := by simp [sumI]
        omega
      · rcases List.mem_cons.1 hy with e | e
        · rw [e]; exact ⟨g, hL, hx, fun i => Int.le_refl _⟩
        · obtain ⟨h, h1, h2, h3⟩ := hS.each y e
          refine ⟨h, h1, h2, fun i => ?_⟩
          have h4 := h3 i
          rw [tk_at hL hx i] at h4
          have := hx.pos
          split at h4 <;> omega
      · have hl : led (x :: spl n k (tk g x)) = (if x.kind = 112 then x.amount else 0) + led (spl n k (tk g x)) := by simp [led]
        have hv0 : 0 ≤ exc n.l (tk g x) n.t ∧ x.kind ≠ 98 ∧ leds x = if x.kind = 112 then x.amount else 0 := by
          unfold leds at hv ⊢
          rcases hk with ⟨k, h1, h2⟩ | ⟨k, h1, h2⟩ | k
          · rw [k] at hv ⊢; simp only [if_pos] at hv ⊢; exact ⟨by omega, by decide, trivial⟩
          · omega
          · rw [k] at hv ⊢; rw [if_neg (by decide), if_neg (by decide)] at hv ⊢; exact ⟨by omega, by decide, rfl⟩
        obtain ⟨u1, u2⟩ := hS.up hv0.1
        refine ⟨fun y hy => ?_, ?_⟩
        · rcases List.mem_cons.1 hy with e | e
          · rw [e]; exact hv0.2.1
          · exact u1 y e
        · rw [hl, u2, hv, hv0.2.2]; omega
      · have hv0 : exc n.l (tk g x) n.t ≤ 0 ∧ x.kind ≠ 112 := by
          unfold leds at hv
          rcases hk with ⟨k, h1, h2⟩ | ⟨k, h1, h2⟩ | k
          · omega
          · rw [k] at hv; rw [if_neg (by decide), if_pos rfl] at hv; exact ⟨by omega, by rw [k]; decide⟩
          · rw [k] at hv; rw [if_neg (by decide), if_neg (by decide)] at hv; exact ⟨by omega, by rw [k]; decide⟩
        rcases List.mem_cons.1 hy with e | e
        · rw [e]; exact hv0.2
        · exact hS.dn hv0.1 y e
/-- more rounds tell no more -/
theorem spl_more {n : Net} (hR : Right n) : ∀ (k : Nat) (g : List Int), Lf n g → bnd n g ≤ k → ∀ j, spl n (k + j) g = spl n k g
  | 0, g, hL, hb, j => by
    rcases h : fstA n.l g 0 with _ | a
    · rcases j with _ | j
      · rfl
      · rw [Nat.zero_add]; simp only [spl, h]
    · have := bnd_pos hL h; omega
  | k + 1, g, hL, hb, j => by
    rw [show k + 1 + j = (k + j) + 1 by omega]
    rcases h : fstA n.l g 0 with _ | a
    · simp only [spl, h]
    · have hx := itm_is hR hL h
      have := tk_bnd hR hL hx
      simp only [spl, h]
      rw [spl_more hR k _ (tk_lf hR hL hx) (by omega) j]
/-- a network whose ends are changed -/
def swpN (n : Net) : Net := ⟨n.n, n.t, n.s, n.l⟩
def swp (x : Itm) : Itm := ⟨if x.kind = 112 then 98 else if x.kind = 98 then 112 else x.kind, x.arcs, x.amount⟩
theorem swp_right {n : Net} (hR : Right n) (h : Right (swpN n)) : True := trivial
theorem swp_lf {n : Net} {g : List Int} (hL : Lf n g) : Lf (swpN n) g := ⟨hL.len, hL.wi, fun v h1 h2 => hL.calm v h2 h1, by have := hL.ends; show exc n.l g n.t = -exc n.l g n.s; omega⟩
theorem swp_itm {n : Net} (hR : Right n) {g : List Int} (hL : Lf n g) {a : Nat} (ha : fstA n.l g 0 = some a) : itm (swpN n) g = swp (itm n g) := by
  have hE := hL.ends
  have hx := itm_is hR hL ha
  have e1 : bgn (swpN n) g = bgn n g := by
    unfold bgn swpN
    simp only
    by_cases p : 0 < exc n.l g n.t
    · rw [if_pos p, if_neg (by omega), if_pos (by omega)]
    · by_cases q : exc n.l g n.t < 0
      · rw [if_neg p, if_pos q, if_pos (by omega)]
      · rw [if_neg p, if_neg q, if_neg (by omega), if_neg (by omega)]
  have e2 : fin (swpN n) g = fin n g := by
    unfold fin swpN
    simp only
    by_cases p : 0 < exc n.l g n.t
    · rw [if_pos p, if_neg (by omega), if_pos (by omega)]
    · by_cases q : exc n.l g n.t < 0
      · rw [if_neg p, if_pos q, if_pos (by omega)]
      · rw [if_neg p, if_neg q, if_neg (by omega), if_neg (by omega)]
  have e3 : wlk (swpN n).l g (fin (swpN n) g) ((swpN n).n.toNat + 1) (bgn (swpN n) g) [] = wlk n.l g (fin n g) (n.n.toNat + 1) (bgn n g) [] := by rw [e1, e2]; rfl
  unfold itm at hx ⊢
  rw [e3]
  rcases hw : wlk n.l g (fin n g) (n.n.toNat + 1) (bgn n g) [] with _ | ⟨_ | _, R⟩
  · rfl
  · rfl
  · rw [hw] at hx
    simp only at hx ⊢
    show (if 0 < exc n.l g n.s then (⟨112, R, lst g (exc n.l g n.s) R⟩ : Itm) else ⟨98, R, lst g (-exc n.l g n.s) R⟩) = _
    by_cases p : 0 < exc n.l g n.t
    · rw [if_pos p, if_neg (by omega), hE, Int.neg_neg]; rfl
    · rw [if_neg p] at hx
      rw [if_neg p]
      have q : exc n.l g n.t < 0 := by
        rcases hx.kinds with ⟨k, -⟩ | ⟨-, h, -⟩ | ⟨k, -⟩
        · have k' : (98 : Int) = 112 := k
          exact absurd k' (by decide)
        · exact h
        · have k' : (98 : Int) = 99 := k
          exact absurd k' (by decide)
      rw [if_pos (by omega), hE]; rfl
/-- led back, the same items are told, paths as ways back -/
theorem swp_spl {n : Net} (hR : Right n) : ∀ (k : Nat) (g : List Int), Lf n g → spl (swpN n) k g = (spl n k g).map swp
  | 0, g, _ => rfl
  | k + 1, g, hL => by
    rcases h : fstA n.l g 0 with _ | a
    · have h2 : fstA (swpN n).l g 0 = none := h
      simp only [spl, h, h2]; rfl
    · have h2 : fstA (swpN n).l g 0 = some a := h
      simp only [spl, h, h2, List.map_cons]
      rw [swp_itm hR hL h]
      have hx := itm_is hR hL h
      have e : tk g (swp (itm n g)) = tk g (itm n g) := rfl
      rw [e, swp_spl hR k _ (tk_lf hR hL hx)]
end Dc
end Go.Proofs.Ytkeojkddbannpaa
