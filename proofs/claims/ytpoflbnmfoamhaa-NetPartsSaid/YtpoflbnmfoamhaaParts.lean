/-
  Plain facts: the numbers of the arcs of all nodes together; one append at a step of a region that draws. No condition.
-/
import Derived.Test.YtpoflbnmfoamhaaAppat
namespace Go.Proofs.Ytpoflbnmfoamhaa
open Go.ChangeShapes Go.WideShapes Go.ChangeAt Go.RowKit
set_option linter.unusedVariables false
set_option linter.unusedSimpArgs false
namespace Ne
theorem outs_get {l : List Arc} {v : Int} {k i : Nat} {x : Int} (h : (outs l v k)[i]? = some x) : ∃ (j : Nat) (a : Arc), x = (j : Int) ∧ j < k ∧ l[j]? = some a ∧ a.fr = v := by
  have hm := List.mem_of_getElem? h
  unfold outs at hm
  obtain ⟨j, hj, rfl⟩ := List.mem_map.1 hm
  obtain ⟨h1, h2⟩ := List.mem_filter.1 hj
  have h3 := of_decide_eq_true h2
  obtain ⟨a, ha, hf⟩ := Option.map_eq_some_iff.1 h3
  exact ⟨j, a, rfl, List.mem_range.1 h1, ha, hf⟩
theorem outs_inc {l : List Arc} {v : Int} {k i : Nat} {x y : Int} (h1 : (outs l v k)[i]? = some x) (h2 : (outs l v k)[i + 1]? = some y) : x < y := by
  have hp : (outs l v k).Pairwise (· < ·) := by
    unfold outs
    rw [List.pairwise_map]
    exact (List.Pairwise.filter _ List.pairwise_lt_range).imp fun h => by omega
  obtain ⟨g1, e1⟩ := List.getElem?_eq_some_iff.1 h1
  obtain ⟨g2, e2⟩ := List.getElem?_eq_some_iff.1 h2
  have := List.pairwise_iff_getElem.1 hp i (i + 1) g1 g2 (by omega)
  rw [e1, e2] at this
  exact this
/-- how many arcs have an end f that is v; that is below v -/
def cntE (f : Arc → Int) (l : List Arc) (v : Int) : Nat := (l.filter fun a => decide (f a = v)).length
def cntB (f : Arc → Int) (l : List Arc) (v : Int) : Nat := (l.filter fun a => decide (f a < v)).length
theorem cntE_snoc (f : Arc → Int) (l : List Arc) (a : Arc) (v : Int) : cntE f (l ++ [a]) v = cntE f l v + if f a = v then 1 else 0 := by
  unfold cntE; rw [List.filter_append, List.length_append]; by_cases h : f a = v <;> simp [h]
theorem outs_cnt (l : List Arc) (v : Int) : (outs l v l.length).length = cntE Arc.fr l v := by
  have : ∀ k, k ≤ l.length → (outs l v k).length = cntE Arc.fr (l.take k) v := by
    intro k
    induction k with
    | zero => intro _; rfl
    | succ k ih =>
      intro hk
      obtain ⟨a, ha⟩ : ∃ a, l[k]? = some a := ⟨_, List.getElem?_eq_getElem (by omega)⟩
      rw [List.take_add_one, ha]
      simp only [Option.toList_some]
      rw [cntE_snoc]
      by_cases h : a.fr = v
      · rw [outs_hit ha h, List.length_append, ih (by omega), if_pos h]; rfl
      · rw [outs_miss ha h, ih (by omega), if_neg h]; rfl
  rw [this _ (Nat.le_refl _), List.take_length]
theorem ins_cnt (l : List Arc) (v : Int) : (ins l v l.length).length = cntE Arc.to l v := by
  have : ∀ k, k ≤ l.length → (ins l v k).length = cntE Arc.to (l.take k) v := by
    intro k
    induction k with
    | zero => intro _; rfl
    | succ k ih =>
      intro hk
      obtain ⟨a, ha⟩ : ∃ a, l[k]? = some a := ⟨_, List.getElem?_eq_getElem (by omega)⟩
      rw [List.take_add_one, ha]
      simp only [Option.toList_some]
      rw [cntE_snoc]
      by_cases h : a.to = v
      · rw [ins_hit ha h, List.length_append, ih (by omega), if_pos h]; rfl
      · rw [ins_miss ha h, ih (by omega), if_neg h]; rfl
  rw [this _ (Nat.le_refl _), List.take_length]
theorem cntB_succ (f : Arc → Int) (l : List Arc) (v : Int) : cntB f l (v + 1) = cntB f l v + cntE f l v := by
  unfold cntB cntE
  induction l with
  | nil => rfl
  | cons a l ih =>
    simp only [List.filter_cons]
    by_cases h1 : f a < v
    · have h2 : f a < v + 1 := by omega
      have h3 : ¬ f a = v := by omega
      simp only [h1, h2, h3, decide_true, decide_false, if_true, Bool.false_eq_true, if_false, List.length_cons]; omega
    · by_cases h3 : f a = v
      · have h2 : f a < v + 1 := by omega
        have h4 : decide (f a < v + 1) = true := decide_eq_true h2
        have h5 : decide (f a < v) = false := decide_eq_false h1
        have h6 : decide (f a = v) = true := decide_eq_true h3
        rw [if_pos h4, if_neg (by rw [h5]; exact Bool.false_ne_true), if_pos h6, List.length_cons, List.length_cons]; omega
      · have h2 : ¬ f a < v + 1 := by omega
        simp only [h1, h2, h3, decide_false, Bool.false_eq_true, if_false]; exact ih
theorem cntB_none (f : Arc → Int) (l : List Arc) (v : Int) (h : ∀ a ∈ l, v ≤ f a) : cntB f l v = 0 := by
  unfold cntB
  rw [List.length_eq_zero_iff, List.filter_eq_nil_iff]
  intro a ha; simp; exact h a ha
theorem cntB_all (f : Arc → Int) (l : List Arc) (v : Int) (h : ∀ a ∈ l, f a < v) : cntB f l v = l.length := by
  unfold cntB
  rw [List.filter_eq_self.2 (fun a ha => by simpa using h a ha)]
theorem cntE_none (f : Arc → Int) (l : List Arc) (v : Int) (h : ∀ a ∈ l, f a ≠ v) : cntE f l v = 0 := by
  unfold cntE
  rw [List.length_eq_zero_iff, List.filter_eq_nil_iff]
  intro a ha; simp; exact h a ha
theorem cntB_le (f : Arc → Int) (l : List Arc) (v : Int) : cntB f l v ≤ l.length := List.length_filter_le _ _
end Ne
namespace Rw
variable {α : Type} {e t : TypeId} {k bytes : Nat} {z : Value} {enc : α → List Value}
/-- append at a step of a region that draws its order -/
theorem stepAt (E : Elem e t k bytes z) (hk : ∀ x : α, (enc x).length = k) (h1 : ∀ x, ∀ u ∈ enc x, u.oneCell' = true)
    {ops : Array Oper} {o : Oper} {a : Act} {K : Act → World → Prop} {Q : Exit → Act → World → Prop} {E' : Prop} {w : World} (hgd : o.guard = none) (s x : Operand)
    (ho : o.op = .call { callee := .builtin .append, args := #[s, x], argTypes := #[t, t] })
    (B : Nat) (v : Value) (xs : List α) (hs : a.eval s = v) (hown : Own e k enc w B v xs)
    (ad : Addr) (cap : Nat) (ys : List α) (n : Nat) (hn : n = ys.length) (hx : a.eval x = .slice (some ad) n cap) (hr : Row k enc w (some ad) ys)
    (h63 : xs.length + ys.length ≤ 1099511627776) (hB : B ≤ w.heap.size)
    (h : ∀ v' w', Own e k enc w' B v' (xs ++ ys) → w.grownBy w' v.ownBlock → (v'.ownBlock = v.ownBlock ∨ v'.ownBlock = some w.heap.size) → K (a.put o.dst v') w') :
    if Region.wanted o (yielded ops a.tmps) = true then Oper.wp Try.prog o a w K Q else E' := by
  subst hn
  have hw : Region.wanted o (yielded ops a.tmps) = true := by simp [Region.wanted, hgd]
  rw [if_pos hw]
  obtain ⟨i0, hi, hz0, hz1, hz2⟩ := info_parts E.info
  have hnews : ∀ j u, (ys.flatMap enc)[j]? = some u → w.cell? (ad.add j) = some u := by
    intro j u hj
    rcases hr with h | ⟨b, off, h, hlt, hc⟩
    · subst h; simp at hj
    · cases h
      have hjl : j < ys.length * k := by rw [← flat_len hk]; exact (List.getElem?_eq_some_iff.1 hj).1
      have hkp := E.pos
      have hq : j / k < ys.length := (Nat.div_lt_iff_lt_mul hkp).2 hjl
      have hm : j % k < k := Nat.mod_lt _ hkp
      have hjd : j = j / k * k + j % k := by rw [Nat.mul_comm]; exact (Nat.div_add_mod j k).symm
      obtain ⟨y, hy⟩ : ∃ y, ys[j / k]? = some y := ⟨_, List.getElem?_eq_getElem hq⟩
      obtain ⟨u', hu'⟩ : ∃ u', (enc y)[j % k]? = some u' := ⟨_, List.getElem?_eq_getElem (by rw [hk]; exact hm)⟩
      have h2 := flat_at hk _ y hy _ u' hu'
      rw [← hjd, hj] at h2
      rw [Option.some.inj h2, add_at]
      have := hc _ y hy _ u' hu'
      rw [← hjd] at this
      exact this
  have h2 : (xs.length + ys.length) * bytes ≤ 1099511627776 * 64 := Nat.mul_le_mul h63 E.small
  obtain ⟨v', w', hrn, g1, g2, g3, g4⟩ := run_append_own_at (P := Try.prog) w B t o.type e i0 z k bytes E.und hi hz0 hz1 hz2 E.zk E.pos v xs.length _ hown ad ys.length cap (ys.flatMap enc) (flat_len hk) hnews
    (fun u hu => by obtain ⟨y, _, hy⟩ := List.mem_flatMap.1 hu; exact h1 y u hy) (by unfold maxLen; omega) (by omega) hB
  unfold Oper.wp execOp
  simp only [ho, resolve, invoke, builtin, Sem.run_bind, Sem.run_pure, Result.andThen_ok, List.map_toArray, List.map_cons, List.map_nil, hs, hx, hrn]
  refine h v' w' ?_ g2 g4
  unfold Own
  rw [List.length_append, List.flatMap_append]
  exact g1
end Rw
end Go.Proofs.Ytpoflbnmfoamhaa
