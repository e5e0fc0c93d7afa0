/-
  append behind a row of the call's own, and where the new row lies: in the old one's block, or in a new one; append at a step of a region that draws. Conditions: fewer than 2^40 elements together; what is appended is not nil.
-/
import Derived.Test.YtdnchebbdkgccaaNets
import Derived.Test.YtdnchebbdkgccaaEnd
import Derived.Maps.AppendAt
namespace Go.Proofs.Ytdnchebbdkgccaa
open Go.ChangeShapes Go.WideShapes Go.ChangeAt Go.RowKit
set_option linter.unusedVariables false
namespace Rw
variable {α : Type} {e t : TypeId} {k bytes : Nat} {z : Value} {enc : α → List Value}
theorem appAt (E : Elem e t k bytes z) (hk : ∀ x : α, (enc x).length = k) (h1 : ∀ x, ∀ u ∈ enc x, u.oneCell' = true)
    {ops : Array Oper} {rest : List Oper} {o : Oper} {a : Act} {Q : Exit → Act → World → Prop} {w : World} (hgd : o.guard = none) (s x : Operand)
    (ho : o.op = .call { callee := .builtin .append, args := #[s, x], argTypes := #[t, t] })
    (B : Nat) (v : Value) (xs : List α) (hs : a.eval s = v) (hown : Own e k enc w B v xs)
    (ad : Addr) (cap : Nat) (ys : List α) (hx : a.eval x = .slice (some ad) ys.length cap) (hr : Row k enc w (some ad) ys)
    (h63 : xs.length + ys.length ≤ 1099511627776) (hB : B ≤ w.heap.size)
    (h : ∀ v' w', Own e k enc w' B v' (xs ++ ys) → w.grownBy w' v.ownBlock → (v'.ownBlock = v.ownBlock ∨ v'.ownBlock = some w.heap.size) → wpList Try.prog ops Q rest (a.put o.dst v') w') : wpList Try.prog ops Q (o :: rest) a w := by
  obtain ⟨i0, hi, hz0, hz1, hz2⟩ := info_parts E.info
  refine wpList_append_own_at w hgd s x t ho B e i0 z k bytes E.und hi hz0 hz1 hz2 E.zk E.pos v xs.length _ hs hown ad ys.length cap (ys.flatMap enc) hx (flat_len hk) ?_ ?_ (by unfold maxLen; omega) ?_ hB ?_
  · intro j u hj
    rcases hr with h | ⟨b, off, h, hlt, hc⟩
    · subst h; simp at hj
    · cases h
      have hjl : j < ys.length * k := by rw [← flat_len hk]; exact (List.getElem?_eq_some_iff.1 hj).1
      have hkp := E.pos
      have hq : j / k < ys.length := (Nat.div_lt_iff_lt_mul hkp).2 hjl
      have hm : j % k < k := Nat.mod_lt _ hkp
      have hjd : j = j / k * k + j % k := by rw [Nat.mul_comm]; exact (Nat.div_add_mod j k).symm
      obtain ⟨y, hy⟩ : ∃ y, ys[j / k]? = some y := ⟨_, List.getElem?_eq_getElem hq⟩
      obtain ⟨u', hu'⟩ : ∃ u', (enc y)[j % k]? = some u' := ⟨_, List.getElem?_eq_getElem (by rw [hk]; exact hm)⟩
      have h2 := flat_at hk _ y hy _ u' hu'
      rw [← hjd, hj] at h2
      rw [Option.some.inj h2, add_at]
      have := hc _ y hy _ u' hu'
      rw [← hjd] at this
      exact this
  · intro u hu
    obtain ⟨y, _, hy⟩ := List.mem_flatMap.1 hu
    exact h1 y u hy
  · have := E.small
    have h2 : (xs.length + ys.length) * bytes ≤ 1099511627776 * 64 := Nat.mul_le_mul h63 this
    omega
  · intro v' w' g1 g2 _ g4
    refine h v' w' ?_ g2 g4
    unfold Own
    rw [List.length_append, List.flatMap_append]
    exact g1
/-- a row of the call's own, where another one has grown -/
theorem own_grown {w w2 : World} {B : Nat} {v : Value} {xs : List α} {row : Option Nat} (h : Own e k enc w B v xs) (hg : w.grownBy w2 row) (hne : ∀ g, v.ownBlock = some g → some g ≠ row) : Own e k enc w2 B v xs := by
  obtain ⟨h1, h2⟩ := h
  refine ⟨h1, ?_⟩
  rcases h2 with h2 | ⟨g, cap, cur, hv, hg2, hh, r⟩
  · exact .inl h2
  · exact .inr ⟨g, cap, cur, hv, hg2, by rw [hg.block g (lt_of_heap hh) (hne g (by rw [hv]; rfl))]; exact hh, r⟩
/-- its block is one that there is -/
theorem own_lt {w : World} {B : Nat} {v : Value} {xs : List α} (h : Own e k enc w B v xs) : ∀ g, v.ownBlock = some g → B ≤ g ∧ g < w.heap.size := by
  obtain ⟨h1, h2⟩ := h
  intro b hk
  rcases h2 with ⟨hv, hn⟩ | ⟨g, cap, cur, hv, hg, hh, _⟩
  · rw [hv] at hk; simp [Value.ownBlock] at hk
  · rw [hv] at hk; simp [Value.ownBlock] at hk; subst hk; exact ⟨hg, lt_of_heap hh⟩
/-- append at a step of a region that draws its order -/
theorem stepAt (E : Elem e t k bytes z) (hk : ∀ x : α, (enc x).length = k) (h1 : ∀ x, ∀ u ∈ enc x, u.oneCell' = true)
    {ops : Array Oper} {o : Oper} {a : Act} {K : Act → World → Prop} {Q : Exit → Act → World → Prop} {E' : Prop} {w : World} (hgd : o.guard = none) (s x : Operand)
    (ho : o.op = .call { callee := .builtin .append, args := #[s, x], argTypes := #[t, t] })
    (B : Nat) (v : Value) (xs : List α) (hs : a.eval s = v) (hown : Own e k enc w B v xs)
    (ad : Addr) (cap : Nat) (ys : List α) (n : Nat) (hn : n = ys.length) (hx : a.eval x = .slice (some ad) n cap) (hr : Row k enc w (some ad) ys)
    (h63 : xs.length + ys.length ≤ 1099511627776) (hB : B ≤ w.heap.size)
    (h : ∀ v' w', Own e k enc w' B v' (xs ++ ys) → w.grownBy w' v.ownBlock → (v'.ownBlock = v.ownBlock ∨ v'.ownBlock = some w.heap.size) → K (a.put o.dst v') w') :
    if Region.wanted o (yielded ops a.tmps) = true then Oper.wp Try.prog o a w K Q else E' := by
  subst hn
  have hw : Region.wanted o (yielded ops a.tmps) = true := by simp [Region.wanted, hgd]
  rw [if_pos hw]
  obtain ⟨i0, hi, hz0, hz1, hz2⟩ := info_parts E.info
  have hnews : ∀ j u, (ys.flatMap enc)[j]? = some u → w.cell? (ad.add j) = some u := by
    intro j u hj
    rcases hr with h | ⟨b, off, h, hlt, hc⟩
    · subst h; simp at hj
    · cases h
      have hjl : j < ys.length * k := by rw [← flat_len hk]; exact (List.getElem?_eq_some_iff.1 hj).1
      have hkp := E.pos
      have hq : j / k < ys.length := (Nat.div_lt_iff_lt_mul hkp).2 hjl
      have hm : j % k < k := Nat.mod_lt _ hkp
      have hjd : j = j / k * k + j % k := by rw [Nat.mul_comm]; exact (Nat.div_add_mod j k).symm
      obtain ⟨y, hy⟩ : ∃ y, ys[j / k]? = some y := ⟨_, List.getElem?_eq_getElem hq⟩
      obtain ⟨u', hu'⟩ : ∃ u', (enc y)[j % k]? = some u' := ⟨_, List.getElem?_eq_getElem (by rw [hk]; exact hm)⟩
      have h2 := flat_at hk _ y hy _ u' hu'
      rw [← hjd, hj] at h2
      rw [Option.some.inj h2, add_at]
      have := hc _ y hy _ u' hu'
      rw [← hjd] at this
      exact this
  have h2 : (xs.length + ys.length) * bytes ≤ 1099511627776 * 64 := Nat.mul_le_mul h63 E.small
  obtain ⟨v', w', hrn, g1, g2, g3, g4⟩ := run_append_own_at (P := Try.prog) w B t o.type e i0 z k bytes E.und hi hz0 hz1 hz2 E.zk E.pos v xs.length _ hown ad ys.length cap (ys.flatMap enc) (flat_len hk) hnews
    (fun u hu => by obtain ⟨y, _, hy⟩ := List.mem_flatMap.1 hu; exact h1 y u hy) (by unfold maxLen; omega) (by omega) hB
  unfold Oper.wp execOp
  simp only [ho, resolve, invoke, builtin, Sem.run_bind, Sem.run_pure, Result.andThen_ok, List.map_toArray, List.map_cons, List.map_nil, hs, hx, hrn]
  refine h v' w' ?_ g2 g4
  unfold Own
  rw [List.length_append, List.flatMap_append]
  exact g1
end Rw
end Go.Proofs.Ytdnchebbdkgccaa
