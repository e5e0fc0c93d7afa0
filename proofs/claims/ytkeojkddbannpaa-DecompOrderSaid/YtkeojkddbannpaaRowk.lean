/-
  Rows of elements of k cells in memory: those that came in, those that the call itself makes; append. No condition but fewer than 2^40 elements.
-/
import Derived.Test.YtkeojkddbannpaaRows
import Derived.WalkKit
import Derived.ProofKit
import Derived.Below
import Derived.OpenShut
import Derived.Lib.Hide
import Derived.Lib.Slices
import Derived.Laws.AppendOwn
import Derived.Laws.AppendOwnNone
import Derived.OwnWalk
import Derived.BigQuiet
import Derived.Deep.QuietTactic
namespace Go.Proofs.Ytkeojkddbannpaa
open Go.ChangeShapes Go.WideShapes Go.ChangeAt Go.RowKit
set_option linter.unusedVariables false
namespace Rw

theorem add_at (b off j : Nat) : (⟨b, off, none⟩ : Addr).add j = ⟨b, off + j, none⟩ := by
  unfold Addr.add; by_cases h : j = 0
  · subst h; simp
  · simp [h]
theorem heap_lt_of_cell {w : World} {b o : Nat} {v : Value} (h : w.cell? ⟨b, o, none⟩ = some v) : b < w.heap.size := by
  rcases Nat.lt_or_ge b w.heap.size with hb | hb
  · exact hb
  · simp [World.cell?, Array.getElem?_eq_none hb] at h
theorem below_drewN (w : World) (q : Nat) : Below w.heap.size w (w.drewN q) := ⟨rfl, rfl, rfl, Nat.le_refl _, fun _ _ => rfl⟩

/-- elements of k cells, one behind the other, from an address on -/
def Row {α : Type} (k : Nat) (enc : α → List Value) (w : World) (ao : Option Addr) (l : List α) : Prop :=
  l = [] ∨ ∃ b off, ao = some ⟨b, off, none⟩ ∧ b < w.heap.size ∧ ∀ (i : Nat) (x : α), l[i]? = some x → ∀ (j : Nat) (v : Value), (enc x)[j]? = some v → w.cell? ⟨b, off + (i * k + j), none⟩ = some v
theorem Row.below {α : Type} {k : Nat} {enc : α → List Value} {w w2 : World} {ao : Option Addr} {l : List α} {B : Nat} (h : Row k enc w ao l) (hB : ∀ b off, ao = some ⟨b, off, none⟩ → b < B) (hs : w.heap.size ≤ w2.heap.size) (hb : Below B w w2) : Row k enc w2 ao l := by
  rcases h with h | ⟨b, off, rfl, hlt, hc⟩
  · exact .inl h
  · exact .inr ⟨b, off, rfl, Nat.lt_of_lt_of_le hlt hs, fun i x hx j v hv => by rw [hb.cell (p := ⟨b, off + (i * k + j), none⟩) (hB b off rfl)]; exact hc i x hx j v hv⟩
theorem Row.kept {α : Type} {k : Nat} {enc : α → List Value} {w w2 : World} {ao : Option Addr} {l : List α} (h : Row k enc w ao l) (hb : Below w.heap.size w w2) : Row k enc w2 ao l := by
  rcases h with h | ⟨b, off, rfl, hlt, hc⟩
  · exact .inl h
  · exact .inr ⟨b, off, rfl, Nat.lt_of_lt_of_le hlt hb.size, fun i x hx j v hv => by rw [hb.cell (p := ⟨b, off + (i * k + j), none⟩) hlt]; exact hc i x hx j v hv⟩
theorem Row.drewN {α : Type} {k : Nat} {enc : α → List Value} {w : World} {ao : Option Addr} {l : List α} (h : Row k enc w ao l) (q : Nat) : Row k enc (w.drewN q) ao l := h.kept (below_drewN w q)

/-- what the program says of an element's type, and of the slice's -/
structure Elem (e t : TypeId) (k bytes : Nat) (z : Value) : Prop where
  info : (Try.prog.info? e).map (fun i => (i.zero, i.size, i.bytes)) = some (some z, k, bytes)
  und : Try.prog.underlying t = some (.slice e)
  zk : z.cells.size = k
  pos : 0 < k
  small : bytes ≤ 64

/-- a slice that the call made, and what it holds -/
def Own {α : Type} (e : TypeId) (k : Nat) (enc : α → List Value) (w : World) (B : Nat) (v : Value) (xs : List α) : Prop := w.ownsRow B e k v xs.length (xs.flatMap enc)
section
variable {α : Type} {e t : TypeId} {k bytes : Nat} {z : Value} {enc : α → List Value}
theorem own_nil (w : World) (B : Nat) : Own e k enc w B (.slice none 0 0) ([] : List α) := ⟨by simp, .inl ⟨rfl, rfl⟩⟩
theorem own_block {w : World} {B : Nat} {v : Value} {xs : List α} (h : Own e k enc w B v xs) : ∀ b, v.ownBlock = some b → B ≤ b := by
  obtain ⟨h1, h2⟩ := h
  intro b hk
  rcases h2 with ⟨hv, hn⟩ | ⟨g, cap, cur, hv, hg, _⟩
  · rw [hv] at hk; simp [Value.ownBlock] at hk
  · rw [hv] at hk; simp [Value.ownBlock] at hk; omega
theorem lt_of_heap {w : World} {g : Nat} {o : Obj} (h : w.heap[g]? = some o) : g < w.heap.size := by
  rcases Nat.lt_or_ge g w.heap.size with h2 | h2
  · exact h2
  · rw [Array.getElem?_eq_none h2] at h; cases h
theorem own_below {w w2 : World} {B : Nat} {v : Value} {xs : List α} (h : Own e k enc w B v xs) (hb : Below w.heap.size w w2) : Own e k enc w2 B v xs := by
  obtain ⟨h1, h2⟩ := h
  refine ⟨h1, ?_⟩
  rcases h2 with h2 | ⟨g, cap, cur, hv, hg, hh, r⟩
  · exact .inl h2
  · exact .inr ⟨g, cap, cur, hv, hg, by rw [hb.block g (lt_of_heap hh)]; exact hh, r⟩
theorem own_alloc {w : World} {B : Nat} {v : Value} {xs : List α} (h : Own e k enc w B v xs) (o : Obj) : Own e k enc (w.alloc o) B v xs :=
  own_below h ((Below.refl _ _).alloc (Nat.le_refl _) o)
theorem own_drewN {w : World} {B : Nat} {v : Value} {xs : List α} (h : Own e k enc w B v xs) (q : Nat) : Own e k enc (w.drewN q) B v xs := h
/-- a store into another block -/
theorem own_set {w : World} {B : Nat} {v : Value} {xs : List α} (h : Own e k enc w B v xs) {p : Addr} (hp : v.ownBlock ≠ some p.block) (u : Value) : Own e k enc (w.setCell p u) B v xs := by
  obtain ⟨h1, h2⟩ := h
  refine ⟨h1, ?_⟩
  rcases h2 with h2 | ⟨g, cap, cur, hv, hg, hh, r⟩
  · exact .inl h2
  · refine .inr ⟨g, cap, cur, hv, hg, ?_, r⟩
    rw [Below.heap_setCell _ _ _ _ (fun he => hp (by rw [hv, ← he]; rfl))]; exact hh
/-- a lower base serves too -/
theorem own_base {w : World} {B B' : Nat} {v : Value} {xs : List α} (h : Own e k enc w B v xs) (hB : B' ≤ B) : Own e k enc w B' v xs := by
  obtain ⟨h1, h2⟩ := h
  refine ⟨h1, ?_⟩
  rcases h2 with h2 | ⟨g, cap, cur, hv, hg, r⟩
  · exact .inl h2
  · exact .inr ⟨g, cap, cur, hv, by omega, r⟩
theorem flat_len {xs : List α} (hk : ∀ x, (enc x).length = k) : (xs.flatMap enc).length = xs.length * k := by
  induction xs with
  | nil => simp
  | cons x xs ih => rw [List.flatMap_cons, List.length_append, ih, hk, List.length_cons, Nat.succ_mul]; omega
theorem flat_at {xs : List α} (hk : ∀ x, (enc x).length = k) : ∀ (i : Nat) (x : α), xs[i]? = some x → ∀ (j : Nat) (v : Value), (enc x)[j]? = some v → (xs.flatMap enc)[i * k + j]? = some v := by
  induction xs with
  | nil => intro i x hx; simp at hx
  | cons y xs ih =>
    intro i x hx j v hv
    have hj : j < k := by rw [← hk x]; exact (List.getElem?_eq_some_iff.1 hv).1
    rcases i with _ | i
    · simp at hx; subst hx
      rw [List.flatMap_cons, Nat.zero_mul, Nat.zero_add, List.getElem?_append_left (by rw [hk]; exact hj)]; exact hv
    · have := ih i x (by simpa using hx) j v hv
      rw [List.flatMap_cons, List.getElem?_append_right (by rw [hk, Nat.succ_mul]; omega), hk, show (i + 1) * k + j - k = i * k + j by rw [Nat.succ_mul]; omega]; exact this
/-- what such a slice is, told as a row -/
theorem own_row {w : World} {B : Nat} {v : Value} {xs : List α} (hk : ∀ x, (enc x).length = k) (h : Own e k enc w B v xs) :
    ∃ ao cap, v = .slice ao xs.length cap ∧ xs.length ≤ cap ∧ cap ≤ maxLen ∧ (ao = none → cap = 0) ∧ Row k enc w ao xs ∧ (∀ b off, ao = some ⟨b, off, none⟩ → B ≤ b ∧ b < w.heap.size) ∧ (∀ a, ao = some a → ∃ b, a = ⟨b, 0, none⟩) := by
  obtain ⟨h1, h2⟩ := h
  rcases h2 with ⟨hv, hn⟩ | ⟨g, cap, cur, hv, hg, hh, hc, hm, hs, ht⟩
  · exact ⟨none, 0, by rw [hv, hn], by omega, by unfold maxLen; omega, fun _ => rfl, .inl (List.length_eq_zero_iff.1 hn), fun _ _ h => (by cases h), fun _ h => (by cases h)⟩
  · refine ⟨some ⟨g, 0, none⟩, cap, hv, hc, hm, fun h => by (cases h), .inr ⟨g, 0, rfl, lt_of_heap hh, ?_⟩, fun b off h => by cases h; exact ⟨hg, lt_of_heap hh⟩, fun a h => by cases h; exact ⟨g, rfl⟩⟩
    intro i x hx j v hv
    have hi : i < xs.length := (List.getElem?_eq_some_iff.1 hx).1
    have hj : j < k := by rw [← hk x]; exact (List.getElem?_eq_some_iff.1 hv).1
    have hlt : i * k + j < xs.length * k := by
      have : (i + 1) * k ≤ xs.length * k := Nat.mul_le_mul_right k hi
      rw [Nat.succ_mul] at this; omega
    have e : cur[i * k + j]? = some v := by
      have := congrArg (fun l => l[i * k + j]?) ht
      simp only [List.getElem?_take, Array.getElem?_toList] at this
      rw [if_pos hlt, flat_at hk i x hx j v hv] at this
      exact this
    simp [World.cell?, hh, e]

/-- 'out = append(out, l...)', or with one element that lies in a new block -/
theorem app (E : Elem e t k bytes z) (hk : ∀ x : α, (enc x).length = k) (h1 : ∀ x, ∀ u ∈ enc x, u.oneCell' = true)
    {ops : Array Oper} {rest : List Oper} {o : Oper} {a : Act} {Q : Exit → Act → World → Prop} {w : World} (hgd : o.guard = none) (s x : Operand)
    (ho : o.op = .call { callee := .builtin .append, args := #[s, x], argTypes := #[t, t] })
    (B : Nat) (v : Value) (xs : List α) (hs : a.eval s = v) (hown : Own e k enc w B v xs)
    (ao : Option Addr) (cap : Nat) (ys : List α) (hx : a.eval x = .slice ao ys.length cap) (hnone : ao = none → cap = 0) (hr : Row k enc w ao ys)
    (h63 : xs.length + ys.length ≤ 1099511627776) (hB : B ≤ w.heap.size)
    (h : ∀ v' w', Own e k enc w' B v' (xs ++ ys) → w.grownBy w' v.ownBlock → wpList Try.prog ops Q rest (a.put o.dst v') w') : wpList Try.prog ops Q (o :: rest) a w := by
  obtain ⟨i0, hi, hz0, hz1, hz2⟩ := info_parts E.info
  rcases ao with _ | ad
  · have hy : ys = [] := by
      rcases hr with h | ⟨b, off, h, _⟩
      · exact h
      · cases h
    subst hy
    rw [hnone rfl] at hx
    refine wpList_append_own_none hgd s x t ho B e i0 k E.und hi v xs.length _ hs hown hx ?_
    refine h v w ?_ ⟨rfl, rfl, rfl, Nat.le_refl _, fun _ _ _ => rfl⟩
    rw [List.append_nil]; exact hown
  · refine wpList_append_own w hgd s x t ho B e i0 z k bytes E.und hi hz0 hz1 hz2 E.zk E.pos v xs.length _ hs hown ad ys.length cap (ys.flatMap enc) hx (flat_len hk) ?_ ?_ (by unfold maxLen; omega) ?_ hB ?_
    · intro j u hj
      rcases hr with h | ⟨b, off, h, hlt, hc⟩
      · subst h; simp at hj
      · cases h
        have hjl : j < ys.length * k := by rw [← flat_len hk]; exact (List.getElem?_eq_some_iff.1 hj).1
        have hkp := E.pos
        have hq : j / k < ys.length := (Nat.div_lt_iff_lt_mul hkp).2 hjl
        have hm : j % k < k := Nat.mod_lt _ hkp
        have hjd : j = j / k * k + j % k := by rw [Nat.mul_comm]; exact (Nat.div_add_mod j k).symm
        obtain ⟨y, hy⟩ : ∃ y, ys[j / k]? = some y := ⟨_, List.getElem?_eq_getElem hq⟩
        obtain ⟨u', hu'⟩ : ∃ u', (enc y)[j % k]? = some u' := ⟨_, List.getElem?_eq_getElem (by rw [hk]; exact hm)⟩
        have h2 := flat_at hk _ y hy _ u' hu'
        rw [← hjd, hj] at h2
        rw [Option.some.inj h2, add_at]
        have := hc _ y hy _ u' hu'
        rw [← hjd] at this
        exact this
    · intro u hu
      obtain ⟨y, _, hy⟩ := List.mem_flatMap.1 hu
      exact h1 y u hy
    · have := E.small
      have h2 : (xs.length + ys.length) * bytes ≤ 1099511627776 * 64 := Nat.mul_le_mul h63 this
      omega
    · intro v' w' g1 g2 _
      refine h v' w' ?_ g2
      unfold Own
      rw [List.length_append, List.flatMap_append]
      exact g1
end
end Rw
end Go.Proofs.Ytkeojkddbannpaa
