/-
  append of a row of numbers behind a slice that the call itself made: what it leaves. Conditions: fewer than 2^40 elements together.
-/
import Derived.Test.YtohfgjaajldccaaRow
import Derived.Laws.AppendOwnNone
import Derived.OwnWalk
namespace Go.Proofs.Ytohfgjaajldccaa
open Go.ChangeShapes Go.WideShapes Go.ChangeAt Go.RowKit
set_option linter.unusedVariables false
namespace Num

theorem info_i64 : (Try.prog.info? 2).map (fun i => (i.zero, i.size, i.bytes)) = some (some (.int .i64 0), 1, 8) := by kernel_rfl
/-- a slice of numbers that the call made, and what it holds -/
def Own (w : World) (B : Nat) (v : Value) (xs : List Int) : Prop := w.ownsRow B 2 1 v xs.length (xs.map (Value.int .i64))

theorem app_ints {ops : Array Oper} {rest : List Oper} {o : Oper} {a : Act} {Q : Exit → Act → World → Prop} {w : World} (hgd : o.guard = none) (s x : Operand)
    (ho : o.op = .call { callee := .builtin .append, args := #[s, x], argTypes := #[22, 22] })
    (B : Nat) (v : Value) (xs : List Int) (hs : a.eval s = v) (hown : Own w B v xs)
    (ao : Option Addr) (zs : List Int) (c : Nat) (hx : a.eval x = .slice ao zs.length c) (hnone : ao = none → c = 0) (hr : Row w ao zs)
    (h63 : xs.length + zs.length ≤ 1099511627776) (hB : B ≤ w.heap.size)
    (h : ∀ v' w', Own w' B v' (xs ++ zs) → w.grownBy w' v.ownBlock → wpList Try.prog ops Q rest (a.put o.dst v') w') : wpList Try.prog ops Q (o :: rest) a w := by
  obtain ⟨i0, hi, hz0, hz1, hz2⟩ := info_parts info_i64
  rcases ao with _ | ad
  · have hz : zs = [] := by
      rcases hr.1 with h | ⟨b, off, h, _⟩
      · exact h
      · cases h
    subst hz
    rw [hnone rfl] at hx
    refine wpList_append_own_none hgd s x 22 ho B 2 i0 1 Try.underlying22 hi v xs.length _ hs hown hx ?_
    refine h v w ?_ ⟨rfl, rfl, rfl, Nat.le_refl _, fun _ _ _ => rfl⟩
    rw [List.append_nil]; exact hown
  · refine wpList_append_own w hgd s x 22 ho B 2 i0 (.int .i64 0) 1 8 Try.underlying22 hi hz0 hz1 hz2 rfl (by decide) v xs.length _ hs hown ad zs.length c (zs.map (Value.int .i64)) hx (by simp) ?_ (ints_oneCell _ _) (by unfold maxLen; omega) (by omega) hB ?_
    · intro j u hj
      rcases hr.1 with h | ⟨b, off, h, hc⟩
      · subst h; simp at hj
      · cases h
        have hlt : j < zs.length := by
          rcases Nat.lt_or_ge j zs.length with h | h
          · exact h
          · simp [h] at hj
        have e : (⟨b, off, none⟩ : Addr).add j = ⟨b, off + j, none⟩ := by
          unfold Addr.add; by_cases h : j = 0
          · subst h; simp
          · simp [h]
        rw [e, hc j hlt]
        rw [← hj]; simp [List.getD, hlt]
    · intro v' w' h1 h2 _
      refine h v' w' ?_ h2
      unfold Own
      rw [List.length_append, List.map_append]
      exact h1

/-- what such a slice is, told as a row in memory -/
theorem own_row {w : World} {B : Nat} {v : Value} {xs : List Int} (h : Own w B v xs) (hz : ∀ n ∈ xs, -9223372036854775808 ≤ n ∧ n ≤ 9223372036854775807) :
    ∃ ao cap, v = .slice ao xs.length cap ∧ (ao = none → cap = 0) ∧ Row w ao xs := by
  obtain ⟨h1, h2⟩ := h
  rcases h2 with ⟨hv, hn⟩ | ⟨g, cap, cur, hv, hg, hh, hc, hm, hs, ht⟩
  · refine ⟨none, 0, ?_, fun _ => rfl, ?_, by omega, hz⟩
    · rw [hv, hn]
    · left; exact List.length_eq_zero_iff.1 hn
  · refine ⟨some ⟨g, 0, none⟩, cap, hv, fun h => by (cases h), .inr ⟨g, 0, rfl, ?_⟩, by unfold maxLen at hm; omega, hz⟩
    intro i hi
    have e : cur[i]? = some (Value.int .i64 (xs.getD i 0)) := by
      have := congrArg (fun l => l[i]?) ht
      simp only [List.getElem?_take, List.getElem?_map, Array.getElem?_toList] at this
      rw [if_pos (by omega)] at this
      rw [this]; simp [List.getD, hi]
    simp [World.cell?, hh, e]
/-- an empty slice in a new block of its own -/
theorem own_empty (w : World) (B : Nat) (hB : B ≤ w.heap.size) : Own (w.alloc (.cells #[] 2)) B (.slice (some ⟨w.heap.size, 0, none⟩) 0 0) [] := by
  refine ⟨rfl, .inr ⟨w.heap.size, 0, #[], rfl, hB, ?_, by simp, by simp [maxLen], rfl, rfl⟩⟩
  show (w.heap.push _)[w.heap.size]? = _
  simp
theorem own_one (w : World) (B : Nat) (x : Int) (hB : B ≤ w.heap.size) : Own (w.alloc (.cells #[.int .i64 x] 2)) B (.slice (some ⟨w.heap.size, 0, none⟩) 1 1) [x] := by
  refine ⟨rfl, .inr ⟨w.heap.size, 1, #[.int .i64 x], rfl, hB, ?_, by simp, by simp [maxLen], rfl, rfl⟩⟩
  show (w.heap.push _)[w.heap.size]? = _
  simp
theorem own_block {w : World} {B : Nat} {v : Value} {xs : List Int} (h : Own w B v xs) : ∀ k, v.ownBlock = some k → B ≤ k := by
  obtain ⟨h1, h2⟩ := h
  intro k hk
  rcases h2 with ⟨hv, hn⟩ | ⟨g, cap, cur, hv, hg, _⟩
  · rw [hv] at hk; simp [Value.ownBlock] at hk
  · rw [hv] at hk; simp [Value.ownBlock] at hk; omega
theorem row_keep {w w2 : World} {B : Nat} {a : Option Addr} {zs : List Int} (hr : Row w a zs) (hB : ∀ b off, a = some ⟨b, off, none⟩ → zs ≠ [] → b < B) (hb : Below B w w2) : Row w2 a zs := by
  obtain ⟨h1, h2, h3⟩ := hr
  refine ⟨?_, h2, h3⟩
  by_cases hn : zs = []
  · exact .inl hn
  rcases h1 with h1 | ⟨b, off, rfl, hc⟩
  · exact .inl h1
  · exact .inr ⟨b, off, rfl, fun i hi => by rw [hb.cell (p := ⟨b, off + i, none⟩) (hB b off rfl hn)]; exact hc i hi⟩
theorem cap_of {w : World} {a : Option Addr} {len cap : Nat} {zs : List Int}
    (h : (a = none ∧ len = 0 ∧ cap = 0 ∧ zs = []) ∨
      ∃ x, a = some x ∧ len ≤ cap ∧ cap ≤ maxLen ∧ zs.length = cap ∧ (∀ i, i < zs.length → w.cell? (x.add i) = some (.int .i64 (zs.getD i 0))) ∧ ∀ n ∈ zs, (Lit.int .i64 n).wf = true) :
    a = none → cap = 0 := by
  rcases h with ⟨_, _, h, _⟩ | ⟨x, rfl, _⟩
  · exact fun _ => h
  · exact fun h => by (cases h)
theorem row_one (w : World) (x : Int) (h0 : -9223372036854775808 ≤ x) (h1 : x ≤ 9223372036854775807) : Row (w.alloc (.cells #[.int .i64 x] 2)) (some ⟨w.heap.size, 0, none⟩) [x] := by
  refine ⟨.inr ⟨w.heap.size, 0, rfl, ?_⟩, by simp, fun n hn => by simp at hn; omega⟩
  intro i hi
  simp at hi; subst hi
  exact World.cell?_alloc_new w _ _ 0
theorem own_nil (w : World) (B : Nat) : Own w B (.slice none 0 0) [] := ⟨rfl, .inl ⟨rfl, rfl⟩⟩
theorem own_alloc {w : World} {B : Nat} {v : Value} {xs : List Int} (h : Own w B v xs) (o : Obj) : Own (w.alloc o) B v xs := by
  obtain ⟨h1, h2⟩ := h
  refine ⟨h1, ?_⟩
  rcases h2 with h2 | ⟨g, cap, cur, hv, hg, hh, r⟩
  · exact .inl h2
  · refine .inr ⟨g, cap, cur, hv, hg, ?_, r⟩
    have hlt : g < w.heap.size := by
      rcases Nat.lt_or_ge g w.heap.size with h | h
      · exact h
      · simp [Array.getElem?_eq_none h] at hh
    show (w.heap.push o)[g]? = _
    rw [Array.getElem?_push, if_neg (by omega)]; exact hh
/-- a slice that the call made, with something in it -/
theorem own_some {w : World} {B : Nat} {v : Value} {xs : List Int} (h : Own w B v xs) (hn : 0 < xs.length) :
    ∃ g cap, v = .slice (some ⟨g, 0, none⟩) xs.length cap ∧ B ≤ g ∧ g < w.heap.size ∧ xs.length ≤ cap ∧ cap ≤ maxLen ∧ ∀ i, i < xs.length → w.cell? ⟨g, i, none⟩ = some (.int .i64 (xs.getD i 0)) := by
  obtain ⟨h1, h2⟩ := h
  rcases h2 with ⟨hv, h0⟩ | ⟨g, cap, cur, hv, hg, hh, hc, hm, hs, ht⟩
  · omega
  · have hlt : g < w.heap.size := by
      rcases Nat.lt_or_ge g w.heap.size with h | h
      · exact h
      · simp [Array.getElem?_eq_none h] at hh
    refine ⟨g, cap, hv, hg, hlt, hc, hm, ?_⟩
    intro i hi
    have e : cur[i]? = some (Value.int .i64 (xs.getD i 0)) := by
      have := congrArg (fun l => l[i]?) ht
      simp only [List.getElem?_take, List.getElem?_map, Array.getElem?_toList] at this
      rw [if_pos (by omega)] at this
      rw [this]; simp [List.getD, hi]
    simp [World.cell?, hh, e]
/-- the row from the k-th element on, and up to it -/
theorem row_from {w : World} {g k : Nat} {xs : List Int} (h : ∀ i, i < xs.length → w.cell? ⟨g, i, none⟩ = some (.int .i64 (xs.getD i 0))) (hl : xs.length ≤ 9223372036854775807)
    (hz : ∀ n ∈ xs, -9223372036854775808 ≤ n ∧ n ≤ 9223372036854775807) : Row w (some ⟨g, k, none⟩) (xs.drop k) := by
  refine ⟨.inr ⟨g, k, rfl, ?_⟩, by rw [List.length_drop]; omega, fun n hn => hz n (List.mem_of_mem_drop hn)⟩
  intro i hi
  rw [List.length_drop] at hi
  rw [h (k + i) (by omega)]
  simp [List.getD]
theorem row_upto {w : World} {g k : Nat} {xs : List Int} (h : ∀ i, i < xs.length → w.cell? ⟨g, i, none⟩ = some (.int .i64 (xs.getD i 0))) (hl : xs.length ≤ 9223372036854775807)
    (hz : ∀ n ∈ xs, -9223372036854775808 ≤ n ∧ n ≤ 9223372036854775807) : Row w (some ⟨g, 0, none⟩) (xs.take k) := by
  refine ⟨.inr ⟨g, 0, rfl, ?_⟩, by rw [List.length_take]; omega, fun n hn => hz n (List.mem_of_mem_take hn)⟩
  intro i hi
  rw [List.length_take] at hi
  rw [Nat.zero_add, h i (by omega)]
  have : i < k := by omega
  simp [List.getD, this]
end Num
end Go.Proofs.Ytohfgjaajldccaa
