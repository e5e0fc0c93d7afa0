/-
  Rows of numbers in memory: those that came in, those that the call itself makes; append, and where the new row lies; blocks told by a list; all but one block as it was. No condition but fewer than 2^40 elements.
-/
import Derived.Test.YtkeojkddbannpaaRowk
import Derived.Test.YtkeojkddbannpaaPick
import Derived.Test.YtkeojkddbannpaaEnd
import Derived.LoopTactic
import Derived.Deep.RegionLaw
import Derived.BigRegion
import Derived.Deep.AppendLies
import Derived.Laws.Pointers
import Derived.StillTactics
import Derived.Below
import Derived.Deep.QuietTactic
import Derived.BigQuiet
import Derived.Outline
import Derived.RegionTactic
import Derived.Maps.AppendAt
import Derived.Deep.OwnRows
import Derived.Laws.CopyOwn
namespace Go.Proofs.Ytkeojkddbannpaa
open Go.ChangeShapes Go.WideShapes Go.ChangeAt Go.RowKit
set_option linter.unusedVariables false
namespace Rw
variable {α : Type} {e t : TypeId} {k bytes : Nat} {z : Value} {enc : α → List Value}
theorem appAt (E : Elem e t k bytes z) (hk : ∀ x : α, (enc x).length = k) (h1 : ∀ x, ∀ u ∈ enc x, u.oneCell' = true)
    {ops : Array Oper} {rest : List Oper} {o : Oper} {a : Act} {Q : Exit → Act → World → Prop} {w : World} (hgd : o.guard = none) (s x : Operand)
    (ho : o.op = .call { callee := .builtin .append, args := #[s, x], argTypes := #[t, t] })
    (B : Nat) (v : Value) (xs : List α) (hs : a.eval s = v) (hown : Own e k enc w B v xs)
    (ad : Addr) (cap : Nat) (ys : List α) (hx : a.eval x = .slice (some ad) ys.length cap) (hr : Row k enc w (some ad) ys)
    (h63 : xs.length + ys.length ≤ 1099511627776) (hB : B ≤ w.heap.size)
    (h : ∀ v' w', Own e k enc w' B v' (xs ++ ys) → w.grownBy w' v.ownBlock → (v'.ownBlock = v.ownBlock ∨ v'.ownBlock = some w.heap.size) → wpList Try.prog ops Q rest (a.put o.dst v') w') : wpList Try.prog ops Q (o :: rest) a w := by
  obtain ⟨i0, hi, hz0, hz1, hz2⟩ := info_parts E.info
  refine wpList_append_own_at w hgd s x t ho B e i0 z k bytes E.und hi hz0 hz1 hz2 E.zk E.pos v xs.length _ hs hown ad ys.length cap (ys.flatMap enc) hx (flat_len hk) ?_ ?_ (by unfold maxLen; omega) ?_ hB ?_
  · intro j u hj
    rcases hr with h | ⟨b, off, h, hlt, hc⟩
    · subst h; simp at hj
    · cases h
      have hjl : j < ys.length * k := by rw [← flat_len hk]; exact (List.getElem?_eq_some_iff.1 hj).1
      have hkp := E.pos
      have hq : j / k < ys.length := (Nat.div_lt_iff_lt_mul hkp).2 hjl
      have hm : j % k < k := Nat.mod_lt _ hkp
      have hjd : j = j / k * k + j % k := by rw [Nat.mul_comm]; exact (Nat.div_add_mod j k).symm
      obtain ⟨y, hy⟩ : ∃ y, ys[j / k]? = some y := ⟨_, List.getElem?_eq_getElem hq⟩
      obtain ⟨u', hu'⟩ : ∃ u', (enc y)[j % k]? = some u' := ⟨_, List.getElem?_eq_getElem (by rw [hk]; exact hm)⟩
      have h2 := flat_at hk _ y hy _ u' hu'
      rw [← hjd, hj] at h2
      rw [Option.some.inj h2, add_at]
      have := hc _ y hy _ u' hu'
      rw [← hjd] at this
      exact this
  · intro u hu
    obtain ⟨y, _, hy⟩ := List.mem_flatMap.1 hu
    exact h1 y u hy
  · have := E.small
    have h2 : (xs.length + ys.length) * bytes ≤ 1099511627776 * 64 := Nat.mul_le_mul h63 this
    omega
  · intro v' w' g1 g2 _ g4
    refine h v' w' ?_ g2 g4
    unfold Own
    rw [List.length_append, List.flatMap_append]
    exact g1
/-- a row of the call's own, where another one has grown -/
theorem own_grown {w w2 : World} {B : Nat} {v : Value} {xs : List α} {row : Option Nat} (h : Own e k enc w B v xs) (hg : w.grownBy w2 row) (hne : ∀ g, v.ownBlock = some g → some g ≠ row) : Own e k enc w2 B v xs := by
  obtain ⟨h1, h2⟩ := h
  refine ⟨h1, ?_⟩
  rcases h2 with h2 | ⟨g, cap, cur, hv, hg2, hh, r⟩
  · exact .inl h2
  · exact .inr ⟨g, cap, cur, hv, hg2, by rw [hg.block g (lt_of_heap hh) (hne g (by rw [hv]; rfl))]; exact hh, r⟩
/-- its block is one that there is -/
theorem own_lt {w : World} {B : Nat} {v : Value} {xs : List α} (h : Own e k enc w B v xs) : ∀ g, v.ownBlock = some g → B ≤ g ∧ g < w.heap.size := by
  obtain ⟨h1, h2⟩ := h
  intro b hk
  rcases h2 with ⟨hv, hn⟩ | ⟨g, cap, cur, hv, hg, hh, _⟩
  · rw [hv] at hk; simp [Value.ownBlock] at hk
  · rw [hv] at hk; simp [Value.ownBlock] at hk; subst hk; exact ⟨hg, lt_of_heap hh⟩
/-- append at a step of a region that draws its order -/
theorem stepAt (E : Elem e t k bytes z) (hk : ∀ x : α, (enc x).length = k) (h1 : ∀ x, ∀ u ∈ enc x, u.oneCell' = true)
    {ops : Array Oper} {o : Oper} {a : Act} {K : Act → World → Prop} {Q : Exit → Act → World → Prop} {E' : Prop} {w : World} (hgd : o.guard = none) (s x : Operand)
    (ho : o.op = .call { callee := .builtin .append, args := #[s, x], argTypes := #[t, t] })
    (B : Nat) (v : Value) (xs : List α) (hs : a.eval s = v) (hown : Own e k enc w B v xs)
    (ad : Addr) (cap : Nat) (ys : List α) (n : Nat) (hn : n = ys.length) (hx : a.eval x = .slice (some ad) n cap) (hr : Row k enc w (some ad) ys)
    (h63 : xs.length + ys.length ≤ 1099511627776) (hB : B ≤ w.heap.size)
    (h : ∀ v' w', Own e k enc w' B v' (xs ++ ys) → w.grownBy w' v.ownBlock → (v'.ownBlock = v.ownBlock ∨ v'.ownBlock = some w.heap.size) → K (a.put o.dst v') w') :
    if Region.wanted o (yielded ops a.tmps) = true then Oper.wp Try.prog o a w K Q else E' := by
  subst hn
  have hw : Region.wanted o (yielded ops a.tmps) = true := by simp [Region.wanted, hgd]
  rw [if_pos hw]
  obtain ⟨i0, hi, hz0, hz1, hz2⟩ := info_parts E.info
  have hnews : ∀ j u, (ys.flatMap enc)[j]? = some u → w.cell? (ad.add j) = some u := by
    intro j u hj
    rcases hr with h | ⟨b, off, h, hlt, hc⟩
    · subst h; simp at hj
    · cases h
      have hjl : j < ys.length * k := by rw [← flat_len hk]; exact (List.getElem?_eq_some_iff.1 hj).1
      have hkp := E.pos
      have hq : j / k < ys.length := (Nat.div_lt_iff_lt_mul hkp).2 hjl
      have hm : j % k < k := Nat.mod_lt _ hkp
      have hjd : j = j / k * k + j % k := by rw [Nat.mul_comm]; exact (Nat.div_add_mod j k).symm
      obtain ⟨y, hy⟩ : ∃ y, ys[j / k]? = some y := ⟨_, List.getElem?_eq_getElem hq⟩
      obtain ⟨u', hu'⟩ : ∃ u', (enc y)[j % k]? = some u' := ⟨_, List.getElem?_eq_getElem (by rw [hk]; exact hm)⟩
      have h2 := flat_at hk _ y hy _ u' hu'
      rw [← hjd, hj] at h2
      rw [Option.some.inj h2, add_at]
      have := hc _ y hy _ u' hu'
      rw [← hjd] at this
      exact this
  have h2 : (xs.length + ys.length) * bytes ≤ 1099511627776 * 64 := Nat.mul_le_mul h63 E.small
  obtain ⟨v', w', hrn, g1, g2, g3, g4⟩ := run_append_own_at (P := Try.prog) w B t o.type e i0 z k bytes E.und hi hz0 hz1 hz2 E.zk E.pos v xs.length _ hown ad ys.length cap (ys.flatMap enc) (flat_len hk) hnews
    (fun u hu => by obtain ⟨y, _, hy⟩ := List.mem_flatMap.1 hu; exact h1 y u hy) (by unfold maxLen; omega) (by omega) hB
  unfold Oper.wp execOp
  simp only [ho, resolve, invoke, builtin, Sem.run_bind, Sem.run_pure, Result.andThen_ok, List.map_toArray, List.map_cons, List.map_nil, hs, hx, hrn]
  refine h v' w' ?_ g2 g4
  unfold Own
  rw [List.length_append, List.flatMap_append]
  exact g1
end Rw
end Go.Proofs.Ytkeojkddbannpaa
namespace Go.Proofs.Ytkeojkddbannpaa
open Go.ChangeShapes Go.WideShapes Go.ChangeAt Go.RowKit
set_option linter.unusedVariables false
set_option linter.unusedSimpArgs false
namespace Ne
def encI (x : Int) : List Value := [.int .i64 x]
theorem encI_len (x : Int) : (encI x).length = 1 := rfl
theorem encI_one (x : Int) : ∀ u ∈ encI x, u.oneCell' = true := by intro u hu; simp [encI] at hu; subst hu; rfl
theorem elemI : Rw.Elem 3 28 1 8 (.int .i64 0) := ⟨by kernel_rfl, Try.underlying28, rfl, by decide, by decide⟩
abbrev IRow (w : World) (ao : Option Addr) (l : List Int) : Prop := Rw.Row 1 encI w ao l
abbrev OwnI (w : World) (B : Nat) (v : Value) (l : List Int) : Prop := Rw.Own 3 1 encI w B v l
def in64 (x : Int) : Prop := -9223372036854775808 ≤ x ∧ x ≤ 9223372036854775807
theorem irow_at {w : World} {b off : Nat} {l : List Int} (h : ∀ (i : Nat) (x : Int), l[i]? = some x → ∀ (j : Nat) (v : Value), (encI x)[j]? = some v → w.cell? ⟨b, off + (i * 1 + j), none⟩ = some v) {i : Nat} {x : Int} (hi : l[i]? = some x) :
    w.cell? ⟨b, off + i, none⟩ = some (.int .i64 x) := by
  have := h i x hi 0 _ rfl; simpa using this

/-- one number in a new block -/
theorem irow_one (w : World) (x : Int) : IRow (w.alloc (.cells #[.int .i64 x] 3)) (some ⟨w.heap.size, 0, none⟩) [x] := by
  refine .inr ⟨w.heap.size, 0, rfl, by simp, ?_⟩
  intro i y hi j v hv
  match i, hi with
  | 0, hi =>
    simp at hi; subst hi
    match j, hv with
    | 0, hv => simp [encI] at hv; subst hv; exact World.cell?_alloc_new w _ _ 0
    | (j + 1), hv => simp [encI] at hv
  | (i + 1), hi => simp at hi

theorem take_succ_eq {α : Type} {a b : List α} {k : Nat} {x y : α} (h : a.take k = b.take k) (ha : a[k]? = some x) (hb : b[k]? = some y) (e : x = y) : a.take (k + 1) = b.take (k + 1) := by
  rw [List.take_add_one, List.take_add_one, h, ha, hb, e]
theorem ne_at {α : Type} {a b : List α} {k : Nat} {x y : α} (ha : a[k]? = some x) (hb : b[k]? = some y) (e : x ≠ y) : a ≠ b := by
  intro h; rw [h, hb] at ha; exact e (Option.some.inj ha).symm

theorem below_drewN (w : World) (q : Nat) : Below w.heap.size w (w.drewN q) := Rw.below_drewN w q

theorem held_grow {wr w1 : World} {o : Obj} {row : Option Nat} (hg : (wr.alloc o).drew.grownBy w1 row) {a : Addr} (hne : row ≠ some a.block) {u : Value} (hu : wr.cell? a = some u) : w1.cell? a = some u := by
  have hlt := World.block_lt_of_cell? wr a hu
  rw [hg.cell_far a (by show _ < (wr.heap.push _).size; simp; omega) (Ne.symm hne)]
  exact (World.cell?_alloc_lt wr o a hlt).trans hu
theorem held_new {w : World} {o : Obj} {a : Addr} {u : Value} (hu : w.cell? a = some u) : (w.alloc o).drew.cell? a = some u :=
  (World.cell?_alloc_lt w o a (World.block_lt_of_cell? w a hu)).trans hu
theorem held_set {w : World} {a : Addr} {u : Value} {p : Addr} {x : Value} (h : w.cell? a = some u) (hne : p.block ≠ a.block) : (w.setCell p x).cell? a = some u :=
  (World.cell?_setCell_far w p a x hne).trans h
/-- a row of numbers that came in -/
theorem ints_row {w : World} {a : Option Addr} {len cap : Nat} {zs : List Int} (h : (a = none ∧ len = 0 ∧ cap = 0 ∧ zs = []) ∨
    ∃ x, a = some x ∧ len ≤ cap ∧ cap ≤ maxLen ∧ zs.length = cap ∧ (∀ i, i < zs.length → w.cell? (x.add i) = some (.int .i64 (zs.getD i 0))) ∧ ∀ n ∈ zs, (Lit.int .i64 n).wf = true) :
    ∃ l : List Int, l.length = len ∧ IRow w a l ∧ (∀ n ∈ l, -9223372036854775808 ≤ n ∧ n ≤ 9223372036854775807) ∧ len ≤ cap ∧ cap ≤ maxLen ∧ (a = none → cap = 0) := by
  rcases h with ⟨rfl, rfl, rfl, rfl⟩ | ⟨x, rfl, hl, hm, hz, hcell, hwz⟩
  · exact ⟨[], rfl, .inl rfl, by simp, Nat.le_refl _, by unfold maxLen; omega, fun _ => rfl⟩
  · refine ⟨zs.take len, by simp; omega, ?_, ?_, hl, hm, fun h => by cases h⟩
    · by_cases hn : zs.take len = []
      · exact .inl hn
      · right
        have h0 : 0 < zs.length := by
          rcases zs with _ | ⟨z, r⟩
          · simp at hn
          · simp
        obtain ⟨b, off, spot⟩ := x
        have hc := hcell 0 h0
        have hspot : spot = none := by simpa [Addr.add] using World.cell?_spot hc
        subst hspot
        have e0 : (⟨b, off, none⟩ : Addr).add 0 = ⟨b, off, none⟩ := by unfold Addr.add; simp
        rw [e0] at hc
        refine ⟨b, off, rfl, World.block_lt_of_cell? w _ hc, fun i x hi j v hv => ?_⟩
        have hi2 := (List.getElem?_eq_some_iff.1 hi).1
        have hi' : i < len := by simp at hi2; omega
        have hi3 : i < zs.length := by simp at hi2; omega
        have := hcell i hi3
        rw [Rw.add_at] at this
        match j, hv with
        | 0, hv =>
          simp [encI] at hv; subst hv
          rw [show off + (i * 1 + 0) = off + i by omega, this]
          rw [List.getElem?_take, if_pos hi'] at hi
          simp [List.getD, hi]
        | (j + 1), hv => simp [encI] at hv
    · intro n hn
      have := bounds_i64 (hwz n (List.mem_of_mem_take hn))
      omega
theorem own_empty {α : Type} {e : TypeId} {k : Nat} {enc : α → List Value} (w : World) (B : Nat) (hB : B ≤ w.heap.size) : Rw.Own e k enc (w.alloc (.cells #[] e)) B (.slice (some ⟨w.heap.size, 0, none⟩) 0 0) ([] : List α) := by
  refine ⟨by simp, .inr ⟨w.heap.size, 0, #[], rfl, hB, ?_, by simp, by simp [maxLen], by simp, by simp⟩⟩
  show (w.heap.push _)[w.heap.size]? = _
  simp
/-- a row of the call's own, after a store into one cell of one element -/
theorem own_put {α : Type} {e : TypeId} {k : Nat} {enc : α → List Value} (hk : ∀ x, (enc x).length = k) {w : World} {B g cap : Nat} {xs : List α} {n : Nat} (h : Rw.Own e k enc w B (.slice (some ⟨g, 0, none⟩) n cap) xs) {i : Nat} {x y : α} (hx : xs[i]? = some x) {j : Nat} (hj : j < k) {u : Value} (hy : enc y = (enc x).set j u) :
    Rw.Own e k enc (w.setCell ⟨g, i * k + j, none⟩ u) B (.slice (some ⟨g, 0, none⟩) n cap) (xs.set i y) := by
  obtain ⟨h1, h2⟩ := h
  have hi : i < xs.length := (List.getElem?_eq_some_iff.1 hx).1
  have hflat : (xs.set i y).flatMap enc = (xs.flatMap enc).set (i * k + j) u := by
    clear h1 h2
    induction xs generalizing i with
    | nil => simp at hi
    | cons z zs ih =>
      rcases i with _ | i
      · simp at hx; subst hx
        simp only [List.set_cons_zero, List.flatMap_cons, hy, Nat.zero_mul, Nat.zero_add]
        rw [List.set_append, if_pos (by rw [hk]; exact hj)]
      · simp only [List.set_cons_succ, List.flatMap_cons]
        rw [ih (by simpa using hx) (by simpa using hi), List.set_append, if_neg (by rw [hk, Nat.succ_mul]; omega), hk, show (i + 1) * k + j - k = i * k + j by rw [Nat.succ_mul]; omega]
  refine ⟨by rw [hflat, List.length_set, List.length_set]; exact h1, ?_⟩
  rcases h2 with ⟨hv, hn⟩ | ⟨g', cap', cur, hv, hg, hh, hc, hm, hs, ht⟩
  · simp at hv
  · simp only [Value.slice.injEq, Option.some.injEq, Addr.mk.injEq, and_true, true_and] at hv
    obtain ⟨rfl, rfl, rfl⟩ := hv
    refine .inr ⟨g, cap, cur.setIfInBounds (i * k + j) u, by rw [List.length_set], hg, ?_, by rw [List.length_set]; exact hc, hm, by rw [Array.size_setIfInBounds]; exact hs, ?_⟩
    · simp only [World.setCell, Array.getElem?_modify, hh, if_true, Option.map_some]
      rfl
    · rw [List.length_set, hflat, ← ht, Array.toList_setIfInBounds, List.take_set]

/-- what an element of a row of the call's own tells a walk -/
theorem own_cells {α : Type} {e : TypeId} {k : Nat} {enc : α → List Value} (hk : ∀ x, (enc x).length = k) {w : World} {B n cap : Nat} {ao : Option Addr} {xs : List α} (h : Rw.Own e k enc w B (.slice ao n cap) xs) {i : Nat} {x : α} (hx : xs[i]? = some x) :
    ∃ g, ao = some ⟨g, 0, none⟩ ∧ B ≤ g ∧ g < w.heap.size ∧ (∀ j v, (enc x)[j]? = some v → w.cell? ⟨g, i * k + j, none⟩ = some v) ∧ ∀ o, w.frozen? ⟨g, o, none⟩ = false := by
  have hi : i < xs.length := (List.getElem?_eq_some_iff.1 hx).1
  obtain ⟨ao', cap', hv, _, _, _, hrow, hb, ha⟩ := Rw.own_row hk h
  simp only [Value.slice.injEq] at hv
  obtain ⟨rfl, _, rfl⟩ := hv
  rcases hrow with h0 | ⟨b, off, rfl, hlt, hc⟩
  · rw [h0] at hi; simp at hi
  obtain ⟨b', hb'⟩ := ha _ rfl
  cases hb'
  refine ⟨b, rfl, (hb b 0 rfl).1, hlt, fun j v hv => by have := hc i x hx j v hv; rwa [Nat.zero_add] at this, fun o => ?_⟩
  obtain ⟨_, h2⟩ := h
  rcases h2 with ⟨hv, _⟩ | ⟨g', cap2, cur, hv, hg, hh, _⟩
  · simp at hv
  · simp only [Value.slice.injEq, Option.some.injEq, Addr.mk.injEq, and_true, true_and] at hv
    obtain ⟨rfl, _⟩ := hv
    simp [World.frozen?, hh]
theorem below_drew {B : Nat} {w w' : World} (h : Below B w w') : Below B w w'.drew := h.trans ⟨rfl, rfl, rfl, Nat.le_refl _, fun _ _ => rfl⟩
def amt (f : List Int) (i : Nat) : Int := f.getD i 0
theorem amt_of {f : List Int} {i : Nat} {x : Int} (h : f[i]? = some x) : amt f i = x := by simp [amt, h]
theorem at_amt {f : List Int} {i : Nat} (h : i < f.length) : f[i]? = some (amt f i) := by simp [amt, h]
theorem amt_set {f : List Int} {j : Nat} (x : Int) (hj : j < f.length) (i : Nat) : amt (f.set j x) i = if i = j then x else amt f i := by
  unfold amt
  by_cases h : i = j
  · subst h; simp [hj]
  · rw [if_neg h]; simp [List.getElem?_set_ne (Ne.symm h)]
theorem amt_out {f : List Int} {i : Nat} (h : f.length ≤ i) : amt f i = 0 := by simp [amt, h]
theorem ext_amt {f g : List Int} (hl : f.length = g.length) (h : ∀ i, i < f.length → amt f i = amt g i) : f = g := by
  apply List.ext_getElem? ; intro i
  by_cases hi : i < f.length
  · rw [at_amt hi, at_amt (hl ▸ hi), h i hi]
  · rw [List.getElem?_eq_none (by omega), List.getElem?_eq_none (by omega)]
theorem infoL : (Try.prog.info? 2).map (fun i => (i.zero, i.size, i.bytes)) = some (some (.int .i64 0), 1, 8) := by kernel_rfl
theorem elemL : Rw.Elem 2 25 1 8 (.int .i64 0) := ⟨by kernel_rfl, Try.underlying25, rfl, by decide, by decide⟩
abbrev OwnL (w : World) (B : Nat) (v : Value) (l : List Int) : Prop := Rw.Own 2 1 encI w B v l
theorem make_l (n : Nat) (h : n ≤ 1000000) (w : World) : (Instr.makeSlice 25 (.int .i64 (n : Int)) (.int .i64 (n : Int))).run Try.prog w = .ok (.slice (some ⟨w.heap.size, 0, none⟩) n n) (w.alloc (.cells (madeCells #[.int .i64 0] n) 2)) :=
  run_make_row' 25 2 (.int .i64 0) 8 Try.underlying25 infoL rfl .i64 .i64 n (by omega) (by omega) w
/-- a row of numbers that came in: what its cells hold -/
theorem irow_cell {w : World} {ao : Option Addr} {l : List Int} (h : IRow w ao l) {i : Nat} (hi : i < l.length) : ∃ b off, ao = some ⟨b, off, none⟩ ∧ b < w.heap.size ∧ w.cell? ⟨b, off + i, none⟩ = some (.int .i64 (amt l i)) := by
  rcases h with h | ⟨b, off, rfl, hlt, hc⟩
  · subst h; simp at hi
  · exact ⟨b, off, rfl, hlt, irow_at hc (at_amt hi)⟩
theorem below_dn {B : Nat} {w w' : World} (h : Below B w w') (q : Nat) : Below B w (w'.drewN q) := h.trans ⟨rfl, rfl, rfl, Nat.le_refl _, fun _ _ => rfl⟩
theorem held_alloc {w : World} {o : Obj} {a : Addr} {u : Value} (hu : w.cell? a = some u) : (w.alloc o).cell? a = some u :=
  (World.cell?_alloc_lt w o a (World.block_lt_of_cell? w a hu)).trans hu
/-- a row of numbers as the program has it -/
def encW (l : List Nat) : List Int := l.map fun k : Nat => (k : Int)
theorem encW_len (l : List Nat) : (encW l).length = l.length := by simp [encW]
theorem encW_snoc (l : List Nat) (k : Nat) : encW (l ++ [k]) = encW l ++ [(k : Int)] := by simp [encW]
theorem encW_at {l : List Nat} {i : Nat} (h : i < l.length) : amt (encW l) i = ((l.getD i 0 : Nat) : Int) := by simp [encW, amt, h]
theorem encW_app (A B : List Nat) : encW (A ++ B) = encW A ++ encW B := by simp [encW]
theorem irow_one' (w : World) {b : Nat} (hb : b = w.heap.size) (x : Int) (T : TypeId) : IRow (w.alloc (.cells #[.int .i64 x] T)) (some ⟨b, 0, none⟩) [x] := by
  subst hb
  refine .inr ⟨w.heap.size, 0, rfl, by simp, ?_⟩
  intro i y hi j v hv
  match i, hi with
  | 0, hi =>
    simp at hi; subst hi
    match j, hv with
    | 0, hv => simp [encI] at hv; subst hv; exact World.cell?_alloc_new w _ _ 0
    | (j + 1), hv => simp [encI] at hv
  | (i + 1), hi => simp at hi

theorem own_irow {e : TypeId} {w : World} {B : Nat} {o : Option Addr} {n c : Nat} {l : List Int} (h : Rw.Own e 1 encI w B (.slice o n c) l) : IRow w o l := by
  obtain ⟨o2, c2, e2, _, _, _, hr, _, _⟩ := Rw.own_row encI_len h
  simp only [Value.slice.injEq] at e2
  rw [e2.1]; exact hr
/-- a row of the call's own, where its block is as it was -/
theorem own_same {α : Type} {e : TypeId} {k : Nat} {enc : α → List Value} {w w2 : World} {B : Nat} {v : Value} {xs : List α} (h : Rw.Own e k enc w B v xs) (hk : ∀ g, v.ownBlock = some g → w2.heap[g]? = w.heap[g]?) : Rw.Own e k enc w2 B v xs := by
  obtain ⟨h1, h2⟩ := h
  refine ⟨h1, ?_⟩
  rcases h2 with h2 | ⟨g, cap, cur, hv, hg2, hh, r⟩
  · exact .inl h2
  · exact .inr ⟨g, cap, cur, hv, hg2, by rw [hk g (by rw [hv]; rfl)]; exact hh, r⟩
/-- all blocks but one are as they were -/
structure But (b : Nat) (w w2 : World) : Prop where
  os : w2.os = w.os
  tape : w2.tape = w.tape
  output : w2.output = w.output
  size : w.heap.size ≤ w2.heap.size
  block : ∀ k, k < w.heap.size → k ≠ b → w2.heap[k]? = w.heap[k]?
theorem But.refl (b : Nat) (w : World) : But b w w := ⟨rfl, rfl, rfl, Nat.le_refl _, fun _ _ _ => rfl⟩
theorem But.trans {b : Nat} {w w2 w3 : World} (h : But b w w2) (k : But b w2 w3) : But b w w3 :=
  ⟨k.os.trans h.os, k.tape.trans h.tape, k.output.trans h.output, Nat.le_trans h.size k.size, fun i h1 h2 => (k.block i (Nat.lt_of_lt_of_le h1 h.size) h2).trans (h.block i h1 h2)⟩
theorem But.of_below {b : Nat} {w w2 : World} (h : Below w.heap.size w w2) : But b w w2 := ⟨h.os, h.tape, h.output, h.size, fun k hk _ => h.block k hk⟩
theorem But.below {b B0 : Nat} {w w2 : World} (h : But b w w2) (h1 : B0 ≤ b) (h0 : B0 ≤ w.heap.size) : Below B0 w w2 := ⟨h.os, h.tape, h.output, h.size, fun k hk => h.block k (by omega) (by omega)⟩
theorem But.set {b : Nat} {w w2 : World} (h : But b w w2) (o : Nat) (v : Value) : But b w (w2.setCell ⟨b, o, none⟩ v) :=
  ⟨h.os, h.tape, h.output, by have := h.size; simpa [World.setCell] using this, fun k h1 h2 => (Below.heap_setCell _ _ _ _ h2).trans (h.block k h1 h2)⟩
theorem But.far {b : Nat} {w w2 : World} (h : But b w w2) {p : Addr} (hp : w.heap.size ≤ p.block) (v : Value) : But b w (w2.setCell p v) :=
  ⟨h.os, h.tape, h.output, by have := h.size; simpa [World.setCell] using this, fun k h1 h2 => (Below.heap_setCell _ _ _ _ (by omega)).trans (h.block k h1 h2)⟩
theorem But.grown {b : Nat} {w w2 w3 : World} {row : Option Nat} (h : But b w w2) (hg : w2.grownBy w3 row) (hr : ∀ k, row = some k → w.heap.size ≤ k) : But b w w3 :=
  ⟨hg.os.trans h.os, hg.tape.trans h.tape, hg.output.trans h.output, Nat.le_trans h.size hg.size, fun k h1 h2 => (hg.block k (Nat.lt_of_lt_of_le h1 h.size) (fun e => by have := hr k e.symm; omega)).trans (h.block k h1 h2)⟩
theorem But.then {b : Nat} {w w2 w3 : World} (h : But b w w2) (k : Below w2.heap.size w2 w3) : But b w w3 := h.trans (.of_below k)
/-- rows of other types lie in other blocks -/
theorem own_types {α β : Type} {e e2 : TypeId} {k k2 : Nat} {enc : α → List Value} {enc2 : β → List Value} {w : World} {B B2 : Nat} {v v2 : Value} {xs : List α} {ys : List β} (hne : e ≠ e2) (h : Rw.Own e k enc w B v xs) (h2 : Rw.Own e2 k2 enc2 w B2 v2 ys) : ∀ g, v.ownBlock = some g → v2.ownBlock ≠ some g := by
  intro g hg hg2
  obtain ⟨_, h⟩ := h
  obtain ⟨_, h2⟩ := h2
  rcases h with ⟨hv, _⟩ | ⟨b, c, cur, hv, _, hh, _⟩
  · rw [hv] at hg; simp [Value.ownBlock] at hg
  rcases h2 with ⟨hv2, _⟩ | ⟨b2, c2, cur2, hv2, _, hh2, _⟩
  · rw [hv2] at hg2; simp [Value.ownBlock] at hg2
  rw [hv] at hg; rw [hv2] at hg2
  simp [Value.ownBlock] at hg hg2
  subst hg; subst hg2
  rw [hh] at hh2
  simp at hh2
  exact hne hh2.2
/-- a slice that reads as a row, in the blocks from lo to hi -/
def RowOf (w : World) (lo hi : Nat) (x : Value) (u : List Nat) : Prop :=
  ∃ A c, x = .slice A u.length c ∧ u.length ≤ c ∧ c ≤ maxLen ∧ (u = [] ∨ ∃ b off, A = some ⟨b, off, none⟩ ∧ lo ≤ b ∧ b < hi ∧ ∀ i, i < u.length → w.cell? ⟨b, off + i, none⟩ = some (.int .i64 ((u.getD i 0 : Nat) : Int)))
theorem RowOf.keep {w w2 : World} {lo hi : Nat} {x : Value} {u : List Nat} (h : RowOf w lo hi x u) (hk : ∀ b, lo ≤ b → b < hi → w2.heap[b]? = w.heap[b]?) : RowOf w2 lo hi x u := by
  obtain ⟨A, c, h1, h2, h3, h4⟩ := h
  refine ⟨A, c, h1, h2, h3, ?_⟩
  rcases h4 with h4 | ⟨b, off, h5, h6, h7, h8⟩
  · exact .inl h4
  · exact .inr ⟨b, off, h5, h6, h7, fun i hi => (World.cell?_of_block (w := w) (hk b h6 h7)).trans (h8 i hi)⟩
theorem RowOf.of_own {w : World} {B : Nat} {x : Value} {u : List Nat} (h : OwnI w B x (encW u)) : RowOf w B w.heap.size x u := by
  obtain ⟨ao, cap, h1, h2, h3, h4, h5, h6, h7⟩ := Rw.own_row encI_len h
  rw [encW_len] at h1 h2
  refine ⟨ao, cap, h1, h2, h3, ?_⟩
  rcases h5 with h5 | ⟨b, off, rfl, hb, hc⟩
  · exact .inl (by simpa [encW] using h5)
  · refine .inr ⟨b, off, rfl, (h6 b off rfl).1, hb, fun i hi => ?_⟩
    have := irow_at hc (i := i) (x := ((u.getD i 0 : Nat) : Int)) (by rw [← encW_at hi]; exact at_amt (by rw [encW_len]; exact hi))
    exact this
theorem RowOf.cut {w : World} {lo hi : Nat} {A : Option Addr} {m c : Nat} {u : List Nat} (h : RowOf w lo hi (.slice A m c) u) {i : Nat} (hiu : i < u.length) :
    RowOf w lo hi (.slice (if c = i + 1 then A else A.map (·.add (i + 1))) (m - (i + 1)) (c - (i + 1))) (u.drop (i + 1)) := by
  obtain ⟨A', c', h1, h2, h3, h4⟩ := h
  simp only [Value.slice.injEq] at h1
  obtain ⟨rfl, rfl, rfl⟩ := h1
  refine ⟨_, _, by rw [List.length_drop], by rw [List.length_drop]; omega, by omega, ?_⟩
  by_cases e : u.drop (i + 1) = []
  · exact .inl e
  · rcases h4 with h4 | ⟨b, off, rfl, h6, h7, h8⟩
    · rw [h4] at hiu; simp at hiu
    · have hl : i + 1 < u.length := by
        rcases Nat.lt_or_ge (i + 1) u.length with h | h
        · exact h
        · exact absurd (List.drop_eq_nil_of_le h) e
      refine .inr ⟨b, off + (i + 1), ?_, h6, h7, fun j hj => ?_⟩
      · rw [if_neg (by omega)]; simp [Rw.add_at]
      · rw [List.length_drop] at hj
        have := h8 (i + 1 + j) (by omega)
        rw [show off + (i + 1) + j = off + (i + 1 + j) by omega, this]
        simp [List.getD_eq_getElem?_getD, List.getElem?_drop]
/-- a row of the call's own, one shorter -/
theorem own_less {w : World} {B g m c : Nat} {l : List Int} {x : Int} (h : OwnI w B (.slice (some ⟨g, 0, none⟩) m c) (l ++ [x])) : OwnI w B (.slice (some ⟨g, 0, none⟩) l.length c) l := by
  obtain ⟨h1, h2⟩ := h
  rcases h2 with ⟨hv, _⟩ | ⟨g', cap, cur, hv, hg, hh, hc, hm, hs, ht⟩
  · simp at hv
  · simp only [Value.slice.injEq, Option.some.injEq, Addr.mk.injEq, and_true, true_and] at hv
    obtain ⟨rfl, hml, rfl⟩ := hv
    have hfl : ∀ k : List Int, (k.flatMap encI).length = k.length := fun k => by rw [Rw.flat_len encI_len]; omega
    refine ⟨by rw [hfl]; omega, .inr ⟨g, c, cur, rfl, hg, hh, by simp at hc; omega, hm, hs, ?_⟩⟩
    have := congrArg (List.take l.length) ht
    rw [List.take_take] at this
    simp only [List.length_append, List.length_singleton, Nat.mul_one] at this ⊢
    rw [Nat.min_eq_left (by omega)] at this
    rw [this, List.flatMap_append, List.take_left' (hfl l)]

theorem infoI : (Try.prog.info? 3).map (fun i => (i.zero, i.size, i.bytes)) = some (some (.int .i64 0), 1, 8) := by kernel_rfl
theorem make_i (n : Nat) (h : n ≤ 1000000) (w : World) : (Instr.makeSlice 28 (.int .i64 (n : Int)) (.int .i64 (n : Int))).run Try.prog w = .ok (.slice (some ⟨w.heap.size, 0, none⟩) n n) (w.alloc (.cells (madeCells #[.int .i64 0] n) 3)) :=
  run_make_row' 28 3 (.int .i64 0) 8 Try.underlying28 infoI rfl .i64 .i64 n (by omega) (by omega) w
/-- a block that holds a row of numbers, of truths -/
def LBox (w : World) (b : Nat) (l : List Int) : Prop := w.rowIs b 2 l.length fun i => .int .i64 (amt l i)
section
variable {w w2 : World} {b : Nat} {l : List Int}
theorem LBox.cell (h : LBox w b l) {i : Nat} (hi : i < l.length) : w.cell? ⟨b, i, none⟩ = some (.int .i64 (amt l i)) := World.rowIs.cell h hi
theorem LBox.frozen (h : LBox w b l) (i : Nat) : w.frozen? ⟨b, i, none⟩ = false := World.rowIs.frozen h i
theorem LBox.lt (h : LBox w b l) : b < w.heap.size := World.rowIs.lt h
theorem LBox.below {B : Nat} (h : LBox w b l) (hb : Below B w w2) (hB : b < B) : LBox w2 b l := World.rowIs.of_block h (hb.block b hB)
theorem LBox.kept (h : LBox w b l) (hb : Below w.heap.size w w2) : LBox w2 b l := h.below hb h.lt
theorem LBox.grown {row : Option Nat} (h : LBox w b l) (hg : w.grownBy w2 row) (hne : some b ≠ row) : LBox w2 b l := World.rowIs.of_block h (hg.block b h.lt hne)
theorem LBox.set (h : LBox w b l) {i : Nat} (hi : i < l.length) (x : Int) : LBox (w.setCell ⟨b, i, none⟩ (.int .i64 x)) b (l.set i x) := by
  have h2 := World.rowIs.congr (World.rowIs.set h i (.int .i64 x)) (g := fun j => .int .i64 (amt (l.set i x) j)) (fun j hj => by
    show (if j = i then _ else _) = _
    rw [amt_set x hi j]; split <;> rfl)
  unfold LBox; rw [List.length_set]; exact h2
theorem LBox.far (h : LBox w b l) {p : Addr} (hp : b ≠ p.block) (v : Value) : LBox (w.setCell p v) b l := World.rowIs.setOther h hp v
theorem LBox.alloc (h : LBox w b l) (o : Obj) : LBox (w.alloc o) b l := World.rowIs.alloc h o
theorem LBox.drewN (h : LBox w b l) (q : Nat) : LBox (w.drewN q) b l := h
theorem LBox.irow (h : LBox w b l) : IRow w (some ⟨b, 0, none⟩) l := by
  refine .inr ⟨b, 0, rfl, h.lt, fun i x hx j v hv => ?_⟩
  have hi : i < l.length := (List.getElem?_eq_some_iff.1 hx).1
  match j, hv with
  | 0, hv =>
    simp [encI] at hv; subst hv
    have := h.cell hi
    rw [amt_of hx] at this
    simpa using this
  | (j + 1), hv => simp [encI] at hv
end
theorem lbox_made (w : World) (n : Nat) {b : Nat} (hb : b = w.heap.size) : LBox (w.alloc (.cells (madeCells #[.int .i64 0] n) 2)) b (List.replicate n 0) := by
  subst hb
  unfold LBox; rw [List.length_replicate]
  exact (World.rowIs_made w (.int .i64 0) n 2).congr fun i hi => by simp [amt, hi]
def IBox (w : World) (b : Nat) (l : List Int) : Prop := w.rowIs b 3 l.length fun i => .int .i64 (amt l i)
section
variable {w w2 : World} {b : Nat} {l : List Int}
theorem IBox.cell (h : IBox w b l) {i : Nat} (hi : i < l.length) : w.cell? ⟨b, i, none⟩ = some (.int .i64 (amt l i)) := World.rowIs.cell h hi
theorem IBox.frozen (h : IBox w b l) (i : Nat) : w.frozen? ⟨b, i, none⟩ = false := World.rowIs.frozen h i
theorem IBox.lt (h : IBox w b l) : b < w.heap.size := World.rowIs.lt h
theorem IBox.below {B : Nat} (h : IBox w b l) (hb : Below B w w2) (hB : b < B) : IBox w2 b l := World.rowIs.of_block h (hb.block b hB)
theorem IBox.kept (h : IBox w b l) (hb : Below w.heap.size w w2) : IBox w2 b l := h.below hb h.lt
theorem IBox.grown {row : Option Nat} (h : IBox w b l) (hg : w.grownBy w2 row) (hne : some b ≠ row) : IBox w2 b l := World.rowIs.of_block h (hg.block b h.lt hne)
theorem IBox.set (h : IBox w b l) {i : Nat} (hi : i < l.length) (x : Int) : IBox (w.setCell ⟨b, i, none⟩ (.int .i64 x)) b (l.set i x) := by
  have h2 := World.rowIs.congr (World.rowIs.set h i (.int .i64 x)) (g := fun j => .int .i64 (amt (l.set i x) j)) (fun j hj => by
    show (if j = i then _ else _) = _
    rw [amt_set x hi j]; split <;> rfl)
  unfold IBox; rw [List.length_set]; exact h2
theorem IBox.far (h : IBox w b l) {p : Addr} (hp : b ≠ p.block) (v : Value) : IBox (w.setCell p v) b l := World.rowIs.setOther h hp v
theorem IBox.alloc (h : IBox w b l) (o : Obj) : IBox (w.alloc o) b l := World.rowIs.alloc h o
theorem IBox.drewN (h : IBox w b l) (q : Nat) : IBox (w.drewN q) b l := h
theorem IBox.irow (h : IBox w b l) : IRow w (some ⟨b, 0, none⟩) l := by
  refine .inr ⟨b, 0, rfl, h.lt, fun i x hx j v hv => ?_⟩
  have hi : i < l.length := (List.getElem?_eq_some_iff.1 hx).1
  match j, hv with
  | 0, hv =>
    simp [encI] at hv; subst hv
    have := h.cell hi
    rw [amt_of hx] at this
    simpa using this
  | (j + 1), hv => simp [encI] at hv
end
theorem ibox_made (w : World) (n : Nat) {b : Nat} (hb : b = w.heap.size) : IBox (w.alloc (.cells (madeCells #[.int .i64 0] n) 3)) b (List.replicate n 0) := by
  subst hb
  unfold IBox; rw [List.length_replicate]
  exact (World.rowIs_made w (.int .i64 0) n 3).congr fun i hi => by simp [amt, hi]
theorem IBox.list {w : World} {b : Nat} {l : List Int} (h : IBox w b l) : w.heap[b]? = some (.cells (l.map (Value.int .i64)).toArray 3 (0, 0)) := by
  obtain ⟨c, hb, hn, hc⟩ := h
  have : c = (l.map (Value.int .i64)).toArray := by
    apply Array.ext
    · simp [hn]
    · intro i h1 h2
      have h3 := hc i (by omega)
      rw [Array.getElem?_eq_getElem h1] at h3
      have h4 := Option.some.inj h3
      rw [h4]
      simp at h2
      simp [amt, h2]
  rw [hb, this]
theorem IBox.of_list {w : World} {b : Nat} {l : List Int} (h : w.heap[b]? = some (.cells (l.map (Value.int .i64)).toArray 3 (0, 0))) : IBox w b l := ⟨_, h, by simp, fun i hi => by simp [amt, hi]⟩
section
variable {w w2 : World} {b : Nat}
theorem IBox.same {l : List Int} (h : IBox w b l) (e : w2.heap[b]? = w.heap[b]?) : IBox w2 b l := World.rowIs.of_block h e
end
theorem nodup_len : ∀ {L : Nat} {R : List Nat}, R.Nodup → (∀ k ∈ R, k < L) → R.length ≤ L
  | 0, R, _, h => by
    rcases R with _ | ⟨k, R⟩
    · simp
    · exact absurd (h k List.mem_cons_self) (by omega)
  | L + 1, R, hn, h => by
    by_cases hm : L ∈ R
    · have h1 := nodup_len (L := L) (R := R.erase L) (hn.erase L) fun k hk => by
        obtain ⟨h2, h3⟩ := (List.Nodup.mem_erase_iff hn).1 hk
        have := h k h3; omega
      rw [List.length_erase_of_mem hm] at h1; omega
    · have h1 := nodup_len (L := L) hn fun k hk => by
        have := h k hk
        have : k ≠ L := fun e => hm (e ▸ hk)
        omega
      omega
end Ne
end Go.Proofs.Ytkeojkddbannpaa
