/-
  What a slice of the laws' acts tells a walk. No condition.
-/
import Derived.Test.YtjhodnpmogkmmaaOpg
import Derived.Test.YtjhodnpmogkmmaaIrow
namespace Go.Proofs.Ytjhodnpmogkmmaa
open Go.Joins Go.ChangeShapes Go.WideShapes Go.RowKit Go.Deep
set_option linter.unusedVariables false
set_option linter.unusedSimpArgs false
namespace Sp
structure Act where
  op : Int
  x : Int
  y : Int
  d : Int
instance : Inhabited Act := ⟨⟨0, 0, 0, 0⟩⟩
def Act.ok (a : Act) : Prop := Ne.in64 a.op ∧ Ne.in64 a.x ∧ Ne.in64 a.y ∧ Ne.in64 a.d
def encT (a : Act) : List Value := [.int .i64 a.op, .int .i64 a.x, .int .i64 a.y, .int .i64 a.d]
abbrev TRow (w : World) (ao : Option Addr) (l : List Act) : Prop := Rw.Row 4 encT w ao l
def actAt (l : List Act) (i : Nat) : Act := l.getD i default
theorem actAt_of {l : List Act} {i : Nat} {a : Act} (h : l[i]? = some a) : actAt l i = a := by simp [actAt, h]
theorem at_act {l : List Act} {i : Nat} (h : i < l.length) : l[i]? = some (actAt l i) := by simp [actAt, h]
theorem trow_cell {w : World} {ao : Option Addr} {l : List Act} (h : TRow w ao l) {i : Nat} (hi : i < l.length) : ∃ b off, ao = some ⟨b, off, none⟩ ∧ b < w.heap.size ∧ w.cell? ⟨b, off + i * 4, none⟩ = some (.int .i64 (actAt l i).op) ∧ w.cell? ⟨b, off + i * 4 + 1, none⟩ = some (.int .i64 (actAt l i).x) ∧ w.cell? ⟨b, off + i * 4 + 2, none⟩ = some (.int .i64 (actAt l i).y) ∧ w.cell? ⟨b, off + i * 4 + 3, none⟩ = some (.int .i64 (actAt l i).d) := by
  rcases h with h | ⟨b, off, rfl, hlt, hc⟩
  · subst h; simp at hi
  · have h0 := hc i _ (at_act hi) 0 _ rfl
    have h1 := hc i _ (at_act hi) 1 _ rfl
    have h2 := hc i _ (at_act hi) 2 _ rfl
    have h3 := hc i _ (at_act hi) 3 _ rfl
    simp only [← Nat.add_assoc, Nat.add_zero] at h0 h1 h2 h3
    exact ⟨b, off, rfl, hlt, h0, h1, h2, h3⟩
section
variable {H : Type} {enc : TypeId × Value → H} {P : Program} {w : World} {base : Nat} {spare : Nat → Bool} {held : Bool}
theorem open_row4 {t e : TypeId} {f0 f1 f2 f3 : Field} {fuel : Nat} {cs : List Value} {x : DataW H × List MemPlace} (ht : P.underlying t = some (.slice e)) (he : P.underlying e = some (.struct #[f0, f1, f2, f3]))
    (hone : oneCellFields P #[f0, f1, f2, f3] = true) (hC : P.cellsOf e = 4) (i0 : P.underlying f0.type = some (.int .i64)) (i1 : P.underlying f1.type = some (.int .i64)) (i2 : P.underlying f2.type = some (.int .i64)) (i3 : P.underlying f3.type = some (.int .i64))
    (h : DataW.trod enc P w base spare held fuel t cs = some x) :
    ∃ (ao : Option Addr) (cap : Nat) (l : List Act), cs = [.slice ao l.length cap] ∧ l.length ≤ cap ∧ cap ≤ maxLen ∧ (ao = none → cap = 0) ∧ TRow w ao l ∧ ∀ a ∈ l, a.ok := by
  rcases Ne.open_slice_fields ht he hone hC h with h0 | ⟨a, len, cap, hcs, hl, hm, hf⟩
  · exact ⟨none, 0, [], h0, by simp, by simp, fun _ => rfl, .inl rfl, by simp⟩
  · have hel : ∀ i, i < len → ∃ c : Act, c.ok ∧ w.cell? (a.add (i * 4)) = some (.int .i64 c.op) ∧ w.cell? (a.add (i * 4 + 1)) = some (.int .i64 c.x) ∧ w.cell? (a.add (i * 4 + 2)) = some (.int .i64 c.y) ∧ w.cell? (a.add (i * 4 + 3)) = some (.int .i64 c.d) := by
      intro i hi
      obtain ⟨v0, y0, n0, h0, t0⟩ := hf i hi 0 f0 rfl
      obtain ⟨v1, y1, n1, h1, t1⟩ := hf i hi 1 f1 rfl
      obtain ⟨v2, y2, n2, h2, t2⟩ := hf i hi 2 f2 rfl
      obtain ⟨v3, y3, n3, h3, t3⟩ := hf i hi 3 f3 rfl
      obtain ⟨z0, e0, _, w0⟩ := DataW.trod_int i0 t0
      obtain ⟨z1, e1, _, w1⟩ := DataW.trod_int i1 t1
      obtain ⟨z2, e2, _, w2⟩ := DataW.trod_int i2 t2
      obtain ⟨z3, e3, _, w3⟩ := DataW.trod_int i3 t3
      simp only [List.cons.injEq, and_true] at e0 e1 e2 e3
      subst e0 e1 e2 e3
      refine ⟨⟨z0, z1, z2, z3⟩, ⟨bounds_i64 w0, bounds_i64 w1, bounds_i64 w2, bounds_i64 w3⟩, h0, h1, h2, h3⟩
    obtain ⟨g, hg⟩ := choose_lt hel
    refine ⟨some a, cap, (List.range len).map g, by simpa using hcs, by simpa using hl, hm, fun h => by (cases h), ?_, ?_⟩
    · by_cases h0 : len = 0
      · left; subst h0; rfl
      · right
        have h1 := (hg 0 (by omega)).2.1
        obtain ⟨b, off, sp⟩ := a
        have hsp := World.cell?_spot h1
        rw [Nat.zero_mul] at hsp
        simp only [Addr.add, if_true] at hsp
        subst hsp
        refine ⟨b, off, rfl, ?_, ?_⟩
        · rw [Nat.zero_mul] at h1
          exact Rw.heap_lt_of_cell (o := off) (by simpa [Addr.add] using h1)
        · intro i c hc j v hv
          have hi : i < len := by have := (List.getElem?_eq_some_iff.1 hc).1; simpa using this
          have e : ((List.range len).map g)[i]? = some (g i) := by simp [hi]
          obtain rfl := Option.some.inj (e.symm.trans hc)
          obtain ⟨_, q0, q1, q2, q3⟩ := hg i hi
          rw [Rw.add_at] at q0 q1 q2 q3
          match j, hv with
          | 0, hv => simp [encT] at hv; subst hv; exact q0
          | 1, hv => simp [encT] at hv; subst hv; exact q1
          | 2, hv => simp [encT] at hv; subst hv; exact q2
          | 3, hv => simp [encT] at hv; subst hv; exact q3
          | (j + 4), hv => simp [encT] at hv
    · intro c hc
      obtain ⟨i, hi, rfl⟩ := List.mem_map.1 hc
      exact (hg i (by simpa using hi)).1
end
section
variable {H : Type} {enc : TypeId × Value → H} {w : World} {base b0 : Nat} {r : Reach} {spare : Nat → Bool} {held : Bool}
set_option maxRecDepth 100000 in
theorem open_acts {v : Value} {d : DataW H} {p : List MemPlace} (hv : Value.okWide Try.prog w r b0 23 v) (h : DataW.Trod enc Try.prog w base spare held 23 v d p) :
    ∃ (l : List Act) (ao : Option Addr) (cap : Nat), v = .slice ao l.length cap ∧ (∀ a ∈ l, a.ok) ∧ l.length ≤ cap ∧ cap ≤ maxLen ∧ (ao = none → cap = 0) ∧ TRow w ao l := by
  obtain ⟨ao, len, cap, rfl⟩ := okWide_slice Try.underlying23 hv
  obtain ⟨fuel, hf⟩ := h
  obtain ⟨ao', cap', l, e, hl, hm, hn, hr, hk⟩ := open_row4 Try.underlying23 Try.underlying34 (by kernel_rfl) (by kernel_rfl) Try.underlying3 Try.underlying3 Try.underlying3 Try.underlying2 hf
  simp [Value.cells] at e
  obtain ⟨rfl, rfl, rfl⟩ := e
  exact ⟨l, ao, cap, rfl, hk, hl, hm, hn, hr⟩
end
end Sp
end Go.Proofs.Ytjhodnpmogkmmaa
