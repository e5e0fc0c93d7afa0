/-
  What arguments tell a walk: a network by value, a slice of structs of three 64-bit numbers, such a struct by value. No condition.
-/
import Derived.Test.YtkeojkddbannpaaNets
import Derived.Test.YtkeojkddbannpaaOpg
import Derived.Deep.Slices
import Derived.Deep.Fields
import Derived.ChangeSame
import Derived.Lib.SmallJoins
namespace Go.Proofs.Ytkeojkddbannpaa
open Go.Joins Go.ChangeShapes Go.WideShapes Go.RowKit Go.Deep
set_option linter.unusedVariables false
namespace Ne
section
variable {H : Type} {enc : TypeId × Value → H} {P : Program} {w : World} {base : Nat} {spare : Nat → Bool} {held : Bool}
theorem open_row3 {t e : TypeId} {f0 f1 f2 : Field} {fuel : Nat} {cs : List Value} {x : DataW H × List MemPlace} (ht : P.underlying t = some (.slice e)) (he : P.underlying e = some (.struct #[f0, f1, f2]))
    (hone : oneCellFields P #[f0, f1, f2] = true) (hC : P.cellsOf e = 3) (i0 : P.underlying f0.type = some (.int .i64)) (i1 : P.underlying f1.type = some (.int .i64)) (i2 : P.underlying f2.type = some (.int .i64))
    (h : DataW.trod enc P w base spare held fuel t cs = some x) :
    ∃ (ao : Option Addr) (cap : Nat) (l : List Arc), cs = [.slice ao l.length cap] ∧ l.length ≤ cap ∧ cap ≤ maxLen ∧ (ao = none → cap = 0) ∧ ARow w ao l ∧ ∀ a ∈ l, a.ok := by
  rcases open_slice_fields ht he hone hC h with h0 | ⟨a, len, cap, hcs, hl, hm, hf⟩
  · exact ⟨none, 0, [], h0, by simp, by simp, fun _ => rfl, .inl rfl, by simp⟩
  · have hel : ∀ i, i < len → ∃ c : Arc, c.ok ∧ w.cell? (a.add (i * 3)) = some (.int .i64 c.fr) ∧ w.cell? (a.add (i * 3 + 1)) = some (.int .i64 c.to) ∧ w.cell? (a.add (i * 3 + 2)) = some (.int .i64 c.cap) := by
      intro i hi
      obtain ⟨v0, y0, n0, h0, t0⟩ := hf i hi 0 f0 rfl
      obtain ⟨v1, y1, n1, h1, t1⟩ := hf i hi 1 f1 rfl
      obtain ⟨v2, y2, n2, h2, t2⟩ := hf i hi 2 f2 rfl
      obtain ⟨z0, e0, _, w0⟩ := DataW.trod_int i0 t0
      obtain ⟨z1, e1, _, w1⟩ := DataW.trod_int i1 t1
      obtain ⟨z2, e2, _, w2⟩ := DataW.trod_int i2 t2
      simp only [List.cons.injEq, and_true] at e0 e1 e2
      subst e0 e1 e2
      refine ⟨⟨z0, z1, z2⟩, ⟨bounds_i64 w0, bounds_i64 w1, bounds_i64 w2⟩, h0, h1, h2⟩
    obtain ⟨g, hg⟩ := choose_lt hel
    refine ⟨some a, cap, (List.range len).map g, by simpa using hcs, by simpa using hl, hm, fun h => by (cases h), ?_, ?_⟩
    · by_cases h0 : len = 0
      · left; subst h0; rfl
      · right
        have h1 := (hg 0 (by omega)).2.1
        obtain ⟨b, off, sp⟩ := a
        have hsp := World.cell?_spot h1
        rw [Nat.zero_mul] at hsp
        simp only [Addr.add, if_true] at hsp
        subst hsp
        refine ⟨b, off, rfl, ?_, ?_⟩
        · rw [Nat.zero_mul] at h1
          exact Rw.heap_lt_of_cell (o := off) (by simpa [Addr.add] using h1)
        · intro i c hc j v hv
          have hi : i < len := by have := (List.getElem?_eq_some_iff.1 hc).1; simpa using this
          have e : ((List.range len).map g)[i]? = some (g i) := by simp [hi]
          obtain rfl := Option.some.inj (e.symm.trans hc)
          obtain ⟨_, q0, q1, q2⟩ := hg i hi
          rw [Rw.add_at] at q0 q1 q2
          match j, hv with
          | 0, hv => simp [encA] at hv; subst hv; exact q0
          | 1, hv => simp [encA] at hv; subst hv; exact q1
          | 2, hv => simp [encA] at hv; subst hv; exact q2
          | (j + 3), hv => simp [encA] at hv
    · intro c hc
      obtain ⟨i, hi, rfl⟩ := List.mem_map.1 hc
      exact (hg i (by simpa using hi)).1
end
section
variable {H : Type} {enc : TypeId × Value → H} {w : World} {base b0 : Nat} {r : Reach} {spare : Nat → Bool} {held : Bool}
set_option maxRecDepth 100000 in
theorem open_net {v : Value} {d : DataW H} {p : List MemPlace} (hv : Value.okWide Try.prog w r b0 24 v) (h : DataW.Trod enc Try.prog w base spare held 24 v d p) :
    ∃ (n : Net) (ao : Option Addr) (cap : Nat), v = encN n ao cap ∧ n.ok ∧ n.l.length ≤ cap ∧ cap ≤ maxLen ∧ (ao = none → cap = 0) ∧ ARow w ao n.l := by
  obtain ⟨v0, v1, v2, v3, y0, y1, y2, y3, n, rfl, _, _, t0, t1, t2, t3⟩ := open_agg4 Try.underlying24 (by kernel_rfl) (by kernel_rfl) hv h
  obtain ⟨z0, e0, _, w0⟩ := DataW.trod_int Try.underlying3 t0
  obtain ⟨z1, e1, _, w1⟩ := DataW.trod_int Try.underlying3 t1
  obtain ⟨z2, e2, _, w2⟩ := DataW.trod_int Try.underlying3 t2
  obtain ⟨ao, cap, l, e3, hl, hm, hn, hr, hk⟩ := open_row3 Try.underlying22 Try.underlying53 (by kernel_rfl) (by kernel_rfl) Try.underlying3 Try.underlying3 Try.underlying2 t3
  simp only [List.cons.injEq, and_true] at e0 e1 e2 e3
  subst e0 e1 e2 e3
  exact ⟨⟨z0, z1, z2, l⟩, ao, cap, rfl, ⟨bounds_i64 w0, bounds_i64 w1, bounds_i64 w2, hk⟩, hl, hm, hn, hr⟩
end
end Ne
end Go.Proofs.Ytkeojkddbannpaa
