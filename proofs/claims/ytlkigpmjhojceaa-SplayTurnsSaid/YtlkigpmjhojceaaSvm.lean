/-
  Stage 9: the knots of the developers' forest in memory. No condition.
-/
import Derived.Test.YtlkigpmjhojceaaSvf
import Derived.Test.YtlkigpmjhojceaaSpo
namespace Go.Proofs.Ytlkigpmjhojceaa
open Go.ChangeShapes Go.WideShapes Go.ChangeAt Go.RowKit
set_option linter.unusedVariables false
set_option linter.unusedSimpArgs false
namespace Sv
def oi : Option Nat → Int | none => -1 | some y => (y : Int)
def encN (k : Nd) : List Value := [.int .i64 k.v, .int .i64 k.lo, .int .i64 k.hi, .int .i64 (k.c : Int), .int .i64 (oi k.up), .int .i64 (oi (k.b false)), .int .i64 (oi (k.b true)), .bool k.t, .int .i64 k.a]
theorem encN_len (k : Nd) : (encN k).length = 9 := rfl
def lst (n : Nat) (M : Nat → Nd) : List Nd := (List.range n).map M
theorem lst_len (n : Nat) (M : Nat → Nd) : (lst n M).length = n := by simp [lst]
theorem lst_get {n y : Nat} (M : Nat → Nd) (h : y < n) : (lst n M)[y]? = some (M y) := by simp [lst, h]
theorem lst_set {n y : Nat} (M : Nat → Nd) (k : Nd) : (lst n M).set y k = lst n (upd M y k) := by
  apply List.ext_getElem?
  intro i
  by_cases c : i < n
  · rw [lst_get _ c]
    by_cases e : i = y
    · subst e; rw [List.getElem?_set_self (by rw [lst_len]; exact c), upd_self]
    · rw [List.getElem?_set_ne (Ne.symm e), lst_get _ c, upd_ne _ _ e]
  · rw [List.getElem?_eq_none (by rw [List.length_set, lst_len]; omega), List.getElem?_eq_none (by rw [lst_len]; omega)]
/-- the forest's own block: its items, its steps -/
def VBlk (w : World) (p : Nat) (v : Value) (c : Int) : Prop := w.heap[p]? = some (.cells #[v, .int .i64 c] 62 (0, 0))
structure SpM (w : World) (B p g n : Nat) (M : Nat → Nd) (c : Nat) : Prop where
  blk : VBlk w p (.slice (some ⟨g, 0, none⟩) n n) (wr c)
  low : B ≤ p
  row : Rw.Own 60 9 encN w B (.slice (some ⟨g, 0, none⟩) n n) (lst n M)
  small : n ≤ 3000
section
variable {w w2 : World} {B p g n c : Nat} {M : Nat → Nd} {v : Value} {z : Int}
theorem vblk_cells (h : VBlk w p v z) : w.cell? ⟨p, 0, none⟩ = some v ∧ w.cell? ⟨p, 1, none⟩ = some (.int .i64 z) := by
  unfold VBlk at h
  simp [World.cell?, h]
theorem vblk_frozen (h : VBlk w p v z) (o : Nat) : w.frozen? ⟨p, o, none⟩ = false := by unfold VBlk at h; simp [World.frozen?, h]
theorem vblk_lt (h : VBlk w p v z) : p < w.heap.size := Rw.lt_of_heap h
theorem vblk_same (h : VBlk w p v z) (e : w2.heap[p]? = w.heap[p]?) : VBlk w2 p v z := by unfold VBlk at *; rw [e]; exact h
theorem vblk_step (h : VBlk w p v z) (x : Int) : VBlk (w.setCell ⟨p, 1, none⟩ (.int .i64 x)) p v x := by
  unfold VBlk at *
  simp [World.setCell, Array.getElem?_modify, h]
theorem vblk_own {α : Type} {e : TypeId} {k : Nat} {enc : α → List Value} {B : Nat} {u : Value} {xs : List α} (h : VBlk w p v z) (hne : e ≠ 62) (ho : Rw.Own e k enc w B u xs) : u.ownBlock ≠ some p := by
  obtain ⟨_, h2⟩ := ho
  rcases h2 with ⟨hv, _⟩ | ⟨g, c, cur, hv, _, hh, _⟩
  · rw [hv]; simp [Value.ownBlock]
  · rw [hv]
    simp only [Value.ownBlock]
    intro e2
    cases e2
    unfold VBlk at h
    rw [h] at hh
    simp at hh
    exact hne hh.2.symm
theorem SpM.ne (h : SpM w B p g n M c) : g ≠ p := fun e => vblk_own h.blk (by decide) h.row (by rw [e]; rfl)
theorem SpM.in (h : SpM w B p g n M c) : (B ≤ p ∧ p < w.heap.size) ∧ B ≤ g ∧ g < w.heap.size := ⟨⟨h.low, vblk_lt h.blk⟩, Rw.own_lt h.row g rfl⟩
theorem SpM.same (h : SpM w B p g n M c) (e1 : w2.heap[p]? = w.heap[p]?) (e2 : w2.heap[g]? = w.heap[g]?) : SpM w2 B p g n M c :=
  ⟨vblk_same h.blk e1, h.low, Ne.own_same h.row fun k hk => by cases hk; exact e2, h.small⟩
theorem SpM.off (h : SpM w B p g n M c) {F : Nat → Prop} (ho : Sp.Off F w w2) (h1 : ¬ F p) (h2 : ¬ F g) : SpM w2 B p g n M c := h.same (ho.block p h.in.1.2 h1) (ho.block g h.in.2.2 h2)
theorem SpM.kept (h : SpM w B p g n M c) (hb : Below w.heap.size w w2) : SpM w2 B p g n M c := h.same (hb.block p h.in.1.2) (hb.block g h.in.2.2)
theorem SpM.base (h : SpM w B p g n M c) {B' : Nat} (hB : B' ≤ B) : SpM w B' p g n M c := ⟨h.blk, by have := h.low; omega, Rw.own_base h.row hB, h.small⟩
theorem SpM.head (h : SpM w B p g n M c) : w.cell? ⟨p, 0, none⟩ = some (.slice (some ⟨g, 0, none⟩) n n) := (vblk_cells h.blk).1
theorem SpM.cnt (h : SpM w B p g n M c) : w.cell? ⟨p, 1, none⟩ = some (.int .i64 (wr c)) := (vblk_cells h.blk).2
theorem SpM.cells (h : SpM w B p g n M c) {y : Nat} (hy : y < n) : ∀ j v, (encN (M y))[j]? = some v → w.cell? ⟨g, y * 9 + j, none⟩ = some v := by
  obtain ⟨g', e, _, _, hc, _⟩ := Ne.own_cells encN_len h.row (lst_get M hy)
  cases e
  exact hc
theorem SpM.froz (h : SpM w B p g n M c) (o : Nat) : w.frozen? ⟨g, o, none⟩ = false := by
  obtain ⟨_, h2⟩ := h.row
  rcases h2 with ⟨hv, _⟩ | ⟨g', cap2, cur, hv, hg, hh, _⟩
  · simp at hv
  · simp only [Value.slice.injEq, Option.some.injEq, Addr.mk.injEq, and_true, true_and] at hv
    obtain ⟨rfl, _⟩ := hv
    simp [World.frozen?, hh]
theorem SpM.put (h : SpM w B p g n M c) {y : Nat} (hy : y < n) {k : Nd} {j : Nat} (hj : j < 9) {u : Value} (hk : encN k = (encN (M y)).set j u) : SpM (w.setCell ⟨g, y * 9 + j, none⟩ u) B p g n (upd M y k) c := by
  refine ⟨vblk_same h.blk (Below.heap_setCell _ _ _ _ (Ne.symm h.ne)), h.low, ?_, h.small⟩
  rw [← lst_set]
  exact Ne.own_put encN_len h.row (lst_get M hy) hj hk
theorem upd_upd (M : Nat → Nd) (x : Nat) (k k' : Nd) : upd (upd M x k) x k' = upd M x k' := by
  funext y
  simp only [upd]
  split <;> rfl
theorem upd_id (M : Nat → Nd) (x : Nat) : upd M x (M x) = M := by
  funext y
  simp only [upd]
  split
  · rename_i e; rw [e]
  · rfl
theorem SpM.cellsU {x : Nat} {k : Nd} (h : SpM w B p g n (upd M x k) c) (hx : x < n) : ∀ j v, (encN k)[j]? = some v → w.cell? ⟨g, x * 9 + j, none⟩ = some v := by
  have := h.cells hx
  rw [upd_self] at this
  exact this
theorem SpM.putU {x : Nat} {k k' : Nd} (h : SpM w B p g n (upd M x k) c) (hx : x < n) {j : Nat} (hj : j < 9) {u : Value} (hk : encN k' = (encN k).set j u) : SpM (w.setCell ⟨g, x * 9 + j, none⟩ u) B p g n (upd M x k') c := by
  have := h.put hx (k := k') hj (u := u) (by rw [upd_self]; exact hk)
  rw [upd_upd] at this
  exact this
def sz : Bool → Int | false => 0 | true => 1
theorem SpM.stepped (h : SpM w B p g n M c) : SpM (w.setCell ⟨p, 1, none⟩ (.int .i64 (wr (wr c + 1)))) B p g n M (c + 1) := by
  refine ⟨?_, h.low, Ne.own_same h.row fun k hk => by cases hk; exact Below.heap_setCell _ _ _ _ h.ne, h.small⟩
  have := vblk_step h.blk (wr (wr c + 1))
  rw [show wr ((c + 1 : Nat) : Int) = wr (wr c + 1) by simp only [wr_eq]; omega]
  exact this
theorem SpM.drew (h : SpM w B p g n M c) : SpM w.drew B p g n M c := h.same rfl rfl
/-- its two blocks -/
def PG (p g : Nat) (k : Nat) : Prop := k = p ∨ k = g
theorem off_put (p : Nat) {g : Nat} {u : Value} (w : World) (o : Nat) : Sp.Off (PG p g) w (w.setCell ⟨g, o, none⟩ u) := (Sp.Off.refl _ w).set (.inl (.inr rfl)) u
theorem off_step {p : Nat} (g : Nat) {u : Value} (w : World) : Sp.Off (PG p g) w (w.setCell ⟨p, 1, none⟩ u) := (Sp.Off.refl _ w).set (.inl (.inl rfl)) u
theorem off_drew {F : Nat → Prop} (w : World) : Sp.Off F w w.drew := ⟨rfl, rfl, rfl, Nat.le_refl _, fun _ _ _ => rfl⟩
theorem off_pg {p g : Nat} {w w2 w3 : World} (h : Sp.Off (PG p g) w w2) (k : Sp.Off (PG p g) w2 w3) : Sp.Off (PG p g) w w3 := h.trans k fun _ h => .inl h
end
/-- .. and all else is as it was -/
structure SpA (w0 w : World) (B p g n : Nat) (M : Nat → Nd) (c : Nat) : Prop extends SpM w B p g n M c where
  off : Sp.Off (PG p g) w0 w
section
variable {w0 w w2 : World} {B p g n c c' : Nat} {M M' : Nat → Nd}
theorem SpM.at (h : SpM w B p g n M c) : SpA w w B p g n M c := ⟨h, Sp.Off.refl _ _⟩
theorem SpA.then (h : SpA w0 w B p g n M c) (k : SpA w w2 B p g n M' c') : SpA w0 w2 B p g n M' c' := ⟨k.toSpM, off_pg h.off k.off⟩
theorem SpA.put (h : SpA w0 w B p g n M c) {y : Nat} (hy : y < n) {k : Nd} {j : Nat} (hj : j < 9) {u : Value} (hk : encN k = (encN (M y)).set j u) : SpA w0 (w.setCell ⟨g, y * 9 + j, none⟩ u) B p g n (upd M y k) c :=
  ⟨h.toSpM.put hy hj hk, off_pg h.off (off_put p w _)⟩
theorem SpA.putU {x : Nat} {k k' : Nd} (h : SpA w0 w B p g n (upd M x k) c) (hx : x < n) {j : Nat} (hj : j < 9) {u : Value} (hk : encN k' = (encN k).set j u) : SpA w0 (w.setCell ⟨g, x * 9 + j, none⟩ u) B p g n (upd M x k') c :=
  ⟨h.toSpM.putU hx hj hk, off_pg h.off (off_put p w _)⟩
theorem SpA.drew (h : SpA w0 w B p g n M c) : SpA w0 w.drew B p g n M c := ⟨h.toSpM.drew, off_pg h.off (off_drew w)⟩
theorem SpA.stepped (h : SpA w0 w B p g n M c) : SpA w0 (w.setCell ⟨p, 1, none⟩ (.int .i64 (wr (wr c + 1)))) B p g n M (c + 1) := ⟨h.toSpM.stepped, off_pg h.off (off_step g w)⟩
end
end Sv
end Go.Proofs.Ytlkigpmjhojceaa
