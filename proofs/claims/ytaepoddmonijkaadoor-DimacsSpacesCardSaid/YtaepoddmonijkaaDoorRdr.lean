/-
  Contracts of the developers' reader of DIMACS lines: what each kind of line does, and whether it may. Condition: the reader lies in a block of the call's own.
-/
import Derived.Test.YtaepoddmonijkaaDoorDimm
import Derived.Test.YtaepoddmonijkaaDoorNbox
namespace Go.Proofs.YtaepoddmonijkaaDoor
open Go.ChangeShapes Go.WideShapes Go.ChangeAt Go.RowKit
set_option linter.unusedVariables false
set_option linter.unusedSimpArgs false
namespace Dm

/-- below block number B the world is as it was, but for block b -/
structure But (B b : Nat) (w w' : World) : Prop where
  os : w'.os = w.os
  tape : w'.tape = w.tape
  output : w'.output = w.output
  size : w.heap.size ≤ w'.heap.size
  block : ∀ k, k < B → k ≠ b → w'.heap[k]? = w.heap[k]?
theorem But.refl (B b : Nat) (w : World) : But B b w w := ⟨rfl, rfl, rfl, Nat.le_refl _, fun _ _ _ => rfl⟩
theorem But.trans {B b : Nat} {a c d : World} (h : But B b a c) (k : But B b c d) : But B b a d :=
  ⟨k.os.trans h.os, k.tape.trans h.tape, k.output.trans h.output, Nat.le_trans h.size k.size, fun j hj hn => (k.block j hj hn).trans (h.block j hj hn)⟩
theorem But.of_below {B b : Nat} {w w' : World} (h : Below B w w') : But B b w w' := ⟨h.os, h.tape, h.output, h.size, fun k hk _ => h.block k hk⟩
theorem But.below {B B0 b : Nat} {w w' : World} (h : But B b w w') (h1 : B0 ≤ B) (h2 : B0 ≤ b) : Below B0 w w' := ⟨h.os, h.tape, h.output, h.size, fun k hk => h.block k (by omega) (by omega)⟩
theorem But.mono {B B' b : Nat} {w w' : World} (h : But B b w w') (hB : B' ≤ B) : But B' b w w' := ⟨h.os, h.tape, h.output, h.size, fun k hk hn => h.block k (by omega) hn⟩
theorem But.row {α : Type} {n : Nat} {enc : α → List Value} {B b : Nat} {w w' : World} {ao : Option Addr} {l : List α} (h : But B b w w') (hr : Rw.Row n enc w ao l) (hB : ∀ g off, ao = some ⟨g, off, none⟩ → g < B ∧ g ≠ b) : Rw.Row n enc w' ao l := by
  rcases hr with hr | ⟨g, off, rfl, hlt, hc⟩
  · exact .inl hr
  · obtain ⟨h1, h2⟩ := hB g off rfl
    exact .inr ⟨g, off, rfl, Nat.lt_of_lt_of_le hlt h.size, fun i x hx j v hv => by
      exact (World.cell?_of_block (w := w) (h.block g h1 h2)).trans (hc i x hx j v hv)⟩

/-- a block of six cells -/
def Box6 (T : TypeId) (w : World) (b : Nat) (n s t : Int) (v : Value) (x y : Int) : Prop := w.heap[b]? = some (.cells #[.int .i64 n, .int .i64 s, .int .i64 t, v, .int .i64 x, .int .i64 y] T (0, 0))
theorem box6_cells {T : TypeId} {w : World} {b : Nat} {n s t x y : Int} {v : Value} (h : Box6 T w b n s t v x y) :
    w.cell? ⟨b, 0, none⟩ = some (.int .i64 n) ∧ w.cell? ⟨b, 1, none⟩ = some (.int .i64 s) ∧ w.cell? ⟨b, 2, none⟩ = some (.int .i64 t) ∧ w.cell? ⟨b, 3, none⟩ = some v ∧ w.cell? ⟨b, 4, none⟩ = some (.int .i64 x) ∧ w.cell? ⟨b, 5, none⟩ = some (.int .i64 y) := by
  unfold Box6 at h; refine ⟨?_, ?_, ?_, ?_, ?_, ?_⟩ <;> simp [World.cell?, h]
theorem box6_frozen {T : TypeId} {w : World} {b : Nat} {n s t x y : Int} {v : Value} (h : Box6 T w b n s t v x y) (o : Nat) : w.frozen? ⟨b, o, none⟩ = false := by
  unfold Box6 at h; simp [World.frozen?, h]
theorem box6_lt {T : TypeId} {w : World} {b : Nat} {n s t x y : Int} {v : Value} (h : Box6 T w b n s t v x y) : b < w.heap.size := Rw.lt_of_heap h
theorem box6_below {T : TypeId} {w w2 : World} {b B : Nat} {n s t x y : Int} {v : Value} (h : Box6 T w b n s t v x y) (hb : Below B w w2) (hB : b < B) : Box6 T w2 b n s t v x y := by
  unfold Box6 at *; rw [hb.block b hB]; exact h
theorem box6_grown {T : TypeId} {w w2 : World} {b : Nat} {n s t x y : Int} {v : Value} {row : Option Nat} (h : Box6 T w b n s t v x y) (hg : w.grownBy w2 row) (hne : some b ≠ row) : Box6 T w2 b n s t v x y := by
  unfold Box6 at *; rw [hg.block b (Rw.lt_of_heap h) hne]; exact h
theorem box6_at (T : TypeId) (w : World) {b : Nat} (hb : b = w.heap.size) (n s t x y : Int) (v : Value) : Box6 T (w.alloc (.cells #[.int .i64 n, .int .i64 s, .int .i64 t, v, .int .i64 x, .int .i64 y] T)) b n s t v x y := by
  subst hb; unfold Box6; show (w.heap.push _)[w.heap.size]? = _; simp
theorem box6_set0 {T : TypeId} {w : World} {b : Nat} {n s t x y n2 : Int} {v : Value} (h : Box6 T w b n s t v x y) : Box6 T (w.setCell ⟨b, 0, none⟩ (.int .i64 n2)) b n2 s t v x y := by
  unfold Box6 at *; simp only [World.setCell, Array.getElem?_modify, h, if_true, Option.map_some]; rfl
theorem box6_set1 {T : TypeId} {w : World} {b : Nat} {n s t x y n2 : Int} {v : Value} (h : Box6 T w b n s t v x y) : Box6 T (w.setCell ⟨b, 1, none⟩ (.int .i64 n2)) b n n2 t v x y := by
  unfold Box6 at *; simp only [World.setCell, Array.getElem?_modify, h, if_true, Option.map_some]; rfl
theorem box6_set2 {T : TypeId} {w : World} {b : Nat} {n s t x y n2 : Int} {v : Value} (h : Box6 T w b n s t v x y) : Box6 T (w.setCell ⟨b, 2, none⟩ (.int .i64 n2)) b n s n2 v x y := by
  unfold Box6 at *; simp only [World.setCell, Array.getElem?_modify, h, if_true, Option.map_some]; rfl
theorem box6_set3 {T : TypeId} {w : World} {b : Nat} {n s t x y : Int} {v v2 : Value} (h : Box6 T w b n s t v x y) : Box6 T (w.setCell ⟨b, 3, none⟩ v2) b n s t v2 x y := by
  unfold Box6 at *; simp only [World.setCell, Array.getElem?_modify, h, if_true, Option.map_some]; rfl
theorem box6_set4 {T : TypeId} {w : World} {b : Nat} {n s t x y n2 : Int} {v : Value} (h : Box6 T w b n s t v x y) : Box6 T (w.setCell ⟨b, 4, none⟩ (.int .i64 n2)) b n s t v n2 y := by
  unfold Box6 at *; simp only [World.setCell, Array.getElem?_modify, h, if_true, Option.map_some]; rfl
theorem box6_set5 {T : TypeId} {w : World} {b : Nat} {n s t x y n2 : Int} {v : Value} (h : Box6 T w b n s t v x y) : Box6 T (w.setCell ⟨b, 5, none⟩ (.int .i64 n2)) b n s t v x n2 := by
  unfold Box6 at *; simp only [World.setCell, Array.getElem?_modify, h, if_true, Option.map_some]; rfl
theorem own_ne6 {w : World} {B : Nat} {v : Value} {l : List Ne.Arc} {T : TypeId} {b : Nat} {cs : Array Value} {fr : Nat × Nat} (hown : Ne.OwnA w B v l) (hb : w.heap[b]? = some (.cells cs T fr)) (hT : T ≠ 49) : v.ownBlock ≠ some b := by
  rcases hown.2 with ⟨rfl, _⟩ | ⟨g, cap, cur, rfl, _, hg, _⟩
  · simp [Value.ownBlock]
  · intro h
    simp only [Value.ownBlock, Option.some.injEq] at h
    subst h
    rw [hg] at hb
    simp only [Option.some.injEq, Obj.cells.injEq] at hb
    exact hT hb.2.1.symm

/-- the reader, as what it has read: in block b; its arcs in a block from B on -/
def RdIs (w : World) (B b : Nat) (st : St) : Prop := ∃ v, Box6 51 w b st.n st.s st.t v st.arcs st.sum ∧ Ne.OwnA w B v st.l
theorem rdIs_lt {w : World} {B b : Nat} {st : St} (h : RdIs w B b st) : b < w.heap.size := by obtain ⟨v, h, _⟩ := h; exact box6_lt h
theorem rdIs_kept {w w2 : World} {B b : Nat} {st : St} (h : RdIs w B b st) (hb : Below w.heap.size w w2) : RdIs w2 B b st := by
  obtain ⟨v, h1, h2⟩ := h; exact ⟨v, box6_below h1 hb (box6_lt h1), Rw.own_below h2 hb⟩

theorem disnode_any (b : Nat) (n v : Int) (w : World) (h : w.cell? ⟨b, 0, none⟩ = some (.int .i64 n)) :
    Calls Tryd.prog 77 #[.pointer (some ⟨b, 0, none⟩), .int .i64 v] w fun e w' => e = .returned (.bool (Ne.isNode n v)) ∧ w = w' := by
  by_cases f1 : 1 ≤ v
  · by_cases f2 : v ≤ n
    · have HE := Lib.hid (show Ne.isNode n v = true by simp [Ne.isNode, f1, f2])
      go_enter Tryd.func77, Tryd.ntmps77
      go_wp2
      go_ret
      exact ⟨Ne.retB HE.out.symm, rfl⟩
    · have HE := Lib.hid (show Ne.isNode n v = false by simp [Ne.isNode, f1, f2])
      go_enter Tryd.func77, Tryd.ntmps77
      go_wp2
      go_ret
      exact ⟨Ne.retB HE.out.symm, rfl⟩
  · have HE := Lib.hid (show Ne.isNode n v = false by simp [Ne.isNode, f1])
    go_enter Tryd.func77, Tryd.ntmps77
    go_wp2
    go_ret
    exact ⟨Ne.retB HE.out.symm, rfl⟩

theorem mayp_any (B b : Nat) (st : St) (w : World) (h : RdIs w B b st) :
    Calls Tryd.prog 55 #[.pointer (some ⟨b, 0, none⟩)] w fun e w' => e = .returned (.bool (may st 0)) ∧ w = w' := by
  obtain ⟨v, h, _⟩ := h
  obtain ⟨h0, h1, h2, h3, h4, h5⟩ := box6_cells h
  clear h
  obtain ⟨n, s, t, x, y, l⟩ := st
  simp only at h0 h1 h2 h3 h4 h5
  go_enter Tryd.func55, Tryd.ntmps55
  go_wp2
  go_ret
  exact ⟨Ne.retB (by simp [may]; rfl), rfl⟩
theorem mays_any (B b : Nat) (st : St) (w : World) (h : RdIs w B b st) :
    Calls Tryd.prog 57 #[.pointer (some ⟨b, 0, none⟩)] w fun e w' => e = .returned (.bool (may st 1)) ∧ w = w' := by
  obtain ⟨v, h, _⟩ := h
  obtain ⟨h0, h1, h2, h3, h4, h5⟩ := box6_cells h
  clear h
  obtain ⟨n, s, t, x, y, l⟩ := st
  simp only at h0 h1 h2 h3 h4 h5
  by_cases f : n = 0
  · have f' : (n != 0) = false := by simp [f]
    have HE := Lib.hid (show may ⟨n, s, t, x, y, l⟩ 1 = false by simp [may, f])
    clear f
    go_enter Tryd.func57, Tryd.ntmps57
    go_wp2
    go_ret
    exact ⟨Ne.retB HE.out.symm, rfl⟩
  · have f' : (n != 0) = true := by simp [f]
    have HE := Lib.hid (show may ⟨n, s, t, x, y, l⟩ 1 = decide (s = 0) by simp [may, f])
    clear f
    go_enter Tryd.func57, Tryd.ntmps57
    go_wp2
    go_ret
    exact ⟨Ne.retB (by rw [HE.out]; rfl), rfl⟩
theorem mayt_any (B b : Nat) (st : St) (w : World) (h : RdIs w B b st) :
    Calls Tryd.prog 59 #[.pointer (some ⟨b, 0, none⟩)] w fun e w' => e = .returned (.bool (may st 2)) ∧ w = w' := by
  obtain ⟨v, h, _⟩ := h
  obtain ⟨h0, h1, h2, h3, h4, h5⟩ := box6_cells h
  clear h
  obtain ⟨n, s, t, x, y, l⟩ := st
  simp only at h0 h1 h2 h3 h4 h5
  by_cases f : n = 0
  · have f' : (n != 0) = false := by simp [f]
    have HE := Lib.hid (show may ⟨n, s, t, x, y, l⟩ 2 = false by simp [may, f])
    clear f
    go_enter Tryd.func59, Tryd.ntmps59
    go_wp2
    go_ret
    exact ⟨Ne.retB HE.out.symm, rfl⟩
  · have f' : (n != 0) = true := by simp [f]
    have HE := Lib.hid (show may ⟨n, s, t, x, y, l⟩ 2 = decide (t = 0) by simp [may, f])
    clear f
    go_enter Tryd.func59, Tryd.ntmps59
    go_wp2
    go_ret
    exact ⟨Ne.retB (by rw [HE.out]; rfl), rfl⟩
theorem maya_any (B b : Nat) (st : St) (w : World) (h : RdIs w B b st) :
    Calls Tryd.prog 61 #[.pointer (some ⟨b, 0, none⟩)] w fun e w' => e = .returned (.bool (may st 3)) ∧ w = w' := by
  obtain ⟨v, h, _⟩ := h
  obtain ⟨h0, h1, h2, h3, h4, h5⟩ := box6_cells h
  clear h
  obtain ⟨n, s, t, x, y, l⟩ := st
  simp only at h0 h1 h2 h3 h4 h5
  by_cases f : s = 0
  · have f' : (s != 0) = false := by simp [f]
    have HE := Lib.hid (show may ⟨n, s, t, x, y, l⟩ 3 = false by simp [may, f])
    clear f
    go_enter Tryd.func61, Tryd.ntmps61
    go_wp2
    go_ret
    exact ⟨Ne.retB HE.out.symm, rfl⟩
  · have f' : (s != 0) = true := by simp [f]
    have HE := Lib.hid (show may ⟨n, s, t, x, y, l⟩ 3 = (t != 0) by simp [may, f, bne]; rfl)
    clear f
    go_enter Tryd.func61, Tryd.ntmps61
    go_wp2
    go_ret
    exact ⟨Ne.retB HE.out.symm, rfl⟩
end Dm
end Go.Proofs.YtaepoddmonijkaaDoor
