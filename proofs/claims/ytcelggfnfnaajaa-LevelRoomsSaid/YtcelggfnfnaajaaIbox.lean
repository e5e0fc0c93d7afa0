/-
  A block that the call itself makes by make([]int, n), and one that holds one slice (a variable that a closure holds): told by a list, by a value. No condition. (Written by wip/tools/gen-Lev1.py.)
-/
import Derived.Test.YtcelggfnfnaajaaRbox
import Derived.Laws.CopyOwn
namespace Go.Proofs.Ytcelggfnfnaajaa
open Go.ChangeShapes Go.WideShapes Go.ChangeAt Go.RowKit
set_option linter.unusedVariables false
set_option linter.unusedSimpArgs false
namespace Ne
theorem infoI : (Try.prog.info? 3).map (fun i => (i.zero, i.size, i.bytes)) = some (some (.int .i64 0), 1, 8) := by kernel_rfl
theorem make_i (n : Nat) (h : n ≤ 1000000) (w : World) : (Instr.makeSlice 27 (.int .i64 (n : Int)) (.int .i64 (n : Int))).run Try.prog w = .ok (.slice (some ⟨w.heap.size, 0, none⟩) n n) (w.alloc (.cells (madeCells #[.int .i64 0] n) 3)) :=
  run_make_row' 27 3 (.int .i64 0) 8 Try.underlying27 infoI rfl .i64 .i64 n (by omega) (by omega) w
def IBox (w : World) (b : Nat) (l : List Int) : Prop := w.rowIs b 3 l.length fun i => .int .i64 (amt l i)
section
variable {w w2 : World} {b : Nat} {l : List Int}
theorem IBox.cell (h : IBox w b l) {i : Nat} (hi : i < l.length) : w.cell? ⟨b, i, none⟩ = some (.int .i64 (amt l i)) := World.rowIs.cell h hi
theorem IBox.frozen (h : IBox w b l) (i : Nat) : w.frozen? ⟨b, i, none⟩ = false := World.rowIs.frozen h i
theorem IBox.lt (h : IBox w b l) : b < w.heap.size := World.rowIs.lt h
theorem IBox.below {B : Nat} (h : IBox w b l) (hb : Below B w w2) (hB : b < B) : IBox w2 b l := World.rowIs.of_block h (hb.block b hB)
theorem IBox.kept (h : IBox w b l) (hb : Below w.heap.size w w2) : IBox w2 b l := h.below hb h.lt
theorem IBox.grown {row : Option Nat} (h : IBox w b l) (hg : w.grownBy w2 row) (hne : some b ≠ row) : IBox w2 b l := World.rowIs.of_block h (hg.block b h.lt hne)
theorem IBox.set (h : IBox w b l) {i : Nat} (hi : i < l.length) (x : Int) : IBox (w.setCell ⟨b, i, none⟩ (.int .i64 x)) b (l.set i x) := by
  have h2 := World.rowIs.congr (World.rowIs.set h i (.int .i64 x)) (g := fun j => .int .i64 (amt (l.set i x) j)) (fun j hj => by
    show (if j = i then _ else _) = _
    rw [amt_set x hi j]; split <;> rfl)
  unfold IBox; rw [List.length_set]; exact h2
theorem IBox.far (h : IBox w b l) {p : Addr} (hp : b ≠ p.block) (v : Value) : IBox (w.setCell p v) b l := World.rowIs.setOther h hp v
theorem IBox.alloc (h : IBox w b l) (o : Obj) : IBox (w.alloc o) b l := World.rowIs.alloc h o
theorem IBox.drewN (h : IBox w b l) (q : Nat) : IBox (w.drewN q) b l := h
theorem IBox.irow (h : IBox w b l) : IRow w (some ⟨b, 0, none⟩) l := by
  refine .inr ⟨b, 0, rfl, h.lt, fun i x hx j v hv => ?_⟩
  have hi : i < l.length := (List.getElem?_eq_some_iff.1 hx).1
  match j, hv with
  | 0, hv =>
    simp [encI] at hv; subst hv
    have := h.cell hi
    rw [amt_of hx] at this
    simpa using this
  | (j + 1), hv => simp [encI] at hv
end
theorem ibox_made (w : World) (n : Nat) {b : Nat} (hb : b = w.heap.size) : IBox (w.alloc (.cells (madeCells #[.int .i64 0] n) 3)) b (List.replicate n 0) := by
  subst hb
  unfold IBox; rw [List.length_replicate]
  exact (World.rowIs_made w (.int .i64 0) n 3).congr fun i hi => by simp [amt, hi]
theorem IBox.list {w : World} {b : Nat} {l : List Int} (h : IBox w b l) : w.heap[b]? = some (.cells (l.map (Value.int .i64)).toArray 3 (0, 0)) := by
  obtain ⟨c, hb, hn, hc⟩ := h
  have : c = (l.map (Value.int .i64)).toArray := by
    apply Array.ext
    · simp [hn]
    · intro i h1 h2
      have h3 := hc i (by omega)
      rw [Array.getElem?_eq_getElem h1] at h3
      have h4 := Option.some.inj h3
      rw [h4]
      simp at h2
      simp [amt, h2]
  rw [hb, this]
theorem IBox.of_list {w : World} {b : Nat} {l : List Int} (h : w.heap[b]? = some (.cells (l.map (Value.int .i64)).toArray 3 (0, 0))) : IBox w b l := ⟨_, h, by simp, fun i hi => by simp [amt, hi]⟩
/-- the row behind c numbers -/
def repL (m c : Nat) (a : Int) : List Int := List.replicate c a ++ List.replicate (m - c) 0
theorem repL_len {m c : Nat} (a : Int) (h : c ≤ m) : (repL m c a).length = m := by simp [repL]; omega
theorem repL_at {m c j : Nat} (a : Int) (h : j < c) : (repL m c a)[j]? = some a := by simp [repL, h, List.getElem?_append]
theorem repL_put {m c k : Nat} (a : Int) (h : c + k ≤ m) : splice ((repL m c a).map (Value.int .i64)) c ((List.replicate k a).map (Value.int .i64)) = (repL m (c + k) a).map (Value.int .i64) := by
  unfold splice repL
  simp only [List.map_append, List.map_replicate, List.length_replicate]
  rw [List.take_left' (by simp), show List.drop (c + k) (List.replicate c (Value.int .i64 a) ++ List.replicate (m - c) (Value.int .i64 0)) = List.replicate (m - (c + k)) (Value.int .i64 0) by
    rw [List.drop_append]; simp; omega, ← List.append_assoc, List.replicate_append_replicate]
theorem repL_zero (m : Nat) (a : Int) : repL m 0 a = List.replicate m 0 := by simp [repL]
theorem repL_all (m : Nat) (a : Int) : repL m m a = List.replicate m a := by simp [repL]
theorem repL_set {m c : Nat} (a : Int) (h : c < m) : (repL m c a).set c a = repL m (c + 1) a := by
  obtain ⟨k, hk⟩ : ∃ k, m - c = k + 1 := ⟨m - c - 1, by omega⟩
  unfold repL
  rw [hk, show m - (c + 1) = k by omega, List.replicate_succ (n := k), List.set_append_right _ _ (by simp)]
  simp [List.replicate_succ']
/-- a block that holds one slice -/
def SBox (w : World) (b : Nat) (v : Value) : Prop := w.rowIs b 27 1 fun _ => v
section
variable {w w2 : World} {b : Nat} {v : Value}
theorem SBox.cell (h : SBox w b v) : w.cell? ⟨b, 0, none⟩ = some v := World.rowIs.cell h (by omega)
theorem SBox.frozen (h : SBox w b v) (i : Nat) : w.frozen? ⟨b, i, none⟩ = false := World.rowIs.frozen h i
theorem SBox.lt (h : SBox w b v) : b < w.heap.size := World.rowIs.lt h
theorem SBox.same (h : SBox w b v) (e : w2.heap[b]? = w.heap[b]?) : SBox w2 b v := World.rowIs.of_block h e
theorem SBox.kept (h : SBox w b v) (hb : Below w.heap.size w w2) : SBox w2 b v := h.same (hb.block b h.lt)
theorem SBox.far (h : SBox w b v) {p : Addr} (hp : b ≠ p.block) (x : Value) : SBox (w.setCell p x) b v := World.rowIs.setOther h hp x
theorem SBox.alloc (h : SBox w b v) (o : Obj) : SBox (w.alloc o) b v := World.rowIs.alloc h o
theorem SBox.set (h : SBox w b v) (x : Value) : SBox (w.setCell ⟨b, 0, none⟩ x) b x := World.rowIs.congr (World.rowIs.set h 0 x) fun i hi => by
  show (if i = 0 then _ else _) = _
  rw [if_pos (by omega)]
theorem sbox_new (w : World) {b : Nat} (hb : b = w.heap.size) (v : Value) : SBox (w.alloc (.cells #[v] 27)) b v := by
  subst hb
  refine ⟨#[v], ?_, rfl, fun i hi => ?_⟩
  · show (w.heap.push _)[w.heap.size]? = _; simp
  · obtain rfl : i = 0 := by omega
    rfl
theorem IBox.same {l : List Int} (h : IBox w b l) (e : w2.heap[b]? = w.heap[b]?) : IBox w2 b l := World.rowIs.of_block h e
end
end Ne
end Go.Proofs.Ytcelggfnfnaajaa
