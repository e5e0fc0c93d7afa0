/-
  Stage 15: what is left of a flow, as the developers hold it: its own block, the amounts, the arcs and each node's arcs from the first on that had an amount left. No condition.
-/
import Derived.Test.YtkeojkddbannpaaDcw
import Derived.Test.YtkeojkddbannpaaRbox
import Derived.Test.YtkeojkddbannpaaRof
import Derived.Test.YtkeojkddbannpaaOff
namespace Go.Proofs.Ytkeojkddbannpaa
open Go.ChangeShapes Go.WideShapes Go.ChangeAt Go.RowKit
set_option linter.unusedVariables false
set_option linter.unusedSimpArgs false
namespace Dc
open Go.Proofs.Ytkeojkddbannpaa.Ne
open Sp (Off)
/-- arcs from the first on that has an amount left -/
def las (g : List Int) (L : List Nat) : List Nat := L.dropWhile fun i => amt g i == 0
theorem las_cons0 {g : List Int} {a : Nat} {L : List Nat} (h : amt g a = 0) : las g (a :: L) = las g L := by
  unfold las; rw [List.dropWhile_cons]; simp [h]
theorem las_cons1 {g : List Int} {a : Nat} {L : List Nat} (h : amt g a ≠ 0) : las g (a :: L) = a :: L := by
  unfold las; rw [List.dropWhile_cons]; simp [h]
theorem las_nil (g : List Int) : las g [] = [] := rfl
theorem las_sub {g : List Int} {L : List Nat} {a : Nat} (h : a ∈ las g L) : a ∈ L := List.Sublist.mem h (List.dropWhile_sublist _)
/-- the arcs that begin at v (0: all) -/
def arcsV (l : List Arc) (v : Int) : List Nat := (List.range l.length).filter fun i => decide (v = 0 ∨ (arcAt l i).fr = v)
theorem arcsV_mem {l : List Arc} {v : Int} {a : Nat} : a ∈ arcsV l v ↔ a < l.length ∧ (v = 0 ∨ (arcAt l a).fr = v) := by
  unfold arcsV; rw [List.mem_filter, List.mem_range]; simp
/-- a row that left out what has no amount left -/
def Lag (g : List Int) (L0 L : List Nat) : Prop := ∃ D, L0 = D ++ L ∧ ∀ a ∈ D, amt g a = 0
theorem lag_start (g : List Int) (L : List Nat) : Lag g L L := ⟨[], rfl, fun a h => by simp at h⟩
theorem Lag.mem {g : List Int} {L0 L : List Nat} (h : Lag g L0 L) {a : Nat} (ha : a ∈ L) : a ∈ L0 := by
  obtain ⟨D, e, -⟩ := h; rw [e]; exact List.mem_append_right _ ha
theorem Lag.las {g : List Int} {L0 L : List Nat} (h : Lag g L0 L) : Lag g L0 (las g L) := by
  obtain ⟨D, e, h0⟩ := h
  refine ⟨D ++ L.takeWhile (fun i => amt g i == 0), ?_, fun a ha => ?_⟩
  · rw [e, List.append_assoc]; unfold Dc.las; rw [List.takeWhile_append_dropWhile]
  · rcases List.mem_append.1 ha with h1 | h1
    · exact h0 a h1
    · have := List.all_eq_true.1 (List.all_takeWhile (p := fun i => amt g i == 0) (l := L)) a h1; simpa using this
theorem Lag.fall {g g2 : List Int} {L0 L : List Nat} (h : Lag g L0 L) (h2 : ∀ a, amt g a = 0 → amt g2 a = 0) : Lag g2 L0 L := by
  obtain ⟨D, e, h0⟩ := h
  exact ⟨D, e, fun a ha => h2 a (h0 a ha)⟩
theorem find_las {g : List Int} : ∀ (L : List Nat), (∀ a ∈ L, 0 ≤ amt g a) → L.find? (fun i => decide (0 < amt g i)) = (las g L).head?
  | [], _ => rfl
  | a :: L, h => by
    have h1 := h a List.mem_cons_self
    by_cases c : amt g a = 0
    · rw [las_cons0 c, List.find?_cons]
      have e : decide (0 < amt g a) = false := by simp; omega
      rw [e]; exact find_las L fun b hb => h b (List.mem_cons_of_mem _ hb)
    · rw [las_cons1 c, List.find?_cons]
      have e : decide (0 < amt g a) = true := by simp; omega
      rw [e]; rfl
/-- the first arc is the head of what lasts -/
theorem lag_fst {l : List Arc} {g : List Int} (hw : wi l g) {v : Int} {L : List Nat} (h : Lag g (arcsV l v) L) : fstA l g v = (las g L).head? := by
  obtain ⟨D, e, h0⟩ := h
  have h1 : fstA l g v = (arcsV l v).find? (fun i => decide (0 < amt g i)) := by
    unfold fstA arcsV
    rw [List.find?_filter]
    congr 1; funext i
    by_cases c : 0 < amt g i
    · by_cases d : v = 0 ∨ (arcAt l i).fr = v
      · simp [c, d]
      · simp [c, d]
    · simp [c]
  have hnn : ∀ a ∈ arcsV l v, 0 ≤ amt g a := fun a ha => (hw a (arcsV_mem.1 ha).1).1
  rw [h1, e, List.find?_append]
  have hD : D.find? (fun i => decide (0 < amt g i)) = none := List.find?_eq_none.2 fun a ha => by simp [h0 a ha]
  rw [hD, Option.none_or]
  exact find_las L fun a ha => hnn a (by rw [e]; exact List.mem_append_right _ ha)
/-- the rest's own block -/
def RBlk (w : World) (b : Nat) (n s t : Int) (lv av : Value) (x : Int) (va uv : Value) : Prop := w.heap[b]? = some (.cells #[.int .i64 n, .int .i64 s, .int .i64 t, lv, av, .int .i64 x, va, uv] 75 (0, 0))
section
variable {w w2 : World} {b : Nat} {n s t x : Int} {lv av va uv : Value}
theorem rblk_cells (h : RBlk w b n s t lv av x va uv) : w.cell? ⟨b, 0, none⟩ = some (.int .i64 n) ∧ w.cell? ⟨b, 1, none⟩ = some (.int .i64 s) ∧ w.cell? ⟨b, 2, none⟩ = some (.int .i64 t) ∧ w.cell? ⟨b, 3, none⟩ = some lv ∧ w.cell? ⟨b, 4, none⟩ = some av ∧ w.cell? ⟨b, 5, none⟩ = some (.int .i64 x) ∧ w.cell? ⟨b, 6, none⟩ = some va ∧ w.cell? ⟨b, 7, none⟩ = some uv := by
  unfold RBlk at h
  simp [World.cell?, h]
theorem rblk_frozen (h : RBlk w b n s t lv av x va uv) (i : Nat) : w.frozen? ⟨b, i, none⟩ = false := by
  unfold RBlk at h
  simp [World.frozen?, h]
theorem rblk_lt (h : RBlk w b n s t lv av x va uv) : b < w.heap.size := Rw.lt_of_heap h
theorem rblk_same (h : RBlk w b n s t lv av x va uv) (e : w2.heap[b]? = w.heap[b]?) : RBlk w2 b n s t lv av x va uv := by unfold RBlk at *; rw [e]; exact h
theorem rblk_new (w : World) {b : Nat} (hb : b = w.heap.size) (n s t x : Int) (lv av va uv : Value) : RBlk (w.alloc (.cells #[.int .i64 n, .int .i64 s, .int .i64 t, lv, av, .int .i64 x, va, uv] 75)) b n s t lv av x va uv := by
  subst hb
  show (w.heap.push _)[w.heap.size]? = _
  simp
theorem rblk_val (h : RBlk w b n s t lv av x va uv) (y : Int) : RBlk (w.setCell ⟨b, 5, none⟩ (.int .i64 y)) b n s t lv av y va uv := by
  unfold RBlk at *
  simp only [World.setCell, Array.getElem?_modify, h, if_true, Option.map_some]
  rfl
theorem rblk_arcs (h : RBlk w b n s t lv av x va uv) (v : Value) : RBlk (w.setCell ⟨b, 6, none⟩ v) b n s t lv av x v uv := by
  unfold RBlk at *
  simp only [World.setCell, Array.getElem?_modify, h, if_true, Option.map_some]
  rfl
end
/-- all that the rest holds: w0 is a world in which the network's row lay, and below whose size nothing is written -/
structure RsM (n : Net) (ao : Option Addr) (cap : Nat) (w0 w : World) (rb lb lo hi : Nat) (av : Value) (g : List Int) (x : Int) (va : Value) (A : List Nat) (VS : Nat → Value) (U : Nat → List Nat) : Prop where
  row0 : ARow w0 ao n.l
  old : Below w0.heap.size w0 w
  blk : RBlk w rb n.n n.s n.t (.slice ao n.l.length cap) av x va (.slice (some ⟨lb, 0, none⟩) (n.n.toNat + 1) (n.n.toNat + 1))
  am : OwnL w w0.heap.size av g
  arcs : RowOf w lo hi va A
  rows : RBox w lb lo hi (n.n.toNat + 1) VS U
  low : w0.heap.size ≤ lb ∧ w0.heap.size ≤ rb
  ne : rb ≠ lb
  out : rb < lo ∨ hi ≤ rb
  sep : ∀ q, av.ownBlock = some q → q ≠ lb ∧ q ≠ rb ∧ (q < lo ∨ hi ≤ q)
/-- the blocks that the rest writes into -/
def RsF (rb lb : Nat) (av : Value) (q : Nat) : Prop := q = rb ∨ q = lb ∨ av.ownBlock = some q
section
variable {n : Net} {ao : Option Addr} {cap : Nat} {w0 w w2 : World} {rb lb lo hi : Nat} {av : Value} {g : List Int} {x : Int} {va : Value} {A : List Nat} {VS : Nat → Value} {U : Nat → List Nat}
theorem RsM.row (st : RsM n ao cap w0 w rb lb lo hi av g x va A VS U) : ARow w ao n.l := st.row0.kept st.old
theorem RsM.lt (st : RsM n ao cap w0 w rb lb lo hi av g x va A VS U) : rb < w.heap.size ∧ lb < w.heap.size := ⟨rblk_lt st.blk, st.rows.lt⟩
theorem RsM.kept (st : RsM n ao cap w0 w rb lb lo hi av g x va A VS U) (hb : Below w.heap.size w w2) : RsM n ao cap w0 w2 rb lb lo hi av g x va A VS U :=
  ⟨st.row0, st.old.trans (hb.mono st.old.size), rblk_same st.blk (hb.block _ st.lt.1), own_same st.am fun g hg => hb.block g (Rw.own_lt st.am g hg).2, st.arcs.keep fun b h1 h2 => hb.block b (Nat.lt_of_lt_of_le h2 st.rows.sz), st.rows.below hb, st.low, st.ne, st.out, st.sep⟩
theorem RsM.alloc (st : RsM n ao cap w0 w rb lb lo hi av g x va A VS U) (o : Obj) : RsM n ao cap w0 (w.alloc o) rb lb lo hi av g x va A VS U := st.kept ((Below.refl _ _).alloc (Nat.le_refl _) o)
theorem RsM.dn (st : RsM n ao cap w0 w rb lb lo hi av g x va A VS U) (q : Nat) : RsM n ao cap w0 (w.drewN q) rb lb lo hi av g x va A VS U := st.kept (Rw.below_drewN w q)
/-- a store into a block that the rest does not hold -/
theorem RsM.far (st : RsM n ao cap w0 w rb lb lo hi av g x va A VS U) {p : Addr} (h0 : w0.heap.size ≤ p.block) (h1 : p.block ≠ rb) (h2 : p.block ≠ lb) (h3 : p.block < lo ∨ hi ≤ p.block) (h4 : ∀ g, av.ownBlock = some g → g ≠ p.block) (v : Value) : RsM n ao cap w0 (w.setCell p v) rb lb lo hi av g x va A VS U :=
  ⟨st.row0, st.old.setCell h0 v, rblk_same st.blk (Below.heap_setCell _ _ _ _ (Ne.symm h1)), own_same st.am fun g hg => Below.heap_setCell _ _ _ _ (h4 g hg), st.arcs.keep fun b h5 h6 => Below.heap_setCell _ _ _ _ (by omega), st.rows.far h2 h3 v, st.low, st.ne, st.out, st.sep⟩
/-- another row grows -/
theorem RsM.grown (st : RsM n ao cap w0 w rb lb lo hi av g x va A VS U) {row : Option Nat} (hg : w.grownBy w2 row) (hr : ∀ g, row = some g → w0.heap.size ≤ g ∧ g ≠ rb ∧ g ≠ lb ∧ (g < lo ∨ hi ≤ g) ∧ av.ownBlock ≠ some g) : RsM n ao cap w0 w2 rb lb lo hi av g x va A VS U :=
  ⟨st.row0, st.old.grown hg st.old.size fun g e => (hr g e).1, rblk_same st.blk (hg.block _ st.lt.1 fun e => (hr _ e.symm).2.1 rfl), own_same st.am fun g hv => hg.block g (Rw.own_lt st.am g hv).2 fun e => (hr g e.symm).2.2.2.2 hv,
    st.arcs.keep fun b h1 h2 => hg.block b (Nat.lt_of_lt_of_le h2 st.rows.sz) fun e => by have := (hr b e.symm).2.2.2.1; omega, st.rows.grown hg fun g e => ⟨(hr g e).2.2.1, (hr g e).2.2.2.1⟩, st.low, st.ne, st.out, st.sep⟩
/-- a row grows that began behind all that the rest holds -/
theorem RsM.past (st : RsM n ao cap w0 w rb lb lo hi av g x va A VS U) {row : Option Nat} (hg : w.grownBy w2 row) {B : Nat} (h1 : hi ≤ B) (h2 : rb < B) (h3 : lb < B) (h4 : ∀ g, av.ownBlock = some g → g < B) (h5 : w0.heap.size ≤ B) (hr : ∀ g, row = some g → B ≤ g) : RsM n ao cap w0 w2 rb lb lo hi av g x va A VS U :=
  st.grown hg fun g e => by have := hr g e; exact ⟨by omega, by omega, by omega, by omega, fun e2 => by have := h4 g e2; omega⟩
/-- the arcs, the value, a node's arcs are turned -/
theorem RsM.seta (st : RsM n ao cap w0 w rb lb lo hi av g x va A VS U) {y : Value} {A' : List Nat} (hy : RowOf w lo hi y A') : RsM n ao cap w0 (w.setCell ⟨rb, 6, none⟩ y) rb lb lo hi av g x y A' VS U := by
  have hk : ∀ b, lo ≤ b → b < hi → (w.setCell ⟨rb, 6, none⟩ y).heap[b]? = w.heap[b]? := fun b h1 h2 => Below.heap_setCell _ _ _ _ (by have := st.out; show b ≠ rb; omega)
  exact ⟨st.row0, st.old.setCell (p := ⟨rb, 6, none⟩) st.low.2 y, rblk_arcs st.blk y, own_same st.am fun g hg => Below.heap_setCell _ _ _ _ (st.sep g hg).2.1, hy.keep hk, st.rows.far (p := ⟨rb, 6, none⟩) st.ne st.out y, st.low, st.ne, st.out, st.sep⟩
theorem RsM.setx (st : RsM n ao cap w0 w rb lb lo hi av g x va A VS U) (y : Int) : RsM n ao cap w0 (w.setCell ⟨rb, 5, none⟩ (.int .i64 y)) rb lb lo hi av g y va A VS U := by
  have hk : ∀ b, lo ≤ b → b < hi → (w.setCell ⟨rb, 5, none⟩ (.int .i64 y)).heap[b]? = w.heap[b]? := fun b h1 h2 => Below.heap_setCell _ _ _ _ (by have := st.out; show b ≠ rb; omega)
  exact ⟨st.row0, st.old.setCell (p := ⟨rb, 5, none⟩) st.low.2 _, rblk_val st.blk y, own_same st.am fun g hg => Below.heap_setCell _ _ _ _ (st.sep g hg).2.1, st.arcs.keep hk, st.rows.far (p := ⟨rb, 5, none⟩) st.ne st.out _, st.low, st.ne, st.out, st.sep⟩
theorem RsM.put (st : RsM n ao cap w0 w rb lb lo hi av g x va A VS U) {v : Nat} (hv : v < n.n.toNat + 1) {y : Value} {u : List Nat} (hy : RowOf w lo hi y u) :
    RsM n ao cap w0 (w.setCell ⟨lb, v, none⟩ y) rb lb lo hi av g x va A (fun j => if j = v then y else VS j) (fun j => if j = v then u else U j) := by
  have hk : ∀ b, lo ≤ b → b < hi → (w.setCell ⟨lb, v, none⟩ y).heap[b]? = w.heap[b]? := fun b h1 h2 => Below.heap_setCell _ _ _ _ (by have := st.rows.out; show b ≠ lb; omega)
  exact ⟨st.row0, st.old.setCell (p := ⟨lb, v, none⟩) st.low.1 y, rblk_same st.blk (Below.heap_setCell _ _ _ _ st.ne), own_same st.am fun g hg => Below.heap_setCell _ _ _ _ (st.sep g hg).1, st.arcs.keep hk, st.rows.put hv hy, st.low, st.ne, st.out, st.sep⟩
/-- an amount is less -/
theorem RsM.less (st : RsM n ao cap w0 w rb lb lo hi av g x va A VS U) {r : Nat} (hr : r < g.length) : ∃ q c, av = .slice (some ⟨q, 0, none⟩) g.length c ∧ q < w.heap.size ∧ w0.heap.size ≤ q ∧ w.cell? ⟨q, r, none⟩ = some (.int .i64 (amt g r)) ∧ w.frozen? ⟨q, r, none⟩ = false ∧
    ∀ y, RsM n ao cap w0 (w.setCell ⟨q, r, none⟩ (.int .i64 y)) rb lb lo hi av (g.set r y) x va A VS U := by
  obtain ⟨ao', c, hv, _, _, _, _, _, _⟩ := Rw.own_row encI_len st.am
  have hro := st.am
  rw [hv] at hro
  obtain ⟨q, rfl, hg1, hg2, hc, hf⟩ := own_cells encI_len hro (at_amt hr)
  have hsep := st.sep q (by rw [hv]; rfl)
  have c0 := hc 0 _ rfl
  rw [show r * 1 + 0 = r by omega] at c0
  refine ⟨q, c, hv, hg2, hg1, c0, hf r, fun y => ?_⟩
  have hk : ∀ b, lo ≤ b → b < hi → (w.setCell ⟨q, r, none⟩ (.int .i64 y)).heap[b]? = w.heap[b]? := fun b h1 h2 => Below.heap_setCell _ _ _ _ (by have := hsep.2.2; show b ≠ q; omega)
  refine ⟨st.row0, st.old.setCell (p := ⟨q, r, none⟩) hg1 _, rblk_same st.blk (Below.heap_setCell _ _ _ _ (Ne.symm hsep.2.1)), ?_, st.arcs.keep hk, st.rows.far (p := ⟨q, r, none⟩) hsep.1 hsep.2.2 _, st.low, st.ne, st.out, st.sep⟩
  have h := own_put encI_len hro (at_amt hr) (y := y) (j := 0) (by omega) (u := .int .i64 y) rfl
  rw [show r * 1 + 0 = r by omega] at h
  rw [hv]; exact h
theorem RsM.amount (st : RsM n ao cap w0 w rb lb lo hi av g x va A VS U) {r : Nat} (hr : r < g.length) : ∃ q c, av = .slice (some ⟨q, 0, none⟩) g.length c ∧ q < w.heap.size ∧ w.cell? ⟨q, r, none⟩ = some (.int .i64 (amt g r)) := by
  obtain ⟨q, c, h1, h2, _, h3, _⟩ := st.less hr
  exact ⟨q, c, h1, h2, h3⟩
end
end Dc
end Go.Proofs.Ytkeojkddbannpaa
