/-
  Stage 15: what newRest holds while it lays out the arcs: plain transitions in memory. No condition.
-/
import Derived.Test.YtkeojkddbannpaaRse
import Derived.Test.YtkeojkddbannpaaHbx
namespace Go.Proofs.Ytkeojkddbannpaa
open Go.ChangeShapes Go.WideShapes Go.ChangeAt Go.RowKit
set_option linter.unusedVariables false
set_option linter.unusedSimpArgs false
namespace Dc
open Go.Proofs.Ytkeojkddbannpaa.Ne
open Sp (Off)
/-- the arcs of the first k that begin at v -/
def outs (l : List Arc) (k v : Nat) : List Nat := (List.range k).filter fun j => decide ((arcAt l j).fr = (v : Int))
theorem outs_step (l : List Arc) (k v t : Nat) (ht : (arcAt l k).fr = (t : Int)) : (if v = t then outs l k t ++ [k] else outs l k v) = outs l (k + 1) v := by
  unfold outs
  rw [List.range_succ, List.filter_append]
  by_cases c : v = t
  · subst c; simp [ht]
  · have : ¬ ((t : Int) = (v : Int)) := by omega
    simp [ht, c, this]
theorem outs_all (l : List Arc) {v : Nat} (hv : 1 ≤ v) : outs l l.length v = arcsV l (v : Int) := by
  unfold outs arcsV
  refine List.filter_congr fun j _ => ?_
  have : ¬ ((v : Int) = 0) := by omega
  simp [this]
  omega
theorem arcs_all (l : List Arc) : List.range l.length = arcsV l 0 := by
  unfold arcsV
  exact (List.filter_eq_self.2 fun j _ => by simp).symm
theorem outs_len (l : List Arc) (k v : Nat) : (outs l k v).length ≤ k := by
  unfold outs
  exact Nat.le_trans (List.length_filter_le _ _) (by simp)
/-- while newRest lays out the arcs -/
structure NrJ (n : Net) (ao : Option Addr) (cap : Nat) (w0 : World) (g : List Int) (x : Int) (rb lb nb lo : Nat) (av : Value) (wr : World) (va : Value) (A : List Nat) (VS : Nat → Value) (U : Nat → List Nat) : Prop where
  row0 : ARow w0 ao n.l
  old : Below w0.heap.size w0 wr
  blk : RBlk wr rb n.n n.s n.t (.slice ao n.l.length cap) av x va (.slice (some ⟨lb, 0, none⟩) (n.n.toNat + 1) (n.n.toNat + 1))
  am : OwnL wr w0.heap.size av g
  arcs : OwnI wr lo va (encW A)
  rows : HBox wr lb lo (n.n.toNat + 1) VS U
  cr : ∀ v, v < n.n.toNat + 1 → ∀ q, (VS v).ownBlock = some q → va.ownBlock ≠ some q
  net : NetBox wr nb n.n n.s n.t (.slice ao n.l.length cap)
  low : w0.heap.size ≤ lb ∧ w0.heap.size ≤ rb ∧ w0.heap.size ≤ nb
  ups : lb < lo ∧ rb < lo ∧ nb < lo
  ne : rb ≠ lb ∧ nb ≠ rb ∧ nb ≠ lb
  avb : ∀ q, av.ownBlock = some q → q ≠ lb ∧ q ≠ rb ∧ q < lo
  sz : lo ≤ wr.heap.size
section
variable {n : Net} {ao : Option Addr} {cap : Nat} {w0 : World} {g : List Int} {x : Int} {rb lb nb lo : Nat} {av : Value} {wr w2 w3 : World} {va : Value} {A : List Nat} {VS : Nat → Value} {U U' : Nat → List Nat}
theorem NrJ.same (h : NrJ n ao cap w0 g x rb lb nb lo av wr va A VS U) {A' : List Nat} (hA : A = A') (hU : ∀ v, v < n.n.toNat + 1 → U v = U' v) : NrJ n ao cap w0 g x rb lb nb lo av wr va A' VS U' := by
  subst hA
  exact ⟨h.row0, h.old, h.blk, h.am, h.arcs, h.rows.same hU, h.cr, h.net, h.low, h.ups, h.ne, h.avb, h.sz⟩
theorem NrJ.below (h : NrJ n ao cap w0 g x rb lb nb lo av wr va A VS U) (hb : Below wr.heap.size wr w2) : NrJ n ao cap w0 g x rb lb nb lo av w2 va A VS U := by
  have h1 := h.ups; have h2 := h.sz
  exact ⟨h.row0, h.old.trans (hb.mono h.old.size), rblk_same h.blk (hb.block _ (by omega)), Rw.own_below h.am hb, Rw.own_below h.arcs hb, h.rows.below hb, h.cr, netBox_below h.net hb (netBox_lt h.net), h.low, h.ups, h.ne, h.avb, Nat.le_trans h2 hb.size⟩
theorem NrJ.arc (h : NrJ n ao cap w0 g x rb lb nb lo av wr va A VS U) {v' : Value} {A' : List Nat} (hg : wr.grownBy w3 va.ownBlock) (ho : OwnI w3 lo v' (encW A')) (hx : v'.ownBlock = va.ownBlock ∨ v'.ownBlock = some wr.heap.size) :
    NrJ n ao cap w0 g x rb lb nb lo av (w3.setCell ⟨rb, 6, none⟩ v') v' A' VS U := by
  have h1 := h.ups; have h2 := h.sz; have h3 := h.ne; have h4 := h.low
  have hv : ∀ q, va.ownBlock = some q → lo ≤ q := fun q hq => (Rw.own_lt h.arcs q hq).1
  have hk : ∀ q, q < wr.heap.size → q ≠ rb → va.ownBlock ≠ some q → (w3.setCell ⟨rb, 6, none⟩ v').heap[q]? = wr.heap[q]? := fun q h5 h6 h7 => (Below.heap_setCell _ _ _ _ (show q ≠ rb from h6)).trans (hg.block q h5 fun e => h7 e.symm)
  refine ⟨h.row0, (h.old.grown hg h.old.size fun q e => by have := hv q e; omega).setCell (p := ⟨rb, 6, none⟩) h4.2.1 _, ?_, own_same h.am fun q hq => hk q (Rw.own_lt h.am q hq).2 (h.avb q hq).2.1 (fun e => by have := hv q e; have := (h.avb q hq).2.2; omega), ?_, ?_, fun v hv2 q hq => ?_, ?_, h4, h1, h3, h.avb, ?_⟩
  · exact rblk_arcs (rblk_same h.blk (hg.block rb (by omega) fun e => by have := hv rb e.symm; omega)) v'
  · exact Rw.own_set ho (p := ⟨rb, 6, none⟩) (fun e => by have := (Rw.own_lt ho rb e).1; omega) _
  · exact (h.rows.grown hg (fun e => by have := hv lb e; omega) fun v hv2 q hq e => h.cr v hv2 q hq e).far (q := ⟨rb, 6, none⟩) (by show rb ≠ lb; omega) (by show rb < lo; omega) _
  · rcases hx with e | e
    · rw [e]; exact h.cr v hv2 q hq
    · rw [e]
      have := (Rw.own_lt (h.rows.own v hv2) q hq).2
      intro e2; simp at e2; omega
  · exact netBox_other (netBox_grown h.net hg (fun e => by have := hv nb e.symm; omega)) (by omega)
  · have := hg.size; simpa [World.setCell] using Nat.le_trans h2 this
theorem NrJ.out (h : NrJ n ao cap w0 g x rb lb nb lo av wr va A VS U) {v : Nat} (hv : v < n.n.toNat + 1) {y : Value} {u : List Nat} (hg : wr.grownBy w3 (VS v).ownBlock) (ho : OwnI w3 lo y (encW u)) (hx : y.ownBlock = (VS v).ownBlock ∨ y.ownBlock = some wr.heap.size) :
    NrJ n ao cap w0 g x rb lb nb lo av (w3.setCell ⟨lb, v, none⟩ y) va A (fun j => if j = v then y else VS j) (fun j => if j = v then u else U j) := by
  have h1 := h.ups; have h2 := h.sz; have h3 := h.ne; have h4 := h.low
  have hvb : ∀ q, (VS v).ownBlock = some q → lo ≤ q := fun q hq => (Rw.own_lt (h.rows.own v hv) q hq).1
  have hk : ∀ q, q < wr.heap.size → q ≠ lb → (VS v).ownBlock ≠ some q → (w3.setCell ⟨lb, v, none⟩ y).heap[q]? = wr.heap[q]? := fun q h5 h6 h7 => (Below.heap_setCell _ _ _ _ (show q ≠ lb from h6)).trans (hg.block q h5 fun e => h7 e.symm)
  refine ⟨h.row0, (h.old.grown hg h.old.size fun q e => by have := hvb q e; omega).setCell (p := ⟨lb, v, none⟩) h4.1 _, rblk_same h.blk (hk rb (by omega) h3.1 fun e => by have := hvb rb e; omega), own_same h.am fun q hq => hk q (Rw.own_lt h.am q hq).2 (h.avb q hq).1 (fun e => by have := hvb q e; have := (h.avb q hq).2.2; omega),
    own_same h.arcs fun q hq => hk q (Rw.own_lt h.arcs q hq).2 (fun e => by have := (Rw.own_lt h.arcs q hq).1; omega) (fun e => h.cr v hv q e hq), h.rows.put hv hg ho hx, fun j hj q hq => ?_, ?_, h4, h1, h3, h.avb, ?_⟩
  · by_cases e : j = v
    · subst e
      simp only [if_true] at hq
      rcases hx with hx | hx
      · rw [hx] at hq; exact h.cr j hj q hq
      · rw [hx] at hq
        intro e2
        have := (Rw.own_lt h.arcs q e2).2
        simp at hq; omega
    · simp only [if_neg e] at hq; exact h.cr j hj q hq
  · exact netBox_other (netBox_grown h.net hg (fun e => by have := hvb nb e.symm; omega)) (by omega)
  · have := hg.size; simpa [World.setCell] using Nat.le_trans h2 this
theorem NrJ.done (h : NrJ n ao cap w0 g x rb lb nb lo av wr va A VS U) : RsM n ao cap w0 wr rb lb lo wr.heap.size av g x va A VS U :=
  ⟨h.row0, h.old, h.blk, h.am, .of_own h.arcs, h.rows.rbox, ⟨h.low.1, h.low.2.1⟩, h.ne.1, .inl h.ups.2.1, fun q hq => ⟨(h.avb q hq).1, (h.avb q hq).2.1, .inl (h.avb q hq).2.2⟩⟩
theorem nr_start {n : Net} {ao : Option Addr} {cap : Nat} {w : World} {g : List Int} (x : Int) {wX : World} {lb : Nat} {av : Value} (hr : ARow w ao n.l) (hb : Below w.heap.size w wX) (hn : NetBox wX w.heap.size n.n n.s n.t (.slice ao n.l.length cap)) (ha : OwnL wX w.heap.size av g)
    (hrow : wX.rowIs lb 28 (n.n.toNat + 1) (fun _ => .slice none 0 0)) (hlb : w.heap.size < lb) (hav : ∀ q, av.ownBlock = some q → q ≠ lb) :
    NrJ n ao cap w g x wX.heap.size lb w.heap.size (wX.alloc (.cells #[.int .i64 n.n, .int .i64 n.s, .int .i64 n.t, .slice ao n.l.length cap, av, .int .i64 x, .slice none 0 0, .slice (some ⟨lb, 0, none⟩) (n.n.toNat + 1) (n.n.toNat + 1)] 75)).heap.size av (wX.alloc (.cells #[.int .i64 n.n, .int .i64 n.s, .int .i64 n.t, .slice ao n.l.length cap, av, .int .i64 x, .slice none 0 0, .slice (some ⟨lb, 0, none⟩) (n.n.toNat + 1) (n.n.toNat + 1)] 75)) (.slice none 0 0) [] (fun _ => .slice none 0 0) (fun _ => []) := by
  have h1 := netBox_lt hn
  have h2 := World.rowIs.lt hrow
  have hz : (wX.alloc (.cells #[.int .i64 n.n, .int .i64 n.s, .int .i64 n.t, .slice ao n.l.length cap, av, .int .i64 x, .slice none 0 0, .slice (some ⟨lb, 0, none⟩) (n.n.toNat + 1) (n.n.toNat + 1)] 75)).heap.size = wX.heap.size + 1 := by simp
  have hbo : Below wX.heap.size wX (wX.alloc (.cells #[.int .i64 n.n, .int .i64 n.s, .int .i64 n.t, .slice ao n.l.length cap, av, .int .i64 x, .slice none 0 0, .slice (some ⟨lb, 0, none⟩) (n.n.toNat + 1) (n.n.toNat + 1)] 75)) := (Below.refl _ _).alloc (Nat.le_refl _) _
  refine ⟨hr, hb.alloc hb.size _, rblk_new wX rfl n.n n.s n.t x (.slice ao n.l.length cap) av (.slice none 0 0) (.slice (some ⟨lb, 0, none⟩) (n.n.toNat + 1) (n.n.toNat + 1)), Rw.own_alloc ha _, Rw.own_nil _ _, hbox_new (World.rowIs.of_block hrow (hbo.block lb h2)) (by omega), fun v hv q h => by simp [Value.ownBlock] at h, netBox_alloc hn _, ⟨by omega, by omega, Nat.le_refl _⟩, ⟨by omega, by omega, by omega⟩, ⟨by omega, by omega, by omega⟩, fun q hq => ⟨hav q hq, ?_, ?_⟩, Nat.le_refl _⟩
  · have := (Rw.own_lt ha q hq).2; omega
  · have := (Rw.own_lt ha q hq).2; omega
end
end Dc
end Go.Proofs.Ytkeojkddbannpaa
