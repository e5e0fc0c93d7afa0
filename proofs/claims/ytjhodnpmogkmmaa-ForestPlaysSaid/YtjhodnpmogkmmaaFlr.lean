/-
  Stage 10: the developers' forest of trees beside the document's, as the laws hold them. No condition. (Written by wip/tools/gen-Fle.py.)
-/
import Derived.Test.YtjhodnpmogkmmaaFle
import Derived.Test.YtjhodnpmogkmmaaFrr
import Derived.Test.YtjhodnpmogkmmaaFrn
namespace Go.Proofs.Ytjhodnpmogkmmaa
open Go.ChangeShapes Go.WideShapes Go.ChangeAt Go.RowKit
set_option linter.unusedVariables false
set_option linter.unusedSimpArgs false
namespace Fo
open Sp (Off Ext)
/-- beside the document's -/
def Pair (w : World) (B p q : Nat) (f f2 : Ft) : Prop :=
  ∃ F G lo hi, B ≤ w.heap.size ∧ FoO w B F p f lo hi ∧ QP w B G q f2 ∧ ∀ g, F g → ¬ G g
section
variable {w w2 : World} {B p q lo hi : Nat} {F G : Nat → Prop} {f f2 : Ft} {K : List (Value × List Nat)}
theorem Pair.left (hB : B ≤ w.heap.size) (hf : ∀ g, F g → B ≤ g ∧ g < w.heap.size) (hR : QP w B G q f2) (hd : ∀ g, F g → ¬ G g) {F2 : Nat → Prop} (h : FoO w2 B F2 p f lo hi) (hF2 : ∀ g, F2 g → Ext F w w2 g) (ho : Off F w w2) : Pair w2 B p q f f2 ∧ Below B w w2 :=
  ⟨⟨F2, G, lo, hi, Nat.le_trans hB ho.size, h, hR.off ho fun g hg c => hd g c hg, fun g hg c => ext_not (fun c2 => hd g c2 c) (hR.fin g c).2 (hF2 g hg)⟩, ho.below (fun g hg => (hf g hg).1) hB⟩
theorem Pair.right (hB : B ≤ w.heap.size) (hf : ∀ g, G g → B ≤ g ∧ g < w.heap.size) (hS : FoO w B F p f lo hi) (hd : ∀ g, F g → ¬ G g) (h : QP w2 B (Ext G w w2) q f2) (ho : Off G w w2) : Pair w2 B p q f f2 ∧ Below B w w2 :=
  ⟨⟨F, Ext G w w2, lo, hi, Nat.le_trans hB ho.size, hS.off ho hd, h, fun g hg => ext_not (hd g hg) (hS.fin g hg).2⟩, ho.below (fun g hg => (hf g hg).1) hB⟩
theorem pair_born {b : Nat} (h1 : FoO w B F p f lo hi) (hB : B ≤ w.heap.size) (hb : Below w.heap.size w w2) (h2 : QP w2 b G q f2) (hG : ∀ g, G g → w.heap.size ≤ g) (hb0 : B ≤ b) : Pair w2 B p q f f2 :=
  ⟨F, G, lo, hi, Nat.le_trans hB hb.size, h1.off (G := fun _ => False) (.of_below hb) (fun _ _ c => c), h2.base hb0, fun g hg c => by have := (h1.fin g hg).2; have := hG g c; omega⟩
theorem Pair.good (h : Pair w B p q f f2) : Good f ∧ Good f2 := by obtain ⟨_, _, _, _, _, h, h2, _⟩ := h; exact ⟨h.good, h2.good⟩
theorem Pair.kept (h : Pair w B p q f f2) (hb : Below w.heap.size w w2) : Pair w2 B p q f f2 := by
  obtain ⟨F, G, lo, hi, h1, h2, h3, h4⟩ := h
  exact ⟨F, G, lo, hi, Nat.le_trans h1 hb.size, h2.off (G := fun _ => False) (.of_below hb) (fun _ _ c => c), h3.kept hb, h4⟩
theorem Pair.size (h : Pair w B p q f f2) : B ≤ w.heap.size := by obtain ⟨_, _, _, _, h, _⟩ := h; exact h
theorem pair_path (h : Pair w B p q f f2) (x : Int) :
    Calls Try.prog 16 #[.pointer (some ⟨p, 0, none⟩), .int .i64 x] w fun e w' => ∃ o c, e = .returned (.slice o (pathZ f x).length c) ∧ Ne.IRow w' o (Ne.encW (pathZ f x)) ∧ Pair w' B p q f f2 ∧ Below B w w' := by
  obtain ⟨F, G, lo, hi, hB, h1, h2, hd⟩ := h
  refine (fpath_any h1 hB x).mono ?_
  rintro e w' ⟨o, c, F2, rfl, ho, h3, hF2, hne, hoff⟩
  exact ⟨o, c, rfl, Ne.own_irow ho, Pair.left hB h1.fin h2 hd h3 hF2 hoff⟩
theorem pair_rpath (h : Pair w B p q f f2) (x : Int) :
    Calls Try.prog 17 #[.pointer (some ⟨q, 0, none⟩), .int .i64 x] w fun e w' => ∃ o c, e = .returned (.slice o (pathZ f2 x).length c) ∧ Ne.IRow w' o (Ne.encW (pathZ f2 x)) ∧ Pair w' B p q f f2 ∧ Below w.heap.size w w' := by
  have hp := h
  obtain ⟨F, G, lo, hi, hB, h1, ⟨vv, uv, h2, _⟩, hd⟩ := h
  refine (qpath_any h2 x).mono ?_
  rintro e w' ⟨o, c, rfl, ho, hb⟩
  exact ⟨o, c, rfl, Ne.own_irow ho, hp.kept hb, hb⟩
theorem pair_vals (h : Pair w B p q f f2) : ∃ o c, w.cell? ⟨q, 0, none⟩ = some (.slice o f2.v.length c) := by
  obtain ⟨F, G, lo, hi, hB, h1, ⟨vv, uv, h2, h3⟩, hd⟩ := h
  obtain ⟨o, c, rfl⟩ := h2.vval
  exact ⟨o, c, (qblk_cells h2.blk).1⟩
theorem pair_above (h : Pair w B p q f f2) (x : Int) : Calls Try.prog 20 #[.pointer (some ⟨p, 0, none⟩), .int .i64 x] w fun e w' => e = .returned (.int .i64 (aboveZ f x)) ∧ Pair w' B p q f f2 ∧ Below B w w' := by
  obtain ⟨F, G, lo, hi, hB, h1, h2, hd⟩ := h
  refine (fabove_any h1 hB x).mono ?_
  rintro e w' ⟨rfl, h3, ho⟩
  exact ⟨rfl, Pair.left hB h1.fin h2 hd h3 (fun g hg => hg) ho⟩
theorem pair_rabove (h : Pair w B p q f f2) (x : Int) : Calls Try.prog 21 #[.pointer (some ⟨q, 0, none⟩), .int .i64 x] w fun e w' => e = .returned (.int .i64 (aboveZ f2 x)) ∧ Pair w' B p q f f2 ∧ Below B w w' := by
  have hp := h
  obtain ⟨F, G, lo, hi, hB, h1, ⟨vv, uv, h2, _⟩, hd⟩ := h
  refine (qabove_any h2 x).mono ?_
  rintro e w' ⟨rfl, rfl⟩
  exact ⟨rfl, hp, Below.refl _ _⟩
theorem pair_root (h : Pair w B p q f f2) (x : Int) : Calls Try.prog 22 #[.pointer (some ⟨p, 0, none⟩), .int .i64 x] w fun e w' => e = .returned (.int .i64 (rootZ f x)) ∧ Pair w' B p q f f2 ∧ Below B w w' := by
  obtain ⟨F, G, lo, hi, hB, h1, h2, hd⟩ := h
  refine (froot_any h1 hB x).mono ?_
  rintro e w' ⟨rfl, h3, ho⟩
  exact ⟨rfl, Pair.left hB h1.fin h2 hd h3 (fun g hg => hg) ho⟩
theorem pair_rroot (h : Pair w B p q f f2) (x : Int) : Calls Try.prog 23 #[.pointer (some ⟨q, 0, none⟩), .int .i64 x] w fun e w' => e = .returned (.int .i64 (rootZ f2 x)) ∧ Pair w' B p q f f2 ∧ Below B w w' := by
  have hp := h
  obtain ⟨F, G, lo, hi, hB, h1, ⟨vv, uv, h2, _⟩, hd⟩ := h
  refine (qroot_any h2 x).mono ?_
  rintro e w' ⟨rfl, hb⟩
  exact ⟨rfl, hp.kept hb, hb.mono hp.size⟩
theorem pair_value (h : Pair w B p q f f2) (x : Int) : Calls Try.prog 18 #[.pointer (some ⟨p, 0, none⟩), .int .i64 x] w fun e w' => e = .returned (.int .i64 (valZ f x)) ∧ Pair w' B p q f f2 ∧ Below B w w' := by
  obtain ⟨F, G, lo, hi, hB, h1, h2, hd⟩ := h
  refine (fvalue_any h1 hB x).mono ?_
  rintro e w' ⟨rfl, h3, ho⟩
  exact ⟨rfl, Pair.left hB h1.fin h2 hd h3 (fun g hg => hg) ho⟩
theorem pair_rvalue (h : Pair w B p q f f2) (x : Int) : Calls Try.prog 19 #[.pointer (some ⟨q, 0, none⟩), .int .i64 x] w fun e w' => e = .returned (.int .i64 (valZ f2 x)) ∧ Pair w' B p q f f2 ∧ Below B w w' := by
  have hp := h
  obtain ⟨F, G, lo, hi, hB, h1, ⟨vv, uv, h2, _⟩, hd⟩ := h
  refine (qvalue_any h2 x).mono ?_
  rintro e w' ⟨rfl, rfl⟩
  exact ⟨rfl, hp, Below.refl _ _⟩
theorem pair_least (h : Pair w B p q f f2) (x : Int) : Calls Try.prog 24 #[.pointer (some ⟨p, 0, none⟩), .int .i64 x] w fun e w' => e = .returned (.int .i64 (leastZ f x)) ∧ Pair w' B p q f f2 ∧ Below B w w' := by
  obtain ⟨F, G, lo, hi, hB, h1, h2, hd⟩ := h
  refine (fleast_any h1 hB x).mono ?_
  rintro e w' ⟨rfl, h3, ho⟩
  exact ⟨rfl, Pair.left hB h1.fin h2 hd h3 (fun g hg => hg) ho⟩
theorem pair_rleast (h : Pair w B p q f f2) (x : Int) : Calls Try.prog 25 #[.pointer (some ⟨q, 0, none⟩), .int .i64 x] w fun e w' => e = .returned (.int .i64 (leastZ f2 x)) ∧ Pair w' B p q f f2 ∧ Below B w w' := by
  have hp := h
  obtain ⟨F, G, lo, hi, hB, h1, ⟨vv, uv, h2, _⟩, hd⟩ := h
  refine (qleast_any h2 x).mono ?_
  rintro e w' ⟨rfl, hb⟩
  exact ⟨rfl, hp.kept hb, hb.mono hp.size⟩
theorem pair_link (h : Pair w B p q f f2) (x z : Int) : Calls Try.prog 26 #[.pointer (some ⟨p, 0, none⟩), .int .i64 x, .int .i64 z] w fun e w' => e = .returned (.int .i64 (linkE f x z)) ∧ Pair w' B p q (linkS f x z) f2 ∧ Below B w w' := by
  obtain ⟨F, G, lo, hi, hB, h1, h2, hd⟩ := h
  refine (flink_any h1 hB x z).mono ?_
  rintro e w' ⟨rfl, h3, ho⟩
  exact ⟨rfl, Pair.left hB h1.fin h2 hd h3 (fun g hg => hg) ho⟩
theorem pair_rlink (h : Pair w B p q f f2) (x z : Int) : Calls Try.prog 34 #[.pointer (some ⟨q, 0, none⟩), .int .i64 x, .int .i64 z] w fun e w' => e = .returned (.int .i64 (linkE f2 x z)) ∧ Pair w' B p q f (linkS f2 x z) ∧ Below B w w' := by
  obtain ⟨F, G, lo, hi, hB, h1, h2, hd⟩ := h
  refine (qlink_any h2 hB x z).mono ?_
  rintro e w' ⟨rfl, h3, ho⟩
  exact ⟨rfl, Pair.right hB h2.fin h1 hd h3 ho⟩
theorem pair_cut (h : Pair w B p q f f2) (x : Int) : Calls Try.prog 27 #[.pointer (some ⟨p, 0, none⟩), .int .i64 x] w fun e w' => e = .returned (.int .i64 (cutE f x)) ∧ Pair w' B p q (cutS f x) f2 ∧ Below B w w' := by
  obtain ⟨F, G, lo, hi, hB, h1, h2, hd⟩ := h
  refine (fcut_any h1 hB x).mono ?_
  rintro e w' ⟨rfl, h3, ho⟩
  exact ⟨rfl, Pair.left hB h1.fin h2 hd h3 (fun g hg => hg) ho⟩
theorem pair_rcut (h : Pair w B p q f f2) (x : Int) : Calls Try.prog 35 #[.pointer (some ⟨q, 0, none⟩), .int .i64 x] w fun e w' => e = .returned (.int .i64 (cutE f2 x)) ∧ Pair w' B p q f (cutS f2 x) ∧ Below B w w' := by
  obtain ⟨F, G, lo, hi, hB, h1, h2, hd⟩ := h
  refine (qcut_any h2 hB x).mono ?_
  rintro e w' ⟨rfl, h3, ho⟩
  exact ⟨rfl, Pair.right hB h2.fin h1 hd h3 ho⟩
theorem pair_evert (h : Pair w B p q f f2) (x : Int) : Calls Try.prog 28 #[.pointer (some ⟨p, 0, none⟩), .int .i64 x] w fun e w' => e = .returned (.int .i64 (evertE f x)) ∧ Pair w' B p q (evertS f x) f2 ∧ Below B w w' := by
  obtain ⟨F, G, lo, hi, hB, h1, h2, hd⟩ := h
  refine (fevert_any h1 hB x).mono ?_
  rintro e w' ⟨rfl, h3, ho⟩
  exact ⟨rfl, Pair.left hB h1.fin h2 hd h3 (fun g hg => hg) ho⟩
theorem pair_revert (h : Pair w B p q f f2) (x : Int) : Calls Try.prog 36 #[.pointer (some ⟨q, 0, none⟩), .int .i64 x] w fun e w' => e = .returned (.int .i64 (evertE f2 x)) ∧ Pair w' B p q f (evertS f2 x) ∧ Below B w w' := by
  obtain ⟨F, G, lo, hi, hB, h1, h2, hd⟩ := h
  refine (qevert_any h2 hB x).mono ?_
  rintro e w' ⟨rfl, h3, ho⟩
  exact ⟨rfl, Pair.right hB h2.fin h1 hd h3 ho⟩
theorem pair_add (h : Pair w B p q f f2) (x z : Int) (hd64 : -9223372036854775808 ≤ z ∧ z ≤ 9223372036854775807) : Calls Try.prog 29 #[.pointer (some ⟨p, 0, none⟩), .int .i64 x, .int .i64 z] w fun e w' => e = .returned (.int .i64 (addE f x z)) ∧ Pair w' B p q (addS f x z) f2 ∧ Below B w w' := by
  obtain ⟨F, G, lo, hi, hB, h1, h2, hd⟩ := h
  refine (fadd_any h1 hB x z hd64).mono ?_
  rintro e w' ⟨rfl, h3, ho⟩
  exact ⟨rfl, Pair.left hB h1.fin h2 hd h3 (fun g hg => hg) ho⟩
theorem pair_radd (h : Pair w B p q f f2) (x z : Int) (hd64 : -9223372036854775808 ≤ z ∧ z ≤ 9223372036854775807) : Calls Try.prog 37 #[.pointer (some ⟨q, 0, none⟩), .int .i64 x, .int .i64 z] w fun e w' => e = .returned (.int .i64 (addE f2 x z)) ∧ Pair w' B p q f (addS f2 x z) ∧ Below B w w' := by
  obtain ⟨F, G, lo, hi, hB, h1, h2, hd⟩ := h
  refine (qadd_any h2 hB x z hd64).mono ?_
  rintro e w' ⟨rfl, h3, ho⟩
  exact ⟨rfl, Pair.right hB h2.fin h1 hd h3 ho⟩
end
end Fo
end Go.Proofs.Ytjhodnpmogkmmaa
