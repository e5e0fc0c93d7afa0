/-
  Stage 10: the forests of trees as the laws hold them: alone (with rows that were handed out), with its steps. No condition. (Written by wip/tools/gen-Fle.py.)
-/
import Derived.Test.YtjhodnpmogkmmaaFpg
namespace Go.Proofs.Ytjhodnpmogkmmaa
open Go.ChangeShapes Go.WideShapes Go.ChangeAt Go.RowKit
set_option linter.unusedVariables false
set_option linter.unusedSimpArgs false
namespace Fo
open Sp (Off Ext)
/-- the program's forest, and rows that it handed out -/
def One (w : World) (B p : Nat) (f : Ft) (K : List (Value × List Nat)) : Prop :=
  ∃ F lo hi, B ≤ w.heap.size ∧ FoO w B F p f lo hi ∧ ∀ v l, (v, l) ∈ K → Ne.OwnI w B v (Ne.encW l) ∧ ∀ g, v.ownBlock = some g → ¬ F g
/-- with its steps -/
def Cnt (w : World) (B p : Nat) (f : Ft) (lo hi : Nat) : Prop := ∃ F, B ≤ w.heap.size ∧ FoO w B F p f lo hi
theorem ext_not {F : Nat → Prop} {w w2 : World} {g : Nat} (h : ¬ F g) (hg : g < w.heap.size) : ¬ Ext F w w2 g := fun c => by
  rcases c with c | c
  · exact h c
  · omega
section
variable {w w2 : World} {B p q lo hi : Nat} {F G : Nat → Prop} {f f2 : Ft} {K : List (Value × List Nat)}
theorem One.step (hB : B ≤ w.heap.size) (hf : ∀ g, F g → B ≤ g ∧ g < w.heap.size) (hK : ∀ v l, (v, l) ∈ K → Ne.OwnI w B v (Ne.encW l) ∧ ∀ g, v.ownBlock = some g → ¬ F g) {F2 : Nat → Prop} (h : FoO w2 B F2 p f lo hi) (hF2 : ∀ g, F2 g → Ext F w w2 g) (ho : Off F w w2) : One w2 B p f K ∧ Below B w w2 :=
  ⟨⟨F2, lo, hi, Nat.le_trans hB ho.size, h, fun v l hv => by
    obtain ⟨h1, h2⟩ := hK v l hv
    exact ⟨Ne.own_same h1 fun g hg => ho.block g (Rw.own_lt h1 g hg).2 (h2 g hg), fun g hg c => ext_not (h2 g hg) (Rw.own_lt h1 g hg).2 (hF2 g c)⟩⟩, ho.below (fun g hg => (hf g hg).1) hB⟩
theorem One.good (h : One w B p f K) : Good f := by obtain ⟨_, _, _, _, h, _⟩ := h; exact h.good
theorem Cnt.good (h : Cnt w B p f lo hi) : Good f := by obtain ⟨_, _, h⟩ := h; exact h.good
theorem One.kept (h : One w B p f K) (hb : Below w.heap.size w w2) : One w2 B p f K := by
  obtain ⟨F, lo, hi, h1, h2, h3⟩ := h
  exact ⟨F, lo, hi, Nat.le_trans h1 hb.size, h2.off (G := fun _ => False) (.of_below hb) fun _ _ c => c, fun v l hv => ⟨Rw.own_below (h3 v l hv).1 hb, (h3 v l hv).2⟩⟩
theorem Cnt.kept (h : Cnt w B p f lo hi) (hb : Below w.heap.size w w2) : Cnt w2 B p f lo hi := by
  obtain ⟨F, h1, h2⟩ := h
  exact ⟨F, Nat.le_trans h1 hb.size, h2.off (G := fun _ => False) (.of_below hb) (fun _ _ c => c)⟩
theorem One.less (h : One w B p f K) {K2 : List (Value × List Nat)} (hk : ∀ x ∈ K2, x ∈ K) : One w B p f K2 := by
  obtain ⟨F, lo, hi, h1, h2, h3⟩ := h
  exact ⟨F, lo, hi, h1, h2, fun v l hv => h3 v l (hk _ hv)⟩
theorem One.row (h : One w B p f K) {v : Value} {l : List Nat} (hv : (v, l) ∈ K) : Ne.OwnI w B v (Ne.encW l) := by obtain ⟨F, lo, hi, h1, h2, h3⟩ := h; exact (h3 v l hv).1
theorem One.size (h : One w B p f K) : B ≤ w.heap.size := by obtain ⟨_, _, _, h, _⟩ := h; exact h
theorem one_path (h : One w B p f K) (x : Int) :
    Calls Try.prog 16 #[.pointer (some ⟨p, 0, none⟩), .int .i64 x] w fun e w' => ∃ o c, e = .returned (.slice o (pathZ f x).length c) ∧ One w' B p f ((.slice o (pathZ f x).length c, pathZ f x) :: K) ∧ Below B w w' := by
  obtain ⟨F, lo, hi, hB, h1, hK⟩ := h
  refine (fpath_any h1 hB x).mono ?_
  rintro e w' ⟨o, c, F2, rfl, ho, h2, hF2, hne, hoff⟩
  obtain ⟨⟨F3, lo3, hi3, g1, g2, g3⟩, g4⟩ := One.step hB h1.fin hK h2 hF2 hoff
  refine ⟨o, c, rfl, ⟨F2, _, _, g1, h2, fun v l hv => ?_⟩, g4⟩
  rcases List.mem_cons.1 hv with e | e
  · cases e
    exact ⟨Rw.own_base ho hB, hne⟩
  · obtain ⟨k1, k2⟩ := hK v l e
    exact ⟨Ne.own_same k1 fun g hg => hoff.block g (Rw.own_lt k1 g hg).2 (k2 g hg), fun g hg c => ext_not (k2 g hg) (Rw.own_lt k1 g hg).2 (hF2 g c)⟩
theorem one_above (h : One w B p f K) (x : Int) : Calls Try.prog 20 #[.pointer (some ⟨p, 0, none⟩), .int .i64 x] w fun e w' => e = .returned (.int .i64 (aboveZ f x)) ∧ One w' B p f K ∧ Below B w w' := by
  obtain ⟨F, lo, hi, hB, h1, hK⟩ := h
  refine (fabove_any h1 hB x).mono ?_
  rintro e w' ⟨rfl, h2, ho⟩
  exact ⟨rfl, One.step hB h1.fin hK h2 (fun g hg => hg) ho⟩
theorem cnt_above (h : Cnt w B p f lo hi) (x : Int) : Calls Try.prog 20 #[.pointer (some ⟨p, 0, none⟩), .int .i64 x] w fun e w' => e = .returned (.int .i64 (aboveZ f x)) ∧ Cnt w' B p f (lo + ft f x) (hi + fc f.v.length) ∧ Below B w w' := by
  obtain ⟨F, hB, h1⟩ := h
  refine (fabove_any h1 hB x).mono ?_
  rintro e w' ⟨rfl, h3, ho⟩
  exact ⟨rfl, ⟨_, Nat.le_trans hB ho.size, h3⟩, ho.below (fun g hg => (h1.fin g hg).1) hB⟩
theorem one_root (h : One w B p f K) (x : Int) : Calls Try.prog 22 #[.pointer (some ⟨p, 0, none⟩), .int .i64 x] w fun e w' => e = .returned (.int .i64 (rootZ f x)) ∧ One w' B p f K ∧ Below B w w' := by
  obtain ⟨F, lo, hi, hB, h1, hK⟩ := h
  refine (froot_any h1 hB x).mono ?_
  rintro e w' ⟨rfl, h2, ho⟩
  exact ⟨rfl, One.step hB h1.fin hK h2 (fun g hg => hg) ho⟩
theorem cnt_root (h : Cnt w B p f lo hi) (x : Int) : Calls Try.prog 22 #[.pointer (some ⟨p, 0, none⟩), .int .i64 x] w fun e w' => e = .returned (.int .i64 (rootZ f x)) ∧ Cnt w' B p f (lo + ft f x) (hi + fc f.v.length) ∧ Below B w w' := by
  obtain ⟨F, hB, h1⟩ := h
  refine (froot_any h1 hB x).mono ?_
  rintro e w' ⟨rfl, h3, ho⟩
  exact ⟨rfl, ⟨_, Nat.le_trans hB ho.size, h3⟩, ho.below (fun g hg => (h1.fin g hg).1) hB⟩
theorem one_value (h : One w B p f K) (x : Int) : Calls Try.prog 18 #[.pointer (some ⟨p, 0, none⟩), .int .i64 x] w fun e w' => e = .returned (.int .i64 (valZ f x)) ∧ One w' B p f K ∧ Below B w w' := by
  obtain ⟨F, lo, hi, hB, h1, hK⟩ := h
  refine (fvalue_any h1 hB x).mono ?_
  rintro e w' ⟨rfl, h2, ho⟩
  exact ⟨rfl, One.step hB h1.fin hK h2 (fun g hg => hg) ho⟩
theorem cnt_value (h : Cnt w B p f lo hi) (x : Int) : Calls Try.prog 18 #[.pointer (some ⟨p, 0, none⟩), .int .i64 x] w fun e w' => e = .returned (.int .i64 (valZ f x)) ∧ Cnt w' B p f (lo + ft f x) (hi + fc f.v.length) ∧ Below B w w' := by
  obtain ⟨F, hB, h1⟩ := h
  refine (fvalue_any h1 hB x).mono ?_
  rintro e w' ⟨rfl, h3, ho⟩
  exact ⟨rfl, ⟨_, Nat.le_trans hB ho.size, h3⟩, ho.below (fun g hg => (h1.fin g hg).1) hB⟩
theorem one_least (h : One w B p f K) (x : Int) : Calls Try.prog 24 #[.pointer (some ⟨p, 0, none⟩), .int .i64 x] w fun e w' => e = .returned (.int .i64 (leastZ f x)) ∧ One w' B p f K ∧ Below B w w' := by
  obtain ⟨F, lo, hi, hB, h1, hK⟩ := h
  refine (fleast_any h1 hB x).mono ?_
  rintro e w' ⟨rfl, h2, ho⟩
  exact ⟨rfl, One.step hB h1.fin hK h2 (fun g hg => hg) ho⟩
theorem cnt_least (h : Cnt w B p f lo hi) (x : Int) : Calls Try.prog 24 #[.pointer (some ⟨p, 0, none⟩), .int .i64 x] w fun e w' => e = .returned (.int .i64 (leastZ f x)) ∧ Cnt w' B p f (lo + ft f x) (hi + fc f.v.length) ∧ Below B w w' := by
  obtain ⟨F, hB, h1⟩ := h
  refine (fleast_any h1 hB x).mono ?_
  rintro e w' ⟨rfl, h3, ho⟩
  exact ⟨rfl, ⟨_, Nat.le_trans hB ho.size, h3⟩, ho.below (fun g hg => (h1.fin g hg).1) hB⟩
theorem one_link (h : One w B p f K) (x z : Int) : Calls Try.prog 26 #[.pointer (some ⟨p, 0, none⟩), .int .i64 x, .int .i64 z] w fun e w' => e = .returned (.int .i64 (linkE f x z)) ∧ One w' B p (linkS f x z) K ∧ Below B w w' := by
  obtain ⟨F, lo, hi, hB, h1, hK⟩ := h
  refine (flink_any h1 hB x z).mono ?_
  rintro e w' ⟨rfl, h2, ho⟩
  exact ⟨rfl, One.step hB h1.fin hK h2 (fun g hg => hg) ho⟩
theorem cnt_link (h : Cnt w B p f lo hi) (x z : Int) : Calls Try.prog 26 #[.pointer (some ⟨p, 0, none⟩), .int .i64 x, .int .i64 z] w fun e w' => e = .returned (.int .i64 (linkE f x z)) ∧ Cnt w' B p (linkS f x z) (lo + ft f x * ft f z) (hi + fc f.v.length) ∧ Below B w w' := by
  obtain ⟨F, hB, h1⟩ := h
  refine (flink_any h1 hB x z).mono ?_
  rintro e w' ⟨rfl, h3, ho⟩
  exact ⟨rfl, ⟨_, Nat.le_trans hB ho.size, h3⟩, ho.below (fun g hg => (h1.fin g hg).1) hB⟩
theorem one_cut (h : One w B p f K) (x : Int) : Calls Try.prog 27 #[.pointer (some ⟨p, 0, none⟩), .int .i64 x] w fun e w' => e = .returned (.int .i64 (cutE f x)) ∧ One w' B p (cutS f x) K ∧ Below B w w' := by
  obtain ⟨F, lo, hi, hB, h1, hK⟩ := h
  refine (fcut_any h1 hB x).mono ?_
  rintro e w' ⟨rfl, h2, ho⟩
  exact ⟨rfl, One.step hB h1.fin hK h2 (fun g hg => hg) ho⟩
theorem cnt_cut (h : Cnt w B p f lo hi) (x : Int) : Calls Try.prog 27 #[.pointer (some ⟨p, 0, none⟩), .int .i64 x] w fun e w' => e = .returned (.int .i64 (cutE f x)) ∧ Cnt w' B p (cutS f x) (lo + ft f x) (hi + fc f.v.length) ∧ Below B w w' := by
  obtain ⟨F, hB, h1⟩ := h
  refine (fcut_any h1 hB x).mono ?_
  rintro e w' ⟨rfl, h3, ho⟩
  exact ⟨rfl, ⟨_, Nat.le_trans hB ho.size, h3⟩, ho.below (fun g hg => (h1.fin g hg).1) hB⟩
theorem one_evert (h : One w B p f K) (x : Int) : Calls Try.prog 28 #[.pointer (some ⟨p, 0, none⟩), .int .i64 x] w fun e w' => e = .returned (.int .i64 (evertE f x)) ∧ One w' B p (evertS f x) K ∧ Below B w w' := by
  obtain ⟨F, lo, hi, hB, h1, hK⟩ := h
  refine (fevert_any h1 hB x).mono ?_
  rintro e w' ⟨rfl, h2, ho⟩
  exact ⟨rfl, One.step hB h1.fin hK h2 (fun g hg => hg) ho⟩
theorem cnt_evert (h : Cnt w B p f lo hi) (x : Int) : Calls Try.prog 28 #[.pointer (some ⟨p, 0, none⟩), .int .i64 x] w fun e w' => e = .returned (.int .i64 (evertE f x)) ∧ Cnt w' B p (evertS f x) (lo + ft f x) (hi + fc f.v.length) ∧ Below B w w' := by
  obtain ⟨F, hB, h1⟩ := h
  refine (fevert_any h1 hB x).mono ?_
  rintro e w' ⟨rfl, h3, ho⟩
  exact ⟨rfl, ⟨_, Nat.le_trans hB ho.size, h3⟩, ho.below (fun g hg => (h1.fin g hg).1) hB⟩
theorem one_add (h : One w B p f K) (x z : Int) (hd64 : -9223372036854775808 ≤ z ∧ z ≤ 9223372036854775807) : Calls Try.prog 29 #[.pointer (some ⟨p, 0, none⟩), .int .i64 x, .int .i64 z] w fun e w' => e = .returned (.int .i64 (addE f x z)) ∧ One w' B p (addS f x z) K ∧ Below B w w' := by
  obtain ⟨F, lo, hi, hB, h1, hK⟩ := h
  refine (fadd_any h1 hB x z hd64).mono ?_
  rintro e w' ⟨rfl, h2, ho⟩
  exact ⟨rfl, One.step hB h1.fin hK h2 (fun g hg => hg) ho⟩
theorem cnt_add (h : Cnt w B p f lo hi) (x z : Int) (hd64 : -9223372036854775808 ≤ z ∧ z ≤ 9223372036854775807) : Calls Try.prog 29 #[.pointer (some ⟨p, 0, none⟩), .int .i64 x, .int .i64 z] w fun e w' => e = .returned (.int .i64 (addE f x z)) ∧ Cnt w' B p (addS f x z) (lo + ft f x) (hi + fc f.v.length) ∧ Below B w w' := by
  obtain ⟨F, hB, h1⟩ := h
  refine (fadd_any h1 hB x z hd64).mono ?_
  rintro e w' ⟨rfl, h3, ho⟩
  exact ⟨rfl, ⟨_, Nat.le_trans hB ho.size, h3⟩, ho.below (fun g hg => (h1.fin g hg).1) hB⟩
end
end Fo
end Go.Proofs.Ytjhodnpmogkmmaa
