/-
  Stage 10: the program's forest of trees beside blocks that the law holds: each call keeps them. No condition. (Written by wip/tools/gen-Flk.py.)
-/
import Derived.Test.YtjhodnpmogkmmaaFls
namespace Go.Proofs.Ytjhodnpmogkmmaa
open Go.ChangeShapes Go.WideShapes Go.ChangeAt Go.RowKit
set_option linter.unusedVariables false
set_option linter.unusedSimpArgs false
namespace Fo
open Sp (Off Ext)
/-- the program's forest; the blocks of K lie apart from it -/
def Hd (w : World) (B p : Nat) (f : Ft) (K : List Nat) : Prop :=
  ∃ F lo hi, B ≤ w.heap.size ∧ FoO w B F p f lo hi ∧ ∀ g ∈ K, B ≤ g ∧ g < w.heap.size ∧ ¬ F g
/-- what lies below B, and what lies in K, stays -/
def Kp (K : List Nat) (B : Nat) (w w2 : World) : Prop := Off (fun g => B ≤ g ∧ g ∉ K) w w2
section
variable {w w2 w3 : World} {B p lo hi : Nat} {F : Nat → Prop} {f : Ft} {K K2 : List Nat}
theorem Kp.below (h : Kp K B w w2) (hB : B ≤ w.heap.size) : Below B w w2 := Off.below h (fun g hg => hg.1) hB
theorem Kp.same (h : Kp K B w w2) {g : Nat} (hg : g ∈ K) (hl : g < w.heap.size) : w2.heap[g]? = w.heap[g]? := h.block g hl fun c => c.2 hg
theorem Kp.cell (h : Kp K B w w2) {g i : Nat} (hg : g ∈ K) {v : Value} (hc : w.cell? ⟨g, i, none⟩ = some v) : w2.cell? ⟨g, i, none⟩ = some v :=
  (World.cell?_of_block (w := w) (h.same hg (World.block_lt_of_cell? w ⟨g, i, none⟩ hc))).trans hc
theorem Kp.own {e : TypeId} {k : Nat} {α : Type} {enc : α → List Value} {v : Value} {l : List α} (h : Kp K B w w2) (ho : Rw.Own e k enc w B v l) (hg : ∀ g, v.ownBlock = some g → g ∈ K) : Rw.Own e k enc w2 B v l :=
  Ne.own_same ho fun g e => h.same (hg g e) (Rw.own_lt ho g e).2
theorem Kp.ibox (h : Kp K B w w2) {g : Nat} {l : List Int} (hb : Ne.IBox w g l) (hg : g ∈ K) : Ne.IBox w2 g l := hb.same (h.same hg hb.lt)
theorem Hd.step (hB : B ≤ w.heap.size) (hf : ∀ g, F g → B ≤ g ∧ g < w.heap.size) (hK : ∀ g ∈ K, B ≤ g ∧ g < w.heap.size ∧ ¬ F g) {F2 : Nat → Prop} (h : FoO w2 B F2 p f lo hi) (hF2 : ∀ g, F2 g → Ext F w w2 g) (ho : Off F w w2) : Hd w2 B p f K ∧ Kp K B w w2 :=
  ⟨⟨F2, lo, hi, Nat.le_trans hB ho.size, h, fun g hg => ⟨(hK g hg).1, Nat.lt_of_lt_of_le (hK g hg).2.1 ho.size, fun c => ext_not (hK g hg).2.2 (hK g hg).2.1 (hF2 g c)⟩⟩,
    ho.mono fun g hg => ⟨(hf g hg).1, fun c => (hK g c).2.2 hg⟩⟩
theorem Hd.good (h : Hd w B p f K) : Good f := by obtain ⟨_, _, _, _, h, _⟩ := h; exact h.good
theorem Hd.size (h : Hd w B p f K) : B ≤ w.heap.size := by obtain ⟨_, _, _, h, _⟩ := h; exact h
theorem Hd.kept (h : Hd w B p f K) (hb : Below w.heap.size w w2) : Hd w2 B p f K := by
  obtain ⟨F, lo, hi, h1, h2, h3⟩ := h
  exact ⟨F, lo, hi, Nat.le_trans h1 hb.size, h2.off (G := fun _ => False) (.of_below hb) fun _ _ c => c, fun g hg => ⟨(h3 g hg).1, Nat.lt_of_lt_of_le (h3 g hg).2.1 hb.size, (h3 g hg).2.2⟩⟩
theorem Hd.less (h : Hd w B p f K) (hk : ∀ x ∈ K2, x ∈ K) : Hd w B p f K2 := by
  obtain ⟨F, lo, hi, h1, h2, h3⟩ := h
  exact ⟨F, lo, hi, h1, h2, fun g hg => h3 g (hk g hg)⟩
/-- a block made behind it -/
theorem Hd.alloc (h : Hd w B p f K) (o : Obj) : Hd (w.alloc o) B p f (w.heap.size :: K) := by
  obtain ⟨F, lo, hi, h1, h2, h3⟩ := h
  have hb : Below w.heap.size w (w.alloc o) := (Below.refl _ w).alloc (Nat.le_refl _) o
  have hz : (w.alloc o).heap.size = w.heap.size + 1 := by show (w.heap.push _).size = _; simp
  refine ⟨F, lo, hi, Nat.le_trans h1 hb.size, h2.off (G := fun _ => False) (.of_below hb) (fun _ _ c => c), fun g hg => ?_⟩
  rcases List.mem_cons.1 hg with e | e
  · subst e
    exact ⟨h1, by omega, fun c => by have := (h2.fin _ c).2; omega⟩
  · have := h3 g e
    exact ⟨this.1, by omega, this.2.2⟩
/-- a cell of such a block written -/
theorem Hd.set (h : Hd w B p f K) {g i : Nat} (hg : g ∈ K) (v : Value) : Hd (w.setCell ⟨g, i, none⟩ v) B p f K := by
  obtain ⟨F, lo, hi, h1, h2, h3⟩ := h
  have hz : (w.setCell ⟨g, i, none⟩ v).heap.size = w.heap.size := by simp [World.setCell]
  have ho : Off (fun x => x = g) w (w.setCell ⟨g, i, none⟩ v) := (Off.refl (fun x => x = g) w).set (p := ⟨g, i, none⟩) (.inl rfl) v
  exact ⟨F, lo, hi, by omega, h2.off ho (fun x hx c => (h3 g hg).2.2 (by rw [← c]; exact hx)), fun x hx => by rw [hz]; exact h3 x hx⟩
theorem hd_path (h : Hd w B p f K) {v : Nat} (hv : v < f.v.length) :
    Calls Try.prog 16 #[.pointer (some ⟨p, 0, none⟩), .int .i64 (v : Int)] w fun e w' => ∃ g c, e = .returned (.slice (some ⟨g, 0, none⟩) (path f v).length c) ∧ Ne.OwnI w' B (.slice (some ⟨g, 0, none⟩) (path f v).length c) (Ne.encW (path f v)) ∧ Hd w' B p f (g :: K) ∧ Kp K B w w' := by
  obtain ⟨F, lo, hi, hB, h1, hK⟩ := h
  have hne : path f v ≠ [] := fun e => by have := h1.good.path_self hv; rw [e] at this; simp at this
  refine (fpath_any h1 hB (v : Int)).mono ?_
  rw [pathZ_nat]
  rintro e w' ⟨o, c, F2, rfl, ho, h2, hF2, hn, hoff⟩
  obtain ⟨⟨F3, lo3, hi3, g1, g2, g3⟩, g4⟩ := Hd.step hB h1.fin hK h2 hF2 hoff
  obtain ⟨g, e, _⟩ := Ne.own_cells Ne.encI_len ho (Ne.at_amt (f := Ne.encW (path f v)) (i := 0) (by rw [Ne.encW_len]; exact List.length_pos_iff.2 hne))
  subst e
  have hlt := Rw.own_lt ho g rfl
  have hfin := h2.fin
  refine ⟨g, c, rfl, Rw.own_base ho hB, ⟨F2, _, _, g1, h2, fun x hx => ?_⟩, g4⟩
  rcases List.mem_cons.1 hx with e | e
  · subst e
    exact ⟨by omega, hlt.2, hn x rfl⟩
  · have := hK x e
    have hs := hoff.size
    exact ⟨this.1, by omega, fun c => ext_not this.2.2 this.2.1 (hF2 x c)⟩
/-- a row of numbers in a block of its own -/
theorem own_box {g : Nat} {l : List Int} (h : Ne.IBox w g l) (hB : B ≤ g) (hl : l.length ≤ 1000000) : Ne.OwnI w B (.slice (some ⟨g, 0, none⟩) l.length l.length) l := by
  have hf : l.flatMap Ne.encI = l.map (Value.int .i64) := by
    clear h hl
    induction l with
    | nil => rfl
    | cons a l ih => simp [Ne.encI, ih]
  refine ⟨by rw [hf]; simp, .inr ⟨g, l.length, (l.map (Value.int .i64)).toArray, rfl, hB, h.list, by simp, by unfold maxLen; omega, by simp, by rw [hf]; simp only [Nat.mul_one]; exact List.take_of_length_le (by simp)⟩⟩
theorem hd_new (ao : Option Addr) (cap : Nat) (vs : List Int) (w : World) (hr : Ne.IRow w ao vs) (hn : ao = none → cap = 0) (hne : Sp.newE vs = 0) :
    Calls Try.prog 11 #[.slice ao vs.length cap] w fun e w' => ∃ p, e = .returned (.tuple #[.pointer (some ⟨p, 0, none⟩), .int .i64 0]) ∧ Hd w' w.heap.size p (newS vs) [] ∧ Below w.heap.size w w' := by
  refine (fnew_any ao cap vs w hr hn).mono ?_
  rw [hne]
  rintro e w' ⟨hb, pv, rfl, _, h0⟩
  obtain ⟨p, rfl, h9⟩ := h0 rfl
  exact ⟨p, rfl, ⟨_, _, _, hb.size, h9, fun g hg => by simp at hg⟩, hb⟩
theorem hd_above (h : Hd w B p f K) (x : Int) : Calls Try.prog 20 #[.pointer (some ⟨p, 0, none⟩), .int .i64 x] w fun e w' => e = .returned (.int .i64 (aboveZ f x)) ∧ Hd w' B p f K ∧ Kp K B w w' := by
  obtain ⟨F, lo, hi, hB, h1, hK⟩ := h
  refine (fabove_any h1 hB x).mono ?_
  rintro e w' ⟨rfl, h2, ho⟩
  exact ⟨rfl, Hd.step hB h1.fin hK h2 (fun g hg => hg) ho⟩
theorem hd_root (h : Hd w B p f K) (x : Int) : Calls Try.prog 22 #[.pointer (some ⟨p, 0, none⟩), .int .i64 x] w fun e w' => e = .returned (.int .i64 (rootZ f x)) ∧ Hd w' B p f K ∧ Kp K B w w' := by
  obtain ⟨F, lo, hi, hB, h1, hK⟩ := h
  refine (froot_any h1 hB x).mono ?_
  rintro e w' ⟨rfl, h2, ho⟩
  exact ⟨rfl, Hd.step hB h1.fin hK h2 (fun g hg => hg) ho⟩
theorem hd_value (h : Hd w B p f K) (x : Int) : Calls Try.prog 18 #[.pointer (some ⟨p, 0, none⟩), .int .i64 x] w fun e w' => e = .returned (.int .i64 (valZ f x)) ∧ Hd w' B p f K ∧ Kp K B w w' := by
  obtain ⟨F, lo, hi, hB, h1, hK⟩ := h
  refine (fvalue_any h1 hB x).mono ?_
  rintro e w' ⟨rfl, h2, ho⟩
  exact ⟨rfl, Hd.step hB h1.fin hK h2 (fun g hg => hg) ho⟩
theorem hd_least (h : Hd w B p f K) (x : Int) : Calls Try.prog 24 #[.pointer (some ⟨p, 0, none⟩), .int .i64 x] w fun e w' => e = .returned (.int .i64 (leastZ f x)) ∧ Hd w' B p f K ∧ Kp K B w w' := by
  obtain ⟨F, lo, hi, hB, h1, hK⟩ := h
  refine (fleast_any h1 hB x).mono ?_
  rintro e w' ⟨rfl, h2, ho⟩
  exact ⟨rfl, Hd.step hB h1.fin hK h2 (fun g hg => hg) ho⟩
theorem hd_link (h : Hd w B p f K) (x z : Int) : Calls Try.prog 26 #[.pointer (some ⟨p, 0, none⟩), .int .i64 x, .int .i64 z] w fun e w' => e = .returned (.int .i64 (linkE f x z)) ∧ Hd w' B p (linkS f x z) K ∧ Kp K B w w' := by
  obtain ⟨F, lo, hi, hB, h1, hK⟩ := h
  refine (flink_any h1 hB x z).mono ?_
  rintro e w' ⟨rfl, h2, ho⟩
  exact ⟨rfl, Hd.step hB h1.fin hK h2 (fun g hg => hg) ho⟩
theorem hd_cut (h : Hd w B p f K) (x : Int) : Calls Try.prog 27 #[.pointer (some ⟨p, 0, none⟩), .int .i64 x] w fun e w' => e = .returned (.int .i64 (cutE f x)) ∧ Hd w' B p (cutS f x) K ∧ Kp K B w w' := by
  obtain ⟨F, lo, hi, hB, h1, hK⟩ := h
  refine (fcut_any h1 hB x).mono ?_
  rintro e w' ⟨rfl, h2, ho⟩
  exact ⟨rfl, Hd.step hB h1.fin hK h2 (fun g hg => hg) ho⟩
theorem hd_evert (h : Hd w B p f K) (x : Int) : Calls Try.prog 28 #[.pointer (some ⟨p, 0, none⟩), .int .i64 x] w fun e w' => e = .returned (.int .i64 (evertE f x)) ∧ Hd w' B p (evertS f x) K ∧ Kp K B w w' := by
  obtain ⟨F, lo, hi, hB, h1, hK⟩ := h
  refine (fevert_any h1 hB x).mono ?_
  rintro e w' ⟨rfl, h2, ho⟩
  exact ⟨rfl, Hd.step hB h1.fin hK h2 (fun g hg => hg) ho⟩
theorem hd_add (h : Hd w B p f K) (x z : Int) (hd64 : -9223372036854775808 ≤ z ∧ z ≤ 9223372036854775807) : Calls Try.prog 29 #[.pointer (some ⟨p, 0, none⟩), .int .i64 x, .int .i64 z] w fun e w' => e = .returned (.int .i64 (addE f x z)) ∧ Hd w' B p (addS f x z) K ∧ Kp K B w w' := by
  obtain ⟨F, lo, hi, hB, h1, hK⟩ := h
  refine (fadd_any h1 hB x z hd64).mono ?_
  rintro e w' ⟨rfl, h2, ho⟩
  exact ⟨rfl, Hd.step hB h1.fin hK h2 (fun g hg => hg) ho⟩
theorem new_zero (n : Nat) (h : n ≤ 3000) : Sp.newE (List.replicate n 0) = 0 := by
  unfold Sp.newE
  rw [if_neg (by simp; omega), if_pos]
  intro i hi
  simp only [Ne.amt, List.getD_eq_getElem?_getD]
  rw [List.getElem?_replicate]
  split <;> simp [Sp.big]
/-- a forest of so many nodes of no value -/
theorem hd_zero (n : Nat) (h : n ≤ 3000) (w : World) :
    Calls Try.prog 11 #[.slice (some ⟨w.heap.size, 0, none⟩) n n] (w.alloc (.cells (madeCells #[.int .i64 0] n) 2)) fun e w' => ∃ p, e = .returned (.tuple #[.pointer (some ⟨p, 0, none⟩), .int .i64 0]) ∧ Hd w' (w.heap.size + 1) p (newS (List.replicate n 0)) [] ∧ Below w.heap.size w w' := by
  have hz : (w.alloc (.cells (madeCells #[.int .i64 0] n) 2)).heap.size = w.heap.size + 1 := by show (w.heap.push _).size = _; simp
  have h0 := hd_new (some ⟨w.heap.size, 0, none⟩) n (List.replicate n 0) (w.alloc (.cells (madeCells #[.int .i64 0] n) 2)) (Ne.lbox_made w n rfl).irow (fun h => by cases h) (new_zero n h)
  rw [List.length_replicate, hz] at h0
  refine h0.mono ?_
  rintro e w' ⟨p, rfl, h1, hb⟩
  refine ⟨p, rfl, h1, ((Below.refl w.heap.size w).alloc (Nat.le_refl _) (.cells (madeCells #[.int .i64 0] n) 2)).trans (hb.mono (by omega))⟩
end
end Fo
end Go.Proofs.Ytjhodnpmogkmmaa
