/-
  Stage 9: the forests as the laws hold them: alone (with rows that were handed out), beside the document's, beside another one, with its steps. No condition. (Written by wip/tools/gen-Spe.py.)
-/
import Derived.Test.YtlkigpmjhojceaaSpd
namespace Go.Proofs.Ytlkigpmjhojceaa
open Go.ChangeShapes Go.WideShapes Go.ChangeAt Go.RowKit
set_option linter.unusedVariables false
set_option linter.unusedSimpArgs false
namespace Sp
/-- the program's forest, and rows that it handed out -/
def One (w : World) (B p : Nat) (s : St) (K : List (Value × List Nat)) : Prop :=
  ∃ F lo hi, B ≤ w.heap.size ∧ SpO w B F p s lo hi ∧ ∀ v l, (v, l) ∈ K → Ne.OwnI w B v (Ne.encW l) ∧ ∀ g, v.ownBlock = some g → ¬ F g
/-- beside the document's -/
def Pair (w : World) (B p q : Nat) (s1 s2 : St) (m : Nat) : Prop :=
  ∃ F G lo hi, B ≤ w.heap.size ∧ SpO w B F p s1 lo hi ∧ RefP w B G q s2 m ∧ ∀ g, F g → ¬ G g
/-- beside another one -/
def Both (w : World) (B p q : Nat) (s1 s2 : St) (K : List (Value × List Nat)) : Prop :=
  ∃ F G lo hi lo' hi', B ≤ w.heap.size ∧ SpO w B F p s1 lo hi ∧ SpO w B G q s2 lo' hi' ∧ (∀ g, F g → ¬ G g) ∧ ∀ v l, (v, l) ∈ K → Ne.OwnI w B v (Ne.encW l) ∧ ∀ g, v.ownBlock = some g → ¬ F g ∧ ¬ G g
/-- with its steps -/
def Cnt (w : World) (B p : Nat) (s : St) (lo hi : Nat) : Prop := ∃ F, B ≤ w.heap.size ∧ SpO w B F p s lo hi
section
variable {w w2 : World} {B p q m lo hi lo2 hi2 : Nat} {F G : Nat → Prop} {s s1 s2 s3 : St} {K : List (Value × List Nat)}
theorem ext_not {g : Nat} (h : ¬ F g) (hg : g < w.heap.size) : ¬ Ext F w w2 g := fun c => by
  rcases c with c | c
  · exact h c
  · omega
theorem One.step (hB : B ≤ w.heap.size) (hf : ∀ g, F g → B ≤ g ∧ g < w.heap.size) (hK : ∀ v l, (v, l) ∈ K → Ne.OwnI w B v (Ne.encW l) ∧ ∀ g, v.ownBlock = some g → ¬ F g) {F2 : Nat → Prop} (h : SpO w2 B F2 p s2 lo hi) (hF2 : ∀ g, F2 g → Ext F w w2 g) (ho : Off F w w2) : One w2 B p s2 K ∧ Below B w w2 :=
  ⟨⟨F2, lo, hi, Nat.le_trans hB ho.size, h, fun v l hv => by
    obtain ⟨h1, h2⟩ := hK v l hv
    exact ⟨Ne.own_same h1 fun g hg => ho.block g (Rw.own_lt h1 g hg).2 (h2 g hg), fun g hg c => ext_not (h2 g hg) (Rw.own_lt h1 g hg).2 (hF2 g c)⟩⟩, ho.below (fun g hg => (hf g hg).1) hB⟩
theorem Pair.left (hB : B ≤ w.heap.size) (hf : ∀ g, F g → B ≤ g ∧ g < w.heap.size) (hR : RefP w B G q s2 m) (hd : ∀ g, F g → ¬ G g) {F2 : Nat → Prop} (h : SpO w2 B F2 p s1 lo hi) (hF2 : ∀ g, F2 g → Ext F w w2 g) (ho : Off F w w2) : Pair w2 B p q s1 s2 m ∧ Below B w w2 :=
  ⟨⟨F2, G, lo, hi, Nat.le_trans hB ho.size, h, hR.off ho fun g hg c => hd g c hg, fun g hg c => ext_not (fun c2 => hd g c2 c) (hR.fin g c).2 (hF2 g hg)⟩, ho.below (fun g hg => (hf g hg).1) hB⟩
theorem Pair.right (hB : B ≤ w.heap.size) (hf : ∀ g, G g → B ≤ g ∧ g < w.heap.size) (hS : SpO w B F p s1 lo hi) (hd : ∀ g, F g → ¬ G g) (h : RefP w2 B (Ext G w w2) q s2 m) (ho : Off G w w2) : Pair w2 B p q s1 s2 m ∧ Below B w w2 :=
  ⟨⟨F, Ext G w w2, lo, hi, Nat.le_trans hB ho.size, hS.off ho hd, h, fun g hg => ext_not (hd g hg) (hS.fin g hg).2⟩, ho.below (fun g hg => (hf g hg).1) hB⟩
theorem Both.left (hB : B ≤ w.heap.size) (hf : ∀ g, F g → B ≤ g ∧ g < w.heap.size) (hR : SpO w B G q s2 lo2 hi2) (hd : ∀ g, F g → ¬ G g) (hK : ∀ v l, (v, l) ∈ K → Ne.OwnI w B v (Ne.encW l) ∧ ∀ g, v.ownBlock = some g → ¬ F g ∧ ¬ G g) {F2 : Nat → Prop} (h : SpO w2 B F2 p s1 lo hi) (hF2 : ∀ g, F2 g → Ext F w w2 g) (ho : Off F w w2) : Both w2 B p q s1 s2 K ∧ Below B w w2 :=
  ⟨⟨F2, G, lo, hi, lo2, hi2, Nat.le_trans hB ho.size, h, hR.off ho (fun g hg c => hd g c hg), fun g hg c => ext_not (fun c2 => hd g c2 c) (hR.fin g c).2 (hF2 g hg), fun v l hv => by
    obtain ⟨h1, h2⟩ := hK v l hv
    exact ⟨Ne.own_same h1 fun g hg => ho.block g (Rw.own_lt h1 g hg).2 (h2 g hg).1, fun g hg => ⟨fun c => ext_not (h2 g hg).1 (Rw.own_lt h1 g hg).2 (hF2 g c), (h2 g hg).2⟩⟩⟩, ho.below (fun g hg => (hf g hg).1) hB⟩
theorem Both.swap (h : Both w B p q s1 s2 K) : Both w B q p s2 s1 K := by
  obtain ⟨F, G, lo, hi, lo2, hi2, h1, h2, h3, h4, h5⟩ := h
  exact ⟨G, F, lo2, hi2, lo, hi, h1, h3, h2, fun g hg c => h4 g c hg, fun v l hv => ⟨(h5 v l hv).1, fun g hg => ((h5 v l hv).2 g hg).symm⟩⟩
theorem Both.less (h : Both w B p q s1 s2 K) {K2 : List (Value × List Nat)} (hk : ∀ x ∈ K2, x ∈ K) : Both w B p q s1 s2 K2 := by
  obtain ⟨F, G, lo, hi, lo2, hi2, h1, h2, h3, h4, h5⟩ := h
  exact ⟨F, G, lo, hi, lo2, hi2, h1, h2, h3, h4, fun v l hv => h5 v l (hk _ hv)⟩
theorem Both.row (h : Both w B p q s1 s2 K) {v : Value} {l : List Nat} (hv : (v, l) ∈ K) : Ne.OwnI w B v (Ne.encW l) := by obtain ⟨_, _, _, _, _, _, _, _, _, _, h⟩ := h; exact (h v l hv).1
theorem RefP.base (h : RefP w B F p s m) {B' : Nat} (hB : B' ≤ B) : RefP w B' F p s m := by
  obtain ⟨vv, rv, Ks, RS, h1, h2, h3, h4⟩ := h
  exact ⟨vv, rv, Ks, RS, ⟨⟨h1.blk, Nat.le_trans hB h1.low, Rw.own_base h1.vals hB, Rw.own_base h1.rows hB, h1.len, fun i k l hi hl => Rw.own_base (h1.each i k l hi hl) hB⟩, h1.rep⟩, h2, h3, fun g hg => ⟨Nat.le_trans hB (h4 g hg).1, (h4 g hg).2⟩⟩
theorem both_born {b : Nat} (h1 : SpO w B F p s1 lo hi) (hB : B ≤ w.heap.size) (hb : Below w.heap.size w w2) (h2 : SpO w2 b G q s2 lo2 hi2) (hG : ∀ g, G g → w.heap.size ≤ g) (hb0 : B ≤ b) : Both w2 B p q s1 s2 [] :=
  ⟨F, G, lo, hi, lo2, hi2, Nat.le_trans hB hb.size, h1.off (G := fun _ => False) (.of_below hb) (fun _ _ c => c), h2.base hb0, fun g hg c => by have := (h1.fin g hg).2; have := hG g c; omega, fun v l hv => by simp at hv⟩
theorem pair_born {b : Nat} (h1 : SpO w B F p s1 lo hi) (hB : B ≤ w.heap.size) (hb : Below w.heap.size w w2) (h2 : RefP w2 b G q s2 m) (hG : ∀ g, G g → w.heap.size ≤ g) (hb0 : B ≤ b) : Pair w2 B p q s1 s2 m :=
  ⟨F, G, lo, hi, Nat.le_trans hB hb.size, h1.off (G := fun _ => False) (.of_below hb) (fun _ _ c => c), h2.base hb0, fun g hg c => by have := (h1.fin g hg).2; have := hG g c; omega⟩
theorem One.good (h : One w B p s K) : Good s := by obtain ⟨_, _, _, _, h, _⟩ := h; exact h.good
theorem Pair.good (h : Pair w B p q s1 s2 m) : Good s1 ∧ Good s2 := by obtain ⟨_, _, _, _, _, h, h2, _⟩ := h; exact ⟨h.good, h2.good⟩
theorem Both.good (h : Both w B p q s1 s2 K) : Good s1 ∧ Good s2 := by obtain ⟨_, _, _, _, _, _, _, h, h2, _⟩ := h; exact ⟨h.good, h2.good⟩
theorem Cnt.good (h : Cnt w B p s lo hi) : Good s := by obtain ⟨_, _, h⟩ := h; exact h.good
theorem One.kept (h : One w B p s K) (hb : Below w.heap.size w w2) : One w2 B p s K := by
  obtain ⟨F, lo, hi, h1, h2, h3⟩ := h
  exact ⟨F, lo, hi, Nat.le_trans h1 hb.size, h2.off (G := fun _ => False) (.of_below hb) fun _ _ c => c, fun v l hv => ⟨Rw.own_below (h3 v l hv).1 hb, (h3 v l hv).2⟩⟩
theorem Pair.kept (h : Pair w B p q s1 s2 m) (hb : Below w.heap.size w w2) : Pair w2 B p q s1 s2 m := by
  obtain ⟨F, G, lo, hi, h1, h2, h3, h4⟩ := h
  exact ⟨F, G, lo, hi, Nat.le_trans h1 hb.size, h2.off (G := fun _ => False) (.of_below hb) (fun _ _ c => c), h3.kept hb, h4⟩
theorem Both.kept (h : Both w B p q s1 s2 K) (hb : Below w.heap.size w w2) : Both w2 B p q s1 s2 K := by
  obtain ⟨F, G, lo, hi, lo2, hi2, h1, h2, h3, h4, h5⟩ := h
  exact ⟨F, G, lo, hi, lo2, hi2, Nat.le_trans h1 hb.size, h2.off (G := fun _ => False) (.of_below hb) (fun _ _ c => c), h3.off (G := fun _ => False) (.of_below hb) (fun _ _ c => c), h4, fun v l hv => ⟨Rw.own_below (h5 v l hv).1 hb, (h5 v l hv).2⟩⟩
theorem Cnt.kept (h : Cnt w B p s lo hi) (hb : Below w.heap.size w w2) : Cnt w2 B p s lo hi := by
  obtain ⟨F, h1, h2⟩ := h
  exact ⟨F, Nat.le_trans h1 hb.size, h2.off (G := fun _ => False) (.of_below hb) (fun _ _ c => c)⟩
theorem One.less (h : One w B p s K) {K2 : List (Value × List Nat)} (hk : ∀ x ∈ K2, x ∈ K) : One w B p s K2 := by
  obtain ⟨F, lo, hi, h1, h2, h3⟩ := h
  exact ⟨F, lo, hi, h1, h2, fun v l hv => h3 v l (hk _ hv)⟩
theorem One.row (h : One w B p s K) {v : Value} {l : List Nat} (hv : (v, l) ∈ K) : Ne.OwnI w B v (Ne.encW l) := by obtain ⟨F, lo, hi, h1, h2, h3⟩ := h; exact (h3 v l hv).1
theorem One.size (h : One w B p s K) : B ≤ w.heap.size := by obtain ⟨_, _, _, h, _⟩ := h; exact h
theorem Pair.size (h : Pair w B p q s1 s2 m) : B ≤ w.heap.size := by obtain ⟨_, _, _, _, h, _⟩ := h; exact h
theorem Both.size (h : Both w B p q s1 s2 K) : B ≤ w.heap.size := by obtain ⟨_, _, _, _, _, _, h, _⟩ := h; exact h
theorem Pair.grow (h : Pair w B p q s1 s2 m) {m2 : Nat} (hm : m ≤ m2) : Pair w B p q s1 s2 m2 := by
  obtain ⟨F, G, lo, hi, h1, h2, h3, h4⟩ := h
  exact ⟨F, G, lo, hi, h1, h2, h3.grow hm, h4⟩
theorem one_row (h : One w B p s K) (x : Int) :
    Calls Try.prog 16 #[.pointer (some ⟨p, 0, none⟩), .int .i64 x] w fun e w' => ∃ o c, e = .returned (.slice o (rowZ s x).length c) ∧ One w' B p s ((.slice o (rowZ s x).length c, rowZ s x) :: K) ∧ Below B w w' := by
  obtain ⟨F, lo, hi, hB, h1, hK⟩ := h
  refine (drow_any h1 hB x).mono ?_
  rintro e w' ⟨o, c, F2, rfl, ho, h2, hF2, hne, hoff⟩
  obtain ⟨⟨F3, lo3, hi3, g1, g2, g3⟩, g4⟩ := One.step hB h1.fin hK h2 hF2 hoff
  refine ⟨o, c, rfl, ⟨F2, lo, hi, g1, h2, fun v l hv => ?_⟩, g4⟩
  rcases List.mem_cons.1 hv with e | e
  · cases e
    exact ⟨Rw.own_base ho hB, hne⟩
  · obtain ⟨k1, k2⟩ := hK v l e
    exact ⟨Ne.own_same k1 fun g hg => hoff.block g (Rw.own_lt k1 g hg).2 (k2 g hg), fun g hg c => ext_not (k2 g hg) (Rw.own_lt k1 g hg).2 (hF2 g c)⟩
theorem pair_row (h : Pair w B p q s1 s2 m) (x : Int) :
    Calls Try.prog 16 #[.pointer (some ⟨p, 0, none⟩), .int .i64 x] w fun e w' => ∃ o c, e = .returned (.slice o (rowZ s1 x).length c) ∧ Ne.IRow w' o (Ne.encW (rowZ s1 x)) ∧ Pair w' B p q s1 s2 m ∧ Below B w w' := by
  obtain ⟨F, G, lo, hi, hB, h1, h2, hd⟩ := h
  refine (drow_any h1 hB x).mono ?_
  rintro e w' ⟨o, c, F2, rfl, ho, h3, hF2, hne, hoff⟩
  exact ⟨o, c, rfl, Ne.own_irow ho, Pair.left hB h1.fin h2 hd h3 hF2 hoff⟩
theorem both_row (h : Both w B p q s1 s2 K) (x : Int) :
    Calls Try.prog 16 #[.pointer (some ⟨p, 0, none⟩), .int .i64 x] w fun e w' => ∃ o c, e = .returned (.slice o (rowZ s1 x).length c) ∧ Both w' B p q s1 s2 ((.slice o (rowZ s1 x).length c, rowZ s1 x) :: K) ∧ Below B w w' := by
  obtain ⟨F, G, lo, hi, lo2, hi2, hB, h1, h2, hd, hK⟩ := h
  refine (drow_any h1 hB x).mono ?_
  rintro e w' ⟨o, c, F2, rfl, ho, h3, hF2, hne, hoff⟩
  obtain ⟨⟨F3, G3, a1, a2, a3, a4, g1, g2, g3, g4, g5⟩, g6⟩ := Both.left hB h1.fin h2 hd hK h3 hF2 hoff
  refine ⟨o, c, rfl, ⟨F2, G, lo, hi, lo2, hi2, g1, h3, h2.off hoff (fun g hg c => hd g c hg), fun g hg c => ext_not (fun c2 => hd g c2 c) (h2.fin g c).2 (hF2 g hg), fun v l hv => ?_⟩, g6⟩
  rcases List.mem_cons.1 hv with e | e
  · cases e
    exact ⟨Rw.own_base ho hB, fun g hg => ⟨hne g hg, fun c => by have := (h2.fin g c).2; have := (Rw.own_lt ho g hg).1; omega⟩⟩
  · obtain ⟨k1, k2⟩ := hK v l e
    exact ⟨Ne.own_same k1 fun g hg => hoff.block g (Rw.own_lt k1 g hg).2 (k2 g hg).1, fun g hg => ⟨fun c => ext_not (k2 g hg).1 (Rw.own_lt k1 g hg).2 (hF2 g c), (k2 g hg).2⟩⟩
theorem pair_rrow (h : Pair w B p q s1 s2 m) (hm : m ≤ 900000) (x : Int) :
    Calls Try.prog 17 #[.pointer (some ⟨q, 0, none⟩), .int .i64 x] w fun e w' => ∃ o c, e = .returned (.slice o (rowZ s2 x).length c) ∧ Ne.IRow w o (Ne.encW (rowZ s2 x)) ∧ w = w' := by
  obtain ⟨F, G, lo, hi, hB, h1, ⟨vv, rv, Ks, RS, h2, h3, _⟩, hd⟩ := h
  exact rrow_any h2 (by omega) x
theorem one_first (h : One w B p s K) (x : Int) : Calls Try.prog 24 #[.pointer (some ⟨p, 0, none⟩), .int .i64 x] w fun e w' => e = .returned (.int .i64 (firstZ s x)) ∧ One w' B p s K ∧ Below B w w' := by
  obtain ⟨F, lo, hi, hB, h1, hK⟩ := h
  refine (dfirst_any h1 hB x).mono ?_
  rintro e w' ⟨rfl, h2, ho⟩
  exact ⟨rfl, One.step hB h1.fin hK h2 (fun g hg => hg) ho⟩
theorem pair_first (h : Pair w B p q s1 s2 m) (x : Int) : Calls Try.prog 24 #[.pointer (some ⟨p, 0, none⟩), .int .i64 x] w fun e w' => e = .returned (.int .i64 (firstZ s1 x)) ∧ Pair w' B p q s1 s2 m ∧ Below B w w' := by
  obtain ⟨F, G, lo, hi, hB, h1, h2, hd⟩ := h
  refine (dfirst_any h1 hB x).mono ?_
  rintro e w' ⟨rfl, h3, ho⟩
  exact ⟨rfl, Pair.left hB h1.fin h2 hd h3 (fun g hg => hg) ho⟩
theorem both_first (h : Both w B p q s1 s2 K) (x : Int) : Calls Try.prog 24 #[.pointer (some ⟨p, 0, none⟩), .int .i64 x] w fun e w' => e = .returned (.int .i64 (firstZ s1 x)) ∧ Both w' B p q s1 s2 K ∧ Below B w w' := by
  obtain ⟨F, G, lo, hi, lo2, hi2, hB, h1, h2, hd, hK⟩ := h
  refine (dfirst_any h1 hB x).mono ?_
  rintro e w' ⟨rfl, h3, ho⟩
  exact ⟨rfl, Both.left hB h1.fin h2 hd hK h3 (fun g hg => hg) ho⟩
theorem cnt_first (h : Cnt w B p s lo hi) (x : Int) : Calls Try.prog 24 #[.pointer (some ⟨p, 0, none⟩), .int .i64 x] w fun e w' => e = .returned (.int .i64 (firstZ s x)) ∧ Cnt w' B p s (lo + it s x) (hi + cst s.v.length) ∧ Below B w w' := by
  obtain ⟨F, hB, h1⟩ := h
  refine (dfirst_any h1 hB x).mono ?_
  rintro e w' ⟨rfl, h3, ho⟩
  exact ⟨rfl, ⟨_, Nat.le_trans hB ho.size, h3⟩, ho.below (fun g hg => (h1.fin g hg).1) hB⟩
theorem pair_rfirst (h : Pair w B p q s1 s2 m) (hm : m ≤ 900000) (x : Int) : Calls Try.prog 25 #[.pointer (some ⟨q, 0, none⟩), .int .i64 x] w fun e w' => e = .returned (.int .i64 (firstZ s2 x)) ∧ w = w' := by
  obtain ⟨F, G, lo, hi, hB, h1, ⟨vv, rv, Ks, RS, h2, h3, _⟩, hd⟩ := h
  exact rfirst_any h2 (by omega) x
theorem one_last (h : One w B p s K) (x : Int) : Calls Try.prog 26 #[.pointer (some ⟨p, 0, none⟩), .int .i64 x] w fun e w' => e = .returned (.int .i64 (lastZ s x)) ∧ One w' B p s K ∧ Below B w w' := by
  obtain ⟨F, lo, hi, hB, h1, hK⟩ := h
  refine (dlast_any h1 hB x).mono ?_
  rintro e w' ⟨rfl, h2, ho⟩
  exact ⟨rfl, One.step hB h1.fin hK h2 (fun g hg => hg) ho⟩
theorem pair_last (h : Pair w B p q s1 s2 m) (x : Int) : Calls Try.prog 26 #[.pointer (some ⟨p, 0, none⟩), .int .i64 x] w fun e w' => e = .returned (.int .i64 (lastZ s1 x)) ∧ Pair w' B p q s1 s2 m ∧ Below B w w' := by
  obtain ⟨F, G, lo, hi, hB, h1, h2, hd⟩ := h
  refine (dlast_any h1 hB x).mono ?_
  rintro e w' ⟨rfl, h3, ho⟩
  exact ⟨rfl, Pair.left hB h1.fin h2 hd h3 (fun g hg => hg) ho⟩
theorem both_last (h : Both w B p q s1 s2 K) (x : Int) : Calls Try.prog 26 #[.pointer (some ⟨p, 0, none⟩), .int .i64 x] w fun e w' => e = .returned (.int .i64 (lastZ s1 x)) ∧ Both w' B p q s1 s2 K ∧ Below B w w' := by
  obtain ⟨F, G, lo, hi, lo2, hi2, hB, h1, h2, hd, hK⟩ := h
  refine (dlast_any h1 hB x).mono ?_
  rintro e w' ⟨rfl, h3, ho⟩
  exact ⟨rfl, Both.left hB h1.fin h2 hd hK h3 (fun g hg => hg) ho⟩
theorem cnt_last (h : Cnt w B p s lo hi) (x : Int) : Calls Try.prog 26 #[.pointer (some ⟨p, 0, none⟩), .int .i64 x] w fun e w' => e = .returned (.int .i64 (lastZ s x)) ∧ Cnt w' B p s (lo + it s x) (hi + cst s.v.length) ∧ Below B w w' := by
  obtain ⟨F, hB, h1⟩ := h
  refine (dlast_any h1 hB x).mono ?_
  rintro e w' ⟨rfl, h3, ho⟩
  exact ⟨rfl, ⟨_, Nat.le_trans hB ho.size, h3⟩, ho.below (fun g hg => (h1.fin g hg).1) hB⟩
theorem pair_rlast (h : Pair w B p q s1 s2 m) (hm : m ≤ 900000) (x : Int) : Calls Try.prog 27 #[.pointer (some ⟨q, 0, none⟩), .int .i64 x] w fun e w' => e = .returned (.int .i64 (lastZ s2 x)) ∧ w = w' := by
  obtain ⟨F, G, lo, hi, hB, h1, ⟨vv, rv, Ks, RS, h2, h3, _⟩, hd⟩ := h
  exact rlast_any h2 (by omega) x
theorem one_place (h : One w B p s K) (x : Int) : Calls Try.prog 20 #[.pointer (some ⟨p, 0, none⟩), .int .i64 x] w fun e w' => e = .returned (.int .i64 (placeZ s x)) ∧ One w' B p s K ∧ Below B w w' := by
  obtain ⟨F, lo, hi, hB, h1, hK⟩ := h
  refine (dplace_any h1 hB x).mono ?_
  rintro e w' ⟨rfl, h2, ho⟩
  exact ⟨rfl, One.step hB h1.fin hK h2 (fun g hg => hg) ho⟩
theorem pair_place (h : Pair w B p q s1 s2 m) (x : Int) : Calls Try.prog 20 #[.pointer (some ⟨p, 0, none⟩), .int .i64 x] w fun e w' => e = .returned (.int .i64 (placeZ s1 x)) ∧ Pair w' B p q s1 s2 m ∧ Below B w w' := by
  obtain ⟨F, G, lo, hi, hB, h1, h2, hd⟩ := h
  refine (dplace_any h1 hB x).mono ?_
  rintro e w' ⟨rfl, h3, ho⟩
  exact ⟨rfl, Pair.left hB h1.fin h2 hd h3 (fun g hg => hg) ho⟩
theorem both_place (h : Both w B p q s1 s2 K) (x : Int) : Calls Try.prog 20 #[.pointer (some ⟨p, 0, none⟩), .int .i64 x] w fun e w' => e = .returned (.int .i64 (placeZ s1 x)) ∧ Both w' B p q s1 s2 K ∧ Below B w w' := by
  obtain ⟨F, G, lo, hi, lo2, hi2, hB, h1, h2, hd, hK⟩ := h
  refine (dplace_any h1 hB x).mono ?_
  rintro e w' ⟨rfl, h3, ho⟩
  exact ⟨rfl, Both.left hB h1.fin h2 hd hK h3 (fun g hg => hg) ho⟩
theorem cnt_place (h : Cnt w B p s lo hi) (x : Int) : Calls Try.prog 20 #[.pointer (some ⟨p, 0, none⟩), .int .i64 x] w fun e w' => e = .returned (.int .i64 (placeZ s x)) ∧ Cnt w' B p s (lo + it s x) (hi + cst s.v.length) ∧ Below B w w' := by
  obtain ⟨F, hB, h1⟩ := h
  refine (dplace_any h1 hB x).mono ?_
  rintro e w' ⟨rfl, h3, ho⟩
  exact ⟨rfl, ⟨_, Nat.le_trans hB ho.size, h3⟩, ho.below (fun g hg => (h1.fin g hg).1) hB⟩
theorem pair_rplace (h : Pair w B p q s1 s2 m) (hm : m ≤ 900000) (x : Int) : Calls Try.prog 21 #[.pointer (some ⟨q, 0, none⟩), .int .i64 x] w fun e w' => e = .returned (.int .i64 (placeZ s2 x)) ∧ w = w' := by
  obtain ⟨F, G, lo, hi, hB, h1, ⟨vv, rv, Ks, RS, h2, h3, _⟩, hd⟩ := h
  exact rplace_any h2 (by omega) x
theorem one_value (h : One w B p s K) (x : Int) : Calls Try.prog 18 #[.pointer (some ⟨p, 0, none⟩), .int .i64 x] w fun e w' => e = .returned (.int .i64 (valZ s x)) ∧ One w' B p s K ∧ Below B w w' := by
  obtain ⟨F, lo, hi, hB, h1, hK⟩ := h
  refine (dvalue_any h1 hB x).mono ?_
  rintro e w' ⟨rfl, h2, ho⟩
  exact ⟨rfl, One.step hB h1.fin hK h2 (fun g hg => hg) ho⟩
theorem pair_value (h : Pair w B p q s1 s2 m) (x : Int) : Calls Try.prog 18 #[.pointer (some ⟨p, 0, none⟩), .int .i64 x] w fun e w' => e = .returned (.int .i64 (valZ s1 x)) ∧ Pair w' B p q s1 s2 m ∧ Below B w w' := by
  obtain ⟨F, G, lo, hi, hB, h1, h2, hd⟩ := h
  refine (dvalue_any h1 hB x).mono ?_
  rintro e w' ⟨rfl, h3, ho⟩
  exact ⟨rfl, Pair.left hB h1.fin h2 hd h3 (fun g hg => hg) ho⟩
theorem both_value (h : Both w B p q s1 s2 K) (x : Int) : Calls Try.prog 18 #[.pointer (some ⟨p, 0, none⟩), .int .i64 x] w fun e w' => e = .returned (.int .i64 (valZ s1 x)) ∧ Both w' B p q s1 s2 K ∧ Below B w w' := by
  obtain ⟨F, G, lo, hi, lo2, hi2, hB, h1, h2, hd, hK⟩ := h
  refine (dvalue_any h1 hB x).mono ?_
  rintro e w' ⟨rfl, h3, ho⟩
  exact ⟨rfl, Both.left hB h1.fin h2 hd hK h3 (fun g hg => hg) ho⟩
theorem cnt_value (h : Cnt w B p s lo hi) (x : Int) : Calls Try.prog 18 #[.pointer (some ⟨p, 0, none⟩), .int .i64 x] w fun e w' => e = .returned (.int .i64 (valZ s x)) ∧ Cnt w' B p s (lo + it s x) (hi + cst s.v.length) ∧ Below B w w' := by
  obtain ⟨F, hB, h1⟩ := h
  refine (dvalue_any h1 hB x).mono ?_
  rintro e w' ⟨rfl, h3, ho⟩
  exact ⟨rfl, ⟨_, Nat.le_trans hB ho.size, h3⟩, ho.below (fun g hg => (h1.fin g hg).1) hB⟩
theorem pair_rvalue (h : Pair w B p q s1 s2 m) (hm : m ≤ 900000) (x : Int) : Calls Try.prog 19 #[.pointer (some ⟨q, 0, none⟩), .int .i64 x] w fun e w' => e = .returned (.int .i64 (valZ s2 x)) ∧ w = w' := by
  obtain ⟨F, G, lo, hi, hB, h1, ⟨vv, rv, Ks, RS, h2, h3, _⟩, hd⟩ := h
  exact rvalue_any h2 x
theorem one_least (h : One w B p s K) (x : Int) : Calls Try.prog 22 #[.pointer (some ⟨p, 0, none⟩), .int .i64 x] w fun e w' => e = .returned (.int .i64 (leastZ s x)) ∧ One w' B p s K ∧ Below B w w' := by
  obtain ⟨F, lo, hi, hB, h1, hK⟩ := h
  refine (dleast_any h1 hB x).mono ?_
  rintro e w' ⟨rfl, h2, ho⟩
  exact ⟨rfl, One.step hB h1.fin hK h2 (fun g hg => hg) ho⟩
theorem pair_least (h : Pair w B p q s1 s2 m) (x : Int) : Calls Try.prog 22 #[.pointer (some ⟨p, 0, none⟩), .int .i64 x] w fun e w' => e = .returned (.int .i64 (leastZ s1 x)) ∧ Pair w' B p q s1 s2 m ∧ Below B w w' := by
  obtain ⟨F, G, lo, hi, hB, h1, h2, hd⟩ := h
  refine (dleast_any h1 hB x).mono ?_
  rintro e w' ⟨rfl, h3, ho⟩
  exact ⟨rfl, Pair.left hB h1.fin h2 hd h3 (fun g hg => hg) ho⟩
theorem both_least (h : Both w B p q s1 s2 K) (x : Int) : Calls Try.prog 22 #[.pointer (some ⟨p, 0, none⟩), .int .i64 x] w fun e w' => e = .returned (.int .i64 (leastZ s1 x)) ∧ Both w' B p q s1 s2 K ∧ Below B w w' := by
  obtain ⟨F, G, lo, hi, lo2, hi2, hB, h1, h2, hd, hK⟩ := h
  refine (dleast_any h1 hB x).mono ?_
  rintro e w' ⟨rfl, h3, ho⟩
  exact ⟨rfl, Both.left hB h1.fin h2 hd hK h3 (fun g hg => hg) ho⟩
theorem cnt_least (h : Cnt w B p s lo hi) (x : Int) : Calls Try.prog 22 #[.pointer (some ⟨p, 0, none⟩), .int .i64 x] w fun e w' => e = .returned (.int .i64 (leastZ s x)) ∧ Cnt w' B p s (lo + it s x) (hi + cst s.v.length) ∧ Below B w w' := by
  obtain ⟨F, hB, h1⟩ := h
  refine (dleast_any h1 hB x).mono ?_
  rintro e w' ⟨rfl, h3, ho⟩
  exact ⟨rfl, ⟨_, Nat.le_trans hB ho.size, h3⟩, ho.below (fun g hg => (h1.fin g hg).1) hB⟩
theorem pair_rleast (h : Pair w B p q s1 s2 m) (hm : m ≤ 900000) (x : Int) : Calls Try.prog 23 #[.pointer (some ⟨q, 0, none⟩), .int .i64 x] w fun e w' => e = .returned (.int .i64 (leastZ s2 x)) ∧ Pair w' B p q s1 s2 m ∧ Below B w w' := by
  have hp := h
  obtain ⟨F, G, lo, hi, hB, h1, ⟨vv, rv, Ks, RS, h2, h3, _⟩, hd⟩ := h
  refine (rleast_any h2 (by omega) x).mono ?_
  rintro e w' ⟨rfl, hb⟩
  exact ⟨rfl, hp.kept hb, hb.mono hp.size⟩
theorem one_at (h : One w B p s K) (x z : Int) : Calls Try.prog 28 #[.pointer (some ⟨p, 0, none⟩), .int .i64 x, .int .i64 z] w fun e w' => e = .returned (.int .i64 (atZ s x z)) ∧ One w' B p s K ∧ Below B w w' := by
  obtain ⟨F, lo, hi, hB, h1, hK⟩ := h
  refine (dat_any h1 hB x z).mono ?_
  rintro e w' ⟨rfl, h2, ho⟩
  exact ⟨rfl, One.step hB h1.fin hK h2 (fun g hg => hg) ho⟩
theorem pair_at (h : Pair w B p q s1 s2 m) (x z : Int) : Calls Try.prog 28 #[.pointer (some ⟨p, 0, none⟩), .int .i64 x, .int .i64 z] w fun e w' => e = .returned (.int .i64 (atZ s1 x z)) ∧ Pair w' B p q s1 s2 m ∧ Below B w w' := by
  obtain ⟨F, G, lo, hi, hB, h1, h2, hd⟩ := h
  refine (dat_any h1 hB x z).mono ?_
  rintro e w' ⟨rfl, h3, ho⟩
  exact ⟨rfl, Pair.left hB h1.fin h2 hd h3 (fun g hg => hg) ho⟩
theorem both_at (h : Both w B p q s1 s2 K) (x z : Int) : Calls Try.prog 28 #[.pointer (some ⟨p, 0, none⟩), .int .i64 x, .int .i64 z] w fun e w' => e = .returned (.int .i64 (atZ s1 x z)) ∧ Both w' B p q s1 s2 K ∧ Below B w w' := by
  obtain ⟨F, G, lo, hi, lo2, hi2, hB, h1, h2, hd, hK⟩ := h
  refine (dat_any h1 hB x z).mono ?_
  rintro e w' ⟨rfl, h3, ho⟩
  exact ⟨rfl, Both.left hB h1.fin h2 hd hK h3 (fun g hg => hg) ho⟩
theorem cnt_at (h : Cnt w B p s lo hi) (x z : Int) : Calls Try.prog 28 #[.pointer (some ⟨p, 0, none⟩), .int .i64 x, .int .i64 z] w fun e w' => e = .returned (.int .i64 (atZ s x z)) ∧ Cnt w' B p s (lo + it s x) (hi + cst s.v.length) ∧ Below B w w' := by
  obtain ⟨F, hB, h1⟩ := h
  refine (dat_any h1 hB x z).mono ?_
  rintro e w' ⟨rfl, h3, ho⟩
  exact ⟨rfl, ⟨_, Nat.le_trans hB ho.size, h3⟩, ho.below (fun g hg => (h1.fin g hg).1) hB⟩
theorem pair_rat (h : Pair w B p q s1 s2 m) (hm : m ≤ 900000) (x z : Int) : Calls Try.prog 29 #[.pointer (some ⟨q, 0, none⟩), .int .i64 x, .int .i64 z] w fun e w' => e = .returned (.int .i64 (atZ s2 x z)) ∧ w = w' := by
  obtain ⟨F, G, lo, hi, hB, h1, ⟨vv, rv, Ks, RS, h2, h3, _⟩, hd⟩ := h
  exact rAt_any h2 (by omega) x z
theorem one_join (h : One w B p s K) (x z : Int) : Calls Try.prog 30 #[.pointer (some ⟨p, 0, none⟩), .int .i64 x, .int .i64 z] w fun e w' => e = .returned (.int .i64 (joinE s x z)) ∧ One w' B p (joinS s x z) K ∧ Below B w w' := by
  obtain ⟨F, lo, hi, hB, h1, hK⟩ := h
  refine (djoin_any h1 hB x z).mono ?_
  rintro e w' ⟨rfl, h2, ho⟩
  exact ⟨rfl, One.step hB h1.fin hK h2 (fun g hg => hg) ho⟩
theorem pair_join (h : Pair w B p q s1 s2 m) (x z : Int) : Calls Try.prog 30 #[.pointer (some ⟨p, 0, none⟩), .int .i64 x, .int .i64 z] w fun e w' => e = .returned (.int .i64 (joinE s1 x z)) ∧ Pair w' B p q (joinS s1 x z) s2 m ∧ Below B w w' := by
  obtain ⟨F, G, lo, hi, hB, h1, h2, hd⟩ := h
  refine (djoin_any h1 hB x z).mono ?_
  rintro e w' ⟨rfl, h3, ho⟩
  exact ⟨rfl, Pair.left hB h1.fin h2 hd h3 (fun g hg => hg) ho⟩
theorem both_join (h : Both w B p q s1 s2 K) (x z : Int) : Calls Try.prog 30 #[.pointer (some ⟨p, 0, none⟩), .int .i64 x, .int .i64 z] w fun e w' => e = .returned (.int .i64 (joinE s1 x z)) ∧ Both w' B p q (joinS s1 x z) s2 K ∧ Below B w w' := by
  obtain ⟨F, G, lo, hi, lo2, hi2, hB, h1, h2, hd, hK⟩ := h
  refine (djoin_any h1 hB x z).mono ?_
  rintro e w' ⟨rfl, h3, ho⟩
  exact ⟨rfl, Both.left hB h1.fin h2 hd hK h3 (fun g hg => hg) ho⟩
theorem cnt_join (h : Cnt w B p s lo hi) (x z : Int) : Calls Try.prog 30 #[.pointer (some ⟨p, 0, none⟩), .int .i64 x, .int .i64 z] w fun e w' => e = .returned (.int .i64 (joinE s x z)) ∧ Cnt w' B p (joinS s x z) (lo + it s x * it s z) (hi + cst s.v.length) ∧ Below B w w' := by
  obtain ⟨F, hB, h1⟩ := h
  refine (djoin_any h1 hB x z).mono ?_
  rintro e w' ⟨rfl, h3, ho⟩
  exact ⟨rfl, ⟨_, Nat.le_trans hB ho.size, h3⟩, ho.below (fun g hg => (h1.fin g hg).1) hB⟩
theorem pair_rjoin (h : Pair w B p q s1 s2 m) (hm : m ≤ 900000) (x z : Int) : Calls Try.prog 39 #[.pointer (some ⟨q, 0, none⟩), .int .i64 x, .int .i64 z] w fun e w' => e = .returned (.int .i64 (joinE s2 x z)) ∧ Pair w' B p q s1 (joinS s2 x z) m ∧ Below B w w' := by
  obtain ⟨F, G, lo, hi, hB, h1, h2, hd⟩ := h
  refine (rjoin_any h2 hm hB x z).mono ?_
  rintro e w' ⟨rfl, h3, ho⟩
  exact ⟨rfl, Pair.right hB h2.fin h1 hd h3 ho⟩
theorem one_split (h : One w B p s K) (x : Int) : Calls Try.prog 31 #[.pointer (some ⟨p, 0, none⟩), .int .i64 x] w fun e w' => e = .returned (.int .i64 (splitE s x)) ∧ One w' B p (splitS s x) K ∧ Below B w w' := by
  obtain ⟨F, lo, hi, hB, h1, hK⟩ := h
  refine (dsplit_any h1 hB x).mono ?_
  rintro e w' ⟨rfl, h2, ho⟩
  exact ⟨rfl, One.step hB h1.fin hK h2 (fun g hg => hg) ho⟩
theorem pair_split (h : Pair w B p q s1 s2 m) (x : Int) : Calls Try.prog 31 #[.pointer (some ⟨p, 0, none⟩), .int .i64 x] w fun e w' => e = .returned (.int .i64 (splitE s1 x)) ∧ Pair w' B p q (splitS s1 x) s2 m ∧ Below B w w' := by
  obtain ⟨F, G, lo, hi, hB, h1, h2, hd⟩ := h
  refine (dsplit_any h1 hB x).mono ?_
  rintro e w' ⟨rfl, h3, ho⟩
  exact ⟨rfl, Pair.left hB h1.fin h2 hd h3 (fun g hg => hg) ho⟩
theorem both_split (h : Both w B p q s1 s2 K) (x : Int) : Calls Try.prog 31 #[.pointer (some ⟨p, 0, none⟩), .int .i64 x] w fun e w' => e = .returned (.int .i64 (splitE s1 x)) ∧ Both w' B p q (splitS s1 x) s2 K ∧ Below B w w' := by
  obtain ⟨F, G, lo, hi, lo2, hi2, hB, h1, h2, hd, hK⟩ := h
  refine (dsplit_any h1 hB x).mono ?_
  rintro e w' ⟨rfl, h3, ho⟩
  exact ⟨rfl, Both.left hB h1.fin h2 hd hK h3 (fun g hg => hg) ho⟩
theorem cnt_split (h : Cnt w B p s lo hi) (x : Int) : Calls Try.prog 31 #[.pointer (some ⟨p, 0, none⟩), .int .i64 x] w fun e w' => e = .returned (.int .i64 (splitE s x)) ∧ Cnt w' B p (splitS s x) (lo + it s x) (hi + cst s.v.length) ∧ Below B w w' := by
  obtain ⟨F, hB, h1⟩ := h
  refine (dsplit_any h1 hB x).mono ?_
  rintro e w' ⟨rfl, h3, ho⟩
  exact ⟨rfl, ⟨_, Nat.le_trans hB ho.size, h3⟩, ho.below (fun g hg => (h1.fin g hg).1) hB⟩
theorem pair_rsplit (h : Pair w B p q s1 s2 m) (hm : m ≤ 900000) (x : Int) : Calls Try.prog 40 #[.pointer (some ⟨q, 0, none⟩), .int .i64 x] w fun e w' => e = .returned (.int .i64 (splitE s2 x)) ∧ Pair w' B p q s1 (splitS s2 x) (m + 1) ∧ Below B w w' := by
  obtain ⟨F, G, lo, hi, hB, h1, h2, hd⟩ := h
  refine (rsplit_any h2 hm hB x).mono ?_
  rintro e w' ⟨rfl, h3, ho⟩
  exact ⟨rfl, Pair.right hB h2.fin h1 hd h3 ho⟩
theorem one_turn (h : One w B p s K) (x : Int) : Calls Try.prog 32 #[.pointer (some ⟨p, 0, none⟩), .int .i64 x] w fun e w' => e = .returned (.tuple #[]) ∧ One w' B p (turnS s x) K ∧ Below B w w' := by
  obtain ⟨F, lo, hi, hB, h1, hK⟩ := h
  refine (dturn_any h1 hB x).mono ?_
  rintro e w' ⟨rfl, h2, ho⟩
  exact ⟨rfl, One.step hB h1.fin hK h2 (fun g hg => hg) ho⟩
theorem pair_turn (h : Pair w B p q s1 s2 m) (x : Int) : Calls Try.prog 32 #[.pointer (some ⟨p, 0, none⟩), .int .i64 x] w fun e w' => e = .returned (.tuple #[]) ∧ Pair w' B p q (turnS s1 x) s2 m ∧ Below B w w' := by
  obtain ⟨F, G, lo, hi, hB, h1, h2, hd⟩ := h
  refine (dturn_any h1 hB x).mono ?_
  rintro e w' ⟨rfl, h3, ho⟩
  exact ⟨rfl, Pair.left hB h1.fin h2 hd h3 (fun g hg => hg) ho⟩
theorem both_turn (h : Both w B p q s1 s2 K) (x : Int) : Calls Try.prog 32 #[.pointer (some ⟨p, 0, none⟩), .int .i64 x] w fun e w' => e = .returned (.tuple #[]) ∧ Both w' B p q (turnS s1 x) s2 K ∧ Below B w w' := by
  obtain ⟨F, G, lo, hi, lo2, hi2, hB, h1, h2, hd, hK⟩ := h
  refine (dturn_any h1 hB x).mono ?_
  rintro e w' ⟨rfl, h3, ho⟩
  exact ⟨rfl, Both.left hB h1.fin h2 hd hK h3 (fun g hg => hg) ho⟩
theorem cnt_turn (h : Cnt w B p s lo hi) (x : Int) : Calls Try.prog 32 #[.pointer (some ⟨p, 0, none⟩), .int .i64 x] w fun e w' => e = .returned (.tuple #[]) ∧ Cnt w' B p (turnS s x) (lo + it s x) (hi + cst s.v.length) ∧ Below B w w' := by
  obtain ⟨F, hB, h1⟩ := h
  refine (dturn_any h1 hB x).mono ?_
  rintro e w' ⟨rfl, h3, ho⟩
  exact ⟨rfl, ⟨_, Nat.le_trans hB ho.size, h3⟩, ho.below (fun g hg => (h1.fin g hg).1) hB⟩
theorem pair_rturn (h : Pair w B p q s1 s2 m) (hm : m ≤ 900000) (x : Int) : Calls Try.prog 41 #[.pointer (some ⟨q, 0, none⟩), .int .i64 x] w fun e w' => e = .returned (.tuple #[]) ∧ Pair w' B p q s1 (turnS s2 x) m ∧ Below B w w' := by
  obtain ⟨F, G, lo, hi, hB, h1, h2, hd⟩ := h
  refine (rturn_any h2 hm hB x).mono ?_
  rintro e w' ⟨rfl, h3, ho⟩
  exact ⟨rfl, Pair.right hB h2.fin h1 hd h3 ho⟩
theorem one_add (h : One w B p s K) (x z : Int) (hd64 : -9223372036854775808 ≤ z ∧ z ≤ 9223372036854775807) : Calls Try.prog 33 #[.pointer (some ⟨p, 0, none⟩), .int .i64 x, .int .i64 z] w fun e w' => e = .returned (.int .i64 (addE s x z)) ∧ One w' B p (addS s x z) K ∧ Below B w w' := by
  obtain ⟨F, lo, hi, hB, h1, hK⟩ := h
  refine (dadd_any h1 hB x z hd64).mono ?_
  rintro e w' ⟨rfl, h2, ho⟩
  exact ⟨rfl, One.step hB h1.fin hK h2 (fun g hg => hg) ho⟩
theorem pair_add (h : Pair w B p q s1 s2 m) (x z : Int) (hd64 : -9223372036854775808 ≤ z ∧ z ≤ 9223372036854775807) : Calls Try.prog 33 #[.pointer (some ⟨p, 0, none⟩), .int .i64 x, .int .i64 z] w fun e w' => e = .returned (.int .i64 (addE s1 x z)) ∧ Pair w' B p q (addS s1 x z) s2 m ∧ Below B w w' := by
  obtain ⟨F, G, lo, hi, hB, h1, h2, hd⟩ := h
  refine (dadd_any h1 hB x z hd64).mono ?_
  rintro e w' ⟨rfl, h3, ho⟩
  exact ⟨rfl, Pair.left hB h1.fin h2 hd h3 (fun g hg => hg) ho⟩
theorem both_add (h : Both w B p q s1 s2 K) (x z : Int) (hd64 : -9223372036854775808 ≤ z ∧ z ≤ 9223372036854775807) : Calls Try.prog 33 #[.pointer (some ⟨p, 0, none⟩), .int .i64 x, .int .i64 z] w fun e w' => e = .returned (.int .i64 (addE s1 x z)) ∧ Both w' B p q (addS s1 x z) s2 K ∧ Below B w w' := by
  obtain ⟨F, G, lo, hi, lo2, hi2, hB, h1, h2, hd, hK⟩ := h
  refine (dadd_any h1 hB x z hd64).mono ?_
  rintro e w' ⟨rfl, h3, ho⟩
  exact ⟨rfl, Both.left hB h1.fin h2 hd hK h3 (fun g hg => hg) ho⟩
theorem cnt_add (h : Cnt w B p s lo hi) (x z : Int) (hd64 : -9223372036854775808 ≤ z ∧ z ≤ 9223372036854775807) : Calls Try.prog 33 #[.pointer (some ⟨p, 0, none⟩), .int .i64 x, .int .i64 z] w fun e w' => e = .returned (.int .i64 (addE s x z)) ∧ Cnt w' B p (addS s x z) (lo + it s x) (hi + cst s.v.length) ∧ Below B w w' := by
  obtain ⟨F, hB, h1⟩ := h
  refine (dadd_any h1 hB x z hd64).mono ?_
  rintro e w' ⟨rfl, h3, ho⟩
  exact ⟨rfl, ⟨_, Nat.le_trans hB ho.size, h3⟩, ho.below (fun g hg => (h1.fin g hg).1) hB⟩
theorem pair_radd (h : Pair w B p q s1 s2 m) (hm : m ≤ 900000) (x z : Int) (hd64 : -9223372036854775808 ≤ z ∧ z ≤ 9223372036854775807) : Calls Try.prog 42 #[.pointer (some ⟨q, 0, none⟩), .int .i64 x, .int .i64 z] w fun e w' => e = .returned (.int .i64 (addE s2 x z)) ∧ Pair w' B p q s1 (addS s2 x z) m ∧ Below B w w' := by
  obtain ⟨F, G, lo, hi, hB, h1, h2, hd⟩ := h
  refine (radd_any h2 hm hB x z hd64).mono ?_
  rintro e w' ⟨rfl, h3, ho⟩
  exact ⟨rfl, Pair.right hB h2.fin h1 hd h3 ho⟩
end
end Sp
end Go.Proofs.Ytlkigpmjhojceaa
