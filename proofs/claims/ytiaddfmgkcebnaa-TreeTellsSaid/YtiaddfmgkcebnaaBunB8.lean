/-
  Spo, Spf, Foy, Rbox, Srm
-/
import Derived.Test.YtiaddfmgkcebnaaBunB5
import Derived.Deep.LoopGhost
import Derived.Deep.DeepCutAuto
import Derived.WalkMore
import Derived.Deep.QuietTactic
import Derived.BigQuiet
import Derived.Test.YtiaddfmgkcebnaaBunB7
import Derived.Test.YtiaddfmgkcebnaaBunB4
import Derived.Test.YtiaddfmgkcebnaaBunB3
import Derived.Test.YtiaddfmgkcebnaaBunB2
import Derived.Laws.CopyOwn
namespace Go.Proofs.Ytiaddfmgkcebnaa
open Go.ChangeShapes Go.WideShapes Go.ChangeAt Go.RowKit
set_option linter.unusedVariables false
set_option linter.unusedSimpArgs false
namespace Sp
structure Off (F : Nat → Prop) (w w2 : World) : Prop where
  os : w2.os = w.os
  tape : w2.tape = w.tape
  output : w2.output = w.output
  size : w.heap.size ≤ w2.heap.size
  block : ∀ k, k < w.heap.size → ¬ F k → w2.heap[k]? = w.heap[k]?
section
variable {F F' G : Nat → Prop} {w w2 w3 : World} {B : Nat}
theorem Off.refl (F : Nat → Prop) (w : World) : Off F w w := ⟨rfl, rfl, rfl, Nat.le_refl _, fun _ _ _ => rfl⟩
theorem Off.trans (h : Off F w w2) (k : Off F' w2 w3) (hF : ∀ g, F' g → F g ∨ w.heap.size ≤ g) : Off F w w3 :=
  ⟨k.os.trans h.os, k.tape.trans h.tape, k.output.trans h.output, Nat.le_trans h.size k.size, fun i h1 h2 => (k.block i (Nat.lt_of_lt_of_le h1 h.size) fun c => by
    rcases hF i c with c | c
    · exact h2 c
    · omega).trans (h.block i h1 h2)⟩
theorem Off.of_below (h : Below w.heap.size w w2) : Off F w w2 := ⟨h.os, h.tape, h.output, h.size, fun k hk _ => h.block k hk⟩
theorem Off.then (h : Off F w w2) (k : Below w2.heap.size w2 w3) : Off F w w3 := h.trans (.of_below (F := F) k) fun g hg => .inl hg
theorem Off.first (h : Below w.heap.size w w2) (k : Off F w2 w3) : Off F w w3 := (Off.of_below (F := F) h).trans k fun g hg => .inl hg
theorem Off.below (h : Off F w w2) (hF : ∀ g, F g → B ≤ g) (h0 : B ≤ w.heap.size) : Below B w w2 := ⟨h.os, h.tape, h.output, h.size, fun k hk => h.block k (by omega) fun c => by have := hF k c; omega⟩
theorem Off.mono (h : Off F w w2) (hF : ∀ g, F g → G g) : Off G w w2 := ⟨h.os, h.tape, h.output, h.size, fun k h1 h2 => h.block k h1 fun c => h2 (hF k c)⟩
theorem Off.set (h : Off F w w2) {p : Addr} (hp : F p.block ∨ w.heap.size ≤ p.block) (v : Value) : Off F w (w2.setCell p v) :=
  ⟨h.os, h.tape, h.output, by have := h.size; simpa [World.setCell] using this, fun k h1 h2 => (Below.heap_setCell _ _ _ _ fun e => by
    subst e
    rcases hp with c | c
    · exact h2 c
    · omega).trans (h.block k h1 h2)⟩
theorem Off.alloc (h : Off F w w2) (o : Obj) : Off F w (w2.alloc o) := h.then ((Below.refl _ _).alloc (Nat.le_refl _) o)
theorem Off.grown {row : Option Nat} (h : Off F w w2) (hg : w2.grownBy w3 row) (hr : ∀ k, row = some k → F k ∨ w.heap.size ≤ k) : Off F w w3 :=
  ⟨hg.os.trans h.os, hg.tape.trans h.tape, hg.output.trans h.output, Nat.le_trans h.size hg.size, fun k h1 h2 => (hg.block k (Nat.lt_of_lt_of_le h1 h.size) fun e => by
    rcases hr k e.symm with c | c
    · exact h2 c
    · omega).trans (h.block k h1 h2)⟩
end
def Ext (F : Nat → Prop) (w w2 : World) (g : Nat) : Prop := F g ∨ (w.heap.size ≤ g ∧ g < w2.heap.size)
section
variable {w w2 w3 : World} {F : Nat → Prop}
theorem ext_two {g : Nat} (h : Ext (Ext F w w2) w2 w3 g) (h1 : w.heap.size ≤ w2.heap.size) (h2 : w2.heap.size ≤ w3.heap.size) : Ext F w w3 g := by
  rcases h with (h | h) | h
  · exact .inl h
  · exact .inr ⟨h.1, by omega⟩
  · exact .inr ⟨by omega, h.2⟩
end
end Sp
namespace Sp
section
variable {w : World} {B p m : Nat} {F : Nat → Prop} {s : St}
theorem leastL_snoc (v : List Int) (l : List Nat) (i : Nat) : leastL v (l ++ [i]) = if leastL v l < 0 ∨ Ne.amt v i < Ne.amt v (leastL v l).toNat then (i : Int) else leastL v l := by
  unfold leastL; rw [List.foldl_append]; rfl
theorem ext_in {w w2 : World} {B : Nat} {F : Nat → Prop} (hf : ∀ g, F g → B ≤ g ∧ g < w.heap.size) (hBw : B ≤ w.heap.size) (hs : w.heap.size ≤ w2.heap.size) : ∀ g, Ext F w w2 g → B ≤ g ∧ g < w2.heap.size := fun g hg => by
  rcases hg with c | c
  · have := hf g c; omega
  · omega
theorem off_two {w w2 w3 : World} {F : Nat → Prop} (h1 : Off F w w2) (h2 : Off (Ext F w w2) w2 w3) : Off F w w3 := h1.trans h2 fun g hg => by
  rcases hg with c | c
  · exact .inl c
  · exact .inr c.1
end
end Sp
end Go.Proofs.Ytiaddfmgkcebnaa
namespace Go.Proofs.Ytiaddfmgkcebnaa
set_option linter.unusedVariables false
set_option linter.unusedSimpArgs false
namespace Fo
theorem snoc_ind {P : List Nat → Prop} (h0 : P []) (h1 : ∀ l a, P l → P (l ++ [a])) : ∀ l, P l := by
  have : ∀ n (l : List Nat), l.length = n → P l := by
    intro n
    induction n with
    | zero => intro l hl; rw [List.eq_nil_of_length_eq_zero hl]; exact h0
    | succ n ih =>
      intro l hl
      rcases List.eq_nil_or_concat l with rfl | ⟨A, a, rfl⟩
      · simp at hl
      · rw [List.concat_eq_append] at hl ⊢
        exact h1 A a (ih A (by simpa using hl))
  exact fun l => this l.length l rfl
theorem least_split (v : List Int) : ∀ l : List Nat, l = [] ∧ Sp.leastL v l = -1 ∨ ∃ (t : List Nat) (a : Nat) (u : List Nat), l = t ++ a :: u ∧ Sp.leastL v l = (a : Int) ∧ (∀ y ∈ t, Ne.amt v a < Ne.amt v y) ∧ ∀ y ∈ u, Ne.amt v a ≤ Ne.amt v y := by
  refine snoc_ind (.inl ⟨rfl, rfl⟩) fun l i ih => .inr ?_
  rcases ih with ⟨rfl, h⟩ | ⟨t, a, u, rfl, h1, h2, h3⟩
  · refine ⟨[], i, [], rfl, ?_, by simp, by simp⟩
    rw [Sp.leastL_snoc, h, if_pos (.inl (by omega))]
  · by_cases c : Ne.amt v i < Ne.amt v a
    · refine ⟨t ++ a :: u, i, [], rfl, ?_, fun y hy => ?_, by simp⟩
      · rw [Sp.leastL_snoc, h1, if_pos (.inr (by simpa using c))]
      · rcases List.mem_append.1 hy with d | d
        · have := h2 y d; omega
        · rcases List.mem_cons.1 d with e | e
          · rw [e]; exact c
          · have := h3 y e; omega
    · refine ⟨t, a, u ++ [i], by simp, ?_, h2, fun y hy => ?_⟩
      · rw [Sp.leastL_snoc, h1, if_neg (by simp; omega)]
      · rcases List.mem_append.1 hy with d | d
        · exact h3 y d
        · simp at d; rw [d]; omega
section
variable {f : Ft}
theorem leastZ_nat (f : Ft) (v : Nat) : leastZ f (v : Int) = Sp.leastL f.v (path f v) := by unfold leastZ; rw [pathZ_nat]
theorem least_says (h : Good f) {v : Nat} (hv : v < f.v.length) : ∃ k le : Nat, (path f v)[k]? = some le ∧ leastZ f (v : Int) = (le : Int) ∧ le < f.v.length ∧ k < (path f v).length ∧
    (∀ i y : Nat, (path f v)[i]? = some y → ¬ Ne.amt f.v y < Ne.amt f.v le) ∧ (∀ i y : Nat, (path f v)[i]? = some y → i < k → Ne.amt f.v y ≠ Ne.amt f.v le) ∧ (∀ i y : Nat, (path f v)[i]? = some y → (y = le ↔ i = k)) := by
  have hn := h.path_nodup v
  rw [leastZ_nat]
  rcases least_split f.v (path f v) with ⟨h1, _⟩ | ⟨t, a, u, h1, h2, h3, h4⟩
  · have := h.path_self hv; rw [h1] at this; simp at this
  · have hat : (path f v)[t.length]? = some a := by rw [h1, List.getElem?_append_right (Nat.le_refl _), Nat.sub_self]; rfl
    refine ⟨t.length, a, hat, h2, h.path_lt (x := v) (by rw [h1]; simp), by rw [h1]; simp, fun i y hy => ?_, fun i y hy hi => ?_, fun i y hy => ?_⟩
    · have hm := List.mem_of_getElem? hy
      rw [h1] at hm
      rcases List.mem_append.1 hm with d | d
      · have := h3 y d; omega
      · rcases List.mem_cons.1 d with e | e
        · rw [e]; omega
        · have := h4 y e; omega
    · rw [h1, List.getElem?_append_left hi] at hy
      have := h3 y (List.mem_of_getElem? hy)
      omega
    · constructor
      · intro e
        rw [e] at hy
        exact (List.getElem?_inj (List.getElem?_eq_some_iff.1 hy).1 hn).1 (by rw [hy, hat])
      · intro e
        rw [e, hat] at hy
        exact (Option.some.inj hy).symm
end
end Fo
end Go.Proofs.Ytiaddfmgkcebnaa
namespace Go.Proofs.Ytiaddfmgkcebnaa
open Go.ChangeShapes Go.WideShapes Go.ChangeAt Go.RowKit
set_option linter.unusedVariables false
set_option linter.unusedSimpArgs false
namespace Ne
theorem infoR : (Try.prog.info? 36).map (fun i => (i.zero, i.size, i.bytes)) = some (some (.slice none 0 0), 1, 24) := by kernel_rfl
theorem make_r (n : Nat) (h : n ≤ 1000000) (w : World) : (Instr.makeSlice 64 (.int .i64 (n : Int)) (.int .i64 (n : Int))).run Try.prog w = .ok (.slice (some ⟨w.heap.size, 0, none⟩) n n) (w.alloc (.cells (madeCells #[.slice none 0 0] n) 36)) :=
  run_make_row' 64 36 (.slice none 0 0) 24 Try.underlying64 infoR rfl .i64 .i64 n (by omega) (by omega) w
structure GBox (w : World) (lb n : Nat) (VS : Nat → Value) (U : Nat → List Nat) : Prop where
  row : w.rowIs lb 36 n VS
  own : ∀ v, v < n → OwnI w (lb + 1) (VS v) (encW (U v))
  sep : ∀ v v', v < n → v' < n → v ≠ v' → ∀ g, (VS v).ownBlock = some g → (VS v').ownBlock ≠ some g
section
variable {w w2 : World} {lb n : Nat} {VS : Nat → Value} {U : Nat → List Nat}
theorem gbox_made (w : World) (n : Nat) {b : Nat} (hb : b = w.heap.size) : GBox (w.alloc (.cells (madeCells #[.slice none 0 0] n) 36)) b n (fun _ => .slice none 0 0) (fun _ => []) := by
  subst hb
  exact ⟨World.rowIs_made w (.slice none 0 0) n 36, fun v _ => Rw.own_nil _ _, fun v v' _ _ _ g h => by simp [Value.ownBlock] at h⟩
theorem GBox.below (h : GBox w lb n VS U) (hb : Below w.heap.size w w2) : GBox w2 lb n VS U :=
  ⟨World.rowIs.of_block h.row (hb.block lb (World.rowIs.lt h.row)), fun v hv => Rw.own_below (h.own v hv) hb, h.sep⟩
theorem GBox.alloc (h : GBox w lb n VS U) (o : Obj) : GBox (w.alloc o) lb n VS U := h.below ((Below.refl _ _).alloc (Nat.le_refl _) o)
theorem GBox.lt (h : GBox w lb n VS U) : lb < w.heap.size := World.rowIs.lt h.row
theorem GBox.cell (h : GBox w lb n VS U) {v : Nat} (hv : v < n) : w.cell? ⟨lb, v, none⟩ = some (VS v) := World.rowIs.cell h.row hv
theorem GBox.put (h : GBox w lb n VS U) {v : Nat} (hv : v < n) {x : Value} {u : List Nat} (hg : w.grownBy w2 (VS v).ownBlock) (ho : OwnI w2 (lb + 1) x (encW u)) (hx : x.ownBlock = (VS v).ownBlock ∨ x.ownBlock = some w.heap.size) :
    GBox (w2.setCell ⟨lb, v, none⟩ x) lb n (fun j => if j = v then x else VS j) (fun j => if j = v then u else U j) := by
  have hne : some lb ≠ (VS v).ownBlock := fun e => by have := (Rw.own_lt (h.own v hv) lb e.symm).1; omega
  have hrow := World.rowIs.of_block h.row (hg.block lb h.lt hne)
  refine ⟨World.rowIs.set hrow v x, fun j hj => ?_, fun j j' hj hj' hd g hb => ?_⟩
  · by_cases e : j = v
    · subst e
      simp only [if_true]
      exact Rw.own_set ho (p := ⟨lb, j, none⟩) (fun e => by have := (Rw.own_lt ho lb e).1; omega) x
    · simp only [if_neg e]
      have h1 := Rw.own_grown (h.own j hj) hg fun g hb e2 => h.sep v j hv hj (Ne.symm e) g e2.symm hb
      exact Rw.own_set h1 (p := ⟨lb, v, none⟩) (fun e => by have := (Rw.own_lt h1 lb e).1; omega) x
  · by_cases e : j = v
    · subst e
      simp only [if_true] at hb
      simp only [if_neg (Ne.symm hd)]
      intro hb2
      rcases hx with hx | hx
      · rw [hx] at hb; exact h.sep j j' hj hj' hd g hb hb2
      · rw [hx] at hb
        have := (Rw.own_lt (h.own j' hj') g hb2).2
        simp at hb; omega
    · simp only [if_neg e] at hb
      by_cases e' : j' = v
      · subst e'
        simp only [if_true]
        intro hb2
        rcases hx with hx | hx
        · rw [hx] at hb2; exact h.sep j j' hj hj' hd g hb hb2
        · rw [hx] at hb2
          have := (Rw.own_lt (h.own j hj) g hb).2
          simp at hb2; omega
      · simp only [if_neg e']; exact h.sep j j' hj hj' hd g hb
end
structure RBox (w : World) (lb lo hi n : Nat) (VS : Nat → Value) (U : Nat → List Nat) : Prop where
  row : w.rowIs lb 36 n VS
  each : ∀ v, v < n → RowOf w lo hi (VS v) (U v)
  out : lb < lo
  sz : hi ≤ w.heap.size
section
variable {w w2 : World} {lb lo hi n : Nat} {VS : Nat → Value} {U : Nat → List Nat}
theorem RBox.of_g (h : GBox w lb n VS U) : RBox w lb (lb + 1) w.heap.size n VS U := ⟨h.row, fun v hv => .of_own (h.own v hv), by omega, Nat.le_refl _⟩
theorem RBox.keep (h : RBox w lb lo hi n VS U) (hs : w.heap.size ≤ w2.heap.size) (hk : ∀ b, b = lb ∨ (lo ≤ b ∧ b < hi) → w2.heap[b]? = w.heap[b]?) : RBox w2 lb lo hi n VS U :=
  ⟨World.rowIs.of_block h.row (hk lb (.inl rfl)), fun v hv => (h.each v hv).keep fun b h1 h2 => hk b (.inr ⟨h1, h2⟩), h.out, Nat.le_trans h.sz hs⟩
theorem RBox.lt (h : RBox w lb lo hi n VS U) : lb < w.heap.size := World.rowIs.lt h.row
theorem RBox.below (h : RBox w lb lo hi n VS U) (hb : Below w.heap.size w w2) : RBox w2 lb lo hi n VS U :=
  h.keep hb.size fun b hb2 => hb.block b (by have := h.lt; have := h.sz; omega)
theorem RBox.alloc (h : RBox w lb lo hi n VS U) (o : Obj) : RBox (w.alloc o) lb lo hi n VS U := h.below ((Below.refl _ _).alloc (Nat.le_refl _) o)
theorem RBox.far (h : RBox w lb lo hi n VS U) {p : Addr} (h1 : p.block ≠ lb) (h2 : p.block < lo ∨ hi ≤ p.block) (v : Value) : RBox (w.setCell p v) lb lo hi n VS U :=
  h.keep (by simp [World.setCell]) fun b hb => Below.heap_setCell _ _ _ _ (by omega)
theorem RBox.grown (h : RBox w lb lo hi n VS U) {row : Option Nat} (hg : w.grownBy w2 row) (hr : ∀ g, row = some g → g ≠ lb ∧ (g < lo ∨ hi ≤ g)) : RBox w2 lb lo hi n VS U :=
  h.keep hg.size fun b hb => hg.block b (by have := h.lt; have := h.sz; omega) (fun e => by have := hr b e.symm; omega)
theorem RBox.cell (h : RBox w lb lo hi n VS U) {v : Nat} (hv : v < n) : w.cell? ⟨lb, v, none⟩ = some (VS v) := World.rowIs.cell h.row hv
theorem RBox.frozen (h : RBox w lb lo hi n VS U) (i : Nat) : w.frozen? ⟨lb, i, none⟩ = false := World.rowIs.frozen h.row i
theorem RBox.put (h : RBox w lb lo hi n VS U) {v : Nat} (hv : v < n) {x : Value} {u : List Nat} (hx : RowOf w lo hi x u) :
    RBox (w.setCell ⟨lb, v, none⟩ x) lb lo hi n (fun j => if j = v then x else VS j) (fun j => if j = v then u else U j) := by
  have hk : ∀ b, lo ≤ b → b < hi → (w.setCell ⟨lb, v, none⟩ x).heap[b]? = w.heap[b]? := fun b h1 h2 => Below.heap_setCell _ _ _ _ (by have := h.out; show b ≠ lb; omega)
  refine ⟨World.rowIs.set h.row v x, fun j hj => ?_, h.out, by have := h.sz; simpa [World.setCell] using this⟩
  by_cases e : j = v
  · subst e; simp only [if_true]; exact hx.keep hk
  · simp only [if_neg e]; exact (h.each j hj).keep hk
end
structure Dfs (n : Net) (f : List Int) (x : Int) (M : List Bool) (way : List Nat) (U : Nat → List Nat) : Prop where
  len : M.length = n.n.toNat + 1
  src : M.getD n.s.toNat false = true
  sound : ∀ i : Nat, M.getD i false = true → Rch n f x (i : Int)
  wayM : ∀ v ∈ way, M.getD v false = true
  cls : ∀ r, r < 2 * n.l.length → x ≤ roomN n.l f r → M.getD (trF n.l r).toNat false = true → M.getD (trT n.l r).toNat false = true ∨ ((trF n.l r).toNat ∈ way ∧ r ∈ U (trF n.l r).toNat)
  sub : ∀ v, v < n.n.toNat + 1 → ∀ r ∈ U v, r < 2 * n.l.length ∧ trF n.l r = (v : Int)
  full : ∀ v, v < n.n.toNat + 1 → M.getD v false = false → U v = fromL n.l (v : Int) (2 * n.l.length)
  few : way.length + unmet M ≤ n.n.toNat + 1
theorem dfs_start {n : Net} (hR : Right n) (f : List Int) (x : Int) : Dfs n f x ((List.replicate (n.n.toNat + 1) false).set n.s.toNat true) [n.s.toNat] (fun v => fromL n.l (v : Int) (2 * n.l.length)) := by
  have h0 := hR.s0
  have h1 := hR.s1
  have hs : n.s.toNat < (List.replicate (n.n.toNat + 1) false).length := by simp; omega
  have hg := fun j => getD_set _ n.s.toNat j hs
  have hu := unmet_set hs (replB _ _)
  refine ⟨by simp, by rw [hg, if_pos rfl], fun i hi => ?_, fun v hv => ?_, fun r hr hx hm => ?_, fun v hv r hr => fromL_mem.1 hr, fun v hv _ => rfl, ?_⟩
  · rw [hg] at hi
    by_cases e : i = n.s.toNat
    · have : (i : Int) = n.s := by omega
      rw [this]; exact .base
    · rw [if_neg e, replB] at hi; cases hi
  · simp at hv; subst hv; rw [hg, if_pos rfl]
  · rw [hg] at hm
    by_cases e : (trF n.l r).toNat = n.s.toNat
    · refine .inr ⟨by simp [e], fromL_mem.2 ⟨hr, ?_⟩⟩
      have := trF_bd hR hr; omega
    · rw [if_neg e, replB] at hm; cases hm
  · rw [unmet_repl] at hu; simp only [List.length_singleton]; omega
theorem dfs_push {n : Net} (hR : Right n) {f : List Int} {x : Int} {M : List Bool} {W0 : List Nat} {u : Nat} {U : Nat → List Nat} (h : Dfs n f x M (W0 ++ [u]) U) (hu : u < n.n.toNat + 1) {i r : Nat} (hi : i < (U u).length) (hr : (U u).getD i 0 = r)
    (hpre : ∀ j, j < i → x ≤ roomN n.l f ((U u).getD j 0) → M.getD (trT n.l ((U u).getD j 0)).toNat false = true) (hx : x ≤ roomN n.l f r) (hm : M.getD (trT n.l r).toNat false = false) :
    Dfs n f x (M.set (trT n.l r).toNat true) (W0 ++ [u] ++ [(trT n.l r).toNat]) (fun j => if j = u then (U u).drop (i + 1) else U j) ∧ unmet (M.set (trT n.l r).toNat true) + 1 = unmet M := by
  have hru : r ∈ U u := by rw [← hr]; exact getD_mem hi
  obtain ⟨hr2, hrf⟩ := h.sub u hu r hru
  have hb := trT_bd hR hr2
  have ht : (trT n.l r).toNat < M.length := by rw [h.len]; omega
  have hg := fun j => getD_set M (trT n.l r).toNat j ht
  have hun := unmet_set ht hm
  have hMu := h.wayM u (by simp)
  have hne : u ≠ (trT n.l r).toNat := fun e => by rw [← e, hMu] at hm; cases hm
  have hup : ∀ j, M.getD j false = true → (M.set (trT n.l r).toNat true).getD j false = true := fun j hj => by rw [hg]; split <;> simp_all
  refine ⟨⟨by simp [h.len], hup _ h.src, fun j hj => ?_, fun v hv => ?_, fun q hq hxq hmq => ?_, fun v hv q hq => ?_, fun v hv hmv => ?_, ?_⟩, hun⟩
  · rw [hg] at hj
    by_cases e : j = (trT n.l r).toNat
    · have : (j : Int) = trT n.l r := by omega
      rw [this]
      refine .step hr2 hx ?_
      rw [hrf]; exact h.sound u hMu
    · rw [if_neg e] at hj; exact h.sound j hj
  · rcases List.mem_append.1 hv with h1 | h1
    · exact hup v (h.wayM v h1)
    · simp at h1; subst h1; rw [hg, if_pos rfl]
  · rw [hg] at hmq
    by_cases e : (trF n.l q).toNat = (trT n.l r).toNat
    · -- newly met
      refine .inr ⟨by simp [e], ?_⟩
      try simp only
      rw [if_neg (by rw [e]; exact Ne.symm hne), h.full _ (by have := trF_bd hR hq; omega) (by rw [e]; exact hm)]
      refine fromL_mem.2 ⟨hq, ?_⟩
      have := trF_bd hR hq; omega
    · rw [if_neg e] at hmq
      rcases h.cls q hq hxq hmq with h1 | ⟨h1, h2⟩
      · exact .inl (hup _ h1)
      · by_cases e2 : (trF n.l q).toNat = u
        · rw [e2] at h2
          obtain ⟨j, hj, hjq⟩ := List.mem_iff_getElem.1 h2
          have hjd : (U u).getD j 0 = q := by rw [List.getD_eq_getElem?_getD, List.getElem?_eq_getElem hj, hjq]; rfl
          rcases Nat.lt_trichotomy j i with h3 | h3 | h3
          · exact .inl (hup _ (by have := hpre j h3; rw [hjd] at this; exact this hxq))
          · subst h3
            rw [hjd] at hr; subst hr
            exact .inl (by rw [hg, if_pos rfl])
          · refine .inr ⟨by rw [e2]; simp, ?_⟩
            try simp only
            rw [if_pos e2]
            refine List.mem_iff_getElem.2 ⟨j - (i + 1), by rw [List.length_drop]; omega, ?_⟩
            rw [List.getElem_drop, ← hjq]
            congr 1; omega
        · refine .inr ⟨List.mem_append_left _ h1, ?_⟩
          try simp only
          rw [if_neg e2]; exact h2
  · try simp only at hq
    by_cases e : v = u
    · subst e; rw [if_pos rfl] at hq; exact h.sub v hv q (List.mem_of_mem_drop hq)
    · rw [if_neg e] at hq; exact h.sub v hv q hq
  · rw [hg] at hmv
    by_cases e : v = (trT n.l r).toNat
    · rw [if_pos e] at hmv; cases hmv
    · rw [if_neg e] at hmv
      have : v ≠ u := fun e => by rw [e, hMu] at hmv; cases hmv
      try simp only
      rw [if_neg this]; exact h.full v hv hmv
  · have := h.few
    simp only [List.length_append, List.length_singleton] at this ⊢
    omega
theorem dfs_pop {n : Net} (hR : Right n) {f : List Int} {x : Int} {M : List Bool} {W0 : List Nat} {u : Nat} {U : Nat → List Nat} (h : Dfs n f x M (W0 ++ [u]) U)
    (hpre : ∀ j, j < (U u).length → x ≤ roomN n.l f ((U u).getD j 0) → M.getD (trT n.l ((U u).getD j 0)).toNat false = true) : Dfs n f x M W0 U := by
  refine ⟨h.len, h.src, h.sound, fun v hv => h.wayM v (List.mem_append_left _ hv), fun q hq hxq hmq => ?_, h.sub, h.full, ?_⟩
  · rcases h.cls q hq hxq hmq with h1 | ⟨h1, h2⟩
    · exact .inl h1
    · rcases List.mem_append.1 h1 with h3 | h3
      · exact .inr ⟨h3, h2⟩
      · simp at h3
        rw [h3] at h2
        obtain ⟨j, hj, hjq⟩ := List.mem_iff_getElem.1 h2
        have hjd : (U u).getD j 0 = q := by rw [List.getD_eq_getElem?_getD, List.getElem?_eq_getElem hj, hjq]; rfl
        have := hpre j hj
        rw [hjd] at this
        exact .inl (this hxq)
  · have := h.few
    simp only [List.length_append, List.length_singleton] at this
    omega
theorem dfs_end {n : Net} {f : List Int} {x : Int} {M : List Bool} {U : Nat → List Nat} (h : Dfs n f x M [] U) : IsReach n f x M :=
  ⟨h.len, h.src, h.sound, fun r hr hx hm => by
    rcases h.cls r hr hx hm with h1 | ⟨h1, _⟩
    · exact h1
    · simp at h1⟩
end Ne
end Go.Proofs.Ytiaddfmgkcebnaa
namespace Go.Proofs.Ytiaddfmgkcebnaa
open Go.ChangeShapes Go.WideShapes Go.ChangeAt Go.RowKit
set_option linter.unusedVariables false
set_option linter.unusedSimpArgs false
namespace Ne
section
variable {w w2 : World} {b : Nat} {l : List Int}
end
def repL (m c : Nat) (a : Int) : List Int := List.replicate c a ++ List.replicate (m - c) 0
theorem repL_len {m c : Nat} (a : Int) (h : c ≤ m) : (repL m c a).length = m := by simp [repL]; omega
theorem repL_at {m c j : Nat} (a : Int) (h : j < c) : (repL m c a)[j]? = some a := by simp [repL, h, List.getElem?_append]
theorem repL_put {m c k : Nat} (a : Int) (h : c + k ≤ m) : splice ((repL m c a).map (Value.int .i64)) c ((List.replicate k a).map (Value.int .i64)) = (repL m (c + k) a).map (Value.int .i64) := by
  unfold splice repL
  simp only [List.map_append, List.map_replicate, List.length_replicate]
  rw [List.take_left' (by simp), show List.drop (c + k) (List.replicate c (Value.int .i64 a) ++ List.replicate (m - c) (Value.int .i64 0)) = List.replicate (m - (c + k)) (Value.int .i64 0) by
    rw [List.drop_append]; simp; omega, ← List.append_assoc, List.replicate_append_replicate]
theorem repL_zero (m : Nat) (a : Int) : repL m 0 a = List.replicate m 0 := by simp [repL]
theorem repL_all (m : Nat) (a : Int) : repL m m a = List.replicate m a := by simp [repL]
theorem repL_set {m c : Nat} (a : Int) (h : c < m) : (repL m c a).set c a = repL m (c + 1) a := by
  obtain ⟨k, hk⟩ : ∃ k, m - c = k + 1 := ⟨m - c - 1, by omega⟩
  unfold repL
  rw [hk, show m - (c + 1) = k by omega, List.replicate_succ (n := k), List.set_append_right _ _ (by simp)]
  simp [List.replicate_succ']
def SBox (w : World) (b : Nat) (v : Value) : Prop := w.rowIs b 36 1 fun _ => v
section
variable {w w2 : World} {b : Nat} {v : Value}
theorem SBox.cell (h : SBox w b v) : w.cell? ⟨b, 0, none⟩ = some v := World.rowIs.cell h (by omega)
theorem SBox.frozen (h : SBox w b v) (i : Nat) : w.frozen? ⟨b, i, none⟩ = false := World.rowIs.frozen h i
theorem SBox.lt (h : SBox w b v) : b < w.heap.size := World.rowIs.lt h
theorem SBox.same (h : SBox w b v) (e : w2.heap[b]? = w.heap[b]?) : SBox w2 b v := World.rowIs.of_block h e
theorem SBox.kept (h : SBox w b v) (hb : Below w.heap.size w w2) : SBox w2 b v := h.same (hb.block b h.lt)
theorem SBox.far (h : SBox w b v) {p : Addr} (hp : b ≠ p.block) (x : Value) : SBox (w.setCell p x) b v := World.rowIs.setOther h hp x
theorem SBox.alloc (h : SBox w b v) (o : Obj) : SBox (w.alloc o) b v := World.rowIs.alloc h o
theorem SBox.set (h : SBox w b v) (x : Value) : SBox (w.setCell ⟨b, 0, none⟩ x) b x := World.rowIs.congr (World.rowIs.set h 0 x) fun i hi => by
  show (if i = 0 then _ else _) = _
  rw [if_pos (by omega)]
theorem sbox_new (w : World) {b : Nat} (hb : b = w.heap.size) (v : Value) : SBox (w.alloc (.cells #[v] 36)) b v := by
  subst hb
  refine ⟨#[v], ?_, rfl, fun i hi => ?_⟩
  · show (w.heap.push _)[w.heap.size]? = _; simp
  · obtain rfl : i = 0 := by omega
    rfl
end
end Ne
namespace Ne
structure Okf (n : Net) (f : List Int) : Prop where
  len : f.length = n.l.length
  wi : wi n.l f
  calm : calm n f
theorem Okf.chk {n : Net} {f : List Int} (h : Okf n f) (ck : checkN n = 0) : chkF n f = 0 := chkF_in (chkA_in ck h.len h.wi) h.calm
theorem okf_of {n : Net} {f : List Int} (h : chkF n f = 0) : checkN n = 0 ∧ Okf n f := by
  obtain ⟨h1, h2⟩ := chkF_ok h
  obtain ⟨g1, _, g2, g3⟩ := chkA_ok h1
  exact ⟨g1, g2, g3, h2⟩
theorem okf_push {n : Net} (hR : Right n) {f g : List Int} (hF : Okf n f) {x : Int} (hx : 0 ≤ x) {W : List Int} (hW : isWalk n W = true) (hp : pushN n.l f x W = some g) : Okf n g ∧ exc n.l g n.t = exc n.l f n.t + x := by
  obtain ⟨h1, h2, h3⟩ := push_facts hR hF.len hF.wi hx (W := W) (k := W.length) (Nat.le_refl _) (u := n.t) (g := g) (by rw [List.take_length]; exact isWalk_at hW) (by rw [List.take_length]; exact hp)
  have e1 := h3 n.t
  rw [if_pos rfl, if_neg hR.ne] at e1
  refine ⟨⟨h1, h2, fun v hv hs ht => ?_⟩, by omega⟩
  rw [h3 v, if_neg (Ne.symm ht), if_neg (Ne.symm hs), hF.calm v hv hs ht]; simp
section
variable {w w2 : World} {b : Nat} {n s t x : Int} {av rv uv : Value}
end
section
variable {n : Net} {ao : Option Addr} {cap : Nat} {x : Int} {w0 w w2 : World} {sb lb lo hi : Nat} {rv : Value} {RM : List Int} {VS : Nat → Value} {U : Nat → List Nat}
theorem rowOf_at {w : World} {lo hi : Nat} {y : Value} {u : List Nat} (h : RowOf w lo hi y u) {i : Nat} (hi2 : i < u.length) : ∃ b off c, y = .slice (some ⟨b, off, none⟩) u.length c ∧ u.length ≤ c ∧ c ≤ maxLen ∧ lo ≤ b ∧ b < hi ∧ ∀ j, j < u.length → w.cell? ⟨b, off + j, none⟩ = some (.int .i64 ((u.getD j 0 : Nat) : Int)) := by
  obtain ⟨A, c, h1, h2, h3, h4⟩ := h
  rcases h4 with h4 | ⟨b, off, rfl, h6, h7, h8⟩
  · rw [h4] at hi2; simp at hi2
  · exact ⟨b, off, c, h1, h2, h3, h6, h7, h8⟩
end
end Ne
end Go.Proofs.Ytiaddfmgkcebnaa
