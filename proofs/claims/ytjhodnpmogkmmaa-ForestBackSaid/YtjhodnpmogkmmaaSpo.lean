/-
  Stage 9: what an object that is changed in place keeps: all blocks but its own are as they were; the document's forest in memory. No condition.
-/
import Derived.Test.YtjhodnpmogkmmaaSpm
namespace Go.Proofs.Ytjhodnpmogkmmaa
open Go.ChangeShapes Go.WideShapes Go.ChangeAt Go.RowKit
set_option linter.unusedVariables false
set_option linter.unusedSimpArgs false
namespace Sp
/-- all blocks but those of F are as they were -/
structure Off (F : Nat → Prop) (w w2 : World) : Prop where
  os : w2.os = w.os
  tape : w2.tape = w.tape
  output : w2.output = w.output
  size : w.heap.size ≤ w2.heap.size
  block : ∀ k, k < w.heap.size → ¬ F k → w2.heap[k]? = w.heap[k]?
section
variable {F F' G : Nat → Prop} {w w2 w3 : World} {B : Nat}
theorem Off.refl (F : Nat → Prop) (w : World) : Off F w w := ⟨rfl, rfl, rfl, Nat.le_refl _, fun _ _ _ => rfl⟩
theorem Off.trans (h : Off F w w2) (k : Off F' w2 w3) (hF : ∀ g, F' g → F g ∨ w.heap.size ≤ g) : Off F w w3 :=
  ⟨k.os.trans h.os, k.tape.trans h.tape, k.output.trans h.output, Nat.le_trans h.size k.size, fun i h1 h2 => (k.block i (Nat.lt_of_lt_of_le h1 h.size) fun c => by
    rcases hF i c with c | c
    · exact h2 c
    · omega).trans (h.block i h1 h2)⟩
theorem Off.of_below (h : Below w.heap.size w w2) : Off F w w2 := ⟨h.os, h.tape, h.output, h.size, fun k hk _ => h.block k hk⟩
theorem Off.then (h : Off F w w2) (k : Below w2.heap.size w2 w3) : Off F w w3 := h.trans (.of_below (F := F) k) fun g hg => .inl hg
theorem Off.first (h : Below w.heap.size w w2) (k : Off F w2 w3) : Off F w w3 := (Off.of_below (F := F) h).trans k fun g hg => .inl hg
theorem Off.below (h : Off F w w2) (hF : ∀ g, F g → B ≤ g) (h0 : B ≤ w.heap.size) : Below B w w2 := ⟨h.os, h.tape, h.output, h.size, fun k hk => h.block k (by omega) fun c => by have := hF k c; omega⟩
theorem Off.mono (h : Off F w w2) (hF : ∀ g, F g → G g) : Off G w w2 := ⟨h.os, h.tape, h.output, h.size, fun k h1 h2 => h.block k h1 fun c => h2 (hF k c)⟩
theorem Off.set (h : Off F w w2) {p : Addr} (hp : F p.block ∨ w.heap.size ≤ p.block) (v : Value) : Off F w (w2.setCell p v) :=
  ⟨h.os, h.tape, h.output, by have := h.size; simpa [World.setCell] using this, fun k h1 h2 => (Below.heap_setCell _ _ _ _ fun e => by
    subst e
    rcases hp with c | c
    · exact h2 c
    · omega).trans (h.block k h1 h2)⟩
theorem Off.alloc (h : Off F w w2) (o : Obj) : Off F w (w2.alloc o) := h.then ((Below.refl _ _).alloc (Nat.le_refl _) o)
theorem Off.drewN (h : Off F w w2) (q : Nat) : Off F w (w2.drewN q) := h.then (Ne.below_drewN w2 q)
theorem Off.grown {row : Option Nat} (h : Off F w w2) (hg : w2.grownBy w3 row) (hr : ∀ k, row = some k → F k ∨ w.heap.size ≤ k) : Off F w w3 :=
  ⟨hg.os.trans h.os, hg.tape.trans h.tape, hg.output.trans h.output, Nat.le_trans h.size hg.size, fun k h1 h2 => (hg.block k (Nat.lt_of_lt_of_le h1 h.size) fun e => by
    rcases hr k e.symm with c | c
    · exact h2 c
    · omega).trans (h.block k h1 h2)⟩
end
/-- a row's slice -/
structure RowC where
  o : Option Addr
  len : Nat
  cap : Nat
abbrev RowC.val (k : RowC) : Value := .slice k.o k.len k.cap
def encS (k : RowC) : List Value := [.slice k.o k.len k.cap]
theorem encS_len (k : RowC) : (encS k).length = 1 := rfl
theorem encS_one (k : RowC) : ∀ u ∈ encS k, u.oneCell' = true := by intro u hu; simp [encS] at hu; subst hu; rfl
theorem elemS : Rw.Elem 37 76 1 24 (.slice none 0 0) := ⟨by kernel_rfl, Try.underlying76, rfl, by decide, by decide⟩
/-- the document's forest's own block -/
def FBlk (w : World) (p : Nat) (vv rv : Value) : Prop := w.heap[p]? = some (.cells #[vv, rv] 78 (0, 0))
section
variable {w w2 : World} {p : Nat} {vv rv : Value}
theorem fblk_cells (h : FBlk w p vv rv) : w.cell? ⟨p, 0, none⟩ = some vv ∧ w.cell? ⟨p, 1, none⟩ = some rv := by
  unfold FBlk at h
  simp [World.cell?, h]
theorem fblk_frozen (h : FBlk w p vv rv) (o : Nat) : w.frozen? ⟨p, o, none⟩ = false := by unfold FBlk at h; simp [World.frozen?, h]
theorem fblk_lt (h : FBlk w p vv rv) : p < w.heap.size := Rw.lt_of_heap h
theorem fblk_same (h : FBlk w p vv rv) (e : w2.heap[p]? = w.heap[p]?) : FBlk w2 p vv rv := by unfold FBlk at *; rw [e]; exact h
theorem fblk_new (w : World) {b : Nat} (hb : b = w.heap.size) (vv rv : Value) : FBlk (w.alloc (.cells #[vv, rv] 78)) b vv rv := by
  subst hb
  show (w.heap.push _)[w.heap.size]? = _
  simp
theorem fblk_rows (h : FBlk w p vv rv) (x : Value) : FBlk (w.setCell ⟨p, 1, none⟩ x) p vv x := by
  unfold FBlk at *
  simp [World.setCell, Array.getElem?_modify, h]
theorem fblk_vals (h : FBlk w p vv rv) (x : Value) : FBlk (w.setCell ⟨p, 0, none⟩ x) p x rv := by
  unfold FBlk at *
  simp [World.setCell, Array.getElem?_modify, h]
/-- rows of other types lie in other blocks than this one -/
theorem fblk_own {α : Type} {e : TypeId} {k : Nat} {enc : α → List Value} {B : Nat} {v : Value} {xs : List α} (h : FBlk w p vv rv) (hne : e ≠ 78) (ho : Rw.Own e k enc w B v xs) : v.ownBlock ≠ some p := by
  obtain ⟨_, h2⟩ := ho
  rcases h2 with ⟨hv, _⟩ | ⟨g, c, cur, hv, _, hh, _⟩
  · rw [hv]; simp [Value.ownBlock]
  · rw [hv]
    simp only [Value.ownBlock]
    intro e2
    cases e2
    unfold FBlk at h
    rw [h] at hh
    simp at hh
    exact hne hh.2.symm
end
/-- which rows there are -/
structure Rep (RS : List (List Nat)) (s : St) : Prop where
  good : Good s
  of : ∀ (i : Nat) (l : List Nat), RS[i]? = some l → ∀ y ∈ l, s.r y = l
  is : ∀ x, x < s.v.length → ∃ i : Nat, RS[i]? = some (s.r x)
  one : ∀ (i j : Nat) (l l' : List Nat) (y : Nat), RS[i]? = some l → RS[j]? = some l' → y ∈ l → y ∈ l' → i = j
/-- the place of an item's row -/
def IsAt (RS : List (List Nat)) (s : St) (x : Int) (i : Int) : Prop := (rowZ s x = [] ∧ i = -1) ∨ (rowZ s x ≠ [] ∧ ∃ j : Nat, i = (j : Int) ∧ RS[j]? = some (rowZ s x))
section
variable {RS : List (List Nat)} {s : St}
theorem at_exists (h : Rep RS s) (x : Int) : ∃ i, IsAt RS s x i := by
  by_cases c : rowZ s x = []
  · exact ⟨_, .inl ⟨c, rfl⟩⟩
  · obtain ⟨h1, h2, h3⟩ := rowZ_self h.good c
    obtain ⟨i, hi⟩ := h.is _ h3
    refine ⟨i, .inr ⟨c, i, rfl, ?_⟩⟩
    rw [hi]; unfold rowZ; rw [if_neg (by omega)]
/-- an item in a row that was looked through -/
theorem at_hit (h : Rep RS s) {x : Int} {i : Int} (hA : IsAt RS s x i) {j : Nat} {l : List Nat} (hl : RS[j]? = some l) {y : Nat} (hy : y ∈ l) (hx : (y : Int) = x) : i = (j : Int) := by
  have hyr := h.of j l hl y hy
  have hz : rowZ s x = l := by rw [← hx, rowZ_nat]; exact hyr
  rcases hA with ⟨h1, _⟩ | ⟨h1, j', rfl, h2⟩
  · rw [hz] at h1; rw [h1] at hy; simp at hy
  · have := h.one j' j _ _ y h2 hl (by rw [hz]; exact hy) hy
    rw [this]
/-- none in any -/
theorem at_miss (h : Rep RS s) {x : Int} {i : Int} (hA : IsAt RS s x i) (hno : ∀ (j : Nat) (l : List Nat), RS[j]? = some l → ∀ y ∈ l, (y : Int) ≠ x) : i = -1 := by
  rcases hA with ⟨_, h2⟩ | ⟨h1, j', rfl, h2⟩
  · exact h2
  · obtain ⟨h3, h4, h5⟩ := rowZ_self h.good h1
    exact absurd (show ((x.toNat : Nat) : Int) = x by omega) (hno j' _ h2 _ h3)
end
/-- the document's forest in memory: its blocks -/
structure RefM (w : World) (B p : Nat) (vv rv : Value) (Ks : List RowC) (RS : List (List Nat)) (v : List Int) : Prop where
  blk : FBlk w p vv rv
  low : B ≤ p
  vals : Ne.OwnL w B vv v
  rows : Rw.Own 37 1 encS w B rv Ks
  len : Ks.length = RS.length
  each : ∀ (i : Nat) (k : RowC) (l : List Nat), Ks[i]? = some k → RS[i]? = some l → Ne.OwnI w B k.val (Ne.encW l)
/-- and what they say -/
structure RefO (w : World) (B p : Nat) (vv rv : Value) (Ks : List RowC) (RS : List (List Nat)) (s : St) : Prop extends RefM w B p vv rv Ks RS s.v where
  rep : Rep RS s
/-- its blocks -/
def RefF (p : Nat) (vv rv : Value) (Ks : List RowC) (g : Nat) : Prop := g = p ∨ vv.ownBlock = some g ∨ rv.ownBlock = some g ∨ ∃ k ∈ Ks, k.val.ownBlock = some g
section
variable {w w2 : World} {B p : Nat} {vv rv : Value} {Ks : List RowC} {RS : List (List Nat)} {s : St}
theorem RefM.same {v : List Int} (h : RefM w B p vv rv Ks RS v) (e : ∀ g, RefF p vv rv Ks g → w2.heap[g]? = w.heap[g]?) : RefM w2 B p vv rv Ks RS v :=
  ⟨fblk_same h.blk (e p (.inl rfl)), h.low, Ne.own_same h.vals fun g hg => e g (.inr (.inl hg)), Ne.own_same h.rows fun g hg => e g (.inr (.inr (.inl hg))), h.len,
    fun i k l hi hl => Ne.own_same (h.each i k l hi hl) fun g hg => e g (.inr (.inr (.inr ⟨k, List.mem_of_getElem? hi, hg⟩)))⟩
theorem RefM.in {v : List Int} (h : RefM w B p vv rv Ks RS v) : ∀ g, RefF p vv rv Ks g → B ≤ g ∧ g < w.heap.size := by
  rintro g (rfl | hg | hg | ⟨k, hk, hg⟩)
  · exact ⟨h.low, fblk_lt h.blk⟩
  · exact Rw.own_lt h.vals g hg
  · exact Rw.own_lt h.rows g hg
  · obtain ⟨i, hi⟩ := List.getElem?_of_mem hk
    have hi2 := (List.getElem?_eq_some_iff.1 hi).1
    exact Rw.own_lt (h.each i k _ hi (List.getElem?_eq_getElem (by rw [← h.len]; exact hi2))) g hg
theorem RefM.kept {v : List Int} (h : RefM w B p vv rv Ks RS v) (hb : Below w.heap.size w w2) : RefM w2 B p vv rv Ks RS v := h.same fun g hg => hb.block g (h.in g hg).2
theorem RefO.same (h : RefO w B p vv rv Ks RS s) (e : ∀ g, RefF p vv rv Ks g → w2.heap[g]? = w.heap[g]?) : RefO w2 B p vv rv Ks RS s := ⟨h.toRefM.same e, h.rep⟩
theorem RefO.in (h : RefO w B p vv rv Ks RS s) : ∀ g, RefF p vv rv Ks g → B ≤ g ∧ g < w.heap.size := h.toRefM.in
theorem RefO.kept (h : RefO w B p vv rv Ks RS s) (hb : Below w.heap.size w w2) : RefO w2 B p vv rv Ks RS s := h.same fun g hg => hb.block g (h.in g hg).2
theorem RefO.off (h : RefO w B p vv rv Ks RS s) {F : Nat → Prop} (ho : Off F w w2) (hd : ∀ g, RefF p vv rv Ks g → ¬ F g) : RefO w2 B p vv rv Ks RS s := h.same fun g hg => ho.block g (h.in g hg).2 (hd g hg)
/-- what its rows tell -/
theorem RefO.row (h : RefO w B p vv rv Ks RS s) : ∃ o c, rv = .slice o RS.length c ∧ RS.length ≤ c ∧ ∀ (i : Nat) (l : List Nat), RS[i]? = some l → ∃ g k, o = some ⟨g, 0, none⟩ ∧ g < w.heap.size ∧ Ks[i]? = some k ∧ k.len = l.length ∧ w.cell? ⟨g, i, none⟩ = some (.slice k.o l.length k.cap) ∧ Ne.OwnI w B (.slice k.o l.length k.cap) (Ne.encW l) := by
  obtain ⟨o, c, hv, hc, _, _, hr, _, _⟩ := Rw.own_row encS_len h.rows
  refine ⟨o, c, by rw [hv, h.len], by rw [← h.len]; exact hc, fun i l hl => ?_⟩
  have hi := (List.getElem?_eq_some_iff.1 hl).1
  obtain ⟨k, hk⟩ : ∃ k, Ks[i]? = some k := ⟨_, List.getElem?_eq_getElem (by rw [h.len]; exact hi)⟩
  have h1 := h.each i k l hk hl
  obtain ⟨o1, c1, hv1, _⟩ := Rw.own_row Ne.encI_len h1
  rw [Ne.encW_len] at hv1
  simp only [RowC.val, Value.slice.injEq] at hv1
  obtain ⟨_, e2, _⟩ := hv1
  have hro := h.rows
  rw [hv] at hro
  obtain ⟨g, rfl, hg1, hg2, hcs, _⟩ := Ne.own_cells encS_len hro hk
  have c0 := hcs 0 _ rfl
  simp only [Nat.mul_one, Nat.add_zero] at c0
  refine ⟨g, k, rfl, hg2, hk, e2, by rw [← e2]; exact c0, ?_⟩
  have := h1
  unfold RowC.val at this
  rwa [e2] at this
end
end Sp
end Go.Proofs.Ytjhodnpmogkmmaa
