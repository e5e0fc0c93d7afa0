/-
  Contract of the document's Reach. Condition: at most a million arcs.
-/
import Derived.Test.YthhlfphnokdfaaaRes2
import Derived.Test.YthhlfphnokdfaaaRbox
import Derived.Deep.LoopGhost
namespace Go.Proofs.Ythhlfphnokdfaaa
open Go.ChangeShapes Go.WideShapes Go.ChangeAt Go.RowKit
set_option linter.unusedVariables false
set_option linter.unusedSimpArgs false
namespace Ne
def encB (b : Bool) : List Value := [.bool b]
abbrev BRow (w : World) (ao : Option Addr) (l : List Bool) : Prop := Rw.Row 1 encB w ao l
theorem brow_at {w : World} {b off : Nat} {l : List Bool} (h : ∀ (i : Nat) (x : Bool), l[i]? = some x → ∀ (j : Nat) (v : Value), (encB x)[j]? = some v → w.cell? ⟨b, off + (i * 1 + j), none⟩ = some v) {i : Nat} {x : Bool} (hi : l[i]? = some x) :
    w.cell? ⟨b, off + i, none⟩ = some (.bool x) := by
  have := h i x hi 0 _ rfl; simpa using this
theorem BBox.brow {w : World} {b : Nat} {l : List Bool} (h : BBox w b l) : BRow w (some ⟨b, 0, none⟩) l := by
  refine .inr ⟨b, 0, rfl, h.lt, fun i x hx j v hv => ?_⟩
  have hi : i < l.length := (List.getElem?_eq_some_iff.1 hx).1
  match j, hv with
  | 0, hv =>
    simp [encB] at hv; subst hv
    have := h.cell hi
    rw [List.getD_eq_getElem?_getD, hx] at this
    simpa using this
  | (j + 1), hv => simp [encB] at hv
/-- what Reach answers -/
structure ReachAns (n : Net) (f : List Int) (x : Int) (w : World) (ao : Option Addr) (M : List Bool) : Prop where
  bad : reE n f x ≠ 0 → M = []
  good : reE n f x = 0 → IsReach n f x M ∧ ∃ b, ao = some ⟨b, 0, none⟩ ∧ BBox w b M
theorem ReachAns.brow {n : Net} {f : List Int} {x : Int} {w : World} {ao : Option Addr} {M : List Bool} (h : ReachAns n f x w ao M) : BRow w ao M := by
  by_cases e : reE n f x = 0
  · obtain ⟨_, b, rfl, hb⟩ := h.good e
    exact hb.brow
  · exact .inl (h.bad e)
theorem reE_ok {n : Net} {f : List Int} {x : Int} (h : reE n f x = 0) : chkF n f = 0 ∧ 1 ≤ x := by
  unfold reE at h
  by_cases c : chkF n f = 0
  · rw [if_neg (by simpa using c)] at h
    by_cases d : x < 1
    · rw [if_pos d] at h; cases h
    · exact ⟨c, by omega⟩
  · rw [if_pos c] at h; exact absurd h c
theorem ReachAns.same {n : Net} {f : List Int} {x : Int} {w1 w2 : World} {a1 a2 : Option Addr} {M1 M2 : List Bool} (h1 : ReachAns n f x w1 a1 M1) (h2 : ReachAns n f x w2 a2 M2) : M1 = M2 := by
  by_cases e : reE n f x = 0
  · exact reach_one (right_of (chkA_ok (chkF_ok (reE_ok e).1).1).1) (h1.good e).1 (h2.good e).1
  · rw [h1.bad e, h2.bad e]
theorem ReachAns.len {n : Net} {f : List Int} {x : Int} {w : World} {ao : Option Addr} {M : List Bool} (h : ReachAns n f x w ao M) : M.length ≤ 501 := by
  by_cases e : reE n f x = 0
  · have := (h.good e).1.len
    have := (right_of (chkA_ok (chkF_ok (reE_ok e).1).1).1).n1
    omega
  · rw [h.bad e]; simp
/-- what a search step by step keeps -/
structure Fix (n : Net) (f : List Int) (x : Int) (M : List Bool) : Prop where
  len : M.length = n.n.toNat + 1
  src : M.getD n.s.toNat false = true
  sound : ∀ i : Nat, M.getD i false = true → Rch n f x (i : Int)
theorem fix_start {n : Net} (hR : Right n) (f : List Int) (x : Int) : Fix n f x ((List.replicate (n.n.toNat + 1) false).set n.s.toNat true) :=
  let h := dfs_start hR f x
  ⟨h.len, h.src, h.sound⟩
theorem fix_step {n : Net} (hR : Right n) {f : List Int} {x : Int} {M : List Bool} (h : Fix n f x M) {r : Nat} (hr : r < 2 * n.l.length) (hx : x ≤ roomN n.l f r) (h1 : M.getD (trF n.l r).toNat false = true) (h2 : M.getD (trT n.l r).toNat false = false) :
    Fix n f x (M.set (trT n.l r).toNat true) ∧ unmet (M.set (trT n.l r).toNat true) + 1 = unmet M := by
  have hb := trT_bd hR hr
  have hb2 := trF_bd hR hr
  have ht : (trT n.l r).toNat < M.length := by rw [h.len]; omega
  have hg := fun j => getD_set M (trT n.l r).toNat j ht
  refine ⟨⟨by simp [h.len], by rw [hg]; split; (· rfl); (· exact h.src), fun j hj => ?_⟩, unmet_set ht h2⟩
  rw [hg] at hj
  by_cases e : j = (trT n.l r).toNat
  · have : (j : Int) = trT n.l r := by omega
    rw [this]
    refine .step hr hx ?_
    have := h.sound _ h1
    rwa [show (((trF n.l r).toNat : Nat) : Int) = trF n.l r by omega] at this
  · rw [if_neg e] at hj; exact h.sound j hj
theorem fix_end {n : Net} {f : List Int} {x : Int} {M : List Bool} (h : Fix n f x M) (hc : ∀ r, r < 2 * n.l.length → x ≤ roomN n.l f r → M.getD (trF n.l r).toNat false = true → M.getD (trT n.l r).toNat false = true) : IsReach n f x M := ⟨h.len, h.src, h.sound, hc⟩
theorem ret2w {v : Value} {a b : Int} (h : a = b) : Ending.returned (.tuple #[v, .int .i64 a]) = .returned (.tuple #[v, .int .i64 b]) := by rw [h]
theorem set_new (w : World) (c : Array Value) (t : TypeId) (i : Nat) (v : Value) : (w.alloc (.cells c t)).setCell ⟨w.heap.size, i, none⟩ v = w.alloc (.cells (c.setIfInBounds i v) t) := World.setCell_alloc_new c t i v
def BOn (b : Bool) : Nat := if b then 1 else 0
end Ne
end Go.Proofs.Ythhlfphnokdfaaa
